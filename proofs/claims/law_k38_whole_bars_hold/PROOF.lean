import PyProof.Rows.All
import Wide.All
import OpenK.AllK
import Wide.FinOn
import PyProof.EqAt
import PyProof.EqKinds
import PyProof.TupleCall
import PySem.Str
import PyProof.NeKinds
import PyProof.CompMap
import PyProof.CompFree
import PyProof.EnumMake
import PyProof.Draws
import PyProof.ListRange
import PyProof.ConsumeWalk
import PyProof.Rows.SetFrom
import PyProof.SetRoads
import PyProof.ZipIter
import PyProof.Rows.SumAny
import PyProof.Rows.SortWalk
import PyProof.Rows.SeqMore2
import PyProof.Rows.SeqMore
import PyProof.StrWalks
import PyProof.SliceStr2
import PyProof.StrBlockI
import PyProof.StrOps2
import PySem.SetOps
import KE.KDictSum
import PyProof.DictWalks
import PyProof.DictRoadsH
import PyProof.TableCode
import PySem.Challenge.RW_ribbonloft_k38_whole_bars_hold
set_option Elab.async false
set_option linter.all false
set_option maxRecDepth 100000
set_option maxHeartbeats 4000000
set_option autoImplicit true
set_option relaxedAutoImplicit true
set_option genSizeOf false
set_option genSizeOfSpec false
set_option genInjectivity false
section
local macro_rules
|`(def $d $s:optDeclSig $v:declVal)=>`(theorem $d $(Lean.TSyntax.mk (Lean.mkNode ``Lean.Parser.Command.declSig #[s.raw[0],s.raw[1][0]])):declSig $v:declVal)
|`(abbrev $d $s:optDeclSig $v:declVal)=>`(noncomputable def $d $s:optDeclSig $v:declVal)
namespace RL
open PySem (Str)
@[reducible]noncomputable def Ky:=Sum Int Str
set_option genInjectivity true in
inductive D where
 | non
 | bl (b:Bool)
 | int (i:Int)
 | str (x:Str)
 | tup (xs:List D)
 | lst (xs:List D)
 | dK (ks:List Ky) (vs:List D)
 | dT (ks:List (List Ky)) (vs:List D)
 | scr (xs:List D)
 | exc (c:Str)
 | fT (ks:List (List Ky))
 deriving Inhabited
mutual
noncomputable def D.imm:D->Bool
 | .tup xs=>au xs
 | .lst _=>false
 | .dK _ _=>false
 | .dT _ _=>false
 | .scr xs=>au xs
 | _=>true
noncomputable def au:List D->Bool
 | []=>true
 | d::r=>d.imm&&au r
end
inductive Bop where | add | sub | mul | fdiv | mod | pow
 deriving DecidableEq
inductive Cop where | lt | le | gt | ge | eq | ne
 deriving DecidableEq
inductive Bi where | len | list | tuple | int | all | any | lenSet | sorted | sortedSet | abs | sum | sortedS
 deriving DecidableEq
inductive Ty where | int | bool | list | tuple | str
 deriving DecidableEq
mutual
inductive E where
 | var (i:Nat)
 | cst (d:D)
 | glb (x:Str) (i:Int)
 | bin (o:Bop) (a b:E)
 | cmp (c:Cop) (a b:E)
 | chain (c c':Cop) (a b e:E)
 | inn (neg:Bool) (a b:E)
 | inD (neg:Bool) (a b:E)
 | and (a b:E)
 | or (a b:E)
 | not (a:E)
 | ifx (t a b:E)
 | tup (es:Es)
 | lst (es:Es)
 | ix (a b:E)
 | ixD (a b:E)
 | slT (a b:E)
 | call (f:Nat) (es:Es)
 | bi (b:Bi) (a:E)
 | isi (a:E) (t:Ty)
 | rng1 (a:E)
 | rng2 (a b:E)
 | rng3 (c:Int) (a b:E)
 | neg (a:E)
 | comp (e:E) (tg:List Nat) (it:It) (c:E)
 | compA (e:E) (tg:List Nat) (it:It)
 | dk0
 | dt0
inductive Es where
 | nil
 | cons (e:E) (es:Es)
inductive It where
 | seq (e:E)
 | rng1 (a:E)
 | rng2 (a b:E)
 | rng3 (c:Int) (a b:E)
 | chr (e:E)
 | key (e:E)
 | enm (e:E)
 | zip (a b:E)
end
mutual
inductive S where
 | asg (i:Nat) (e:E)
 | own (i:Nat) (e:E)
 | unp (is:List Nat) (e:E)
 | par (i j:Nat) (a b:E)
 | app (i:Nat) (e:E)
 | put (i:Nat) (k e:E)
 | aug (i:Nat) (o:Bop) (e:E)
 | augs (i:Nat) (e:E)
 | ife (t:E) (a b:Ss)
 | ifp (i:Nat) (e:E) (a b:Ss)
 | forr (tg:List Nat) (it:It) (b:Ss)
 | whil (t:E) (b:Ss)
 | mexc (f:Nat) (es:Es) (ps ms:List Nat)
 | tie3 (f r p w:Nat)
 | ret (e:E)
 | exc (e:E)
 | rais (c:Str) (ps:Es)
inductive Ss where
 | nil
 | cons (s:S) (r:Ss)
 | opn (j:Nat) (e:E) (r:Sq)
inductive Sq where
 | cls (r:Ss)
 | cons (s:S) (r:Sq)
 | opn (j:Nat) (e:E) (r:Sq)
 | frz (j:Nat) (r:Ss)
end
@[reducible]noncomputable def St:=List (Option D)
@[reducible]noncomputable def Cl:=Nat->List D->Option D
abbrev most:Nat:=100000
abbrev cb{α:Type}(xs:List α)(i:Int):Option α :=
 if 0<=i then xs[i.toNat]? else if -(xs.length:Int)<=i then xs[(i+xs.length).toNat]? else none
abbrev jN(n:Nat)(i:Int):Option Nat :=
 if 0<=i then(if i<n then some i.toNat else none)else if -(n:Int)<=i then some (i+n).toNat else none
abbrev cutAt(n:Nat)(i:Int):Nat:=if 0<=i then min i.toNat n else(i+n).toNat
abbrev aG:Bop->D->D->Option D
 | .add,.int a,.int b=>some (.int (a+b))
 | .add,.str a,.str b=>if a.length+b.length<=most then some (.str (a++b))else none
 | .add,.lst a,.lst b=>if a.length+b.length<=most then some (.lst (a++b))else none
 | .add,.tup a,.tup b=>if a.length+b.length<=most/\0<a.length then some (.tup (a++b))else none
 | .sub,.int a,.int b=>some (.int (a-b))
 | .mul,.int a,.int b=>if(-(2 ^ 64)<a/\a<2 ^ 64)\/(-(2 ^ 64)<b/\b<2 ^ 64)then some (.int (a*b))else none
 | .mul,.lst a,.int b=>if 0<=b/\b<=most/\a.length*b.toNat<=most then some (.lst (List.replicate b.toNat a).flatten)else none
 | .fdiv,.int a,.int b=>if 0<b/\b<2 ^ 200 then some (.int (a / b))else none
 | .mod,.int a,.int b=>if 0<b then some (.int (a%b))else none
 | .pow,.int a,.int b=>if 0<=b/\b<=1000/\a.natAbs<2 ^ 64 then some (.int (a ^ b.toNat))else none
 | _,_,_=>none
abbrev eqs(f:D->D->Option Bool):List D->List D->Option Bool
 | a::r,b::s=>(f a b).bind fun e=>(eqs f r s).map fun k=>e&&k
 | _,_=>some true
abbrev eqD:Nat->D->D->Option Bool
 | _,.int a,.int b=>some (a == b)
 | _,.str a,.str b=>some (a == b)
 | _,.bl a,.bl b=>some (a == b)
 | n+1,.tup a,.tup b=>(eqs (eqD n) a b).map fun k=>k&&a.length == b.length
 | n+1,.lst a,.lst b=>(eqs (eqD n) a b).map fun k=>k&&a.length == b.length
 | _,_,_=>none
abbrev bB:Cop->D->D->Option Bool
 | .lt,.int a,.int b=>some (decide (a<b))
 | .le,.int a,.int b=>some (decide (a<=b))
 | .gt,.int a,.int b=>some (decide (b<a))
 | .ge,.int a,.int b=>some (decide (b<=a))
 | .eq,a,b=>eqD 8 a b
 | .ne,a,b=>(eqD 8 a b).map not
 | _,_,_=>none
abbrev truth:D->Option Bool
 | .bl b=>some b
 | .lst xs=>some (!xs.isEmpty)
 | .tup xs=>some (!xs.isEmpty)
 | .int i=>some (i != 0)
 | _=>none
abbrev eC:List D->Option (List Int)
 | []=>some []
 | .int i::r=>(eC r).map (i :: ·)
 | _=>none
abbrev eg:List D->Option (List Bool)
 | []=>some []
 | .bl i::r=>(eg r).map (i :: ·)
 | _=>none
abbrev strs?:List D->Option (List Str)
 | []=>some []
 | .str i::r=>(strs? r).map (i :: ·)
 | _=>none
abbrev uS(a:Int):List Int->List Int
 | []=>[a]
 | b::r=>if a<=b then a::b::r else b::uS a r
abbrev sortI:List Int->List Int
 | []=>[]
 | a::r=>uS a (sortI r)
abbrev gS(xs:List Int):List Int:=xs.foldl (fun m k=>if m.any (· == k)then m else m++[k]) []
abbrev items:D->Option (List D)
 | .lst xs=>some xs
 | .tup xs=>some xs
 | _=>none
abbrev fO:D->Option (List D)
 | .lst xs=>some xs
 | .tup xs=>some xs
 | .str x=>some (x.cps.toList.map fun c=>.str ⟨#[c]⟩)
 | _=>none
abbrev rF:List Str->Bool
 | a::b::r=>!decide (b.cps.toList<a.cps.toList)&&rF (b::r)
 | _=>true
abbrev biV:Bi->D->Option D
 | .len,.str x=>if x.length<=most then some (.int x.length)else none
 | .len,.dK ks _=>some (.int ks.length)
 | .len,.dT ks _=>some (.int ks.length)
 | .len,d=>(items d).map fun xs=>.int xs.length
 | .list,d=>(items d).map .lst
 | .tuple,d=>(items d).map .tup
 | .int,.bl b=>some (.int (if b then 1 else 0))
 | .int,.int i=>some (.int i)
 | .int,_=>none
 | .all,.lst xs=>(eg xs).map fun bs=>.bl (bs.all id)
 | .any,.lst xs=>(eg xs).map fun bs=>.bl (bs.any id)
 | .all,_=>none
 | .any,_=>none
 | .lenSet,.lst xs=>if xs.length<=1000 then(eC xs).map fun is=>.int (gS is).length else none
 | .lenSet,_=>none
 | .sorted,.lst xs=>if xs.length<64 then(eC xs).map fun is=>.lst ((sortI is).map .int)else none
 | .sorted,_=>none
 | .sortedSet,.lst xs=>if xs.length<=4 then(eC xs).map fun is=>.lst ((sortI (gS is)).map .int)else none
 | .sortedSet,_=>none
 | .abs,.int i=>some (.int (if i<0 then -i else i))
 | .abs,_=>none
 | .sortedS,.lst xs=>(strs? xs).bind fun ss=>if rF ss then some (.lst xs)else none
 | .sortedS,_=>none
 | .sum,.lst xs=>(eC xs).map fun is=>.int is.sum
 | .sum,_=>none
abbrev vJ:Ty->D->Option Bool
 | .int,.int _=>some true
 | .int,.bl _=>some true
 | .bool,.bl _=>some true
 | .list,.lst _=>some true
 | .tuple,.tup _=>some true
 | .str,.str _=>some true
 | _,.non=>some false
 | _,.bl _=>some false
 | _,.int _=>some false
 | _,.str _=>some false
 | _,.tup _=>some false
 | _,.lst _=>some false
 | _,_=>none
abbrev keyOf:D->Option Ky
 | .int i=>some (.inl i)
 | .str x=>some (.inr x)
 | _=>none
abbrev keysOf:List D->Option (List Ky)
 | []=>some []
 | d::r=>(keyOf d).bind fun k=>(keysOf r).map (k :: ·)
abbrev aB{κ:Type} [DecidableEq κ]:List κ->List D->κ->Option D
 | k::ks,v::vs,x=>if k=x then some v else aB ks vs x
 | _,_,_=>none
abbrev putD{κ:Type} [DecidableEq κ](ks:List κ)(vs:List D)(x:κ)(d:D):List κ × List D :=
 if x∈ks then(ks,List.zipWith (fun k v=>if k=x then d else v) ks vs)else(ks++[x],vs++[d])
abbrev ixV:D->D->Option D
 | .lst xs,.int i=>cb xs i
 | .tup xs,.int i=>cb xs i
 | .str x,.int i=>if x.length<=most then(cb x.cps.toList i).map fun c=>.str ⟨#[c]⟩else none
 | _,_=>none
abbrev lG:D->D->Option D
 | .dK ks vs,k=>(keyOf k).bind (aB ks vs)
 | .dT ks vs,.tup k=>(keysOf k).bind (aB ks vs)
 | _,_=>none
abbrev JB:D->D->D->Option D
 | .dK ks vs,k,z=>(keyOf k).map fun q=>(aB ks vs q).getD z
 | .dT ks vs,.tup k,z=>(keysOf k).map fun q=>(aB ks vs q).getD z
 | _,_,_=>none
abbrev jU:D->D->Option Bool
 | .dK ks vs,k=>(keyOf k).map fun k=>(aB ks vs k).isSome
 | .dT ks vs,.tup k=>(keysOf k).map fun k=>(aB ks vs k).isSome
 | .fT ks,.tup k=>(keysOf k).map fun k=>ks.any fun x=>decide (x=k)
 | _,_=>none
abbrev flat:D->Bool
 | .int _=>true
 | .str _=>true
 | _=>false
abbrev eqF:D->D->Bool
 | .int a,.int b=>a == b
 | .str a,.str b=>a == b
 | _,_=>false
abbrev inV(a b:D):Option Bool :=
 (items b).bind fun xs=>if flat a&&xs.all flat then some (xs.any fun x=>eqF x a)else none
abbrev jH:D->D->Option D
 | .scr xs,.int k=>some (.lst (xs.take (cutAt xs.length k)))
 | .lst xs,.int k=>some (.lst (xs.take (cutAt xs.length k)))
 | .tup xs,.int k=>if cutAt xs.length k<xs.length then some (.tup (xs.take (cutAt xs.length k)))else none
 | _,_=>none
abbrev c9(lo:Int):Nat->List D
 | 0=>[]
 | n+1=>.int lo::c9 (lo+1) n
abbrev bN(c lo:Int):Nat->List D
 | 0=>[]
 | n+1=>.int lo::bN c (lo+c) n
abbrev bH(c a b:Int):Nat:=(if c > 0 then(if a<b then(b-a-1) / c+1 else 0)else(if a > b then(a-b-1) / (-c)+1 else 0)).toNat
abbrev cE:D->D->Option (List D)
 | .int a,.int b=>if(b-a).toNat<=most/\-(2 ^ 60)<=a/\a<2 ^ 60/\-(2 ^ 60)<=b/\b<2 ^ 60 then some (c9 a (b-a).toNat)else none
 | _,_=>none
abbrev kO(c:Int):D->D->Option (List D)
 | .int a,.int b=>if c≠0/\-(2 ^ 60)<c/\c<2 ^ 60/\bH c a b<=most/\-(2 ^ 60)<=a/\a<2 ^ 60/\-(2 ^ 60)<=b/\b<2 ^ 60 then some (bN c a (bH c a b))else none
 | _,_=>none
abbrev cZ(i:Int):List D->List D
 | []=>[]
 | d::r=>.tup [.int i,d]::cZ (i+1) r
abbrev fv:List D->List D->List D
 | a::r,b::s=>.tup [a,b]::fv r s
 | _,_=>[]
abbrev b8:List Nat->List D->St->Option St
 | [],[],σ=>some σ
 | i::is,d::ds,σ=>b8 is ds (σ.set i (some d))
 | _,_,_=>none
abbrev aQ(tg:List Nat)(d:D)(σ:St):Option St :=
 match tg with
 | [i]=>some (σ.set i (some d))
 | tg=>match d with
  | .tup ds=>b8 tg ds σ
  | .lst ds=>b8 tg ds σ
  | _=>none
abbrev jS(y:Option D)(ys:List D):Option (List D) :=
 match y with
 | some e=>if e.imm then some (e::ys)else none
 | none=>some ys
abbrev bT(f:St->Option (Option D))(tg:List Nat)(σ:St):List D->Option (List D)
 | []=>some []
 | d::r=>(aQ tg d σ).bind fun σ1=>(f σ1).bind fun y=>(bT f tg σ r).bind (jS y)
abbrev a8:D->Bool
 | .lst xs=>au xs
 | .dK _ vs=>au vs
 | .dT _ vs=>au vs
 | _=>false
abbrev Jy(f:St->Option D)(fr:Bool)(tg:List Nat)(σ:St):List D->Option (List D)
 | []=>some []
 | d::r=>(aQ tg d σ).bind fun σ1=>(f σ1).bind fun y=>if a8 y&&fr then(Jy f fr tg σ r).map (y :: ·)else none
abbrev fits(xs:List D):Option (List D):=if xs.length<=most then some xs else none
abbrev aE:E->Bool
 | .lst _=>true
 | .tup _=>true
 | .comp _ _ _ _=>true
 | .compA _ _ _=>true
 | .bin _ _ _=>true
 | .slT _ _=>true
 | .call _ _=>true
 | .bi _ _=>true
 | .rng1 _=>true
 | .rng2 _ _=>true
 | .rng3 _ _ _=>true
 | .dk0=>true
 | .dt0=>true
 | _=>false
abbrev Br(n c:Str):Bool:=n == c || c == "RibbonError" || c == "ValueError"
abbrev vT(y:Option D):D->Option D
 | .bl true=>y
 | .bl false=>some (.bl false)
 | _=>none
abbrev orV(y:Option D):D->Option D
 | .bl false=>y
 | .bl true=>some (.bl true)
 | _=>none
abbrev yQ:D->Option D
 | .int i=>some (.int (-i))
 | _=>none
abbrev J7:D->D->Option D
 | .str x,.str y=>match y.cps.toList with
  | [c]=>some (.int (x.cps.toList.count c:Nat))
  | _=>none
 | _,_=>none
abbrev JC:D->D->Option D
 | .str x,.int k=>if 0<=k/\x.length<=most then some (.str ⟨(x.cps.toList.take k.toNat).toArray⟩)else none
 | _,_=>none
abbrev JF:D->D->Option D
 | .str x,.int k=>if 0<=k/\x.length<=most then some (.str ⟨(x.cps.toList.drop k.toNat).toArray⟩)else none
 | _,_=>none
abbrev JA:D->D->D->D->Option D
 | .str x,y,.str z,w=>if x≠z/\y.imm=true/\w.imm=true then some (.dK [.inr x,.inr z] [y,w])else none
 | _,_,_,_=>none
abbrev J8:D->D->Option D
 | .str x,.int n=>if 1<n/\n<=1000/\0<x.length/\x.length<=100 then some (.str ⟨(List.replicate n.toNat x.cps.toList).flatten.toArray⟩)else none
 | _,_=>none
abbrev kyD:Ky->D
 | .inl i=>.int i
 | .inr x=>.str x
abbrev Fm:D->Option (List D)
 | .fT ks=>some (ks.map fun k=>.tup (k.map kyD))
 | _=>none
abbrev Jc:D->Option D
 | .dT ks _=>some (.fT ks)
 | _=>none
abbrev II:D->Option (List D)
 | .str x=>fO (.str x)
 | _=>none
@[simp] theorem sv_andt {y:Option D}:vT y (.bl true)=y:=rfl
@[simp] theorem sv_andf {y:Option D}:vT y (.bl false)=some (.bl false):=rfl
@[simp] theorem sv_ort {y:Option D}:orV y (.bl true)=some (.bl true):=rfl
@[simp] theorem sv_orf {y:Option D}:orV y (.bl false)=y:=rfl
@[simp] theorem sv_neg {i:Int}:yQ (.int i)=some (.int (-i)):=rfl
mutual
noncomputable def ev(cl:Cl)(σ:St):E->Option D
 | .var i=>(σ[i]?).bind id
 | .cst d=>some d
 | .glb _ i=>some (.int i)
 | .bin o a b=>(ev cl σ a).bind fun x=>(ev cl σ b).bind fun y=>aG o x y
 | .cmp c a b=>(ev cl σ a).bind fun x=>(ev cl σ b).bind fun y=>(bB c x y).map .bl
 | .chain c c' a b e=>(ev cl σ a).bind fun x=>(ev cl σ b).bind fun y=>(bB c x y).bind fun k=>if k then(ev cl σ e).bind fun z=>(bB c' y z).map .bl else some (.bl false)
 | .inn neg a b=>(ev cl σ a).bind fun x=>(ev cl σ b).bind fun y=>(inV x y).map fun k=>.bl (if neg then !k else k)
 | .inD neg a b=>(ev cl σ a).bind fun x=>(ev cl σ b).bind fun y=>(jU y x).map fun k=>.bl (if neg then !k else k)
 | .and a b=>(ev cl σ a).bind (vT (ev cl σ b))
 | .or a b=>(ev cl σ a).bind (orV (ev cl σ b))
 | .not a=>((ev cl σ a).bind truth).map fun k=>.bl (!k)
 | .ifx t a b=>((ev cl σ t).bind truth).bind fun k=>if k then ev cl σ a else ev cl σ b
 | .tup es=>(evs cl σ es).map .tup
 | .lst es=>(evs cl σ es).map .lst
 | .ix a b=>(ev cl σ a).bind fun x=>(ev cl σ b).bind fun y=>ixV x y
 | .ixD a b=>(ev cl σ a).bind fun x=>(ev cl σ b).bind fun y=>lG x y
 | .slT a b=>(ev cl σ a).bind fun x=>(ev cl σ b).bind fun y=>jH x y
 | .call f es=>(evs cl σ es).bind fun ds=>cl f ds
 | .bi b a=>(ev cl σ a).bind fun x=>biV b x
 | .isi a t=>(ev cl σ a).bind fun x=>(vJ t x).map .bl
 | .rng1 a=>(ev cl σ a).bind fun x=>(cE (.int 0) x).map .lst
 | .rng2 a b=>(ev cl σ a).bind fun x=>(ev cl σ b).bind fun y=>(cE x y).map .lst
 | .rng3 c a b=>(ev cl σ a).bind fun x=>(ev cl σ b).bind fun y=>(kO c x y).map .lst
 | .neg a=>(ev cl σ a).bind yQ
 | .comp e tg it c=>(bf cl σ it).bind fun ds=>(fits ds).bind fun ds=>(bT (fun σ1=>((ev cl σ1 c).bind truth).bind fun k=>if k then(ev cl σ1 e).map some else some none) tg σ ds).map .lst
 | .compA e tg it=>(bf cl σ it).bind fun ds=>(fits ds).bind fun ds=>(bT (fun σ1=>(ev cl σ1 e).map some) tg σ ds).map .lst
 | .dk0=>some (.dK [] [])
 | .dt0=>some (.dT [] [])
noncomputable def evs(cl:Cl)(σ:St):Es->Option (List D)
 | .nil=>some []
 | .cons e es=>(ev cl σ e).bind fun d=>(evs cl σ es).map (d :: ·)
noncomputable def bf(cl:Cl)(σ:St):It->Option (List D)
 | .seq e=>(ev cl σ e).bind items
 | .rng1 a=>(ev cl σ a).bind fun x=>cE (.int 0) x
 | .rng2 a b=>(ev cl σ a).bind fun x=>(ev cl σ b).bind fun y=>cE x y
 | .rng3 c a b=>(ev cl σ a).bind fun x=>(ev cl σ b).bind fun y=>kO c x y
 | .chr e=>(ev cl σ e).bind II
 | .key e=>(ev cl σ e).bind Fm
 | .enm e=>(ev cl σ e).bind fun x=>(fO x).map (cZ 0)
 | .zip a b=>(ev cl σ a).bind fun x=>(ev cl σ b).bind fun y=>(items x).bind fun xs=>(items y).bind fun ys=>if xs.length=ys.length then some (fv xs ys)else none
end
abbrev clX(cl:Cl)(f:Nat)(ds:List D):Option Str:=(cl (f+1000) ds).bind fun d=>match d with
 | .str x=>some x
 | _=>none
mutual
noncomputable def evX(cl:Cl)(σ:St):E->Option Str
 | .call f es=>match evs cl σ es with
  | some ds=>clX cl f ds
  | none=>Gw cl σ es
 | .ix a _=>evX cl σ a
 | _=>none
noncomputable def Gw(cl:Cl)(σ:St):Es->Option Str
 | .nil=>none
 | .cons e es=>match ev cl σ e with
  | some _=>Gw cl σ es
  | none=>evX cl σ e
end
abbrev written:D->Bool
 | .int i=>decide (i.natAbs<2 ^ 1900)
 | _=>false
inductive Out where
 | nx
 | rt (d:D)
abbrev avE(M:List Nat):E->Bool
 | .var j=>!M.contains j
 | .ix a _=>avE M a
 | .call _ _=>true
 | .ifx _ a b=>avE M a&&avE M b
 | _=>false
abbrev wd(M:List Nat):It->Bool
 | .seq e=>avE M e || aE e
 | .enm e=>avE M e || aE e
 | .zip a b=>(avE M a || aE a)&&(avE M b || aE b)
 | _=>true
abbrev bh(M:List Nat)(e:E)(d:D):Bool :=
 d.imm || (a8 d&&(aE e || match e with | .var i=>M.contains i | _=>false))
abbrev aN(M:List Nat)(e:E)(d:D):Bool:=d.imm || (a8 d&&aE e) || avE M e
abbrev isVar:E->Bool
 | .var _=>true
 | _=>false
abbrev dA(M ps:List Nat):Nat->Es->List D->Bool
 | _,.nil,[]=>true
 | q,.cons e es,d::ds=>(if ps.contains q then isVar e else aN M e d)&&dA M ps (q+1) es ds
 | _,_,_=>false
abbrev dJ:D->D->D->Option D
 | .lst xs,.int k,d=>(jN xs.length k).map fun j=>.lst (xs.set j d)
 | .dK ks vs,k,d=>(keyOf k).bind fun k=>if ks.length<most then some (.dK (putD ks vs k d).1 (putD ks vs k d).2)else none
 | .dT ks vs,.tup k,d=>(keysOf k).bind fun k=>if ks.length<most then some (.dT (putD ks vs k d).1 (putD ks vs k d).2)else none
 | _,_,_=>none
abbrev aY(f:St->Option (Out × St))(tg:List Nat):List D->St->Option (Out × St)
 | [],σ=>some (.nx,σ)
 | d::r,σ=>if d.imm then(aQ tg d σ).bind fun σ1=>(f σ1).bind fun p=>match p.1 with
   | .nx=>aY f tg r p.2
   | .rt d=>some (.rt d,p.2)
  else none
abbrev whF(t:St->Option Bool)(f:St->Option (Out × St)):Nat->St->Option (Out × St)
 | 0,_=>none
 | n+1,σ=>(t σ).bind fun k=>if k then(f σ).bind fun p=>match p.1 with
   | .nx=>whF t f n p.2
   | .rt d=>some (.rt d,p.2)
  else some (.nx,σ)
abbrev AM(f:St->Option (Out × St))(fx:St->Option (Str × St))(tg:List Nat):List D->St->Option (Str × St)
 | [],_=>none
 | d::r,σ=>if d.imm then(aQ tg d σ).bind fun σ1=>match f σ1 with
   | some p=>match p.1 with
    | .nx=>AM f fx tg r p.2
    | .rt _=>none
   | none=>fx σ1
  else none
abbrev IG:D->Option (D × D)
 | .lst xs=>(xs[xs.length-1]?).map fun d=>(d,.lst xs.dropLast)
 | _=>none
abbrev JD:D->Option D
 | .lst xs=>some (.lst xs.reverse)
 | _=>none
abbrev Ht(σ:St)(r w:Nat)(l:D):D->Option (Out × St)
 | .tup [_,R]=>some (.nx,(σ.set w (some l)).set r (some R))
 | _=>none
abbrev GL:D->D->Option D
 | .str a,.str b=>if a.length+b.length<=most then some (.str (a++b))else none
 | _,_=>none
mutual
noncomputable def evS(cl:Cl)(M:List Nat):S->St->Option (Out × St)
 | .asg i e,σ=>(ev cl σ e).bind fun d=>if aN M e d then some (.nx,σ.set i (some d))else none
 | .own i e,σ=>(ev cl σ e).bind fun d=>if a8 d&&aE e then some (.nx,σ.set i (some d))else none
 | .unp is e,σ=>(ev cl σ e).bind fun d=>(items d).bind fun ds=>if au ds then(b8 is ds σ).map fun σ1=>(.nx,σ1)else none
 | .par i j a b,σ=>(ev cl σ a).bind fun x=>(ev cl σ b).bind fun y=>if x.imm&&y.imm then some (.nx,(σ.set i (some x)).set j (some y))else none
 | .app i e,σ=>(ev cl σ e).bind fun d=>((σ[i]?).bind id).bind fun l=>match l with
  | .lst xs=>if d.imm&&decide (xs.length<most)then some (.nx,σ.set i (some (.lst (xs++[d]))))else none
  | _=>none
 | .put i k e,σ=>(ev cl σ e).bind fun d=>(ev cl σ k).bind fun kk=>((σ[i]?).bind id).bind fun l=>if d.imm then(dJ l kk d).map fun l'=>(.nx,σ.set i (some l'))else none
 | .aug i o e,σ=>((σ[i]?).bind id).bind fun x=>(ev cl σ e).bind fun y=>match x,y with
  | .int a,.int b=>(aG o (.int a) (.int b)).map fun z=>(.nx,σ.set i (some z))
  | _,_=>none
 | .augs i e,σ=>((σ[i]?).bind id).bind fun x=>(ev cl σ e).bind fun y=>(GL x y).map fun z=>(.nx,σ.set i (some z))
 | .ife t a b,σ=>((ev cl σ t).bind truth).bind fun k=>if k then ah cl M a σ else ah cl M b σ
 | .ifp i e a b,σ=>((σ[i]?).bind id).bind fun l=>match l with
  | .lst xs=>(xs[xs.length-1]?).bind fun d=>(ev cl (σ.set i (some (.lst xs.dropLast))) e).bind fun y=>match d,y with
   | .int p,.int q=>if decide (p=q)then ah cl M b (σ.set i (some (.lst xs.dropLast)))else ah cl M a (σ.set i (some (.lst xs.dropLast)))
   | _,_=>none
  | _=>none
 | .forr tg it b,σ=>(bf cl σ it).bind fun ds=>aY (ah cl M b) tg ds σ
 | .whil t b,σ=>whF (fun σ=>(ev cl σ t).bind truth) (ah cl M b) most σ
 | .mexc f es ps ms,σ=>(evs cl σ es).bind fun ds=>if dA M ps 0 es ds then(cl f ds).bind fun r=>match r with
  | .tup (_::outs)=>(b8 ms outs σ).map fun σ1=>(.nx,σ1)
  | _=>none
  else none
 | .tie3 f r p w,σ=>((σ[r]?).bind id).bind fun R=>((σ[p]?).bind id).bind fun x=>((σ[w]?).bind id).bind fun l=>(IG l).bind fun q=>if x.imm then(cl f [R,x,q.1]).bind (Ht σ r w q.2)else none
 | .ret e,σ=>(ev cl σ e).bind fun d=>if bh M e d then some (.rt d,σ)else none
 | .exc e,σ=>(ev cl σ e).map fun _=>(.nx,σ)
 | .rais _ _,_=>none
noncomputable def ah(cl:Cl)(M:List Nat):Ss->St->Option (Out × St)
 | .nil,σ=>some (.nx,σ)
 | .cons s r,σ=>(evS cl M s σ).bind fun p=>match p.1 with
  | .nx=>ah cl M r p.2
  | .rt d=>some (.rt d,p.2)
 | .opn j e r,σ=>(ev cl σ e).bind fun d=>if a8 d&&aE e then kj cl M (j::M) r (σ.set j (some d))else none
noncomputable def kj(cl:Cl)(M:List Nat):List Nat->Sq->St->Option (Out × St)
 | _,.cls r,σ=>ah cl M r σ
 | M1,.cons s r,σ=>(evS cl M1 s σ).bind fun p=>match p.1 with
  | .nx=>kj cl M M1 r p.2
  | .rt _=>none
 | M1,.opn j e r,σ=>(ev cl σ e).bind fun d=>if a8 d&&aE e then kj cl M (j::M1) r (σ.set j (some d))else none
 | _,.frz j r,σ=>(((σ[j]?).bind id).bind Jc).bind fun d=>ah cl M r (σ.set j (some d))
noncomputable def J5(cl:Cl)(M:List Nat):S->St->Option (Str × St)
 | .asg _ e,σ=>(evX cl σ e).map fun x=>(x,σ)
 | .own _ e,σ=>(evX cl σ e).map fun x=>(x,σ)
 | .unp _ e,σ=>(evX cl σ e).map fun x=>(x,σ)
 | .exc e,σ=>(evX cl σ e).map fun x=>(x,σ)
 | .ret e,σ=>(evX cl σ e).map fun x=>(x,σ)
 | .ife t a b,σ=>((ev cl σ t).bind truth).bind fun k=>if k then mP cl M a σ else mP cl M b σ
 | .forr tg it b,σ=>(bf cl σ it).bind fun ds=>AM (ah cl M b) (mP cl M b) tg ds σ
 | .rais c ps,σ=>(evs cl σ ps).bind fun ds=>if ds.all written then some (c,σ)else none
 | _,_=>none
noncomputable def mP(cl:Cl)(M:List Nat):Ss->St->Option (Str × St)
 | .nil,_=>none
 | .cons s r,σ=>match evS cl M s σ with
  | some p=>match p.1 with
   | .nx=>mP cl M r p.2
   | .rt _=>none
  | none=>J5 cl M s σ
 | .opn _ _ _,_=>none
end
def aR:ev cl σ (.var i)=((σ[i]?).bind id):=rfl
def d5:ev cl σ (.cst d)=(some d):=rfl
def Hr:ev cl σ (.glb y1 i)=(some (.int i)):=rfl
def eF:ev cl σ (.bin o a b)=((ev cl σ a).bind fun x=>(ev cl σ b).bind fun y=>aG o x y):=rfl
def cz:ev cl σ (.cmp c a b)=((ev cl σ a).bind fun x=>(ev cl σ b).bind fun y=>(bB c x y).map .bl):=rfl
def pe:ev cl σ (.chain c c' a b e)=((ev cl σ a).bind fun x=>(ev cl σ b).bind fun y=>(bB c x y).bind fun k=>if k then(ev cl σ e).bind fun z=>(bB c' y z).map .bl else some (.bl false)):=rfl
def HN:ev cl σ (.inn neg a b)=((ev cl σ a).bind fun x=>(ev cl σ b).bind fun y=>(inV x y).map fun k=>.bl (if neg then !k else k)):=rfl
def qh:ev cl σ (.inD neg a b)=((ev cl σ a).bind fun x=>(ev cl σ b).bind fun y=>(jU y x).map fun k=>.bl (if neg then !k else k)):=rfl
def mm:ev cl σ (.and a b)=((ev cl σ a).bind (vT (ev cl σ b))):=rfl
def Ep:ev cl σ (.or a b)=((ev cl σ a).bind (orV (ev cl σ b))):=rfl
def qp:ev cl σ (.not a)=(((ev cl σ a).bind truth).map fun k=>.bl (!k)):=rfl
def v8:ev cl σ (.ifx t a b)=(((ev cl σ t).bind truth).bind fun k=>if k then ev cl σ a else ev cl σ b):=rfl
def gd:ev cl σ (.tup es)=((evs cl σ es).map .tup):=rfl
def kU:ev cl σ (.lst es)=((evs cl σ es).map .lst):=rfl
def om:ev cl σ (.ix a b)=((ev cl σ a).bind fun x=>(ev cl σ b).bind fun y=>ixV x y):=rfl
def vf:ev cl σ (.ixD a b)=((ev cl σ a).bind fun x=>(ev cl σ b).bind fun y=>lG x y):=rfl
def AV:ev cl σ (.slT a b)=((ev cl σ a).bind fun x=>(ev cl σ b).bind fun y=>jH x y):=rfl
def c7:ev cl σ (.call f es)=((evs cl σ es).bind fun ds=>cl f ds):=rfl
def iQ:ev cl σ (.bi b a)=((ev cl σ a).bind fun x=>biV b x):=rfl
def HD:ev cl σ (.isi a t)=((ev cl σ a).bind fun x=>(vJ t x).map .bl):=rfl
def xY:ev cl σ (.rng1 a)=((ev cl σ a).bind fun x=>(cE (.int 0) x).map .lst):=rfl
def wY:ev cl σ (.rng2 a b)=((ev cl σ a).bind fun x=>(ev cl σ b).bind fun y=>(cE x y).map .lst):=rfl
def Hk:ev cl σ (.neg a)=((ev cl σ a).bind yQ):=rfl
def jI:ev cl σ (.comp e tg it c)=((bf cl σ it).bind fun ds=>(fits ds).bind fun ds=>(bT (fun σ1=>((ev cl σ1 c).bind truth).bind fun k=>if k then(ev cl σ1 e).map some else some none) tg σ ds).map .lst):=rfl
def tV:ev cl σ (.compA e tg it)=((bf cl σ it).bind fun ds=>(fits ds).bind fun ds=>(bT (fun σ1=>(ev cl σ1 e).map some) tg σ ds).map .lst):=rfl
def HJ:ev cl σ (.dk0)=(some (.dK [] [])):=rfl
def HL:ev cl σ (.dt0)=(some (.dT [] [])):=rfl
def fC:evS cl M (.asg i e) σ=((ev cl σ e).bind fun d=>if aN M e d then some (.nx,σ.set i (some d))else none):=rfl
def qk:evS cl M (.own i e) σ=((ev cl σ e).bind fun d=>if a8 d&&aE e then some (.nx,σ.set i (some d))else none):=rfl
def GV:evS cl M (.unp is e) σ=((ev cl σ e).bind fun d=>(items d).bind fun ds=>if au ds then(b8 is ds σ).map fun σ1=>(.nx,σ1)else none):=rfl
def GW:evS cl M (.par i j a b) σ=((ev cl σ a).bind fun x=>(ev cl σ b).bind fun y=>if x.imm&&y.imm then some (.nx,(σ.set i (some x)).set j (some y))else none):=rfl
def vN:evS cl M (.app i e) σ=((ev cl σ e).bind fun d=>((σ[i]?).bind id).bind fun l=>match l with
  | .lst xs=>if d.imm&&decide (xs.length<most)then some (.nx,σ.set i (some (.lst (xs++[d]))))else none
  | _=>none):=rfl
def kz:evS cl M (.put i k e) σ=((ev cl σ e).bind fun d=>(ev cl σ k).bind fun kk=>((σ[i]?).bind id).bind fun l=>if d.imm then(dJ l kk d).map fun l'=>(.nx,σ.set i (some l'))else none):=rfl
def HS:evS cl M (.aug i o e) σ=(((σ[i]?).bind id).bind fun x=>(ev cl σ e).bind fun y=>match x,y with
  | .int a,.int b=>(aG o (.int a) (.int b)).map fun z=>(.nx,σ.set i (some z))
  | _,_=>none):=rfl
def f7:evS cl M (.ife t a b) σ=(((ev cl σ t).bind truth).bind fun k=>if k then ah cl M a σ else ah cl M b σ):=rfl
def GR:evS cl M (.ifp i e a b) σ=(((σ[i]?).bind id).bind fun l=>match l with
  | .lst xs=>(xs[xs.length-1]?).bind fun d=>(ev cl (σ.set i (some (.lst xs.dropLast))) e).bind fun y=>match d,y with
   | .int p,.int q=>if decide (p=q)then ah cl M b (σ.set i (some (.lst xs.dropLast)))else ah cl M a (σ.set i (some (.lst xs.dropLast)))
   | _,_=>none
  | _=>none):=rfl
def gO:evS cl M (.forr tg it b) σ=((bf cl σ it).bind fun ds=>aY (ah cl M b) tg ds σ):=rfl
def DA:evS cl M (.whil t b) σ=(whF (fun σ=>(ev cl σ t).bind truth) (ah cl M b) most σ):=rfl
def DV:evS cl M (.mexc f es ps ms) σ=((evs cl σ es).bind fun ds=>if dA M ps 0 es ds then(cl f ds).bind fun r=>match r with
  | .tup (_::outs)=>(b8 ms outs σ).map fun σ1=>(.nx,σ1)
  | _=>none
  else none):=rfl
def dz:evS cl M (.ret e) σ=((ev cl σ e).bind fun d=>if bh M e d then some (.rt d,σ)else none):=rfl
def nh:evS cl M (.exc e) σ=((ev cl σ e).map fun _=>(.nx,σ)):=rfl
def xP:evS cl M (.rais y1 y2) σ=(none):=rfl
def Jr:aG .add (.lst a) (.lst b)=(if a.length+b.length<=most then some (.lst (a++b))else none):=rfl
def zq:aG .mul (.int a) (.int b)=(if(-(2 ^ 64)<a/\a<2 ^ 64)\/(-(2 ^ 64)<b/\b<2 ^ 64)then some (.int (a*b))else none):=rfl
def G0:aG .mul (.lst a) (.int b)=(if 0<=b/\b<=most/\a.length*b.toNat<=most then some (.lst (List.replicate b.toNat a).flatten)else none):=rfl
def Jz:aG .fdiv (.int a) (.int b)=(if 0<b/\b<2 ^ 200 then some (.int (a / b))else none):=rfl
def IC:aG .mod (.int a) (.int b)=(if 0<b then some (.int (a%b))else none):=rfl
def EO:bB .ge (.int a) (.int b)=(some (decide (b<=a))):=rfl
def Dw:bB .eq a b=(eqD 8 a b):=rfl
def Gh:dJ (.lst xs) (.int k) d=((jN xs.length k).map fun j=>.lst (xs.set j d)):=rfl
def FD:dJ (.dK ks vs) k d=((keyOf k).bind fun k=>if ks.length<most then some (.dK (putD ks vs k d).1 (putD ks vs k d).2)else none):=rfl
def Fh:dJ (.dT ks vs) (.tup k) d=((keysOf k).bind fun k=>if ks.length<most then some (.dT (putD ks vs k d).1 (putD ks vs k d).2)else none):=rfl
def jm:aQ [i] d σ=some (σ.set i (some d)):=rfl
def vE:aQ (a::b::t) (.tup ds) σ=b8 (a::b::t) ds σ:=rfl
def uZ:b8 [] [] σ=some σ:=rfl
def vn:b8 (i::is) (d::ds) σ=b8 is ds (σ.set i (some d)):=rfl
def DL:eqD n (.int a) (.int b)=some (a == b):=by cases n<;>rfl
def G8:eqD n (.str a) (.str b)=some (a == b):=by cases n<;>rfl
def Ex:eqD n (.bl a) (.bl b)=some (a == b):=by cases n<;>rfl
def Il:biV .len (.lst xs)=some (.int xs.length):=rfl
def AQ:biV .len (.tup xs)=some (.int xs.length):=rfl
def IS:biV .list d=(items d).map .lst:=rfl
def zF:biV .tuple d=(items d).map .tup:=rfl
def EZ:biV .int (.bl b)=some (.int (if b then 1 else 0)):=rfl
def AW:biV .lenSet (.lst xs)=if xs.length<=1000 then(eC xs).map fun is=>.int (gS is).length else none:=rfl
def GS:biV .len (.str x)=if x.length<=most then some (.int x.length)else none:=rfl
def HV:biV .sortedS (.lst xs)=(strs? xs).bind fun ss=>if rF ss then some (.lst xs)else none:=rfl
def IV:avE M (.call f es)=true:=rfl
def Fy:avE M (.ifx t a b)=(avE M a&&avE M b):=rfl
def vX:avE M (.var j)=!M.contains j:=rfl
set_option autoImplicit false
structure Fn where
 ps:Nat
 nn:Nat
 M:List Nat
 mp:List Nat
 body:Ss
abbrev eI(σ:St):List Nat->Option (List D)
 | []=>some []
 | i::is=>((σ[i]?).bind id).bind fun d=>(eI σ is).map (d :: ·)
abbrev aW(fn:Fn)(d:D)(σ:St):Option D :=
 if fn.mp.isEmpty then some d else if d.imm then(eI σ fn.mp).map fun os=>.tup (d::os)else none
abbrev aq(T:List Fn):Nat->Cl
 | 0,_,_=>none
 | n+1,f,ds=>match T[f]? with
  | some fn=>if ds.length=fn.ps then(ah (aq T n) fn.M fn.body (ds.map some++List.replicate (fn.nn-fn.ps) none)).bind fun p=>match p.1 with
   | .nx=>aW fn .non p.2
   | .rt d=>aW fn d p.2
   else none
  | none=>(T[f-1000]?).bind fun fn=>if ds.length=fn.ps/\fn.mp=[]then(mP (aq T n) fn.M fn.body (ds.map some++List.replicate (fn.nn-fn.ps) none)).map fun p=>.str p.1 else none
end RL
namespace RT
open RL
abbrev i4:Fn :=
 ⟨1,1,[],[],(.cons (.ret (.and (.isi (.var 0) .int) (.not (.isi (.var 0) .bool)))) .nil)⟩
abbrev d3(f_is_number:Nat):Fn :=
 ⟨1,1,[],[],(.cons (.ret (.and (.call f_is_number (.cons (.var 0) .nil)) (.chain .le .le (.cst (.int 1)) (.var 0) (.glb "MOST_PEGS" 10)))) .nil)⟩
abbrev bJ(f_is_peg_count:Nat):Fn :=
 ⟨1,1,[],[],(.cons (.ife (.not (.call f_is_peg_count (.cons (.var 0) .nil))) (.cons (.rais "BadPegs" (.cons (.glb "MOST_PEGS" 10) .nil)) .nil) .nil) .nil)⟩
abbrev qg:Fn :=
 ⟨3,3,[0,0],[0],(.cons (.put 0 (.var 1) (.var 2)) (.cons (.put 0 (.var 2) (.var 1)) .nil))⟩
abbrev jM:Fn :=
 ⟨1,1,[],[],(.cons (.ret (.bin .fdiv (.bi .len (.var 0)) (.cst (.int 2)))) .nil)⟩
abbrev dX(f_check_pegs:Nat):Fn :=
 ⟨1,1,[],[],(.cons (.exc (.call f_check_pegs (.cons (.var 0) .nil))) (.cons (.ret (.bi .tuple (.bin .add (.rng2 (.var 0) (.bin .mul (.cst (.int 2)) (.var 0))) (.rng1 (.var 0))))) .nil))⟩
abbrev j1:Fn :=
 ⟨1,3,[],[],(.cons (.asg 1 (.bin .mod (.bin .add (.bin .mul (.var 0) (.cst (.int 48271))) (.cst (.int 11))) (.cst (.int 2147483647)))) (.cons (.asg 2 (.bin .mod (.bin .add (.bin .add (.bin .mul (.var 1) (.var 1)) (.bin .mul (.cst (.int 40692)) (.var 1))) (.var 0)) (.cst (.int 2147483399)))) (.cons (.ret (.bin .mod (.bin .add (.bin .add (.bin .mul (.var 2) (.var 2)) (.bin .mul (.cst (.int 69621)) (.var 2))) (.var 1)) (.cst (.int 2147483563)))) .nil)))⟩
abbrev iO(f_law_mix:Nat):Ss :=
 (.cons (.asg 3 (.bin .add (.bin .mul (.var 3) (.cst (.int 2147483563))) (.call f_law_mix (.cons (.bin .add (.bin .add (.var 2) (.bin .mul (.cst (.int 1009)) (.var 1))) (.bin .mul (.cst (.int 7919)) (.var 4))) .nil)))) .nil)
abbrev jY(f_law_mix:Nat):Fn :=
 ⟨2,5,[],[],(.cons (.asg 2 (.bin .add (.bin .mul (.cst (.int 7)) (.var 1)) (.cst (.int 3)))) (.cons (.ife (.cmp .gt (.bi .len (.var 0)) (.cst (.int 0))) (.cons (.asg 2 (.bin .add (.ix (.var 0) (.bin .mod (.var 1) (.bi .len (.var 0)))) (.bin .mul (.cst (.int 9973)) (.bin .fdiv (.var 1) (.bi .len (.var 0)))))) .nil) .nil) (.cons (.ife (.and (.cmp .lt (.var 1) (.bi .len (.var 0))) (.cmp .ge (.var 2) (.bin .pow (.cst (.int 10)) (.cst (.int 18))))) (.cons (.ret (.bin .sub (.var 2) (.bin .pow (.cst (.int 10)) (.cst (.int 18))))) .nil) .nil) (.cons (.asg 3 (.cst (.int 0))) (.cons (.forr [4] (.rng1 (.cst (.int 40))) (iO f_law_mix)) (.cons (.ret (.var 3)) .nil))))))⟩
abbrev fW(f_law_raw:Nat):Ss :=
 (.cons (.app 4 (.bin .mod (.var 3) (.var 5))) (.cons (.asg 3 (.bin .fdiv (.var 3) (.var 5))) .nil))
abbrev eQ(f_law_raw:Nat):Fn :=
 ⟨3,6,[4],[],(.cons (.asg 3 (.call f_law_raw (.cons (.var 0) (.cons (.var 1) .nil)))) (.cons (.own 4 (.lst .nil)) (.cons (.forr [5] (.seq (.var 2)) (fW f_law_raw)) (.cons (.ret (.var 4)) .nil))))⟩
abbrev eD(f_names_back:Nat):Fn :=
 ⟨1,2,[],[],(.cons (.ret (.and (.isi (.var 0) .tuple) (.bi .all (.compA (.call f_names_back (.cons (.var 0) (.cons (.var 1) .nil))) [1] (.rng1 (.bi .len (.var 0))))))) .nil)⟩
abbrev eO(f_is_number:Nat):Fn :=
 ⟨2,3,[],[],(.cons (.asg 2 (.ix (.var 0) (.var 1))) (.cons (.ret (.and (.call f_is_number (.cons (.var 2) .nil)) (.and (.chain .le .lt (.cst (.int 0)) (.var 2) (.bi .len (.var 0))) (.cmp .eq (.ix (.var 0) (.var 2)) (.var 1))))) .nil))⟩
abbrev bG:Ss :=
 (.cons (.ife (.cmp .gt (.var 3) (.var 2)) (.cons (.app 1 (.var 2)) .nil) (.cons (.ife (.cmp .eq (.var 3) (.var 2)) (.cons (.ife (.var 1) (.cons (.ret (.cst (.bl false))) .nil) .nil) .nil) (.cons (.ifp 1 (.var 3) (.cons (.ret (.cst (.bl false))) .nil) .nil) .nil)) .nil)) .nil)
abbrev d4:Fn :=
 ⟨1,4,[1],[],(.cons (.own 1 (.lst .nil)) (.cons (.forr [2,3] (.enm (.var 0)) (bG)) (.cons (.ret (.cst (.bl true))) .nil)))⟩
abbrev gc(f_is_uncrossed f_in_round f_is_pairing f_is_peg_count f_pegs_of:Nat):Fn :=
 ⟨1,5,[],[],(.cons (.asg 1 (.call f_pegs_of (.cons (.var 0) .nil))) (.cons (.ife (.or (.cmp .ne (.bi .len (.var 0)) (.bin .mul (.cst (.int 2)) (.var 1))) (.or (.not (.call f_is_peg_count (.cons (.var 1) .nil))) (.not (.call f_is_pairing (.cons (.var 0) .nil))))) (.cons (.ret (.cst (.bl false))) .nil) .nil) (.cons (.asg 2 (.comp (.var 3) [3,4] (.enm (.var 0)) (.cmp .eq (.var 3) (.var 4)))) (.cons (.ret (.and (.not (.var 2)) (.call f_is_uncrossed (.cons (.call f_in_round (.cons (.var 0) .nil)) .nil)))) .nil))))⟩
abbrev dD(f_is_frame:Nat):Fn :=
 ⟨1,1,[],[],(.cons (.ife (.not (.call f_is_frame (.cons (.var 0) .nil))) (.cons (.rais "BadFrame" .nil) .nil) .nil) .nil)⟩
abbrev hJ(f_pegs_of f_check_frame:Nat):Fn :=
 ⟨1,3,[],[],(.cons (.exc (.call f_check_frame (.cons (.var 0) .nil))) (.cons (.asg 1 (.call f_pegs_of (.cons (.var 0) .nil))) (.cons (.ret (.bi .len (.comp (.var 2) [2] (.seq (.slT (.var 0) (.var 1))) (.cmp .ge (.var 2) (.var 1))))) .nil)))⟩
abbrev iI(f_check_frame:Nat):Fn :=
 ⟨1,3,[],[],(.cons (.exc (.call f_check_frame (.cons (.var 0) .nil))) (.cons (.ret (.comp (.tup (.cons (.var 1) (.cons (.var 2) .nil))) [1,2] (.enm (.var 0)) (.cmp .lt (.var 1) (.var 2)))) .nil))⟩
abbrev cP:Fn :=
 ⟨2,2,[],[],(.cons (.ret (.ifx (.cmp .lt (.var 1) (.var 0)) (.var 1) (.bin .sub (.bin .sub (.bin .mul (.cst (.int 3)) (.var 0)) (.cst (.int 1))) (.var 1)))) .nil)⟩
abbrev eN(f_moved f_round_place f_pegs_of:Nat):Fn :=
 ⟨1,3,[],[],(.cons (.asg 1 (.call f_pegs_of (.cons (.var 0) .nil))) (.cons (.ret (.call f_moved (.cons (.var 0) (.cons (.compA (.call f_round_place (.cons (.var 1) (.cons (.var 2) .nil))) [2] (.rng1 (.bin .mul (.cst (.int 2)) (.var 1)))) .nil)))) .nil))⟩
abbrev mj:Ss :=
 (.cons (.put 2 (.ix (.var 1) (.var 3)) (.ix (.var 1) (.var 4))) .nil)
abbrev i8:Fn :=
 ⟨2,5,[2],[],(.cons (.own 2 (.bin .mul (.lst (.cons (.cst (.int 0)) .nil)) (.bi .len (.var 0)))) (.cons (.forr [3,4] (.enm (.var 0)) (mj)) (.cons (.ret (.bi .tuple (.var 2))) .nil)))⟩
abbrev da:Ss :=
 (.cons (.ife (.cmp .eq (.ixD (.var 4) (.var 7)) (.var 9)) (.cons (.put 4 (.var 7) (.var 8)) .nil) .nil) .nil)
abbrev eL:Ss :=
 (.cons (.par 8 9 (.ixD (.var 4) (.var 5)) (.ixD (.var 4) (.var 6))) (.cons (.forr [7] (.seq (.var 2)) (da)) .nil))
abbrev ig:Ss :=
 (.cons (.forr [6] (.seq (.tup (.cons (.ix (.var 1) (.var 5)) (.cons (.bin .sub (.ix (.var 0) (.bin .add (.var 3) (.var 5))) (.var 3)) .nil)))) (eL)) .nil)
abbrev hW:Ss :=
 (.cons (.put 4 (.var 5) (.var 5)) .nil)
abbrev eT:Fn :=
 ⟨3,10,[4],[],(.cons (.asg 3 (.bin .fdiv (.bi .len (.var 0)) (.cst (.int 2)))) (.cons (.own 4 .dk0) (.cons (.forr [5] (.seq (.var 2)) (hW)) (.cons (.forr [5] (.seq (.var 2)) (ig)) (.cons (.ret (.bi .lenSet (.compA (.ixD (.var 4) (.var 5)) [5] (.seq (.var 2))))) .nil)))))⟩
abbrev cU(f_law_rings_by:Nat):Ss :=
 (.cons (.ife (.cmp .eq (.cmp .eq (.ix (.var 7) (.cst (.int 0))) (.cst (.str "high"))) (.cmp .ge (.ix (.var 7) (.cst (.int 1))) (.var 2))) (.cons (.put 6 (.bin .mod (.ix (.var 7) (.cst (.int 1))) (.var 2)) (.cst (.bl true))) (.cons (.asg 7 (.ixD (.var 3) (.tup (.cons (.ix (.lst (.cons (.cst (.str "high")) (.cons (.cst (.str "low")) .nil))) (.bi .int (.cmp .eq (.ix (.var 7) (.cst (.int 0))) (.cst (.str "high"))))) (.cons (.bin .mod (.bin .add (.ix (.var 7) (.cst (.int 1))) (.var 2)) (.bin .mul (.cst (.int 2)) (.var 2))) .nil))))) .nil)) .nil) .nil)
abbrev fB(f_law_rings_by:Nat):Ss :=
 (.cons (.asg 7 (.ixD (.var 3) (.tup (.cons (.ix (.lst (.cons (.cst (.str "high")) (.cons (.cst (.str "low")) .nil))) (.bi .int (.cmp .ge (.var 4) (.var 2)))) (.cons (.var 4) .nil))))) (.cons (.forr [8] (.rng1 (.bin .mul (.cst (.int 4)) (.var 2))) (cU f_law_rings_by)) (.cons (.app 5 (.ix (.var 7) (.cst (.int 1)))) .nil)))
abbrev fE(f_law_rings_by:Nat):Ss :=
 (.cons (.put 3 (.tup (.cons (.cst (.str "high")) (.cons (.var 4) .nil))) (.tup (.cons (.cst (.str "high")) (.cons (.ix (.var 0) (.var 4)) .nil)))) (.cons (.put 3 (.tup (.cons (.cst (.str "low")) (.cons (.var 4) .nil))) (.tup (.cons (.cst (.str "low")) (.cons (.ix (.var 1) (.var 4)) .nil)))) .nil))
abbrev fZ(f_law_rings_by:Nat):Fn :=
 ⟨2,9,[3,5,6],[],(.cons (.asg 2 (.bin .fdiv (.bi .len (.var 0)) (.cst (.int 2)))) (.cons (.own 3 .dt0) (.cons (.forr [4] (.rng1 (.bin .mul (.cst (.int 2)) (.var 2))) (fE f_law_rings_by)) (.cons (.own 5 (.lst .nil)) (.cons (.own 6 .dk0) (.cons (.forr [4] (.rng1 (.bin .mul (.cst (.int 2)) (.var 2))) (fB f_law_rings_by)) (.cons (.ret (.tup (.cons (.bi .tuple (.var 5)) (.cons (.call f_law_rings_by (.cons (.var 0) (.cons (.var 1) (.cons (.comp (.var 4) [4] (.rng1 (.var 2)) (.inD true (.var 4) (.var 6))) .nil)))) .nil)))) .nil)))))))⟩
abbrev gQ(f_moved f_plain f_pegs_of f_check_frame:Nat):Fn :=
 ⟨1,1,[],[],(.cons (.exc (.call f_check_frame (.cons (.var 0) .nil))) (.cons (.ret (.call f_moved (.cons (.var 0) (.cons (.call f_plain (.cons (.call f_pegs_of (.cons (.var 0) .nil)) .nil)) .nil)))) .nil))⟩
abbrev yH:Ss :=
 (.cons (.app 3 (.var 4)) (.cons (.asg 5 (.ifx (.cmp .eq (.bin .mod (.bi .len (.var 3)) (.cst (.int 2))) (.cst (.int 0))) (.var 0) (.var 1))) (.cons (.asg 4 (.ix (.var 5) (.var 4))) .nil)))
abbrev qq:Fn :=
 ⟨3,6,[3],[],(.cons (.own 3 (.lst (.cons (.var 2) .nil))) (.cons (.asg 4 (.ix (.var 1) (.var 2))) (.cons (.whil (.inn true (.var 4) (.tup (.cons (.ix (.var 3) (.neg (.cst (.int 1)))) (.cons (.var 2) .nil)))) (yH)) (.cons (.ret (.var 3)) .nil))))⟩
abbrev iw(f_mark f_run:Nat):Ss :=
 (.cons (.ife (.not (.ix (.var 2) (.var 3))) (.cons (.aug 4 .add (.cst (.int 1))) (.cons (.mexc f_mark (.cons (.var 2) (.cons (.call f_run (.cons (.var 0) (.cons (.var 1) (.cons (.var 3) .nil)))) .nil)) [0] [2]) .nil)) .nil) .nil)
abbrev i5(f_mark f_run:Nat):Ss :=
 (.cons (.ife (.cmp .eq (.ix (.var 0) (.var 3)) (.var 3)) (.cons (.mexc f_mark (.cons (.var 2) (.cons (.call f_run (.cons (.var 0) (.cons (.var 1) (.cons (.var 3) .nil)))) .nil)) [0] [2]) .nil) .nil) (.cons (.ife (.cmp .eq (.ix (.var 1) (.var 3)) (.var 3)) (.cons (.mexc f_mark (.cons (.var 2) (.cons (.call f_run (.cons (.var 1) (.cons (.var 0) (.cons (.var 3) .nil)))) .nil)) [0] [2]) .nil) .nil) .nil))
abbrev jk(f_mark f_run:Nat):Fn :=
 ⟨2,5,[2],[],(.cons (.own 2 (.bin .mul (.lst (.cons (.cst (.bl false)) .nil)) (.bi .len (.var 0)))) (.cons (.forr [3] (.rng1 (.bi .len (.var 0))) (i5 f_mark f_run)) (.cons (.asg 4 (.cst (.int 0))) (.cons (.forr [3] (.rng1 (.bi .len (.var 0))) (iw f_mark f_run)) (.cons (.ret (.var 4)) .nil)))))⟩
abbrev uk:Ss :=
 (.cons (.put 0 (.var 2) (.cst (.bl true))) .nil)
abbrev rY:Fn :=
 ⟨2,3,[0,0],[0],(.cons (.forr [2] (.seq (.var 1)) (uk)) .nil)⟩
abbrev fP(f_check_frame:Nat):Fn :=
 ⟨2,2,[],[],(.cons (.exc (.call f_check_frame (.cons (.var 0) .nil))) (.cons (.exc (.call f_check_frame (.cons (.var 1) .nil))) (.cons (.ife (.cmp .ne (.bi .len (.var 0)) (.bi .len (.var 1))) (.cons (.rais "BadPegs" .nil) .nil) .nil) .nil)))⟩
abbrev yd(f_put_under f_check_two_frames:Nat):Fn :=
 ⟨2,2,[],[],(.cons (.exc (.call f_check_two_frames (.cons (.var 0) (.cons (.var 1) .nil)))) (.cons (.ret (.call f_put_under (.cons (.var 0) (.cons (.var 1) .nil)))) .nil))⟩
abbrev iq(f_rings_of f_run f_joints_between f_pegs_of:Nat):Fn :=
 ⟨2,10,[],[],(.cons (.asg 2 (.call f_pegs_of (.cons (.var 0) .nil))) (.cons (.asg 3 (.bin .add (.bi .list (.var 0)) (.compA (.bin .add (.bin .mul (.cst (.int 2)) (.var 2)) (.var 8)) [8] (.seq (.var 1))))) (.cons (.asg 4 (.call f_joints_between (.cons (.var 2) .nil))) (.cons (.asg 5 (.bin .add (.rng1 (.var 2)) (.rng2 (.bin .mul (.cst (.int 3)) (.var 2)) (.bin .mul (.cst (.int 4)) (.var 2))))) (.cons (.asg 6 (.compA (.ix (.call f_run (.cons (.var 4) (.cons (.var 3) (.cons (.var 8) .nil)))) (.neg (.cst (.int 1)))) [8] (.seq (.var 5)))) (.cons (.asg 7 (.bi .tuple (.compA (.ifx (.cmp .lt (.var 9) (.var 2)) (.var 9) (.bin .sub (.var 9) (.bin .mul (.cst (.int 2)) (.var 2)))) [9] (.seq (.var 6))))) (.cons (.ret (.tup (.cons (.var 7) (.cons (.call f_rings_of (.cons (.var 4) (.cons (.var 3) .nil))) .nil)))) .nil)))))))⟩
abbrev dH:Fn :=
 ⟨1,5,[],[],(.cons (.asg 1 (.rng1 (.var 0))) (.cons (.asg 2 (.rng2 (.var 0) (.bin .mul (.cst (.int 2)) (.var 0)))) (.cons (.asg 3 (.rng2 (.bin .mul (.cst (.int 2)) (.var 0)) (.bin .mul (.cst (.int 3)) (.var 0)))) (.cons (.asg 4 (.rng2 (.bin .mul (.cst (.int 3)) (.var 0)) (.bin .mul (.cst (.int 4)) (.var 0)))) (.cons (.ret (.bin .add (.bin .add (.bin .add (.var 1) (.var 3)) (.var 2)) (.var 4))) .nil)))))⟩
abbrev kn(f_is_uncrossed f_is_pairing f_is_peg_count:Nat):Fn :=
 ⟨1,1,[],[],(.cons (.ret (.and (.call f_is_peg_count (.cons (.bi .len (.var 0)) .nil)) (.and (.call f_is_pairing (.cons (.var 0) .nil)) (.call f_is_uncrossed (.cons (.var 0) .nil))))) .nil)⟩
end RT
namespace M
section
end
end M
namespace RL
abbrev evF(cl:Cl)(fn:Fn)(ds:List D):Option D:=if ds.length=fn.ps then(ah cl fn.M fn.body (ds.map some++List.replicate (fn.nn-fn.ps) none)).bind fun p=>match p.1 with
  | .nx=>aW fn .non p.2
  | .rt d=>aW fn d p.2
  else none
def az(h:T[f]?=some fn):aq T (n+1) f ds=evF (aq T n) fn ds:=by
 rw[aq,h];rfl
abbrev L(xs:List Nat):List D:=xs.map fun(i:Nat)=>.int (i:Int)
def tR(I:List D->St->Prop):∀ (ds done:List D) (σ:St),(∀ pre d post σ,done++ds=pre++d::post->I pre σ->d.imm=true/\∃ σ2,(aQ tg d σ).bind f=some (.nx,σ2)/\I (pre++[d]) σ2)->I done σ->∃ σ',aY f tg ds σ=some (.nx,σ')/\I (done++ds) σ'
 | [],done,σ,_,h=>⟨σ,rfl,by simpa using h⟩
 | d::ds,done,σ,hs,h=>by
  obtain⟨im,σ2,h1,h3⟩:=hs done d ds σ rfl h;obtain⟨σ',h4,h5⟩:=tR I ds (done++[d]) σ2 (fun pre e post σ he=>hs pre e post σ (by simpa using he)) h3;refine⟨σ',?_,by simpa using h5⟩;rw[aY,if_pos im]
  cases hb:aQ tg d σ with
  | none=>rw[hb]at h1;cases h1
  |some σ1=>
   rw[hb]at h1;simp only[Option.bind_some]at h1 ⊢;rw[h1];exact h4
def CI(I:List D->St->Prop)(h0:I [] σ)(hs:∀ pre d post σ,ds=pre++d::post->I pre σ->d.imm=true/\∃ σ2,(aQ tg d σ).bind f=some (.nx,σ2)/\I (pre++[d]) σ2):∃ σ',aY f tg ds σ=some (.nx,σ')/\I ds σ' :=
 tR I ds [] σ (by simpa using hs) h0
@[simp] theorem tf_lst:aE (.lst a)=true:=rfl
@[simp] theorem tf_tup:aE (.tup a)=true:=rfl
@[simp] theorem tf_comp:aE (.comp a b c d)=true:=rfl
@[simp] theorem tf_compA:aE (.compA a b c)=true:=rfl
@[simp] theorem tf_bin:aE (.bin a b c)=true:=rfl
@[simp] theorem tf_slT:aE (.slT a b)=true:=rfl
@[simp] theorem tf_call:aE (.call a b)=true:=rfl
@[simp] theorem tf_bi:aE (.bi a b)=true:=rfl
@[simp] theorem tf_rng1:aE (.rng1 a)=true:=rfl
@[simp] theorem tf_rng2:aE (.rng2 a b)=true:=rfl
@[simp] theorem tf_rng3:aE (.rng3 a b c)=true:=rfl
@[simp] theorem tf_dk0:aE .dk0=true:=rfl
@[simp] theorem tf_dt0:aE .dt0=true:=rfl
end RL
namespace RM
open RL RT
section basics
def dI:bB .lt (.int a) (.int b)=some (decide (a<b)):=rfl
def vF:bB .le (.int a) (.int b)=some (decide (a<=b)):=rfl
def oy:bB .gt (.int a) (.int b)=some (decide (b<a)):=rfl
def qJ:bB .ge (.int a) (.int b)=some (decide (b<=a)):=rfl
def gM:bB .eq (.int a) (.int b)=some (a == b):=rfl
def nJ:bB .ne (.int a) (.int b)=some (!(a == b)):=rfl
def cw:aG .add (.int a) (.int b)=some (.int (a+b)):=rfl
def mr:aG .sub (.int a) (.int b)=some (.int (a-b)):=rfl
def gg(h:0<b):aG .mod (.int a) (.int b)=some (.int (a%b)):=IC.trans (if_pos h)
def wz(h:0<b)(h':b<2 ^ 200):aG .fdiv (.int a) (.int b)=some (.int (a / b)):=Jz.trans (if_pos ⟨h,h'⟩)
def bX(h1:-(2 ^ 64)<a)(h2:a<2 ^ 64):aG .mul (.int a) (.int b)=some (.int (a*b)):=zq.trans (if_pos (.inl ⟨h1,h2⟩))
def xQ(h1:-(2 ^ 64)<b)(h2:b<2 ^ 64):aG .mul (.int a) (.int b)=some (.int (a*b)):=zq.trans (if_pos (.inr ⟨h1,h2⟩))
def JE(k:Bool):truth (.bl k)=some k:=rfl
end basics
def CD(h:L xs=pre++d::post):∃ p x q,xs=p++x::q/\pre=L p/\d=.int (x:Nat)/\post=L q:=by
 unfold L at h;obtain⟨p,r,rfl,h1,h2⟩:=List.map_eq_append_iff.mp h;obtain⟨x,q,rfl,h3,h4⟩:=List.map_eq_cons_iff.mp h2;exact⟨p,x,q,rfl,h1.symm,h3.symm,h4.symm⟩
def vg:∀ {a b:List Nat},L a=L b->a=b
 | [],[],_=>rfl
 | [],_::_,h=>by simp[L]at h
 | _::_,[],h=>by simp[L]at h
 | x::a,y::b,h=>by
  unfold L at h;rw[List.map_cons,List.map_cons,List.cons.injEq]at h
  have h1:(x:Int)=y:=by injection h.1
  rw[vg (a:=a) (b:=b) h.2,Int.ofNat_inj.mp h1]
def cQ(I:List Nat->St->Prop)(h0:I [] σ)(hs:∀ p x q σ,xs=p++x::q->I p σ->∃ σ2,(aQ tg (.int (x:Nat)) σ).bind f=some (.nx,σ2)/\I (p++[x]) σ2):∃ σ',aY f tg (L xs) σ=some (.nx,σ')/\I xs σ':=by
 obtain⟨σ',e,p,hp,hi⟩:=CI (f:=f) (tg:=tg) (ds:=L xs) (σ:=σ) (fun pre σ=>∃ p,pre=L p/\I p σ) ⟨[],rfl,h0⟩ (by
  rintro pre d post σ hd ⟨p',hp',hi⟩;obtain⟨p,x,q,rfl,rfl,rfl,rfl⟩:=CD hd;have:=vg hp';subst this;obtain⟨σ2,h1,h2⟩:=hs p x q σ rfl hi
  exact⟨rfl,σ2,h1,p++[x],by simp[L],h2⟩)
 have:=vg hp;subst this;exact⟨σ',e,hi⟩
def aM(xs:List Nat):(L xs).length=xs.length:=by simp[L]
def qz(xs:List Nat)(i:Nat):(L xs)[i]?=(xs[i]?).map fun(i:Nat)=>.int (i:Int):=by simp[L]
def Bd(xs:List Nat)(i j:Nat):(L xs).set i (.int j)=L (xs.set i j):=by simp[L,List.map_set]
def aP:∀ xs:List Nat,au (L xs)=true
 | []=>rfl
 | x::xs=>by
  show((D.int x).imm&&au (L xs))=true;rw[aP xs];rfl
def de(xs ys:List Nat):L (xs++ys)=L xs++L ys:=by simp[L]
def dO(xs:List α)(i:Nat):cb xs (i:Int)=xs[i]?:=by
 unfold cb;rw[if_pos (Int.natCast_nonneg i)];rfl
def rE(h:i<n):jN n (i:Int)=some i:=by
 unfold jN;rw[if_pos (Int.natCast_nonneg i),if_pos (by lia)];rfl
def lO(a:Nat):∀ n:Nat,c9 (a:Int) n=L (List.range' a n)
 | 0=>rfl
 | n+1=>by
  rw[c9,List.range'_succ];have:=lO (a+1) n;rw[show((a+1:Nat):Int)=(a:Int)+1 by lia]at this;rw[this];rfl
def dm{a b:Nat}(h1:a<=1000)(h2:b<=1000):cE (.int a) (.int b)=some (L (List.range' a (b-a))):=by
 dsimp only[cE]
 have:((b:Int)-a).toNat=b-a:=by lia
 rw[if_pos ⟨by unfold most;lia,by lia,by lia,by lia,by lia⟩,this,lO]
section
def qa(i:Int):evF cl i4 [.int i]=some (.bl true):=rfl
def lE(h:∀ i:Int,cl f [.int i]=some (.bl true))(i:Int):evF cl (d3 f) [.int i]=some (.bl (decide (1<=i/\i<=10))):=by
 simp[evF,d3,ah,dz,mm,c7,pe,d5,Hr,aR,evs,h,vF,bh,D.imm,aW];by_cases h1:1<=i<;>simp[h1,bh,D.imm,aW]
def oR(h:cl f [.int i]=some (.bl true)):evF cl (bJ f) [.int i]=some .non:=by
 simp[evF,bJ,ah,f7,xP,c7,qp,aR,evs,h,truth,aW]
def B3(xs:List Nat)(hi:i<xs.length)(hj:j<xs.length):evF cl qg [.lst (L xs),.int i,.int j]=some (.tup [.non,.lst (L ((xs.set i j).set j i))]):=by
 simp[evF,qg,ah,kz,aR,evs,Gh,jN,hi,hj,D.imm,aW,eI,aM,Bd]
def sH(xs:List D):evF cl jM [.tup xs]=some (.int (xs.length / 2)):=rfl
abbrev d7(n:Nat):List Nat:=List.range' n n++List.range' 0 n
def run_plain{f:Nat}{n:Nat}(hn:n<=10)(h:cl f [.int n]=some .non):evF cl (dX f) [.int n]=some (.tup (L (d7 n))):=by
 have e1:=dm (a:=n) (b:=2*n) (by lia) (by lia);rw[show 2*n-n=n by lia,show((2*n:Nat):Int)=2*(n:Int) by lia]at e1;have e2:=dm (a:=0) (b:=n) (by lia) (by lia);rw[Nat.sub_zero]at e2
 have e3:aG .mul (.int 2) (.int n)=some (.int (2*n)):=by
  rw[zq];rw[if_pos (by lia)]
 have e4:aG .add (.lst (L (List.range' n n))) (.lst (L (List.range' 0 n)))=some (.lst (L (d7 n))):=by
  rw[Jr];rw[if_pos (by simp[aM,most];lia),d7,de]
 simp only[Int.natCast_zero]at e2;simp[evF,dX,ah,nh,dz,iQ,eF,d5,xY,wY,aR,c7,evs,h,e1,e2,e3,e4,IS,zF,items,bh,D.imm,aP,aW]
abbrev at'(f:List Nat)(x:Nat):Nat:=(f[x]?).getD x
structure Frm(n:Nat)(f:List Nat):Prop where
 len:f.length=2*n
 lt:∀ x,x<2*n->at' f x<2*n
 inv:∀ x,at' f (at' f x)=x
 no:∀ x,x<2*n->at' f x≠x
def fk(h:x<f.length):f[x]?=some (at' f x):=by simp[at',h]
def cF(h:f.length<=x):at' f x=x:=by simp[at',h]
def jV(h:i<f.length):at' (f.set i j) x=if x=i then j else at' f x:=by
 unfold at';rw[List.getElem?_set];by_cases e:i=x
 ·subst e;simp[h]
 ·simp[e,Ne.symm e]
def xt(F:f.length=2*n)(G:g.length=2*n)(h:at' f=at' g):f=g:=by
 apply List.ext_getElem?;intro i;by_cases hi:i<2*n
 ·rw[fk (by lia),fk (by lia),h]
 ·rw[List.getElem?_eq_none (by lia),List.getElem?_eq_none (by lia)]
end
section
def plain_at(n x:Nat):at' (d7 n) x=if x<n then n+x else if x<2*n then x-n else x:=by
 unfold at' d7;by_cases h1:x<n
 ·rw[List.getElem?_append_left (by simpa using h1),if_pos h1];simp[h1]
 ·rw[List.getElem?_append_right (by simpa using h1),if_neg h1];by_cases h2:x<2*n
  ·rw[if_pos h2];simp[show x-n<n by lia]
  ·rw[if_neg h2];simp[show ¬ x-n<n by lia]
end
end RM
namespace RL
section
def aF:ah cl M .nil σ=some (.nx,σ):=by rw[ah]
def dt(h:evS cl M s σ=some (.nx,σ'))(k:ah cl M r σ'=res):ah cl M (.cons s r) σ=res:=by
 rw[ah,h];exact k
def qr(h:evS cl M s σ=some (.rt d,σ')):ah cl M (.cons s r) σ=some (.rt d,σ'):=by
 rw[ah,h];rfl
def aA(h:ev cl σ e=some d)(ok:aN M e d=true)(k:ah cl M r (σ.set i (some d))=res):ah cl M (.cons (.asg i e) r) σ=res :=
 dt (by rw[fC,h];show(if aN M e d=true then _ else _)=_;rw[if_pos ok]) k
def ee(h:ev cl σ e=some d)(ok:(a8 d&&aE e)=true)(k:ah cl M r (σ.set i (some d))=res):ah cl M (.cons (.own i e) r) σ=res :=
 dt (by rw[qk,h];show(if(a8 d&&aE e)=true then _ else _)=_;rw[if_pos ok]) k
def cS(h:ev cl σ e=some d)(k:ah cl M r σ=res):ah cl M (.cons (.exc e) r) σ=res :=
 dt (by rw[nh,h];rfl) k
def aT(h:ev cl σ e=some d)(ok:bh M e d=true):ah cl M (.cons (.ret e) r) σ=some (.rt d,σ) :=
 qr (by rw[dz,h];show(if bh M e d=true then _ else _)=_;rw[if_pos ok])
def fJ(h:(ev cl σ t).bind truth=some true)(h1:ah cl M a σ=some (.nx,σ'))(k:ah cl M r σ'=res):ah cl M (.cons (.ife t a b) r) σ=res :=
 dt (by rw[f7,h];exact h1) k
def gz(h:(ev cl σ t).bind truth=some true)(h1:ah cl M a σ=some (.rt d,σ')):ah cl M (.cons (.ife t a b) r) σ=some (.rt d,σ') :=
 qr (by rw[f7,h];exact h1)
def mD(h:(ev cl σ t).bind truth=some false)(h1:ah cl M b σ=some (.nx,σ'))(k:ah cl M r σ'=res):ah cl M (.cons (.ife t a b) r) σ=res :=
 dt (by rw[f7,h];exact h1) k
def kH(h:(ev cl σ t).bind truth=some false)(h1:ah cl M b σ=some (.rt d,σ')):ah cl M (.cons (.ife t a b) r) σ=some (.rt d,σ') :=
 qr (by rw[f7,h];exact h1)
def cm(h:(ev cl σ t).bind truth=some false)(k:ah cl M r σ=res):ah cl M (.cons (.ife t a .nil) r) σ=res:=mD h aF k
def Gk(h:ev cl σ e=some d)(hd:items d=some ds)(im:au ds=true)(hs:b8 is ds σ=some σ')(k:ah cl M r σ'=res):ah cl M (.cons (.unp is e) r) σ=res :=
 dt (by rw[GV,h,Option.bind_some,hd];show(if au ds=true then _ else _)=_;rw[if_pos im,hs];rfl) k
def yh(h:ev cl σ e=some x)(h':ev cl σ e'=some y)(im:(x.imm&&y.imm)=true)(k:ah cl M r ((σ.set i (some x)).set j (some y))=res):ah cl M (.cons (.par i j e e') r) σ=res :=
 dt (by rw[GW,h,Option.bind_some,h'];show(if(x.imm&&y.imm)=true then _ else _)=_;rw[if_pos im]) k
def sU(h:ev cl σ e=some d)(hi:(σ[i]?).bind id=some (.lst xs))(im:d.imm=true)(hl:xs.length<most)(k:ah cl M r (σ.set i (some (.lst (xs++[d]))))=res):ah cl M (.cons (.app i e) r) σ=res :=
 dt (by rw[vN,h,Option.bind_some,hi];show(if(d.imm&&decide (xs.length<most))=true then _ else _)=_;rw[if_pos (by rw[im,decide_eq_true hl];rfl)]) k
def iE(h:ev cl σ e'=some x)(h':ev cl σ e=some kk)(hi:(σ[i]?).bind id=some l)(im:x.imm=true)(hp:dJ l kk x=some l')(k:ah cl M r (σ.set i (some l'))=res):ah cl M (.cons (.put i e e') r) σ=res :=
 dt (by rw[kz,h,Option.bind_some,h',Option.bind_some,hi,Option.bind_some,if_pos im,hp];rfl) k
def Eb(hi:(σ[i]?).bind id=some (.int x))(h:ev cl σ e=some (.int y))(hb:aG o (.int x) (.int y)=some (.int z))(k:ah cl M r (σ.set i (some (.int z)))=res):ah cl M (.cons (.aug i o e) r) σ=res :=
 dt (by rw[HS,hi,Option.bind_some,h];show Option.map _ (aG o (.int x) (.int y))=_;rw[hb];rfl) k
def bZ(h:bf cl σ it=some ds)(h1:aY (ah cl M b) tg ds σ=some (.nx,σ'))(k:ah cl M r σ'=res):ah cl M (.cons (.forr tg it b) r) σ=res :=
 dt (by rw[gO,h];exact h1) k
def BU(h:bf cl σ it=some ds)(h1:aY (ah cl M b) tg ds σ=some (.rt d,σ')):ah cl M (.cons (.forr tg it b) r) σ=some (.rt d,σ') :=
 qr (by rw[gO,h];exact h1)
def F9(h1:whF (fun σ=>(ev cl σ t).bind truth) (ah cl M b) most σ=some (.nx,σ'))(k:ah cl M r σ'=res):ah cl M (.cons (.whil t b) r) σ=res :=
 dt (by rw[DA];exact h1) k
def iG(h:evs cl σ es=some ds)(ok:dA M ps 0 es ds=true)(hc:cl f ds=some (.tup (d::outs)))(hs:b8 ms outs σ=some σ')(k:ah cl M r σ'=res):ah cl M (.cons (.mexc f es ps ms) r) σ=res :=
 dt (by rw[DV,h,Option.bind_some,if_pos ok,hc,Option.bind_some];show Option.map _ (b8 ms outs σ)=_;rw[hs];rfl) k
def aa(h:(σ[i]?).bind id=some d):ev cl σ (.var i)=some d:=by rw[aR];exact h
def aw:ev cl σ (.cst d)=some d:=by rw[d5]
def x_call(h:evs cl σ es=some ds)(hc:cl f ds=some d):ev cl σ (.call f es)=some d:=by rw[c7,h];exact hc
def bC:evs cl σ .nil=some []:=by rw[evs]
def a7(h:ev cl σ e=some d)(hr:evs cl σ es=some ds):evs cl σ (.cons e es)=some (d::ds):=by rw[evs,h,Option.bind_some,hr];rfl
def bc(h:ev cl σ e=some d)(hc:cl f [d]=some x):ev cl σ (.call f (.cons e .nil))=some x:=x_call (a7 h bC) hc
def cq(h:ev cl σ e=some d)(h':ev cl σ e'=some d')(hc:cl f [d,d']=some x):ev cl σ (.call f (.cons e (.cons e' .nil)))=some x:=x_call (a7 h (a7 h' bC)) hc
def qR(h:ev cl σ e=some d)(h':ev cl σ e'=some d')(h'':ev cl σ e''=some d'')(hc:cl f [d,d',d'']=some x):ev cl σ (.call f (.cons e (.cons e' (.cons e'' .nil))))=some x:=x_call (a7 h (a7 h' (a7 h'' bC))) hc
def a6(h:ev cl σ e=some x)(h':ev cl σ e'=some y)(hb:aG o x y=some d):ev cl σ (.bin o e e')=some d:=by rw[eF,h,Option.bind_some,h'];exact hb
def aK(h:ev cl σ e=some x)(h':ev cl σ e'=some y)(hb:bB o x y=some k):ev cl σ (.cmp o e e')=some (.bl k):=by rw[cz,h,Option.bind_some,h',Option.bind_some,hb];rfl
def b9(h:ev cl σ e=some x)(h':ev cl σ e'=some y)(hb:ixV x y=some d):ev cl σ (.ix e e')=some d:=by rw[om,h,Option.bind_some,h'];exact hb
def bp(h:ev cl σ e=some x)(hb:biV o x=some d):ev cl σ (.bi o e)=some d:=by rw[iQ,h];exact hb
def Bj(h:ev cl σ e=some x)(h':ev cl σ e'=some y)(hb:jH x y=some d):ev cl σ (.slT e e')=some d:=by rw[AV,h,Option.bind_some,h'];exact hb
def jy(h:ev cl σ e=some x)(h':ev cl σ e'=some y)(hb:lG x y=some d):ev cl σ (.ixD e e')=some d:=by rw[vf,h,Option.bind_some,h'];exact hb
def Hq(h:ev cl σ e=some x)(h':ev cl σ e'=some y)(hb:inV x y=some k):ev cl σ (.inn n e e')=some (.bl (if n then !k else k)):=by rw[HN,h,Option.bind_some,h',Option.bind_some,hb];rfl
def vA(h:ev cl σ e=some x)(h':ev cl σ e'=some y)(hb:jU y x=some k):ev cl σ (.inD n e e')=some (.bl (if n then !k else k)):=by rw[qh,h,Option.bind_some,h',Option.bind_some,hb];rfl
def Hn{t:Ty}(h:ev cl σ e=some x)(hb:vJ t x=some k):ev cl σ (.isi e t)=some (.bl k):=by rw[HD,h,Option.bind_some,hb];rfl
def HB(h:ev cl σ e=some (.int k)):ev cl σ (.neg e)=some (.int (-k)):=by rw[Hk,h];rfl
def tK(h:ev cl σ e=some x)(h':ev cl σ e'=some y)(h'':ev cl σ e''=some z)(b1:bB c x y=some true)(b2:bB c' y z=some k):ev cl σ (.chain c c' e e' e'')=some (.bl k):=by rw[pe,h,Option.bind_some,h',Option.bind_some,b1,Option.bind_some,if_pos rfl,h'',Option.bind_some,b2];rfl
def zS(h:ev cl σ e=some x)(h':ev cl σ e'=some y)(b1:bB c x y=some false):ev cl σ (.chain c c' e e' e'')=some (.bl false):=by rw[pe,h,Option.bind_some,h',Option.bind_some,b1];rfl
def uo(h:ev cl σ e=some x)(hr:cE (.int 0) x=some ds):ev cl σ (.rng1 e)=some (.lst ds):=by rw[xY,h,Option.bind_some,hr];rfl
def k8(h:ev cl σ e=some x)(h':ev cl σ e'=some y)(hr:cE x y=some ds):ev cl σ (.rng2 e e')=some (.lst ds):=by rw[wY,h,Option.bind_some,h',Option.bind_some,hr];rfl
def jz(h:evs cl σ es=some ds):ev cl σ (.lst es)=some (.lst ds):=by rw[kU,h];rfl
def fD(h:evs cl σ es=some ds):ev cl σ (.tup es)=some (.tup ds):=by rw[gd,h];rfl
def fw(h:ev cl σ e=some (.bl true))(h':ev cl σ e'=some d):ev cl σ (.and e e')=some d:=by rw[mm,h];exact h'
def jG(h:ev cl σ e=some (.bl false)):ev cl σ (.and e e')=some (.bl false):=by rw[mm,h];rfl
def GO(h:(ev cl σ e).bind truth=some k):ev cl σ (.not e)=some (.bl (!k)):=by rw[qp,h];rfl
def sF(h:ev cl σ e=some (.bl k)):ev cl σ (.not e)=some (.bl (!k)):=GO (by rw[h];rfl)
def kr(h:(ev cl σ t).bind truth=some k)(h':ev cl σ (if k then e else e')=some d):ev cl σ (.ifx t e e')=some d:=by
 rw[v8,h];cases k<;>exact h'
def bg(h:ev cl σ e=some (.bl k)):(ev cl σ e).bind truth=some k:=by rw[h];rfl
def eX(h:bf cl σ it=some ds)(hf:ds.length<=most)(hm:bT (fun σ1=>(ev cl σ1 e).map some) tg σ ds=some ys):ev cl σ (.compA e tg it)=some (.lst ys):=by
 rw[tV,h,Option.bind_some,fits,if_pos hf,Option.bind_some,hm];rfl
def wF(h:bf cl σ it=some ds)(hf:ds.length<=most)(hm:bT (fun σ1=>((ev cl σ1 t).bind truth).bind fun k=>if k then(ev cl σ1 e).map some else some none) tg σ ds=some ys):ev cl σ (.comp e tg it t)=some (.lst ys):=by
 rw[jI,h,Option.bind_some,fits,if_pos hf,Option.bind_some,hm];rfl
def mW(h:ev cl σ e=some x)(hr:cE (.int 0) x=some ds):bf cl σ (.rng1 e)=some ds:=by rw[bf,h];exact hr
def Dp(h:ev cl σ e=some x)(h':ev cl σ e'=some y)(hr:kO c x y=some ds):bf cl σ (.rng3 c e e')=some ds:=by rw[bf,h,Option.bind_some,h'];exact hr
def cM(h:ev cl σ e=some x)(hr:items x=some ds):bf cl σ (.seq e)=some ds:=by rw[bf,h];exact hr
def HQ(h:ev cl σ e=some x)(h':ev cl σ e'=some y)(hx:items x=some xs)(hy:items y=some ys)(hl:xs.length=ys.length):bf cl σ (.zip e e')=some (fv xs ys):=by rw[bf,h,Option.bind_some,h',Option.bind_some,hx,Option.bind_some,hy,Option.bind_some,if_pos hl]
def qj(h:ev cl σ e=some x)(hr:fO x=some ds):bf cl σ (.enm e)=some (cZ 0 ds):=by rw[bf,h,Option.bind_some,hr];rfl
end
def Fd:aY f tg [] σ=some (.nx,σ):=rfl
def uC(im:d.imm=true)(hb:aQ tg d σ=some σ1)(h:f σ1=some (.nx,σ2))(k:aY f tg r σ2=res):aY f tg (d::r) σ=res:=by
 rw[aY,if_pos im,hb,Option.bind_some,h];exact k
def aS(hl:ds.length=fn.ps)(hm:fn.mp=[])(h:ah cl fn.M fn.body (ds.map some++List.replicate (fn.nn-fn.ps) none)=some (.rt d,σ')):evF cl fn ds=some d:=by
 unfold evF;rw[if_pos hl,h];show aW fn d σ'=_;unfold aW;rw[hm];rfl
def nv(hl:ds.length=fn.ps)(hm:fn.mp=[])(h:ah cl fn.M fn.body (ds.map some++List.replicate (fn.nn-fn.ps) none)=some (.nx,σ')):evF cl fn ds=some .non:=by
 unfold evF;rw[if_pos hl,h];show aW fn .non σ'=_;unfold aW;rw[hm];rfl
end RL
namespace RM
open RL RT
abbrev LI(xs:List Int):List D:=xs.map D.int
def xU(xs:List Int):(LI xs).length=xs.length:=by simp[LI]
def x3:∀ xs:List Int,au (LI xs)=true
 | []=>rfl
 | x::xs=>by
  show((D.int x).imm&&au (LI xs))=true;rw[x3 xs];rfl
section
def mod_lt{a b:Int}(h:0<b):0<=a%b/\a%b<b:=⟨Int.emod_nonneg _ (by lia),Int.emod_lt_of_pos _ h⟩
def BD(s:Int):∃ m:Int,evF cl j1 [.int s]=some (.int m):=by
 have a1:=mod_lt (a:=s*48271+11) (b:=2147483647) (by decide);generalize h1:(s*48271+11)%2147483647=one at a1;have a2:=mod_lt (a:=one*one+40692*one+s) (b:=2147483399) (by decide);generalize h2:(one*one+40692*one+s)%2147483399=two at a2
 exact⟨_,aS rfl rfl (aA (d:=.int one) (a6 (a6 (a6 (aa rfl) aw (xQ (by decide) (by decide))) aw cw) aw (by rw[gg (by decide),h1])) rfl
  (aA (d:=.int two) (a6 (a6 (a6 (a6 (aa rfl) (aa rfl) (bX (by lia) (by lia))) (a6 aw (aa rfl) (bX (by decide) (by decide))) cw) (aa rfl) cw) aw (by rw[gg (by decide),h2])) rfl
  (aT (a6 (a6 (a6 (a6 (aa rfl) (aa rfl) (bX (by omega) (by omega))) (a6 aw (aa rfl) (bX (by decide) (by decide))) cw) (aa rfl) cw) aw (gg (by decide))) rfl)))⟩
def Cu{f:Nat}(h:∀ s:Int,∃ m:Int,cl f [.int s]=some (.int m)){ns:List Int}(hl:ns.length<=63){k:Nat}(hk:k<=1000):∃ r:Int,evF cl (jY f) [.lst (LI ns),.int k]=some (.int r):=by
 have pw:aG .pow (.int 10) (.int 18)=some (.int 1000000000000000000):=rfl
 have rest:∀ c:Int,∃ r σ',ah cl [] (.cons (.asg 3 (.cst (.int 0))) (.cons (.forr [4] (.rng1 (.cst (.int 40))) (iO f)) (.cons (.ret (.var 3)) .nil))) [some (.lst (LI ns)),some (.int k),some (.int c),none,none]=some (.rt (.int r),σ'):=by
  intro c;have hr:cE (.int 0) (.int 40)=some (L (List.range' 0 40)):=congrArg some (lO 0 40)
  obtain⟨σ',e,r,o,rfl⟩:=cQ (f:=ah cl [] (iO f)) (tg:=[4]) (xs:=List.range' 0 40) (σ:=[some (.lst (LI ns)),some (.int k),some (.int c),some (.int 0),none])
   (fun p σ=>∃ (r:Int) (o:Option D),σ=[some (.lst (LI ns)),some (.int k),some (.int c),some (.int r),o]) ⟨0,none,rfl⟩ (by
    rintro p x q σ hx ⟨r,o,rfl⟩;obtain⟨m,hm⟩:=h (c+1009*k+7919*x)
    exact⟨_,aA (a6 (a6 (aa rfl) aw (xQ (by decide) (by decide))) (bc (a6 (a6 (aa rfl) (a6 aw (aa rfl) (bX (by decide) (by decide))) cw) (a6 aw (aa rfl) (bX (by decide) (by decide))) cw) hm) cw) rfl aF,_,_,rfl⟩)
  exact⟨r,_,aA aw rfl (bZ (mW aw hr) e (aT (aa rfl) rfl))⟩
 have len:biV .len (.lst (LI ns))=some (.int ns.length):=congrArg (fun n:Nat=>some (D.int n)) (xU ns)
 have first:ev cl [some (.lst (LI ns)),some (.int k),none,none,none] (.bin .add (.bin .mul (.cst (.int 7)) (.var 1)) (.cst (.int 3)))=some (.int (7*k+3)):=a6 (a6 aw (aa rfl) (bX (by decide) (by decide))) aw cw
 by_cases h0:0<ns.length
 ·have hmod:=mod_lt (a:=(k:Int)) (b:=(ns.length:Int)) (by lia);obtain⟨j,hj⟩:=Int.eq_ofNat_of_zero_le hmod.1
  have hjl:j<ns.length:=by lia
  have ix:ixV (.lst (LI ns)) (.int ((k:Int)%ns.length))=some (.int ns[j]):=by
   show cb (LI ns) _=_;rw[hj,dO];simp[LI,hjl]
  obtain⟨r,σ',hr⟩:=rest (ns[j]+9973*((k:Int) / ns.length));generalize hc:ns[j]+9973*((k:Int) / ns.length)=cell at hr
  have cel:∀ {r':Ss} {res:Option (Out × St)},ah cl [] r' [some (.lst (LI ns)),some (.int k),some (.int cell),none,none]=res->ah cl [] (.cons (.asg 2 (.bin .add (.bin .mul (.cst (.int 7)) (.var 1)) (.cst (.int 3)))) (.cons (.ife (.cmp .gt (.bi .len (.var 0)) (.cst (.int 0))) (.cons (.asg 2 (.bin .add (.ix (.var 0) (.bin .mod (.var 1) (.bi .len (.var 0)))) (.bin .mul (.cst (.int 9973)) (.bin .fdiv (.var 1) (.bi .len (.var 0)))))) .nil) .nil) r')) [some (.lst (LI ns)),some (.int k),none,none,none]=res:=fun z =>
   aA first rfl (fJ (bg (aK (bp (aa rfl) len) aw (by rw[oy,decide_eq_true (by lia)]))) (aA (d:=.int cell) (a6 (b9 (aa rfl) (a6 (aa rfl) (bp (aa rfl) len) (gg (by lia))) ix) (a6 aw (a6 (aa rfl) (bp (aa rfl) len) (wz (by lia) (by lia))) (bX (by decide) (by decide))) (by rw[cw,hc])) rfl aF) z)
  by_cases h1:k<ns.length
  ·have c1:bB .lt (.int (k:Nat)) (.int (ns.length:Nat))=some true:=by rw[dI,decide_eq_true (by lia)]
   by_cases h2:(1000000000000000000:Int)<=cell
   ·exact⟨_,aS rfl rfl (cel (gz (bg (fw (aK (aa rfl) (bp (aa rfl) len) c1) (aK (aa rfl) (a6 aw aw pw) (by rw[qJ,decide_eq_true h2])))) (aT (a6 (aa rfl) (a6 aw aw pw) mr) rfl)))⟩
   ·exact⟨r,aS rfl rfl (cel (cm (bg (fw (aK (aa rfl) (bp (aa rfl) len) c1) (aK (aa rfl) (a6 aw aw pw) (by rw[qJ,decide_eq_false h2])))) hr))⟩
  ·exact⟨r,aS rfl rfl (cel (cm (bg (jG (aK (aa rfl) (bp (aa rfl) len) (by rw[dI,decide_eq_false (by lia)])))) hr))⟩
 ·obtain⟨r,σ',hr⟩:=rest (7*k+3);exact⟨r,aS rfl rfl (aA first rfl (cm (bg (aK (bp (aa rfl) len) aw (by rw[oy,decide_eq_false (by lia)]))) (cm (bg (jG (aK (aa rfl) (bp (aa rfl) len) (by rw[dI,decide_eq_false (by lia)])))) hr)))⟩
end
section
abbrev jQ(ds sizes:List Nat):Prop:=ds.length=sizes.length/\∀ (i d s:Nat),ds[i]?=some d->sizes[i]?=some s->d<s
def jQ.snoc(h:jQ ds sizes)(hd:d<s):jQ (ds++[d]) (sizes++[s]):=by
 refine⟨by simp[h.1],fun i x y h1 h2=>?_⟩;by_cases hi:i<ds.length
 ·rw[List.getElem?_append_left hi]at h1;rw[List.getElem?_append_left (by rw[<-h.1];exact hi)]at h2;exact h.2 i x y h1 h2
 ·rw[List.getElem?_append_right (by lia)]at h1;rw[List.getElem?_append_right (by rw[<-h.1];lia)]at h2;rw[h.1]at h1
  cases hk:i-sizes.length with
  | zero=>rw[hk]at h1 h2;simp at h1 h2;lia
  | succ k=>rw[hk]at h1;simp at h1
def vK(h:cl f [scr,.int k]=some (.int r))(hp:∀ s∈sizes,0<s/\s<2 ^ 200)(hlen:sizes.length<=1000):∃ ds:List Nat,jQ ds sizes/\evF cl (eQ f) [scr,.int k,.lst (L sizes)]=some (.lst (L ds)):=by
 obtain⟨σ',e,r',ds,o,hds,rfl⟩:=cQ (f:=ah cl [4] (fW f)) (tg:=[5]) (xs:=sizes) (σ:=[some scr,some (.int k),some (.lst (L sizes)),some (.int r),some (.lst []),none])
  (fun p σ=>∃ (r:Int) (ds:List Nat) (o:Option D),jQ ds p/\σ=[some scr,some (.int k),some (.lst (L sizes)),some (.int r),some (.lst (L ds)),o]) ⟨r,[],none,⟨rfl,by simp⟩,rfl⟩ (by
   rintro p x q σ hx ⟨r,ds,o,hds,rfl⟩;have hx0:=hp x (by rw[hx];simp)
   have hpl:p.length<1000:=by
    have:=congrArg List.length hx;simp at this;lia
   have hx1:(0:Int)<x:=by lia
   have hx2:(x:Int)<2 ^ 200:=by
    have:=hx0.2;lia
   obtain⟨d,hd⟩:=Int.eq_ofNat_of_zero_le (Int.emod_nonneg r (show(x:Int)≠0 by lia))
   have hdx:d<x:=by
    have:=Int.emod_lt_of_pos r hx1;lia
   refine⟨[some scr,some (.int k),some (.lst (L sizes)),some (.int (r / x)),some (.lst (L (ds++[d]))),some (.int x)],?_,_,_,_,hds.snoc hdx,rfl⟩
   have hl:(L ds).length<most:=by
    rw[aM,hds.1];unfold most;lia
   simp[jm,fW,ah,vN,fC,eF,aR,gg hx1,wz hx1 hx2,hd,D.imm,hl,aN,de]
   rfl)
 refine⟨ds,hds,?_⟩;simp[evF,eQ,ah,fC,gO,qk,dz,kU,aR,c7,evs,bf,items,h,aN,D.imm,a8,au];simp[e,bh,a8,aP,aW]
end
section
def sR(c:Nat):∀ (n a:Nat),bN (c:Int) (a:Int) n=L (List.range' a n c)
 | 0,a=>rfl
 | n+1,a=>by
  rw[bN,List.range'_succ];have:=sR c n (a+c);rw[show((a+c:Nat):Int)=(a:Int)+(c:Int) by lia]at this;rw[this];rfl
def wD(xs:List Nat)(n:Nat):(L xs).take n=L (xs.take n):=by simp[L]
end
section
end
def d8(h:(List.range k).map g=p++x::q):p.length<k/\x=g p.length:=by
 have l:((List.range k).map g).length=(p++x::q).length:=by rw[h]
 have e:((List.range k).map g)[p.length]?=(p++x::q)[p.length]?:=by rw[h]
 simp at l e;obtain⟨y,hy,e⟩:=e;refine⟨by lia,?_⟩;rw[List.getElem?_range (by lia)]at hy;cases hy;exact e.symm
abbrev rd(n q:Nat):Nat:=if q<n then q else 3*n-1-q
def bM(h:q<2*n):rd n q<2*n:=by unfold rd;split<;>omega
def cD(h:q<2*n):rd n (rd n q)=q:=by
 unfold rd;by_cases e:q<n
 ·rw[if_pos e,if_pos e]
 ·rw[if_neg e,if_neg (by omega)];lia
def rB(hp:p<2*n)(hq:q<2*n)(h:rd n p=rd n q):p=q:=by rw[<-cD hp,h,cD hq]
abbrev rnd(n:Nat)(f:List Nat)(q:Nat):Nat:=rd n (at' f (rd n q))
structure Val(n:Nat)(f:List Nat):Prop where
 frm:Frm n f
 nox:∀ q q',q<2*n->q'<2*n->¬ (q<q'/\q'<rnd n f q/\rnd n f q<rnd n f q')
abbrev oF(n:Nat):List Nat:=(List.range (2*n)).map (rd n)
def Cj{n q:Nat}(h:q<2*n):ixV (.lst (L (oF n))) (.int (q:Int))=some (.int ((rd n q:Nat):Int)):=by
 show cb _ _=_;rw[dO,qz];simp[oF,h]
def FC{f:List Nat}{i j:Nat}(h:i<f.length):dJ (.lst (L f)) (.int (i:Int)) (.int (j:Int))=some (.lst (L (f.set i j))):=by
 rw[Gh];rw[aM,rE h];simp[Bd]
def qH(im:∀ x,(g x).imm=true):∀ xs:List Nat,(∀ x∈xs,(aQ tg (.int (x:Nat)) σ).bind F=some (some (g x)))->bT F tg σ (L xs)=some (xs.map g)
 | [],_=>rfl
 | x::r,h=>by
  have a:=h x (by simp);have b:=qH im r (fun y hy=>h y (by simp[hy]));rw[show L (x::r)=.int x::L r from rfl,bT]
  cases hb:aQ tg (.int (x:Nat)) σ with
  | none=>rw[hb]at a;cases a
  |some σ1=>
   rw[hb]at a;simp only[Option.bind_some]at a ⊢;rw[a,b];simp[jS,im]
def sW(im:∀ x,(g x).imm=true):∀ xs:List Nat,(∀ x∈xs,(aQ tg (.int (x:Nat)) σ).bind F=some (if c x then some (g x)else none))->bT F tg σ (L xs)=some ((xs.filter c).map g)
 | [],_=>rfl
 | x::r,h=>by
  have a:=h x (by simp);have b:=sW im r (fun y hy=>h y (by simp[hy]));rw[show L (x::r)=.int x::L r from rfl,bT]
  cases hb:aQ tg (.int (x:Nat)) σ with
  | none=>rw[hb]at a;cases a
  |some σ1=>
   rw[hb]at a;simp only[Option.bind_some]at a ⊢;rw[a,b];cases hc:c x<;>simp[jS,im,hc]
def DD(xs:List Nat)(g:Nat->Nat):(xs.map fun x=>D.int (g x:Nat))=L (xs.map g):=by simp[L]
def rM(h:xs.length<=1000):fits (L xs)=some (L xs):=by
 unfold fits;rw[if_pos (by rw[aM];unfold most;lia)]
def df{n:Nat}(h:n<=1000):cE (.int 0) (.int n)=some (L (List.range n)):=by
 have e2:=dm (a:=0) (b:=n) (by lia) h;rw[Nat.sub_zero,<-List.range_eq_range']at e2;exact e2
set_option synthInstance.maxSize 10000 in
set_option synthInstance.maxHeartbeats 0 in
abbrev bI(n:Nat)(f:List Nat):List Nat:=(List.range (2*n)).map fun p=>(at' f ((p+n)%(2*n))+n)%(2*n)
def p7(h:p<2*n):at' (bI n f) p=(at' f ((p+n)%(2*n))+n)%(2*n):=by
 simp[at',bI,h]
def half{xs:List D}(h:xs.length=2*n):biV .len (.tup xs)=some (.int (2*n)):=by
 simp[AQ,h]
def EU(n:Nat):aG .fdiv (.int (2*(n:Int))) (.int 2)=some (.int n):=by
 rw[wz (by decide) (by decide)];congr 2;lia
def dC(h:x<f.length):ixV (.tup (L f)) (.int (x:Nat))=some (.int (at' f x:Nat)):=by
 show cb _ _=_;rw[dO,qz,fk h];rfl
section dicts
variable [DecidableEq κ]
def rj:∀ {ks:List κ} {vs:List D} {x:κ} {d:D} {y:κ},ks.length=vs.length->x∉ks->aB (ks++[x]) (vs++[d]) y=if x=y then some d else aB ks vs y
 | [],[],x,d,y,_,_=>by simp[aB]
 | k::ks,v::vs,x,d,y,h,hn=>by
  simp at h hn;have:=rj (ks:=ks) (vs:=vs) (x:=x) (d:=d) (y:=y) h hn.2;simp only[List.cons_append,aB];by_cases e:k=y
  ·rw[if_pos e,if_pos e,if_neg (fun c=>hn.1 (c.trans e.symm))]
  ·rw[if_neg e,if_neg e,this]
def rN:∀ {ks:List κ} {vs:List D} {x:κ} {d:D} {y:κ},ks.length=vs.length->x∈ks->aB ks (List.zipWith (fun k v=>if k=x then d else v) ks vs) y=if x=y then some d else aB ks vs y
 | k::ks,v::vs,x,d,y,h,hm=>by
  simp at h;simp only[List.zipWith_cons_cons,aB];by_cases e:k=y
  ·rw[if_pos e,if_pos e];by_cases e':k=x
   ·rw[if_pos e',if_pos (e'.symm.trans e)]
   ·rw[if_neg e',if_neg (fun c=>e' (e.trans c.symm))]
  ·rw[if_neg e,if_neg e];by_cases hx:x∈ks
   ·exact rN h hx
   ·have kx:x=k:=by simpa[hx]using hm
    rw[if_neg (fun c=>e (kx.symm.trans c))]
    have:List.zipWith (fun k v=>if k=x then d else v) ks vs=vs:=by
     clear e hm kx
     induction ks generalizing vs with
     | nil=>cases vs with | nil=>rfl | cons _ _=>simp at h
     | cons a ks ih=>cases vs with
      | nil=>simp at h
      |cons b vs=>
       simp at h hx;simp only[List.zipWith_cons_cons];rw[if_neg (fun c=>hx.1 c.symm),ih (vs:=vs) (h:=h) (hx:=hx.2)]
    rw[this]
def eW{ks:List κ}(h:ks.length=vs.length):aB (putD ks vs x d).1 (putD ks vs x d).2 y=if x=y then some d else aB ks vs y:=by
 unfold putD;split
 ·exact rN h ‹_›
 ·exact rj h ‹_›
def gA{ks:List κ}(h:ks.length=vs.length):(putD ks vs x d).1.length=(putD ks vs x d).2.length/\(putD ks vs x d).1.length<=ks.length+1:=by
 unfold putD;split<;>simp[h]
end dicts
abbrev sd(b:Bool):PySem.Str:=if b then PySem.Str.ofString "high" else PySem.Str.ofString "low"
def qw(b:Bool):(sd b == PySem.Str.ofString "high")=b:=by cases b<;>decide +kernel
def Dt(h:sd a=sd b):a=b:=by
 have:=qw a;rw[h,qw]at this;exact this.symm
abbrev nk(b:Bool)(p:Nat):List Ky:=[.inr (sd b),.inl (p:Int)]
def rX(h:nk a p=nk b q):a=b/\p=q:=by
 unfold nk at h;injection h with h1 h2;injection h1 with h1;injection h2 with h2;injection h2 with h2;exact⟨Dt h1,by lia⟩
abbrev bb(b:Bool)(x:Nat):D:=.tup [.str (sd b),.int x]
abbrev pick(h l:List Nat)(b:Bool):List Nat:=if b then h else l
abbrev ke(h l:List Nat)(k:Nat)(ks:List (List Ky))(vs:List D):Prop:=ks.length=vs.length/\ks.length<=2*k/\∀ b p,p<k->aB ks vs (nk b p)=some (bb b (at' (pick h l b) p))
def ke.next{h l:List Nat}(N:ke h l k ks vs):ke h l (k+1) (putD (putD ks vs (nk true k) (bb true (at' h k))).1 (putD ks vs (nk true k) (bb true (at' h k))).2 (nk false k) (bb false (at' l k))).1 (putD (putD ks vs (nk true k) (bb true (at' h k))).1 (putD ks vs (nk true k) (bb true (at' h k))).2 (nk false k) (bb false (at' l k))).2:=by
 obtain⟨n1,n2,n3⟩:=N;obtain⟨a1,a2⟩:=gA (x:=nk true k) (d:=bb true (at' h k)) n1;obtain⟨b1,b2⟩:=gA (x:=nk false k) (d:=bb false (at' l k)) a1;refine⟨b1,by lia,fun b p hp=>?_⟩;rw[eW a1,eW n1];by_cases e:p=k
 ·subst e;cases b
  ·rw[if_pos rfl];rfl
  ·rw[if_neg (fun c=>by have:=(rX c).1;cases this),if_pos rfl];rfl
 ·rw[if_neg (fun c=>e (rX c).2.symm),if_neg (fun c=>e (rX c).2.symm)];exact n3 b p (by lia)
def wZ{fr:Nat}(hn:n<=10)(hh:h.length=2*n)(hl:l.length=2*n):∃ ks vs o,ke h l (2*n) ks vs/\aY (ah cl [3,5,6] (fE fr)) [4] (L (List.range (2*n))) [some (.tup (L h)),some (.tup (L l)),some (.int n),some (.dT [] []),none,none,none,none,none]=some (.nx,[some (.tup (L h)),some (.tup (L l)),some (.int n),some (.dT ks vs),o,none,none,none,none]):=by
 obtain⟨σ',e,ks,vs,o,rfl,N⟩:=cQ (f:=ah cl [3,5,6] (fE fr)) (tg:=[4]) (xs:=List.range (2*n)) (σ:=[some (.tup (L h)),some (.tup (L l)),some (.int n),some (.dT [] []),none,none,none,none,none])
  (fun p σ=>∃ ks vs o,σ=[some (.tup (L h)),some (.tup (L l)),some (.int n),some (.dT ks vs),o,none,none,none,none]/\ke h l p.length ks vs) ⟨[],[],none,rfl,rfl,by simp,by simp⟩ (by
   rintro p x q σ hx ⟨ks,vs,o,rfl,N⟩;obtain⟨h1,h2⟩:=d8 (g:=id) (by simpa using hx);simp only[id]at h2;subst h2;have i1:=dC (f:=h) (x:=p.length) (by lia);have i2:=dC (f:=l) (x:=p.length) (by lia);have a:=gA (x:=nk true p.length) (d:=bb true (at' h p.length)) N.1
   have m1:ks.length<most:=by have:=N.2.1;unfold most;lia
   have m2:(putD ks vs (nk true p.length) (bb true (at' h p.length))).1.length<most:=by have:=N.2.1;unfold most;lia
   refine⟨_,?_,_,_,some (.int (p.length:Int)),rfl,by simpa using N.next⟩;have k1:keysOf [.str (PySem.Str.ofString "high"),.int (p.length:Int)]=some (nk true p.length):=rfl;have k2:keysOf [.str (PySem.Str.ofString "low"),.int (p.length:Int)]=some (nk false p.length):=rfl
   have u1:dJ (.dT ks vs) (.tup [.str (PySem.Str.ofString "high"),.int (p.length:Int)]) (.tup [.str (PySem.Str.ofString "high"),.int (at' h p.length:Nat)])=some (.dT (putD ks vs (nk true p.length) (bb true (at' h p.length))).1 (putD ks vs (nk true p.length) (bb true (at' h p.length))).2):=by
    rw[Fh];rw[k1,Option.bind_some,if_pos m1];rfl
   have u2:∀ ks vs,ks.length<most->dJ (.dT ks vs) (.tup [.str (PySem.Str.ofString "low"),.int (p.length:Int)]) (.tup [.str (PySem.Str.ofString "low"),.int (at' l p.length:Nat)])=some (.dT (putD ks vs (nk false p.length) (bb false (at' l p.length))).1 (putD ks vs (nk false p.length) (bb false (at' l p.length))).2):=by
    intro ks vs m;rw[Fh];rw[k2,Option.bind_some,if_pos m];rfl
   simp only[jm,fE,ah,kz,d5,om,gd,aR,evs,List.set,Option.bind_some,List.getElem?_cons_zero,List.getElem?_cons_succ,id,i1,i2,Option.map_some,D.imm,au,Bool.and_self,if_true,u1,u2 _ _ m2])
 simp only[List.length_range]at N;exact⟨ks,vs,o,N,e⟩
abbrev stp(n:Nat)(h l:List Nat)(s:Bool × Nat):Bool × Nat:=if s.1=decide (n<=s.2)then(!s.1,at' (pick h l (!s.1)) ((s.2+n)%(2*n)))else s
abbrev itr(n:Nat)(h l:List Nat):Nat->Bool × Nat->Bool × Nat
 | 0,s=>s
 | i+1,s=>stp n h l (itr n h l i s)
abbrev Tr(n:Nat)(s:Bool × Nat)(m:Nat):Prop:=s.1=decide (n<=s.2)/\s.2%n=m
abbrev GD(gk:List Ky)(gv:List D)(k:Nat)(P:Nat->Prop):Prop:=gk.length=gv.length/\gk.length<=k/\∀ m:Nat,(aB gk gv (.inl (m:Int))).isSome=true↔P m
def GD.put(G:GD gk gv k P)(m0:Nat)(d:D):GD (putD gk gv (.inl (m0:Int)) d).1 (putD gk gv (.inl (m0:Int)) d).2 (k+1) (fun m=>P m\/m0=m):=by
 obtain⟨g1,g2,g3⟩:=G;obtain⟨a1,a2⟩:=gA (x:=(.inl (m0:Int):Ky)) (d:=d) g1;refine⟨a1,by lia,fun m=>?_⟩;rw[eW g1];by_cases e:m0=m
 ·subst e;simp
 ·rw[if_neg (fun c=>e (by injection c;lia)),g3];simp[e]
def GD.mono(G:GD gk gv k P)(hk:k<=k')(h:∀ m,P m↔Q m):GD gk gv k' Q :=
 ⟨G.1,by have:=G.2.1;lia,fun m=>(G.2.2 m).trans (h m)⟩
abbrev hst(n:Nat)(h l:List Nat)(ks:List (List Ky))(vs:List D)(o4:Option D)(fnd:List Nat)(gk:List Ky)(gv:List D)(o7 o8:Option D):St :=
 [some (.tup (L h)),some (.tup (L l)),some (.int n),some (.dT ks vs),o4,some (.lst (L fnd)),some (.dK gk gv),o7,o8]
section
def sM(b:Bool)(x:Nat):ixV (bb b x) (.int 0)=some (.str (sd b)):=rfl
def me(b:Bool)(x:Nat):ixV (bb b x) (.int 1)=some (.int (x:Nat)):=rfl
def lY(b:Bool):ixV (.lst [.str (PySem.Str.ofString "high"),.str (PySem.Str.ofString "low")]) (.int (if b=true then 1 else 0))=some (.str (sd !b)):=by cases b<;>rfl
def CF(h1:1<=n)(hn:n<=10)(N:ke h l (2*n) ks vs)(hx:x<2*n)(G:GD gk gv k P)(hk:k<=2000)(o4 o8:Option D)(t:D) :
  ∃ gk' gv',GD gk' gv' (k+1) (fun m=>P m\/Tr n (b,x) m)/\(aQ [8] t (hst n h l ks vs o4 fnd gk gv (some (bb b x)) o8)).bind (ah cl [3,5,6] (cU fr))=some (.nx,hst n h l ks vs o4 fnd gk' gv' (some (bb (stp n h l (b,x)).1 (stp n h l (b,x)).2)) (some t)):=by
 have e1:aG .mul (.int 2) (.int n)=some (.int (2*n)):=bX (by decide) (by decide)
 have cnd:ev cl (hst n h l ks vs o4 fnd gk gv (some (bb b x)) (some t)) (.cmp .eq (.cmp .eq (.ix (.var 7) (.cst (.int 0))) (.cst (.str "high"))) (.cmp .ge (.ix (.var 7) (.cst (.int 1))) (.var 2)))=some (.bl (b == decide (n<=x))):=by
  simp only[hst,cz,om,aR,d5,Option.bind_some,List.getElem?_cons_zero,List.getElem?_cons_succ,id,sM,me,EO,Dw,G8,Ex,DL,qw,Option.map_some];simp
 by_cases e:b=decide (n<=x)
 ·refine⟨_,_,(G.put (x%n) (.bl true)).mono (Nat.le_refl _) (fun m=>by simp[Tr,e]),?_⟩
  have m1:aG .mod (.int (x:Nat)) (.int n)=some (.int ((x%n:Nat):Int)):=by rw[gg (by lia)];simp
  have m2:aG .mod (.int ((x:Nat)+(n:Int))) (.int (2*(n:Int)))=some (.int (((x+n)%(2*n):Nat):Int)):=by rw[gg (by lia)];simp
  have u:dJ (.dK gk gv) (.int ((x%n:Nat):Int)) (.bl true)=some (.dK (putD gk gv (.inl ((x%n:Nat):Int)) (.bl true)).1 (putD gk gv (.inl ((x%n:Nat):Int)) (.bl true)).2):=by
   rw[FD];dsimp only[keyOf];rw[Option.bind_some,if_pos (by have:=G.2.1;unfold most;lia)]
  have lk:lG (.dT ks vs) (.tup [.str (sd !b),.int (((x+n)%(2*n):Nat):Int)])=some (bb (!b) (at' (pick h l !b) ((x+n)%(2*n)))):=by
   have:=N.2.2 (!b) ((x+n)%(2*n)) (Nat.mod_lt _ (by lia));rw[<-this];rfl
  have s1:stp n h l (b,x)=(!b,at' (pick h l !b) ((x+n)%(2*n))):=by unfold stp;rw[if_pos e]
  rw[s1]
  have eb:(b == decide (n<=x))=true:=by simp[e]
  rw[eb]at cnd;simp only[jm,hst,List.set,Option.bind_some,cU,ah,fC,f7,kz]at cnd ⊢;rw[cnd];simp only[Option.bind_some,truth,if_true,ah,iQ,eF,cz,d5,om,vf,kU,gd,aR,evs,List.getElem?_cons_zero,List.getElem?_cons_succ,id,sM,me,m1,u,D.imm,Option.map_some,List.set,EO,Dw,G8,Ex,DL,qw,EZ,lY,cw,e1,m2,lk];have ok:aN [3,5,6] (.ixD (.var 3) (.tup (.cons (.ix (.lst (.cons (.cst (.str "high")) (.cons (.cst (.str "low")) .nil))) (.bi .int (.cmp .eq (.ix (.var 7) (.cst (.int 0))) (.cst (.str "high"))))) (.cons (.bin .mod (.bin .add (.ix (.var 7) (.cst (.int 1))) (.var 2)) (.bin .mul (.cst (.int 2)) (.var 2))) .nil)))) (bb (!b) (at' (pick h l !b) ((x+n)%(2*n))))=true:=rfl;rw[if_pos ok];rfl
 ·refine⟨gk,gv,G.mono (by lia) (fun m=>by simp[Tr,e]),?_⟩
  have s1:stp n h l (b,x)=(b,x):=by unfold stp;rw[if_neg e]
  rw[s1]
  have eb:(b == decide (n<=x))=false:=by simp[e]
  rw[eb]at cnd;simp only[jm,hst,List.set,Option.bind_some,cU,ah,fC,f7,kz]at cnd ⊢;rw[cnd];simp[truth,ah]
def FZ(hh:∀ x,x<2*n->at' h x<2*n)(hl:∀ x,x<2*n->at' l x<2*n)(hs:s.2<2*n):(stp n h l s).2<2*n:=by
 unfold stp;split
 ·have m:(s.2+n)%(2*n)<2*n:=Nat.mod_lt _ (by lia);cases s.1
  ·exact hh _ m
  ·exact hl _ m
 ·exact hs
def gU(hh:∀ x,x<2*n->at' h x<2*n)(hl:∀ x,x<2*n->at' l x<2*n)(hs:s.2<2*n):∀ i,(itr n h l i s).2<2*n
 | 0=>hs
 | i+1=>FZ hh hl (gU hh hl hs i)
abbrev Met(n:Nat)(h l:List Nat)(s:Bool × Nat)(i:Nat)(m:Nat):Prop:=∃ j,j<i/\Tr n (itr n h l j s) m
def BF(h1:1<=n)(hn:n<=10)(N:ke h l (2*n) ks vs)(hh:∀ x,x<2*n->at' h x<2*n)(hl:∀ x,x<2*n->at' l x<2*n)(hs:s.2<2*n)(G:GD gk gv k P)(hk:k<=1000)(o4 o8:Option D) :
  ∃ gk' gv' o8',GD gk' gv' (k+4*n) (fun m=>P m\/Met n h l s (4*n) m)/\aY (ah cl [3,5,6] (cU fr)) [8] (L (List.range (4*n))) (hst n h l ks vs o4 fnd gk gv (some (bb s.1 s.2)) o8)=some (.nx,hst n h l ks vs o4 fnd gk' gv' (some (bb (itr n h l (4*n) s).1 (itr n h l (4*n) s).2)) o8'):=by
 obtain⟨σ',e,gk',gv',o8',rfl,G'⟩:=cQ (f:=ah cl [3,5,6] (cU fr)) (tg:=[8]) (xs:=List.range (4*n)) (σ:=hst n h l ks vs o4 fnd gk gv (some (bb s.1 s.2)) o8)
  (fun p σ=>∃ gk' gv' o8',σ=hst n h l ks vs o4 fnd gk' gv' (some (bb (itr n h l p.length s).1 (itr n h l p.length s).2)) o8'/\GD gk' gv' (k+p.length) (fun m=>P m\/Met n h l s p.length m))
  ⟨gk,gv,o8,rfl,G.mono (by simp) (fun m=>by simp[Met])⟩ (by
   rintro p x q σ hx ⟨gk',gv',o8',rfl,G'⟩;obtain⟨a1,a2⟩:=d8 (g:=id) (by simpa using hx);obtain⟨gk2,gv2,G2,e2⟩:=CF (cl:=cl) (fr:=fr) (fnd:=fnd) h1 hn N (gU hh hl hs p.length) G' (by lia) o4 o8' (.int (x:Nat)) (b:=(itr n h l p.length s).1);refine⟨_,e2,gk2,gv2,_,by rw[List.length_append];rfl,G2.mono (by simp;lia) (fun m=>?_)⟩;simp only[Met,List.length_append,List.length_singleton];constructor
   ·rintro((hp | ⟨j,h1,h2⟩) | h2)
    ·exact .inl hp
    ·exact .inr ⟨j,by lia,h2⟩
    ·exact .inr ⟨p.length,by lia,h2⟩
   ·rintro(hp | ⟨j,h1,h2⟩)
    ·exact .inl (.inl hp)
    ·by_cases hj:j=p.length
     ·subst hj;exact .inr h2
     ·exact .inl (.inr ⟨j,by lia,h2⟩))
 simp only[List.length_range]at G' e;exact⟨gk',gv',o8',G',e⟩
abbrev beg(n:Nat)(h l:List Nat)(p:Nat):Bool × Nat:=(decide (p<n),at' (pick h l (decide (p<n))) p)
abbrev ao(n:Nat)(h l:List Nat):List Nat:=(List.range (2*n)).map fun p=>(itr n h l (4*n) (beg n h l p)).2
abbrev Gn(n:Nat)(h l:List Nat)(k m:Nat):Prop:=∃ p,p<k/\Met n h l (beg n h l p) (4*n) m
def Im(b:Bool):ixV (.lst [.str (PySem.Str.ofString "high"),.str (PySem.Str.ofString "low")]) (.int (if b=true then 1 else 0))=some (.str (sd !b)):=lY b
def Dd(h1:1<=n)(hn:n<=10)(N:ke h l (2*n) ks vs)(hh:∀ x,x<2*n->at' h x<2*n)(hl:∀ x,x<2*n->at' l x<2*n)(o4 o7 o8:Option D) :
  ∃ gk gv o4' o7' o8',GD gk gv 1000 (Gn n h l (2*n))/\aY (ah cl [3,5,6] (fB fr)) [4] (L (List.range (2*n))) (hst n h l ks vs o4 [] [] [] o7 o8)=some (.nx,hst n h l ks vs o4' (ao n h l) gk gv o7' o8'):=by
 have e4:aG .mul (.int 4) (.int n)=some (.int (4*n)):=bX (by decide) (by decide);have r4:=df (n:=4*n) (by lia);rw[show((4*n:Nat):Int)=4*(n:Int) by lia]at r4
 obtain⟨σ',e,gk,gv,o4',o7',o8',rfl,G⟩:=cQ (f:=ah cl [3,5,6] (fB fr)) (tg:=[4]) (xs:=List.range (2*n)) (σ:=hst n h l ks vs o4 [] [] [] o7 o8)
  (fun p σ=>∃ gk gv o4' o7' o8',σ=hst n h l ks vs o4' ((List.range p.length).map fun p=>(itr n h l (4*n) (beg n h l p)).2) gk gv o7' o8'/\GD gk gv (40*p.length) (Gn n h l p.length))
  ⟨[],[],o4,o7,o8,rfl,rfl,by simp,fun m=>by simp[aB,Gn]⟩ (by
   rintro p x q σ hx ⟨gk,gv,o4',o7',o8',rfl,G⟩;obtain⟨a1,a2⟩:=d8 (g:=id) (by simpa using hx);simp only[id]at a2;subst a2
   have hb:(beg n h l p.length).2<2*n:=by
    unfold beg pick;cases decide (p.length<n)
    ·exact hl _ a1
    ·exact hh _ a1
   obtain⟨gk2,gv2,o82,G2,e2⟩:=BF (cl:=cl) (fr:=fr) (fnd:=(List.range p.length).map fun p=>(itr n h l (4*n) (beg n h l p)).2) h1 hn N hh hl hb G (by lia) (some (.int (p.length:Nat))) o8'
   have c1:bB .ge (.int (p.length:Nat)) (.int n)=some (!decide (p.length<n)):=by
    rw[qJ];congr 1;by_cases c:p.length<n
    ·simp[c]
    ·simp[c];lia
   have lk:lG (.dT ks vs) (.tup [.str (sd (decide (p.length<n))),.int (p.length:Nat)])=some (bb (beg n h l p.length).1 (beg n h l p.length).2):=by
    have:=N.2.2 (decide (p.length<n)) p.length a1;rw[show bb (beg n h l p.length).1 (beg n h l p.length).2=bb (decide (p.length<n)) (at' (pick h l (decide (p.length<n))) p.length)from rfl,<-this];rfl
   have sx:=lY (!decide (p.length<n));rw[Bool.not_not]at sx;refine⟨hst n h l ks vs (some (.int (p.length:Nat))) ((List.range (p++[p.length]).length).map fun p=>(itr n h l (4*n) (beg n h l p)).2) gk2 gv2 (some (bb (itr n h l (4*n) (beg n h l p.length)).1 (itr n h l (4*n) (beg n h l p.length)).2)) o82,?_,gk2,gv2,_,_,_,rfl,G2.mono (by simp;lia) (fun m=>?_)⟩
   ·have ok:aN [3,5,6] (.ixD (.var 3) (.tup (.cons (.ix (.lst (.cons (.cst (.str "high")) (.cons (.cst (.str "low")) .nil))) (.bi .int (.cmp .ge (.var 4) (.var 2)))) (.cons (.var 4) .nil)))) (bb (beg n h l p.length).1 (beg n h l p.length).2)=true:=rfl;simp only[jm,hst,List.set,Option.bind_some,fB,ah,vN,fC,gO,eF,d5,om,aR,vf,kU,gd,iQ,cz,evs,bf,List.getElem?_cons_zero,List.getElem?_cons_succ,id,c1,Option.map_some,EZ,sx,lk,e4,r4]at e2 ⊢;rw[if_pos ok];simp only[Option.bind_some,e4,r4,List.getElem?_cons_zero,List.getElem?_cons_succ,id,e2,me]
    have ml:((D.int (((itr n h l (4*n) (beg n h l p.length)).2:Nat):Int)).imm&&decide ((L (List.map (fun p=>(itr n h l (4*n) (beg n h l p)).snd) (List.range p.length))).length<most))=true:=by
     simp[D.imm,aM,most];lia
    rw[if_pos ml];simp[L,List.range_succ]
   ·simp only[Gn,List.length_append,List.length_singleton];constructor
    ·rintro(⟨j,h1,h2⟩ | h2)
     ·exact⟨j,by lia,h2⟩
     ·exact⟨p.length,by lia,h2⟩
    ·rintro⟨j,h1,h2⟩;by_cases hj:j=p.length
     ·subst hj;exact .inr h2
     ·exact .inl ⟨j,by lia,h2⟩)
 simp only[List.length_range]at G e;exact⟨gk,gv,o4',o7',o8',G.mono (by lia) (fun _=>Iff.rfl),e⟩
def Aq(h1:1<=n)(hn:n<=10)(h2:h.length=2*n)(l2:l.length=2*n)(hh:∀ x,x<2*n->at' h x<2*n)(hl:∀ x,x<2*n->at' l x<2*n) :
  ∃ inner:List Nat,(∀ m,m∈inner↔m<n/\¬ Gn n h l (2*n) m)/\inner.length<=n/\∀ r:Int,cl fr [.tup (L h),.tup (L l),.lst (L inner)]=some (.int r)->evF cl (fZ fr) [.tup (L h),.tup (L l)]=some (.tup [.tup (L (ao n h l)),.int r]):=by
 have e1:aG .mul (.int 2) (.int n)=some (.int (2*n)):=bX (by decide) (by decide);have r2:=df (n:=2*n) (by lia);rw[show((2*n:Nat):Int)=2*(n:Int) by lia]at r2;have r1:=df (n:=n) (by lia);obtain⟨ks,vs,o,N,en⟩:=wZ (cl:=cl) (fr:=fr) hn h2 l2;obtain⟨gk,gv,o4,o7,o8,G,eb⟩:=Dd (cl:=cl) (fr:=fr) h1 hn N hh hl o none none;refine⟨(List.range n).filter fun m:Nat=>!(aB gk gv (.inl (m:Int))).isSome,fun m=>?_,?_,?_⟩
 ·have:=G.2.2 m;simp[<-this]
 ·have:=List.length_filter_le (fun m:Nat=>!(aB gk gv (.inl (m:Int))).isSome) (List.range n);simpa using this
 ·intro r hr;have e6:=half (xs:=L h) (n:=n) (by rw[aM,h2]);have e7:=EU n;have ft:=rM (xs:=List.range n) (by simp;lia)
  have mc:=sW (F:=fun σ1=>((ev cl σ1 (.inD true (.var 4) (.var 6))).bind truth).bind fun k=>if k then(ev cl σ1 (.var 4)).map some else some none) (tg:=[4]) (σ:=hst n h l ks vs o4 (ao n h l) gk gv o7 o8) (g:=fun m=>.int (m:Nat)) (c:=fun m=>!(aB gk gv (.inl (m:Int))).isSome) (fun _=>rfl) (List.range n) (by
   intro x _;simp only[jm,hst,List.set,Option.bind_some,qh,aR,List.getElem?_cons_zero,List.getElem?_cons_succ,id,jU,keyOf,Option.map_some,truth,if_true]
   cases(aB gk gv (.inl (x:Int))).isSome<;>rfl)
  simp only[evF,fZ,ah,fC,gO,qk,dz,iQ,eF,d5,aR,kU,gd,HJ,HL,bf];simp[e6,e7,aN,D.imm,a8,au,e1,r2];rw[en];simp[ah,iQ,c7,jI,aR,qh,evs,bf,e1,r2,a8,au,D.imm];simp[hst]at eb;rw[show L []=[]from rfl]at eb;rw[eb];simp[ah,evs,bf,r1,ft,zF,items];simp[qh,aR,hst]at mc;rw[mc];rw[show(List.map (fun m:Nat=>D.int (m:Int)) (List.filter (fun m:Nat=>(aB gk gv (Sum.inl (m:Int))).isNone) (List.range n)))=L (List.filter (fun m:Nat=>(aB gk gv (Sum.inl (m:Int))).isNone) (List.range n))from rfl];simp at hr;simp[hr,bh,D.imm,au,aP,aW]
end
def gJ [DecidableEq κ]:∀ {ks:List κ} {vs:List D} {x:κ} {d:D},aB ks vs x=some d->x∈ks
 | k::ks,v::vs,x,d,h=>by
  rw[aB]at h;by_cases e:k=x
  ·simp[e]
  ·rw[if_neg e]at h;simp[gJ h]
def zM{κ:Type} [DecidableEq κ]{ks:List κ}{vs:List D}{x:κ}(h:aB ks vs x=some d):(putD ks vs x e).1=ks:=by
 unfold putD;rw[if_pos (gJ h)]
abbrev HI(inner:List Nat)(hk:List Ky)(hv:List D):Prop:=hk.length=hv.length/\hk.length<=10/\∀ m∈inner,∃ v:Int,aB hk hv (.inl (m:Int))=some (.int v)
def HI.put{inner:List Nat}{hk:List Ky}{hv:List D}(H:HI inner hk hv){m:Nat}(hm:m∈inner)(v:Int):HI inner (putD hk hv (.inl (m:Int)) (.int v)).1 (putD hk hv (.inl (m:Int)) (.int v)).2:=by
 obtain⟨a,b,c⟩:=H;obtain⟨v0,h0⟩:=c m hm;refine⟨(gA a).1,by rw[zM h0];exact b,fun i hi=>?_⟩;rw[eW a];by_cases e:(.inl (m:Int):Ky)=.inl (i:Int)
 ·rw[if_pos e];exact⟨v,rfl⟩
 ·rw[if_neg e];exact c i hi
abbrev rst(n:Nat)(h l inner:List Nat)(hk:List Ky)(hv:List D)(o5 o6 o7 o8 o9:Option D):St :=
 [some (.tup (L h)),some (.tup (L l)),some (.lst (L inner)),some (.int n),some (.dK hk hv),o5,o6,o7,o8,o9]
section
def kA(e:aB hk hv (.inl (m:Int))=some (.int v)):lG (.dK hk hv) (.int (m:Nat))=some (.int v):=e
def ints_map(v:Nat->Int):∀ xs:List Nat,eC (xs.map fun m=>.int (v m))=some (xs.map v)
 | []=>rfl
 | x::r=>by simp[eC,ints_map v r]
end
abbrev cN(n:Nat)(f:List Nat):List Nat:=(List.range (2*n)).map fun p=>if p<n then(if at' f p<n then at' f p else p+n)else(if at' f (p-n)<n then at' f (p-n)+n else p-n)
def mT(h:p<2*n):at' (cN n f) p=if p<n then(if at' f p<n then at' f p else p+n)else(if at' f (p-n)<n then at' f (p-n)+n else p-n):=by
 unfold cN;rw[at'];rw[List.getElem?_map,List.getElem?_range h];rfl
def cI(hs:stp n h l s=s):∀ i,itr n h l i s=s
 | 0=>rfl
 | i+1=>by rw[itr,cI hs i,hs]
def dR(hs:stp n h l s=t)(ht:stp n h l t=t):∀ i,itr n h l (i+1) s=t
 | 0=>hs
 | i+1=>by rw[itr,dR hs ht i,ht]
section
def B8(F:Frm n f)(h:p<n):at' (bI n f) p=if at' f (p+n)<n then at' f (p+n)+n else at' f (p+n)-n:=by
 rw[p7 (by lia),Nat.mod_eq_of_lt (a:=p+n) (by lia)];have:=F.lt (p+n) (by lia);split
 ·rw[Nat.mod_eq_of_lt (by lia)]
 ·rw[Nat.mod_eq_sub_mod (by lia),Nat.mod_eq_of_lt (by lia)];lia
def Ce(F:Frm n f)(h:n<=p)(h2:p<2*n):at' (bI n f) p=if at' f (p-n)<n then at' f (p-n)+n else at' f (p-n)-n:=by
 rw[p7 (by lia),show(p+n)%(2*n)=p-n by rw[Nat.mod_eq_sub_mod (by lia),Nat.mod_eq_of_lt (by omega)];lia];have:=F.lt (p-n) (by lia);split
 ·rw[Nat.mod_eq_of_lt (by lia)]
 ·rw[Nat.mod_eq_sub_mod (by lia),Nat.mod_eq_of_lt (by lia)];lia
def CP(F:Frm n f)(hp:p<2*n):(∀ i,(itr n f (bI n f) (i+1) (beg n f (bI n f) p)).2=at' (cN n f) p)/\∀ i m,m<n->Tr n (itr n f (bI n f) i (beg n f (bI n f) p)) m->at' f (n+m)<n:=by
 rw[mT hp];by_cases h:p<n
 ·have b0:beg n f (bI n f) p=(true,at' f p):=by simp[beg,h,pick]
  rw[b0,if_pos h];have l0:=F.lt p (by lia);by_cases c:at' f p<n
  ·have st:stp n f (bI n f) (true,at' f p)=(true,at' f p):=by
    unfold stp;rw[if_neg (by simp;lia)]
   refine⟨fun i=>by rw[cI st,if_pos c],fun i m hm t=>?_⟩;rw[cI st]at t;have:=t.1;simp at this;lia
  ·have st:stp n f (bI n f) (true,at' f p)=(false,p+n):=by
    unfold stp;rw[if_pos (by simp;lia)];show(false,at' (bI n f) ((at' f p+n)%(2*n)))=_;rw[show(at' f p+n)%(2*n)=at' f p-n by rw[Nat.mod_eq_sub_mod (by lia),Nat.mod_eq_of_lt (by lia)];lia,B8 F (by lia),show at' f p-n+n=at' f p by lia,F.inv,if_pos h]
   have s2:stp n f (bI n f) (false,p+n)=(false,p+n):=by
    unfold stp;rw[if_neg (by simp)]
   refine⟨fun i=>by rw[dR st s2,if_neg c],fun i m hm t=>?_⟩
   cases i with
   |zero=>
    have t2:=t.2;simp only[itr]at t2
    have:n+m=at' f p:=by
     rw[Nat.mod_eq_sub_mod (by lia),Nat.mod_eq_of_lt (by omega)]at t2;lia
    rw[this,F.inv];exact h
   |succ i=>
    rw[dR st s2]at t;have:=t.1;simp at this
 ·have b0:beg n f (bI n f) p=(false,at' (bI n f) p):=by simp[beg,h,pick]
  rw[b0,if_neg h,Ce F (by lia) hp];have l0:=F.lt (p-n) (by lia);by_cases c:at' f (p-n)<n
  ·rw[if_pos c,if_pos c]
   have st:stp n f (bI n f) (false,at' f (p-n)+n)=(false,at' f (p-n)+n):=by
    unfold stp;rw[if_neg (by simp)]
   refine⟨fun i=>by rw[cI st],fun i m hm t=>?_⟩;rw[cI st]at t;have:=t.1;simp at this
  ·rw[if_neg c,if_neg c]
   have st:stp n f (bI n f) (false,at' f (p-n)-n)=(true,p-n):=by
    unfold stp;rw[if_pos (by simp;lia)];show(true,at' f ((at' f (p-n)-n+n)%(2*n)))=_;rw[show at' f (p-n)-n+n=at' f (p-n) by lia,Nat.mod_eq_of_lt l0,F.inv]
   have s2:stp n f (bI n f) (true,p-n)=(true,p-n):=by
    unfold stp;rw[if_neg (by simp;lia)]
   refine⟨fun i=>by rw[dR st s2],fun i m hm t=>?_⟩
   cases i with
   |zero=>
    have t2:=t.2;simp only[itr]at t2;rw[Nat.mod_eq_of_lt (by omega)]at t2
    have:n+m=at' f (p-n):=by lia
    rw[this,F.inv];lia
   |succ i=>
    rw[dR st s2]at t;have:=t.1;simp at this;lia
def yI(h1:1<=n)(F:Frm n f):ao n f (bI n f)=cN n f:=by
 apply xt (n:=n) (by simp[ao]) (by simp[cN]);funext p;by_cases hp:p<2*n
 ·have:=(CP F hp).1 (4*n-1);rw[<-this,show 4*n-1+1=4*n by lia];simp[at',ao,hp]
 ·rw[cF (by simp[ao];lia),cF (by simp[cN];lia)]
def mz(F:Frm n f)(h:q<n):rnd n f q=if at' f q<n then at' f q else 3*n-1-at' f q:=by
 unfold rnd;rw[show rd n q=q by simp[rd,h]];rfl
end
def jT(im:∀ x,(g x).imm=true):∀ xs:List Nat,(∀ x∈xs,(aQ tg (h x) σ).bind F=some (if c x then some (g x)else none))->bT F tg σ (xs.map h)=some ((xs.filter c).map g)
 | [],_=>rfl
 | x::r,hh=>by
  have a:=hh x (by simp);have b:=jT im r (fun y hy=>hh y (by simp[hy]));rw[List.map_cons,bT]
  cases hb:aQ tg (h x) σ with
  | none=>rw[hb]at a;cases a
  |some σ1=>
   rw[hb]at a;simp only[Option.bind_some]at a ⊢;rw[a,b];cases hc:c x<;>simp[jS,im,hc]
abbrev pr(f:List Nat)(p:Nat):D:=.tup [.int (p:Nat),.int (at' f p:Nat)]
def uT:∀ (f:List Nat) (k:Nat),cZ (k:Int) (L f)=(List.range f.length).map fun p=>.tup [.int ((k+p:Nat):Int),.int (at' f p:Nat)]
 | [],k=>rfl
 | x::r,k=>by
  rw[show L (x::r)=.int x::L r from rfl,cZ,show(k:Int)+1=((k+1:Nat):Int) by lia,uT r (k+1),List.length_cons,List.range_succ_eq_map,List.map_cons,List.map_map];congr 1;apply List.map_congr_left;intro p hp;simp at hp
  have e:at' (x::r) (p+1)=at' r p:=by simp[at',hp]
  simp[e];lia
def iM(h:f.length=m):cZ 0 (L f)=(List.range m).map (pr f):=by
 have:=uT f 0;rw[h]at this;simp only[Nat.zero_add]at this;exact this
def rq(g:β->D)(im:∀ b,(g b).imm=true)(I:List β->St->Prop):∀ (w done:List β) (σ:St),(∀ u b v σ,done++w=u++b::v->I u σ->∃ σ2,(aQ tg (g b) σ).bind f=some (.nx,σ2)/\I (u++[b]) σ2)->I done σ->∃ σ',aY f tg (w.map g) σ=some (.nx,σ')/\I (done++w) σ'
 | [],done,σ,_,h=>⟨σ,rfl,by simpa using h⟩
 | b::w,done,σ,hs,h=>by
  obtain⟨σ2,h1,h3⟩:=hs done b w σ rfl h;obtain⟨σ',h4,h5⟩:=rq g im I w (done++[b]) σ2 (fun pre e post σ he=>hs pre e post σ (by simpa using he)) h3;refine⟨σ',?_,by simpa using h5⟩;rw[List.map_cons,aY,if_pos (im b)]
  cases hb:aQ tg (g b) σ with
  | none=>rw[hb]at h1;cases h1
  |some σ1=>
   rw[hb]at h1;simp only[Option.bind_some]at h1 ⊢;rw[h1];exact h4
section
variable{n:Nat}
def mM(hp:p<2*n):evF cl cP [.int n,.int (p:Nat)]=some (.int (rd n p:Nat)):=by
 have e1:aG .mul (.int 3) (.int n)=some (.int (3*n)):=bX (by decide) (by decide);by_cases c:p<n
 ·have c1:decide ((p:Int)<n)=true:=by simp;lia
  simp[evF,cP,ah,dz,eF,cz,d5,v8,aR,dI,c1,truth,bh,D.imm,aW,rd,c]
 ·have c1:decide ((p:Int)<n)=false:=by simp;lia
  simp[evF,cP,ah,dz,eF,cz,d5,v8,aR,dI,c1,truth,e1,mr,bh,D.imm,aW,rd,c];lia
def vL{T:D}{c:List D->D}{to:Nat->Nat}(hc:c=.tup\/c=.lst)(hn:n<=10)(F:Frm n f)(hT:∀ p:Nat,p<2*n->ixV T (.int (p:Nat))=some (.int (to p:Nat)))(hlt:∀ p,p<2*n->to p<2*n)(inj:∀ p q,p<2*n->q<2*n->to p=to q->p=q) :
  ∃ E:List Nat,E.length=2*n/\(∀ p,p<2*n->at' E (to p)=to (at' f p))/\evF cl i8 [c (L f),T]=some (.tup (L E)):=by
 have ln:biV .len (c (L f))=some (.int (2*n)):=by rcases hc with rfl | rfl<;>simp[Il,AQ,aM,F.len]
 have it:fO (c (L f))=some (L f):=by rcases hc with rfl | rfl<;>rfl
 have en:=iM F.len
 have e0:aG .mul (.lst [.int 0]) (.int (2*(n:Int)))=some (.lst (L (List.replicate (2*n) 0))):=by
  rw[G0];rw[if_pos ⟨by lia,by unfold most;lia,by simp[most];lia⟩]
  have:(2*(n:Int)).toNat=2*n:=by lia
  rw[this];simp[L]
 obtain⟨σ',e,E,o3,o4,rfl,El,EE⟩:=rq (f:=ah cl [2] mj) (tg:=[3,4]) (pr f) (fun _=>rfl)
  (fun u σ=>∃ (E:List Nat) (o3 o4:Option D),σ=[some (c (L f)),some T,some (.lst (L E)),o3,o4]/\E.length=2*n/\∀ p∈u,at' E (to p)=to (at' f p))
  (List.range (2*n)) [] [some (c (L f)),some T,some (.lst (L (List.replicate (2*n) 0))),none,none] (by
   rintro u p v σ hu ⟨E,o3,o4,rfl,El,EE⟩
   have hp:p<2*n:=by
    have:p∈List.range (2*n):=by
     simp only[List.nil_append]at hu;rw[hu];simp
    simpa using this
   have hpu:∀ x∈u,x<2*n/\x≠p:=by
    intro x hx;simp only[List.nil_append]at hu;have nd:(List.range (2*n)).Nodup:=List.nodup_range
    have m:x∈List.range (2*n):=by rw[hu];simp[hx]
    rw[hu,List.nodup_append]at nd;exact⟨by simpa using m,nd.2.2 x hx p (by simp)⟩
   have t1:=hT p hp;have t2:=hT (at' f p) (F.lt p hp);have pt:=FC (f:=E) (i:=to p) (j:=to (at' f p)) (by have:=hlt p hp;lia);refine⟨_,?_,E.set (to p) (to (at' f p)),some (.int (p:Nat)),some (.int (at' f p:Nat)),rfl,by simp[El],fun x hx=>?_⟩
   ·simp[vE,uZ,vn,pr,mj,ah,kz,om,aR,t1,t2,D.imm,pt]
   ·rw[jV (by have:=hlt p hp;lia)];simp at hx;rcases hx with hx | rfl
    ·rw[if_neg (fun c=>(hpu x hx).2 (inj x p (hpu x hx).1 hp c))];exact EE x hx
    ·rw[if_pos rfl])
  ⟨_,none,none,rfl,by simp,by simp⟩
 refine⟨E,El,fun p hp=>EE p (by simp[hp]),?_⟩;simp only[evF,i8,ah,gO,qk,dz,iQ,eF,d5,kU,aR,evs,bf];simp[evs,ln,e0,a8,aP,it,en];rw[e];simp[ah,zF,items,bh,D.imm,aP,aW]
def xu{T:D}{to:Nat->Nat}(hn:n<=10)(F:Frm n f)(hT:∀ p:Nat,p<2*n->ixV T (.int (p:Nat))=some (.int (to p:Nat)))(hlt:∀ p,p<2*n->to p<2*n)(inj:∀ p q,p<2*n->q<2*n->to p=to q->p=q) :
  ∃ E:List Nat,E.length=2*n/\(∀ p,p<2*n->at' E (to p)=to (at' f p))/\evF cl i8 [.tup (L f),T]=some (.tup (L E)):=vL (.inl rfl) hn F hT hlt inj
def qc{c:List D->D}(hc:c=.tup\/c=.lst)(hn:n<=10)(F:Frm n f)(hpo:∀ xs:List D,cl fpo [c xs]=some (.int (xs.length / 2)))(hrp:∀ p:Nat,p<2*n->cl frp [.int n,.int (p:Nat)]=some (.int (rd n p:Nat)))
 (hm:∃ E:List Nat,E.length=2*n/\(∀ p,p<2*n->at' E (rd n p)=rd n (at' f p))/\cl fm [c (L f),.lst (L (oF n))]=some (.tup (L E))) :
  ∃ E:List Nat,E.length=2*n/\(∀ q,q<2*n->at' E q=rnd n f q)/\evF cl (eN fm frp fpo) [c (L f)]=some (.tup (L E)):=by
 obtain⟨E,El,EE,hm⟩:=hm;refine⟨E,El,fun q hq=>?_,?_⟩
 ·have:=EE (rd n q) (bM hq);rw[cD hq]at this;exact this
 ·have e1:aG .mul (.int 2) (.int n)=some (.int (2*n)):=bX (by decide) (by decide);have r2:=df (n:=2*n) (by lia);rw[show((2*n:Nat):Int)=2*(n:Int) by lia]at r2;have ft:=rM (xs:=List.range (2*n)) (by simp;lia);have po:=hpo (L f);rw[aM,F.len,show(((2*n:Nat):Int) / 2)=(n:Int) by lia]at po
  have mc:=qH (F:=fun σ1=>(ev cl σ1 (.call frp (.cons (.var 1) (.cons (.var 2) .nil)))).map some) (tg:=[2]) (σ:=[some (c (L f)),some (.int n),none]) (g:=fun p=>.int (rd n p:Nat)) (fun _=>rfl) (List.range (2*n)) (by
   intro x hx;simp at hx;have:=hrp x hx
   simp[jm,c7,aR,evs,this])
  rw[DD,show(List.range (2*n)).map (fun p=>rd n p)=oF n from rfl]at mc;simp only[evF,eN,ah,fC,dz,c7,aR,eF,tV,d5,evs,bf];simp[evs,po,aN,D.imm,e1,r2,ft];simp[c7,aR,evs]at mc;rw[mc];simp[hm,bh,D.imm,aP,aW]
def rA(hn:n<=10)(F:Frm n f)(hpo:∀ xs:List D,cl fpo [.tup xs]=some (.int (xs.length / 2)))(hrp:∀ p:Nat,p<2*n->cl frp [.int n,.int (p:Nat)]=some (.int (rd n p:Nat)))
 (hm:∃ E:List Nat,E.length=2*n/\(∀ p,p<2*n->at' E (rd n p)=rd n (at' f p))/\cl fm [.tup (L f),.lst (L (oF n))]=some (.tup (L E))) :
  ∃ E:List Nat,E.length=2*n/\(∀ q,q<2*n->at' E q=rnd n f q)/\evF cl (eN fm frp fpo) [.tup (L f)]=some (.tup (L E)):=qc (.inl rfl) hn F hpo hrp hm
end
structure Op(r:Nat->Nat)(k:Nat)(W:List Nat):Prop where
 up:W.Pairwise (·<·)
 mem:∀ p,p∈W↔p<k/\k<=r p
section
def Op.push(O:Op r k W)(inv:∀ q,q<m->r (r q)=q)(hk:k<m)(h:k<r k):Op r (k+1) (W++[k]):=by
 refine⟨?_,fun p=>?_⟩
 ·rw[List.pairwise_append];exact⟨O.up,by simp,fun a ha b hb=>by simp at hb;have:=(O.mem a).mp ha;lia⟩
 ·simp only[List.mem_append,List.mem_singleton,O.mem];constructor
  ·rintro(⟨a,b⟩ | rfl)
   ·refine⟨by lia,?_⟩;by_cases c:r p=k
    ·have:=inv p (by lia);rw[c]at this;lia
    ·lia
   ·lia
  ·rintro⟨a,b⟩;by_cases c:p=k
   ·exact .inr c
   ·exact .inl ⟨by lia,by lia⟩
end
section
def rQ(h1:1<=n)(hn:n<=10)(V:Val n f)(hpo:∀ xs:List D,cl fo [.tup xs]=some (.int (xs.length / 2)))(hc:cl fc [.int n]=some (.bl true))(hp:cl fp [.tup (L f)]=some (.bl true))
 (hi:∃ E:List Nat,E.length=2*n/\(∀ q,q<2*n->at' E q=rnd n f q)/\cl fi [.tup (L f)]=some (.tup (L E)))
 (hu:∀ E:List Nat,E.length=2*n->(∀ q,q<2*n->at' E (at' E q)=q)->(∀ q,q<2*n->at' E q≠q)->(∀ q q',q<2*n->q'<2*n->¬ (q<q'/\q'<at' E q/\at' E q<at' E q'))->(∀ q,q<2*n->at' E q<2*n)->cl fu [.tup (L E)]=some (.bl true)) :
  evF cl (gc fu fi fp fc fo) [.tup (L f)]=some (.bl true):=by
 have F:=V.frm;obtain⟨E,El,Ea,hi⟩:=hi;have rl:∀ q,q<2*n->rnd n f q<2*n:=fun q hq=>bM (F.lt _ (bM hq))
 have hu:=hu E El (fun q hq=>by
   rw[Ea q hq,Ea _ (rl q hq)];unfold rnd
   rw[cD (F.lt _ (bM hq)),F.inv,cD hq]) (fun q hq e=>by
   rw[Ea q hq]at e;unfold rnd at e;have:=congrArg (rd n) e;rw[cD (F.lt _ (bM hq))]at this
   exact F.no _ (bM hq) this) (fun q q' h h'=>by
   rw[Ea q h,Ea q' h']
   exact V.nox q q' h h') (fun q hq=>by rw[Ea q hq];exact rl q hq)
 have e1:aG .mul (.int 2) (.int n)=some (.int (2*n)):=bX (by decide) (by decide);have ln:=half (xs:=L f) (n:=n) (by rw[aM,F.len]);have po:=hpo (L f);rw[aM,F.len,show(((2*n:Nat):Int) / 2)=(n:Int) by lia]at po;have en:=iM F.len
 have ft:fits ((List.range (2*n)).map (pr f))=some ((List.range (2*n)).map (pr f)):=by
  unfold fits;rw[if_pos (by simp[most];lia)]
 have mc:=jT (F:=fun σ1=>((ev cl σ1 (.cmp .eq (.var 3) (.var 4))).bind truth).bind fun k=>if k then(ev cl σ1 (.var 3)).map some else some none) (tg:=[3,4]) (σ:=[some (.tup (L f)),some (.int n),none,none,none]) (h:=pr f) (g:=fun p=>.int (p:Nat)) (c:=fun _=>false) (fun _=>rfl) (List.range (2*n)) (by
  intro x hx;simp at hx;have c2:((x:Int) == (at' f x:Nat))=false:=beq_eq_false_iff_ne.mpr (by have:=F.no x hx;lia)
  simp[vE,uZ,vn,pr,cz,aR,gM,c2,truth])
 rw[show(List.range (2*n)).filter (fun _=>false)=[]from List.filter_eq_nil_iff.mpr (by simp),List.map_nil]at mc
 have ne0:bB .ne (.int (2*(n:Int))) (.int (2*(n:Int)))=some false:=by
  rw[nJ];simp
 simp only[evF,gc,ah,fC,f7,dz,c7,aR,mm,iQ,eF,cz,jI,d5,qp,Ep,evs,bf];simp[evs,po,aN,D.imm,ln,e1,ne0,hc,hp,truth,ah,bf,fO,en,ft];simp[cz,aR]at mc;rw[mc];simp[ah,evs,a8,au,hi,hu,truth,bh,D.imm,aW,IV]
def nE(h:cl fi [x]=some (.bl true)):evF cl (dD fi) [x]=some .non:=by
 simp[evF,dD,ah,f7,xP,c7,qp,aR,evs,h,truth,aW]
abbrev wu(n:Nat)(f:List Nat):D:=.lst (((List.range (2*n)).filter fun p=>decide (p<at' f p)).map (pr f))
def Al(hn:n<=10)(F:Frm n f)(hc:cl fc [.tup (L f)]=some .non):evF cl (iI fc) [.tup (L f)]=some (wu n f):=by
 have en:=iM F.len
 have ft:fits ((List.range (2*n)).map (pr f))=some ((List.range (2*n)).map (pr f)):=by
  unfold fits;rw[if_pos (by simp[most];lia)]
 have mc:=jT (F:=fun σ1=>((ev cl σ1 (.cmp .lt (.var 1) (.var 2))).bind truth).bind fun k=>if k then(ev cl σ1 (.tup (.cons (.var 1) (.cons (.var 2) .nil)))).map some else some none) (tg:=[1,2]) (σ:=[some (.tup (L f)),none,none]) (h:=pr f) (g:=pr f) (c:=fun p=>decide (p<at' f p)) (fun _=>rfl) (List.range (2*n)) (by
  intro x hx;by_cases c:x<at' f x
  ·have c2:decide ((x:Int)<(at' f x:Nat))=true:=by simp;lia
   simp[vE,uZ,vn,pr,cz,gd,aR,evs,dI,c2,truth,c]
  ·have c2:decide ((x:Int)<(at' f x:Nat))=false:=by simp;lia
   simp[vE,uZ,vn,pr,cz,gd,aR,evs,dI,c2,truth,c])
 have im:∀ xs:List Nat,au (xs.map (pr f))=true:=by
  intro xs
  induction xs with
  | nil=>rfl
  | cons x r ih=>simp[au,ih,pr,D.imm]
 simp only[evF,iI,ah,nh,dz,c7,aR,jI,cz,gd,evs,bf];simp[evs,hc,ah,bf,fO,en,ft];simp[cz,gd,aR,evs]at mc;rw[mc];simp[bh,D.imm,a8,im,aW,wu]
abbrev thr(n:Nat)(f:List Nat):Nat:=((List.range n).filter fun p=>decide (n<=at' f p)).length
def uY(F:Frm n f):f.take n=(List.range n).map (at' f):=by
 have hl:=F.len;apply List.ext_getElem?;intro i;by_cases hi:i<n
 ·rw[List.getElem?_take_of_lt hi,fk (by lia)];simp[hi]
 ·rw[List.getElem?_eq_none (by simp;lia),List.getElem?_eq_none (by simp;lia)]
def tF(h1:1<=n)(hn:n<=10)(F:Frm n f)(hpo:∀ xs:List D,cl fo [.tup xs]=some (.int (xs.length / 2)))(hc:cl fc [.tup (L f)]=some .non):evF cl (hJ fo fc) [.tup (L f)]=some (.int (thr n f:Nat)):=by
 have po:=hpo (L f);rw[aM,F.len,show(((2*n:Nat):Int) / 2)=(n:Int) by lia]at po
 have ct:cutAt (L f).length (n:Int)=n:=by
  unfold cutAt;rw[if_pos (by lia),aM,F.len];lia
 have sl:jH (.tup (L f)) (.int n)=some (.tup (L ((List.range n).map (at' f)))):=by
  dsimp only[jH];rw[ct,if_pos (by rw[aM,F.len];lia),wD,uY F]
 have ft:=rM (xs:=(List.range n).map (at' f)) (by simp;lia)
 have mc:=sW (F:=fun σ1=>((ev cl σ1 (.cmp .ge (.var 2) (.var 1))).bind truth).bind fun k=>if k then(ev cl σ1 (.var 2)).map some else some none) (tg:=[2]) (σ:=[some (.tup (L f)),some (.int n),none]) (g:=fun p=>.int (p:Nat)) (c:=fun p=>decide (n<=p)) (fun _=>rfl) ((List.range n).map (at' f)) (by
  intro x hx;by_cases c:n<=x
  ·have c2:decide ((n:Int)<=(x:Nat))=true:=by simp;lia
   simp[jm,cz,aR,qJ,c2,truth,c]
  ·have c2:decide ((n:Int)<=(x:Nat))=false:=by simp;lia
   simp[jm,cz,aR,qJ,c2,truth,c])
 have ll:∀ xs:List D,biV .len (.lst xs)=some (.int xs.length):=fun _=>rfl;simp only[evF,hJ,ah,fC,nh,dz,c7,aR,iQ,jI,AV,cz,evs,bf];simp[evs,hc,ah,bf,po,aN,D.imm,sl,items,ft];simp[cz,aR]at mc;rw[mc];simp[ll,bh,D.imm,aW,thr,List.filter_map,Function.comp_def]
end
def my{β:Type}{F:St->Option (Option D)}{tg:List Nat}{σ:St}{h g:β->D}(im:∀ x,(g x).imm=true):∀ xs:List β,(∀ x∈xs,(aQ tg (h x) σ).bind F=some (some (g x)))->bT F tg σ (xs.map h)=some (xs.map g)
 | [],_=>rfl
 | x::r,hh=>by
  have a:=hh x (by simp);have b:=my im r (fun y hy=>hh y (by simp[hy]));rw[List.map_cons,bT]
  cases hb:aQ tg (h x) σ with
  | none=>rw[hb]at a;cases a
  |some σ1=>
   rw[hb]at a;simp only[Option.bind_some]at a ⊢;rw[a,b];simp[jS,im]
section
end
end RM
set_option maxHeartbeats 1000000
namespace RM
open RL RT
def qP(g:β->D)(im:∀ b,(g b).imm=true)(I:List β->St->Prop):∀ (w done:List β) (σ:St),(∀ u b v σ,done++w=u++b::v->I u σ->(∃ σ2,(aQ tg (g b) σ).bind f=some (.nx,σ2)/\I (u++[b]) σ2)\/(B/\∃ σ2,(aQ tg (g b) σ).bind f=some (.rt d,σ2)))->I done σ->(∃ σ',aY f tg (w.map g) σ=some (.nx,σ')/\I (done++w) σ')\/(B/\∃ σ',aY f tg (w.map g) σ=some (.rt d,σ'))
 | [],done,σ,_,h=>.inl ⟨σ,rfl,by simpa using h⟩
 | b::w,done,σ,hs,h=>by
  rcases hs done b w σ rfl h with⟨σ2,h1,h3⟩ | ⟨hB,σ2,h1⟩
  ·have go:∀ {r:Option (Out × St)},aY f tg (w.map g) σ2=r->aY f tg ((b::w).map g) σ=r:=fun {r} e=>by
    rw[List.map_cons,aY,if_pos (im b)]
    cases hb:aQ tg (g b) σ with
    | none=>rw[hb]at h1;cases h1
    |some σ1=>
     rw[hb]at h1;simp only[Option.bind_some]at h1 ⊢;rw[h1];exact e
   rcases qP (d:=d) (B:=B) g im I w (done++[b]) σ2 (fun pre e post σ he=>hs pre e post σ (by simpa using he)) h3 with⟨σ',h4,h5⟩ | ⟨hB,σ',h4⟩
   ·exact .inl ⟨σ',go h4,by simpa using h5⟩
   ·exact .inr ⟨hB,σ',go h4⟩
  ·refine .inr ⟨hB,σ2,?_⟩;rw[List.map_cons,aY,if_pos (im b)]
   cases hb:aQ tg (g b) σ with
   | none=>rw[hb]at h1;cases h1
   |some σ1=>
    rw[hb]at h1;simp only[Option.bind_some]at h1 ⊢;rw[h1];rfl
def yD(hi:(σ[i]?).bind id=some (.lst (xs++[.int p])))(h:ev cl (σ.set i (some (.lst xs))) e=some (.int q))(k:ah cl M (.cons (.ife (.cst (.bl (decide (p=q)))) b a) r) (σ.set i (some (.lst xs)))=res):ah cl M (.cons (.ifp i e a b) r) σ=res:=by
 have l:evS cl M (.ifp i e a b) σ=if decide (p=q)=true then ah cl M b (σ.set i (some (.lst xs)))else ah cl M a (σ.set i (some (.lst xs))):=by
  rw[GR,hi,Option.bind_some];show((xs++[D.int p])[(xs++[D.int p]).length-1]?).bind _=_;rw[show(xs++[D.int p])[(xs++[D.int p]).length-1]?=some (.int p) by simp,Option.bind_some,List.dropLast_concat,h];rfl
 have r':evS cl M (.ife (.cst (.bl (decide (p=q)))) b a) (σ.set i (some (.lst xs)))=if decide (p=q)=true then ah cl M b (σ.set i (some (.lst xs)))else ah cl M a (σ.set i (some (.lst xs))):=by
  rw[f7,aw];rfl
 rw[ah,r',<-l,<-ah]at k;exact k
abbrev Nx(r:Nat->Nat)(m:Nat):Prop:=∀ q q',q<q'->q'<r q->r q<m->¬ (r q<r q'\/r q'=q')
structure Oq(r:Nat->Nat)(k:Nat)(W:List Nat):Prop extends Op r k W where
 nx:Nx r k
 al:∀ q q',q<q'->q'<k->k<=r q->r q'≠q'
section
def Oq.push(O:Oq r k W)(inv:∀ q,q<m->r (r q)=q)(hk:k<m)(h:k<r k):Oq r (k+1) (W++[k]) where
 toOp:=O.toOp.push inv hk h
 nx:=fun q q' h1 h2 h3=>by
  by_cases c:r q=k
  ·exfalso;have:=inv q (by lia);rw[c]at this;lia
  ·exact O.nx q q' h1 h2 (by lia)
 al:=fun q q' h1 h2 h3=>by
  by_cases c:q'=k
  ·subst c;lia
  ·exact O.al q q' h1 (by lia) (by lia)
def Oq.alone(O:Oq r k [])(inv:∀ q,q<m->r (r q)=q)(hk:k<m)(h:r k=k):Oq r (k+1) []:=by
 have no:∀ q,q<k->k<=r q->False:=fun q h1 h2=>by
  have:=(O.mem q).mpr ⟨h1,h2⟩;cases this
 refine⟨⟨.nil,fun p=>⟨fun h=>(by cases h),fun⟨a,b⟩=>?_⟩⟩,fun q q' h1 h2 h3=>?_,fun q q' h1 h2 h3=>?_⟩
 ·by_cases c:p=k
  ·subst c;lia
  ·exact(no p (by lia) (by lia)).elim
 ·by_cases c:r q=k
  ·exfalso;have:=inv q (by lia);rw[c,h]at this;lia
  ·exact O.nx q q' h1 h2 (by lia)
 ·exact(no q (by lia) (by lia)).elim
def Oq.pop(O:Oq r k (W0++[r k]))(inv:∀ q,q<m->r (r q)=q)(hk:k<m)(h:r k<k):Oq r (k+1) W0:=by
 have up:=O.up;rw[List.pairwise_append]at up;refine⟨⟨up.1,fun p=>?_⟩,fun q q' h1 h2 h3=>?_,fun q q' h1 h2 h3=>?_⟩
 ·constructor
  ·intro hp;have lt:=up.2.2 p hp (r k) (by simp);have:=(O.mem p).mp (by simp[hp]);refine⟨by lia,?_⟩;by_cases c:r p=k
   ·have i:=inv p (by lia);rw[c]at i;lia
   ·lia
  ·rintro⟨a,b⟩
   have pk:p≠k:=by rintro rfl;lia
   have:=(O.mem p).mpr ⟨by lia,by lia⟩;simp at this;rcases this with h | h
   ·exact h
   ·rw[h,inv k hk]at b;lia
 ·by_cases c:r q=k
  ·have i:=inv q (by lia);rw[c]at i;subst i;rintro(z | z)
   ·have mq:=(O.mem q').mpr ⟨by lia,by lia⟩;simp at mq;rcases mq with mq | mq
    ·have:=up.2.2 q' mq (r k) (by simp);lia
    ·lia
   ·exact O.al (r k) q' h1 (by lia) (by lia) z
  ·exact O.nx q q' h1 h2 (by lia)
 ·by_cases c:q'=k
  ·subst c;lia
  ·exact O.al q q' h1 (by lia) (by lia)
end
def uL{cl:Cl}{m:Nat}{E:List Nat}(hm:m<=1000)(El:E.length=m)(inv:∀ q,q<m->at' E (at' E q)=q)(lt:∀ q,q<m->at' E q<m):∃ b:Bool,evF cl d4 [.tup (L E)]=some (.bl b)/\(b=true->Nx (at' E) m)/\(Nx (at' E) m->b=true):=by
 have en:=iM El
 have st:=qP (B:=¬ Nx (at' E) m) (f:=ah cl [1] bG) (tg:=[2,3]) (d:=.bl false) (pr E) (fun _=>rfl)
  (fun u σ=>∃ (W:List Nat) (o2 o3:Option D),σ=[some (.tup (L E)),some (.lst (L W)),o2,o3]/\Oq (at' E) u.length W/\W.length<=u.length)
  (List.range m) [] [some (.tup (L E)),some (.lst (L [])),none,none] (by
   rintro u p v σ hu ⟨W,o2,o3,rfl,O,Wl⟩;obtain⟨hk,hp⟩:=d8 (g:=id) (by simpa using hu);simp only[id]at hp;subst hp
   have ml:(L W).length<most:=by rw[aM];unfold most;lia
   by_cases c:u.length<at' E u.length
   ·refine .inl ⟨_,show ah cl [1] bG [some (.tup (L E)),some (.lst (L W)),some (.int (u.length:Nat)),some (.int (at' E u.length:Nat))]=some (.nx,_)from fJ (bg (aK (k:=true) (aa rfl) (aa rfl) (by rw[oy,decide_eq_true (by lia)]))) (sU (aa rfl) rfl rfl ml aF) aF,W++[u.length],some (.int (u.length:Nat)),some (.int (at' E u.length:Nat)),?_,?_,?_⟩
    ·rw[de];rfl
    ·rw[List.length_append];exact O.push inv hk c
    ·simp;lia
   ·have cg:(ev cl [some (.tup (L E)),some (.lst (L W)),some (.int (u.length:Nat)),some (.int (at' E u.length:Nat))] (.cmp .gt (.var 3) (.var 2))).bind truth=some false:=bg (aK (k:=false) (aa rfl) (aa rfl) (by rw[oy,decide_eq_false (by lia)]));by_cases c2:at' E u.length=u.length
    ·have ce:(ev cl [some (.tup (L E)),some (.lst (L W)),some (.int (u.length:Nat)),some (.int (at' E u.length:Nat))] (.cmp .eq (.var 3) (.var 2))).bind truth=some true:=bg (aK (k:=true) (aa rfl) (aa rfl) (by rw[gM,c2,beq_self_eq_true]))
     cases W with
     |nil=>
      exact .inl ⟨_,show ah cl [1] bG [some (.tup (L E)),some (.lst (L [])),some (.int (u.length:Nat)),some (.int (at' E u.length:Nat))]=some (.nx,_)from mD cg (fJ ce (cm (by rw[aa rfl];rfl) aF) aF) aF,[],_,_,rfl,by rw[List.length_append];exact O.alone inv hk c2,by simp⟩
     |cons w W=>
      exact .inr ⟨fun N=>by
       obtain⟨w1,w2⟩:=(O.mem w).mp (List.mem_cons_self ..)
       have wk:at' E w≠u.length:=fun z=>by
        have:=inv w (by lia);rw[z,c2]at this;lia
       exact N w u.length w1 (by lia) (lt w (by lia)) (.inr c2),_,show ah cl [1] bG [some (.tup (L E)),some (.lst (L (w::W))),some (.int (u.length:Nat)),some (.int (at' E u.length:Nat))]=some (.rt (.bl false),_)from kH cg (gz ce (gz (by rw[aa rfl];rfl) (aT aw rfl)))⟩
    ·have ce:(ev cl [some (.tup (L E)),some (.lst (L W)),some (.int (u.length:Nat)),some (.int (at' E u.length:Nat))] (.cmp .eq (.var 3) (.var 2))).bind truth=some false:=bg (aK (k:=false) (aa rfl) (aa rfl) (by rw[gM,beq_eq_false_iff_ne.mpr (by lia)]));have m1:at' E u.length∈W:=(O.mem _).mpr ⟨by lia,by rw[inv _ hk];exact Nat.le_refl _⟩;have ne:W≠[]:=List.ne_nil_of_mem m1;have dl:=List.dropLast_concat_getLast ne;generalize W.getLast ne=z at dl;generalize W.dropLast=W0 at dl;subst dl
     have hi:(([some (D.tup (L E)),some (.lst (L (W0++[z]))),some (.int (u.length:Nat)),some (.int (at' E u.length:Nat))]:St)[1]?).bind id=some (.lst (L W0++[.int (z:Nat)])):=by rw[de];rfl
     by_cases c3:z=at' E u.length
     ·refine .inl ⟨_,show ah cl [1] bG [some (.tup (L E)),some (.lst (L (W0++[z]))),some (.int (u.length:Nat)),some (.int (at' E u.length:Nat))]=some (.nx,_)from mD cg (mD ce (yD hi (aa rfl) (fJ (by rw[aw,decide_eq_true (by lia)];rfl) aF aF)) aF) aF,W0,_,_,rfl,?_,?_⟩
      ·rw[List.length_append];subst c3;exact O.pop inv hk (by lia)
      ·simp at Wl ⊢;lia
     ·exact .inr ⟨fun N=>by
       have up:=O.up;rw[List.pairwise_append]at up
       have m0:at' E u.length∈W0:=by
        rcases List.mem_append.mp m1 with h | h
        ·exact h
        ·exact absurd (List.mem_singleton.mp h).symm c3
       have lz:=up.2.2 _ m0 z (by simp);have zz:=(O.mem z).mp (by simp)
       have zk:at' E z≠u.length:=fun q=>by
        have:=inv z (by lia);rw[q]at this;exact c3 this.symm
       have i:=inv u.length hk
       exact N (at' E u.length) z lz (by rw[i];exact zz.1) (by rw[i];exact hk) (.inl (by rw[i];lia)),_,show ah cl [1] bG [some (.tup (L E)),some (.lst (L (W0++[z]))),some (.int (u.length:Nat)),some (.int (at' E u.length:Nat))]=some (.rt (.bl false),_)from kH cg (kH ce (yD hi (aa rfl) (kH (by rw[aw,decide_eq_false (by lia)];rfl) (aT aw rfl))))⟩)
  ⟨[],none,none,rfl,⟨⟨by simp,by simp⟩,fun q q' _ _ h=>absurd h (Nat.not_lt_zero _),fun q q' _ h=>absurd h (Nat.not_lt_zero _)⟩,by simp⟩
 rw[<-en]at st
 rcases st with⟨σ',e,W,o2,o3,rfl,O,_⟩ | ⟨nN,σ',e⟩
 ·refine⟨true,aS rfl rfl (ee (jz bC) rfl (bZ (qj (aa rfl) rfl) e (aT aw rfl))),fun _=>?_,fun _=>rfl⟩;have:=O.nx;rw[List.nil_append,List.length_range]at this;exact this
 ·exact⟨false,aS rfl rfl (ee (jz bC) rfl (BU (qj (aa rfl) rfl) e)),(fun h=>by cases h),fun N=>absurd N nN⟩
end RM
set_option maxHeartbeats 1000000
namespace RM
open RL RT
abbrev xi(xs:List Int)(p:Nat):Int:=(xs[p]?).getD 0
abbrev nb(xs:List Int)(p:Nat):Bool:=decide (0<=xi xs p/\xi xs p<xs.length)&&decide (xi xs (xi xs p).toNat=p)
def Bg(h:p<xs.length):ixV (.tup (LI xs)) (.int (p:Nat))=some (.int (xi xs p)):=by
 show cb _ _=_;rw[dO];simp[LI,xi,h]
def qQ(xs:List Int):biV .len (.tup (LI xs))=some (.int (xs.length:Nat)):=congrArg (fun n:Nat=>some (D.int n)) (xU xs)
def bls(g:β->Bool):∀ xs:List β,eg (xs.map fun x=>D.bl (g x))=some (xs.map g)
 | []=>rfl
 | x::r=>by rw[List.map_cons,eg,bls g r];rfl
def BY(g:β->Bool)(xs:List β):biV .all (.lst (xs.map fun x=>D.bl (g x)))=some (.bl (xs.all g)):=by
 show(eg (xs.map fun x=>D.bl (g x))).map _=_;rw[bls,Option.map_some,List.all_map];rfl
section
def xp(hnum:∀ i:Int,cl fn [.int i]=some (.bl true))(hp:p<xs.length):evF cl (eO fn) [.tup (LI xs),.int (p:Nat)]=some (.bl (nb xs p)):=by
 unfold nb;have a1:ev cl [some (.tup (LI xs)),some (.int (p:Nat)),some (.int (xi xs p))] (.call fn (.cons (.var 2) .nil))=some (.bl true):=bc (aa rfl) (hnum _);have as:∀ {res:Option (Out × St)} {r:Ss},ah cl [] r [some (.tup (LI xs)),some (.int (p:Nat)),some (.int (xi xs p))]=res->ah cl [] (.cons (.asg 2 (.ix (.var 0) (.var 1))) r) [some (.tup (LI xs)),some (.int (p:Nat)),none]=res:=fun h=>aA (b9 (aa rfl) (aa rfl) (Bg hp)) rfl h;by_cases c:0<=xi xs p/\xi xs p<xs.length
 ·rw[decide_eq_true c,Bool.true_and];obtain⟨j,hj⟩:=Int.eq_ofNat_of_zero_le c.1;rw[hj]at c as a1 ⊢;have i2:=Bg (xs:=xs) (p:=j) (by lia)
  exact aS rfl rfl (as (aT (fw a1 (fw (tK (k:=true) aw (aa rfl) (bp (aa rfl) (qQ xs)) (by rw[vF,decide_eq_true c.1]) (by rw[dI,decide_eq_true c.2])) (aK (b9 (aa rfl) (aa rfl) i2) (aa rfl) (by
   rw[gM,Int.toNat_natCast]
   congr 1)))) rfl))
 ·rw[decide_eq_false c,Bool.false_and];by_cases c1:0<=xi xs p
  ·exact aS rfl rfl (as (aT (fw a1 (jG (tK (k:=false) aw (aa rfl) (bp (aa rfl) (qQ xs)) (by rw[vF,decide_eq_true c1]) (by rw[dI,decide_eq_false (fun z=>c ⟨c1,z⟩)])))) rfl))
  ·exact aS rfl rfl (as (aT (fw a1 (jG (zS aw (aa rfl) (by rw[vF,decide_eq_false c1])))) rfl))
def l8(hm:xs.length<=1000)(hb:∀ p:Nat,p<xs.length->cl fb [.tup (LI xs),.int (p:Nat)]=some (.bl (nb xs p))):evF cl (eD fb) [.tup (LI xs)]=some (.bl ((List.range xs.length).all (nb xs))):=by
 have mc:=my (F:=fun σ1=>(ev cl σ1 (.call fb (.cons (.var 0) (.cons (.var 1) .nil)))).map some) (tg:=[1]) (σ:=[some (.tup (LI xs)),none]) (h:=fun p=>.int (p:Nat)) (g:=fun p=>.bl (nb xs p)) (fun _=>rfl) (List.range xs.length) (by
  intro p hp;show(ev cl [some (.tup (LI xs)),some (.int (p:Nat))] (.call fb (.cons (.var 0) (.cons (.var 1) .nil)))).map some=_;rw[cq (aa rfl) (aa rfl) (hb p (List.mem_range.mp hp))]
  rfl)
 exact aS rfl rfl (aT (fw (Hn (aa rfl) rfl) (bp (eX (mW (bp (aa rfl) (qQ xs)) (df hm)) (by rw[aM,List.length_range];unfold most;lia) mc) (BY _ _))) rfl)
def Dz(f:List Nat):L f=LI (f.map Int.ofNat):=by unfold L LI;rw[List.map_map];rfl
def mE(len:h.length=m)(lt:∀ q,q<m->at' h q<m)(inv:∀ q,q<m->at' h (at' h q)=q):(List.range (h.map Int.ofNat).length).all (nb (h.map Int.ofNat))=true:=by
 have x1:∀ q,q<m->xi (h.map Int.ofNat) q=(at' h q:Nat):=fun q hq=>by simp[xi,at',show q<h.length by lia]
 rw[List.all_eq_true,List.length_map,len];intro q hq;have hq:=List.mem_range.mp hq;have l:=lt q hq;unfold nb;rw[x1 q hq,Int.toNat_natCast,x1 _ l,inv q hq,List.length_map,len];rw[decide_eq_true ⟨by lia,by lia⟩];simp
end
structure Dg(T:List Fn)(mx rw dg:Nat):Prop where
 Jg:T[mx]?=some j1
 IQ:T[rw]?=some (jY mx)
 IE:T[dg]?=some (eQ rw)
def Dg.digits{T:List Fn}{mx rw dg:Nat}(h:Dg T mx rw dg){ns:List Int}(hl:ns.length<=63)(n:Nat){k:Nat}{sizes:List Nat}(hk:k<=1000)(hp:∀ s∈sizes,0<s/\s<2 ^ 200)(hz:sizes.length<=1000) :
  ∃ ds:List Nat,jQ ds sizes/\aq T (n+3) dg [.lst (LI ns),.int k,.lst (L sizes)]=some (.lst (L ds)):=by
 obtain⟨r,hr⟩:=Cu (cl:=aq T (n+1)) (f:=mx) (fun s=>by
  obtain⟨m,hm⟩:=BD (cl:=aq T n) s
  exact⟨m,(az h.Jg).trans hm⟩) hl hk
 obtain⟨ds,h1,h2⟩:=vK (cl:=aq T (n+2)) (f:=rw) ((az h.IQ).trans hr) hp hz;exact⟨ds,h1,(az h.IE).trans h2⟩
section
variable{T:List Fn}{mx rw dg pl hk ci ft tx rg hu ov fr:Nat}
end
structure Ck(T:List Fn)(nu pc pa nb un if' cf po rp ir mv:Nat):Prop where
 Ji:T[nu]?=some i4
 Ja:T[pc]?=some (d3 nu)
 Iu:T[pa]?=some (eD nb)
 Jm:T[nb]?=some (eO nu)
 IU:T[un]?=some d4
 Ic:T[if']?=some (gc un ir pa pc po)
 Iv:T[cf]?=some (dD if')
 IZ:T[po]?=some jM
 Jd:T[rp]?=some cP
 Jx:T[ir]?=some (eN mv rp po)
 IP:T[mv]?=some i8
section
variable{T:List Fn}{nu pc pa nb un if' cf po rp ir mv:Nat}
def Ck.num(h:Ck T nu pc pa nb un if' cf po rp ir mv)(n:Nat)(i:Int):aq T (n+1) nu [.int i]=some (.bl true):=(az h.Ji).trans (qa i)
def Ck.Az(h:Ck T nu pc pa nb un if' cf po rp ir mv)(n:Nat)(i:Int):aq T (n+2) pc [.int i]=some (.bl (decide (1<=i/\i<=10))):=(az h.Ja).trans (lE (h.num n) i)
def Ck.of(h:Ck T nu pc pa nb un if' cf po rp ir mv)(n:Nat)(xs:List D):aq T (n+1) po [.tup xs]=some (.int (xs.length / 2)):=(az h.IZ).trans (sH xs)
def Ck.half(h:Ck T nu pc pa nb un if' cf po rp ir mv)(n:Nat){k:Nat}{f:List Nat}(hf:f.length=2*k):aq T (n+1) po [.tup (L f)]=some (.int k):=by
 rw[h.of,aM,hf];congr 2;lia
def Ck.place(h:Ck T nu pc pa nb un if' cf po rp ir mv)(n:Nat){k p:Nat}(hp:p<2*k):aq T (n+1) rp [.int k,.int (p:Nat)]=some (.int (rd k p:Nat)):=(az h.Jd).trans (mM hp)
def Ck.move(h:Ck T nu pc pa nb un if' cf po rp ir mv)(n:Nat){k:Nat}{f:List Nat}{U:D}{to:Nat->Nat}(hk:k<=10)(F:Frm k f)(hT:∀ p:Nat,p<2*k->ixV U (.int (p:Nat))=some (.int (to p:Nat)))(hlt:∀ p,p<2*k->to p<2*k)(inj:∀ p q,p<2*k->q<2*k->to p=to q->p=q) :
  ∃ E:List Nat,E.length=2*k/\(∀ p,p<2*k->at' E (to p)=to (at' f p))/\aq T (n+1) mv [.tup (L f),U]=some (.tup (L E)):=by
 obtain⟨E,h1,h2,h3⟩:=xu (cl:=aq T n) (T:=U) (to:=to) hk F hT hlt inj;exact⟨E,h1,h2,(az h.IP).trans h3⟩
def Ck.round(h:Ck T nu pc pa nb un if' cf po rp ir mv)(n:Nat){k:Nat}{f:List Nat}(hk:k<=10)(F:Frm k f):∃ E:List Nat,E.length=2*k/\(∀ q,q<2*k->at' E q=rnd k f q)/\aq T (n+2) ir [.tup (L f)]=some (.tup (L E)):=by
 obtain⟨E,h1,h2,h3⟩:=rA (cl:=aq T (n+1)) (fm:=mv) (frp:=rp) (fpo:=po) hk F (h.of n) (fun p hp=>h.place n hp) (h.move n (U:=.lst (L (oF k))) (to:=rd k) hk F (fun p hp=>Cj hp) (fun p hp=>bM hp) (fun p q hp hq h=>rB hp hq h));exact⟨E,h1,h2,(az h.Jx).trans h3⟩
def Ck.frame(h:Ck T nu pc pa nb un if' cf po rp ir mv)(n:Nat){k:Nat}{f:List Nat}(h1:1<=k)(hk:k<=10)(V:Val k f):aq T (n+4) if' [.tup (L f)]=some (.bl true) :=
 (az h.Ic).trans (rQ h1 hk V (h.of (n+2)) (by rw[h.Az (n+1),decide_eq_true (by lia)])
  (by
   have F:=V.frm;have p:=(az (n:=n+2) h.Iu).trans (l8 (xs:=f.map Int.ofNat) (by rw[List.length_map,F.len];lia) fun q hq=>(az h.Jm).trans (xp (h.num n) hq));rw[mE F.len F.lt (fun q _=>F.inv q),<-Dz]at p
   exact p)
  (h.round (n+1) hk V.frm) (fun E a b c d l=>(az h.IU).trans (by
   obtain⟨w,e,_,hb⟩:=uL (cl:=aq T (n+2)) (m:=2*k) (by lia) a b l
   rw[hb fun q q' x y z w=>by
    have:=d q q' (by lia) (by lia);have:=c q' (by lia)
    lia]at e
   exact e)))
def Ck.check(h:Ck T nu pc pa nb un if' cf po rp ir mv)(n:Nat){k:Nat}{f:List Nat}(h1:1<=k)(hk:k<=10)(V:Val k f):aq T (n+5) cf [.tup (L f)]=some .non:=(az h.Iv).trans (nE (h.frame n h1 hk V))
def Ck.HH(h:Ck T nu pc pa nb un if' cf po rp ir mv){cp:Nat}(hcp:T[cp]?=some (bJ pc))(n:Nat){k:Nat}(h1:1<=k)(hk:k<=10):aq T (n+3) cp [.int k]=some .non:=(az hcp).trans (oR (by rw[h.Az,decide_eq_true (by lia)]))
def Ck.plain(h:Ck T nu pc pa nb un if' cf po rp ir mv){cp pl:Nat}(hcp:T[cp]?=some (bJ pc))(hpl:T[pl]?=some (dX cp))(n:Nat){k:Nat}(h1:1<=k)(hk:k<=10):aq T (n+4) pl [.int k]=some (.tup (L (d7 k))):=(az hpl).trans (run_plain hk (h.HH hcp n h1 hk))
def Ck.through(h:Ck T nu pc pa nb un if' cf po rp ir mv){th:Nat}(hth:T[th]?=some (hJ po cf))(n:Nat){k:Nat}{f:List Nat}(h1:1<=k)(hk:k<=10)(V:Val k f):aq T (n+6) th [.tup (L f)]=some (.int (thr k f:Nat)):=(az hth).trans (tF h1 hk V.frm (h.of (n+4)) (h.check n h1 hk V))
def Ck.IH(h:Ck T nu pc pa nb un if' cf po rp ir mv){ti:Nat}(hti:T[ti]?=some (iI cf))(n:Nat){k:Nat}{f:List Nat}(h1:1<=k)(hk:k<=10)(V:Val k f):aq T (n+6) ti [.tup (L f)]=some (wu k f):=(az hti).trans (Al hk V.frm (h.check n h1 hk V))
end
abbrev Cyc(a b c d:Nat):Prop:=(a<b/\b<c/\c<d)\/(b<c/\c<d/\d<a)\/(c<d/\d<a/\a<b)\/(d<a/\a<b/\b<c)
def uj{m:Nat}{r:Nat->Nat}(inv:∀ q,q<m->r (r q)=q)(nox:∀ q q',q<m->q'<m->¬ (q<q'/\q'<r q/\r q<r q'))(ha:a<m)(hb:b<m)(hc:c<m)(hd:d<m)(e1:r a=c)(e2:r b=d):¬ Cyc a b c d:=by
 have e3:r c=a:=by rw[<-e1];exact inv a ha
 have e4:r d=b:=by rw[<-e2];exact inv b hb
 rintro(h | h | h | h)
 ·exact nox a b ha hb ⟨h.1,by lia,by lia⟩
 ·exact nox b c hb hc ⟨h.1,by lia,by lia⟩
 ·exact nox c d hc hd ⟨h.1,by lia,by lia⟩
 ·exact nox d a hd ha ⟨h.1,by lia,by lia⟩
def eG(hf:f.length=n)(hg:g.length=n)(h:∀ x,x<n->at' f x=at' g x):f=g:=by
 refine List.ext_getElem? fun x=>?_;by_cases hx:x<n
 ·rw[fk (by lia),fk (by lia),h x hx]
 ·rw[List.getElem?_eq_none (by lia),List.getElem?_eq_none (by lia)]
structure Way(n:Nat)(to ba:Nat->Nat):Prop where
 lt:∀ p,p<2*n->to p<2*n
 blt:∀ p,p<2*n->ba p<2*n
 tb:∀ p,p<2*n->to (ba p)=p
 bt:∀ p,p<2*n->ba (to p)=p
 cyc:∀ a b c d,a<2*n->b<2*n->c<2*n->d<2*n->a<b->b<c->c<d->Cyc (rd n (ba (rd n a))) (rd n (ba (rd n b))) (rd n (ba (rd n c))) (rd n (ba (rd n d)))\/Cyc (rd n (ba (rd n d))) (rd n (ba (rd n c))) (rd n (ba (rd n b))) (rd n (ba (rd n a)))
abbrev aJ(n:Nat)(to ba:Nat->Nat)(f:List Nat):List Nat:=(List.range (2*n)).map fun p=>to (at' f (ba p))
def eS(n:Nat)(to ba:Nat->Nat)(f:List Nat):(aJ n to ba f).length=2*n:=by simp[aJ]
def bK(h:p<2*n):at' (aJ n to ba f) p=to (at' f (ba p)):=by
 simp[aJ,at',h]
def Way.inj(W:Way n to ba)(hp:p<2*n)(hq:q<2*n)(h:to p=to q):p=q:=by rw[<-W.bt p hp,h,W.bt q hq]
def Way.val{n:Nat}{to ba:Nat->Nat}(W:Way n to ba)(V:Val n f):Val n (aJ n to ba f):=by
 have F:=V.frm;have hl:=eS n to ba f;refine⟨⟨hl,fun x hx=>?_,fun x=>?_,fun x hx e=>?_⟩,fun q q' hq hq' h=>?_⟩
 ·rw[bK hx];exact W.lt _ (F.lt _ (W.blt _ hx))
 ·by_cases hx:x<2*n
  ·have h1:=F.lt _ (W.blt _ hx);rw[bK hx,bK (W.lt _ h1),W.bt _ h1,F.inv,W.tb _ hx]
  ·rw[cF (f:=aJ n to ba f) (x:=x) (by lia),cF (by lia)]
 ·rw[bK hx]at e;have h1:=F.lt _ (W.blt _ hx)
  have:at' f (ba x)=ba x:=by rw[<-W.bt _ h1,e]
  exact F.no _ (W.blt _ hx) this
 ·obtain⟨h1,h2,h3⟩:=h;have rl:∀ q,q<2*n->rnd n f q<2*n:=fun q hq=>bM (F.lt _ (bM hq))
  have rr:∀ q,q<2*n->rnd n f (rnd n f q)=q:=fun q hq=>by
   unfold rnd;rw[cD (F.lt _ (bM hq)),F.inv,cD hq]
  have key:∀ q,q<2*n->rnd n (aJ n to ba f) q<2*n/\rnd n f (rd n (ba (rd n q)))=rd n (ba (rd n (rnd n (aJ n to ba f) q))):=fun q hq=>by
   have a1:=bM hq;have a2:=W.blt _ a1;have a3:=F.lt _ a2;unfold rnd;rw[bK a1];refine⟨bM (W.lt _ a3),?_⟩;rw[cD a2,cD (W.lt _ a3),W.bt _ a3]
  obtain⟨k1,k2⟩:=key q hq;obtain⟨k3,k4⟩:=key q' hq';have bl:∀ q,q<2*n->rd n (ba (rd n q))<2*n:=fun q hq=>bM (W.blt _ (bM hq));rcases W.cyc q q' _ _ hq hq' k1 k3 h1 h2 h3 with c | c
  ·exact uj rr V.nox (bl _ hq) (bl _ hq') (bl _ k1) (bl _ k3) k2 k4 c
  ·refine uj rr V.nox (bl _ k3) (bl _ k1) (bl _ hq') (bl _ hq) ?_ ?_ c
   ·rw[<-k4,rr _ (bl _ hq')]
   ·rw[<-k2,rr _ (bl _ hq)]
abbrev ovr(n p:Nat):Nat:=if p<n then p+n else p-n
abbrev mir(n p:Nat):Nat:=if p<n then n-1-p else 3*n-1-p
def k9(c:q<n):rd n q=q:=by unfold rd;rw[if_pos c]
def AZ(c:¬ q<n):rd n q=3*n-1-q:=by unfold rd;rw[if_neg c]
def m8(c:q<n):ovr n q=q+n:=by unfold ovr;rw[if_pos c]
def qD(c:¬ q<n):ovr n q=q-n:=by unfold ovr;rw[if_neg c]
def mR(hp:p<2*n):ovr n p<2*n/\ovr n (ovr n p)=p:=by
 by_cases c:p<n
 ·rw[m8 c,qD (by lia)];exact⟨by lia,by lia⟩
 ·rw[qD c,m8 (by omega)];exact⟨by lia,by lia⟩
def nF(hq:q<2*n):rd n (ovr n (rd n q))=2*n-1-q:=by
 by_cases c:q<n
 ·rw[k9 c,m8 c,AZ (by lia)];lia
 ·rw[AZ c,qD (by omega),k9 (by omega)];lia
def bz(n:Nat):Way n (ovr n) (ovr n) :=
 ⟨fun p hp=>(mR hp).1,fun p hp=>(mR hp).1,fun p hp=>(mR hp).2,fun p hp=>(mR hp).2,fun a b c d ha hb hc hd h1 h2 h3=>.inr (.inl (by
  rw[nF ha,nF hb,nF hc,nF hd]
  exact⟨by lia,by lia,by omega⟩))⟩
def rh(F:Frm n f):bI n f=aJ n (ovr n) (ovr n) f:=by
 refine eG (n:=2*n) (by simp[bI]) (eS ..) fun p hp=>?_;rw[p7 hp,bK hp]
 have e:∀ p,p<2*n->(p+n)%(2*n)=ovr n p:=fun p hp=>by
  unfold ovr;split
  ·rw[Nat.mod_eq_of_lt (by lia)]
  ·rw[Nat.mod_eq_sub_mod (by lia),Nat.mod_eq_of_lt (by lia)];lia
 rw[e p hp,e _ (F.lt _ ((bz n).lt p hp))]
def C9(W:Way n to ba)(W':Way n to' ba'):aJ n to' ba' (aJ n to ba f)=aJ n (fun p=>to' (to p)) (fun p=>ba (ba' p)) f:=by
 refine eG (n:=2*n) (eS ..) (eS ..) fun p hp=>?_;rw[bK hp,bK (W'.blt _ hp),bK hp]
def EM(F:Frm n f)(h1:∀ p,p<2*n->to p=p)(h2:∀ p,p<2*n->ba p=p):aJ n to ba f=f:=by
 refine eG (n:=2*n) (eS ..) F.len fun p hp=>?_;rw[bK hp,h2 p hp,h1 _ (F.lt _ hp)]
def cC:∀ {a b:List Nat},a.Nodup->(∀ x∈a,x∈b)->a.length<=b.length
 | [],_,_,_=>Nat.zero_le _
 | x::r,b,hn,h=>by
  rw[List.nodup_cons]at hn;have hx:=h x List.mem_cons_self;have:=cC (a:=r) (b:=b.erase x) hn.2 fun y hy=>(List.mem_erase_of_ne (fun e=>hn.1 (by rw[<-e];exact hy))).mpr (h y (List.mem_cons_of_mem _ hy));rw[List.length_erase_of_mem hx]at this;have:0<b.length:=List.length_pos_of_mem hx;simp only[List.length_cons];lia
abbrev cnt(n:Nat)(P:Nat->Bool):Nat:=((List.range n).filter P).length
def yM(g:Nat->Nat)(h:∀ p,p<n->P p=true->g p<m/\Q (g p)=true)(inj:∀ p q,p<n->q<n->P p=true->P q=true->g p=g q->p=q):cnt n P<=cnt m Q:=by
 unfold cnt
 have:((List.range n).filter P).length=(((List.range n).filter P).map g).length:=by simp
 rw[this];refine cC ?_ ?_
 ·rw[List.nodup_iff_pairwise_ne,List.pairwise_map];refine List.Pairwise.imp_of_mem ?_ ((List.nodup_iff_pairwise_ne.mp (List.nodup_range (n:=n))).filter P);intro a b ha hb hne e;simp only[List.mem_filter,List.mem_range]at ha hb;exact hne (inj a b ha.1 hb.1 ha.2 hb.2 e)
 ·intro x hx;obtain⟨p,hp,rfl⟩:=List.mem_map.mp hx;simp only[List.mem_filter,List.mem_range]at hp ⊢;exact h p hp.1 hp.2
def zA(F:Frm n f):thr n (aJ n (ovr n) (ovr n) f)=thr n f:=by
 have W:=bz n;refine Nat.le_antisymm (yM (fun p=>at' f (p+n)) (fun p hp h=>?_) fun p q hp hq _ _ e=>?_) (yM (fun p=>at' f p-n) (fun p hp h=>?_) fun p q hp hq h1 h2 e=>?_)
 ·rw[decide_eq_true_eq,bK (by lia)]at h
  have e:ovr n p=p+n:=by unfold ovr;rw[if_pos hp]
  rw[e]at h;have l:=F.lt (p+n) (by lia)
  have:at' f (p+n)<n:=by
   unfold ovr at h;split at h<;>lia
  refine⟨this,?_⟩;rw[decide_eq_true_eq,F.inv];lia
 ·have:=congrArg (at' f) e;rw[F.inv,F.inv]at this;lia
 ·rw[decide_eq_true_eq]at h;have l:=F.lt p (by lia)
  have e:ovr n (at' f p-n)=at' f p:=by unfold ovr;rw[if_pos (by lia)];lia
  refine⟨by lia,?_⟩;rw[decide_eq_true_eq,bK (by lia),e,F.inv];unfold ovr;rw[if_pos hp];lia
 ·rw[decide_eq_true_eq]at h1 h2
  have:at' f p=at' f q:=by lia
  have:=congrArg (at' f) this;rw[F.inv,F.inv]at this;exact this
def Ij(hl:ns.length<=63):jH (.scr (LI ns)) (.int 63)=some (.lst (LI ns)):=by
 show some (D.lst ((LI ns).take (cutAt (LI ns).length 63)))=_;rw[List.take_of_length_le]
 have:(LI ns).length=ns.length:=by simp[LI]
 rw[this];unfold cutAt;rw[if_pos (by decide)];have:(63:Int).toNat=63:=rfl;lia
section
def yY(h:p<2*n):ixV (.tup (L (d7 n))) (.int (p:Nat))=some (.int (ovr n p:Nat)):=by
 rw[dC (by simp[d7];lia),plain_at];unfold ovr;split
 ·rw[Nat.add_comm]
 ·rfl
def zd(h1:1<=n)(hn:n<=10)(F:Frm n f)(hc:cl fc [.tup (L f)]=some .non)(ho:cl fo [.tup (L f)]=some (.int n))(hp:cl fp [.int n]=some (.tup (L (d7 n))))
 (hm:cl fm [.tup (L f),.tup (L (d7 n))]=some (.tup (L (aJ n (ovr n) (ovr n) f)))):evF cl (gQ fm fp fo fc) [.tup (L f)]=some (.tup (L (aJ n (ovr n) (ovr n) f))):=by
 simp[evF,gQ,ah,nh,dz,c7,aR,evs,hc,ho,hp,hm,bh,D.imm,aP,aW]
end
section
variable{nu pc pa nb un if' cf po rp ir mv:Nat}
def xB{n:Nat}{to ba:Nat->Nat}{f E:List Nat}(W:Way n to ba)(h1:E.length=2*n)(h2:∀ p,p<2*n->at' E (to p)=to (at' f p)):E=aJ n to ba f:=by
 refine eG h1 (eS ..) fun p hp=>?_;rw[bK hp];have:=h2 (ba p) (W.blt _ hp);rw[W.tb _ hp]at this;exact this
def Ck.He(h:Ck T nu pc pa nb un if' cf po rp ir mv)(n:Nat){k:Nat}{f:List Nat}{U:D}(hk:k<=10)(F:Frm k f)(W:Way k to ba)(hT:∀ p:Nat,p<2*k->ixV U (.int (p:Nat))=some (.int (to p:Nat))):aq T (n+1) mv [.tup (L f),U]=some (.tup (L (aJ k to ba f))):=by
 obtain⟨E,h1,h2,h3⟩:=h.move n hk F hT W.lt fun p q hp hq e=>W.inj hp hq e;rw[h3,xB W h1 h2]
def Ck.over(h:Ck T nu pc pa nb un if' cf po rp ir mv)(hcp:T[cp]?=some (bJ pc))(hpl:T[pl]?=some (dX cp))(hov:T[ov]?=some (gQ mv pl po cf))(n:Nat)(h1:1<=k)(hk:k<=10)(V:Val k f):aq T (n+6) ov [.tup (L f)]=some (.tup (L (aJ k (ovr k) (ovr k) f))) :=
 (az hov).trans (zd h1 hk V.frm (h.check n h1 hk V) (h.half (n+4) V.frm.len) (h.plain hcp hpl (n+1) h1 hk) (h.He (n+4) hk V.frm (bz k) fun p hp=>yY hp))
end
end RM
set_option maxHeartbeats 1000000
namespace RT
open RL
end RT
namespace RM
open RL RT
section
end
structure Two(m:Nat)(a b:Nat->Nat):Prop where
 al:∀ x,x<m->a x<m
 bl:∀ x,x<m->b x<m
 ai:∀ x,x<m->a (a x)=x
 bi:∀ x,x<m->b (b x)=x
def Two.swap(T:Two m a b):Two m b a:=⟨T.bl,T.al,T.bi,T.ai⟩
abbrev wk(a b:Nat->Nat)(x:Nat):Nat->Nat
 | 0=>x
 | k+1=>if k%2=0 then b (wk a b x k)else a (wk a b x k)
abbrev Stp(a b:Nat->Nat)(x k:Nat):Prop:=wk a b x (k+1)=wk a b x k\/wk a b x (k+1)=x
noncomputable instance{a b:Nat->Nat}{x k:Nat}:Decidable (Stp a b x k):=inferInstanceAs (Decidable (_\/_))
section
def cX(h:k%2=0):wk a b x (k+1)=b (wk a b x k):=by rw[wk,if_pos h]
def fF(h:k%2=1):wk a b x (k+1)=a (wk a b x k):=by rw[wk,if_neg (by lia)]
def fA(T:Two m a b)(hx:x<m):∀ k,wk a b x k<m
 | 0=>hx
 | k+1=>by
  rw[wk];split
  ·exact T.bl _ (fA T hx k)
  ·exact T.al _ (fA T hx k)
def iJ(T:Two m a b)(hx:x<m)(k:Nat):(if k%2=0 then b (wk a b x (k+1))else a (wk a b x (k+1)))=wk a b x k:=by
 have h:=fA T hx k;rw[wk];split
 ·exact T.bi _ h
 ·exact T.ai _ h
def E8(T:Two m a b)(hx:x<m)(hp:i%2=j%2)(h:wk a b x (i+1)=wk a b x (j+1)):wk a b x i=wk a b x j:=by
 rw[<-iJ T hx i,<-iJ T hx j,h,hp]
def uJ(T:Two m a b)(hx:x<m)(hs:∀ j,j<k->¬ Stp a b x j)(hd:d%2=1):∀ i,i+(d+1)<=k->wk a b x i≠wk a b x (i+(d+1))
 | 0,hk,h=>hs d (by lia) (.inr (by rw[Nat.zero_add]at h;exact h.symm))
 | i+1,hk,h=>uJ T hx hs hd i (by lia) (E8 T hx (i:=i) (j:=i+(d+1)) (by lia) (by rw[h];congr 1;lia))
def yr(T:Two m a b)(hx:x<m)(hs:∀ j,j<k->¬ Stp a b x j):∀ (c i:Nat),i+(2*c+1)<=k->wk a b x i≠wk a b x (i+(2*c+1))
 | 0,i,hk,h=>hs i (by lia) (.inl h.symm)
 | c+1,i,hk,h=>by
  refine yr T hx hs c (i+1) (by lia) ?_;have h1:=iJ T hx (i+(2*c+2));rw[show i+(2*c+2)+1=i+(2*(c+1)+1) by lia,<-h]at h1
  have h2:wk a b x (i+1)=if(i+(2*c+2))%2=0 then b (wk a b x i)else a (wk a b x i):=by
   rw[wk]
   have:(i+(2*c+2))%2=i%2:=by lia
   rw[this]
  rw[h2,h1];congr 1;lia
def kW(T:Two m a b)(hx:x<m)(hs:∀ j,j<k->¬ Stp a b x j)(hij:i<j)(hj:j<=k):wk a b x i≠wk a b x j:=by
 obtain⟨d,rfl⟩:∃ d,j=i+(d+1):=⟨j-i-1,by lia⟩
 by_cases c:d%2=1
 ·exact uJ T hx hs c i hj
 ·obtain⟨e,rfl⟩:∃ e,d=2*e:=⟨d / 2,by lia⟩
  exact yr T hx hs e i hj
def least{P:Nat->Prop} [DecidablePred P]:∀ n,P n->∃ k,k<=n/\P k/\∀ j,j<k->¬ P j:=by
 intro n
 induction n using Nat.strongRecOn with
 |_ n ih=>
  intro h;by_cases c:∃ j,j<n/\P j
  ·obtain⟨j,hj,hp⟩:=c;obtain⟨k,h1,h2,h3⟩:=ih j hj hp;exact⟨k,by lia,h2,h3⟩
  ·exact⟨n,Nat.le_refl _,h,fun j hj hp=>c ⟨j,hj,hp⟩⟩
def fh(T:Two m a b)(hx:x<m):∃ k,k<m/\Stp a b x k/\∀ j,j<k->¬ Stp a b x j:=by
 by_cases c:∃ k,k<m/\Stp a b x k
 ·obtain⟨k,h1,h2⟩:=c;obtain⟨j,h3,h4,h5⟩:=least k h2;exact⟨j,by lia,h4,h5⟩
 ·exfalso;have hs:∀ j,j<m->¬ Stp a b x j:=fun j hj h=>c ⟨j,hj,h⟩
  have nd:((List.range (m+1)).map (wk a b x)).Nodup:=by
   rw[List.nodup_iff_pairwise_ne,List.pairwise_map];refine List.Pairwise.imp_of_mem ?_ (List.pairwise_lt_range (n:=m+1));intro i j hi hj hlt;exact kW T hx hs hlt (by have:=List.mem_range.mp hj;lia)
  have:=cC nd (b:=List.range m) fun y hy=>by
   obtain⟨i,_,rfl⟩:=List.mem_map.mp hy;exact List.mem_range.mpr (fA T hx i)
  simp at this;lia
inductive Cn (a b:Nat->Nat) (x:Nat):Nat->Prop
 | refl:Cn a b x x
 | sa {y:Nat}:Cn a b x y->Cn a b x (a y)
 | sb {y:Nat}:Cn a b x y->Cn a b x (b y)
def Cn.lt(T:Two m a b)(hx:x<m)(h:Cn a b x y):y<m:=by
 induction h with
 | refl=>exact hx
 | sa _ ih=>exact T.al _ ih
 | sb _ ih=>exact T.bl _ ih
def Cn.trans(h:Cn a b x y)(h':Cn a b y z):Cn a b x z:=by
 induction h' with
 | refl=>exact h
 | sa _ ih=>exact .sa ih
 | sb _ ih=>exact .sb ih
def Cn.symm(T:Two m a b)(hx:x<m)(h:Cn a b x y):Cn a b y x:=by
 induction h with
 | refl=>exact .refl
 |@sa y h ih=>
  have:=Cn.sa (a:=a) (b:=b) (Cn.refl (x:=a y));rw[T.ai _ (h.lt T hx)]at this;exact this.trans ih
 |@sb y h ih=>
  have:=Cn.sb (a:=a) (b:=b) (Cn.refl (x:=b y));rw[T.bi _ (h.lt T hx)]at this;exact this.trans ih
def Cn.flip(h:Cn a b x y):Cn b a x y:=by
 induction h with
 | refl=>exact .refl
 | sa _ ih=>exact .sb ih
 | sb _ ih=>exact .sa ih
def iU:∀ k,Cn a b x (wk a b x k)
 | 0=>.refl
 | k+1=>by
  rw[wk];split
  ·exact .sb (iU k)
  ·exact .sa (iU k)
def kD(T:Two m a b)(hx:x<m)(st:Stp a b x k)(hs:∀ j,j<k->¬ Stp a b x j)(h:a x=x\/∀ y,Cn a b x y->a y≠y/\b y≠y)(hy:Cn a b x y):∃ i,i<=k/\wk a b x i=y:=by
 have bx:∃ i,i<=k/\wk a b x i=b x:=by
  by_cases c:k=0
  ·subst c;refine⟨0,Nat.le_refl _,?_⟩;rcases st with st | st
   ·rw[cX rfl]at st;exact st.symm
   ·rw[cX rfl]at st;exact st.symm
  ·exact⟨1,by lia,cX rfl⟩
 have key:∀ j,0<j->j<=k->(∃ i,i<=k/\wk a b x i=a (wk a b x j))/\∃ i,i<=k/\wk a b x i=b (wk a b x j):=by
  intro j h0 hj;have prev:=iJ T hx (j-1);rw[show j-1+1=j by omega]at prev
  have next:∃ i,i<=k/\wk a b x i=wk a b x (j+1):=by
   by_cases c:j<k
   ·exact⟨j+1,by lia,rfl⟩
   ·have:j=k:=by lia
    subst this;rcases st with st | st
    ·exact⟨j,Nat.le_refl _,st.symm⟩
    ·exact⟨0,by lia,st.symm⟩
  by_cases c:j%2=0
  ·rw[if_neg (by lia)]at prev
   rw[cX c]at next
   exact⟨⟨j-1,by lia,prev.symm⟩,next⟩
  ·rw[if_pos (by lia)]at prev
   rw[fF (by lia)]at next
   exact⟨next,⟨j-1,by omega,prev.symm⟩⟩
 have ax:∃ i,i<=k/\wk a b x i=a x:=by
  rcases h with h | h
  ·exact⟨0,by lia,h.symm⟩
  ·rcases st with st | st
   ·exfalso;have hc:=h _ (iU k);by_cases c:k%2=0
    ·rw[cX c]at st;exact hc.2 st
    ·rw[fF (by lia)]at st;exact hc.1 st
   ·by_cases c:k%2=0
    ·exfalso;rw[cX c]at st
     have e:wk a b x k=b x:=by
      have:=congrArg b st;rw[T.bi _ (fA T hx k)]at this;exact this
     by_cases k0:k=0
     ·subst k0;exact(h x .refl).2 e.symm
     ·have:wk a b x 1=b x:=cX rfl;exact kW T hx hs (i:=1) (j:=k) (by lia) (Nat.le_refl _) (by rw[this,e])
    ·rw[fF (by lia)]at st
     exact⟨k,Nat.le_refl _,by
      have:=congrArg a st;rw[T.ai _ (fA T hx k)]at this
      exact this⟩
 induction hy with
 | refl=>exact⟨0,by lia,rfl⟩
 |sa _ ih=>
  obtain⟨i,hi,rfl⟩:=ih;by_cases c:i=0
  ·subst c;exact ax
  ·exact(key i (by lia) hi).1
 |sb _ ih=>
  obtain⟨i,hi,rfl⟩:=ih;by_cases c:i=0
  ·subst c;exact bx
  ·exact(key i (by lia) hi).2
def kM(T:Two m a b)(hx:x<m)(st:Stp a b x k)(hs:∀ j,j<k->¬ Stp a b x j)(hb:∀ y,y<m->b y≠y)(ha:a x=x):k%2=1/\a (wk a b x k)=wk a b x k:=by
 have lk:=fA T hx k;by_cases c:k%2=0
 ·exfalso;rcases st with st | st
  ·rw[cX c]at st;exact hb _ lk st
  ·rw[cX c]at st
   have e:wk a b x k=b x:=by
    have:=congrArg b st;rw[T.bi _ lk]at this;exact this
   by_cases k0:k=0
   ·subst k0;exact hb x hx e.symm
   ·have:wk a b x 1=b x:=cX rfl;exact kW T hx hs (i:=1) (j:=k) (by lia) (Nat.le_refl _) (by rw[this,e])
 ·refine⟨by lia,?_⟩;rcases st with st | st
  ·rw[fF (by lia)]at st;exact st
  ·exfalso;rw[fF (by lia)]at st
   have e:wk a b x k=x:=by rw[<-T.ai _ lk,st,ha]
   exact kW T hx hs (i:=0) (j:=k) (by lia) (Nat.le_refl _) e.symm
end
structure cj(m:Nat)(a b:Nat->Nat)(S:List Nat):Prop where
 lt:∀ s∈S,s<m
 nd:S.Pairwise fun s t=>¬ Cn a b s t
 ring:∀ s∈S,∀ y,Cn a b s y->a y≠y/\b y≠y
 all:∀ x,x<m->(∃ s,s<m/\(a s=s\/b s=s)/\Cn a b s x)\/∃ s∈S,Cn a b s x
def cj.le{m:Nat}{a b:Nat->Nat}(T:Two m a b){S S':List Nat}(R:cj m a b S)(R':cj m a b S'):S.length<=S'.length:=by
 have pick:∀ s∈S,∃ t∈S',Cn a b t s:=fun s hs=>by
  rcases R'.all s (R.lt s hs)with⟨q,h1,h2,h3⟩ | h
  ·exfalso;have:=R.ring s hs q (h3.symm T h1);rcases h2 with h2 | h2
   ·exact this.1 h2
   ·exact this.2 h2
  ·exact h
 have:∀ s,∃ t,s∈S->t∈S'/\Cn a b t s:=fun s=>by
  by_cases hs:s∈S
  ·obtain⟨t,h1,h2⟩:=pick s hs;exact⟨t,fun _=>⟨h1,h2⟩⟩
  ·exact⟨0,fun z=>absurd z hs⟩
 obtain⟨g,hg⟩:=Classical.axiomOfChoice this
 have nd:(S.map g).Nodup:=by
  rw[List.nodup_iff_pairwise_ne,List.pairwise_map];refine List.Pairwise.imp_of_mem ?_ R.nd;intro s t hs ht hn e;obtain⟨h1,h2⟩:=hg s hs;obtain⟨h3,h4⟩:=hg t ht;rw[<-e]at h4;exact hn ((h2.symm T (R'.lt _ h1)).trans h4)
 have:=cC nd (b:=S') fun y hy=>by
  obtain⟨s,hs,rfl⟩:=List.mem_map.mp hy;exact(hg s hs).1
 simpa using this
def cj.one{m:Nat}{a b:Nat->Nat}(T:Two m a b){S S':List Nat}(R:cj m a b S)(R':cj m a b S'):S.length=S'.length:=Nat.le_antisymm (R.le T R') (R'.le T R)
def Bf{t:St->Option Bool}{f:St->Option (Out × St)}{σ:Nat->St}(h1:∀ i,i<k->t (σ i)=some true/\f (σ i)=some (.nx,σ (i+1)))(h2:t (σ k)=some false):∀ (d i fuel:Nat),i+d=k->d<fuel->whF t f fuel (σ i)=some (.nx,σ k)
 | 0,i,0,_,h=>by lia
 | 0,i,fuel+1,hi,_=>by
  have:i=k:=by lia
  subst this;rw[whF,h2];rfl
 | d+1,i,0,_,h=>by lia
 | d+1,i,fuel+1,hi,hf=>by
  obtain⟨e1,e2⟩:=h1 i (by lia);rw[whF,e1,Option.bind_some,if_pos rfl,e2,Option.bind_some];exact Bf h1 h2 d (i+1) fuel (by lia) (by lia)
section
abbrev zQ(A B:D):Nat->Option D
 | 0=>none
 | t+1=>some (if t%2=0 then A else B)
abbrev wks(a b:Nat->Nat)(x k:Nat):List Nat:=(List.range (k+1)).map (wk a b x)
def A3(k:Nat):wks a b x (k+1)=wks a b x k++[wk a b x (k+1)]:=by
 unfold wks;rw[List.range_succ,List.map_append];rfl
def rS(k:Nat):ixV (.lst (L (wks a b x k))) (.int (-1))=some (.int (wk a b x k:Nat)):=by
 show cb (L (wks a b x k)) (-1)=_;unfold cb
 have hl:(L (wks a b x k)).length=k+1:=by simp[L,wks]
 rw[if_neg (by decide),if_pos (by rw[hl];lia),hl,show((-1:Int)+((k+1:Nat):Int)).toNat=k by lia,qz];simp[wks]
def DQ:ev cl σ (.neg (.cst (.int 1)))=some (.int (-1)):=HB aw
def uv(T:Two m a b)(hm:m<=1000)(hA:∀ x:Nat,x<m->ixV A (.int (x:Nat))=some (.int (a x:Nat)))(hB:∀ x:Nat,x<m->ixV B (.int (x:Nat))=some (.int (b x:Nat)))(hx:x<m) :
  ∃ k,k<m/\Stp a b x k/\(∀ j,j<k->¬ Stp a b x j)/\evF cl qq [A,B,.int (x:Nat)]=some (.lst (L (wks a b x k))):=by
 obtain⟨k,hk,st,hs⟩:=fh T hx;refine⟨k,hk,st,hs,?_⟩
 have cond:∀ (i:Nat) (o:Option D),(ev cl [some A,some B,some (.int (x:Nat)),some (.lst (L (wks a b x i))),some (.int (wk a b x (i+1):Nat)),o] (.inn true (.var 4) (.tup (.cons (.ix (.var 3) (.neg (.cst (.int 1)))) (.cons (.var 2) .nil))))).bind truth=some (!decide (Stp a b x i)):=fun i o=>by
  have hv:inV (.int (wk a b x (i+1):Nat)) (.tup [.int (wk a b x i:Nat),.int (x:Nat)])=some (decide (Stp a b x i)):=by
   show(if(flat (.int (wk a b x (i+1):Nat))&&[D.int (wk a b x i:Nat),.int (x:Nat)].all flat)=true then some ([D.int (wk a b x i:Nat),.int (x:Nat)].any fun y=>eqF y (.int (wk a b x (i+1):Nat)))else none)=_;rw[if_pos (by simp[flat])];congr 1;simp only[List.any_cons,List.any_nil,eqF,Bool.or_false];unfold Stp;rw[Bool.eq_iff_iff];simp only[Bool.or_eq_true,beq_iff_eq,decide_eq_true_eq,Int.ofNat_inj];exact⟨fun h=>decide_eq_true (h.imp Eq.symm Eq.symm),fun h=>(of_decide_eq_true h).imp Eq.symm Eq.symm⟩
  exact bg (Hq (n:=true) (aa rfl) (fD (a7 (b9 (aa rfl) DQ (rS i)) (a7 (aa rfl) bC))) hv)
 have wh:=Bf (t:=fun σ=>(ev cl σ (.inn true (.var 4) (.tup (.cons (.ix (.var 3) (.neg (.cst (.int 1)))) (.cons (.var 2) .nil))))).bind truth) (f:=ah cl [3] yH) (σ:=fun i=>[some A,some B,some (.int (x:Nat)),some (.lst (L (wks a b x i))),some (.int (wk a b x (i+1):Nat)),zQ A B i]) (k:=k) (fun i hi=>by
  refine⟨by rw[cond];simp[hs i hi],?_⟩
  have hl:(L (wks a b x i)).length<most:=by simp[L,wks,most];lia
  have ha:L (wks a b x i)++[D.int (wk a b x (i+1):Nat)]=L (wks a b x (i+1)):=by rw[A3,de];rfl
  have ln:biV .len (.lst (L (wks a b x (i+1))))=some (.int ((i+2:Nat):Int)):=by
   show some (D.int ((L (wks a b x (i+1))).length:Nat))=_;simp[L,wks];lia
  have md:aG .mod (.int ((i+2:Nat):Int)) (.int 2)=some (.int (((i+2)%2:Nat):Int)):=by rw[gg (by decide)];simp
  have lt:=fA T hx (i+1);refine sU (aa rfl) rfl rfl hl ?_;rw[ha];by_cases c:i%2=0
  ·have h0:bB .eq (.int (((i+2)%2:Nat):Int)) (.int 0)=some true:=by
    rw[show(i+2)%2=0 by lia];rfl
   refine aA (d:=A) (kr (k:=true) (bg (aK (a6 (bp (aa rfl) ln) aw md) aw h0)) (aa rfl)) (by simp[aN,Fy,vX]) (aA (b9 (aa rfl) (aa rfl) (hA _ lt)) rfl ?_);rw[aF];show some (Out.nx,[some A,some B,some (D.int (x:Nat)),some (.lst (L (wks a b x (i+1)))),some (.int (a (wk a b x (i+1)):Nat)),some A])=_;rw[<-fF (a:=a) (b:=b) (x:=x) (k:=i+1) (by lia)];simp[zQ,c]
  ·have h0:bB .eq (.int (((i+2)%2:Nat):Int)) (.int 0)=some false:=by
    rw[show(i+2)%2=1 by lia];rfl
   refine aA (d:=B) (kr (k:=false) (bg (aK (a6 (bp (aa rfl) ln) aw md) aw h0)) (aa rfl)) (by simp[aN,Fy,vX]) (aA (b9 (aa rfl) (aa rfl) (hB _ lt)) rfl ?_);rw[aF];show some (Out.nx,[some A,some B,some (D.int (x:Nat)),some (.lst (L (wks a b x (i+1)))),some (.int (b (wk a b x (i+1)):Nat)),some B])=_;rw[<-cX (a:=a) (b:=b) (x:=x) (k:=i+1) (by lia)]
   simp[zQ,c]) (by rw[cond];simp[st]) k 0 most (by lia) (by unfold most;lia)
 have w1:wk a b x (0+1)=b x:=cX rfl;rw[w1]at wh;exact aS rfl rfl (ee (d:=.lst (L (wks a b x 0))) (jz (a7 (aa rfl) bC)) rfl (aA (b9 (aa rfl) (aa rfl) (hB x hx)) rfl (F9 wh (aT (aa rfl) (by simp[bh,a8,aP,qq])))))
end
def G7(hl:ds.length=fn.ps)(hm:fn.mp=[0])(h:ah cl fn.M fn.body (ds.map some++List.replicate (fn.nn-fn.ps) none)=some (.nx,σ'))(ho:(σ'[0]?).bind id=some o):evF cl fn ds=some (.tup [.non,o]):=by
 unfold evF;rw[if_pos hl,h];show aW fn .non σ'=_;unfold aW;rw[hm];show(if D.non.imm=true then Option.map _ (eI σ' [0])else none)=_;rw[if_pos (show D.non.imm=true from rfl),eI,ho];rfl
abbrev BL(s:List Bool):List D:=s.map D.bl
def xM:∀ s:List Bool,au (BL s)=true
 | []=>rfl
 | x::r=>by
  show((D.bl x).imm&&au (BL r))=true;rw[xM r];rfl
abbrev Sn(m:Nat)(s:List Bool)(P:Nat->Prop):Prop:=s.length=m/\∀ y,y<m->(s[y]?=some true↔P y)
def Sn.set(h:Sn m s P)(hp:p<m):Sn m (s.set p true) (fun y=>P y\/y=p):=by
 obtain⟨h1,h2⟩:=h;refine⟨by simp[h1],fun y hy=>?_⟩;rw[List.getElem?_set];by_cases c:p=y
 ·subst c;rw[if_pos rfl,if_pos (by lia)];exact⟨fun _=>.inr rfl,fun _=>rfl⟩
 ·rw[if_neg c,h2 y hy];exact⟨.inl,fun z=>z.resolve_right fun e=>c e.symm⟩
def Sn.congr(h:Sn m s P)(e:∀ y,y<m->(P y↔Q y)):Sn m s Q:=⟨h.1,fun y hy=>(h.2 y hy).trans (e y hy)⟩
section
variable{cl:Cl}
def zr(h:Sn m s P)(hp:∀ p∈ps,p<m):∃ s',Sn m s' (fun y=>P y\/y∈ps)/\evF cl rY [.lst (BL s),.lst (L ps)]=some (.tup [.non,.lst (BL s')]):=by
 obtain⟨σ',e,s',o,rfl,hs⟩:=cQ (f:=ah cl [0,0] uk) (tg:=[2]) (xs:=ps) (σ:=[some (.lst (BL s)),some (.lst (L ps)),none]) (fun u σ=>∃ (s':List Bool) (o:Option D),σ=[some (.lst (BL s')),some (.lst (L ps)),o]/\Sn m s' fun y=>P y\/y∈u) ⟨s,none,rfl,h.congr fun y _=>by simp⟩ (by
  rintro u p v σ hu ⟨s',o,rfl,hs⟩;have hpm:=hp p (by rw[hu];simp)
  have hl:(BL s').length=m:=by simp[BL,hs.1]
  have hput:dJ (.lst (BL s')) (.int (p:Nat)) (.bl true)=some (.lst (BL (s'.set p true))):=by
   show Option.map (fun j=>D.lst ((BL s').set j (.bl true))) (jN (BL s').length (p:Int))=_;rw[hl,rE hpm];simp[BL,List.map_set]
  refine⟨_,iE (cl:=cl) (M:=[0,0]) (r:=.nil) aw (aa rfl) rfl rfl hput aF,s'.set p true,_,rfl,(hs.set hpm).congr fun y _=>by simp[or_assoc]⟩)
 exact⟨s',hs,G7 rfl rfl (bZ (cM (aa rfl) rfl) e aF) rfl⟩
def BS(h:Sn m s P)(hp:p<m):∃ v:Bool,ixV (.lst (BL s)) (.int (p:Nat))=some (.bl v)/\(v=true↔P p):=by
 have hl:p<s.length:=by rw[h.1];exact hp
 refine⟨s[p],?_,?_⟩
 ·show cb (BL s) (p:Int)=_;rw[dO];simp[BL,hl]
 ·rw[<-h.2 p hp,List.getElem?_eq_getElem hl];simp
abbrev Pth(m:Nat)(a b:Nat->Nat)(y:Nat):Prop:=∃ s,s<m/\(a s=s\/b s=s)/\Cn a b s y
def nM:y∈wks a b x k↔∃ i,i<=k/\wk a b x i=y:=by
 unfold wks;rw[List.mem_map];constructor
 ·rintro⟨i,hi,e⟩;exact⟨i,by have:=List.mem_range.mp hi;lia,e⟩
 ·rintro⟨i,hi,e⟩;exact⟨i,List.mem_range.mpr (by lia),e⟩
def oS(T:Two m a b)(hr:∀ x:Nat,x<m->∃ k,k<m/\Stp a b x k/\(∀ j,j<k->¬ Stp a b x j)/\cl fr [A,B,.int (x:Nat)]=some (.lst (L (wks a b x k))))(hx:x<m)(h:a x=x\/∀ y,Cn a b x y->a y≠y/\b y≠y) :
  ∃ ps:List Nat,(∀ p∈ps,p<m)/\(∀ y,y∈ps↔Cn a b x y)/\cl fr [A,B,.int (x:Nat)]=some (.lst (L ps)):=by
 obtain⟨k,_,st,hs,e⟩:=hr x hx;refine⟨_,fun p hp=>?_,fun y=>?_,e⟩
 ·obtain⟨i,_,rfl⟩:=nM.mp hp;exact fA T hx i
 ·rw[nM];exact⟨fun⟨i,_,e⟩=>e▸iU i,fun hy=>kD T hx st hs h hy⟩
def sD(T:Two m a b)(hm:m<=1000)(lA:biV .len A=some (.int (m:Nat)))
 (hA:∀ x:Nat,x<m->ixV A (.int (x:Nat))=some (.int (a x:Nat)))(hB:∀ x:Nat,x<m->ixV B (.int (x:Nat))=some (.int (b x:Nat)))
 (hr:∀ x:Nat,x<m->∃ k,k<m/\Stp a b x k/\(∀ j,j<k->¬ Stp a b x j)/\cl fr [A,B,.int (x:Nat)]=some (.lst (L (wks a b x k))))
 (hr':∀ x:Nat,x<m->∃ k,k<m/\Stp b a x k/\(∀ j,j<k->¬ Stp b a x j)/\cl fr [B,A,.int (x:Nat)]=some (.lst (L (wks b a x k))))
 (hk:∀ (s:List Bool) (P:Nat->Prop) (ps:List Nat),Sn m s P->(∀ p∈ps,p<m)->∃ s',Sn m s' (fun y=>P y\/y∈ps)/\cl fm [.lst (BL s),.lst (L ps)]=some (.tup [.non,.lst (BL s')])) :
  ∃ S:List Nat,cj m a b S/\evF cl (jk fm fr) [A,B]=some (.int (S.length:Nat)):=by
 have e1:=df (n:=m) hm
 obtain⟨σ1,l1,s1,o1,rfl,hs1⟩:=cQ (f:=ah cl [2] (i5 fm fr)) (tg:=[3]) (xs:=List.range m) (σ:=[some A,some B,some (.lst (BL (List.replicate m false))),none,none]) (fun u σ=>∃ (s:List Bool) (o:Option D),σ=[some A,some B,some (.lst (BL s)),o,none]/\Sn m s fun y=>∃ x,x∈u/\(a x=x\/b x=x)/\Cn a b x y)
  ⟨_,none,rfl,by simp,fun y hy=>by
   simp[List.getElem?_replicate,hy]⟩ (by
  rintro u x v σ hu ⟨s,o,rfl,hs⟩
  have hx:x<m:=by
   have:x∈List.range m:=by rw[hu];simp
   simpa using this
  show ∃ σ2,ah cl [2] (i5 fm fr) [some A,some B,some (.lst (BL s)),some (.int (x:Nat)),none]=some (.nx,σ2)/\_
  obtain⟨s2,hs2,k2⟩:∃ s2,Sn m s2 (fun y=>(∃ x,x∈u/\(a x=x\/b x=x)/\Cn a b x y)\/(a x=x/\Cn a b x y))/\∀ (r:Ss) (res:Option (Out × St)),ah cl [2] r [some A,some B,some (.lst (BL s2)),some (.int (x:Nat)),none]=res->ah cl [2] (.cons (.ife (.cmp .eq (.ix (.var 0) (.var 3)) (.var 3)) (.cons (.mexc fm (.cons (.var 2) (.cons (.call fr (.cons (.var 0) (.cons (.var 1) (.cons (.var 3) .nil)))) .nil)) [0] [2]) .nil) .nil) r) [some A,some B,some (.lst (BL s)),some (.int (x:Nat)),none]=res:=by
   by_cases c:a x=x
   ·obtain⟨ps,p1,p2,p3⟩:=oS T hr hx (.inl c);obtain⟨s',hs',e⟩:=hk s _ ps hs p1;refine⟨s',hs'.congr fun y _=>by rw[p2];simp[c],fun r res k=>fJ (bg (aK (b9 (aa rfl) (aa rfl) (hA x hx)) (aa rfl) (by rw[gM,c];simp))) (iG (a7 (aa rfl) (a7 (qR (aa rfl) (aa rfl) (aa rfl) p3) bC)) (by simp[dA,isVar,aN,D.imm,a8,aP]) e rfl aF) k⟩
   ·refine⟨s,hs.congr fun y _=>by simp[c],fun r res k=>cm (bg (aK (b9 (aa rfl) (aa rfl) (hA x hx)) (aa rfl) (by rw[gM];congr 1;simp;lia))) k⟩
  obtain⟨s3,hs3,k3⟩:∃ s3,Sn m s3 (fun y=>((∃ x,x∈u/\(a x=x\/b x=x)/\Cn a b x y)\/(a x=x/\Cn a b x y))\/(b x=x/\Cn a b x y))/\ah cl [2] (.cons (.ife (.cmp .eq (.ix (.var 1) (.var 3)) (.var 3)) (.cons (.mexc fm (.cons (.var 2) (.cons (.call fr (.cons (.var 1) (.cons (.var 0) (.cons (.var 3) .nil)))) .nil)) [0] [2]) .nil) .nil) .nil) [some A,some B,some (.lst (BL s2)),some (.int (x:Nat)),none]=some (.nx,[some A,some B,some (.lst (BL s3)),some (.int (x:Nat)),none]):=by
   by_cases c:b x=x
   ·obtain⟨ps,p1,p2,p3⟩:=oS T.swap hr' hx (.inl c);obtain⟨s',hs',e⟩:=hk s2 _ ps hs2 p1;refine⟨s',hs'.congr fun y _=>?_,fJ (bg (aK (b9 (aa rfl) (aa rfl) (hB x hx)) (aa rfl) (by rw[gM,c];simp))) (iG (a7 (aa rfl) (a7 (qR (aa rfl) (aa rfl) (aa rfl) p3) bC)) (by simp[dA,isVar,aN,D.imm,a8,aP]) e rfl aF) aF⟩;rw[p2]
    have:Cn b a x y↔Cn a b x y:=⟨Cn.flip,Cn.flip⟩
    simp[c,this]
   ·exact⟨s2,hs2.congr fun y _=>by simp[c],cm (bg (aK (b9 (aa rfl) (aa rfl) (hB x hx)) (aa rfl) (by rw[gM];congr 1;simp;lia))) aF⟩
  refine⟨_,k2 _ _ k3,s3,_,rfl,hs3.congr fun y _=>?_⟩;constructor
  ·rintro((⟨z,h1,h2,h3⟩ | ⟨h1,h2⟩) | ⟨h1,h2⟩)
   ·exact⟨z,by simp[h1],h2,h3⟩
   ·exact⟨x,by simp,.inl h1,h2⟩
   ·exact⟨x,by simp,.inr h1,h2⟩
  ·rintro⟨z,h1,h2,h3⟩;rcases List.mem_append.mp h1 with h1 | h1
   ·exact .inl (.inl ⟨z,h1,h2,h3⟩)
   ·have:z=x:=by simpa using h1
    subst this;rcases h2 with h2 | h2
    ·exact .inl (.inr ⟨h2,h3⟩)
    ·exact .inr ⟨h2,h3⟩)
 have hs1':Sn m s1 (Pth m a b):=hs1.congr fun y _=>⟨fun⟨x,h1,h2,h3⟩=>⟨x,by simpa using h1,h2,h3⟩,fun⟨x,h1,h2,h3⟩=>⟨x,by simpa using h1,h2,h3⟩⟩
 obtain⟨σ2,l2,s2,o2,S,rfl,hs2,c1,c2,c3,c4⟩:=cQ (f:=ah cl [2] (iw fm fr)) (tg:=[3]) (xs:=List.range m) (σ:=[some A,some B,some (.lst (BL s1)),o1,some (.int ((([]:List Nat).length:Nat):Int))]) (fun u σ=>∃ (s:List Bool) (o:Option D) (S:List Nat),σ=[some A,some B,some (.lst (BL s)),o,some (.int (S.length:Nat))]/\Sn m s (fun y=>Pth m a b y\/∃ t∈S,Cn a b t y)/\(∀ t∈S,t<m)/\(S.Pairwise fun t t'=>¬ Cn a b t t')/\(∀ t∈S,¬ Pth m a b t)/\∀ y∈u,Pth m a b y\/∃ t∈S,Cn a b t y)
  ⟨s1,o1,[],rfl,hs1'.congr fun y _=>by simp,by simp,.nil,by simp,by simp⟩ (by
  rintro u x v σ hu ⟨s,o,S,rfl,hs,c1,c2,c3,c4⟩
  have hx:x<m:=by
   have:x∈List.range m:=by rw[hu];simp
   simpa using this
  show ∃ σ2,ah cl [2] (iw fm fr) [some A,some B,some (.lst (BL s)),some (.int (x:Nat)),some (.int (S.length:Nat))]=some (.nx,σ2)/\_;obtain⟨w,w1,w2⟩:=BS hs hx
  cases w with
  |true=>
   refine⟨_,cm (bg (sF (b9 (aa rfl) (aa rfl) w1))) aF,s,_,S,rfl,hs,c1,c2,c3,fun y hy=>?_⟩;rcases List.mem_append.mp hy with hy | hy
   ·exact c4 y hy
   ·have:y=x:=by simpa using hy
    subst this;exact w2.mp rfl
  |false=>
   have hn:¬ (Pth m a b x\/∃ t∈S,Cn a b t x):=fun z=>Bool.noConfusion (w2.mpr z);have np:¬ Pth m a b x:=fun z=>hn (.inl z)
   have ring:∀ y,Cn a b x y->a y≠y/\b y≠y:=fun y hy=>⟨fun e=>np ⟨y,hy.lt T hx,.inl e,hy.symm T hx⟩,fun e=>np ⟨y,hy.lt T hx,.inr e,hy.symm T hx⟩⟩
   obtain⟨ps,p1,p2,p3⟩:=oS T hr hx (.inr ring);obtain⟨s',hs',e⟩:=hk s _ ps hs p1;refine⟨_,fJ (bg (sF (b9 (aa rfl) (aa rfl) w1))) (Eb rfl aw cw (iG (a7 (aa rfl) (a7 (qR (aa rfl) (aa rfl) (aa rfl) p3) bC)) (by simp[dA,isVar,aN,D.imm,a8,aP]) e rfl aF)) aF,s',_,S++[x],by simp;rfl,hs'.congr fun y _=>?_,fun t ht=>?_,?_,fun t ht=>?_,fun y hy=>?_⟩
   ·rw[p2];constructor
    ·rintro((h | ⟨t,h1,h2⟩) | h)
     ·exact .inl h
     ·exact .inr ⟨t,by simp[h1],h2⟩
     ·exact .inr ⟨x,by simp,h⟩
    ·rintro(h | ⟨t,h1,h2⟩)
     ·exact .inl (.inl h)
     ·rcases List.mem_append.mp h1 with h1 | h1
      ·exact .inl (.inr ⟨t,h1,h2⟩)
      ·have:t=x:=by simpa using h1
       subst this;exact .inr h2
   ·rcases List.mem_append.mp ht with ht | ht
    ·exact c1 t ht
    ·have:t=x:=by simpa using ht
     subst this;exact hx
   ·rw[List.pairwise_append];refine⟨c2,by simp,fun t ht t' ht' z=>?_⟩
    have:t'=x:=by simpa using ht'
    subst this;exact hn (.inr ⟨t,ht,z⟩)
   ·rcases List.mem_append.mp ht with ht | ht
    ·exact c3 t ht
    ·have:t=x:=by simpa using ht
     subst this;exact np
   ·rcases List.mem_append.mp hy with hy | hy
    ·rcases c4 y hy with h | ⟨t,h1,h2⟩
     ·exact .inl h
     ·exact .inr ⟨t,by simp[h1],h2⟩
    ·have:y=x:=by simpa using hy
     subst this
     exact .inr ⟨y,by simp,.refl⟩)
 refine⟨S,⟨c1,c2,fun t ht y hy=>⟨fun e=>c3 t ht ⟨y,hy.lt T (c1 t ht),.inl e,hy.symm T (c1 t ht)⟩,fun e=>c3 t ht ⟨y,hy.lt T (c1 t ht),.inr e,hy.symm T (c1 t ht)⟩⟩,fun x hx=>c4 x (by simpa using hx)⟩,?_⟩
 have e0:aG .mul (.lst [.bl false]) (.int (m:Nat))=some (.lst (BL (List.replicate m false))):=by
  rw[G0];rw[if_pos ⟨by lia,by unfold most;lia,by simp[most];lia⟩];simp[BL]
 exact aS rfl rfl (ee (a6 (jz (a7 aw bC)) (bp (aa rfl) lA) e0) (by simp[a8,xM]) (bZ (mW (bp (aa rfl) lA) e1) l1 (aA aw rfl (bZ (mW (bp (aa rfl) lA) e1) l2 (aT (aa rfl) rfl)))))
end
abbrev jn(n x:Nat):Nat:=if x<n then x else if x<2*n then x+n else if x<3*n then x-n else x
abbrev rb(n:Nat)(h l:List Nat)(x:Nat):Nat:=if x<2*n then at' h x else 2*n+at' l (x-2*n)
abbrev out(n p:Nat):Nat:=if p<n then p else p+2*n
section
def two(F:Frm n h)(G:Frm n l):Two (4*n) (jn n) (rb n h l):=by
 refine⟨fun x hx=>?_,fun x hx=>?_,fun x hx=>?_,fun x hx=>?_⟩
 ·unfold jn;(repeat' split)<;>lia
 ·unfold rb;split
  ·have:=F.lt x (by lia);lia
  ·have:=G.lt (x-2*n) (by omega);lia
 ·unfold jn;(repeat' split)<;>lia
 ·unfold rb;by_cases c:x<2*n
  ·rw[if_pos c,if_pos (F.lt x c),F.inv]
  ·rw[if_neg c,if_neg (by lia),Nat.add_sub_cancel_left,G.inv];omega
def dE(F:Frm n h)(G:Frm n l)(hx:x<4*n):rb n h l x≠x:=by
 unfold rb;split
 ·rename_i c;exact F.no x c
 ·have:=G.no (x-2*n) (by omega);lia
def aU(hp:p<2*n):out n p<4*n:=by unfold out;split<;>lia
def dB(hp:p<2*n):jn n (out n p)=out n p:=by unfold out jn;(repeat' split)<;>lia
def nY(e:out n p=out n q)(hp:p<2*n)(hq:q<2*n):p=q:=by unfold out at e;(repeat' split at e)<;>lia
def yP(hx:x<4*n)(e:jn n x=x):∃ p,p<2*n/\x=out n p:=by
 by_cases c:x<n
 ·exact⟨x,by lia,by unfold out;rw[if_pos c]⟩
 ·have:3*n<=x:=by
   unfold jn at e
   (repeat' split at e)<;>lia
  exact⟨x-2*n,by lia,by unfold out;rw[if_neg (by lia)];lia⟩
abbrev en2(n:Nat)(s:Bool × Nat):Nat:=if s.1 then s.2 else 2*n+s.2
def DC(hs:s.2<2*n)(c:s.1=decide (n<=s.2)):en2 n (stp n h l s)=rb n h l (jn n (en2 n s)):=by
 obtain⟨b,q⟩:=s;unfold stp;rw[if_pos c];dsimp only at c hs ⊢;rw[c];clear c;by_cases c:n<=q
 ·have e:(q+n)%(2*n)=q-n:=by rw[Nat.mod_eq_sub_mod (by lia),Nat.mod_eq_of_lt (by omega)];lia
  have e2:jn n q=q+n:=by unfold jn;rw[if_neg (by lia),if_pos hs]
  simp only[c,decide_true,Bool.not_true,en2,pick,if_true,Bool.false_eq_true,if_false,e,e2,rb];rw[if_neg (by lia),show q+n-2*n=q-n by lia]
 ·have e:(q+n)%(2*n)=q+n:=Nat.mod_eq_of_lt (by lia)
  have e2:jn n (2*n+q)=n+q:=by unfold jn;rw[if_neg (by lia),if_neg (by lia),if_pos (by lia)];lia
  simp only[c,decide_false,Bool.not_false,en2,pick,if_true,Bool.false_eq_true,if_false,e,e2,rb];rw[if_pos (by lia),Nat.add_comm]
def vG(hs:s.2<2*n):s.1=decide (n<=s.2)↔jn n (en2 n s)≠en2 n s:=by
 obtain⟨b,q⟩:=s;dsimp only at hs;cases b
 ·simp only[en2,Bool.false_eq_true,if_false];by_cases c:n<=q
  ·simp only[c,decide_true,Bool.false_eq_true,false_iff,Classical.not_not];unfold jn;rw[if_neg (by lia),if_neg (by lia),if_neg (by lia)]
  ·simp only[c,decide_false,true_iff];unfold jn;rw[if_neg (by lia),if_neg (by lia),if_pos (by lia)];lia
 ·simp only[en2,if_true];by_cases c:n<=q
  ·simp only[c,decide_true,true_iff];unfold jn;rw[if_neg (by lia),if_pos hs];lia
  ·simp only[c,decide_false,Bool.true_eq_false,false_iff,Classical.not_not];unfold jn;rw[if_pos (by lia)]
def CB(c:¬ s.1=decide (n<=s.2)):stp n h l s=s:=by
 unfold stp;rw[if_neg c]
def GB(hp:p<2*n):en2 n (beg n h l p)=rb n h l (out n p):=by
 unfold beg en2 rb out pick;by_cases c:p<n
 ·simp only[c,decide_true,if_true];rw[if_pos (by lia)]
 ·simp only[c,decide_false,Bool.false_eq_true,if_false];rw[if_neg (by lia),show p+2*n-2*n=p by lia]
def iX(F:Frm n h)(G:Frm n l)(hp:p<2*n)(st:Stp (jn n) (rb n h l) (out n p) k)(hs:∀ j,j<k->¬ Stp (jn n) (rb n h l) (out n p) j) :
  ∀ j,en2 n (itr n h l j (beg n h l p))=wk (jn n) (rb n h l) (out n p) (if 2*j+1<=k then 2*j+1 else k):=by
 have T:=two F G;obtain⟨k1,k2⟩:=kM T (aU hp) st hs (fun y hy=>dE F G hy) (dB hp)
 have blt:(beg n h l p).2<2*n:=by
  unfold beg pick;dsimp only;split
  ·exact F.lt p hp
  ·exact G.lt p hp
 intro j
 induction j with
 |zero=>
  rw[if_pos (by lia)];show en2 n (beg n h l p)=_;rw[GB hp];exact(cX (k:=0) rfl).symm
 |succ j ih=>
  have hl:=gU (fun x hx=>F.lt x hx) (fun x hx=>G.lt x hx) (h:=h) (l:=l) blt j;show en2 n (stp n h l (itr n h l j (beg n h l p)))=_;by_cases c:2*(j+1)+1<=k
  ·rw[if_pos (by lia)]at ih;rw[if_pos c]
   have ne:jn n (en2 n (itr n h l j (beg n h l p)))≠en2 n (itr n h l j (beg n h l p)):=by
    rw[ih];intro e;exact hs (2*j+1) (by lia) (.inl (by rw[fF (by lia)];exact e))
   rw[DC hl ((vG hl).mpr ne),ih,<-fF (a:=jn n) (b:=rb n h l) (x:=out n p) (k:=2*j+1) (by lia),<-cX (a:=jn n) (b:=rb n h l) (x:=out n p) (k:=2*j+1+1) (by lia)];congr 1
  ·rw[if_neg c]
   have e:(if 2*j+1<=k then 2*j+1 else k)=k:=by split<;>lia
   rw[e]at ih;rw[CB (fun z=>(vG hl).mp z (by rw[ih];exact k2)),ih]
def di:(ao n h l).length=2*n:=by simp[ao]
def lH(hp:p<2*n):at' (ao n h l) p=(itr n h l (4*n) (beg n h l p)).2:=by simp[ao,at',hp]
def kc(F:Frm n h)(G:Frm n l)(hp:p<2*n)(hk:k<4*n)(st:Stp (jn n) (rb n h l) (out n p) k)(hs:∀ j,j<k->¬ Stp (jn n) (rb n h l) (out n p) j) :
  at' (ao n h l) p<2*n/\wk (jn n) (rb n h l) (out n p) k=out n (at' (ao n h l) p):=by
 have T:=two F G;obtain⟨k1,k2⟩:=kM T (aU hp) st hs (fun y hy=>dE F G hy) (dB hp);have w:=iX F G hp st hs (4*n);rw[show(if 2*(4*n)+1<=k then 2*(4*n)+1 else k)=k by split<;>lia]at w;rw[lH hp]
 have blt:(beg n h l p).2<2*n:=by
  unfold beg pick;dsimp only;split
  ·exact F.lt p hp
  ·exact G.lt p hp
 have hl:=gU (fun x hx=>F.lt x hx) (fun x hx=>G.lt x hx) (h:=h) (l:=l) blt (4*n);refine⟨hl,?_⟩;rw[<-w];have no:¬ (itr n h l (4*n) (beg n h l p)).1=decide (n<=(itr n h l (4*n) (beg n h l p)).2):=fun z=>(vG hl).mp z (by rw[w];exact k2);generalize itr n h l (4*n) (beg n h l p)=s at *;obtain⟨b,q⟩:=s;unfold en2 out;dsimp only at no hl ⊢;cases b
 ·rw[if_neg (by decide)];have:¬ q<n:=fun c=>no (by simp[show ¬ n<=q by lia]);rw[if_neg this];lia
 ·rw[if_pos rfl]
  have:q<n:=by
   apply Classical.byContradiction;intro c;exact no (by simp[show n<=q by lia])
  rw[if_pos this]
def found_iff(F:Frm n h)(G:Frm n l)(hp:p<2*n)(hq:q<2*n)(ne:p≠q):at' (ao n h l) p=q↔Cn (jn n) (rb n h l) (out n p) (out n q):=by
 have T:=two F G;obtain⟨k,hk,st,hs⟩:=fh T (aU hp);obtain⟨e1,e2⟩:=kc F G hp hk st hs;constructor
 ·intro e;rw[<-e,<-e2];exact iU k
 ·intro c;obtain⟨i,hi,e⟩:=kD T (aU hp) st hs (.inl (dB hp)) c
  have fx:jn n (wk (jn n) (rb n h l) (out n p) i)=wk (jn n) (rb n h l) (out n p) i:=by rw[e];exact dB hq
  have ik:i=k:=by
   apply Classical.byContradiction;intro z
   have i0:i≠0:=fun z=>by
    subst z;exact ne (nY e hp hq)
   by_cases c:i%2=1
   ·exact hs i (by lia) (.inl (by rw[fF c];exact fx))
   ·have:=iJ T (aU hp) (i-1);rw[show i-1+1=i by lia,if_neg (by lia),fx]at this;exact hs (i-1) (by lia) (.inl (by rw[show i-1+1=i by lia];exact this))
  subst ik;rw[e2]at e;exact(nY e e1 hq)
def cG(F:Frm n h)(G:Frm n l):Frm n (ao n h l):=by
 have T:=two F G
 have lt:∀ p,p<2*n->at' (ao n h l) p<2*n/\at' (ao n h l) p≠p:=fun p hp=>by
  obtain⟨k,hk,st,hs⟩:=fh T (aU hp);obtain⟨e1,e2⟩:=kc F G hp hk st hs;obtain⟨k1,k2⟩:=kM T (aU hp) st hs (fun y hy=>dE F G hy) (dB hp);refine⟨e1,fun e=>?_⟩;rw[e]at e2;exact kW T (aU hp) hs (i:=0) (j:=k) (by lia) (Nat.le_refl _) e2.symm
 refine⟨di,fun p hp=>(lt p hp).1,fun p=>?_,fun p hp=>(lt p hp).2⟩;by_cases hp:p<2*n
 ·obtain⟨l1,l2⟩:=lt p hp;have c:=(found_iff F G hp l1 (Ne.symm l2)).mp rfl;exact(found_iff F G l1 hp l2).mpr (c.symm T (aU hp))
 ·rw[cF (f:=ao n h l) (x:=p) (by rw[di];lia),cF (by rw[di];lia)]
end
section
def nZ{β:Type}{σ:St}{e:E}{i:Nat}{u g:β->D}(im:∀ x,(g x).imm=true)(xs:List β)(h:∀ x∈xs,ev cl (σ.set i (some (u x))) e=some (g x)):bT (fun σ1=>(ev cl σ1 e).map some) [i] σ (xs.map u)=some (xs.map g) :=
 my im xs fun x hx=>by
  show Option.map some (ev cl (σ.set i (some (u x))) e)=_;rw[h x hx];rfl
def uG{σ:St}{e:E}{i:Nat}{g:Nat->D}(im:∀ x,(g x).imm=true)(xs:List Nat)(h:∀ x∈xs,ev cl (σ.set i (some (.int (x:Nat)))) e=some (g x)):bT (fun σ1=>(ev cl σ1 e).map some) [i] σ (L xs)=some (xs.map g) :=
 nZ im xs h
abbrev jL(n:Nat):List Nat:=List.range n++List.range' (2*n) n++List.range' n n++List.range' (3*n) n
abbrev rbL(n:Nat)(h l:List Nat):List Nat:=h++l.map fun x=>2*n+x
def xX:(jL n).length=4*n:=by simp[jL];lia
def GA(hx:x<4*n):(jL n)[x]?=some (jn n x):=by
 unfold jL jn;by_cases c1:x<n
 ·rw[if_pos c1,List.append_assoc,List.append_assoc,List.getElem?_append_left (by simpa using c1),List.getElem?_range c1]
 ·rw[if_neg c1];by_cases c2:x<2*n
  ·rw[if_pos c2,List.append_assoc,List.append_assoc,List.getElem?_append_right (by simp;lia),List.length_range,List.getElem?_append_left (by simp;omega),List.getElem?_range' (by omega)];congr 1;lia
  ·rw[if_neg c2];by_cases c3:x<3*n
   ·rw[if_pos c3,List.getElem?_append_left (by simp;lia),List.getElem?_append_right (by simp;lia)];simp only[List.length_append,List.length_range,List.length_range'];rw[List.getElem?_range' (by omega)];congr 1;lia
   ·rw[if_neg c3,List.getElem?_append_right (by simp;lia)];simp only[List.length_append,List.length_range,List.length_range'];rw[List.getElem?_range' (by omega)];congr 1;lia
def HP(hx:x<4*n):at' (jL n) x=jn n x:=by
 unfold at';rw[GA hx];rfl
def uc(F:Frm n h)(G:Frm n l):(rbL n h l).length=4*n:=by simp[rbL,F.len,G.len];lia
def Gy(F:Frm n h)(G:Frm n l)(hx:x<4*n):at' (rbL n h l) x=rb n h l x:=by
 unfold rb rbL;by_cases c:x<2*n
 ·rw[if_pos c];unfold at';rw[List.getElem?_append_left (by rw[F.len];exact c)]
 ·rw[if_neg c];unfold at';rw[List.getElem?_append_right (by rw[F.len];lia),F.len,List.getElem?_map]
  have:x-2*n<l.length:=by rw[G.len];omega
  simp[this]
def xV(hx:x<f.length):ixV (.lst (L f)) (.int (x:Nat))=some (.int (at' f x:Nat)):=by
 show cb (L f) (x:Int)=_;rw[dO,qz,fk hx];rfl
def gj(hk:k<100)(n:Nat):aG .mul (.int (k:Nat)) (.int (n:Nat))=some (.int ((k*n:Nat):Int)):=by
 rw[bX (by lia) (by lia)];simp
def vy(hn:n<=10):evF cl dH [.int (n:Nat)]=some (.lst (L (jL n))):=by
 have a1:=df (n:=n) (by lia);have a2:=dm (a:=n) (b:=2*n) (by lia) (by lia);have a3:=dm (a:=2*n) (b:=3*n) (by lia) (by lia);have a4:=dm (a:=3*n) (b:=4*n) (by lia) (by lia);rw[show 2*n-n=n by lia]at a2;rw[show 3*n-2*n=n by lia]at a3;rw[show 4*n-3*n=n by lia]at a4
 have ad:∀ xs ys:List Nat,xs.length+ys.length<=1000->aG .add (.lst (L xs)) (.lst (L ys))=some (.lst (L (xs++ys))):=fun xs ys hl=>by
  show(if(L xs).length+(L ys).length<=most then some (D.lst (L xs++L ys))else none)=_;rw[if_pos (by rw[aM,aM];unfold most;lia),de]
 have im:∀ (e:E) (xs:List Nat),aE e=true->aN [] e (.lst (L xs))=true:=fun e xs ht=>by simp[aN,D.imm,a8,aP,ht]
 refine aS rfl rfl (aA (uo (aa rfl) a1) (im _ _ rfl) (aA (k8 (aa rfl) (a6 aw (aa rfl) (gj (k:=2) (by decide) n)) a2) (im _ _ rfl) (aA (k8 (a6 aw (aa rfl) (gj (k:=2) (by decide) n)) (a6 aw (aa rfl) (gj (k:=3) (by decide) n)) a3) (im _ _ rfl) (aA (k8 (a6 aw (aa rfl) (gj (k:=3) (by decide) n)) (a6 aw (aa rfl) (gj (k:=4) (by decide) n)) a4) (im _ _ rfl) (aT (d:=.lst (L (jL n))) (a6 (a6 (a6 (aa rfl) (aa rfl) (ad _ _ ?_)) (aa rfl) (ad _ _ ?_)) (aa rfl) (ad _ _ ?_)) ?_)))))
 ·simp;lia
 ·simp;lia
 ·simp;lia
 ·simp[bh,a8,aP]
def qd{fg fr fj fo:Nat}{r:Nat}(h1:1<=n)(hn:n<=10)(F:Frm n h)(G:Frm n l)(ho:cl fo [.tup (L h)]=some (.int (n:Nat)))(hj:cl fj [.int (n:Nat)]=some (.lst (L (jL n))))
 (hr:∀ x:Nat,x<4*n->∃ k,k<4*n/\Stp (jn n) (rb n h l) x k/\(∀ j,j<k->¬ Stp (jn n) (rb n h l) x j)/\cl fr [.lst (L (jL n)),.lst (L (rbL n h l)),.int (x:Nat)]=some (.lst (L (wks (jn n) (rb n h l) x k))))
 (hg:cl fg [.lst (L (jL n)),.lst (L (rbL n h l))]=some (.int (r:Nat))):evF cl (iq fg fr fj fo) [.tup (L h),.tup (L l)]=some (.tup [.tup (L (ao n h l)),.int (r:Nat)]):=by
 have lm:∀ xs:List Nat,xs.length<=1000->(L xs).length<=most:=fun xs hl=>by rw[aM];unfold most;lia
 have ad:∀ xs ys:List Nat,xs.length+ys.length<=1000->aG .add (.lst (L xs)) (.lst (L ys))=some (.lst (L (xs++ys))):=fun xs ys hl=>by
  show(if(L xs).length+(L ys).length<=most then some (D.lst (L xs++L ys))else none)=_;rw[if_pos (by rw[aM,aM];unfold most;lia),de]
 have im:∀ (e:E) (xs:List Nat),aE e=true->aN [] e (.lst (L xs))=true:=fun e xs ht=>by simp[aN,D.imm,a8,aP,ht]
 have a1:=df (n:=n) (by lia);have a4:=dm (a:=3*n) (b:=4*n) (by lia) (by lia);rw[show 4*n-3*n=n by lia]at a4
 have oL:List.range n++List.range' (3*n) n=(List.range (2*n)).map (out n):=by
  rw[show 2*n=n+n by lia,List.range_add,List.map_append];congr 1
  ·rw[<-List.map_id (List.range n),List.map_map];refine List.map_congr_left fun p hp=>?_;unfold out;rw[Function.comp,id,if_pos (List.mem_range.mp hp)]
  ·rw[List.range'_eq_map_range,List.map_map];refine List.map_congr_left fun p hp=>?_;unfold out;simp only[Function.comp];rw[if_neg (by lia)];lia
 have l4:(rbL n h l).length<=1000:=by rw[uc F G];lia
 have c1:bT (fun σ1=>(ev cl σ1 (.bin .add (.bin .mul (.cst (.int 2)) (.var 2)) (.var 8))).map some) [8] [some (.tup (L h)),some (.tup (L l)),some (.int (n:Nat)),none,none,none,none,none,none,none] (L l)=some (L (l.map fun x=>2*n+x)):=by
  rw[uG (g:=fun x=>.int ((2*n+x:Nat):Int)) (fun _=>rfl),DD];exact fun x _=>a6 (a6 aw (aa rfl) (gj (k:=2) (by decide) n)) (aa rfl) (show aG .add (.int ((2*n:Nat):Int)) (.int (x:Nat))=some (.int ((2*n+x:Nat):Int)) by rw[cw];simp)
 have c2:bT (fun σ1=>(ev cl σ1 (.ix (.call fr (.cons (.var 4) (.cons (.var 3) (.cons (.var 8) .nil)))) (.neg (.cst (.int 1))))).map some) [8] [some (.tup (L h)),some (.tup (L l)),some (.int (n:Nat)),some (.lst (L (rbL n h l))),some (.lst (L (jL n))),some (.lst (L ((List.range (2*n)).map (out n)))),none,none,none,none] (L ((List.range (2*n)).map (out n)))=some (L ((List.range (2*n)).map fun p=>out n (at' (ao n h l) p))):=by
  have e:L ((List.range (2*n)).map (out n))=(List.range (2*n)).map fun p=>D.int (out n p:Nat):=by simp[L]
  rw[e,nZ (g:=fun p=>.int ((out n (at' (ao n h l) p):Nat):Int)) (fun _=>rfl)]
  ·simp[L]
  ·intro p hp;rw[List.mem_range]at hp;obtain⟨k,k1,k2,k3,k4⟩:=hr (out n p) (aU hp);obtain⟨e1,e2⟩:=kc F G hp k1 k2 k3;rw[<-e2];exact b9 (qR (aa rfl) (aa rfl) (aa rfl) k4) DQ (rS k)
 have c3:bT (fun σ1=>(ev cl σ1 (.ifx (.cmp .lt (.var 9) (.var 2)) (.var 9) (.bin .sub (.var 9) (.bin .mul (.cst (.int 2)) (.var 2))))).map some) [9] [some (.tup (L h)),some (.tup (L l)),some (.int (n:Nat)),some (.lst (L (rbL n h l))),some (.lst (L (jL n))),some (.lst (L ((List.range (2*n)).map (out n)))),some (.lst (L ((List.range (2*n)).map fun p=>out n (at' (ao n h l) p)))),none,none,none] (L ((List.range (2*n)).map fun p=>out n (at' (ao n h l) p)))=some (L (ao n h l)):=by
  have e:L ((List.range (2*n)).map fun p=>out n (at' (ao n h l) p))=(List.range (2*n)).map fun p=>D.int (out n (at' (ao n h l) p):Nat):=by simp[L]
  have e':ao n h l=(List.range (2*n)).map (at' (ao n h l)):=eG di (by simp) fun x hx=>by simp[at',hx]
  have FF:=cG F G;rw[e,nZ (g:=fun p=>.int ((at' (ao n h l) p:Nat):Int)) (fun _=>rfl)]
  ·conv=>rhs;rw[e']
   simp[L]
  ·intro p hp;rw[List.mem_range]at hp;have hl:=FF.lt p hp;by_cases c:at' (ao n h l) p<n
   ·have eo:out n (at' (ao n h l) p)=at' (ao n h l) p:=by unfold out;rw[if_pos c]
    have v:∀ {σ:St},(σ[9]?).bind id=some (D.int (out n (at' (ao n h l) p):Nat))->ev cl σ (.var 9)=some (.int (at' (ao n h l) p:Nat)):=fun h=>by rw[aa h,eo]
    exact kr (k:=true) (bg (aK (aa rfl) (aa rfl) (by rw[dI,decide_eq_true (by lia)]))) (v rfl)
   ·have eo:out n (at' (ao n h l) p)=at' (ao n h l) p+2*n:=by unfold out;rw[if_neg c]
    exact kr (k:=false) (bg (aK (aa rfl) (aa rfl) (by rw[dI,decide_eq_false (by lia)]))) (a6 (aa rfl) (a6 aw (aa rfl) (gj (k:=2) (by decide) n)) (by rw[mr,eo];congr 2;lia))
 have ll:(L l).length<=most:=lm l (by rw[G.len];lia);exact aS rfl rfl (aA (bc (aa rfl) ho) rfl (aA (d:=.lst (L (rbL n h l))) (a6 (bp (aa rfl) rfl) (eX (cM (aa rfl) rfl) ll c1) (ad _ _ (by simp[F.len,G.len];lia))) (im _ _ rfl) (aA (bc (aa rfl) hj) (im _ _ rfl) (aA (d:=.lst (L ((List.range (2*n)).map (out n)))) (a6 (uo (aa rfl) a1) (k8 (a6 aw (aa rfl) (gj (k:=3) (by decide) n)) (a6 aw (aa rfl) (gj (k:=4) (by decide) n)) a4) (by rw[ad _ _ (by simp;lia),oL])) (im _ _ rfl) (aA (eX (cM (aa rfl) rfl) (lm _ (by simp;lia)) c2) (im _ _ rfl) (aA (bp (eX (cM (aa rfl) rfl) (lm _ (by simp;lia)) c3) rfl) (by simp[aN,D.imm,aP]) (aT (fD (a7 (aa rfl) (a7 (cq (aa rfl) (aa rfl) hg) bC))) (by simp[bh,D.imm,au,aP]))))))))
end
section
def Pth.step{m:Nat}{a b:Nat->Nat}{x y:Nat}(h:Pth m a b x)(c:Cn a b x y):Pth m a b y:=by
 obtain⟨s,h1,h2,h3⟩:=h;exact⟨s,h1,h2,h3.trans c⟩
def lD(hm:m<n):jn n (n+m)=2*n+m:=by unfold jn;rw[if_neg (by lia),if_pos (by lia)];lia
def si(hm:m<n):jn n (2*n+m)=n+m:=by unfold jn;rw[if_neg (by lia),if_neg (by lia),if_pos (by lia)];lia
def vI(e:a x=y):Cn a b x y:=by rw[<-e];exact .sa .refl
def Bw(e:b x=y):Cn a b x y:=by rw[<-e];exact .sb .refl
def qN(F:Frm n h)(G:Frm n l)(hm:m<n):Gn n h l (2*n) m↔Pth (4*n) (jn n) (rb n h l) (n+m):=by
 have T:=two F G;constructor
 ·rintro⟨p,hp,j,hj,t1,t2⟩;obtain⟨k,hk,st,hs⟩:=fh T (aU hp);have w:=iX F G hp st hs j;refine⟨out n p,aU hp,.inl (dB hp),?_⟩
  have c:Cn (jn n) (rb n h l) (out n p) (en2 n (itr n h l j (beg n h l p))):=by rw[w];exact iU _
  have blt:(beg n h l p).2<2*n:=by
   unfold beg pick;dsimp only;split
   ·exact F.lt p hp
   ·exact G.lt p hp
  have hl:=gU (fun x hx=>F.lt x hx) (fun x hx=>G.lt x hx) (h:=h) (l:=l) blt j;generalize itr n h l j (beg n h l p)=s at *;obtain⟨b,q⟩:=s;dsimp only at t1 t2 hl;unfold en2 at c;cases b
  ·simp only[Bool.false_eq_true,if_false]at c
   have:q<n:=by
    apply Classical.byContradiction;intro z;rw[decide_eq_true (by lia)]at t1;cases t1
   rw[Nat.mod_eq_of_lt this]at t2;subst t2;have:=Cn.sa c;rw[si hm]at this;exact this
  ·rw[if_pos rfl]at c;have:n<=q:=of_decide_eq_true t1.symm;rw[Nat.mod_eq_sub_mod this,Nat.mod_eq_of_lt (by lia)]at t2;rw[show n+m=q by lia];exact c
 ·rintro⟨s,h1,h2,h3⟩;have h2:jn n s=s:=h2.resolve_right (dE F G h1);obtain⟨p,hp,rfl⟩:=yP h1 h2;obtain⟨k,hk,st,hs⟩:=fh T (aU hp);obtain⟨k1,k2⟩:=kM T (aU hp) st hs (fun y hy=>dE F G hy) (dB hp);obtain⟨i,hi,e⟩:=kD T (aU hp) st hs (.inl (dB hp)) h3;have na:=lD hm
  have i0:i≠0:=fun z=>by
   subst z;have:=dB hp;rw[show out n p=n+m from e,na]at this;lia
  have ik:i≠k:=fun z=>by
   subst z;rw[e,na]at k2;lia
  have blt:(beg n h l p).2<2*n:=by
   unfold beg pick;dsimp only;split
   ·exact F.lt p hp
   ·exact G.lt p hp
  by_cases c:i%2=1
  ·obtain⟨j,rfl⟩:∃ j,i=2*j+1:=⟨i / 2,by lia⟩
   have w:=iX F G hp st hs j;rw[if_pos hi,e]at w;have hl:=gU (fun x hx=>F.lt x hx) (fun x hx=>G.lt x hx) (h:=h) (l:=l) blt j;refine⟨p,hp,j,by lia,?_⟩;unfold Tr;generalize itr n h l j (beg n h l p)=s at *;obtain⟨b,q⟩:=s;unfold en2 at w;dsimp only at w hl ⊢;cases b
   ·rw[if_neg (by decide)]at w;lia
   ·rw[if_pos rfl]at w;subst w;exact⟨(decide_eq_true (by lia)).symm,by rw[Nat.mod_eq_sub_mod (by lia),Nat.mod_eq_of_lt (by lia)];lia⟩
  ·obtain⟨j,rfl⟩:∃ j,i=2*j+1+1:=⟨i / 2-1,by lia⟩
   have w:=iX F G hp st hs j;rw[fF (by lia)]at e
   have e':wk (jn n) (rb n h l) (out n p) (2*j+1)=2*n+m:=by
    have:=congrArg (jn n) e;rw[T.ai _ (fA T (aU hp) _),na]at this;exact this
   rw[if_pos (by lia),e']at w;have hl:=gU (fun x hx=>F.lt x hx) (fun x hx=>G.lt x hx) (h:=h) (l:=l) blt j;refine⟨p,hp,j,by lia,?_⟩;unfold Tr;generalize itr n h l j (beg n h l p)=s at *;obtain⟨b,q⟩:=s;unfold en2 at w;dsimp only at w hl ⊢;cases b
   ·rw[if_neg (by decide)]at w
    have:q=m:=by lia
    subst this;exact⟨(decide_eq_false (by lia)).symm,Nat.mod_eq_of_lt hm⟩
   ·rw[if_pos rfl]at w;lia
def lZ(F:Frm n h)(G:Frm n l)(hx:x<4*n)(np:¬ Pth (4*n) (jn n) (rb n h l) x):∃ m,m<n/\(x=n+m\/x=2*n+m)/\¬ Pth (4*n) (jn n) (rb n h l) (n+m):=by
 have no:jn n x≠x:=fun e=>np ⟨x,hx,.inl e,.refl⟩;by_cases c:x<2*n
 ·have:n<=x:=by
   apply Classical.byContradiction;intro z;exact no (by unfold jn;rw[if_pos (by lia)])
  exact⟨x-n,by omega,.inl (by lia),by rw[show n+(x-n)=x by lia];exact np⟩
 ·have:x<3*n:=by
   apply Classical.byContradiction;intro z;exact no (by unfold jn;rw[if_neg (by lia),if_neg (by lia),if_neg (by lia)])
  refine⟨x-2*n,by omega,.inr (by lia),fun z=>np (z.step ?_)⟩;have:=lD (n:=n) (m:=x-2*n) (by omega);rw[show 2*n+(x-2*n)=x by lia]at this;exact vI this
def rP(F:Frm n h)(G:Frm n l)(hm:m<n)(np:¬ Pth (4*n) (jn n) (rb n h l) (n+m)):at' l m<n/\¬ Pth (4*n) (jn n) (rb n h l) (n+at' l m)/\Cn (jn n) (rb n h l) (n+m) (n+at' l m):=by
 have T:=two F G;have hl:=G.lt m (by lia)
 have e:rb n h l (2*n+m)=2*n+at' l m:=by unfold rb;rw[if_neg (by lia),show 2*n+m-2*n=m by lia]
 have c:Cn (jn n) (rb n h l) (n+m) (2*n+at' l m):=(vI (lD hm)).trans (Bw e);have np':¬ Pth (4*n) (jn n) (rb n h l) (2*n+at' l m):=fun z=>np (z.step (c.symm T (by lia)));obtain⟨j,hj,e1 | e1,e2⟩:=lZ F G (by lia) np'
 ·lia
 ·have:at' l m=j:=by lia
  rw[this];refine⟨hj,e2,?_⟩;rw[this]at c;have:=Cn.sa c;rw[si hj]at this;exact this
def pR(F:Frm n h)(G:Frm n l)(hm:m<n)(np:¬ Pth (4*n) (jn n) (rb n h l) (n+m)):∃ j,j<n/\at' h (n+m)=n+j/\¬ Pth (4*n) (jn n) (rb n h l) (n+j)/\Cn (jn n) (rb n h l) (n+m) (n+j):=by
 have T:=two F G;have hl:=F.lt (n+m) (by lia)
 have e:rb n h l (n+m)=at' h (n+m):=by unfold rb;rw[if_pos (by lia)]
 have c:Cn (jn n) (rb n h l) (n+m) (at' h (n+m)):=Bw e;have np':¬ Pth (4*n) (jn n) (rb n h l) (at' h (n+m)):=fun z=>np (z.step (c.symm T (by lia)));obtain⟨j,hj,e1 | e1,e2⟩:=lZ F G (by lia) np'
 ·exact⟨j,hj,e1,e2,by rw[<-e1];exact c⟩
 ·lia
def Ag(F:Frm n h)(G:Frm n l){inner:List Nat}(hin:∀ m,m∈inner↔m<n/\¬ Pth (4*n) (jn n) (rb n h l) (n+m))
 (f1:∀ x∈inner,∀ y∈inner,f x=f y->Cn (jn n) (rb n h l) (n+x) (n+y))(f2:∀ m∈inner,f (at' l m)=f m)(f3:∀ m∈inner,∀ j,at' h (n+m)=n+j->f j=f m) :
  ∃ S,cj (4*n) (jn n) (rb n h l) S/\(gS (inner.map f)).length=S.length:=by
 have T:=two F G
 have f4:∀ x∈inner,∀ z,Cn (jn n) (rb n h l) (n+x) z->∃ m∈inner,(z=n+m\/z=2*n+m)/\f m=f x:=by
  intro x hx z c
  induction c with
  | refl=>exact⟨x,hx,.inl rfl,rfl⟩
  |sa _ ih=>
   obtain⟨m,hm,e | e,ef⟩:=ih
   ·exact⟨m,hm,.inr (by rw[e,lD ((hin m).mp hm).1]),ef⟩
   ·exact⟨m,hm,.inl (by rw[e,si ((hin m).mp hm).1]),ef⟩
  |sb _ ih=>
   obtain⟨m,hm,e | e,ef⟩:=ih
   ·have mn:=((hin m).mp hm).1;obtain⟨j,h1,h2,h3,_⟩:=pR F G ((hin m).mp hm).1 ((hin m).mp hm).2;exact⟨j,(hin j).mpr ⟨h1,h3⟩,.inl (by rw[e];unfold rb;rw[if_pos (by lia),h2]),by rw[f3 m hm j h2,ef]⟩
   ·obtain⟨h1,h2,_⟩:=rP F G ((hin m).mp hm).1 ((hin m).mp hm).2;exact⟨at' l m,(hin _).mpr ⟨h1,h2⟩,.inr (by rw[e];unfold rb;rw[if_neg (by lia),show 2*n+m-2*n=m by lia]),by rw[f2 m hm,ef]⟩
 have jW:∀ xs:List Nat,∃ R:List Nat,(∀ r∈R,r∈xs)/\R.map f=gS (xs.map f)/\(R.Pairwise fun r t=>f r≠f t)/\∀ x∈xs,∃ r∈R,f r=f x:=by
  intro xs
  suffices H:∀ (ys:List Nat) (R:List Nat) (done:List Nat),(∀ r∈R,r∈done)->(R.Pairwise fun r t=>f r≠f t)->(∀ x∈done,∃ r∈R,f r=f x)->∃ R':List Nat,(∀ r∈R',r∈done++ys)/\R'.map f=(ys.map f).foldl (fun m k=>if m.any (· == k)then m else m++[k]) (R.map f)/\(R'.Pairwise fun r t=>f r≠f t)/\∀ x∈done++ys,∃ r∈R',f r=f x by
   obtain⟨R,h1,h2,h3,h4⟩:=H xs [] [] (by simp) .nil (by simp);exact⟨R,by simpa using h1,h2,h3,by simpa using h4⟩
  intro ys
  induction ys with
  | nil=>intro R done h1 h2 h3;exact⟨R,by simpa using h1,rfl,h2,by simpa using h3⟩
  |cons y ys ih=>
   intro R done h1 h2 h3;by_cases c:(R.map f).any (· == f y)=true
   ·obtain⟨R',g1,g2,g3,g4⟩:=ih R (done++[y]) (fun r hr=>by simp[h1 r hr]) h2 (fun x hx=>by
     rcases List.mem_append.mp hx with hx | hx
     ·exact h3 x hx
     ·have:x=y:=by simpa using hx
      subst this
      simpa using c)
    exact⟨R',by simpa using g1,by rw[List.map_cons,List.foldl_cons,if_pos c];exact g2,g3,by simpa using g4⟩
   ·obtain⟨R',g1,g2,g3,g4⟩:=ih (R++[y]) (done++[y]) (fun r hr=>by
     rcases List.mem_append.mp hr with hr | hr
     ·simp[h1 r hr]
     ·simp at hr;simp[hr]) (by
     rw[List.pairwise_append];refine⟨h2,by simp,fun r hr t ht e=>c ?_⟩
     have:t=y:=by simpa using ht
     subst this
     simpa using⟨r,hr,e⟩) (fun x hx=>by
     rcases List.mem_append.mp hx with hx | hx
     ·obtain⟨r,a1,a2⟩:=h3 x hx;exact⟨r,by simp[a1],a2⟩
     ·have:x=y:=by simpa using hx
      subst this
      exact⟨x,by simp,rfl⟩)
    exact⟨R',by simpa using g1,by rw[List.map_cons,List.foldl_cons,if_neg c];simpa using g2,g3,by simpa using g4⟩
 obtain⟨R,r1,r2,r3,r4⟩:=jW inner;refine⟨R.map fun m=>n+m,⟨fun s hs=>?_,?_,fun s hs y hy=>?_,fun x hx=>?_⟩,by rw[<-r2];simp⟩
 ·obtain⟨m,hm,rfl⟩:=List.mem_map.mp hs;have:=((hin m).mp (r1 m hm)).1;lia
 ·rw[List.pairwise_map];refine List.Pairwise.imp_of_mem ?_ r3;intro a b ha hb ne c;obtain⟨m,hm,e | e,ef⟩:=f4 a (r1 a ha) _ c
  ·have:m=b:=by lia
   subst this;exact ne ef.symm
  ·have:=((hin m).mp hm).1;have:=((hin b).mp (r1 b hb)).1;lia
 ·obtain⟨m,hm,rfl⟩:=List.mem_map.mp hs;obtain⟨j,hj,e,_⟩:=f4 m (r1 m hm) y hy;have jn':=((hin j).mp hj).1;refine⟨?_,dE F G (by rcases e with rfl | rfl<;>lia)⟩;rcases e with rfl | rfl
  ·rw[lD jn'];lia
  ·rw[si jn'];lia
 ·by_cases np:Pth (4*n) (jn n) (rb n h l) x
  ·exact .inl np
  ·obtain⟨m,hm,e,nm⟩:=lZ F G hx np;have mi:=(hin m).mpr ⟨hm,nm⟩;obtain⟨r,hr,er⟩:=r4 m mi;refine .inr ⟨n+r,List.mem_map.mpr ⟨r,hr,rfl⟩,?_⟩;have c:=f1 r (r1 r hr) m mi er;rcases e with rfl | rfl
   ·exact c
   ·exact c.trans (vI (lD hm))
end
section
abbrev HF(inner:List Nat)(hk:List Ky)(hv:List D)(f:Nat->Int):Prop:=hk.length=hv.length/\hk.length<=10/\∀ m∈inner,aB hk hv (.inl (m:Int))=some (.int (f m))
def HF.hi(H:HF inner hk hv f):HI inner hk hv:=⟨H.1,H.2.1,fun m hm=>⟨f m,H.2.2 m hm⟩⟩
def HF.put(H:HF inner hk hv f)(hm:m∈inner)(v:Int):HF inner (putD hk hv (.inl (m:Int)) (.int v)).1 (putD hk hv (.inl (m:Int)) (.int v)).2 (fun x=>if x=m then v else f x):=by
 obtain⟨p1,p2,_⟩:=H.hi.put hm v;refine⟨p1,p2,fun x hx=>?_⟩;rw[eW H.1];dsimp only;by_cases c:x=m
 ·subst c;rw[if_pos rfl,if_pos rfl]
 ·rw[if_neg (fun e=>c (by injection e with e;lia)),if_neg c];exact H.2.2 x hx
def xl(hl:hk.length<=10)(x:Nat)(d:D):dJ (.dK hk hv) (.int (x:Nat)) d=some (.dK (putD hk hv (.inl (x:Int)) d).1 (putD hk hv (.inl (x:Int)) d).2):=by
 rw[FD];dsimp only[keyOf];rw[Option.bind_some,if_pos (by unfold most;lia)]
def qE(H:HF inner hk hv f)(o5 o6 o7:Option D)(keep go:Int):∃ hk' hv' o7',HF inner hk' hv' (fun x=>if f x=go then keep else f x)/\aY (ah cl [4] da) [7] (L inner) (rst n h l inner hk hv o5 o6 o7 (some (.int keep)) (some (.int go)))=some (.nx,rst n h l inner hk' hv' o5 o6 o7' (some (.int keep)) (some (.int go))):=by
 obtain⟨σ',e,hk',hv',o7',g,rfl,H',hg⟩:=cQ (f:=ah cl [4] da) (tg:=[7]) (xs:=inner) (σ:=rst n h l inner hk hv o5 o6 o7 (some (.int keep)) (some (.int go)))
  (fun p σ=>∃ (hk':List Ky) (hv':List D) (o7':Option D) (g:Nat->Int),σ=rst n h l inner hk' hv' o5 o6 o7' (some (.int keep)) (some (.int go))/\HF inner hk' hv' g/\∀ x,g x=if x∈p then(if f x=go then keep else f x)else f x) ⟨hk,hv,o7,f,rfl,H,fun x=>by simp⟩ (by
   rintro p x q σ hx ⟨hk',hv',o7',g,rfl,H',hg⟩
   have hm:x∈inner:=by rw[hx];simp
   have lk:=kA (H'.2.2 x hm);show ∃ σ2,ah cl [4] da (rst n h l inner hk' hv' o5 o6 (some (.int (x:Nat))) (some (.int keep)) (some (.int go)))=some (.nx,σ2)/\_;by_cases c:g x=go
   ·refine⟨rst n h l inner (putD hk' hv' (.inl (x:Int)) (.int keep)).1 (putD hk' hv' (.inl (x:Int)) (.int keep)).2 o5 o6 (some (.int (x:Nat))) (some (.int keep)) (some (.int go)),fJ (bg (aK (jy (aa rfl) (aa rfl) lk) (aa rfl) (by rw[gM];congr 1;simp[c]))) (iE (aa rfl) (aa rfl) rfl rfl (xl H'.2.1 x _) aF) aF,_,_,_,_,rfl,H'.put hm keep,fun y=>?_⟩;by_cases e:y=x
    ·subst e;rw[if_pos rfl,if_pos (by simp)];rw[hg]at c;split at c
     ·split
      ·rfl
      ·rename_i z1 z2;rw[if_neg z2]at c;exact absurd c z2
     ·rw[if_pos c]
    ·rw[if_neg e,hg y];simp[e]
   ·refine⟨rst n h l inner hk' hv' o5 o6 (some (.int (x:Nat))) (some (.int keep)) (some (.int go)),cm (bg (aK (jy (aa rfl) (aa rfl) lk) (aa rfl) (by rw[gM];congr 1;simp[c]))) aF,_,_,_,_,rfl,H',fun y=>?_⟩;by_cases e:y=x
    ·subst e;rw[if_pos (by simp)];rw[hg]at c ⊢;split at c
     ·rename_i z;rw[if_pos z]
     ·rename_i z;rw[if_neg z,if_neg c]
    ·rw[hg y]
     simp[e])
 refine⟨hk',hv',o7',⟨H'.1,H'.2.1,fun m hm=>?_⟩,e⟩;rw[H'.2.2 m hm,hg m,if_pos hm]
abbrev Tog(n:Nat)(h l inner:List Nat)(f:Nat->Int):Prop:=∀ x∈inner,∀ y∈inner,f x=f y->Cn (jn n) (rb n h l) (n+x) (n+y)
abbrev mg(f:Nat->Int)(m o x:Nat):Int:=if f x=f o then f m else f x
def nt(e:f a=f b):mg f m o a=mg f m o b:=by unfold mg;rw[e]
def AN:mg f m o o=mg f m o m:=by
 unfold mg;rw[if_pos rfl];split<;>rfl
def Tog.merge(F:Frm n h)(G:Frm n l)(t:Tog n h l inner f)(hlt:∀ m∈inner,m<n)(hm:m∈inner)(ho:o∈inner)(c:Cn (jn n) (rb n h l) (n+m) (n+o)):Tog n h l inner (mg f m o):=by
 have T:=two F G;intro x hx y hy e;have lx:=hlt x hx;have ly:=hlt y hy;have lm:=hlt m hm;have lo:=hlt o ho;unfold mg at e;split at e
 ·rename_i e1;split at e
  ·rename_i e2;exact t x hx y hy (e1.trans e2.symm)
  ·exact(t x hx o ho e1).trans ((c.symm T (by lia)).trans (t m hm y hy e))
 ·split at e
  ·rename_i e2;exact(t x hx m hm e).trans (c.trans (t o ho y hy e2.symm))
  ·exact t x hx y hy e
def wj(h1:1<=n)(hn:n<=10)(F:Frm n h)(G:Frm n l)(hil:inner.length<=n)(hin:∀ m,m∈inner↔m<n/\¬ Pth (4*n) (jn n) (rb n h l) (n+m)):∃ S:List Nat,cj (4*n) (jn n) (rb n h l) S/\evF cl eT [.tup (L h),.tup (L l),.lst (L inner)]=some (.int (S.length:Nat)):=by
 have e6:=half (xs:=L h) (n:=n) (by rw[aM,F.len])
 obtain⟨σ1,l1,hk,hv,o5,rfl,H0,H1,H2⟩:=cQ (f:=ah cl [4] hW) (tg:=[5]) (xs:=inner) (σ:=rst n h l inner [] [] none none none none none)
  (fun p σ=>∃ hk hv o5,σ=rst n h l inner hk hv o5 none none none none/\hk.length=hv.length/\hk.length<=p.length/\∀ m∈p,aB hk hv (.inl (m:Int))=some (.int (m:Nat))) ⟨[],[],none,rfl,rfl,by simp,by simp⟩ (by
   rintro p x q σ hx ⟨hk,hv,o5,rfl,H0,H1,H2⟩
   have hp:p.length<10:=by
    have:=congrArg List.length hx;simp at this;lia
   have pl:=gA (x:=(.inl (x:Int):Ky)) (d:=.int (x:Nat)) H0;refine⟨rst n h l inner (putD hk hv (.inl (x:Int)) (.int (x:Nat))).1 (putD hk hv (.inl (x:Int)) (.int (x:Nat))).2 (some (.int (x:Nat))) none none none none,iE (cl:=cl) (M:=[4]) (σ:=rst n h l inner hk hv (some (.int (x:Nat))) none none none none) (r:=.nil) (aa rfl) (aa rfl) rfl rfl (xl (by lia) x _) aF,_,_,_,rfl,pl.1,by have:=pl.2;simp;lia,fun m hm=>?_⟩;rw[eW H0];by_cases e:(.inl (x:Int):Ky)=.inl (m:Int)
   ·rw[if_pos e];injection e with e
    have:x=m:=by lia
    rw[this]
   ·rw[if_neg e];simp at hm;rcases hm with hm | hm
    ·exact H2 m hm
    ·exact absurd (by rw[hm]) e)
 have H:HF inner hk hv (fun m=>(m:Int)):=⟨H0,by lia,H2⟩
 obtain⟨σ2,l2',hk',hv',o5',o6',o7',o8',o9',f,rfl,H',t,pr⟩:=cQ (f:=ah cl [4] ig) (tg:=[5]) (xs:=inner) (σ:=rst n h l inner hk hv o5 none none none none)
  (fun p σ=>∃ (hk:List Ky) (hv:List D) (o5 o6 o7 o8 o9:Option D) (f:Nat->Int),σ=rst n h l inner hk hv o5 o6 o7 o8 o9/\HF inner hk hv f/\Tog n h l inner f/\∀ m∈p,f (at' l m)=f m/\∀ j,at' h (n+m)=n+j->f j=f m) ⟨hk,hv,o5,none,none,none,none,_,rfl,H,fun x _ y _ e=>by
   have e:(x:Int)=(y:Int):=e
   have:x=y:=by lia
   subst this
   exact .refl,by simp⟩ (by
   rintro p x q σ hx ⟨hk',hv',o5',o6',o7',o8',o9',f,rfl,H',t,pr⟩
   have hm:x∈inner:=by rw[hx];simp
   have hsub:∀ m∈p,m∈inner:=fun m hm=>by rw[hx];simp[hm]
   have hlt:∀ m∈inner,m<n:=fun m hm=>((hin m).mp hm).1;have xn:=hlt x hm;obtain⟨ln,lp,lc⟩:=rP F G xn ((hin x).mp hm).2;obtain⟨j,jn',hjj,jp,jc⟩:=pR F G xn ((hin x).mp hm).2;have li:=(hin _).mpr ⟨ln,lp⟩;have ji:=(hin _).mpr ⟨jn',jp⟩;obtain⟨hk2,hv2,o72,H2,e2⟩:=qE (cl:=cl) (n:=n) (h:=h) (l:=l) H' (some (.int (x:Nat))) (some (.int (at' l x:Nat))) o7' (f x) (f (at' l x));have t2:=t.merge F G hlt hm li lc;have H2:HF inner hk2 hv2 (mg f x (at' l x)):=H2;obtain⟨hk3,hv3,o73,H3,e3⟩:=qE (cl:=cl) (n:=n) (h:=h) (l:=l) H2 (some (.int (x:Nat))) (some (.int (j:Nat))) o72 (mg f x (at' l x) x) (mg f x (at' l x) j);have H3:HF inner hk3 hv3 (mg (mg f x (at' l x)) x j):=H3;have t3:=t2.merge F G hlt hm ji jc
   have s1:ah cl [4] eL (rst n h l inner hk' hv' (some (.int (x:Nat))) (some (.int (at' l x:Nat))) o7' o8' o9')=some (.nx,rst n h l inner hk2 hv2 (some (.int (x:Nat))) (some (.int (at' l x:Nat))) o72 (some (.int (f x))) (some (.int (f (at' l x))))) :=
    yh (jy (aa rfl) (aa rfl) (kA (H'.2.2 x hm))) (jy (aa rfl) (aa rfl) (kA (H'.2.2 _ li))) rfl (bZ (cM (aa rfl) rfl) e2 aF)
   have s2:ah cl [4] eL (rst n h l inner hk2 hv2 (some (.int (x:Nat))) (some (.int (j:Nat))) o72 (some (.int (f x))) (some (.int (f (at' l x)))))=some (.nx,rst n h l inner hk3 hv3 (some (.int (x:Nat))) (some (.int (j:Nat))) o73 (some (.int (mg f x (at' l x) x))) (some (.int (mg f x (at' l x) j)))) :=
    yh (jy (aa rfl) (aa rfl) (kA (H2.2.2 x hm))) (jy (aa rfl) (aa rfl) (kA (H2.2.2 _ ji))) rfl (bZ (cM (aa rfl) rfl) e3 aF)
   have i1:=dC (f:=l) (x:=x) (by rw[G.len];lia);have i2:=dC (f:=h) (x:=n+x) (by rw[F.len];lia);rw[hjj]at i2;refine⟨rst n h l inner hk3 hv3 (some (.int (x:Nat))) (some (.int (j:Nat))) o73 (some (.int (mg f x (at' l x) x))) (some (.int (mg f x (at' l x) j))),bZ (cl:=cl) (M:=[4]) (σ:=rst n h l inner hk' hv' (some (.int (x:Nat))) o6' o7' o8' o9') (cM (x:=.tup [.int (at' l x:Nat),.int (j:Nat)]) (fD (a7 (b9 (aa rfl) (aa rfl) i1) (a7 (a6 (b9 (aa rfl) (a6 (aa rfl) (aa rfl) (by rw[cw];rfl)) i2) (aa rfl) (by rw[mr];congr 2;lia)) bC))) rfl) ?_ aF,_,_,_,_,_,_,_,_,rfl,H3,t3,fun m hm'=>?_⟩
   ·exact uC rfl rfl s1 (uC rfl rfl s2 Fd)
   ·rcases List.mem_append.mp hm' with hp | hp
    ·obtain⟨q1,q2⟩:=pr m hp;exact⟨nt (nt q1),fun j' hj'=>nt (nt (q2 j' hj'))⟩
    ·have:m=x:=by simpa using hp
     subst this;refine⟨nt AN,fun j' hj'=>?_⟩
     have:j'=j:=by lia
     subst this
     exact AN)
 obtain⟨S,R,hS⟩:=Ag F G hin t (fun m hm=>(pr m hm).1) (fun m hm=>(pr m hm).2);refine⟨S,R,?_⟩;have mc:=uG (cl:=cl) (σ:=rst n h l inner hk' hv' o5' o6' o7' o8' o9') (e:=.ixD (.var 4) (.var 5)) (i:=5) (g:=fun m=>.int (f m)) (fun _=>rfl) inner (fun x hx=>jy (aa rfl) (aa rfl) (kA (H'.2.2 x hx)))
 have ls:biV .lenSet (.lst (inner.map fun m=>.int (f m)))=some (.int (S.length:Nat)):=by
  rw[AW];rw[if_pos (by simp;lia),ints_map,<-hS];rfl
 exact aS rfl rfl (aA (a6 (bp (aa rfl) e6) aw (EU n)) rfl (ee (d:=.dK [] []) rfl rfl (bZ (cM (aa rfl) rfl) l1 (bZ (cM (aa rfl) rfl) l2' (aT (bp (eX (cM (aa rfl) rfl) (by rw[aM];unfold most;lia) mc) ls) rfl)))))
end
structure Hg(T:List Fn)(cf po rn mk rg jb pu c2 hu:Nat):Prop where
 FP:T[rn]?=some qq
 ID:T[mk]?=some rY
 IT:T[rg]?=some (jk mk rn)
 Iy:T[jb]?=some dH
 Jk:T[pu]?=some (iq rg rn jb po)
 Gf:T[c2]?=some (fP cf)
 Je:T[hu]?=some (yd pu c2)
section
variable{nu pc pa nb un if' cf po rp ir mv rn mk rg jb pu c2 hu:Nat}
def Hg.under(H:Hg T cf po rn mk rg jb pu c2 hu)(C:Ck T nu pc pa nb un if' cf po rp ir mv)(n:Nat)(h1:1<=k)(hk:k<=10)(F:Frm k f)(G:Frm k g) :
  ∃ S:List Nat,cj (4*k) (jn k) (rb k f g) S/\aq T (n+3) pu [.tup (L f),.tup (L g)]=some (.tup [.tup (L (ao k f g)),.int (S.length:Nat)]):=by
 have T2:=two F G
 have hj:∀ x:Nat,x<4*k->ixV (.lst (L (jL k))) (.int (x:Nat))=some (.int (jn k x:Nat)):=fun x hx=>by rw[xV (by rw[xX];exact hx),HP hx]
 have hb:∀ x:Nat,x<4*k->ixV (.lst (L (rbL k f g))) (.int (x:Nat))=some (.int (rb k f g x:Nat)):=fun x hx=>by rw[xV (by rw[uc F G];exact hx),Gy F G hx]
 have r1:∀ (n x:Nat),x<4*k->∃ i,i<4*k/\Stp (jn k) (rb k f g) x i/\(∀ j,j<i->¬ Stp (jn k) (rb k f g) x j)/\aq T (n+1) rn [.lst (L (jL k)),.lst (L (rbL k f g)),.int (x:Nat)]=some (.lst (L (wks (jn k) (rb k f g) x i))):=fun n x hx=>by
  obtain⟨i,a1,a2,a3,a4⟩:=uv (cl:=aq T n) T2 (by lia) hj hb hx;exact⟨i,a1,a2,a3,(az H.FP).trans a4⟩
 have r2:∀ (n x:Nat),x<4*k->∃ i,i<4*k/\Stp (rb k f g) (jn k) x i/\(∀ j,j<i->¬ Stp (rb k f g) (jn k) x j)/\aq T (n+1) rn [.lst (L (rbL k f g)),.lst (L (jL k)),.int (x:Nat)]=some (.lst (L (wks (rb k f g) (jn k) x i))):=fun n x hx=>by
  obtain⟨i,a1,a2,a3,a4⟩:=uv (cl:=aq T n) T2.swap (by lia) hb hj hx;exact⟨i,a1,a2,a3,(az H.FP).trans a4⟩
 obtain⟨S,R,e⟩:=sD (cl:=aq T (n+1)) (fm:=mk) (fr:=rn) T2 (by lia) (A:=.lst (L (jL k))) (B:=.lst (L (rbL k f g))) (by
  show some (D.int ((L (jL k)).length:Nat))=_
  rw[aM,xX]) hj hb (r1 n) (r2 n) (fun s P ps hs hp=>by
  obtain⟨s',b1,b2⟩:=zr (cl:=aq T n) hs hp
  exact⟨s',b1,(az H.ID).trans b2⟩)
 exact⟨S,R,(az H.Jk).trans (qd h1 hk F G (C.half (n+1) F.len) ((az H.Iy).trans (vy hk)) (r1 (n+1)) ((az H.IT).trans e))⟩
def Hg.J0(H:Hg T cf po rn mk rg jb pu c2 hu)(C:Ck T nu pc pa nb un if' cf po rp ir mv)(n:Nat)(h1:1<=k)(hk:k<=10)(V:Val k f)(W:Val k g) :
  ∃ S:List Nat,cj (4*k) (jn k) (rb k f g) S/\aq T (n+7) hu [.tup (L f),.tup (L g)]=some (.tup [.tup (L (ao k f g)),.int (S.length:Nat)]):=by
 obtain⟨S,R,e⟩:=H.under C (n+3) h1 hk V.frm W.frm;refine⟨S,R,(az H.Je).trans ?_⟩
 have ck2:aq T (n+6) c2 [.tup (L f),.tup (L g)]=some .non:=by
  refine(az H.Gf).trans (nv rfl rfl (cS (bc (aa rfl) (C.check n h1 hk V)) (cS (bc (aa rfl) (C.check n h1 hk W)) (cm (bg (aK (bp (aa rfl) (half (n:=k) (by rw[aM,V.frm.len]))) (bp (aa rfl) (half (n:=k) (by rw[aM,W.frm.len]))) (by rw[nJ];simp))) aF))))
 exact aS rfl rfl (cS (cq (aa rfl) (aa rfl) ck2) (aT (cq (aa rfl) (aa rfl) e) (by simp[bh,D.imm,au,aP])))
end
section
variable{mx rw dg pl hk ci ft tx rg hu ov fr:Nat}
end
section
end
def lK{xs:List Nat}{b:Nat->Nat}(nd:xs.Nodup)(cl:∀ x∈xs,b x∈xs)(bi:∀ x∈xs,b (b x)=x)(no:∀ x∈xs,b x≠x):xs.length%2=0:=by
 have h1:(xs.filter fun x=>decide (x<b x)).length<=(xs.filter fun x=>decide (b x<x)).length:=by
  have:(xs.filter fun x=>decide (x<b x)).length=((xs.filter fun x=>decide (x<b x)).map b).length:=by simp
  rw[this];refine cC ?_ fun y hy=>?_
  ·rw[List.nodup_iff_pairwise_ne,List.pairwise_map];refine List.Pairwise.imp_of_mem ?_ (List.nodup_iff_pairwise_ne.mp (nd.filter _));intro x y hx hy hne e;rw[List.mem_filter]at hx hy;exact hne (by rw[<-bi x hx.1,e,bi y hy.1])
  ·obtain⟨x,hx,rfl⟩:=List.mem_map.mp hy;rw[List.mem_filter,decide_eq_true_eq]at hx ⊢;exact⟨cl x hx.1,by rw[bi x hx.1];exact hx.2⟩
 have h2:(xs.filter fun x=>decide (b x<x)).length<=(xs.filter fun x=>decide (x<b x)).length:=by
  have:(xs.filter fun x=>decide (b x<x)).length=((xs.filter fun x=>decide (b x<x)).map b).length:=by simp
  rw[this];refine cC ?_ fun y hy=>?_
  ·rw[List.nodup_iff_pairwise_ne,List.pairwise_map];refine List.Pairwise.imp_of_mem ?_ (List.nodup_iff_pairwise_ne.mp (nd.filter _));intro x y hx hy hne e;rw[List.mem_filter]at hx hy;exact hne (by rw[<-bi x hx.1,e,bi y hy.1])
  ·obtain⟨x,hx,rfl⟩:=List.mem_map.mp hy;rw[List.mem_filter,decide_eq_true_eq]at hx ⊢;exact⟨cl x hx.1,by rw[bi x hx.1];exact hx.2⟩
 have h3:∀ ys:List Nat,(∀ x∈ys,b x≠x)->ys.length=(ys.filter fun x=>decide (x<b x)).length+(ys.filter fun x=>decide (b x<x)).length:=by
  intro ys
  induction ys with
  | nil=>intro _;rfl
  |cons y ys ih=>
   intro h;have i:=ih fun x hx=>h x (List.mem_cons_of_mem _ hx);have hy:=h y List.mem_cons_self;rw[List.filter_cons,List.filter_cons];by_cases c:y<b y
   ·rw[if_pos (decide_eq_true c),if_neg (by rw[decide_eq_true_eq];lia)];simp only[List.length_cons];lia
   ·rw[if_neg (by rw[decide_eq_true_eq];exact c),if_pos (decide_eq_true (by lia))];simp only[List.length_cons];lia
 have:=h3 xs no;lia
section
abbrev rp(n x:Nat):Nat:=if x<2*n then rd n x else 2*n+rd n (x-2*n)
abbrev phi(n:Nat)(Q:List Nat)(x:Nat):Nat:=(Q.filter fun y=>decide (y<2*n↔x<2*n)&&decide (rp n y<rp n x)).length
def fU(Q:List Nat)(P R:Nat->Bool):(Q.filter P).length=(Q.filter fun y=>P y&&R y).length+(Q.filter fun y=>P y && !R y).length:=by
 induction Q with
 | nil=>rfl
 |cons y Q ih=>
  rw[List.filter_cons,List.filter_cons,List.filter_cons];cases P y<;>cases R y<;>simp[ih]<;>lia
def bL{Q:List Nat}(e:∀ y∈Q,P y=R y):(Q.filter P).length=(Q.filter R).length:=by rw[List.filter_congr e]
def mU(hx:x<4*n)(hy:y<4*n)(e:rp n x=rp n y):x=y:=by
 unfold rp at e;have:∀ q,q<2*n->rd n q<2*n:=fun q hq=>bM hq;split at e<;>split at e
 ·exact rB (by lia) (by lia) e
 ·have:=this x (by lia);lia
 ·have:=this y (by lia);lia
 ·have:=rB (n:=n) (p:=x-2*n) (q:=y-2*n) (by omega) (by omega) (by lia);omega
def xF(V:Val n h)(W:Val n l)(hx:x<4*n)(hy:y<4*n):¬ (rp n x<rp n y/\rp n y<rp n (rb n h l x)/\rp n (rb n h l x)<rp n (rb n h l y)):=by
 have F:=V.frm;have G:=W.frm;have T:=two F G;rintro⟨h1,h2,h3⟩;have r2:∀ q,q<2*n->rd n q<2*n:=fun q hq=>bM hq;by_cases cx:x<2*n
 ·have ex:rb n h l x=at' h x:=by unfold rb;rw[if_pos cx]
  have lx:=F.lt x cx;by_cases cy:y<2*n
  ·have ey:rb n h l y=at' h y:=by unfold rb;rw[if_pos cy]
   have ly:=F.lt y cy;rw[ex]at h2 h3;rw[ey]at h3;unfold rp at h1 h2 h3;rw[if_pos cx,if_pos cy]at h1;rw[if_pos cy,if_pos lx]at h2;rw[if_pos lx,if_pos ly]at h3;refine V.nox (rd n x) (rd n y) (bM cx) (bM cy) ?_;unfold rnd;rw[cD cx,cD cy];exact⟨h1,h2,h3⟩
  ·rw[ex]at h2;unfold rp at h2;rw[if_neg cy,if_pos lx]at h2;have:=r2 _ lx;lia
 ·have ex:rb n h l x=2*n+at' l (x-2*n):=by unfold rb;rw[if_neg cx]
  have lx:=G.lt (x-2*n) (by omega);by_cases cy:y<2*n
  ·unfold rp at h1;rw[if_neg cx,if_pos cy]at h1;have:=r2 _ cy;lia
  ·have ey:rb n h l y=2*n+at' l (y-2*n):=by unfold rb;rw[if_neg cy]
   have ly:=G.lt (y-2*n) (by omega);rw[ex]at h2 h3;rw[ey]at h3;unfold rp at h1 h2 h3;rw[if_neg cx,if_neg cy]at h1;rw[if_neg cy,if_neg (by lia),Nat.add_sub_cancel_left]at h2;rw[if_neg (by lia),if_neg (by lia),Nat.add_sub_cancel_left,Nat.add_sub_cancel_left]at h3;refine W.nox (rd n (x-2*n)) (rd n (y-2*n)) (bM (by omega)) (bM (by omega)) ?_;unfold rnd;rw[cD (by omega),cD (by omega)];exact⟨by lia,by lia,by lia⟩
structure Cls(n:Nat)(h l Q:List Nat):Prop where
 nd:Q.Nodup
 lt:∀ y∈Q,y<4*n
 b:∀ y∈Q,rb n h l y∈Q
 a:∀ y∈Q,jn n y∈Q
def oq(F:Frm n h)(G:Frm n l)(hx:x<4*n):rb n h l x<2*n↔x<2*n:=by
 unfold rb;split
 ·rename_i c;have:=F.lt x c;lia
 ·lia
def Hd(V:Val n h)(W:Val n l){Q:List Nat}(C:Cls n h l Q)(hx:x<4*n)(hq:x∉Q):phi n Q (rb n h l x)%2=phi n Q x%2:=by
 have F:=V.frm;have G:=W.frm;have T:=two F G
 have key:∀ x,x<4*n->x∉Q->rp n x<rp n (rb n h l x)->phi n Q (rb n h l x)%2=phi n Q x%2:=by
  intro x hx hq lt;have bl:=T.bl x hx;have bq:rb n h l x∉Q:=fun z=>hq (by have:=C.b _ z;rw[T.bi x hx]at this;exact this);have sd:=oq F G (h:=h) (l:=l) hx
  have e:phi n Q (rb n h l x)=phi n Q x+(Q.filter fun y=>decide (y<2*n↔x<2*n)&&(decide (rp n x<rp n y)&&decide (rp n y<rp n (rb n h l x)))).length:=by
   unfold phi;rw[fU Q (fun y=>decide (y<2*n↔rb n h l x<2*n)&&decide (rp n y<rp n (rb n h l x))) (fun y=>decide (rp n y<rp n x))];congr 1
   ·refine bL fun y hy=>?_;rw[Bool.eq_iff_iff];simp only[Bool.and_eq_true,decide_eq_true_eq];rw[sd];lia
   ·refine bL fun y hy=>?_;have ne:rp n y≠rp n x:=fun e=>hq (mU (C.lt y hy) hx e▸hy);rw[Bool.eq_iff_iff];simp only[Bool.and_eq_true,decide_eq_true_eq,Bool.not_eq_true',decide_eq_false_iff_not];rw[sd];lia
  have ev:=lK (b:=rb n h l) (xs:=Q.filter fun y=>decide (y<2*n↔x<2*n)&&(decide (rp n x<rp n y)&&decide (rp n y<rp n (rb n h l x)))) (C.nd.filter _) (fun y hy=>by
   simp only[List.mem_filter,Bool.and_eq_true,decide_eq_true_eq]at hy ⊢;obtain⟨y1,y2,y3,y4⟩:=hy;have ly:=C.lt y y1;have lb:=T.bl y ly;refine⟨C.b y y1,by rw[oq F G ly];exact y2,?_⟩;have n1:=xF V W hx ly;have n2:=xF V W lb hx;rw[T.bi y ly]at n2;have ne1:rp n (rb n h l y)≠rp n x:=fun e=>hq (mU lb hx e▸C.b y y1);have ne2:rp n (rb n h l y)≠rp n (rb n h l x):=fun e=>bq (mU lb bl e▸C.b y y1)
   lia) (fun y hy=>by
   simp only[List.mem_filter]at hy
   exact T.bi y (C.lt y hy.1)) (fun y hy=>by
   simp only[List.mem_filter]at hy
   exact dE F G (C.lt y hy.1))
  lia
 by_cases c:rp n x<rp n (rb n h l x)
 ·exact key x hx hq c
 ·have bl:=T.bl x hx;have bq:rb n h l x∉Q:=fun z=>hq (by have:=C.b _ z;rw[T.bi x hx]at this;exact this);have ne:rp n (rb n h l x)≠rp n x:=fun e=>dE F G hx (mU bl hx e);have:=key (rb n h l x) bl bq (by rw[T.bi x hx];lia);rw[T.bi x hx]at this;exact this.symm
def uR(F:Frm n h)(G:Frm n l){Q:List Nat}(C:Cls n h l Q):(Q.filter fun y=>decide (y<2*n)).length%2=0:=by
 have T:=two F G;refine lK (b:=rb n h l) (C.nd.filter _) (fun y hy=>?_) (fun y hy=>?_) (fun y hy=>?_)
 ·simp only[List.mem_filter,decide_eq_true_eq]at hy ⊢;exact⟨C.b y hy.1,(oq F G (C.lt y hy.1)).mpr hy.2⟩
 ·simp only[List.mem_filter]at hy;exact T.bi y (C.lt y hy.1)
 ·simp only[List.mem_filter]at hy;exact dE F G (C.lt y hy.1)
set_option synthInstance.maxSize 10000 in
set_option synthInstance.maxHeartbeats 0 in
def i9:∀ n,n<11->∀ m,m<n->∀ y,y<4*n->(decide (y<2*n↔2*n+m<2*n)&&decide (rp n y<rp n (2*n+m)))=decide (2*n<=y/\y<2*n+m) /\
  (y≠n+m->(decide (y<2*n) && !decide (rp n y<rp n (n+m)))=decide (n<=y/\y<n+m))/\(decide (y<2*n↔n+m<2*n)&&decide (rp n y<rp n (n+m)))=(decide (y<2*n)&&decide (rp n y<rp n (n+m))) /\
  (2*n<=y->y<2*n+m->n<=jn n y/\jn n y<n+m)/\(n<=y->y<n+m->2*n<=jn n y/\jn n y<2*n+m):=by decide +kernel
def tZ(hn:n<11)(F:Frm n h)(G:Frm n l){Q:List Nat}(C:Cls n h l Q)(hm:m<n)(hq:n+m∉Q):phi n Q (2*n+m)%2=phi n Q (n+m)%2:=by
 have T:=two F G
 have swap:(Q.filter fun y=>decide (2*n<=y/\y<2*n+m)).length=(Q.filter fun y=>decide (n<=y/\y<n+m)).length:=by
  have go:∀ (P R:Nat->Bool),(∀ y,y<4*n->P y=true->R (jn n y)=true)->(Q.filter P).length<=(Q.filter R).length:=fun P R hPR=>by
   have:(Q.filter P).length=((Q.filter P).map (jn n)).length:=by simp
   rw[this];refine cC ?_ fun y hy=>?_
   ·rw[List.nodup_iff_pairwise_ne,List.pairwise_map];refine List.Pairwise.imp_of_mem ?_ (List.nodup_iff_pairwise_ne.mp (C.nd.filter _));intro x y hx hy hne e;rw[List.mem_filter]at hx hy;exact hne (by rw[<-T.ai x (C.lt x hx.1),e,T.ai y (C.lt y hy.1)])
   ·obtain⟨x,hx,rfl⟩:=List.mem_map.mp hy;rw[List.mem_filter]at hx ⊢;exact⟨C.a x hx.1,hPR x (C.lt x hx.1) hx.2⟩
  refine Nat.le_antisymm (go _ _ fun y hy e=>?_) (go _ _ fun y hy e=>?_)
  ·rw[decide_eq_true_eq]at e ⊢;exact(i9 n hn m hm y hy).2.2.2.1 e.1 e.2
  ·rw[decide_eq_true_eq]at e ⊢;exact(i9 n hn m hm y hy).2.2.2.2 e.1 e.2
 have e1:phi n Q (2*n+m)=(Q.filter fun y=>decide (2*n<=y/\y<2*n+m)).length:=bL fun y hy=>(i9 n hn m hm y (C.lt y hy)).1
 have e2:phi n Q (n+m)+(Q.filter fun y=>decide (n<=y/\y<n+m)).length=(Q.filter fun y=>decide (y<2*n)).length:=by
  rw[fU Q (fun y=>decide (y<2*n)) (fun y=>decide (rp n y<rp n (n+m)))];congr 1
  ·exact bL fun y hy=>(i9 n hn m hm y (C.lt y hy)).2.2.1
  ·exact(bL fun y hy=>(i9 n hn m hm y (C.lt y hy)).2.1 fun e=>hq (e▸hy)).symm
 have e3:=uR F G C;lia
def DH(hn:n<11)(V:Val n h)(W:Val n l)(C:Cls n h l Q)(hx:x<4*n)(hq:x∉Q)(c:Cn (jn n) (rb n h l) x z):z∉Q/\phi n Q z%2=phi n Q x%2:=by
 have F:=V.frm;have G:=W.frm;have T:=two F G
 induction c with
 | refl=>exact⟨hq,rfl⟩
 |@sa y hy ih=>
  obtain⟨i1,i2⟩:=ih;have ly:=hy.lt T hx;have nq:jn n y∉Q:=fun z=>i1 (by have:=C.a _ z;rw[T.ai y ly]at this;exact this);refine⟨nq,?_⟩;rw[<-i2];by_cases c1:y<n
  ·have:jn n y=y:=by unfold jn;rw[if_pos c1]
   rw[this]
  ·by_cases c2:y<2*n
   ·have e:y=n+(y-n):=by lia
    have:jn n y=2*n+(y-n):=by rw[e,lD (by lia)];lia
    rw[this];have:=tZ hn F G C (m:=y-n) (by lia) (by rw[<-e];exact i1);rw[<-e]at this;exact this
   ·by_cases c3:y<3*n
    ·have e:y=2*n+(y-2*n):=by lia
     have ej:jn n y=n+(y-2*n):=by rw[e,si (by lia)];lia
     have:=tZ hn F G C (m:=y-2*n) (by lia) (by rw[<-ej];exact nq);rw[<-e,<-ej]at this;exact this.symm
    ·have:jn n y=y:=by unfold jn;rw[if_neg c1,if_neg c2,if_neg c3]
     rw[this]
 |@sb y hy ih=>
  obtain⟨i1,i2⟩:=ih;have ly:=hy.lt T hx;exact⟨fun z=>i1 (by have:=C.b _ z;rw[T.bi y ly]at this;exact this),by rw[Hd V W C ly i1,i2]⟩
end
section
def BO{Q:List Nat}(nd:Q.Nodup)(hu:u∈Q)(hv:v∈Q)(ne:u≠v)(only:∀ y∈Q,P y=true->y=u\/y=v):(Q.filter P).length=([u,v].filter P).length:=by
 have nz:[u,v].Nodup:=by simp[ne]
 refine Nat.le_antisymm (cC (nd.filter _) fun y hy=>?_) (cC (nz.filter _) fun y hy=>?_)
 ·rw[List.mem_filter]at hy ⊢;exact⟨by rcases only y hy.1 hy.2 with e | e<;>simp[e],hy.2⟩
 ·rw[List.mem_filter]at hy ⊢;refine⟨?_,hy.2⟩;have:=hy.1;simp only[List.mem_cons,List.not_mem_nil,or_false]at this;rcases this with rfl | rfl<;>assumption
abbrev psi(n p y:Nat):Bool:=(decide (y<n)&&decide (y<rd n p)) || (decide (3*n<=y)&&decide (rd n (y-2*n)<rd n p))
set_option synthInstance.maxSize 10000 in
set_option synthInstance.maxHeartbeats 0 in
def uh:∀ n,n<11->∀ p,p<2*n->∀ y,y<4*n->(p<n->(decide (y<2*n↔p<2*n)&&decide (rp n y<rp n p))=psi n p y) /\
  (¬ p<n->(decide (y<2*n↔p+2*n<2*n)&&decide (rp n y<rp n (p+2*n))&&decide (y<3*n))=decide (2*n<=y/\y<3*n) /\
   (decide (y<2*n↔p+2*n<2*n)&&decide (rp n y<rp n (p+2*n)) && !decide (y<3*n))=(decide (3*n<=y)&&decide (rd n (y-2*n)<rd n p)) /\
   (psi n p y&&decide (y<n))=decide (y<n)/\(psi n p y && !decide (y<n))=(decide (3*n<=y)&&decide (rd n (y-2*n)<rd n p))) /\
  (decide (y<2*n)&&decide (y<n))=decide (y<n)/\(decide (y<2*n) && !decide (y<n))=decide (n<=y/\y<2*n) /\
  (2*n<=y->y<3*n->n<=jn n y/\jn n y<2*n)/\(n<=y->y<2*n->2*n<=jn n y/\jn n y<3*n)/\(psi n p y=true->jn n y=y):=by decide +kernel
def uy(hn:n<11)(F:Frm n h)(G:Frm n l)(C:Cls n h l Q)(hp:p<2*n):phi n Q (out n p)%2=(Q.filter (psi n p)).length%2:=by
 have T:=two F G;have fin:=fun y (hy:y∈Q)=>uh n hn p hp y (C.lt y hy);by_cases c:p<n
 ·have eo:out n p=p:=by unfold out;rw[if_pos c]
  rw[eo];congr 1;exact bL fun y hy=>(fin y hy).1 c
 ·have eo:out n p=p+2*n:=by unfold out;rw[if_neg c]
  rw[eo]
  have go:∀ (P R:Nat->Bool),(∀ y,y∈Q->P y=true->R (jn n y)=true)->(Q.filter P).length<=(Q.filter R).length:=fun P R hPR=>by
   have:(Q.filter P).length=((Q.filter P).map (jn n)).length:=by simp
   rw[this];refine cC ?_ fun y hy=>?_
   ·rw[List.nodup_iff_pairwise_ne,List.pairwise_map];refine List.Pairwise.imp_of_mem ?_ (List.nodup_iff_pairwise_ne.mp (C.nd.filter _));intro x y hx hy hne e;rw[List.mem_filter]at hx hy;exact hne (by rw[<-T.ai x (C.lt x hx.1),e,T.ai y (C.lt y hy.1)])
   ·obtain⟨x,hx,rfl⟩:=List.mem_map.mp hy;rw[List.mem_filter]at hx ⊢;exact⟨C.a x hx.1,hPR x hx.1 hx.2⟩
  have swap:(Q.filter fun y=>decide (2*n<=y/\y<3*n)).length=(Q.filter fun y=>decide (n<=y/\y<2*n)).length:=by
   refine Nat.le_antisymm (go _ _ fun y hy e=>?_) (go _ _ fun y hy e=>?_)
   ·rw[decide_eq_true_eq]at e ⊢;exact(fin y hy).2.2.2.2.1 e.1 e.2
   ·rw[decide_eq_true_eq]at e ⊢;exact(fin y hy).2.2.2.2.2.1 e.1 e.2
  have e1:phi n Q (p+2*n)=(Q.filter fun y=>decide (2*n<=y/\y<3*n)).length+(Q.filter fun y=>decide (3*n<=y)&&decide (rd n (y-2*n)<rd n p)).length:=by
   unfold phi;rw[fU Q (fun y=>decide (y<2*n↔p+2*n<2*n)&&decide (rp n y<rp n (p+2*n))) (fun y=>decide (y<3*n)),bL fun y hy=>((fin y hy).2.1 c).1,bL fun y hy=>((fin y hy).2.1 c).2.1]
  have e2:(Q.filter (psi n p)).length=(Q.filter fun y=>decide (y<n)).length+(Q.filter fun y=>decide (3*n<=y)&&decide (rd n (y-2*n)<rd n p)).length:=by
   rw[fU Q (psi n p) (fun y=>decide (y<n)),bL fun y hy=>((fin y hy).2.1 c).2.2.1,bL fun y hy=>((fin y hy).2.1 c).2.2.2]
  have e3:(Q.filter fun y=>decide (y<2*n)).length=(Q.filter fun y=>decide (y<n)).length+(Q.filter fun y=>decide (n<=y/\y<2*n)).length:=by
   rw[fU Q (fun y=>decide (y<2*n)) (fun y=>decide (y<n)),bL fun y hy=>(fin y hy).2.2.1,bL fun y hy=>(fin y hy).2.2.2.1]
  have e4:=uR F G C;rw[e1,e2,swap];rw[e3]at e4;clear e1 e2 e3 swap go fin;lia
def Gx(F:Frm n h)(G:Frm n l)(hs:s<2*n):∃ Q,Cls n h l Q/\∀ y,y∈Q↔Cn (jn n) (rb n h l) (out n s) y:=by
 have T:=two F G;obtain⟨k,hk,st,hn⟩:=fh T (aU hs)
 have mem:∀ y,y∈wks (jn n) (rb n h l) (out n s) k↔Cn (jn n) (rb n h l) (out n s) y:=fun y=>by
  rw[nM];exact⟨fun⟨i,_,e⟩=>e▸iU i,fun c=>kD T (aU hs) st hn (.inl (dB hs)) c⟩
 refine⟨_,⟨?_,fun y hy=>((mem y).mp hy).lt T (aU hs),fun y hy=>(mem _).mpr (.sb ((mem y).mp hy)),fun y hy=>(mem _).mpr (.sa ((mem y).mp hy))⟩,mem⟩;unfold wks;rw[List.nodup_iff_pairwise_ne,List.pairwise_map];refine List.Pairwise.imp_of_mem ?_ (List.pairwise_lt_range (n:=k+1));intro i j hi hj hlt;exact kW T (aU hs) hn hlt (by have:=List.mem_range.mp hj;lia)
def kG(hp:p<2*n)(hq:q<2*n):psi n p (out n q)=decide (rd n q<rd n p):=by
 rw[Bool.eq_iff_iff];unfold psi out;simp only[Bool.and_eq_true,Bool.or_eq_true,decide_eq_true_eq];split
 ·rename_i c
  have:rd n q=q:=by unfold rd;rw[if_pos c]
  rw[this];lia
 ·rename_i c;rw[show q+2*n-2*n=q by lia];lia
def dY(hn:n<=10)(V:Val n h)(W:Val n l):Val n (ao n h l):=by
 have F:=V.frm;have G:=W.frm;have T:=two F G;have FF:=cG F G;refine⟨FF,fun q q' hq hq' hc=>?_⟩;obtain⟨c1,c2,c3⟩:=hc;have p1:=bM hq;have s1:=bM hq';unfold rnd at c2 c3;have ep:rd n (rd n q)=q:=cD hq;have es:rd n (rd n q')=q':=cD hq';generalize rd n q=p at *;generalize rd n q'=s at *;have lp:=FF.lt p p1;have ls:=FF.lt s s1;obtain⟨Q,C,mem⟩:=Gx F G s1;have su:out n s∈Q:=(mem _).mpr .refl;have sv:out n (at' (ao n h l) s)∈Q:=(mem _).mpr ((found_iff F G s1 ls (Ne.symm (FF.no s s1))).mp rfl);have suv:out n s≠out n (at' (ao n h l) s):=fun e=>FF.no s s1 (nY e s1 ls).symm
 have only:∀ t,t<2*n->out n t∈Q->t=s\/t=at' (ao n h l) s:=fun t ht hm=>by
  by_cases c:s=t
  ·exact .inl c.symm
  ·exact .inr ((found_iff F G s1 ht c).mpr ((mem _).mp hm)).symm
 have pq:out n p∉Q:=fun z=>by
  rcases only p p1 z with e | e
  ·subst e;lia
  ·subst e;lia
 have pc:=(found_iff F G p1 lp (Ne.symm (FF.no p p1))).mp rfl;obtain⟨_,ph⟩:=DH (by lia) V W C (aU p1) pq pc;rw[uy (by lia) F G C lp,uy (by lia) F G C p1]at ph
 have cnt2:∀ t,t<2*n->(Q.filter (psi n t)).length=([out n s,out n (at' (ao n h l) s)].filter (psi n t)).length:=fun t ht=>by
  refine BO C.nd su sv suv fun y hy e=>?_;have ly:=C.lt y hy;have:jn n y=y:=(uh n (by lia) t ht y ly).2.2.2.2.2.2 e;obtain⟨u,hu,rfl⟩:=yP ly this;rcases only u hu hy with e | e
  ·exact .inl (by rw[e])
  ·exact .inr (by rw[e])
 rw[cnt2 p p1,cnt2 _ lp,List.filter_cons,List.filter_cons,List.filter_cons,List.filter_cons,kG lp s1,kG lp ls,kG p1 s1,kG p1 ls]at ph;rw[if_pos (by rw[decide_eq_true_eq];lia),if_neg (by rw[decide_eq_true_eq];lia),if_neg (by rw[decide_eq_true_eq];lia),if_neg (by rw[decide_eq_true_eq];lia)]at ph;simp at ph
end
section
variable{mx rw dg pl hk ci ft tx rg hu ov fr:Nat}
end
structure Fld(M:Nat)(a a' b:Nat->Nat)(N:Nat)(c f o:Nat->Nat):Prop where
 T:Two M a b
 T':Two M a' b
 T2:Two N c f
 ol:∀ p,p<N->o p<M
 oi:∀ p q,p<N->q<N->o p=o q->p=q
 fx:∀ x,x<M->a x=x->∃ p,p<N/\x=o p
 fo:∀ p,p<N->a (o p)=o p
 jo:∀ p,p<N->a' (o p)=o (c p)
 jj:∀ x,x<M->a x≠x->a' x=a x
 ff:∀ p q,p<N->q<N->p≠q->(f p=q↔Cn a b (o p) (o q))
 nb:∀ x,x<M->b x≠x
 nf:∀ p,p<N->f p≠p
section
def Fld.up(D:Fld M a a' b N c f o)(hx:x<M)(h:Cn a b x y):Cn a' b x y:=by
 induction h with
 | refl=>exact .refl
 |@sa y hy ih=>
  by_cases e:a y=y
  ·rw[e];exact ih
  ·rw[<-D.jj y (hy.lt D.T hx) e];exact .sa ih
 | @sb y hy ih=>exact .sb ih
def Fld.to(D:Fld M a a' b N c f o)(hp:p<N)(h:Cn c f p q):Cn a' b (o p) (o q):=by
 induction h with
 | refl=>exact .refl
 | @sa y hy ih=>rw[<-D.jo y (hy.lt D.T2 hp)];exact .sa ih
 |@sb y hy ih=>
  have ly:=hy.lt D.T2 hp;exact ih.trans (D.up (D.ol y ly) ((D.ff y _ ly (D.T2.bl y ly) (Ne.symm (D.nf y ly))).mp rfl))
def Fld.one(D:Fld M a a' b N c f o)(hq:q<N)(ht:t<N)(h2:Cn c f p q)(h3:Cn a b (o q) (o t)):Cn c f p t:=by
 by_cases z:q=t
 ·rw[<-z];exact h2
 ·have:=(D.ff q t hq ht z).mpr h3;rw[<-this];exact .sb h2
def Fld.back(D:Fld M a a' b N c f o)(hp:p<N)(h:Cn a' b (o p) y):∃ q,q<N/\Cn c f p q/\Cn a b (o q) y:=by
 induction h with
 | refl=>exact⟨p,hp,.refl,.refl⟩
 |@sa y hy ih=>
  obtain⟨q,h1,h2,h3⟩:=ih;have ly:=h3.lt D.T (D.ol q h1);by_cases e:a y=y
  ·obtain⟨t,ht,rfl⟩:=D.fx y ly e;exact⟨c t,D.T2.al t ht,.sa (D.one h1 ht h2 h3),by rw[D.jo t ht];exact .refl⟩
  ·exact⟨q,h1,h2,by rw[D.jj y ly e];exact .sa h3⟩
 |@sb y hy ih=>
  obtain⟨q,h1,h2,h3⟩:=ih;exact⟨q,h1,h2,.sb h3⟩
def Fld.iff(D:Fld M a a' b N c f o)(hp:p<N)(hq:q<N):Cn c f p q↔Cn a' b (o p) (o q) :=
 ⟨D.to hp,fun h=>by
  obtain⟨t,h1,h2,h3⟩:=D.back hp h
  exact D.one h1 hq h2 h3⟩
end
def zt(T:Two m a b):∃ S,cj m a b S:=by
 classical
 refine⟨(List.range m).filter fun x=>decide ((∀ y,Cn a b x y->a y≠y/\b y≠y)/\∀ y,Cn a b x y->x<=y),fun s hs=>?_,?_,fun s hs y c=>?_,fun x hx=>?_⟩
 ·exact List.mem_range.mp (List.mem_filter.mp hs).1
 ·refine List.Pairwise.imp_of_mem ?_ (List.pairwise_lt_range.filter _);intro x y hx hy lt c;have hy:=List.mem_filter.mp hy;have lx:=List.mem_range.mp (List.mem_filter.mp hx).1;have:=(of_decide_eq_true hy.2).2 x (c.symm T lx);lia
 ·exact(of_decide_eq_true (List.mem_filter.mp hs).2).1 y c
 ·by_cases p:Pth m a b x
  ·exact .inl p
  ·refine .inr ?_;obtain⟨k,_,hk,hm⟩:=least (P:=fun k=>Cn a b x k) x .refl;have lk:=hk.lt T hx;refine⟨k,List.mem_filter.mpr ⟨List.mem_range.mpr lk,decide_eq_true ⟨fun y c=>?_,fun y c=>Nat.le_of_not_lt fun z=>hm y z (hk.trans c)⟩⟩,hk.symm T hx⟩;have cy:=hk.trans c;have ly:=cy.lt T hx;exact⟨fun e=>p ⟨y,ly,.inl e,cy.symm T hx⟩,fun e=>p ⟨y,ly,.inr e,cy.symm T hx⟩⟩
section
def Cn.map{t:Nat->Nat}(T:Two m a b)(ha:∀ x,x<m->t (a x)=a' (t x))(hb:∀ x,x<m->t (b x)=b' (t x))(hx:x<m)(c:Cn a b x y):Cn a' b' (t x) (t y):=by
 induction c with
 | refl=>exact .refl
 | @sa y hy ih=>rw[ha y (hy.lt T hx)];exact .sa ih
 | @sb y hy ih=>rw[hb y (hy.lt T hx)];exact .sb ih
def cj.map{t u:Nat->Nat}(T:Two m a b)(T':Two m a' b')(tl:∀ x,x<m->t x<m)(ul:∀ x,x<m->u x<m)(tu:∀ x,x<m->t (u x)=x)(ut:∀ x,x<m->u (t x)=x)
 (ha:∀ x,x<m->t (a x)=a' (t x))(hb:∀ x,x<m->t (b x)=b' (t x)){S:List Nat}(R:cj m a b S):cj m a' b' (S.map t):=by
 have ha':∀ x,x<m->u (a' x)=a (u x):=fun x hx=>by
  have:=ha (u x) (ul x hx);rw[tu x hx]at this;rw[<-this,ut _ (T.al _ (ul x hx))]
 have hb':∀ x,x<m->u (b' x)=b (u x):=fun x hx=>by
  have:=hb (u x) (ul x hx);rw[tu x hx]at this;rw[<-this,ut _ (T.bl _ (ul x hx))]
 have back:∀ {x y:Nat},x<m->Cn a' b' (t x) y->Cn a b x (u y):=fun {x y} hx c=>by
  have:=c.map T' ha' hb' (tl x hx);rw[ut x hx]at this;exact this
 refine⟨fun s hs=>?_,?_,fun s hs y c=>?_,fun x hx=>?_⟩
 ·obtain⟨x,hx,rfl⟩:=List.mem_map.mp hs;exact tl x (R.lt x hx)
 ·rw[List.pairwise_map];refine List.Pairwise.imp_of_mem ?_ R.nd;intro x y hx hy hn c;have:=back (R.lt x hx) c;rw[ut y (R.lt y hy)]at this;exact hn this
 ·obtain⟨x,hx,rfl⟩:=List.mem_map.mp hs;have ly:=c.lt T' (tl x (R.lt x hx));have:=R.ring x hx _ (back (R.lt x hx) c);refine⟨fun e=>this.1 ?_,fun e=>this.2 ?_⟩
  ·rw[<-ha' y ly,e]
  ·rw[<-hb' y ly,e]
 ·rcases R.all (u x) (ul x hx)with⟨s,h1,h2,h3⟩ | ⟨s,h1,h2⟩
  ·refine .inl ⟨t s,tl s h1,?_,?_⟩
   ·rcases h2 with h2 | h2
    ·exact .inl (by rw[<-ha s h1,h2])
    ·exact .inr (by rw[<-hb s h1,h2])
   ·have:=h3.map T ha hb h1;rw[tu x hx]at this;exact this
  ·refine .inr ⟨t s,List.mem_map.mpr ⟨s,h1,rfl⟩,?_⟩;have:=h2.map T ha hb (R.lt s h1);rw[tu x hx]at this;exact this
end
section
end
abbrev j3(n x:Nat):Nat:=if x<n then x else if x<2*n then x+n else if x<3*n then x-n else if x<4*n then x+n else if x<5*n then x-n else x
abbrev jB(n x:Nat):Nat:=if x<3*n then x else if x<4*n then x+n else if x<5*n then x-n else x
abbrev r3(n:Nat)(h m l:List Nat)(x:Nat):Nat:=if x<2*n then at' h x else 2*n+rb n m l (x-2*n)
abbrev oB(n p:Nat):Nat:=if p<3*n then p else p+2*n
section
def mC(F:Frm n h)(hx:x<4*n):r3 n h m l x=rb n h m x:=by
 unfold r3 rb;by_cases c:x<2*n
 ·rw[if_pos c,if_pos c]
 ·rw[if_neg c,if_neg c,if_pos (by omega)]
def HU(hx:4*n<=x):r3 n h m l x=4*n+at' l (x-4*n):=by
 unfold r3 rb;rw[if_neg (by lia),if_neg (by lia),show x-2*n-2*n=x-4*n by lia];lia
def qe:r3 n h m l (2*n+x)=2*n+rb n m l x:=by
 unfold r3;rw[if_neg (by lia),show 2*n+x-2*n=x by lia]
def kZ(F:Frm n h)(G:Frm n m)(H:Frm n l)(hx:x<6*n):r3 n h m l x<6*n/\r3 n h m l (r3 n h m l x)=x/\r3 n h m l x≠x:=by
 by_cases c:x<2*n
 ·have e:r3 n h m l x=at' h x:=by unfold r3;rw[if_pos c]
  have lt:=F.lt x c;rw[e];refine⟨by lia,?_,F.no x c⟩;unfold r3;rw[if_pos lt];exact F.inv x
 ·obtain⟨y,rfl⟩:∃ y,x=2*n+y:=⟨x-2*n,by omega⟩
  have T:=two G H
  have ly:y<4*n:=by lia
  have lt:=T.bl y ly;rw[qe];refine⟨by lia,by rw[qe,T.bi y ly],?_⟩;have:=dE G H ly;lia
def qt(F:Frm n h)(G:Frm n m)(H:Frm n l)(jl:∀ x,x<6*n->j x<6*n)(jj:∀ x,x<6*n->j (j x)=x):Two (6*n) j (r3 n h m l):=⟨jl,fun x hx=>(kZ F G H hx).1,jj,fun x hx=>(kZ F G H hx).2.1⟩
def qi(hp:p<2*n):rb n f g p=at' f p:=by unfold rb;rw[if_pos hp]
def qu:rb n f g (2*n+p)=2*n+at' g p:=by unfold rb;rw[if_neg (by lia),show 2*n+p-2*n=p by lia]
def yB(h1:a x=x)(h2:a (b x)=b x)(h3:b (b x)=x)(c:Cn a b x y):y=x\/y=b x:=by
 induction c with
 | refl=>exact .inl rfl
 |sa _ ih=>
  rcases ih with rfl | rfl
  ·exact .inl h1
  ·exact .inr h2
 |sb _ ih=>
  rcases ih with rfl | rfl
  ·exact .inr rfl
  ·exact .inl h3
set_option synthInstance.maxSize 10000 in
set_option synthInstance.maxHeartbeats 0 in
def AY:∀ n,n<11->∀ x,x<6*n->(jn n x<6*n/\jn n (jn n x)=x)/\(j3 n x<6*n/\j3 n (j3 n x)=x)/\(jB n x<6*n/\jB n (jB n x)=x)/\(jn n x=x->x<n\/3*n<=x)/\(jn n x≠x->j3 n x=jn n x)/\(jB n x=x->x<3*n\/5*n<=x)/\(jB n x≠x->j3 n x=jB n x):=by decide +kernel
set_option synthInstance.maxSize 10000 in
set_option synthInstance.maxHeartbeats 0 in
def Bq:∀ n,n<11->∀ p,p<4*n->(out n p<6*n/\jn n (out n p)=out n p/\j3 n (out n p)=out n (jn n p))/\(oB n p<6*n/\jB n (oB n p)=oB n p/\j3 n (oB n p)=oB n (jn n p)):=by decide +kernel
def eP(c:¬ p<n):out n p=p+2*n:=by unfold out;rw[if_neg c]
def gD(c:p<n):out n p=p:=by unfold out;rw[if_pos c]
def ie(c:p<3*n):oB n p=p:=by unfold oB;rw[if_pos c]
def kX(c:¬ p<3*n):oB n p=p+2*n:=by unfold oB;rw[if_neg c]
def vk(e:out n p=out n q):p=q:=by
 by_cases c:p<n
 ·rw[gD c]at e;by_cases d:q<n
  ·rw[gD d]at e;exact e
  ·rw[eP d]at e;lia
 ·rw[eP c]at e;by_cases d:q<n
  ·rw[gD d]at e;lia
  ·rw[eP d]at e;lia
def Af(e:oB n p=oB n q):p=q:=by
 by_cases c:p<3*n
 ·rw[ie c]at e;by_cases d:q<3*n
  ·rw[ie d]at e;exact e
  ·rw[kX d]at e;lia
 ·rw[kX c]at e;by_cases d:q<3*n
  ·rw[ie d]at e;lia
  ·rw[kX d]at e;lia
def Gz(hn:n<11)(F:Frm n h)(G:Frm n m)(H:Frm n l):Fld (6*n) (jn n) (j3 n) (r3 n h m l) (4*n) (jn n) (rb n (ao n h m) l) (out n):=by
 have FF:=cG F G;have f3:=AY n hn;have f4:=Bq n hn;have T4:Two (4*n) (jn n) (rb n h m):=two F G
 have T4':Two (4*n) (jn n) (r3 n h m l):=⟨T4.al,fun x hx=>by rw[mC F hx];exact T4.bl x hx,T4.ai,fun x hx=>by rw[mC F hx,mC F (T4.bl x hx)];exact T4.bi x hx⟩
 refine⟨qt F G H (fun x hx=>(f3 x hx).1.1) (fun x hx=>(f3 x hx).1.2),qt F G H (fun x hx=>(f3 x hx).2.1.1) (fun x hx=>(f3 x hx).2.1.2),two FF H,
  fun p hp=>(f4 p hp).1.1,fun p q _ _ e=>vk e,fun x hx e=>?_,fun p hp=>(f4 p hp).1.2.1,fun p hp=>(f4 p hp).1.2.2,fun x hx e=>(f3 x hx).2.2.2.2.1 e,fun p q hp hq ne=>?_,fun x hx=>(kZ F G H hx).2.2,fun p hp=>dE FF H hp⟩
 ·rcases(f3 x hx).2.2.2.1 e with c | c
  ·exact⟨x,by lia,(gD c).symm⟩
  ·exact⟨x-2*n,by lia,by rw[eP (by lia)];lia⟩
 ·by_cases c:p<2*n
  ·have lo:=aU c;rw[qi c];constructor
   ·rintro rfl;have lf:=FF.lt p c;exact((found_iff F G c lf ne).mp rfl).map T4 (t:=fun x=>x) (fun x hx=>rfl) (fun x hx=>(mC F hx).symm) lo
   ·intro z;have z:=z.map T4' (t:=fun x=>x) (a':=jn n) (b':=rb n h m) (fun x hx=>rfl) (fun x hx=>mC F hx) lo;have lz:=z.lt T4 lo
    have lq:q<2*n:=by
     by_cases d:q<n
     ·lia
     ·rw[eP d]at lz;lia
    exact(found_iff F G c lq ne).mpr z
  ·obtain⟨y,rfl⟩:∃ y,p=2*n+y:=⟨p-2*n,by lia⟩
   have ly:y<2*n:=by lia
   have la:=H.lt y ly
   have eo:∀ y,out n (2*n+y)=4*n+y:=fun y=>by rw[eP (by lia)];lia
   have er:∀ y,r3 n h m l (4*n+y)=4*n+at' l y:=fun y=>by rw[HU (by lia),Nat.add_sub_cancel_left]
   have ej:∀ y,jn n (4*n+y)=4*n+y:=fun y=>by unfold jn;rw[if_neg (by lia),if_neg (by lia),if_neg (by lia)]
   rw[qu,eo];constructor
   ·rintro rfl;rw[eo,<-er];exact .sb .refl
   ·intro z;have e2:=(kZ (l:=l) F G H (x:=4*n+y) (by lia)).2.1;rcases yB (ej y) (by rw[er,ej]) e2 z with w | w
    ·exact absurd (vk ((eo y).trans w.symm)) ne
    ·rw[er,<-eo]at w;exact vk w.symm
def Ib(y:Nat):jB n (2*n+y)=2*n+jn n y:=by
 unfold jB jn;by_cases c:y<n
 ·rw[if_pos c,if_pos (by lia)]
 ·rw[if_neg c,if_neg (by lia)];by_cases d:y<2*n
  ·rw[if_pos d,if_pos (by lia)];lia
  ·rw[if_neg d,if_neg (by lia)];by_cases e:y<3*n
   ·rw[if_pos e,if_pos (by lia)];lia
   ·rw[if_neg e,if_neg (by lia)]
def Eh(hn:n<11)(F:Frm n h)(G:Frm n m)(H:Frm n l):Fld (6*n) (jB n) (j3 n) (r3 n h m l) (4*n) (jn n) (rb n h (ao n m l)) (oB n):=by
 have FF:=cG G H;have f3:=AY n hn;have f4:=Bq n hn;have T4:Two (4*n) (jn n) (rb n m l):=two G H
 have eo:∀ y,oB n (2*n+y)=2*n+out n y:=fun y=>by
  by_cases c:y<n
  ·rw[ie (by lia),gD c]
  ·rw[kX (by lia),eP c];lia
 have ej:=Ib (n:=n)
 refine⟨qt F G H (fun x hx=>(f3 x hx).2.2.1.1) (fun x hx=>(f3 x hx).2.2.1.2),qt F G H (fun x hx=>(f3 x hx).2.1.1) (fun x hx=>(f3 x hx).2.1.2),two F FF,
  fun p hp=>(f4 p hp).2.1,fun p q _ _ e=>Af e,fun x hx e=>?_,fun p hp=>(f4 p hp).2.2.1,fun p hp=>(f4 p hp).2.2.2,fun x hx e=>(f3 x hx).2.2.2.2.2.2 e,fun p q hp hq ne=>?_,fun x hx=>(kZ F G H hx).2.2,fun p hp=>dE F FF hp⟩
 ·rcases(f3 x hx).2.2.2.2.2.1 e with c | c
  ·exact⟨x,by lia,(ie c).symm⟩
  ·exact⟨x-2*n,by lia,by rw[kX (by lia)];lia⟩
 ·by_cases c:p<2*n
  ·have la:=F.lt p c;have eb:∀ {y:Nat},y<2*n->oB n y=y:=fun {y} hy=>ie (by lia)
   have er:∀ {y:Nat},y<2*n->r3 n h m l y=at' h y:=fun {y} hy=>by unfold r3;rw[if_pos hy]
   have ejj:∀ {y:Nat},y<2*n->jB n y=y:=fun {y} hy=>by unfold jB;rw[if_pos (by lia)]
   rw[qi c,eb c];constructor
   ·rintro rfl;rw[eb la,<-er c];exact .sb .refl
   ·intro z;have e2:=(kZ (l:=l) F G H (x:=p) (by lia)).2.1;rcases yB (ejj c) (by rw[er c,ejj la]) e2 z with w | w
    ·exact absurd (Af ((eb c).trans w.symm)) ne
    ·rw[er c,<-eb la]at w;exact Af w.symm
  ·obtain⟨y,rfl⟩:∃ y,p=2*n+y:=⟨p-2*n,by lia⟩
   have ly:y<2*n:=by lia
   have lo:=aU ly;rw[qu,eo];constructor
   ·rintro rfl;have lf:=FF.lt y ly;rw[eo];exact((found_iff G H ly lf (by lia)).mp rfl).map T4 (t:=fun x=>2*n+x) (fun x hx=>(ej x).symm) (fun x hx=>qe.symm) lo
   ·intro z
    have back:∀ {x w:Nat},x<4*n->Cn (jB n) (r3 n h m l) (2*n+x) w->∃ v,w=2*n+v/\Cn (jn n) (rb n m l) x v:=fun {x w} hx cc=>by
     induction cc with
     | refl=>exact⟨x,rfl,.refl⟩
     |sa _ ih=>
      obtain⟨v,rfl,hv⟩:=ih;exact⟨_,ej v,.sa hv⟩
     |sb _ ih=>
      obtain⟨v,rfl,hv⟩:=ih;exact⟨_,qe,.sb hv⟩
    obtain⟨v,hv,cv⟩:=back lo z
    obtain⟨u,rfl⟩:∃ u,q=2*n+u:=⟨q-2*n,by
     by_cases d:q<3*n
     ·rw[ie d]at hv;lia
     ·lia⟩
    rw[eo]at hv;have:v=out n u:=Nat.add_left_cancel hv.symm;subst this;rw[(found_iff G H ly (show u<2*n by lia) (by lia)).mpr cv]
def l7(hn:n<11)(F:Frm n h)(G:Frm n m)(H:Frm n l):ao n (ao n h m) l=ao n h (ao n m l):=by
 have A:=cG F G;have B:=cG G H;have C:=cG A H;refine eG di di fun p hp=>?_;have lq:=C.lt p hp;have ne:=Ne.symm (C.no p hp);have c1:=((Gz hn F G H).iff (aU hp) (aU lq)).mp ((found_iff A H hp lq ne).mp rfl)
 have e:∀ {p:Nat},p<2*n->out n (out n p)=oB n (out n p):=fun {p} hp=>by
  by_cases c:p<n
  ·rw[gD c,gD c,ie (by lia)]
  ·rw[eP c,eP (by lia),kX (by lia)]
 rw[e hp,e lq]at c1;exact((found_iff F B hp lq ne).mpr (((Eh hn F G H).iff (aU hp) (aU lq)).mpr c1)).symm
end
end RM
set_option maxHeartbeats 1000000
namespace RM
open RL RT
section
def m6(c:x<n):stp n h l (true,x)=(true,x):=by
 unfold stp;rw[if_neg (by simp;exact c)]
def sh(c:¬ x<n):stp n h l (false,x)=(false,x):=by
 unfold stp;rw[if_neg (by simp;lia)]
def w4(c:¬ x<n)(d:x<2*n):stp n h l (true,x)=(false,at' l (x-n)):=by
 unfold stp;rw[if_pos (by simp;lia)];show(false,at' l ((x+n)%(2*n)))=_;rw[show(x+n)%(2*n)=x-n by rw[Nat.mod_eq_sub_mod (by lia),Nat.mod_eq_of_lt (by omega)];lia]
def wJ(c:x<n):stp n h l (false,x)=(true,at' h (x+n)):=by
 unfold stp;rw[if_pos (by simp;exact c)];show(true,at' h ((x+n)%(2*n)))=_;rw[Nat.mod_eq_of_lt (by lia)]
def FN(h1:1<=n)(F:Frm n f)(G:Frm n g)(s:∀ p,p<n->at' f p<n->at' g p=at' f p):ao n (cN n f) g=g:=by
 have q:∀ x,x<n->¬ at' f x<n->(∀ i,(itr n (cN n f) g (i+1) (false,at' g x)).2=at' g x):=by
  intro x hx nx i;by_cases c:at' g x<n
  ·have k:¬ at' f (at' g x)<n:=fun k=>by
    have:=s _ c k;rw[G.inv]at this;have e:=F.inv (at' g x);rw[<-this]at e;lia
   have e:stp n (cN n f) g (false,at' g x)=(true,at' g x):=by
    rw[wJ c,mT (by lia),if_neg (by lia),show at' g x+n-n=at' g x by lia,if_neg k]
   rw[dR e (m6 c)]
  ·rw[cI (sh c)]
 apply xt (n:=n) (by simp[ao]) G.len;funext p;by_cases hp:p<2*n
 ·rw[show at' (ao n (cN n f) g) p=(itr n (cN n f) g (4*n) (beg n (cN n f) g p)).2 by simp[ao,at',hp],show 4*n=(4*n-2)+2 by lia];by_cases c:p<n
  ·rw[show beg n (cN n f) g p=(true,at' (cN n f) p) by simp[beg,c,pick],mT hp,if_pos c];by_cases d:at' f p<n
   ·rw[if_pos d,cI (m6 d),s p c d]
   ·rw[if_neg d]
    have e:stp n (cN n f) g (true,p+n)=(false,at' g p):=by rw[w4 (by lia) (by lia),show p+n-n=p by lia]
    have step:∀ i,itr n (cN n f) g (i+1) (true,p+n)=itr n (cN n f) g i (false,at' g p):=fun i=>by
     induction i with
     | zero=>exact e
     | succ i ih=>rw[itr,ih];rfl
    rw[step];exact q p c d _
  ·rw[show beg n (cN n f) g p=(false,at' g p) by simp[beg,c,pick]];by_cases d:at' g p<n
   ·have k:¬ at' f (at' g p)<n:=fun k=>by
     have:=s _ d k;rw[G.inv]at this;lia
    have e:stp n (cN n f) g (false,at' g p)=(true,at' g p):=by
     rw[wJ d,mT (by lia),if_neg (by lia),show at' g p+n-n=at' g p by lia,if_neg k]
    rw[dR e (m6 d)]
   ·rw[cI (sh d)]
 ·rw[cF (by simp[ao];lia),cF (by rw[G.len];lia)]
def AE(h1:1<=n)(hn:n<=10)(F:Frm n f)(O:Frm n (bI n f))(G:Frm n g)(s:∀ p,p<n->at' f p<n->at' g p=at' f p):ao n f (ao n (bI n f) g)=g:=by
 rw[<-l7 (by lia) F O G,yI h1 F,FN h1 F G s]
end
end RM
set_option maxHeartbeats 1000000
namespace RT
open RL
abbrev oQ(f_hung f_over f_ties f_pegs_of f_check_two_frames:Nat):Fn :=
 ⟨2,6,[],[],(.cons (.exc (.call f_check_two_frames (.cons (.var 0) (.cons (.var 1) .nil)))) (.cons (.asg 2 (.call f_pegs_of (.cons (.var 0) .nil))) (.cons (.asg 3 (.comp (.tup (.cons (.var 4) (.cons (.var 5) .nil))) [4,5] (.seq (.call f_ties (.cons (.var 0) .nil))) (.and (.cmp .lt (.var 5) (.var 2)) (.cmp .ne (.ix (.var 1) (.var 4)) (.var 5))))) (.cons (.ife (.var 3) (.cons (.ret (.bin .add (.tup (.cons (.cst (.str "bar")) .nil)) (.ix (.var 3) (.cst (.int 0))))) .nil) .nil) (.cons (.ret (.tup (.cons (.cst (.str "frame")) (.cons (.ix (.call f_hung (.cons (.call f_over (.cons (.var 0) .nil)) (.cons (.var 1) .nil))) (.cst (.int 0))) .nil)))) .nil)))))⟩
end RT
namespace RM
open RL RT
abbrev mis(n:Nat)(f g:List Nat):List Nat:=((List.range (2*n)).filter fun p=>decide (p<at' f p)).filter fun p=>decide (at' f p<n) && !decide (at' g p=at' f p)
abbrev yT(p q:Nat):D:=.tup [.str "bar",.int (p:Nat),.int (q:Nat)]
abbrev qG(f:List Nat):D:=.tup [.str "frame",.tup (L f)]
abbrev lW(n:Nat)(f g:List Nat):List Nat->D
 | []=>qG (ao n (aJ n (ovr n) (ovr n) f) g)
 | p::_=>yT p (at' f p)
def Dj(n:Nat)(f g:List Nat):∀ m,(lW n f g m).imm=true
 | []=>by
  rw[lW,show ∀ x:List Nat,(qG x).imm=(au (L x)&&true)from fun _=>rfl,aP];rfl
 | _::_=>rfl
def ub(f:List Nat):∀ xs:List Nat,au (xs.map (pr f))=true
 | []=>rfl
 | x::r=>ub f r
def Hy(p q:Nat):aG .add (.tup [.str "bar"]) (.tup [.int (p:Nat),.int (q:Nat)])=some (yT p q):=rfl
def J6(a b:Nat):(!((a:Int) == (b:Int)))=!decide (a=b):=by
 by_cases c:a=b
 ·subst c;simp
 ·rw[decide_eq_false c,beq_eq_false_iff_ne.mpr (by lia)]
section
variable{nu pc pa nb un if' cf po rp ir mv rn mk rg jb pu c2 hu:Nat}
def Hg.ck2(H:Hg T cf po rn mk rg jb pu c2 hu)(C:Ck T nu pc pa nb un if' cf po rp ir mv)(n:Nat)(h1:1<=k)(hk:k<=10)(V:Val k f)(W:Val k g):aq T (n+6) c2 [.tup (L f),.tup (L g)]=some .non :=
 (az H.Gf).trans (nv rfl rfl (cS (bc (aa rfl) (C.check n h1 hk V)) (cS (bc (aa rfl) (C.check n h1 hk W)) (cm (bg (aK (bp (aa rfl) (half (n:=k) (by rw[aM,V.frm.len]))) (bp (aa rfl) (half (n:=k) (by rw[aM,W.frm.len]))) (by rw[nJ];simp))) aF))))
def Hg.below(H:Hg T cf po rn mk rg jb pu c2 hu)(C:Ck T nu pc pa nb un if' cf po rp ir mv)(hcp:T[cp]?=some (bJ pc))(hpl:T[pl]?=some (dX cp))(hov:T[ov]?=some (gQ mv pl po cf))(hti:T[ti]?=some (iI cf))(hbe:T[be]?=some (oQ hu ov ti po c2))(n:Nat)(h1:1<=k)(hk:k<=10)(V:Val k f)(W:Val k g) :
  aq T (n+8) be [.tup (L f),.tup (L g)]=some (lW k f g (mis k f g)):=by
 have F:=V.frm;have G:=W.frm
 have mc:=jT (F:=fun σ1=>((ev (aq T (n+7)) σ1 (.and (.cmp .lt (.var 5) (.var 2)) (.cmp .ne (.ix (.var 1) (.var 4)) (.var 5)))).bind truth).bind fun k=>if k then(ev (aq T (n+7)) σ1 (.tup (.cons (.var 4) (.cons (.var 5) .nil)))).map some else some none) (tg:=[4,5]) (σ:=[some (.tup (L f)),some (.tup (L g)),some (.int (k:Nat)),none,none,none]) (h:=pr f) (g:=pr f) (c:=fun p=>decide (at' f p<k) && !decide (at' g p=at' f p)) (fun _=>rfl) ((List.range (2*k)).filter fun p=>decide (p<at' f p)) (by
  intro p hp;have hp:p<2*k:=List.mem_range.mp (List.mem_filter.mp hp).1;show((ev (aq T (n+7)) [some (.tup (L f)),some (.tup (L g)),some (.int (k:Nat)),none,some (.int (p:Nat)),some (.int (at' f p:Nat))] (.and (.cmp .lt (.var 5) (.var 2)) (.cmp .ne (.ix (.var 1) (.var 4)) (.var 5)))).bind truth).bind (fun kk=>if kk then(ev (aq T (n+7)) [some (.tup (L f)),some (.tup (L g)),some (.int (k:Nat)),none,some (.int (p:Nat)),some (.int (at' f p:Nat))] (.tup (.cons (.var 4) (.cons (.var 5) .nil)))).map some else some none)=_;have t:ev (aq T (n+7)) [some (.tup (L f)),some (.tup (L g)),some (.int (k:Nat)),none,some (.int (p:Nat)),some (.int (at' f p:Nat))] (.tup (.cons (.var 4) (.cons (.var 5) .nil)))=some (pr f p):=fD (a7 (aa rfl) (a7 (aa rfl) bC));by_cases c:at' f p<k
  ·rw[bg (fw (aK (k:=true) (aa rfl) (aa rfl) (by rw[dI];simp;exact c)) (aK (b9 (aa rfl) (aa rfl) (dC (by rw[G.len];exact hp))) (aa rfl) nJ)),J6,decide_eq_true c,Bool.true_and,Option.bind_some,t];split<;>rfl
  ·rw[bg (jG (aK (k:=false) (aa rfl) (aa rfl) (by rw[dI];simp;lia))),decide_eq_false c,Bool.false_and]
   rfl)
 have lm:(((List.range (2*k)).filter fun p=>decide (p<at' f p)).map (pr f)).length<=most:=by
  rw[List.length_map];refine Nat.le_trans (List.length_filter_le _ _) ?_;rw[List.length_range];unfold most;lia
 have last:∀ m:List Nat,∃ σ',ah (aq T (n+7)) [] (.cons (.ife (.var 3) (.cons (.ret (.bin .add (.tup (.cons (.cst (.str "bar")) .nil)) (.ix (.var 3) (.cst (.int 0))))) .nil) .nil) (.cons (.ret (.tup (.cons (.cst (.str "frame")) (.cons (.ix (.call hu (.cons (.call ov (.cons (.var 0) .nil)) (.cons (.var 1) .nil))) (.cst (.int 0))) .nil)))) .nil)) [some (.tup (L f)),some (.tup (L g)),some (.int (k:Nat)),some (.lst (m.map (pr f))),none,none]=some (.rt (lW k f g m),σ'):=by
  intro m
  cases m with
  |nil=>
   obtain⟨S,_,e⟩:=H.J0 C n h1 hk ((bz k).val V) W
   exact⟨_,cm (by rw[aa rfl];rfl) (aT (fD (a7 aw (a7 (b9 (cq (bc (aa rfl) (C.over hcp hpl hov (n+1) h1 hk V)) (aa rfl) e) aw rfl) bC))) (by
    unfold bh;rw[Dj]
    rfl))⟩
  | cons p r=>exact⟨_,gz (by rw[aa rfl];rfl) (aT (a6 (fD (a7 aw bC)) (b9 (aa rfl) aw rfl) (Hy p (at' f p))) rfl)⟩
 obtain⟨σ',e⟩:=last (mis k f g);exact(az hbe).trans (aS rfl rfl (cS (cq (aa rfl) (aa rfl) (H.ck2 C (n+1) h1 hk V W)) (aA (bc (aa rfl) (C.half (n+6) F.len)) rfl (aA (d:=.lst ((mis k f g).map (pr f))) (wF (cM (bc (aa rfl) (C.IH hti (n+1) h1 hk V)) rfl) lm mc) (by unfold aN;rw[show a8 (.lst ((mis k f g).map (pr f)))=true from ub f _];rfl) e))))
end
end RM
set_option maxHeartbeats 1000000
namespace RM
open RL RT
def BE(F:Frm n f)(G:Frm n g)(h:mis n f g=[]):∀ p,p<n->at' f p<n->at' g p=at' f p:=by
 have key:∀ p,p<n->p<at' f p->at' f p<n->at' g p=at' f p:=fun p h1 h2 h3=>by
  unfold mis at h;rw[List.filter_filter]at h;have:=List.filter_eq_nil_iff.mp h p (List.mem_range.mpr (by lia));simp[h2,h3]at this;exact this
 intro p hp hf;by_cases c:p<at' f p
 ·exact key p hp c hf
 ·have:=key (at' f p) hf (by rw[F.inv];have:=F.no p (by lia);lia) (by rw[F.inv];exact hp);rw[F.inv]at this;rw[<-G.inv (at' f p),this]
def Ii(h:jQ ds [a,b]):∃ x y,ds=[x,y]/\x<a/\y<b:=by
 obtain⟨h1,h2⟩:=h
 match ds,h1 with
 | [x,y],_=>exact⟨x,y,rfl,h2 0 x a rfl rfl,h2 1 y b rfl rfl⟩
abbrev rgN(n:Nat)(h l:List Nat):Nat:=Classical.epsilon fun r=>∃ S,cj (4*n) (jn n) (rb n h l) S/\S.length=r
section
def Bt(F:Frm n h)(G:Frm n l){S:List Nat}(R:cj (4*n) (jn n) (rb n h l) S):rgN n h l=S.length:=by
 have:=Classical.epsilon_spec (p:=fun r=>∃ S,cj (4*n) (jn n) (rb n h l) S/\S.length=r) ⟨_,S,R,rfl⟩;obtain⟨S',R',e⟩:=this;exact e.symm.trans (R'.one (two F G) R)
def yq{s t s':Nat->Nat}(W:Way n s s')(F:Frm n h)(G:Frm n l)(F':Frm n h')(G':Frm n l')(tl:∀ x,x<4*n->t x<4*n)(tt:∀ x,x<4*n->t (t x)=x)(tj:∀ x,x<4*n->t (jn n x)=jn n (t x))(tb:∀ x,x<4*n->t (rb n h l x)=rb n h' l' (t x))(to:∀ p,p<2*n->t (out n p)=out n (s p)) :
  ao n h' l'=aJ n s s' (ao n h l)/\rgN n h' l'=rgN n h l:=by
 have FF:=cG F G;have T:=two F G;constructor
 ·refine xB W di fun p hp=>?_;have lq:=FF.lt p hp;have ne:=Ne.symm (FF.no p hp);have c:=((found_iff F G hp lq ne).mp rfl).map T tj tb (aU hp);rw[to p hp,to _ lq]at c;exact(found_iff F' G' (W.lt p hp) (W.lt _ lq) (fun e=>ne ((W.bt p hp).symm.trans ((congrArg s' e).trans (W.bt _ lq))))).mpr c
 ·obtain⟨S,R⟩:=zt T;have R':=R.map T (two F' G') (t:=t) (u:=t) tl tl tt tt tj tb;rw[Bt F' G' R',Bt F G R,List.length_map]
abbrev ovT(n x:Nat):Nat:=if x<2*n then 2*n+ovr n x else ovr n (x-2*n)
abbrev miT(n x:Nat):Nat:=if x<2*n then mir n x else 2*n+mir n (x-2*n)
set_option synthInstance.maxSize 10000 in
set_option synthInstance.maxHeartbeats 0 in
def HR:∀ n,n<11->∀ x,x<4*n->(ovT n x<4*n/\ovT n (ovT n x)=x/\ovT n (jn n x)=jn n (ovT n x))/\(miT n x<4*n/\miT n (miT n x)=x/\miT n (jn n x)=jn n (miT n x)):=by decide +kernel
def Hv:∀ n,n<11->∀ p,p<2*n->ovT n (out n p)=out n (ovr n p)/\miT n (out n p)=out n (mir n p):=by decide +kernel
def yC(hn:n<=10)(V:Val n h)(W:Val n l):ao n (aJ n (ovr n) (ovr n) l) (aJ n (ovr n) (ovr n) h)=aJ n (ovr n) (ovr n) (ao n h l)/\rgN n (aJ n (ovr n) (ovr n) l) (aJ n (ovr n) (ovr n) h)=rgN n h l:=by
 have wo:=bz n;have oo:∀ {p},p<2*n->ovr n (ovr n p)=p:=fun {p} hp=>wo.bt p hp;have f:=HR n (by lia);refine yq (t:=ovT n) wo V.frm W.frm (wo.val W).frm (wo.val V).frm (fun x hx=>(f x hx).1.1) (fun x hx=>(f x hx).1.2.1) (fun x hx=>(f x hx).1.2.2) (fun x hx=>?_) (fun p hp=>(Hv n (by lia) p hp).1);unfold ovT;by_cases c:x<2*n
 ·have lx:=V.frm.lt x c;rw[qi c,if_pos lx,if_pos c,qu,bK (wo.lt x c),oo c]
 ·obtain⟨y,rfl⟩:∃ y,x=2*n+y:=⟨x-2*n,by lia⟩
  have ly:y<2*n:=by lia
  rw[qu,if_neg (by lia),if_neg c,Nat.add_sub_cancel_left,Nat.add_sub_cancel_left,qi (wo.lt y ly),bK (wo.lt y ly),oo ly]
end
end RM
set_option maxHeartbeats 1000000
namespace RT
open RL
abbrev kS(f_pegs_of f_check_frame:Nat):Fn :=
 ⟨1,4,[],[],(.cons (.exc (.call f_check_frame (.cons (.var 0) .nil))) (.cons (.asg 1 (.call f_pegs_of (.cons (.var 0) .nil))) (.cons (.ret (.bi .tuple (.compA (.ifx (.cmp .lt (.var 3) (.var 1)) (.var 3) (.var 2)) [2,3] (.enm (.slT (.var 0) (.var 1)))))) .nil)))⟩
abbrev tY(f_upper f_over:Nat):Fn :=
 ⟨1,1,[],[],(.cons (.ret (.call f_upper (.cons (.call f_over (.cons (.var 0) .nil)) .nil))) .nil)⟩
end RT
namespace RM
open RL RT
abbrev up(n:Nat)(f:List Nat)(p:Nat):Nat:=if at' f p<n then at' f p else p
abbrev upL(n:Nat)(f:List Nat):List Nat:=(List.range n).map (up n f)
section
def lj:(upL n f).length=n:=by simp[upL]
def cR(h:p<n):at' (upL n f) p=up n f p:=by simp[upL,at',h]
def Hl(F:Frm n f)(h:p<n):at' (f.take n) p=at' f p:=by
 rw[uY F];simp[at',h]
def yu(h1:1<=n)(hn:n<=10)(F:Frm n f)(hc:cl fc [.tup (L f)]=some .non)(ho:cl fo [.tup (L f)]=some (.int (n:Nat))):evF cl (kS fo fc) [.tup (L f)]=some (.tup (L (upL n f))):=by
 have hl:(f.take n).length=n:=by rw[List.length_take,F.len];lia
 have en:=iM hl
 have sl:jH (.tup (L f)) (.int (n:Nat))=some (.tup (L (f.take n))):=by
  have c:cutAt (L f).length (n:Nat)=n:=by
   unfold cutAt;rw[if_pos (by lia),Int.toNat_natCast,aM,F.len];lia
  show(if cutAt (L f).length (n:Nat)<(L f).length then some (D.tup ((L f).take (cutAt (L f).length (n:Nat))))else none)=_;rw[c,if_pos (by rw[aM,F.len];lia),wD]
 have mc:=my (F:=fun σ1=>(ev cl σ1 (.ifx (.cmp .lt (.var 3) (.var 1)) (.var 3) (.var 2))).map some) (tg:=[2,3]) (σ:=[some (.tup (L f)),some (.int (n:Nat)),none,none]) (h:=pr (f.take n)) (g:=fun p=>.int (up n f p:Nat)) (fun _=>rfl) (List.range n) (by
  intro p hp;have hp:=List.mem_range.mp hp;show(ev cl [some (.tup (L f)),some (.int (n:Nat)),some (.int (p:Nat)),some (.int (at' (f.take n) p:Nat))] (.ifx (.cmp .lt (.var 3) (.var 1)) (.var 3) (.var 2))).map some=_;rw[Hl F hp];unfold up;by_cases c:at' f p<n
  ·rw[kr (k:=true) (bg (aK (aa rfl) (aa rfl) (by rw[dI];simp;exact c))) (aa rfl),if_pos c];rfl
  ·rw[kr (k:=false) (bg (aK (aa rfl) (aa rfl) (by rw[dI];simp;lia))) (aa rfl),if_neg c]
   rfl)
 rw[<-en]at mc
 have lm:(cZ 0 (L (f.take n))).length<=most:=by rw[en,List.length_map,List.length_range];unfold most;lia
 have e:((List.range n).map fun p=>D.int (up n f p:Nat))=L (upL n f):=by unfold upL L;rw[List.map_map];rfl
 rw[e]at mc;exact aS rfl rfl (cS (bc (aa rfl) hc) (aA (bc (aa rfl) ho) rfl (aT (bp (eX (qj (Bj (aa rfl) (aa rfl) sl) rfl) lm mc) rfl) (by unfold bh;rw[show ∀ x:List Nat,(D.tup (L x)).imm=au (L x)from fun _=>rfl,aP];rfl))))
end
section
variable{nu pc pa nb un if' cf po rp ir mv:Nat}
def Ck.upper(C:Ck T nu pc pa nb un if' cf po rp ir mv)(hup:T[up']?=some (kS po cf))(n:Nat)(h1:1<=k)(hk:k<=10)(V:Val k f):aq T (n+6) up' [.tup (L f)]=some (.tup (L (upL k f))) :=
 (az hup).trans (yu h1 hk V.frm (C.check n h1 hk V) (C.half (n+4) V.frm.len))
def Ck.lower(C:Ck T nu pc pa nb un if' cf po rp ir mv)(hup:T[up']?=some (kS po cf))(hcp:T[cp]?=some (bJ pc))(hpl:T[pl]?=some (dX cp))(hov:T[ov]?=some (gQ mv pl po cf))(hlw:T[lw]?=some (tY up' ov))(n:Nat)(h1:1<=k)(hk:k<=10)(V:Val k f):aq T (n+7) lw [.tup (L f)]=some (.tup (L (upL k (aJ k (ovr k) (ovr k) f)))) :=
 (az hlw).trans (aS rfl rfl (aT (bc (bc (aa rfl) (C.over hcp hpl hov n h1 hk V)) (C.upper hup n h1 hk ((bz k).val V))) (by unfold bh;rw[show ∀ x:List Nat,(D.tup (L x)).imm=au (L x)from fun _=>rfl,aP];rfl)))
end
section
def Bo(F:Frm n f):aJ n (ovr n) (ovr n) (aJ n (ovr n) (ovr n) f)=f:=by
 rw[C9 (bz n) (bz n)];exact EM F (fun p hp=>(bz n).bt p hp) (fun p hp=>(bz n).bt p hp)
def mO(F:Frm n f)(hp:p<n):at' (aJ n (ovr n) (ovr n) f) p=if at' f (n+p)<n then at' f (n+p)+n else at' f (n+p)-n:=by
 rw[bK (by lia),m8 hp,Nat.add_comm p n];rfl
end
abbrev Has(n:Nat)(a b:List Nat):Prop:=∀ p,p<n->at' a p<n->at' b p=at' a p
section
def xf(hp:∀ p,p<n->at' h p<n->p<2*n):Has n h (ao n h l):=fun p c d=>by
 rw[lH (by lia),show beg n h l p=(true,at' h p) by simp[beg,c,pick],cI (m6 d)]
def Has.ups(H:Has n a b)(A:Frm n a)(B:Frm n b):upL n b=upL n a↔Has n b a:=by
 constructor
 ·intro e p hp c;have:=congrArg (fun l=>at' l p) e;simp only[cR hp]at this;unfold RM.up at this;rw[if_pos c]at this;by_cases d:at' a p<n
  ·rw[if_pos d]at this;exact this.symm
  ·rw[if_neg d]at this;exact absurd this (B.no p (by lia))
 ·intro k;unfold upL;apply List.map_congr_left;intro p hp;have hp:=List.mem_range.mp hp;unfold RM.up;by_cases d:at' a p<n
  ·rw[if_pos d,H p hp d,if_pos d]
  ·rw[if_neg d,if_neg fun c=>?_];have:=k p hp c;lia
def Dh(A:Frm n a)(B:Frm n b)(hm:mis n a b=[]->Has n a b):mis n a b=[]↔Has n a b:=by
 refine⟨hm,fun k=>?_⟩;unfold mis;rw[List.filter_filter];refine List.filter_eq_nil_iff.mpr fun p hp c=>?_;simp only[Bool.and_eq_true,Bool.not_eq_true',decide_eq_true_eq,decide_eq_false_iff_not]at c;exact c.1.2 (k p (by lia) c.1.1)
end
end RM
set_option maxHeartbeats 1000000
namespace RT
open RL
abbrev tO(f_pegs_of f_over f_below:Nat):Fn :=
 ⟨2,4,[],[],(.cons (.asg 2 (.call f_below (.cons (.call f_over (.cons (.var 0) .nil)) (.cons (.call f_over (.cons (.var 1) .nil)) .nil)))) (.cons (.ife (.cmp .eq (.ix (.var 2) (.cst (.int 0))) (.cst (.str "frame"))) (.cons (.ret (.tup (.cons (.cst (.str "frame")) (.cons (.call f_over (.cons (.ix (.var 2) (.cst (.int 1))) .nil)) .nil)))) .nil) .nil) (.cons (.asg 3 (.call f_pegs_of (.cons (.var 0) .nil))) (.cons (.ret (.tup (.cons (.cst (.str "bar")) (.cons (.bin .add (.var 3) (.ix (.var 2) (.cst (.int 1)))) (.cons (.bin .add (.var 3) (.ix (.var 2) (.cst (.int 2)))) .nil))))) .nil))))⟩
end RT
namespace K36
open RL RT
end K36
namespace RM
open RL RT
section
variable{n:Nat}{f g:List Nat}
abbrev nL(n:Nat)(f g:List Nat):List Nat->D
 | []=>qG (aJ n (ovr n) (ovr n) (ao n f (aJ n (ovr n) (ovr n) g)))
 | p::_=>yT (n+p) (n+at' (aJ n (ovr n) (ovr n) f) p)
def Cs(n:Nat)(f g:List Nat):∀ m,(nL n f g m).imm=true
 | []=>by
  rw[nL,show ∀ x:List Nat,(qG x).imm=(au (L x)&&true)from fun _=>rfl,aP];rfl
 | _::_=>rfl
end
section
variable{T:List Fn}{nu pc pa nb un if' cf po rp ir mv rn mk rg jb pu c2 hu:Nat}
def Hg.above(H:Hg T cf po rn mk rg jb pu c2 hu)(C:Ck T nu pc pa nb un if' cf po rp ir mv){cp pl ov ti be ab:Nat}(hcp:T[cp]?=some (bJ pc))(hpl:T[pl]?=some (dX cp))(hov:T[ov]?=some (gQ mv pl po cf))(hti:T[ti]?=some (iI cf))(hbe:T[be]?=some (oQ hu ov ti po c2))(hab:T[ab]?=some (tO po ov be))(n:Nat){k:Nat}{f g:List Nat}(h1:1<=k)(hk:k<=10)(V:Val k f)(W:Val k g) :
  aq T (n+9) ab [.tup (L f),.tup (L g)]=some (nL k f g (mis k (aJ k (ovr k) (ovr k) f) (aJ k (ovr k) (ovr k) g))):=by
 have V':=(bz k).val V;have W':=(bz k).val W;have e:=H.below C hcp hpl hov hti hbe n h1 hk V' W';refine(az hab).trans ?_;generalize mis k (aJ k (ovr k) (ovr k) f) (aJ k (ovr k) (ovr k) g)=m at e
 cases m with
 |nil=>
  rw[lW,Bo V.frm]at e
  exact aS rfl rfl (aA (cq (bc (aa rfl) (C.over hcp hpl hov (n+2) h1 hk V)) (bc (aa rfl) (C.over hcp hpl hov (n+2) h1 hk W)) e) (by unfold aN;rw[show ∀ x:List Nat,(qG x).imm=(au (L x)&&true)from fun _=>rfl,aP];rfl)
   (gz (bg (aK (k:=true) (b9 (aa rfl) aw rfl) aw rfl)) (aT (d:=nL k f g []) (fD (a7 aw (a7 (bc (b9 (aa rfl) aw rfl) (C.over hcp hpl hov (n+2) h1 hk (dY hk V W'))) bC))) (by unfold bh;rw[Cs];rfl))))
 |cons p r=>
  rw[lW]at e
  exact aS rfl rfl (aA (cq (bc (aa rfl) (C.over hcp hpl hov (n+2) h1 hk V)) (bc (aa rfl) (C.over hcp hpl hov (n+2) h1 hk W)) e) rfl
   (cm (bg (aK (k:=false) (b9 (aa rfl) aw rfl) aw rfl)) (aA (bc (aa rfl) (C.half (n+7) V.frm.len)) rfl (aT (d:=nL k f g (p::r)) (fD (a7 aw (a7 (a6 (aa rfl) (b9 (aa rfl) aw rfl) cw) (a7 (a6 (aa rfl) (b9 (aa rfl) aw rfl) cw) bC)))) rfl))))
end
end RM
namespace K36
open RL RT RM
end K36
set_option maxHeartbeats 1000000
namespace RM
open RL RT
structure Hf(n:Nat)(h:List Nat):Prop where
 len:h.length=n
 lt:∀ q,q<n->at' h q<n
 inv:∀ q,q<n->at' h (at' h q)=q
 nx:Nx (at' h) n
abbrev fx(n:Nat)(h:List Nat):List Nat:=(List.range n).filter fun q=>decide (at' h q=q)
section
variable{n:Nat}{f h a b:List Nat}
def j7{q:Nat}:q∈fx n h↔q<n/\at' h q=q:=by
 unfold fx;rw[List.mem_filter,List.mem_range,decide_eq_true_eq]
def By:(fx n h).Pairwise (·<·):=by
 unfold fx;exact List.Pairwise.filter _ List.pairwise_lt_range
def bA{k:Nat}(hk:k<(fx n h).length):at' (fx n h) k<n/\at' h (at' (fx n h) k)=at' (fx n h) k:=by
 have e:at' (fx n h) k=(fx n h)[k]:=by simp[at',hk]
 rw[e];exact j7.mp (List.getElem_mem hk)
def kQ{k m:Nat}(h1:k<m)(hm:m<(fx n h).length):at' (fx n h) k<at' (fx n h) m:=by
 have e:at' (fx n h) k=(fx n h)[k]'(by lia):=by simp[at',show k<(fx n h).length by lia]
 have e':at' (fx n h) m=(fx n h)[m]:=by simp[at',hm]
 rw[e,e'];exact List.pairwise_iff_getElem.mp By k m (by lia) hm h1
def gm{q:Nat}(hq:q<n)(e:at' h q=q):∃ k,k<(fx n h).length/\at' (fx n h) k=q:=by
 obtain⟨k,hk,ek⟩:=List.getElem_of_mem (j7.mpr ⟨hq,e⟩);exact⟨k,hk,by simp[at',hk,ek]⟩
def FK(V:Val n f){p q:Nat}(hp:p<n)(hq:q<n)(c:at' f p<n):¬ (p<q/\q<at' f p/\(at' f p<at' f q\/n<=at' f q)):=by
 rintro⟨c1,c2,c3⟩;have F:=V.frm;have:=V.nox p q (by lia) (by lia);rw[mz F hp,mz F hq,if_pos c]at this;have lb:=F.lt q (by lia);split at this<;>lia
def nX(V:Val n f):Hf n (upL n f):=by
 have F:=V.frm
 have hi:∀ q,q<n->at' f q<n->up n f q=at' f q:=fun q _ c=>by unfold up;rw[if_pos c]
 have lo:∀ q,¬ at' f q<n->up n f q=q:=fun q c=>by unfold up;rw[if_neg c]
 have lt:∀ q,q<n->up n f q<n:=fun q hq=>by
  by_cases c:at' f q<n
  ·rw[hi q hq c];exact c
  ·rw[lo q c];exact hq
 refine⟨lj,fun q hq=>by rw[cR hq];exact lt q hq,fun q hq=>?_,fun q q' h1 h2 h3=>?_⟩
 ·rw[cR hq,cR (lt q hq)];by_cases c:at' f q<n
  ·rw[hi q hq c];unfold up;rw[F.inv,if_pos hq]
  ·rw[lo q c,lo q c]
 ·by_cases hq:q<n
  ·rw[cR hq]at h2 h3 ⊢;rw[cR (show q'<n by lia)];by_cases c:at' f q<n
   ·rw[hi q hq c]at h2 h3 ⊢;have x:=FK V hq (show q'<n by lia) c;by_cases d:at' f q'<n
    ·rw[hi q' (by lia) d];have:=F.no q' (by lia);lia
    ·lia
   ·rw[lo q c]at h2;lia
  ·rw[cF (by rw[lj];omega)]at h2;lia
def FJ:(fx n (upL n f)).length=thr n f\/¬ Frm n f:=by
 by_cases F:Frm n f
 ·refine .inl ?_;unfold fx thr;congr 1;apply List.filter_congr;intro q hq;have hq:=List.mem_range.mp hq;rw[cR hq];apply decide_eq_decide.mpr;unfold up;have:=F.no q (by lia);split<;>lia
 ·exact .inr F
def yU(H:Hf n h){x y:Nat}{r:List Nat}(e:fx n h=x::y::r):Hf n ((h.set x y).set y x)/\fx n ((h.set x y).set y x)=r/\∀ q,q<n->at' h q≠q->at' ((h.set x y).set y x) q=at' h q:=by
 have up:=By (n:=n) (h:=h);rw[e]at up;obtain⟨hx,hx'⟩:=j7.mp (show x∈fx n h by rw[e];simp);obtain⟨hy,hy'⟩:=j7.mp (show y∈fx n h by rw[e];simp);have xy:x<y:=(List.pairwise_cons.mp up).1 y (by simp);have ry:∀ z∈r,y<z:=(List.pairwise_cons.mp (List.pairwise_cons.mp up).2).1
 have mid:∀ z,z<n->at' h z=z->z=x\/z=y\/y<z:=fun z hz e'=>by
  have:=j7.mpr ⟨hz,e'⟩;rw[e]at this;simp only[List.mem_cons]at this;rcases this with q | q | q
  ·exact .inl q
  ·exact .inr (.inl q)
  ·exact .inr (.inr (ry z q))
 have at1:∀ q,at' ((h.set x y).set y x) q=if q=y then x else if q=x then y else at' h q:=fun q=>by
  rw[jV (by rw[List.length_set,H.len];exact hy),jV (by rw[H.len];exact hx)]
 refine⟨⟨by rw[List.length_set,List.length_set,H.len],fun q hq=>?_,fun q hq=>?_,fun q q' h1 h2 h3=>?_⟩,?_,fun q hq c=>?_⟩
 ·rw[at1];have:=H.lt q hq;split
  ·exact hx
  ·split
   ·exact hy
   ·exact this
 ·rw[at1 q];by_cases c1:q=y
  ·rw[if_pos c1,at1,if_neg (by lia),if_pos rfl,c1]
  ·rw[if_neg c1];by_cases c2:q=x
   ·rw[if_pos c2,at1,if_pos rfl,c2]
   ·rw[if_neg c2,at1];have i:=H.inv q hq;rw[if_neg (fun z=>by rw[z,hy']at i;exact c1 i.symm),if_neg (fun z=>by rw[z,hx']at i;exact c2 i.symm),i]
 ·rw[at1 q]at h2 h3 ⊢;rw[at1 q'];by_cases c1:q=y
  ·rw[if_pos c1]at h2;lia
  ·rw[if_neg c1]at h2 h3 ⊢;by_cases c2:q=x
   ·rw[if_pos c2]at h2 h3 ⊢;rw[if_neg (by lia),if_neg (by lia)];rintro(z | z)
    ·by_cases c:at' h q'<n
     ·exact H.nx q' y h2 z c (.inr hy')
     ·exact c (H.lt q' (by lia))
    ·rcases mid q' (by lia) z with w | w | w<;>lia
   ·rw[if_neg c2]at h2 h3 ⊢;have k:=H.nx q q' h1 h2 h3;rw[if_neg (fun z=>k (.inr (by rw[z];exact hy'))),if_neg (fun z=>k (.inr (by rw[z];exact hx')))];exact k
 ·have:fx n ((h.set x y).set y x)=(fx n h).filter fun q=>!decide (q=x) && !decide (q=y):=by
   unfold fx;rw[List.filter_filter];apply List.filter_congr;intro q _;rw[at1 q,Bool.eq_iff_iff];simp only[Bool.and_eq_true,Bool.not_eq_true',decide_eq_true_eq,decide_eq_false_iff_not];by_cases c1:q=y
   ·rw[if_pos c1];constructor
    ·intro z;lia
    ·intro z;exact absurd c1 z.1.2
   ·rw[if_neg c1];by_cases c2:q=x
    ·rw[if_pos c2];constructor
     ·intro z;lia
     ·intro z;exact absurd c2 z.1.1
    ·rw[if_neg c2];exact⟨fun z=>⟨⟨c2,c1⟩,z⟩,fun z=>z.2⟩
  rw[this,e,List.filter_cons,List.filter_cons];rw[if_neg (by simp),if_neg (by simp)];apply List.filter_eq_self.mpr;intro z hz;have:=ry z hz;simp;lia
 ·rw[at1,if_neg (fun z=>c (by rw[z];exact hy')),if_neg (fun z=>c (by rw[z];exact hx'))]
structure Jn(n:Nat)(a b J:List Nat):Prop where
 len:J.length=2*n
 thr:∀ k,k<(fx n a).length->at' J (at' (fx n a) k)=n+at' (fx n b) k/\at' J (n+at' (fx n b) k)=at' (fx n a) k
 hi:∀ p,p<n->at' a p≠p->at' J p=at' a p
 lo:∀ p,p<n->at' b p≠p->at' J (n+p)=n+at' b p
def Jn.frm{J:List Nat}(A:Hf n a)(B:Hf n b)(t:(fx n a).length=(fx n b).length)(j:Jn n a b J):Frm n J:=by
 have cas:∀ x,x<2*n->(∃ k,k<(fx n a).length/\x=at' (fx n a) k)\/(x<n/\at' a x≠x)\/(∃ k,k<(fx n a).length/\x=n+at' (fx n b) k)\/∃ p,p<n/\at' b p≠p/\x=n+p:=fun x hx=>by
  by_cases c:x<n
  ·by_cases d:at' a x=x
   ·obtain⟨k,h1,h2⟩:=gm c d;exact .inl ⟨k,h1,h2.symm⟩
   ·exact .inr (.inl ⟨c,d⟩)
  ·by_cases d:at' b (x-n)=x-n
   ·obtain⟨k,h1,h2⟩:=gm (show x-n<n by lia) d;exact .inr (.inr (.inl ⟨k,by lia,by lia⟩))
   ·exact .inr (.inr (.inr ⟨x-n,by lia,d,by lia⟩))
 refine⟨j.len,fun x hx=>?_,fun x=>?_,fun x hx=>?_⟩
 ·rcases cas x hx with⟨k,hk,rfl⟩ | ⟨h1,h2⟩ | ⟨k,hk,rfl⟩ | ⟨p,hp,h2,rfl⟩
  ·rw[(j.thr k hk).1];have:=(bA (h:=b) (n:=n) (k:=k) (by lia)).1;lia
  ·rw[j.hi x h1 h2];have:=A.lt x h1;lia
  ·rw[(j.thr k hk).2];have:=(bA (h:=a) (n:=n) hk).1;lia
  ·rw[j.lo p hp h2];have:=B.lt p hp;lia
 ·by_cases hx:x<2*n
  ·rcases cas x hx with⟨k,hk,rfl⟩ | ⟨h1,h2⟩ | ⟨k,hk,rfl⟩ | ⟨p,hp,h2,rfl⟩
   ·rw[(j.thr k hk).1,(j.thr k hk).2]
   ·rw[j.hi x h1 h2,j.hi _ (A.lt x h1) (fun z=>h2 (by rw[A.inv x h1]at z;exact z.symm)),A.inv x h1]
   ·rw[(j.thr k hk).2,(j.thr k hk).1]
   ·rw[j.lo p hp h2,j.lo _ (B.lt p hp) (fun z=>h2 (by rw[B.inv p hp]at z;exact z.symm)),B.inv p hp]
  ·rw[cF (f:=J) (x:=x) (by rw[j.len];lia),cF (by rw[j.len];lia)]
 ·rcases cas x hx with⟨k,hk,rfl⟩ | ⟨h1,h2⟩ | ⟨k,hk,rfl⟩ | ⟨p,hp,h2,rfl⟩
  ·rw[(j.thr k hk).1];have:=(bA (h:=a) (n:=n) hk).1;lia
  ·rw[j.hi x h1 h2];exact h2
  ·rw[(j.thr k hk).2];have:=(bA (h:=a) (n:=n) hk).1;lia
  ·rw[j.lo p hp h2];lia
def Jn.up{J:List Nat}(A:Hf n a)(t:(fx n a).length=(fx n b).length)(j:Jn n a b J):upL n J=a:=by
 refine eG lj A.len fun p hp=>?_;rw[cR hp];unfold RM.up;by_cases c:at' a p=p
 ·obtain⟨k,h1,h2⟩:=gm hp c;have:=(j.thr k h1).1;rw[h2]at this;rw[this,if_neg (by lia),c]
 ·rw[j.hi p hp c,if_pos (A.lt p hp)]
def Jn.dn{J:List Nat}(A:Hf n a)(B:Hf n b)(t:(fx n a).length=(fx n b).length)(j:Jn n a b J):upL n (aJ n (ovr n) (ovr n) J)=b:=by
 refine eG lj B.len fun p hp=>?_;rw[cR hp];unfold RM.up;rw[mO (j.frm A B t) hp];by_cases c:at' b p=p
 ·obtain⟨k,h1,h2⟩:=gm hp c;have e:=(j.thr k (by lia)).2;rw[h2]at e;have:=(bA (h:=a) (n:=n) (k:=k) (by lia)).1;rw[e,if_pos this,if_neg (by lia),c]
 ·have:=B.lt p hp
  have e:(if at' J (n+p)<n then at' J (n+p)+n else at' J (n+p)-n)=at' b p:=by
   rw[j.lo p hp c,if_neg (by lia)];lia
  rw[e,if_pos this]
def mZ{q:Nat}(h:n<=q)(h2:q<2*n):rd n q=n+(2*n-1-q):=by
 unfold rd;rw[if_neg (by lia)];lia
def Jn.val{J:List Nat}(A:Hf n a)(B:Hf n b)(t:(fx n a).length=(fx n b).length)(j:Jn n a b J):Val n J:=by
 have F:=j.frm A B t
 have top:∀ q,q<n->at' a q≠q->rnd n J q=at' a q:=fun q hq c=>by
  unfold rnd;have:=A.lt q hq;rw[k9 hq,j.hi q hq c,k9 this]
 have thr:∀ k,k<(fx n a).length->rnd n J (at' (fx n a) k)=2*n-1-at' (fx n b) k:=fun k hk=>by
  unfold rnd;have h1:=(bA (h:=a) (n:=n) hk).1;have h2:=(bA (h:=b) (n:=n) (k:=k) (by lia)).1;rw[k9 h1,(j.thr k hk).1,mZ (by lia) (by lia)]
  have:n+(2*n-1-(n+at' (fx n b) k))=2*n-1-at' (fx n b) k:=by lia
  exact this
 have bot:∀ u,u<n->at' b u≠u->rnd n J (2*n-1-u)=2*n-1-at' b u:=fun u hu c=>by
  unfold rnd;have:=B.lt u hu;rw[show rd n (2*n-1-u)=n+u by rw[mZ (by lia) (by omega)];lia,j.lo u hu c,show rd n (n+at' b u)=2*n-1-at' b u by rw[mZ (by lia) (by lia)];lia]
 have bth:∀ k,k<(fx n a).length->rnd n J (2*n-1-at' (fx n b) k)=at' (fx n a) k:=fun k hk=>by
  unfold rnd;have h1:=(bA (h:=a) (n:=n) hk).1;have h2:=(bA (h:=b) (n:=n) (k:=k) (by lia)).1;rw[show rd n (2*n-1-at' (fx n b) k)=n+at' (fx n b) k by rw[mZ (by lia) (by lia)];lia,(j.thr k hk).2,k9 h1]
 refine⟨F,fun q q' h1 h2 ⟨c1,c2,c3⟩=>?_⟩;by_cases hq:q<n
 ·by_cases d:at' a q=q
  ·obtain⟨k,hk,rfl⟩:=gm hq d;have bk:=(bA (h:=b) (n:=n) (k:=k) (by lia)).1;rw[thr k hk]at c2 c3;by_cases hq':q'<n
   ·by_cases d':at' a q'=q'
    ·obtain⟨m,hm,rfl⟩:=gm hq' d';rw[thr m hm]at c3
     have km:k<m:=by
      rcases Nat.lt_trichotomy k m with z | z | z
      ·exact z
      ·subst z;lia
      ·have:=kQ z hk;lia
     have:=kQ (h:=b) (n:=n) km (by lia);lia
    ·rw[top q' hq' d']at c3;have:=A.lt q' hq';lia
   ·obtain⟨u,hu,rfl⟩:∃ u,u<n/\q'=2*n-1-u:=⟨2*n-1-q',by lia,by lia⟩
    by_cases d':at' b u=u
    ·obtain⟨m,hm,rfl⟩:=gm hu d';rw[bth m (by lia)]at c3;have:=(bA (h:=a) (n:=n) (k:=m) (by lia)).1;lia
    ·rw[bot u hu d']at c3;have lb:=B.lt u hu;exact B.nx (at' b u) (at' (fx n b) k) (by lia) (by rw[B.inv u hu];lia) (by rw[B.inv u hu];exact hu) (.inr (bA (h:=b) (n:=n) (k:=k) (by lia)).2)
  ·rw[top q hq d]at c2 c3;have la:=A.lt q hq;have k:=A.nx q q' c1 c2 la;have d':at' a q'≠q':=fun z=>k (.inr z);rw[top q' (by lia) d']at c3;exact k (.inl c3)
 ·obtain⟨u,hu,rfl⟩:∃ u,u<n/\q=2*n-1-u:=⟨2*n-1-q,by lia,by lia⟩
  by_cases d:at' b u=u
  ·obtain⟨m,hm,rfl⟩:=gm hu d;rw[bth m (by lia)]at c2;have:=(bA (h:=a) (n:=n) (k:=m) (by lia)).1;lia
  ·rw[bot u hu d]at c2 c3;have lb:=B.lt u hu
   obtain⟨v,hv,rfl⟩:∃ v,v<n/\q'=2*n-1-v:=⟨2*n-1-q',by lia,by lia⟩
   by_cases d':at' b v=v
   ·obtain⟨m,hm,rfl⟩:=gm hv d';rw[bth m (by lia)]at c3;have:=(bA (h:=a) (n:=n) (k:=m) (by lia)).1;lia
   ·rw[bot v hv d']at c3;have lv:=B.lt v hv;exact B.nx (at' b v) (at' b u) (by omega) (by rw[B.inv v hv];omega) (by rw[B.inv v hv];exact hv) (.inl (by rw[B.inv v hv,B.inv u hu];lia))
end
end RM
set_option maxHeartbeats 1000000
namespace RM
open RL RT
section
def zT(g:Nat->Nat)(h:∀ p,p<m->P p=true->g p<m/\P (g p)=true/\g (g p)=p/\g p≠p):cnt m P%2=0:=by
 unfold cnt
 have mem:∀ x,x∈(List.range m).filter P↔x<m/\P x=true:=fun x=>by rw[List.mem_filter,List.mem_range]
 refine lK (b:=g) (List.nodup_range.filter _) (fun x hx=>?_) (fun x hx=>?_) (fun x hx=>?_)
 ·obtain⟨a,b⟩:=(mem x).mp hx;exact(mem _).mpr ⟨(h x a b).1,(h x a b).2.1⟩
 ·obtain⟨a,b⟩:=(mem x).mp hx;exact(h x a b).2.2.1
 ·obtain⟨a,b⟩:=(mem x).mp hx;exact(h x a b).2.2.2
def ue:∀ xs:List Nat,(∀ x∈xs,(if A x then 1 else 0)=(if B x then 1 else 0)+(if C x then 1 else 0))->(xs.filter A).length=(xs.filter B).length+(xs.filter C).length
 | [],_=>rfl
 | x::r,h=>by
  have ih:=ue r fun y hy=>h y (List.mem_cons_of_mem _ hy);have hx:=h x (List.mem_cons_self ..);rw[List.filter_cons,List.filter_cons,List.filter_cons];cases a:A x<;>cases b:B x<;>cases c:C x<;>rw[a,b,c]at hx<;>simp at hx ⊢<;>lia
end
end RM
set_option maxHeartbeats 1000000
namespace RM
open RL RT
section
variable{n:Nat}{f g A B:List Nat}
def up_eq(F:Frm n f)(e:upL n f=upL n g){p:Nat}(hp:p<n)(c:at' f p<n):at' g p=at' f p:=by
 have:=congrArg (fun l=>at' l p) e;simp only[cR hp]at this;unfold up at this;rw[if_pos c]at this;by_cases d:at' g p<n
 ·rw[if_pos d]at this;exact this.symm
 ·rw[if_neg d]at this;exact absurd this (F.no p (by lia))
def Bs(V:Val n f)(W:Val n g)(e:upL n (aJ n (ovr n) (ovr n) f)=upL n (aJ n (ovr n) (ovr n) g)){p:Nat}(hp:p<n)(c:n<=at' f (n+p)):at' g (n+p)=at' f (n+p):=by
 have l:=V.frm.lt (n+p) (by lia);have l':=W.frm.lt (n+p) (by lia);have:=up_eq ((bz n).val V).frm e hp (by rw[mO V.frm hp,if_neg (by lia)];lia);rw[mO V.frm hp,mO W.frm hp,if_neg (show ¬ at' f (n+p)<n by lia)]at this;split at this<;>lia
def yg(V:Val n f)(W:Val n g)(e:upL n f=upL n g)(e':upL n (aJ n (ovr n) (ovr n) f)=upL n (aJ n (ovr n) (ovr n) g)):f=g:=by
 have F:=V.frm;have G:=W.frm
 have key:∀ {f g:List Nat},Val n f->Val n g->upL n (aJ n (ovr n) (ovr n) f)=upL n (aJ n (ovr n) (ovr n) g)->∀ p,p<n->(∀ q,q<p->at' f q=at' g q)->n<=at' f p->n<=at' g p->¬ at' f p<at' g p:=by
  intro f g V W e' p hp ih c d z;have F:=V.frm;have G:=W.frm;have lf:=F.lt p (by lia);have lg:=G.lt p (by lia)
  obtain⟨b,hb⟩:∃ b,at' f p=n+b:=⟨at' f p-n,by lia⟩
  have fb:at' f (n+b)=p:=by rw[<-hb,F.inv]
  have gb:at' g (n+b)<n:=by
   by_cases q:at' g (n+b)<n
   ·exact q
   ·have:=Bs W V e'.symm (p:=b) (by lia) (by lia);lia
  have gi:=G.inv (n+b)
  have ne:at' g (n+b)≠p:=fun q=>by rw[q]at gi;lia
  have le:¬ at' g (n+b)<p:=fun q=>by
   have:=ih _ q;rw[gi,<-hb]at this;have:=congrArg (at' f) this;rw[F.inv,F.inv,hb]at this;exact ne this
  refine W.nox p (at' g (n+b)) (by lia) (by lia) ?_;rw[mz G hp,mz G gb,gi,if_neg (by lia),if_neg (by lia)];lia
 have tops:∀ m p,p<m->p<n->at' f p=at' g p:=by
  intro m
  induction m with
  | zero=>intro p h;lia
  |succ m ih=>
   intro p h hp;by_cases c:at' f p<n
   ·exact(up_eq F e hp c).symm
   ·by_cases d:at' g p<n
    ·exact up_eq G e.symm hp d
    ·have k1:=key V W e' p hp (fun q hq=>ih q (by lia) (by lia)) (by lia) (by lia);have k2:=key W V e'.symm p hp (fun q hq=>(ih q (by lia) (by lia)).symm) (by lia) (by lia);lia
 refine eG F.len G.len fun x hx=>?_;by_cases c:x<n
 ·exact tops n x c c
 ·obtain⟨q,hq⟩:∃ q,x=n+q:=⟨x-n,by lia⟩
  subst hq;by_cases d:at' f (n+q)<n
  ·have:=tops n _ d d;rw[F.inv]at this;have:=congrArg (at' g) this;rw[G.inv]at this;exact this.symm
  ·exact(Bs V W e' (by lia) (by lia)).symm
def rV(hn:n<=10)(V:Val n A)(W:Val n B)(e:upL n (aJ n (ovr n) (ovr n) A)=upL n B):upL n (ao n A B)=upL n A:=by
 have F:=V.frm;have G:=W.frm;have R:=dY hn V W
 have H:Has n A (ao n A B):=xf fun _ _ _=>by lia
 refine(H.ups F R.frm).mpr fun p hp c=>?_;by_cases d:at' A p<n
 ·exact(H p hp d).symm
 ·exfalso;have l:=F.lt p (by lia)
  obtain⟨m,hm⟩:∃ m,at' A p=n+m:=⟨at' A p-n,by lia⟩
  have am:at' A (n+m)=p:=by rw[<-hm,F.inv]
  have bm:¬ at' B m<n:=fun q=>by
   have:=congrArg (fun l=>at' l m) e;simp only[cR (show m<n by lia)]at this;unfold up at this;rw[mO F (by lia),am,if_pos hp,if_neg (show ¬ p+n<n by lia),if_pos q]at this;exact G.no m (by lia) this.symm
  rw[lH (by lia),show beg n A B p=(true,n+m) by simp[beg,hp,pick,hm]]at c
  have st:stp n A B (true,n+m)=(false,at' B m):=by rw[w4 (by lia) (by lia),Nat.add_sub_cancel_left]
  rw[show 4*n=(4*n-1)+1 by lia,dR st (sh bm)]at c;exact bm c
def A9{M:List Nat}(hn:n<=10)(VA:Val n A)(VB:Val n B)(Vg:Val n g)(a1:upL n A=upL n g)(a2:upL n (aJ n (ovr n) (ovr n) A)=M)(b1:upL n B=M)(b2:upL n (aJ n (ovr n) (ovr n) B)=upL n (aJ n (ovr n) (ovr n) g)):ao n A B=g:=by
 have R:=dY hn VA VB;refine yg R Vg ((rV hn VA VB (a2.trans b1.symm)).trans a1) ?_;rw[<-(yC hn VA VB).1];have:=rV hn ((bz n).val VB) ((bz n).val VA) (by rw[Bo VB.frm];exact b1.trans a2.symm);exact this.trans b2
def uQ(F:Frm n f):thr n f%2=n%2:=by
 have e1:cnt n (fun p=>decide (at' f p<n))%2=0:=zT (at' f) fun p hp h=>by
  rw[decide_eq_true_eq]at h;rw[decide_eq_true_eq,F.inv];exact⟨h,hp,rfl,F.no p (by lia)⟩
 have e2:((List.range n).filter fun _=>true).length=cnt n (fun p=>decide (at' f p<n))+thr n f:=by
  unfold cnt thr;refine ue _ fun x _=>?_;by_cases c:at' f x<n
  ·rw[if_pos rfl,if_pos (decide_eq_true c),if_neg (by rw[decide_eq_true_eq];lia)]
  ·rw[if_pos rfl,if_neg (by rw[decide_eq_true_eq];exact c),if_pos (by rw[decide_eq_true_eq];lia)]
 rw[List.filter_eq_self.mpr (fun _ _=>rfl),List.length_range]at e2;lia
end
end RM
set_option maxHeartbeats 1000000
namespace RM
open RL RT
section
variable{cl:Cl}{xs:List Int}
end
end RM
set_option maxHeartbeats 1000000
namespace RT
open RL
abbrev jP(f_is_half:Nat):Fn :=
 ⟨1,1,[],[],(.cons (.ife (.not (.call f_is_half (.cons (.var 0) .nil))) (.cons (.rais "BadHalf" .nil) .nil) .nil) .nil)⟩
abbrev fK(f_check_half:Nat):Fn :=
 ⟨2,2,[],[],(.cons (.exc (.call f_check_half (.cons (.var 0) .nil))) (.cons (.exc (.call f_check_half (.cons (.var 1) .nil))) (.cons (.ife (.cmp .ne (.bi .len (.var 0)) (.bi .len (.var 1))) (.cons (.rais "BadPegs" .nil) .nil) .nil) .nil)))⟩
abbrev jZ(f_tie f_going f_check_two_halves:Nat):Ss :=
 (.cons (.mexc f_tie (.cons (.var 5) (.cons (.var 6) (.cons (.bin .add (.var 4) (.var 7)) .nil))) [0] [5]) .nil)
abbrev lV(f_tie f_going f_check_two_halves:Nat):Fn :=
 ⟨2,9,[5],[],(.cons (.exc (.call f_check_two_halves (.cons (.var 0) (.cons (.var 1) .nil)))) (.cons (.asg 2 (.call f_going (.cons (.var 0) .nil))) (.cons (.asg 3 (.call f_going (.cons (.var 1) .nil))) (.cons (.ife (.cmp .ne (.bi .len (.var 2)) (.bi .len (.var 3))) (.cons (.rais "BadHalf" .nil) .nil) .nil) (.cons (.asg 4 (.bi .len (.var 0))) (.cons (.own 5 (.bin .add (.bi .list (.var 0)) (.compA (.bin .add (.var 4) (.var 8)) [8] (.seq (.var 1))))) (.cons (.forr [6,7] (.zip (.var 2) (.var 3)) (jZ f_tie f_going f_check_two_halves)) (.cons (.ret (.bi .tuple (.var 5))) .nil))))))))⟩
abbrev oJ:Fn :=
 ⟨1,3,[],[],(.cons (.ret (.comp (.var 1) [1,2] (.enm (.var 0)) (.cmp .eq (.var 1) (.var 2)))) .nil)⟩
abbrev j5(f_joined f_upper f_below f_lower f_narrowed f_through f_check_two_frames:Nat):Fn :=
 ⟨2,6,[],[],(.cons (.exc (.call f_check_two_frames (.cons (.var 0) (.cons (.var 1) .nil)))) (.cons (.asg 2 (.call f_through (.cons (.var 1) .nil))) (.cons (.asg 3 (.call f_through (.cons (.var 0) .nil))) (.cons (.ife (.cmp .gt (.var 2) (.var 3)) (.cons (.ret (.tup (.cons (.cst (.str "bar")) (.cons (.var 2) (.cons (.var 3) .nil))))) .nil) .nil) (.cons (.asg 4 (.call f_narrowed (.cons (.call f_upper (.cons (.var 0) .nil)) (.cons (.bin .sub (.var 3) (.var 2)) .nil)))) (.cons (.asg 5 (.ix (.call f_below (.cons (.var 0) (.cons (.call f_joined (.cons (.var 4) (.cons (.call f_lower (.cons (.var 1) .nil)) .nil))) .nil))) (.cst (.int 1)))) (.cons (.ret (.tup (.cons (.cst (.str "frames")) (.cons (.call f_joined (.cons (.call f_upper (.cons (.var 1) .nil)) (.cons (.var 4) .nil))) (.cons (.var 5) .nil))))) .nil)))))))⟩
abbrev ij(f_tie f_going:Nat):Ss :=
 (.cons (.mexc f_tie (.cons (.var 2) (.cons (.ix (.var 3) (.var 4)) (.cons (.ix (.var 3) (.bin .add (.var 4) (.cst (.int 1)))) .nil))) [0] [2]) .nil)
abbrev iZ(f_tie f_going:Nat):Fn :=
 ⟨2,5,[2],[],(.cons (.own 2 (.bi .list (.var 0))) (.cons (.asg 3 (.call f_going (.cons (.var 0) .nil))) (.cons (.forr [4] (.rng3 (2) (.cst (.int 0)) (.var 1)) (ij f_tie f_going)) (.cons (.ret (.bi .tuple (.var 2))) .nil))))⟩
end RT
namespace RM
open RL RT
section
variable{cl:Cl}{n:Nat}{h a b:List Nat}
def yz(hn:n<=10)(hl:h.length=n):evF cl oJ [.tup (L h)]=some (.lst (L (fx n h))):=by
 have en:=iM hl
 have mc:=jT (F:=fun σ1=>((ev cl σ1 (.cmp .eq (.var 1) (.var 2))).bind truth).bind fun k=>if k then(ev cl σ1 (.var 1)).map some else some none) (tg:=[1,2]) (σ:=[some (.tup (L h)),none,none]) (h:=pr h) (g:=fun p=>.int (p:Nat)) (c:=fun p=>decide (at' h p=p)) (fun _=>rfl) (List.range n) (by
  intro p hp;show((ev cl [some (.tup (L h)),some (.int (p:Nat)),some (.int (at' h p:Nat))] (.cmp .eq (.var 1) (.var 2))).bind truth).bind (fun k=>if k then(ev cl [some (.tup (L h)),some (.int (p:Nat)),some (.int (at' h p:Nat))] (.var 1)).map some else some none)=_
  have q:bB .eq (.int (p:Nat)) (.int (at' h p:Nat))=some (decide (at' h p=p)):=by
   rw[gM];congr 1;rw[Bool.eq_iff_iff,beq_iff_eq,decide_eq_true_eq];lia
  rw[bg (aK (aa rfl) (aa rfl) q),Option.bind_some,aa rfl]
  split<;>rfl)
 rw[<-en]at mc;exact aS rfl rfl (aT (d:=.lst (L (fx n h))) (wF (qj (aa rfl) rfl) (by rw[en,List.length_map,List.length_range];unfold most;lia) mc) (by unfold bh;rw[show a8 (.lst (L (fx n h)))=true from aP _];rfl))
def vv(H:Hf n h):(List.range (h.map Int.ofNat).length).all (nb (h.map Int.ofNat))=true:=mE H.len H.lt H.inv
def tD{fu fp fc:Nat}(h1:1<=n)(hn:n<=10)(H:Hf n h)(hc:∀ i:Int,cl fc [.int i]=some (.bl (decide (1<=i/\i<=10))))(hp:cl fp [.tup (L h)]=some (.bl true))(hu:cl fu [.tup (L h)]=some (.bl true)):evF cl (kn fu fp fc) [.tup (L h)]=some (.bl true):=by
 have ln:biV .len (.tup (L h))=some (.int (n:Nat)):=by
  show some (D.int ((L h).length:Nat))=_;rw[aM,H.len]
 have c:=hc (n:Nat);rw[decide_eq_true (by lia)]at c;exact aS rfl rfl (aT (fw (bc (bp (aa rfl) ln) c) (fw (bc (aa rfl) hp) (bc (aa rfl) hu))) rfl)
def qU{ti go m:Nat}(hn:n<=10)(H:Hf n h)(hm:2*m<=(fx n h).length)(hg:cl go [.tup (L h)]=some (.lst (L (fx n h))))(ht:∀ (xs:List Nat) (i j:Nat),i<xs.length->j<xs.length->cl ti [.lst (L xs),.int (i:Nat),.int (j:Nat)]=some (.tup [.non,.lst (L ((xs.set i j).set j i))])) :
  ∃ M:List Nat,Hf n M/\fx n M=(fx n h).drop (2*m)/\(∀ q,q<n->at' h q≠q->at' M q=at' h q)/\evF cl (iZ ti go) [.tup (L h),.int ((2*m:Nat):Int)]=some (.tup (L M)):=by
 have fl:(fx n h).length<=n:=by
  unfold fx;refine Nat.le_trans (List.length_filter_le _ _) ?_;rw[List.length_range];exact Nat.le_refl _
 have rg:kO 2 (.int 0) (.int ((2*m:Nat):Int))=some (L (List.range' 0 m 2)):=by
  have hN:bH 2 0 ((2*m:Nat):Int)=m:=by
   unfold bH;rw[if_pos (by decide)];split<;>lia
  show(if _ then some (bN 2 0 (bH 2 0 ((2*m:Nat):Int)))else none)=_;rw[hN,if_pos ⟨by decide,by decide,by decide,by unfold most;lia,by decide,by decide,by lia,by lia⟩];exact congrArg some (sR 2 m 0)
 obtain⟨σ',e,M,o4,rfl,HM,fM,ag⟩:=cQ (f:=ah cl [2] (ij ti go)) (tg:=[4]) (xs:=List.range' 0 m 2) (σ:=[some (.tup (L h)),some (.int ((2*m:Nat):Int)),some (.lst (L h)),some (.lst (L (fx n h))),none])
  (fun u σ=>∃ (M:List Nat) (o4:Option D),σ=[some (.tup (L h)),some (.int ((2*m:Nat):Int)),some (.lst (L M)),some (.lst (L (fx n h))),o4]/\Hf n M/\fx n M=(fx n h).drop (2*u.length)/\∀ q,q<n->at' h q≠q->at' M q=at' h q)
  ⟨h,none,rfl,H,rfl,fun _ _ _=>rfl⟩ (by
   rintro u x v σ hu ⟨M,o4,rfl,HM,fM,ag⟩;have hlen:=congrArg List.length hu;rw[List.length_range',List.length_append,List.length_cons]at hlen
   have hx:x=2*u.length:=by
    have this:=congrArg (fun l=>l[u.length]?) hu;simp only[List.getElem?_append_right (Nat.le_refl _),Nat.sub_self,List.getElem?_cons_zero]at this;rw[List.getElem?_range' (by lia)]at this;have:=Option.some.inj this;lia
   subst hx
   have l1:2*u.length<(fx n h).length:=by lia
   have l2:2*u.length+1<(fx n h).length:=by lia
   have e1:at' (fx n h) (2*u.length)=(fx n h)[2*u.length]:=by simp[at',l1]
   have e2:at' (fx n h) (2*u.length+1)=(fx n h)[2*u.length+1]:=by simp[at',l2]
   have fM':fx n M=at' (fx n h) (2*u.length)::at' (fx n h) (2*u.length+1)::(fx n h).drop (2*u.length+2):=by
    rw[fM,List.drop_eq_getElem_cons l1,List.drop_eq_getElem_cons l2,e1,e2]
   obtain⟨s1,s2,s3⟩:=yU HM fM';have g1:=(bA (n:=n) (h:=h) l1).1;have g2:=(bA (n:=n) (h:=h) l2).1;have i1:ixV (.lst (L (fx n h))) (.int ((2*u.length:Nat):Int))=some (.int (at' (fx n h) (2*u.length):Nat)):=dC (f:=fx n h) l1;have i2:ixV (.lst (L (fx n h))) (.int ((2*u.length+1:Nat):Int))=some (.int (at' (fx n h) (2*u.length+1):Nat)):=dC (f:=fx n h) l2;refine⟨_,show ah cl [2] (ij ti go) [some (.tup (L h)),some (.int ((2*m:Nat):Int)),some (.lst (L M)),some (.lst (L (fx n h))),some (.int ((2*u.length:Nat):Int))]=some (.nx,_)from iG (a7 (aa rfl) (a7 (b9 (aa rfl) (aa rfl) i1) (a7 (b9 (aa rfl) (a6 (d:=.int ((2*u.length+1:Nat):Int)) (aa rfl) aw rfl) i2) bC))) rfl (ht M _ _ (by rw[HM.len];exact g1) (by rw[HM.len];exact g2)) rfl aF,_,some (.int ((2*u.length:Nat):Int)),rfl,s1,?_,fun q hq c=>?_⟩
   ·rw[s2,List.length_append,List.length_singleton];rfl
   ·rw[s3 q hq (by rw[ag q hq c];exact c),ag q hq c])
 rw[List.length_range']at fM;exact⟨M,HM,fM,ag,aS rfl rfl (ee (bp (aa rfl) rfl) (by rw[show a8 (.lst (L h))=true from aP _];rfl) (aA (bc (aa rfl) hg) (by unfold aN;rw[show a8 (.lst (L (fx n h)))=true from aP _];rfl) (bZ (Dp aw (aa rfl) rg) e (aT (bp (aa rfl) rfl) (by unfold bh;rw[show(D.tup (L M)).imm=true from aP _];rfl)))))⟩
def u9:∀ (xs ys:List Nat),xs.length=ys.length->fv (L xs) (L ys)=(List.range xs.length).map fun k=>.tup [.int (at' xs k:Nat),.int (at' ys k:Nat)]
 | [],[],_=>rfl
 | x::r,y::s,e=>by
  rw[show L (x::r)=.int x::L r from rfl,show L (y::s)=.int y::L s from rfl,fv,u9 r s (by simpa using e),List.length_cons,List.range_succ_eq_map,List.map_cons,List.map_map];congr 1;apply List.map_congr_left;intro p hp;have h1:=List.mem_range.mp hp
  have h2:p<s.length:=by
   have:r.length=s.length:=by simpa using e
   lia
  have e1:at' (x::r) (p+1)=at' r p:=by simp[at',h1]
  have e2:at' (y::s) (p+1)=at' s p:=by simp[at',h2]
  simp[e1,e2]
def vP{ti go c2:Nat}(hn:n<=10)(A:Hf n a)(B:Hf n b)(t:(fx n a).length=(fx n b).length)(hc:cl c2 [.tup (L a),.tup (L b)]=some .non)(ga:cl go [.tup (L a)]=some (.lst (L (fx n a))))(gb:cl go [.tup (L b)]=some (.lst (L (fx n b))))(ht:∀ (xs:List Nat) (i j:Nat),i<xs.length->j<xs.length->cl ti [.lst (L xs),.int (i:Nat),.int (j:Nat)]=some (.tup [.non,.lst (L ((xs.set i j).set j i))])) :
  ∃ J:List Nat,Jn n a b J/\evF cl (lV ti go c2) [.tup (L a),.tup (L b)]=some (.tup (L J)):=by
 have ln:biV .len (.tup (L a))=some (.int (n:Nat)):=by
  show some (D.int ((L a).length:Nat))=_;rw[aM,A.len]
 have fl:(fx n a).length<=n:=by
  unfold fx;refine Nat.le_trans (List.length_filter_le _ _) ?_;rw[List.length_range];exact Nat.le_refl _
 have la:biV .len (.lst (L (fx n a)))=some (.int ((fx n a).length:Nat)):=by
  show some (D.int ((L (fx n a)).length:Nat))=_;rw[aM]
 have lb:biV .len (.lst (L (fx n b)))=some (.int ((fx n a).length:Nat)):=by
  show some (D.int ((L (fx n b)).length:Nat))=_;rw[aM,t]
 have mc:=qH (F:=fun σ1=>(ev cl σ1 (.bin .add (.var 4) (.var 8))).map some) (tg:=[8]) (σ:=[some (.tup (L a)),some (.tup (L b)),some (.lst (L (fx n a))),some (.lst (L (fx n b))),some (.int (n:Nat)),none,none,none,none]) (g:=fun x=>.int ((n+x:Nat):Int)) (fun _=>rfl) b (by
  intro x _;show(ev cl [some (.tup (L a)),some (.tup (L b)),some (.lst (L (fx n a))),some (.lst (L (fx n b))),some (.int (n:Nat)),none,none,none,some (.int (x:Nat))] (.bin .add (.var 4) (.var 8))).map some=_;rw[a6 (aa rfl) (aa rfl) cw]
  rfl)
 have em:(b.map fun x=>D.int ((n+x:Nat):Int))=L (b.map fun x=>n+x):=by unfold L;rw[List.map_map];rfl
 rw[em]at mc
 have ad:aG .add (.lst (L a)) (.lst (L (b.map fun x=>n+x)))=some (.lst (L (a++b.map fun x=>n+x))):=by
  show(if(L a).length+(L (b.map fun x=>n+x)).length<=most then some (D.lst (L a++L (b.map fun x=>n+x)))else none)=_;rw[aM,aM,List.length_map,A.len,B.len,if_pos (by unfold most;lia),de]
 have f1:∀ p,p<n->at' (a++b.map fun x=>n+x) p=at' a p:=fun p hp=>by
  have:=A.len;simp[at',List.getElem?_append_left (show p<a.length by lia)]
 have f2:∀ p,p<n->at' (a++b.map fun x=>n+x) (n+p)=n+at' b p:=fun p hp=>by
  have h1:=A.len;have h2:=B.len;unfold at';rw[List.getElem?_append_right (by lia),show n+p-a.length=p by lia,List.getElem?_map];simp[show p<b.length by lia]
 obtain⟨σ',e,J,o6,o7,rfl,jl,jt,jo⟩:=rq (f:=ah cl [5] (jZ ti go c2)) (tg:=[6,7]) (fun k=>.tup [.int (at' (fx n a) k:Nat),.int (at' (fx n b) k:Nat)]) (fun _=>rfl)
  (fun u σ=>∃ (J:List Nat) (o6 o7:Option D),σ=[some (.tup (L a)),some (.tup (L b)),some (.lst (L (fx n a))),some (.lst (L (fx n b))),some (.int (n:Nat)),some (.lst (L J)),o6,o7,none]/\J.length=2*n/\(∀ k,k<u.length->at' J (at' (fx n a) k)=n+at' (fx n b) k/\at' J (n+at' (fx n b) k)=at' (fx n a) k)/\∀ x,(∀ k,k<u.length->x≠at' (fx n a) k/\x≠n+at' (fx n b) k)->at' J x=at' (a++b.map fun x=>n+x) x)
  (List.range (fx n a).length) [] [some (.tup (L a)),some (.tup (L b)),some (.lst (L (fx n a))),some (.lst (L (fx n b))),some (.int (n:Nat)),some (.lst (L (a++b.map fun x=>n+x))),none,none,none] (by
   rintro u p v σ hu ⟨J,o6,o7,rfl,jl,jt,jo⟩;obtain⟨hk,hp⟩:=d8 (g:=id) (by simpa using hu);simp only[id]at hp;subst hp;have g1:=(bA (n:=n) (h:=a) hk).1;have g2:=(bA (n:=n) (h:=b) (k:=u.length) (by lia)).1
   have at1:∀ x,at' ((J.set (at' (fx n a) u.length) (n+at' (fx n b) u.length)).set (n+at' (fx n b) u.length) (at' (fx n a) u.length)) x=if x=n+at' (fx n b) u.length then at' (fx n a) u.length else if x=at' (fx n a) u.length then n+at' (fx n b) u.length else at' J x:=fun x=>by
    rw[jV (by rw[List.length_set,jl];lia),jV (by rw[jl];lia)]
   refine⟨_,show ah cl [5] (jZ ti go c2) [some (.tup (L a)),some (.tup (L b)),some (.lst (L (fx n a))),some (.lst (L (fx n b))),some (.int (n:Nat)),some (.lst (L J)),some (.int (at' (fx n a) u.length:Nat)),some (.int (at' (fx n b) u.length:Nat)),none]=some (.nx,_)from iG (a7 (aa rfl) (a7 (aa rfl) (a7 (a6 (d:=.int ((n+at' (fx n b) u.length:Nat):Int)) (aa rfl) (aa rfl) rfl) bC))) rfl (ht J _ _ (by rw[jl];lia) (by rw[jl];lia)) rfl aF,_,some (.int (at' (fx n a) u.length:Nat)),some (.int (at' (fx n b) u.length:Nat)),rfl,by rw[List.length_set,List.length_set,jl],fun k hk'=>?_,fun x hx=>?_⟩
   ·rw[List.length_append,List.length_singleton]at hk';by_cases c:k=u.length
    ·subst c;rw[at1,at1,if_neg (by lia),if_pos rfl,if_pos rfl];exact⟨rfl,rfl⟩
    ·have hk2:k<u.length:=by lia
     have q1:=kQ (n:=n) (h:=a) hk2 hk;have q2:=kQ (n:=n) (h:=b) hk2 (by lia);have q3:=(bA (n:=n) (h:=b) (k:=k) (by lia)).1;rw[at1,at1,if_neg (by lia),if_neg (by lia),if_neg (by lia),if_neg (by lia)];exact jt k hk2
   ·have z:=hx u.length (by rw[List.length_append,List.length_singleton];lia);rw[at1,if_neg z.2,if_neg z.1]
    exact jo x fun k hk'=>hx k (by rw[List.length_append];lia))
  ⟨_,none,none,rfl,by rw[List.length_append,List.length_map,A.len,B.len];lia,fun k hk=>absurd hk (Nat.not_lt_zero _),fun _ _=>rfl⟩
 rw[<-u9 _ _ t]at e;rw[List.nil_append,List.length_range]at jt jo
 refine⟨J,⟨jl,jt,fun p hp c=>?_,fun p hp c=>?_⟩,aS rfl rfl (cS (cq (aa rfl) (aa rfl) hc) (aA (bc (aa rfl) ga) (by unfold aN;rw[show a8 (.lst (L (fx n a)))=true from aP _];rfl) (aA (bc (aa rfl) gb) (by unfold aN;rw[show a8 (.lst (L (fx n b)))=true from aP _];rfl)
  (cm (bg (aK (bp (aa rfl) la) (bp (aa rfl) lb) (by rw[nJ,beq_self_eq_true];rfl)))
  (aA (bp (aa rfl) ln) rfl
  (ee (a6 (bp (aa rfl) rfl) (eX (cM (aa rfl) rfl) (by rw[aM,B.len];unfold most;lia) mc) ad) (by rw[show a8 (.lst (L (a++b.map fun x=>n+x)))=true from aP _];rfl)
  (bZ (HQ (aa rfl) (aa rfl) rfl rfl (by rw[aM,aM,t])) e (aT (bp (aa rfl) rfl) (by unfold bh;rw[show(D.tup (L J)).imm=true from aP _];rfl)))))))))⟩
 ·rw[jo p fun k hk=>⟨fun z=>c (by rw[z];exact(bA (n:=n) (h:=a) hk).2),by lia⟩,f1 p hp]
 ·rw[jo (n+p) fun k hk=>⟨by have:=(bA (n:=n) (h:=a) hk).1;lia,fun z=>c (by have:=(bA (n:=n) (h:=b) (k:=k) (by lia)).2;rw[show p=at' (fx n b) k by lia];exact this)⟩,f2 p hp]
end
end RM
set_option maxHeartbeats 1000000
namespace RM
open RL RT
end RM
set_option maxHeartbeats 1000000
namespace RT
open RL
end RT
namespace RM
open RL RT
section
variable{cl:Cl}
end
end RM
set_option maxHeartbeats 1000000
namespace RM
open RL RT
section
variable{T:List Fn}{hf nf td wy ch:Nat}
end
end RM
set_option maxHeartbeats 1000000
namespace RM
open RL RT
section
variable{T:List Fn}{hf nf td wy ch:Nat}
end
end RM
set_option maxHeartbeats 1000000
namespace RM
open RL RT
section
variable{cl:Cl}{n:Nat}{f h:List Nat}
end
section
variable{T:List Fn}{nu pc pa nb un if' cf po rp ir mv hf nf td wy ch cn ih chf go to hmh ho hnm cp n:Nat}{h:List Nat}
end
end RM
set_option maxHeartbeats 1000000
namespace RM
open RL RT
end RM
set_option maxHeartbeats 1000000
namespace RM
open RL RT
abbrev kyL(J:List Nat):List Ky:=J.map fun(x:Nat)=>.inl (x:Int)
def mK:∀ J:List Nat,keysOf (L J)=some (kyL J)
 | []=>rfl
 | x::r=>by
  rw[show L (x::r)=.int (x:Nat)::L r from rfl,keysOf,mK r];rfl
def ud:∀ {J K:List Nat},kyL J=kyL K->J=K
 | [],[],_=>rfl
 | [],_::_,h=>by cases h
 | _::_,[],h=>by cases h
 | x::r,y::s,h=>by
  rw[show kyL (x::r)=.inl (x:Int)::kyL r from rfl,show kyL (y::s)=.inl (y:Int)::kyL s from rfl]at h;obtain⟨h1,h2⟩:=List.cons.inj h;have h3:=Sum.inl.inj h1;rw[ud h2,show x=y by lia]
def sO{κ:Type} [DecidableEq κ]{ks:List κ}{vs:List D}{x:κ}{d:D}(h:ks.length=vs.length):(putD ks vs x d).1.length=(putD ks vs x d).2.length/\(putD ks vs x d).1.length<=ks.length+1:=by
 unfold putD;split
 ·simp[h]
 ·simp[h]
def sG{ks:List (List Ky)}{vs:List D}{J:List Nat}{d:D}(h:ks.length<most):dJ (.dT ks vs) (.tup (L J)) d=some (.dT (putD ks vs (kyL J) d).1 (putD ks vs (kyL J) d).2):=by
 show(keysOf (L J)).bind _=_;rw[mK,Option.bind_some,if_pos h]
end RM
set_option maxHeartbeats 1000000
namespace K38
open RL RT
abbrev mf(f_in_round f_tie f_is_brackets:Nat):Ss :=
 (.cons (.ife (.cmp .eq (.var 4) (.cst (.str "("))) (.cons (.app 2 (.var 3)) .nil) (.cons (.tie3 f_tie 1 3 2) .nil)) .nil)
abbrev mI(f_in_round f_tie f_is_brackets:Nat):Fn :=
 ⟨1,5,[1,2],[],(.cons (.ife (.not (.call f_is_brackets (.cons (.var 0) .nil))) (.cons (.rais "BadFrame" .nil) .nil) .nil) (.cons (.own 1 (.bin .mul (.lst (.cons (.cst (.int 0)) .nil)) (.bi .len (.var 0)))) (.cons (.own 2 (.lst .nil)) (.cons (.forr [3,4] (.enm (.var 0)) (mf f_in_round f_tie f_is_brackets)) (.cons (.ret (.call f_in_round (.cons (.var 1) .nil))) .nil)))))⟩
abbrev pd(f_is_peg_count:Nat):Ss :=
 (.cons (.ife (.inn true (.var 2) (.tup (.cons (.cst (.str "(")) (.cons (.cst (.str ")")) .nil)))) (.cons (.ret (.cst (.bl false))) .nil) .nil) (.cons (.aug 1 .add (.ifx (.cmp .eq (.var 2) (.cst (.str "("))) (.cst (.int 1)) (.neg (.cst (.int 1))))) (.cons (.ife (.cmp .lt (.var 1) (.cst (.int 0))) (.cons (.ret (.cst (.bl false))) .nil) .nil) .nil)))
abbrev pZ(f_is_peg_count:Nat):Fn :=
 ⟨1,3,[],[],(.cons (.ife (.not (.call f_is_peg_count (.cons (.bin .fdiv (.bi .len (.var 0)) (.cst (.int 2))) .nil))) (.cons (.ret (.cst (.bl false))) .nil) .nil) (.cons (.asg 1 (.cst (.int 0))) (.cons (.forr [2] (.chr (.var 0)) (pd f_is_peg_count)) (.cons (.ret (.cmp .eq (.var 1) (.cst (.int 0)))) .nil))))⟩
abbrev vZ(f_ways f_check_pegs:Nat):Fn :=
 ⟨1,1,[],[],(.cons (.exc (.call f_check_pegs (.cons (.var 0) .nil))) (.cons (.ret (.call f_ways (.cons (.bin .mul (.cst (.int 2)) (.var 0)) (.cons (.cst (.int 0)) .nil)))) .nil))⟩
abbrev t6(f_from_brackets f_ways f_check_number f_how_many:Nat):Ss :=
 (.cons (.asg 6 (.call f_ways (.cons (.var 5) (.cons (.bin .add (.var 3) (.cst (.int 1))) .nil)))) (.cons (.ife (.cmp .lt (.var 1) (.bin .add (.var 4) (.var 6))) (.cons (.augs 2 (.cst (.str "("))) (.cons (.aug 3 .add (.cst (.int 1))) .nil)) (.cons (.augs 2 (.cst (.str ")"))) (.cons (.aug 3 .sub (.cst (.int 1))) (.cons (.aug 4 .add (.var 6)) .nil)))) .nil))
abbrev v9(f_from_brackets f_ways f_check_number f_how_many:Nat):Fn :=
 ⟨2,7,[],[],(.cons (.exc (.call f_check_number (.cons (.var 1) (.cons (.call f_how_many (.cons (.var 0) .nil)) .nil)))) (.cons (.asg 2 (.cst (.str ""))) (.cons (.asg 3 (.cst (.int 0))) (.cons (.asg 4 (.cst (.int 0))) (.cons (.forr [5] (.rng3 (-1) (.bin .sub (.bin .mul (.cst (.int 2)) (.var 0)) (.cst (.int 1))) (.neg (.cst (.int 1)))) (t6 f_from_brackets f_ways f_check_number f_how_many)) (.cons (.ret (.call f_from_brackets (.cons (.var 2) .nil))) .nil))))))⟩
abbrev BH(f_numbered f_how_many f_check_pegs:Nat):Fn :=
 ⟨1,2,[],[],(.cons (.exc (.call f_check_pegs (.cons (.var 0) .nil))) (.cons (.ife (.cmp .gt (.var 0) (.glb "MOST_PEGS_OF_EVERY" 6)) (.cons (.rais "BadPegs" (.cons (.glb "MOST_PEGS_OF_EVERY" 6) .nil)) .nil) .nil) (.cons (.ret (.compA (.call f_numbered (.cons (.var 0) (.cons (.var 1) .nil))) [1] (.rng1 (.call f_how_many (.cons (.var 0) .nil))))) .nil)))⟩
abbrev DK(f_choices:Nat):Fn :=
 ⟨2,3,[],[],(.cons (.ife (.or (.cmp .lt (.var 1) (.cst (.int 0))) (.or (.cmp .gt (.var 1) (.var 0)) (.cmp .eq (.bin .mod (.bin .sub (.var 0) (.var 1)) (.cst (.int 2))) (.cst (.int 1))))) (.cons (.ret (.cst (.int 0))) .nil) .nil) (.cons (.asg 2 (.bin .fdiv (.bin .sub (.var 0) (.var 1)) (.cst (.int 2)))) (.cons (.ret (.bin .sub (.call f_choices (.cons (.var 0) (.cons (.var 2) .nil))) (.call f_choices (.cons (.var 0) (.cons (.bin .sub (.var 2) (.cst (.int 1))) .nil))))) .nil)))⟩
abbrev vB:Ss :=
 (.cons (.asg 2 (.bin .fdiv (.bin .mul (.var 2) (.bin .sub (.var 0) (.var 3))) (.bin .add (.var 3) (.cst (.int 1))))) .nil)
abbrev xC:Fn :=
 ⟨2,4,[],[],(.cons (.ife (.cmp .lt (.var 1) (.cst (.int 0))) (.cons (.ret (.cst (.int 0))) .nil) .nil) (.cons (.asg 2 (.cst (.int 1))) (.cons (.forr [3] (.rng1 (.var 1)) (vB)) (.cons (.ret (.var 2)) .nil))))⟩
abbrev oN(f_is_number:Nat):Fn :=
 ⟨2,2,[],[],(.cons (.ife (.or (.not (.call f_is_number (.cons (.var 0) .nil))) (.not (.chain .le .lt (.cst (.int 0)) (.var 0) (.var 1)))) (.cons (.rais "NoNumber" (.cons (.var 1) .nil)) .nil) .nil) .nil)⟩
abbrev mX(f_between f_below f_above f_law_hung f_every f_law_digits:Nat):Ss :=
 (.cons (.own 11 (.lst (.cons (.cmp .eq (.ix (.call f_below (.cons (.var 3) (.cons (.var 8) .nil))) (.cst (.int 0))) (.cst (.str "frame"))) (.cons (.cmp .eq (.ix (.call f_above (.cons (.var 3) (.cons (.var 8) .nil))) (.cst (.int 0))) (.cst (.str "frame"))) .nil)))) (.cons (.app 11 (.cmp .eq (.ix (.call f_between (.cons (.var 3) (.cons (.var 8) .nil))) (.cst (.int 0))) (.cst (.str "frames")))) (.cons (.ife (.cmp .ne (.var 11) (.lst (.cons (.inD false (.var 8) (.var 4)) (.cons (.inD false (.var 8) (.var 5)) (.cons (.inD false (.var 8) (.var 7)) .nil))))) (.cons (.ret (.cst (.bl false))) .nil) .nil) .nil)))
abbrev rH(f_between f_below f_above f_law_hung f_every f_law_digits:Nat):Ss :=
 (.cons (.put 7 (.ix (.call f_law_hung (.cons (.var 6) (.cons (.var 10) .nil))) (.cst (.int 0))) (.cst (.bl true))) .nil)
abbrev nG(f_between f_below f_above f_law_hung f_every f_law_digits:Nat):Ss :=
 (.cons (.forr [10] (.seq (.var 2)) (rH f_between f_below f_above f_law_hung f_every f_law_digits)) .nil)
abbrev jX(f_between f_below f_above f_law_hung f_every f_law_digits:Nat):Ss :=
 (.cons (.put 4 (.ix (.call f_law_hung (.cons (.var 3) (.cons (.var 6) .nil))) (.cst (.int 0))) (.cst (.bl true))) (.cons (.put 5 (.ix (.call f_law_hung (.cons (.var 6) (.cons (.var 3) .nil))) (.cst (.int 0))) (.cst (.bl true))) .nil))
abbrev AO(f_between f_below f_above f_law_hung f_every f_law_digits:Nat):Fn :=
 ⟨1,12,[4,7,11],[],(.cons (.asg 0 (.slT (.var 0) (.cst (.int 63)))) (.cons (.unp [1,9] (.call f_law_digits (.cons (.var 0) (.cons (.cst (.int 0)) (.cons (.lst (.cons (.cst (.int 4)) (.cons (.bin .pow (.cst (.int 10)) (.cst (.int 9))) .nil))) .nil))))) (.cons (.asg 1 (.bin .add (.cst (.int 1)) (.var 1))) (.cons (.asg 2 (.call f_every (.cons (.var 1) .nil))) (.cons (.asg 3 (.ix (.var 2) (.bin .mod (.var 9) (.bi .len (.var 2))))) (.cons (.own 4 .dt0) (.opn 5 .dt0 (.cons (.forr [6] (.seq (.var 2)) (jX f_between f_below f_above f_law_hung f_every f_law_digits)) (.cons (.own 7 .dt0) (.frz 5 (.cons (.forr [6] (.key (.var 5)) (nG f_between f_below f_above f_law_hung f_every f_law_digits)) (.cons (.forr [8] (.seq (.var 2)) (mX f_between f_below f_above f_law_hung f_every f_law_digits)) (.cons (.ret (.cst (.bl true))) .nil)))))))))))))⟩
abbrev T:List Fn:=[i4,d3 0,bJ 1,eD 4,eO 0,d4,qg,qq,jk 9 7,rY,gc 5 21 3 1 13,dD 10,fP 11,jM,dX 2,gQ 22 14 13 11,hJ 13 11,iI 11,mI 21 6 19,pZ 1,cP,eN 22 20 13,i8,kn 5 3 1,jP 23,fK 24,kS 13 11,tY 26 15,lV 6 29 25,oJ,yd 31 12,iq 8 7 32 13,dH,vZ 36 2,v9 18 36 38 33,BH 34 33 2,DK 37,xC,oN 0,oQ 30 15 17 13 12,tO 13 15 39,j5 28 26 39 27 42 16 12,iZ 6 29,j1,jY 43,eQ 44,eT,fZ 46,AO 41 39 40 47 35 45]
abbrev FS:Nat->List (List Nat)
 | 1=>[[1,0]]
 | 2=>[[2,3,0,1],[1,0,3,2]]
 | 3=>[[3,4,5,0,1,2],[3,2,1,0,5,4],[5,2,1,4,3,0],[1,0,3,2,5,4],[1,0,5,4,3,2]]
 | 4=>[[4,5,6,7,0,1,2,3],[4,5,3,2,0,1,7,6],[4,7,3,2,0,6,5,1],[6,7,3,2,5,4,0,1],[4,2,1,5,0,3,7,6],[4,2,1,7,0,6,5,3],[6,2,1,7,5,4,0,3],[3,2,1,0,7,6,5,4],[3,2,1,0,5,4,7,6],[1,0,4,5,2,3,7,6],[1,0,4,7,2,6,5,3],[1,0,6,7,5,4,2,3],[1,0,3,2,7,6,5,4],[1,0,3,2,5,4,7,6]]
 | _=>[]
abbrev TB:Nat->List (List Nat)
 | 1=>[[0]]
 | 2=>[[0,1],[1,1]]
 | 3=>[[0,1,2,3,4],[1,1,2,1,2],[2,1,2,1,2],[3,3,4,3,4],[4,3,4,3,4]]
 | 4=>[[0,1,2,3,4,5,6,7,8,9,10,11,12,13],[1,1,2,3,1,2,3,12,13,13,12,13,12,13],[2,1,2,3,1,2,3,12,13,1,2,3,12,13],[3,13,12,13,1,2,3,12,13,1,2,3,12,13],[4,4,5,6,4,5,6,7,8,8,7,8,7,8],[5,4,5,6,4,5,6,7,8,4,5,6,7,8],[6,8,7,8,4,5,6,7,8,4,5,6,7,8],[7,8,7,8,8,7,8,7,8,8,7,8,7,8],[8,8,7,8,8,7,8,7,8,8,7,8,7,8],[9,9,10,11,9,10,11,12,13,13,12,13,12,13],[10,9,10,11,9,10,11,12,13,9,10,11,12,13],[11,13,12,13,9,10,11,12,13,9,10,11,12,13],[12,13,12,13,13,12,13,12,13,13,12,13,12,13],[13,13,12,13,13,12,13,12,13,13,12,13,12,13]]
 | _=>[]
open RM
abbrev fr(n i:Nat):List Nat:=(FS n)[i]?.getD []
abbrev tb(n i j:Nat):Nat:=((TB n)[i]?.getD [])[j]?.getD 0
abbrev al(n:Nat)(p:Nat->Bool):Bool:=(List.range (FS n).length).all p
abbrev an(n:Nat)(p:Nat->Bool):Bool:=(List.range (FS n).length).any p
abbrev zU(n:Nat)(f:List Nat):Bool:=decide (f.length=2*n)&&((List.range (2*n)).all fun x=>decide (at' f x<2*n/\at' f (at' f x)=x/\at' f x≠x))&&(List.range (2*n)).all fun q=>(List.range (2*n)).all fun r=>decide (¬ (q<r/\r<rnd n f q/\rnd n f q<rnd n f r))
def Fu(h:zU n f=true):Val n f:=by
 unfold zU at h;simp only[Bool.and_eq_true,List.all_eq_true,List.mem_range,decide_eq_true_eq]at h;obtain⟨⟨h1,h2⟩,h3⟩:=h
 exact⟨⟨h1,fun x hx=>(h2 x hx).1,fun x=>by
  by_cases hx:x<2*n
  ·exact(h2 x hx).2.1
  ·rw[cF (f:=f) (x:=x) (by omega),cF (by omega)],fun x hx=>(h2 x hx).2.2⟩,fun q r hq hr=>h3 q hq r hr⟩
abbrev okV(n:Nat):Bool:=(FS n).all (zU n)
abbrev okT(n:Nat):Bool:=al n fun i=>al n fun j=>decide (ao n (fr n i) (fr n j)=fr n (tb n i j))&&decide (tb n i j<(FS n).length)
abbrev okI(n:Nat):Bool:=al n fun i=>al n fun j=>decide (i=j) || !decide (fr n i=fr n j)
abbrev okB(n:Nat):Bool:=al n fun i=>al n fun k=>(mis n (fr n i) (fr n k)).isEmpty == an n fun j=>decide (tb n i j=k)
abbrev okA(n:Nat):Bool:=al n fun i=>al n fun k=>(mis n (aJ n (ovr n) (ovr n) (fr n i)) (aJ n (ovr n) (ovr n) (fr n k))).isEmpty == an n fun j=>decide (tb n j i=k)
abbrev okW(n:Nat):Bool:=al n fun i=>al n fun k=>decide (thr n (fr n k)<=thr n (fr n i)) == an n fun h=>an n fun j=>decide (tb n (tb n h i) j=k)
abbrev AS(n:Nat):Bool:=okV n&&okI n&&okB n&&okA n&&okW n
def G6:∀ n,1<=n->n<=4->AS n=true:=by
 intro n h1 h2
 match n,h1,h2 with
 | 1,_,_=>decide +kernel
 | 2,_,_=>decide +kernel
 | 3,_,_=>decide +kernel
 | 4,_,_=>decide +kernel
def FX:∀ n,1<=n->n<=4->okT n=true:=by
 intro n h1 h2
 match n,h1,h2 with
 | 1,_,_=>decide +kernel
 | 2,_,_=>decide +kernel
 | 3,_,_=>decide +kernel
 | 4,_,_=>decide +kernel
abbrev eqL:List D->List Nat->Bool
 | [],[]=>true
 | .int i::r,k::s=>decide (i=(k:Int))&&eqL r s
 | _,_=>false
abbrev vQ:List D->List (List Nat)->Bool
 | [],[]=>true
 | .tup xs::r,f::s=>eqL xs f&&vQ r s
 | _,_=>false
def xg:∀ {xs:List D} {f:List Nat},eqL xs f=true->xs=L f
 | [],[],_=>rfl
 | [],_::_,h=>by cases h
 | d::r,[],h=>by cases d<;>cases h
 | d::r,k::s,h=>by
  cases d with
  |int i=>
   rw[eqL,Bool.and_eq_true,decide_eq_true_eq]at h;rw[h.1,xg h.2];rfl
  | _=>cases h
def tM:∀ {ds:List D} {fs:List (List Nat)},vQ ds fs=true->ds=fs.map fun f=>.tup (L f)
 | [],[],_=>rfl
 | [],_::_,h=>by cases h
 | d::r,[],h=>by cases d<;>cases h
 | d::r,k::s,h=>by
  cases d with
  |tup xs=>
   rw[vQ,Bool.and_eq_true]at h;rw[xg h.1,tM h.2];rfl
  | _=>cases h
abbrev oK(cl:Cl)(n:Nat):Bool:=match cl 35 [.int (n:Nat)]with
 | some (.lst ds)=>vQ ds (FS n)
 | _=>false
def fs1(m:Nat):oK (aq T (m+8)) 1=true:=by kernel_rfl
def fs2(m:Nat):oK (aq T (m+8)) 2=true:=by kernel_rfl
def fs3(m:Nat):oK (aq T (m+8)) 3=true:=by kernel_rfl
def fs4(m:Nat):oK (aq T (m+8)) 4=true:=by kernel_rfl
def Hm(m:Nat)(h1:1<=n)(h2:n<=4):aq T (m+8) 35 [.int (n:Nat)]=some (.lst ((FS n).map fun f=>.tup (L f))):=by
 have h:oK (aq T (m+8)) n=true:=by
  match n,h1,h2 with
  | 1,_,_=>exact fs1 m
  | 2,_,_=>exact fs2 m
  | 3,_,_=>exact fs3 m
  | 4,_,_=>exact fs4 m
 unfold oK at h
 cases e:aq T (m+8) 35 [.int (n:Nat)]with
 | none=>rw[e]at h;cases h
 |some d=>
  rw[e]at h
  cases d with
  | lst ds=>rw[tM h]
  | _=>cases h
end K38
set_option maxHeartbeats 1000000
namespace K38
open RL RT RM
def ck:Ck T 0 1 3 4 5 10 11 13 20 21 22:=⟨rfl,rfl,rfl,rfl,rfl,rfl,rfl,rfl,rfl,rfl,rfl⟩
def hg:Hg T 11 13 7 9 8 32 31 12 30:=⟨rfl,rfl,rfl,rfl,rfl,rfl,rfl⟩
def dg:Dg T 43 44 45:=⟨rfl,rfl,rfl⟩
def lh(m:Nat)(h1:1<=k)(hk:k<=10)(F:Frm k f)(G:Frm k g):∃ r:Int,aq T (m+2) 47 [.tup (L f),.tup (L g)]=some (.tup [.tup (L (ao k f g)),.int r]):=by
 obtain⟨inner,i1,i2,i3⟩:=Aq (cl:=aq T (m+1)) (fr:=46) h1 hk F.len G.len F.lt G.lt
 obtain⟨S,R,e⟩:=wj (cl:=aq T m) h1 hk F G i2 (fun m=>by
  rw[i1 m]
  exact⟨fun⟨a,b⟩=>⟨a,fun z=>b ((qN F G a).mpr z)⟩,fun⟨a,b⟩=>⟨a,fun z=>b ((qN F G a).mp z)⟩⟩)
 exact⟨_,(az (fn:=fZ 46) rfl).trans (i3 _ ((az (fn:=eT) rfl).trans e))⟩
def DW(m:Nat)(xs:List Nat)(i j:Nat)(hi:i<xs.length)(hj:j<xs.length):aq T (m+1) 6 [.lst (L xs),.int (i:Nat),.int (j:Nat)]=some (.tup [.non,.lst (L ((xs.set i j).set j i))]):=(az (fn:=qg) rfl).trans (B3 xs hi hj)
section
variable{n:Nat}{f g h a b:List Nat}
def sf(m:Nat)(hn:n<=10)(H:Hf n h):aq T (m+1) 29 [.tup (L h)]=some (.lst (L (fx n h))):=(az (fn:=oJ) rfl).trans (yz hn H.len)
def isH(m:Nat)(h1:1<=n)(hn:n<=10)(H:Hf n h):aq T (m+4) 23 [.tup (L h)]=some (.bl true):=by
 have p:=(az (T:=T) (n:=m+2) (f:=3) (fn:=eD 4) rfl).trans (l8 (xs:=h.map Int.ofNat) (by rw[List.length_map,H.len];omega) fun q hq=>(az (fn:=eO 0) rfl).trans (xp (ck.num m) hq));rw[vv H,<-Dz]at p;obtain⟨b,e,_,hb⟩:=uL (cl:=aq T (m+2)) (m:=n) (by omega) H.len H.inv H.lt;rw[hb H.nx]at e;exact(az (fn:=kn 5 3 1) rfl).trans (tD h1 hn H (ck.Az (m+1)) p ((az (fn:=d4) rfl).trans e))
def ckH(m:Nat)(h1:1<=n)(hn:n<=10)(H:Hf n h):aq T (m+5) 24 [.tup (L h)]=some .non :=
 (az (fn:=jP 23) rfl).trans (nv rfl rfl (cm (bg (sF (bc (aa rfl) (isH m h1 hn H)))) aF))
def Ed(H:Hf n h):biV .len (.tup (L h))=some (.int (n:Nat)):=by
 show some (D.int ((L h).length:Nat))=_;rw[aM,H.len]
def uw(m:Nat)(h1:1<=n)(hn:n<=10)(A:Hf n a)(B:Hf n b)(t:(fx n a).length=(fx n b).length):∃ J,Jn n a b J/\aq T (m+7) 28 [.tup (L a),.tup (L b)]=some (.tup (L J)):=by
 have c2:aq T (m+6) 25 [.tup (L a),.tup (L b)]=some .non:=(az (fn:=fK 24) rfl).trans (nv rfl rfl (cS (bc (aa rfl) (ckH m h1 hn A)) (cS (bc (aa rfl) (ckH m h1 hn B)) (cm (bg (aK (bp (aa rfl) (Ed A)) (bp (aa rfl) (Ed B)) (by rw[nJ,beq_self_eq_true];rfl))) aF))));obtain⟨J,j,e⟩:=vP (cl:=aq T (m+6)) (ti:=6) (go:=29) (c2:=25) hn A B t c2 (sf (m+5) hn A) (sf (m+5) hn B) (DW (m+5));exact⟨J,j,(az (fn:=lV 6 29 25) rfl).trans e⟩
def Ab(V:Val n f):(fx n (upL n f)).length=thr n f:=by
 rcases FJ (n:=n) (f:=f)with h | h
 ·exact h
 ·exact absurd V.frm h
def btw(h1:1<=n)(hn:n<=10)(V:Val n f)(W:Val n g):(thr n f<thr n g/\aq T 29 41 [.tup (L f),.tup (L g)]=some (.tup [.str "bar",.int (thr n g:Nat),.int (thr n f:Nat)]))\/(thr n g<=thr n f/\∃ A U:List Nat,Val n A/\Val n U/\ao n (ao n A f) U=g/\aq T 29 41 [.tup (L f),.tup (L g)]=some (.tup [.str "frames",.tup (L A),.tup (L U)])):=by
 have c2:=hg.ck2 ck 22 h1 hn V W;have tf:=ck.through (th:=16) rfl 22 h1 hn V;have tg:=ck.through (th:=16) rfl 22 h1 hn W;by_cases c:thr n f<thr n g
 ·exact .inl ⟨c,(az (fn:=j5 28 26 39 27 42 16 12) rfl).trans (aS rfl rfl (cS (cq (aa rfl) (aa rfl) c2) (aA (bc (aa rfl) tg) rfl (aA (bc (aa rfl) tf) rfl (gz (bg (aK (aa rfl) (aa rfl) (by rw[oy,decide_eq_true (by omega)]))) (aT (fD (a7 aw (a7 (aa rfl) (a7 (aa rfl) bC)))) rfl))))))⟩
 ·refine .inr ⟨by omega,?_⟩;have V':=(bz n).val V;have W':=(bz n).val W;have pf:=uQ V.frm;have pg:=uQ W.frm
  obtain⟨m,hm⟩:∃ m,thr n f-thr n g=2*m:=⟨(thr n f-thr n g) / 2,by omega⟩
  have U1:=nX V;have U2:=nX W;have U3:=nX W';have l1:=Ab V;have l2:=Ab W;have l3:=Ab W';rw[zA W.frm]at l3;obtain⟨M,HM,fM,ag,eM⟩:=qU (cl:=aq T 27) (ti:=6) (go:=29) (m:=m) hn U1 (by omega) (sf 26 hn U1) (DW 26);have eM:aq T 28 42 [.tup (L (upL n f)),.int ((2*m:Nat):Int)]=some (.tup (L M)):=(az (fn:=iZ 6 29) rfl).trans eM
  have lM:(fx n M).length=thr n g:=by rw[fM,List.length_drop];omega
  obtain⟨B,jB,eB⟩:=uw 21 h1 hn HM U3 (by omega);obtain⟨A,jA,eA⟩:=uw 21 h1 hn U2 HM (by omega);have VA:=jA.val U2 HM (by omega);have VB:=jB.val HM U3 (by omega)
  have Hs:Has n f B:=fun p hp c'=>by
   have u1:at' (upL n f) p=at' f p:=by rw[cR hp];unfold up;rw[if_pos c']
   have no:=V.frm.no p (by omega)
   have e1:at' M p=at' f p:=by rw[ag p hp (by rw[u1];exact no),u1]
   rw[jB.hi p hp (by rw[e1];exact no),e1]
  have mn:=(Dh V.frm VB.frm (BE V.frm VB.frm)).mpr Hs;have be:=hg.below ck (cp:=2) (pl:=14) (ov:=15) (ti:=17) (be:=39) rfl rfl rfl rfl rfl 20 h1 hn V VB;rw[mn]at be;refine⟨A,ao n (aJ n (ovr n) (ovr n) f) B,VA,dY hn V' VB,?_,?_⟩
  ·have:=AE h1 hn V.frm (by rw[rh V.frm];exact V'.frm) VB.frm Hs;rw[rh V.frm]at this;rw[l7 (by omega) VA.frm V.frm (dY hn V' VB).frm,this];exact A9 hn VA VB W (jA.up U2 (by omega)) (jA.dn U2 HM (by omega)) (jB.up HM (by omega)) (jB.dn HM U3 (by omega))
  ·have sb:aG .sub (.int (thr n f:Nat)) (.int (thr n g:Nat))=some (.int ((2*m:Nat):Int)):=by
    rw[mr];congr 2;omega
   have im:∀ x:List Nat,(D.tup (L x)).imm=true:=fun x=>aP x
   exact(az (fn:=j5 28 26 39 27 42 16 12) rfl).trans (aS rfl rfl (cS (cq (aa rfl) (aa rfl) c2) (aA (bc (aa rfl) tg) rfl (aA (bc (aa rfl) tf) rfl (cm (bg (aK (aa rfl) (aa rfl) (by rw[oy,decide_eq_false (by omega)])))
    (aA (cq (bc (aa rfl) (ck.upper (up':=26) rfl 22 h1 hn V)) (a6 (aa rfl) (aa rfl) sb) eM) (by unfold aN;rw[im];rfl)
    (aA (b9 (cq (aa rfl) (cq (aa rfl) (bc (aa rfl) (ck.lower (up':=26) (cp:=2) (pl:=14) (ov:=15) (lw:=27) rfl rfl rfl rfl rfl 21 h1 hn W)) eB) be) aw rfl) (by unfold aN;rw[im];rfl)
    (aT (fD (a7 aw (a7 (cq (bc (aa rfl) (ck.upper (up':=26) rfl 22 h1 hn W)) (aa rfl) eA) (a7 (aa rfl) bC)))) (by
     unfold bh;rw[show ∀ x y:List Nat,(D.tup [.str "frames",.tup (L x),.tup (L y)]).imm=(au (L x)&&(au (L y)&&true))from fun _ _=>rfl,aP,aP]
     rfl)))))))))
end
structure DS(ks:List (List Ky))(vs:List D)(Js:List (List Nat)):Prop where
 len:ks.length=vs.length
 keys:ks=Js.map kyL
def ng{J:List Nat}{Js:List (List Nat)}:kyL J∈Js.map kyL↔J∈Js:=by
 rw[List.mem_map];exact⟨fun⟨K,hK,e⟩=>ud e▸hK,fun h=>⟨J,h,rfl⟩⟩
def DS.put{ks:List (List Ky)}{vs:List D}{Js:List (List Nat)}(F:DS ks vs Js)(J:List Nat)(d:D):∃ Js',DS (putD ks vs (kyL J) d).1 (putD ks vs (kyL J) d).2 Js'/\Js'.length<=Js.length+1/\∀ K,K∈Js'↔K∈Js\/K=J:=by
 by_cases c:J∈Js
 ·refine⟨Js,⟨(sO F.len).1,?_⟩,by omega,fun K=>⟨.inl,fun h=>h.elim id fun e=>e▸c⟩⟩;unfold putD;rw[if_pos (by rw[F.keys];exact ng.mpr c)];exact F.keys
 ·refine⟨Js++[J],⟨(sO F.len).1,?_⟩,by simp,fun K=>by simp⟩;unfold putD;rw[if_neg (by rw[F.keys];exact fun z=>c (ng.mp z)),F.keys,List.map_append];rfl
def gJ{κ:Type} [DecidableEq κ]{x:κ}:∀ {ks:List κ} {vs:List D},ks.length=vs.length->((aB ks vs x).isSome=true↔x∈ks)
 | [],[],_=>by simp[aB]
 | k::ks,v::vs,h=>by
  rw[aB];by_cases c:k=x
  ·simp[c]
  ·rw[if_neg c,gJ (by simpa using h)];simp[Ne.symm c]
def DS.has{ks:List (List Ky)}{vs:List D}{Js:List (List Nat)}(F:DS ks vs Js)(J:List Nat){b:Bool}(h:b=true↔J∈Js):jU (.dT ks vs) (.tup (L J))=some b:=by
 show(keysOf (L J)).map _=_;rw[mK,Option.map_some];congr 1;rw[Bool.eq_iff_iff,gJ F.len,F.keys,ng,h]
def GN{Js:List (List Nat)}(J:List Nat){b:Bool}(h:b=true↔J∈Js):jU (.fT (Js.map kyL)) (.tup (L J))=some b:=by
 show(keysOf (L J)).map _=_;rw[mK,Option.map_some];congr 1;rw[Bool.eq_iff_iff,List.any_eq_true,h,<-ng];simp
def AR:∀ J:List Nat,(kyL J).map kyD=L J
 | []=>rfl
 | x::r=>by
  rw[show kyL (x::r)=.inl (x:Int)::kyL r from rfl,List.map_cons,AR r];rfl
def Dy(Js:List (List Nat)):Fm (.fT (Js.map kyL))=some (Js.map fun J=>.tup (L J)):=by
 show some ((Js.map kyL).map fun k=>D.tup (k.map kyD))=_;rw[List.map_map];congr 1;apply List.map_congr_left;intro J _;show D.tup ((kyL J).map kyD)=_;rw[AR]
def m7(I:List (List Nat)->St->Prop)(fs:List (List Nat))(σ:St)(h0:I [] σ)(hs:∀ u b σ,(∃ v,fs=u++b::v)->I u σ->∃ σ2,(aQ tg (.tup (L b)) σ).bind f=some (.nx,σ2)/\I (u++[b]) σ2):∃ σ',aY f tg (fs.map fun J=>.tup (L J)) σ=some (.nx,σ')/\I fs σ':=by
 rcases qP (B:=False) (d:=.non) (fun J=>D.tup (L J)) (fun J=>show au (L J)=true from aP J) I fs [] σ (fun u b v σ e i=>.inl (hs u b σ ⟨v,by simpa using e⟩ i)) h0 with h | ⟨h,_⟩
 ·simpa using h
 ·exact h.elim
def imT(J:List Nat):(D.tup (L J)).imm=true:=aP J
def HC(fs:List (List Nat)):a8 (.lst (fs.map fun f=>.tup (L f)))=true:=by
 show au (fs.map fun f=>D.tup (L f))=true
 induction fs with
 | nil=>rfl
 | cons a r ih=>rw[List.map_cons,au,ih,imT];rfl
section
variable{n i:Nat}
structure Fc(n:Nat)(fs:List (List Nat)):Prop where
 h1:1<=n
 hn:n<=10
 val:∀ f∈fs,Val n f
 few:fs.length<=14
def Ia(C:Fc n fs)(hf:f∈fs)(s0 s1 s9:D)(hb:b∈fs)(A:DS kl vl Jl)(B:DS kh vh Jh)(a1:Jl.length<=1000)(b1:Jh.length<=1000)(o6:Option D):∃ kl' vl' kh' vh' Jl' Jh',DS kl' vl' Jl'/\DS kh' vh' Jh'/\Jl'.length<=Jl.length+1/\Jh'.length<=Jh.length+1/\(∀ K,K∈Jl'↔K∈Jl\/K=ao n f b)/\(∀ K,K∈Jh'↔K∈Jh\/K=ao n b f) /\
  (aQ [6] (.tup (L b)) [some s0,some s1,some (.lst (fs.map fun f=>.tup (L f))),some (.tup (L f)),some (.dT kl vl),some (.dT kh vh),o6,none,none,some s9,none,none]).bind (ah (aq T 29) [5,4,7,11] (jX 41 39 40 47 35 45))=some (.nx,[some s0,some s1,some (.lst (fs.map fun f=>.tup (L f))),some (.tup (L f)),some (.dT kl' vl'),some (.dT kh' vh'),some (.tup (L b)),none,none,some s9,none,none]):=by
 obtain⟨r,e⟩:=lh 27 C.h1 C.hn (C.val f hf).frm (C.val b hb).frm;obtain⟨r',e'⟩:=lh 27 C.h1 C.hn (C.val b hb).frm (C.val f hf).frm;obtain⟨Jl',A',la,ma⟩:=A.put (ao n f b) (.bl true);obtain⟨Jh',B',lb,mb⟩:=B.put (ao n b f) (.bl true)
 have ka:kl.length<most:=by rw[A.keys,List.length_map];unfold most;omega
 have kb:kh.length<most:=by rw[B.keys,List.length_map];unfold most;omega
 exact⟨_,_,_,_,Jl',Jh',A',B',la,lb,ma,mb,iE aw (b9 (cq (aa rfl) (aa rfl) e) aw rfl) rfl rfl (sG ka) (iE aw (b9 (cq (aa rfl) (aa rfl) e') aw rfl) rfl rfl (sG kb) aF)⟩
def Hx(C:Fc n fs)(V:Val n h)(s0 s1 s3 s4 s5 s9:D)(hb:b∈fs)(A:DS kl vl Jl)(a1:Jl.length<=1000)(o10:Option D):∃ kl' vl' Jl',DS kl' vl' Jl'/\Jl'.length<=Jl.length+1/\(∀ K,K∈Jl'↔K∈Jl\/K=ao n h b) /\
  (aQ [10] (.tup (L b)) [some s0,some s1,some (.lst (fs.map fun f=>.tup (L f))),some s3,some s4,some s5,some (.tup (L h)),some (.dT kl vl),none,some s9,o10,none]).bind (ah (aq T 29) [4,7,11] (rH 41 39 40 47 35 45))=some (.nx,[some s0,some s1,some (.lst (fs.map fun f=>.tup (L f))),some s3,some s4,some s5,some (.tup (L h)),some (.dT kl' vl'),none,some s9,some (.tup (L b)),none]):=by
 obtain⟨r,e⟩:=lh 27 C.h1 C.hn V.frm (C.val b hb).frm;obtain⟨Jl',A',la,ma⟩:=A.put (ao n h b) (.bl true)
 have ka:kl.length<most:=by rw[A.keys,List.length_map];unfold most;omega
 exact⟨_,_,Jl',A',la,ma,iE aw (b9 (cq (aa rfl) (aa rfl) e) aw rfl) rfl rfl (sG ka) aF⟩
def Ig(C:Fc n fs)(V:Val n h)(s0 s1 s3 s4 s5 s9:D)(A:DS kl vl Jl)(a1:Jl.length<=900)(o6 o10:Option D):∃ kl' vl' Jl' o10',DS kl' vl' Jl'/\Jl'.length<=Jl.length+14/\(∀ K,K∈Jl'↔K∈Jl\/∃ b∈fs,ao n h b=K) /\
  (aQ [6] (.tup (L h)) [some s0,some s1,some (.lst (fs.map fun f=>.tup (L f))),some s3,some s4,some s5,o6,some (.dT kl vl),none,some s9,o10,none]).bind (ah (aq T 29) [4,7,11] (nG 41 39 40 47 35 45))=some (.nx,[some s0,some s1,some (.lst (fs.map fun f=>.tup (L f))),some s3,some s4,some s5,some (.tup (L h)),some (.dT kl' vl'),none,some s9,o10',none]):=by
 obtain⟨σ',e,kl',vl',Jl',o10',rfl,A',la,ma⟩:=m7 (tg:=[10]) (f:=ah (aq T 29) [4,7,11] (rH 41 39 40 47 35 45)) (fun u σ=>∃ kl' vl' Jl' o10',σ=[some s0,some s1,some (.lst (fs.map fun f=>.tup (L f))),some s3,some s4,some s5,some (.tup (L h)),some (.dT kl' vl'),none,some s9,o10',none]/\DS kl' vl' Jl'/\Jl'.length<=Jl.length+u.length/\∀ K,K∈Jl'↔K∈Jl\/∃ b∈u,ao n h b=K) fs _ ⟨kl,vl,Jl,o10,rfl,A,by simp,by simp⟩ (by
  rintro u b σ ⟨v,hv⟩ ⟨kl',vl',Jl',o10',rfl,A',la,ma⟩;have hl:=congrArg List.length hv;have:=C.few;simp at hl;obtain⟨k2,v2,J2,A2,l2,m2,e⟩:=Hx C V s0 s1 s3 s4 s5 s9 (b:=b) (by rw[hv];simp) A' (by omega) o10';refine⟨_,e,k2,v2,J2,_,rfl,A2,by simp;omega,fun K=>?_⟩;rw[m2,ma];simp only[List.mem_append,List.mem_singleton];constructor
  ·rintro((h | ⟨b,h,e⟩) | h)
   ·exact .inl h
   ·exact .inr ⟨b,.inl h,e⟩
   ·exact .inr ⟨_,.inr rfl,h.symm⟩
  ·rintro(h | ⟨x,h | h,ex⟩)
   ·exact .inl (.inl h)
   ·exact .inl (.inr ⟨x,h,ex⟩)
   ·subst h
    exact .inr ex.symm)
 have:=C.few;exact⟨kl',vl',Jl',o10',A',by omega,ma,bZ (cM (aa rfl) rfl) e aF⟩
def wd0(m:List Nat)(n:Nat)(f g:List Nat)(hv:ev cl σ e=some (lW n f g m)):ev cl σ (.cmp .eq (.ix e (.cst (.int 0))) (.cst (.str "frame")))=some (.bl m.isEmpty):=by
 cases m<;>exact aK (b9 hv aw rfl) aw rfl
def wd1(m:List Nat)(n:Nat)(f g:List Nat)(hv:ev cl σ e=some (nL n f g m)):ev cl σ (.cmp .eq (.ix e (.cst (.int 0))) (.cst (.str "frame")))=some (.bl m.isEmpty):=by
 cases m<;>exact aK (b9 hv aw rfl) aw rfl
def ne3(a b c:Bool):bB .ne (.lst [.bl a,.bl b,.bl c]) (.lst [.bl a,.bl b,.bl c])=some false:=by cases a<;>cases b<;>cases c<;>rfl
def Hu(C:Fc n fs)(hf:f∈fs)(hg:g∈fs)(s0 s1 s9:D)(A:DS kl vl Jl)(B:DS kb vb Jb){Jh:List (List Nat)}(o6 o8 o10 o11:Option D)(e1:(mis n f g).isEmpty=true↔g∈Jl)(e2:(mis n (aJ n (ovr n) (ovr n) f) (aJ n (ovr n) (ovr n) g)).isEmpty=true↔g∈Jh)(e3:decide (thr n g<=thr n f)=true↔g∈Jb):∃ o11',
  (aQ [8] (.tup (L g)) [some s0,some s1,some (.lst (fs.map fun f=>.tup (L f))),some (.tup (L f)),some (.dT kl vl),some (.fT (Jh.map kyL)),o6,some (.dT kb vb),o8,some s9,o10,o11]).bind (ah (aq T 29) [4,7,11] (mX 41 39 40 47 35 45))=some (.nx,[some s0,some s1,some (.lst (fs.map fun f=>.tup (L f))),some (.tup (L f)),some (.dT kl vl),some (.fT (Jh.map kyL)),o6,some (.dT kb vb),some (.tup (L g)),some s9,o10,o11']):=by
 have V:=C.val f hf;have W:=C.val g hg;have be:=K38.hg.below ck (cp:=2) (pl:=14) (ov:=15) (ti:=17) (be:=39) rfl rfl rfl rfl rfl 21 C.h1 C.hn V W;have ab:=K38.hg.above ck (cp:=2) (pl:=14) (ov:=15) (ti:=17) (be:=39) (ab:=40) rfl rfl rfl rfl rfl rfl 20 C.h1 C.hn V W
 have bt:∀ {σ:St},(σ[3]?).bind id=some (.tup (L f))->(σ[8]?).bind id=some (.tup (L g))->ev (aq T 29) σ (.cmp .eq (.ix (.call 41 (.cons (.var 3) (.cons (.var 8) .nil))) (.cst (.int 0))) (.cst (.str "frames")))=some (.bl (decide (thr n g<=thr n f))):=fun h3 h8=>by
  rcases btw C.h1 C.hn V W with⟨c,e⟩ | ⟨c,A,U,_,_,_,e⟩
  ·rw[decide_eq_false (by omega)];exact aK (b9 (cq (aa h3) (aa h8) e) aw rfl) aw rfl
  ·rw[decide_eq_true c];exact aK (b9 (cq (aa h3) (aa h8) e) aw rfl) aw rfl
 exact⟨_,ee (jz (a7 (wd0 _ n f g (cq (aa rfl) (aa rfl) be)) (a7 (wd1 _ n f g (cq (aa rfl) (aa rfl) ab)) bC))) rfl
  (sU (bt rfl rfl) rfl rfl (show 2<most by decide)
  (cm (bg (aK (aa rfl) (jz (a7 (vA (n:=false) (aa rfl) (aa rfl) (A.has g e1)) (a7 (vA (n:=false) (aa rfl) (aa rfl) (GN g e2)) (a7 (vA (n:=false) (aa rfl) (aa rfl) (B.has g e3)) bC)))) (ne3 _ _ _))) aF))⟩
def fG{p:Nat->Bool}(h:al n p=true)(hi:i<(FS n).length):p i=true:=by
 unfold al at h;rw[List.all_eq_true]at h;exact h i (List.mem_range.mpr hi)
def nI{p:Nat->Bool}:an n p=true↔∃ i,i<(FS n).length/\p i=true:=by
 unfold an;rw[List.any_eq_true];simp only[List.mem_range]
def ki(hi:i<(FS n).length):fr n i∈FS n:=by
 unfold fr;rw[List.getElem?_eq_getElem hi];exact List.getElem_mem hi
def j9(h:f∈FS n):∃ i,i<(FS n).length/\f=fr n i:=by
 obtain⟨i,hi,e⟩:=List.getElem_of_mem h;exact⟨i,hi,by unfold fr;rw[List.getElem?_eq_getElem hi,<-e];rfl⟩
end
def EY{ds:List Nat}{a b:Nat}(h:jQ ds [a,b]):∃ x y,ds=[x,y]/\x<a/\y<b:=Ii h
def main(ns:List Int)(hl:ns.length<=63):aq T 30 48 [.scr (ns.map D.int)]=some (.bl true):=by
 obtain⟨ds,hd,e1⟩:=dg.digits hl 26 (k:=0) (sizes:=[4,10 ^ 9]) (by omega) (fun s hs=>by
  simp only[List.mem_cons,List.not_mem_nil,or_false]at hs
  rcases hs with rfl | rfl<;>decide +kernel) (by simp)
 obtain⟨p,q,rfl,hp,hq⟩:=EY hd
 have n1:1<=1+p:=by omega
 have n2:1+p<=4:=by omega
 have e0:aG .add (.int 1) (.int (p:Nat))=some (.int ((1+p:Nat):Int)):=rfl;generalize 1+p=n at *;have ev:=Hm (n:=n) 21 n1 n2;have ok:=G6 n n1 n2;unfold AS at ok;simp only[Bool.and_eq_true]at ok;obtain⟨⟨⟨⟨oV,oI⟩,oB⟩,oA⟩,oW⟩:=ok;have oT:=FX n n1 n2
 have few:(FS n).length<=14/\0<(FS n).length:=by
  have:∀ n,1<=n->n<=4->(FS n).length<=14/\0<(FS n).length:=by
   intro n h1 h2
   match n,h1,h2 with
   | 1,_,_=>decide
   | 2,_,_=>decide
   | 3,_,_=>decide
   | 4,_,_=>decide
  exact this n n1 n2
 have C:Fc n (FS n):=⟨n1,by omega,fun f hf=>Fu (List.all_eq_true.mp oV f hf),few.1⟩
 have hi:q%(FS n).length<(FS n).length:=Nat.mod_lt _ few.2;generalize hI:q%(FS n).length=i at hi;have hf:=ki hi
 have ixf:ixV (.lst ((FS n).map fun f=>.tup (L f))) (.int (i:Nat))=some (.tup (L (fr n i))):=by
  show cb _ _=_;rw[dO,List.getElem?_map,List.getElem?_eq_getElem hi];unfold fr;rw[List.getElem?_eq_getElem hi];rfl
 have md:aG .mod (.int (q:Nat)) (.int ((FS n).length:Nat))=some (.int (i:Nat)):=by
  rw[gg (by omega),<-hI];congr 2
 have lnf:biV .len (.lst ((FS n).map fun f=>.tup (L f)))=some (.int ((FS n).length:Nat)):=by
  show some (D.int (((FS n).map fun f=>D.tup (L f)).length:Nat))=_;rw[List.length_map]
 obtain⟨σ1,l1,kl,vl,kh,vh,Jl,Jh,o6,rfl,A,B,la,lb,ma,mb⟩:=m7 (tg:=[6]) (f:=ah (aq T 29) [5,4,7,11] (jX 41 39 40 47 35 45)) (fun u σ=>∃ kl vl kh vh Jl Jh o6,σ=[some (.lst (LI ns)),some (.int (n:Nat)),some (.lst ((FS n).map fun f=>.tup (L f))),some (.tup (L (fr n i))),some (.dT kl vl),some (.dT kh vh),o6,none,none,some (.int (q:Nat)),none,none]/\DS kl vl Jl/\DS kh vh Jh/\Jl.length<=u.length/\Jh.length<=u.length/\(∀ K,K∈Jl↔∃ b∈u,ao n (fr n i) b=K)/\∀ K,K∈Jh↔∃ b∈u,ao n b (fr n i)=K) (FS n)
  [some (.lst (LI ns)),some (.int (n:Nat)),some (.lst ((FS n).map fun f=>.tup (L f))),some (.tup (L (fr n i))),some (.dT [] []),some (.dT [] []),none,none,none,some (.int (q:Nat)),none,none]
  ⟨[],[],[],[],[],[],none,rfl,⟨rfl,rfl⟩,⟨rfl,rfl⟩,by simp,by simp,by simp,by simp⟩ (by
  rintro u b σ ⟨v,hv⟩ ⟨kl,vl,kh,vh,Jl,Jh,o6,rfl,A,B,la,lb,ma,mb⟩;have hl:=congrArg List.length hv;have:=C.few;simp at hl;obtain⟨k2,v2,k3,v3,J2,J3,A2,B2,l2,l3,m2,m3,e⟩:=Ia C hf (.lst (LI ns)) (.int (n:Nat)) (.int (q:Nat)) (b:=b) (by rw[hv];simp) A B (by omega) (by omega) o6;refine⟨_,e,k2,v2,k3,v3,J2,J3,_,rfl,A2,B2,by simp;omega,by simp;omega,fun K=>?_,fun K=>?_⟩
  ·rw[m2,ma];simp only[List.mem_append,List.mem_singleton];constructor
   ·rintro(⟨b,h,e⟩ | h)
    ·exact⟨b,.inl h,e⟩
    ·exact⟨_,.inr rfl,h.symm⟩
   ·rintro⟨x,h | h,ex⟩
    ·exact .inl ⟨x,h,ex⟩
    ·subst h;exact .inr ex.symm
  ·rw[m3,mb];simp only[List.mem_append,List.mem_singleton];constructor
   ·rintro(⟨b,h,e⟩ | h)
    ·exact⟨b,.inl h,e⟩
    ·exact⟨_,.inr rfl,h.symm⟩
   ·rintro⟨x,h | h,ex⟩
    ·exact .inl ⟨x,h,ex⟩
    ·subst h
     exact .inr ex.symm)
 have hV:∀ h∈Jh,Val n h:=fun h hh=>by
  obtain⟨b,hb,e⟩:=(mb h).mp hh;rw[<-e];exact dY C.hn (C.val b hb) (C.val _ hf)
 obtain⟨σ2,l2,kb,vb,Jb,o6',o10,rfl,B',lb',mb'⟩:=m7 (tg:=[6]) (f:=ah (aq T 29) [4,7,11] (nG 41 39 40 47 35 45)) (fun u σ=>∃ kb vb Jb o6 o10,σ=[some (.lst (LI ns)),some (.int (n:Nat)),some (.lst ((FS n).map fun f=>.tup (L f))),some (.tup (L (fr n i))),some (.dT kl vl),some (.fT (Jh.map kyL)),o6,some (.dT kb vb),none,some (.int (q:Nat)),o10,none]/\DS kb vb Jb/\Jb.length<=14*u.length/\∀ K,K∈Jb↔∃ h∈u,∃ b∈FS n,ao n h b=K) Jh
  [some (.lst (LI ns)),some (.int (n:Nat)),some (.lst ((FS n).map fun f=>.tup (L f))),some (.tup (L (fr n i))),some (.dT kl vl),some (.fT (Jh.map kyL)),o6,some (.dT [] []),none,some (.int (q:Nat)),none,none]
  ⟨[],[],[],o6,none,rfl,⟨rfl,rfl⟩,by simp,by simp⟩ (by
  rintro u h σ ⟨v,hv⟩ ⟨kb,vb,Jb,o6,o10,rfl,B',lb',mb'⟩;have hl:=congrArg List.length hv;have:=C.few;simp at hl;obtain⟨k2,v2,J2,o10',A2,l2,m2,e⟩:=Ig C (hV h (by rw[hv];simp)) (.lst (LI ns)) (.int (n:Nat)) (.tup (L (fr n i))) (.dT kl vl) (.fT (Jh.map kyL)) (.int (q:Nat)) B' (by omega) o6 o10;refine⟨_,e,k2,v2,J2,_,_,rfl,A2,by simp;omega,fun K=>?_⟩;rw[m2,mb'];simp only[List.mem_append,List.mem_singleton];constructor
  ·rintro(⟨x,h,e⟩ | ⟨b,hb,e⟩)
   ·exact⟨x,.inl h,e⟩
   ·exact⟨_,.inr rfl,b,hb,e⟩
  ·rintro⟨x,h | h,ex⟩
   ·exact .inl ⟨x,h,ex⟩
   ·subst h
    exact .inr ex)
 have tab:∀ {a b:Nat},a<(FS n).length->b<(FS n).length->ao n (fr n a) (fr n b)=fr n (tb n a b)/\tb n a b<(FS n).length:=fun ha hb=>by
  have:=fG (fG oT ha) hb;simpa using this
 have inj:∀ {a b:Nat},a<(FS n).length->b<(FS n).length->(fr n a=fr n b↔a=b):=fun ha hb=>by
  have:=fG (fG oI ha) hb;simp only[Bool.or_eq_true,decide_eq_true_eq,Bool.not_eq_true',decide_eq_false_iff_not]at this;exact⟨fun e=>this.elim id fun z=>absurd e z,fun e=>by rw[e]⟩
 obtain⟨σ3,l3,o8,o11,rfl⟩:=m7 (tg:=[8]) (f:=ah (aq T 29) [4,7,11] (mX 41 39 40 47 35 45)) (fun u σ=>∃ o8 o11,σ=[some (.lst (LI ns)),some (.int (n:Nat)),some (.lst ((FS n).map fun f=>.tup (L f))),some (.tup (L (fr n i))),some (.dT kl vl),some (.fT (Jh.map kyL)),o6',some (.dT kb vb),o8,some (.int (q:Nat)),o10,o11]) (FS n)
  [some (.lst (LI ns)),some (.int (n:Nat)),some (.lst ((FS n).map fun f=>.tup (L f))),some (.tup (L (fr n i))),some (.dT kl vl),some (.fT (Jh.map kyL)),o6',some (.dT kb vb),none,some (.int (q:Nat)),o10,none]
  ⟨none,none,rfl⟩ (by
  rintro u g σ ⟨v,hv⟩ ⟨o8,o11,rfl⟩
  have hg:g∈FS n:=by rw[hv];simp
  obtain⟨k,hk,rfl⟩:=j9 hg;have w1:=fG (fG oB hi) hk;have w2:=fG (fG oA hi) hk;have w3:=fG (fG oW hi) hk;rw[beq_iff_eq]at w1 w2 w3
  obtain⟨o11',e⟩:=Hu C hf hg (.lst (LI ns)) (.int (n:Nat)) (.int (q:Nat)) A B' (Jh:=Jh) o6' o8 o10 o11 (by
   rw[w1,nI,ma];constructor
   ·rintro⟨j,hj,e⟩;exact⟨fr n j,ki hj,by rw[(tab hi hj).1,of_decide_eq_true e]⟩
   ·rintro⟨b,hb,e⟩;obtain⟨j,hj,rfl⟩:=j9 hb;rw[(tab hi hj).1,inj (tab hi hj).2 hk]at e
    exact⟨j,hj,decide_eq_true e⟩) (by
   rw[w2,nI,mb];constructor
   ·rintro⟨j,hj,e⟩;exact⟨fr n j,ki hj,by rw[(tab hj hi).1,of_decide_eq_true e]⟩
   ·rintro⟨b,hb,e⟩;obtain⟨j,hj,rfl⟩:=j9 hb;rw[(tab hj hi).1,inj (tab hj hi).2 hk]at e
    exact⟨j,hj,decide_eq_true e⟩) (by
   rw[w3,nI,mb'];constructor
   ·rintro⟨j,hj,e⟩;obtain⟨m,hm,e⟩:=nI.mp e;exact⟨_,(mb _).mpr ⟨fr n j,ki hj,(tab hj hi).1⟩,fr n m,ki hm,by rw[(tab (tab hj hi).2 hm).1,of_decide_eq_true e]⟩
   ·rintro⟨x,hx,b,hb,e⟩;obtain⟨y,hy,ey⟩:=(mb x).mp hx;obtain⟨j,hj,rfl⟩:=j9 hy;obtain⟨m,hm,rfl⟩:=j9 hb;rw[(tab hj hi).1]at ey;rw[<-ey,(tab (tab hj hi).2 hm).1,inj (tab (tab hj hi).2 hm).2 hk]at e
    exact⟨j,hj,nI.mpr ⟨m,hm,decide_eq_true e⟩⟩)
  exact⟨_,e,_,_,rfl⟩)
 rw[B.keys]at l1
 have sq:∀ {s:S} {r:Sq} {σ σ':St} {res:Option (Out × St)},evS (aq T 29) [5,4,7,11] s σ=some (.nx,σ')->kj (aq T 29) [4,7,11] [5,4,7,11] r σ'=res->kj (aq T 29) [4,7,11] [5,4,7,11] (.cons s r) σ=res:=fun h k=>by
  rw[kj,h];exact k
 have s1:evS (aq T 29) [5,4,7,11] (.forr [6] (.seq (.var 2)) (jX 41 39 40 47 35 45)) [some (.lst (LI ns)),some (.int (n:Nat)),some (.lst ((FS n).map fun f=>.tup (L f))),some (.tup (L (fr n i))),some (.dT [] []),some (.dT [] []),none,none,none,some (.int (q:Nat)),none,none]=some (.nx,[some (.lst (LI ns)),some (.int (n:Nat)),some (.lst ((FS n).map fun f=>.tup (L f))),some (.tup (L (fr n i))),some (.dT kl vl),some (.dT (Jh.map kyL) vh),o6,none,none,some (.int (q:Nat)),none,none]):=by
  rw[gO,cM (aa rfl) rfl];exact l1
 have tail:ah (aq T 29) [4,7,11] (.opn 5 .dt0 (.cons (.forr [6] (.seq (.var 2)) (jX 41 39 40 47 35 45)) (.cons (.own 7 .dt0) (.frz 5 (.cons (.forr [6] (.key (.var 5)) (nG 41 39 40 47 35 45)) (.cons (.forr [8] (.seq (.var 2)) (mX 41 39 40 47 35 45)) (.cons (.ret (.cst (.bl true))) .nil))))))) [some (.lst (LI ns)),some (.int (n:Nat)),some (.lst ((FS n).map fun f=>.tup (L f))),some (.tup (L (fr n i))),some (.dT [] []),none,none,none,none,some (.int (q:Nat)),none,none]=some (.rt (.bl true),[some (.lst (LI ns)),some (.int (n:Nat)),some (.lst ((FS n).map fun f=>.tup (L f))),some (.tup (L (fr n i))),some (.dT kl vl),some (.fT (Jh.map kyL)),o6',some (.dT kb vb),o8,some (.int (q:Nat)),o10,o11]):=by
  show kj (aq T 29) [4,7,11] [5,4,7,11] _ _=_;refine sq s1 (sq (show evS (aq T 29) [5,4,7,11] (.own 7 .dt0) _=some (.nx,_)from rfl) ?_);show ah (aq T 29) [4,7,11] _ _=_;exact bZ (show bf (aq T 29) _ (.key (.var 5))=some (Jh.map fun J=>.tup (L J)) by rw[bf,aa rfl];exact Dy Jh) l2 (bZ (cM (aa rfl) rfl) l3 (aT aw rfl))
 exact(az (fn:=AO 41 39 40 47 35 45) rfl).trans (aS rfl rfl (aA (Bj (aa rfl) aw (Ij hl)) (by simp[aN,D.imm,a8,x3])
  (Gk (qR (aa rfl) aw (jz (a7 aw (a7 (a6 aw aw rfl) bC))) e1) rfl rfl rfl
  (aA (a6 aw (aa rfl) e0) rfl
  (aA (bc (aa rfl) ev) (by unfold aN;rw[HC];rfl)
  (aA (b9 (aa rfl) (a6 (aa rfl) (bp (aa rfl) lnf) md) ixf) (by unfold aN;rw[imT];rfl)
  (ee (d:=.dT [] []) rfl rfl tail)))))))
end K38
namespace L2
open PySem PySem.Spec PyProof.Rows
@[reducible]noncomputable def Key:=Sum Int Str
abbrev ko:Key->Value->Bool
 | .inl k,v=>Value.isInt k v
 | .inr x,v=>Value.isStrOf x v
abbrev IF(w:World):Key->Int
 | .inl k=>hashInt k
 | .inr x=>hashStr w x
def bS:∀ {k:Key} {v:Value},ko k v=true->(∃ i t,k=Sum.inl i/\v=Value.int i t)\/(∃ x t,k=Sum.inr x/\v=Value.str x t)
 | .inl i,v,h=>by
  obtain⟨t,e⟩:=Value.isInt_shape (k:=i) (v:=v) h;exact .inl ⟨i,t,rfl,e⟩
 | .inr x,v,h=>by
  obtain⟨t,e⟩:=Value.isStrOf_shape (x:=x) (v:=v) h;exact .inr ⟨x,t,rfl,e⟩
def yO(i:Int)(t:Tok):ko (.inl i) (.int i t)=true:=by simp[ko,Value.isInt]
def yf(x:Str)(t:Tok):ko (.inr x) (.str x t)=true:=by simp[ko,Value.isStrOf]
def EA(a b:Int):decide ((Sum.inl a:Key)=Sum.inl b)=(a == b):=by
 by_cases e:a=b
 ·subst e;simp
 ·have h:¬ (Sum.inl a:Key)=Sum.inl b:=fun q=>e (Sum.inl.inj q);rw[decide_eq_false h];exact(beq_eq_false_iff_ne.mpr e).symm
def Gp(a b:Str):decide ((Sum.inr a:Key)=Sum.inr b)=decide (a=b):=by
 by_cases e:a=b
 ·subst e;simp
 ·have h:¬ (Sum.inr a:Key)=Sum.inr b:=fun q=>e (Sum.inr.inj q);rw[decide_eq_false h,decide_eq_false e]
def EH(a:Int)(b:Str):decide ((Sum.inl a:Key)=Sum.inr b)=false:=decide_eq_false (fun q=>nomatch q)
def Fl(a:Str)(b:Int):decide ((Sum.inr a:Key)=Sum.inl b)=false:=decide_eq_false (fun q=>nomatch q)
abbrev bO(prog:Program)(w:World):PySem.KeyKind prog w Key where
 is:=ko
 hash:=IF w
 inj:=fun v a b ha hb=>by
  rcases bS ha with⟨i,t,rfl,rfl⟩ | ⟨x,t,rfl,rfl⟩
  ·rcases bS hb with⟨j,u,rfl,e⟩ | ⟨y,u,rfl,e⟩
   ·injection e with e1 _;rw[e1]
   ·exact nomatch e
  ·rcases bS hb with⟨j,u,rfl,e⟩ | ⟨y,u,rfl,e⟩
   ·exact nomatch e
   ·injection e with e1 _;rw[e1]
 byValue:=fun k v h=>by
  rcases bS h with⟨i,t,rfl,rfl⟩ | ⟨x,t,rfl,rfl⟩<;>rfl
 pyHash:=fun hv h=>by
  rcases bS hv with⟨i,t,rfl,rfl⟩ | ⟨x,t,rfl,rfl⟩
  ·exact wpAny_pyHash_int h
  ·exact wpAny_pyHash_str h
 eqBool:=fun hu hv h=>by
  rcases bS hu with⟨i,t,rfl,rfl⟩ | ⟨x,t,rfl,rfl⟩
  ·rcases bS hv with⟨j,u,rfl,rfl⟩ | ⟨y,u,rfl,rfl⟩
   ·rw[EA]at h;exact wpAny_eqBool_int h
   ·rw[EH]at h;exact SeqAt.EqAt.int_str i t y u _ _ _ _ h
  ·rcases bS hv with⟨j,u,rfl,rfl⟩ | ⟨y,u,rfl,rfl⟩
   ·rw[Fl]at h;exact SeqAt.EqAt.str_int x t j u _ _ _ _ h
   ·rw[Gp]at h;exact wpAny_eqBool_str h
 «strs»:=fun k x t v h=>by
  rcases bS h with⟨i,u,rfl,e⟩ | ⟨y,u,rfl,e⟩
  ·exact nomatch e
  ·injection e with e1 _;subst e1;cases v<;>rfl
def t7(prog:Program)(w:World)(i:Int)(t:Tok):(bO prog w).is (.inl i) (.int i t)=true:=yO i t
def t5(prog:Program)(w:World)(x:Str)(t:Tok):(bO prog w).is (.inr x) (.str x t)=true:=yf x t
set_option genInjectivity true in
inductive V where
 | non | bl (b:Bool) | int (i:Int) | str (x:Str) | byt (b:Array UInt8) | flt (b:UInt64) | ref (a:Addr) | ty (n:String)
 deriving DecidableEq
abbrev RelV:V->Value->Prop
 | .non,u=>u=Value.none
 | .bl b,u=>u=Value.bool b
 | .int i,u=>∃ t,u=Value.int i t
 | .str x,u=>∃ t,u=Value.str x t
 | .byt b,u=>∃ t,u=Value.bytes b t
 | .flt b,u=>∃ t,u=Value.float b t
 | .ref a,u=>u=Value.ref a
 | .ty n,u=>u=Value.type n
@[reducible]noncomputable def Vals:List V->List Value->Prop:=Paired RelV
def Vals.length(r:Vals xs us):xs.length=us.length:=Paired.length r
def Vals.get:∀ {xs:List V} {us:List Value} {i:Nat} {x:V},Vals xs us->xs[i]?=some x->∃ u,us[i]?=some u/\RelV x u
 | _,_,_,_,.nil,e=>by simp at e
 | _,_,0,_,.cons r _,e=>by simp at e;subst e;exact⟨_,rfl,r⟩
 | _,_,i+1,x,.cons _ t,e=>by
  obtain⟨u,h1,h2⟩:=Vals.get (i:=i) (x:=x) t (by simpa using e);exact⟨u,by simpa using h1,h2⟩
def Vals.set(r:RelV x u):∀ {xs:List V} {us:List Value} (i:Nat),Vals xs us->Vals (xs.set i x) (us.set i u)
 | _,_,_,.nil=>.nil
 | _,_,0,.cons _ t=>.cons r t
 | _,_,i+1,.cons q t=>.cons q (Vals.set r i t)
def Vals.append:∀ {xs ys:List V} {us ws:List Value},Vals xs us->Vals ys ws->Vals (xs++ys) (us++ws)
 | _,_,_,_,.nil,s=>s
 | _,_,_,_,.cons r t,s=>.cons r (Vals.append t s)
def Vals.take:∀ {xs:List V} {us:List Value} (n:Nat),Vals xs us->Vals (xs.take n) (us.take n)
 | _,_,0,_=>.nil
 | _,_,_+1,.nil=>.nil
 | _,_,n+1,.cons r t=>.cons r (Vals.take n t)
def Vals.drop:∀ {xs:List V} {us:List Value} (n:Nat),Vals xs us->Vals (xs.drop n) (us.drop n)
 | _,_,0,r=>r
 | _,_,_+1,.nil=>.nil
 | _,_,n+1,.cons _ t=>Vals.drop n t
abbrev gI:Option V->Option Value->Prop
 | some v,some u=>RelV v u
 | none,none=>True
 | _,_=>False
abbrev KV:List (κ × V)->List (κ × Value)->Prop:=Paired fun(p:κ × V) (q:κ × Value)=>p.1=q.1/\RelV p.2 q.2
abbrev kV:Key->V
 | .inl i=>.int i
 | .inr x=>.str x
inductive HO where
  | lst (xs:List V)
  | tup (xs:List V)
  | dK (kvs:List (Key × V)) | dT (kvs:List (List Key × V))
  | set (S:Int->Bool) (n:Nat)
  | ins (C dx:Addr) (fs:List (Str × V))
  | own (x:Addr)
  | xd (fs:List (Str × V))
  | met (f x:Addr)
  | rng (lo hi:Int)
  | frz (o:Obj) (u:HO)
  | tbl (ps:Array Value)
  | ext (φ:Heap->Prop)
@[reducible]noncomputable def Hp:=Addr->Option HO
abbrev upd(H:Hp)(a:Addr)(o:HO):Hp:=fun b=>if b=a then some o else H b
def br:upd H a o a=some o:=by unfold upd;rw[if_pos rfl]
def aL(h:b≠a):upd H a o b=H b:=by unfold upd;rw[if_neg h]
def kC{H:Hp}(h:H a=some o)(h':H b=some u)(d:o≠u):a≠b:=by
 intro e;subst e;rw[h]at h';exact d (Option.some.inj h')
def aI{H:Hp}(h:H a=some o)(h':H b=none):a≠b:=by
 intro e;subst e;rw[h]at h';cases h'
section
variable(P:Program)(w:World)
abbrev bu(H:Hp)(h:Heap)(a:Addr):HO->Prop
 | .lst xs=>xs.length<=sizeLine/\∃ (its:List Value) (n:Nat),Vals xs its/\h.get? a=some { cls:=.type "list",data:=.seq its.toArray n }
 | .tup xs=>xs.length<=sizeLine/\∃ its:List Value,Vals xs its/\IsTup h a its.toArray
 | .dK kvs=>kvs.length<=sizeLine/\(a == sysModules)=false/\∃ vs,KV kvs vs/\h.DictOf (bO P w) a vs
 | .dT kvs=>kvs.length<=sizeLine/\(a == sysModules)=false/\∃ xs:List (List Key × Addr × Value),
   Paired (fun(p:List Key × V) (q:List Key × Addr × Value)=>p.1=q.1/\H q.2.1=some (.tup (p.1.map kV))/\RelV p.2 q.2.2) kvs xs /\
   ∃ o es ep,h.get? a=some o/\o.ExactDict/\o.data=.dict es ep/\es.toList=xs.map (entryOfKey (tupleKind (bO P w)))/\(xs.map (·.1)).Nodup
 | .set S n=>h.SetOf (intKind P w) a S n
 | .ins C dx fs=>H dx=some (.own a)/\fs.length<=1000/\dx≠a/\h.get? a=some (PySem.W.instObj C dx) /\
   ∃ mA,h.Ns1 dx mA/\(∀ f,gI (fs.lookup f) (mA f))/\PySem.Within mA (fs.map (·.1))
 | .own _=>∃ o,h.get? a=some o
 | .xd fs=>∃ mA,h.Ns1 a mA/\∀ f,gI (fs.lookup f) (mA f)
 | .rng lo hi=>∃ t u v,h.get? a=some { cls:=.type "range",data:=.fields #[.int lo t,.int hi u,.int 1 v] }
 | .frz o u=>h.get? a=some o/\bu H h a u
 | .tbl ps=>h.get? a=some { cls:=.none,data:=.fields ps }
 | .met f x=>h.get? a=some (PySem.W.methodObj (.ref f) (.ref x))
 | .ext φ=>φ h/\(∃ o,h.get? a=some o)/\∀ h1 h2:Heap,φ h1->(∀ o,h1.get? a=some o->h2.get? a=some o)->φ h2
abbrev HOk(H:Hp)(h:Heap):Prop:=∀ a o,H a=some o->bu P w H h a o
end
section
variable{P:Program}{w:World}{H H':Hp}{h h':Heap}{a:Addr}{o:HO}
def bu.lt(x:bu P w H h a o):a<h.objs.size:=by
 cases o with
 | lst xs=>obtain⟨_,_,_,_,e⟩:=x;exact Heap.lt_size e
 | tup xs=>obtain⟨_,_,_,p⟩:=x;exact p.lt
 | dK kvs=>obtain⟨_,_,_,_,o,_,_,e,_⟩:=x;exact Heap.lt_size e
 | dT kvs=>obtain⟨_,_,_,_,o,_,_,e,_⟩:=x;exact Heap.lt_size e
 | set S n=>obtain⟨o,_,_,_,e,_⟩:=x;exact Heap.lt_size e
 | ins C dx fs=>obtain⟨_,_,_,e,_⟩:=x;exact Heap.lt_size e
 | own y=>obtain⟨_,e⟩:=x;exact Heap.lt_size e
 | xd fs=>obtain⟨_,⟨_,_,_,e,_⟩,_⟩:=x;exact Heap.lt_size e
 | rng lo hi=>obtain⟨_,_,_,e⟩:=x;exact Heap.lt_size e
 | frz ob u=>obtain⟨e,_⟩:=x;exact Heap.lt_size e
 | tbl ps=>exact Heap.lt_size (show h.get? a=some _ from x)
 | met f y=>exact Heap.lt_size (show h.get? a=some _ from x)
 | ext φ=>obtain⟨_,⟨_,e⟩,_⟩:=x;exact Heap.lt_size e
def Paired.A4:∀ {l₁:List α} {l₂:List β},Paired F l₁ l₂->(∀ a b,F a b->G a b)->Paired G l₁ l₂
 | _,_,.nil,_=>.nil
 | _,_,.cons r t,f=>.cons (f _ _ r) (Paired.A4 t f)
def bu.oH(x:bu P w H h a o)(k:∀ b u,(b=a\/H b=some (.own a))->h.get? b=some u->h'.get? b=some u)
 (ho:∀ b,H b=some (.own a)->H' b=some (.own a))(ht:∀ b xs,H b=some (.tup xs)->H' b=some (.tup xs)):bu P w H' h' a o:=by
 induction o with
 | lst xs=>obtain⟨z,its,n,r,e⟩:=x;exact⟨z,its,n,r,k _ _ (.inl rfl) e⟩
 | tup xs=>obtain⟨z,its,r,ob,e,c⟩:=x;exact⟨z,its,r,ob,k _ _ (.inl rfl) e,c⟩
 | dK kvs=>obtain⟨z,y,vs,r,ob,es,ep,e,c⟩:=x;exact⟨z,y,vs,r,ob,es,ep,k _ _ (.inl rfl) e,c⟩
 |dT kvs=>
  obtain⟨z,y,xs,r,ob,es,ep,e,c⟩:=x;exact⟨z,y,xs,Paired.A4 r fun p q z=>⟨z.1,ht _ _ z.2.1,z.2.2⟩,ob,es,ep,k _ _ (.inl rfl) e,c⟩
 | set S n=>obtain⟨ob,es,ep,t,e,c⟩:=x;exact⟨ob,es,ep,t,k _ _ (.inl rfl) e,c⟩
 |ins C dx fs=>
  obtain⟨d,z,ne,e,mA,⟨od,es,ep,e2,c⟩,r⟩:=x;exact⟨ho _ d,z,ne,k _ _ (.inl rfl) e,mA,⟨od,es,ep,k _ _ (.inr d) e2,c⟩,r⟩
 | own y=>obtain⟨ob,e⟩:=x;exact⟨ob,k _ _ (.inl rfl) e⟩
 | xd fs=>obtain⟨mA,⟨od,es,ep,e,c⟩,r⟩:=x;exact⟨mA,⟨od,es,ep,k _ _ (.inl rfl) e,c⟩,r⟩
 | rng lo hi=>obtain⟨t,u,v,e⟩:=x;exact⟨t,u,v,k _ _ (.inl rfl) e⟩
 | frz ob u ih=>obtain⟨e,q⟩:=x;exact⟨k _ _ (.inl rfl) e,ih q⟩
 |tbl ps=>
  have e:h.get? a=some { cls:=.none,data:=.fields ps }:=x;show h'.get? a=some { cls:=.none,data:=.fields ps };exact k a _ (.inl rfl) e
 |met f y=>
  have e:h.get? a=some (PySem.W.methodObj (.ref f) (.ref y)):=x;show h'.get? a=some (PySem.W.methodObj (.ref f) (.ref y));exact k a _ (.inl rfl) e
 | ext φ=>obtain⟨p,⟨o,e⟩,st⟩:=x;exact⟨st _ _ p fun o q=>k _ _ (.inl rfl) q,⟨o,k _ _ (.inl rfl) e⟩,st⟩
def HOk.lt(x:HOk P w H h)(e:H a=some o):a<h.objs.size:=(x a o e).lt
def HOk.fresh(x:HOk P w H h)(e:h.objs.size<=a):H a=none:=by
 cases q:H a with
 | none=>rfl
 | some u=>exact absurd (Nat.lt_of_lt_of_le (x.lt q) e) (Nat.lt_irrefl _)
def HOk.kept(x:HOk P w H h)(k:∀ b u,h.get? b=some u->h'.get? b=some u):HOk P w H h':=fun a o e =>
 (x a o e).oH (fun b u _ q=>k b u q) (fun _ q=>q) fun _ _ q=>q
def HOk.laid(x:HOk P w H h)(k:∀ b u,h.get? b=some u->h'.get? b=some u)(hp:h.objs.size<=a)(new:bu P w (upd H a o) h' a o):HOk P w (upd H a o) h':=fun b u e=>by
 have hn:=x.fresh hp;by_cases hb:b=a
 ·subst hb;rw[br]at e;cases e;exact new
 ·rw[aL hb]at e
  exact(x b u e).oH (fun c v _ q=>k c v q) (fun c q=>by rw[aL (aI q hn)];exact q) fun c xs q=>by rw[aL (aI q hn)];exact q
end
abbrev Rd(H:Hp)(a:Addr)(u:HO):Prop:=H a=some u\/∃ o,H a=some (.frz o u)
def Rd.ok(r:Rd H a u)(x:HOk P w H h):bu P w H h a u:=by
 rcases r with r | ⟨o,r⟩
 ·exact x a u r
 ·obtain⟨_,q⟩:=x a _ r;exact q
abbrev Mut:Option HO->Prop
 | some (.lst _)=>True
 | some (.dK _)=>True
 | some (.dT _)=>True
 | some (.set _ _)=>True
 | some (.ins _ _ _)=>True
 | some (.ext _)=>True
 | _=>False
section
variable{P:Program}{w:World}{H:Hp}{h h':Heap}{x e:Addr}{o':HO}
def HOk.write(ok:HOk P w H h)(mu:Mut (H x))(he:e=x\/H e=some (.own x))(k:∀ b u,b≠e->h.get? b=some u->h'.get? b=some u)(heo:∃ u,h'.get? e=some u)
 (new:bu P w (upd H x o') h' x o'):HOk P w (upd H x o') h':=fun b u q=>by
 have nown:∀ c y,H c=some (.own y)->c≠x:=fun c y r z=>by subst z;rw[r]at mu;exact mu
 have ntup:∀ c xs,H c=some (.tup xs)->c≠x:=fun c xs r z=>by subst z;rw[r]at mu;exact mu
 by_cases hb:b=x
 ·subst hb;rw[br]at q;cases q;exact new
 ·rw[aL hb]at q;by_cases hbe:b=e
  ·have q':H b=some (.own x):=by
    rcases he with z | z
    ·exact absurd (hbe.trans z) hb
    ·rw[hbe];exact z
   rw[q]at q';cases q';obtain⟨v,hv⟩:=heo;exact⟨v,by rw[hbe];exact hv⟩
  ·refine(ok b u q).oH (fun c v hc r=>k c v ?_ r) (fun c r=>by rw[aL (nown c b r)];exact r) fun c xs r=>by rw[aL (ntup c xs r)];exact r
   rcases hc with rfl | hc
   ·exact hbe
   ·rintro rfl;rcases he with z | z
    ·exact nown c b hc z
    ·rw[hc]at z;cases z;exact hb rfl
end
structure Un(fs ex:List Addr)(H H':Hp)(h h':Heap):Prop where
 keep:∀ b o,h.get? b=some o->H b=none->b∉fs->b∉ex->h'.get? b=some o
 slot:∀ b o,h.get? b=some o->H b=none->b∈fs->b∉ex->∃ sl,h'.get? b=some { o with slots:=sl }
 free:∀ b o,h.get? b=some o->H b=none->b∉ex->H' b=none
 there:∀ b o,h.get? b=some o->b∉ex->∃ o',h'.get? b=some o'
 jR:∀ b xs,H b=some (.tup xs)->H' b=some (.tup xs)
 gW:∀ b o u,H b=some (.frz o u)->H' b=some (.frz o u)
 jE:∀ b ps,H b=some (.tbl ps)->∃ more,H' b=some (.tbl (ps++more))
section
variable{fs fs' ex ex':List Addr}{H H1 H2:Hp}{h h1 h2 h':Heap}{a x e:Addr}{o:HO}
def Un.any(u:Un fs ex H H1 h h1)(q:h.get? b=some ob)(n:H b=none)(hx:b∉ex):∃ sl,h1.get? b=some { ob with slots:=sl }:=by
 by_cases hb:b∈fs
 ·exact u.slot b ob q n hb hx
 ·exact⟨ob.slots,u.keep b ob q n hb hx⟩
def Un.kept(k:∀ b u,h.get? b=some u->h'.get? b=some u):Un fs ex H H h h' :=
 ⟨fun b ob q _ _ _=>k b ob q,fun b ob q _ _ _=>⟨ob.slots,k b ob q⟩,fun _ _ _ n _=>n,fun b ob q _=>⟨ob,k b ob q⟩,fun _ _ q=>q,fun _ _ _ q=>q,fun _ ps q=>⟨#[],by rw[q];simp⟩⟩
def Un.refl:Un fs ex H H h h:=Un.kept fun _ _ q=>q
def Un.laid(k:∀ b u,h.get? b=some u->h'.get? b=some u)(hp:h.objs.size<=a)(hn:H a=none):Un fs ex H (upd H a o) h h' where
 keep:=fun b u q _ _ _=>k b u q
 slot:=fun b u q _ _ _=>⟨u.slots,k b u q⟩
 free:=fun b u q n _=>by rw[aL (Nat.ne_of_lt (Nat.lt_of_lt_of_le (Heap.lt_size q) hp))];exact n
 there:=fun b u q _=>⟨u,k b u q⟩
 jR:=fun b xs q=>by rw[aL (aI q hn)];exact q
 gW:=fun b u xs q=>by rw[aL (aI q hn)];exact q
 jE:=fun b ps q=>⟨#[],by rw[aL (aI q hn),q];simp⟩
def Un.write(mu:Mut (H x))(he:e=x\/H e=some (.own x))(k:∀ b u,b≠e->h.get? b=some u->h'.get? b=some u)(heo:∃ u,h'.get? e=some u):Un fs ex H (upd H x o) h h':=by
 have hx:∀ b,H b=none->b≠x:=fun b n z=>by subst z;rw[n]at mu;exact mu
 have hb:∀ b,H b=none->b≠e:=fun b n z=>by
  subst z;rcases he with r | r
  ·exact hx b n r
  ·rw[n]at r;cases r
 have hm:∀ b u,H b=some u->¬ Mut (some u)->b≠x:=fun b u q nm z=>by subst z;rw[q]at mu;exact nm mu
 refine⟨fun b u q n _ _=>k b u (hb b n) q,fun b u q n _ _=>⟨u.slots,k b u (hb b n) q⟩,fun b u q n _=>by rw[aL (hx b n)];exact n,fun b u q _=>?_,
  fun b xs q=>by rw[aL (hm b _ q fun z=>z)];exact q,fun b u xs q=>by rw[aL (hm b _ q fun z=>z)];exact q,fun b ps q=>⟨#[],by rw[aL (hm b _ q fun z=>z),q];simp⟩⟩
 by_cases hbe:b=e
 ·subst hbe;exact heo
 ·exact⟨u,k b u hbe q⟩
end
abbrev trk(h:Heap)(H:Hp):List Addr:=(List.range h.objs.size).filter fun a=>(H a).isSome
abbrev iW(h:Heap)(H:Hp):Heap:=PySem.W.hideAll h (trk h H)
def wN(h:Heap)(H:Hp):(iW h H).objs.size=h.objs.size:=PySem.W.hideAll_size _ _
def yR(e:h.get? b=some o)(n:H b=none):(iW h H).get? b=some o :=
 PySem.W.hideAll_get _ e fun hm=>by
  have q:(H b).isSome=true:=(List.mem_filter.mp hm).2;rw[n]at q;simp at q
def BV(e:(iW h H).get? b=some o):h.get? b=some o/\H b=none:=by
 have e':h.get? b=some o:=PySem.W.of_hideAll (trk h H) e;refine⟨e',?_⟩
 cases q:H b with
 | none=>rfl
 |some x=>
  have hm:b∈trk h H:=List.mem_filter.mpr ⟨List.mem_range.mpr (Heap.lt_size e'),by simp[q]⟩;have z:(iW h H).get? b=none:=PySem.W.hideAll_none (trk h H) hm;rw[z]at e;cases e
structure Mod(K:PySem.W.Frag)(mg:Str->Option Value)(base:Heap):Prop where
 kin:K.In base
 glob:base.Ns mainGlobals mg
 blt:∃ mb,base.Ns builtinsNs mb/\∀ x:Str,x ≠ "__name__" -> mb x=bootBuiltins x
 nolimit:base.NoLimit
structure Cx where
 prog:Program
 w:World
 K:PySem.W.Frag
 mg:Str->Option Value
 base:Heap
 A:Around
 N:List Str
 s₀:Shared
 H₀:Hp
 env:Env
 outer:List Env
 stack:List Env
 ex:List Addr
 fn:Str->Bool
 calm:Bool
 pn:List (Addr × Obj)
 xe:Value->Shared->Prop
abbrev frs(l:List Env):List Addr:=l.filterMap (·.frame)
@[reducible]noncomputable def Cx.fs(X:Cx):List Addr:=frs X.outer
abbrev Vis(sc:Scope)(x:Str):Prop:=sc.names.lookup x=some .local\/sc.names.lookup x=some .cell\/sc.names.lookup x=some .free
abbrev Loc(sc:Scope)(x:Str):Prop:=sc.names.lookup x=some .local\/sc.names.lookup x=some .cell
abbrev Look(env:Env)(h:Heap)(m:Str->Option Value)(x:Str)(u:Value):Prop :=
 (env.kindOf x=some .local/\m x=some u)\/((env.kindOf x=some .cell\/env.kindOf x=some .free)/\∃ c,env.cells.lookup x=some c/\h.IsCell c (some u))
abbrev HX(X:Cx):Prop:=X.A.handled=none\/∃ h o u vs,X.A.handled=some (.ref h)/\X.H₀ h=some (.frz o u)/\o.data=.fields vs/\vs[2]?=some .none
structure Cx.Ok(X:Cx):Prop where
 mod:Mod X.K X.mg X.base
 kind:X.env.scope.kind=.function
 glob:X.env.globals=mainGlobals
 blt:X.env.builtins=builtinsNs
 above:X.s₀.heap.objs.size<=X.env.locals
 inj:∀ x y c,X.env.cells.lookup x=some c->X.env.cells.lookup y=some c->x=y
 has:∀ x,(X.env.kindOf x=some .cell\/X.env.kindOf x=some .free)->∃ c,X.env.cells.lookup x=some c
 cab:∀ x c,X.fn x=true->X.env.cells.lookup x=some c->X.s₀.heap.objs.size<=c
 hd:(X.calm=true->X.A.handled=none)/\HX X
 frames:X.A.frames=some X.stack
 stk:X.stack=X.outer\/(X.stack=X.env::X.outer/\X.env.frame=some X.env.locals)
 exf:∀ b∈X.ex,b≠X.env.locals/\∀ x c,X.env.cells.lookup x=some c->c≠b
 bs:∀ b o,X.base.get? b=some o->X.s₀.heap.get? b=some o/\X.H₀ b=none
 bsz:X.base.objs.size<=X.s₀.heap.objs.size
 sE:∀ b o,X.base.get? b=some o->b∉X.ex
 rZ:∀ b∈X.ex,b∉X.fs
 gR:X.s₀.heap.FunFrames X.base X.outer
 frf:∀ b∈X.fs,X.H₀ b=none
structure Inv(X:Cx)(pins:List (Addr × Obj))(σ:List (Option V))(H:Hp)(s:Shared):Prop where
 ok:X.Ok
 os:s.os=X.s₀.os
 bare:AllBare s.gens
 base:Un X.fs X.ex X.H₀ H X.s₀.heap s.heap
 loc:∃ m,s.heap.Ns X.env.locals m/\∀ (i:Nat) (x:Str) (v:V),X.N[i]?=some x->σ[i]?=some (some v)->Vis X.env.scope x->∃ u,RelV v u/\Look X.env s.heap m x u
 cell:∀ x c,X.env.cells.lookup x=some c->∃ v,s.heap.IsCell c v
 free:H X.env.locals=none
 eE:∀ x c,X.env.cells.lookup x=some c->H c=none
 pin:∀ p∈X.pn++pins,s.heap.get? p.1=some p.2/\H p.1=none/\p.1≠X.env.locals/\p.1∉X.fs/\∀ v,p.2.data≠.cell v
 hok:HOk X.prog X.w H s.heap
 len:σ.length=X.N.length
section
variable{X:Cx}{pins:List (Addr × Obj)}{σ:List (Option V)}{H H':Hp}{s:Shared}{h':Heap}
def Cx.Ok.IL(ok:X.Ok)(e:X.base.get? b=some o):b∉X.fs:=fun hb=>by
 have:=(ok.gR.mem hb).1;rw[e]at this;cases this
def Inv.bs(I:Inv X pins σ H s):∀ b o,X.base.get? b=some o->s.heap.get? b=some o/\H b=none:=fun b o e =>
 ⟨I.base.keep b o (I.ok.bs b o e).1 (I.ok.bs b o e).2 (I.ok.IL e) (I.ok.sE b o e),I.base.free b o (I.ok.bs b o e).1 (I.ok.bs b o e).2 (I.ok.sE b o e)⟩
def Inv.bk(I:Inv X pins σ H s):∀ b o,X.base.get? b=some o->s.heap.get? b=some o:=fun b o e=>(I.bs b o e).1
def Inv.mod(I:Inv X pins σ H s):Mod X.K X.mg X.base:=I.ok.mod
def Inv.kIn(I:Inv X pins σ H s):X.K.In s.heap:=I.ok.mod.kin.keeps I.bk
def Inv.lt(I:Inv X pins σ H s):X.env.locals<s.heap.objs.size:=let ⟨_,hn,_⟩:=I.loc;hn.lt
def Inv.sz(I:Inv X pins σ H s):X.s₀.heap.objs.size<=s.heap.objs.size:=Nat.le_trans I.ok.above (Nat.le_of_lt I.lt)
def Inv.IK(I:Inv X pins σ H s)(h:s.heap.objs.size<=a):a∉X.fs:=fun hb=>by
 obtain⟨_,o,ho,_⟩:=I.ok.gR.mem hb;exact absurd (Nat.lt_of_lt_of_le (Heap.lt_size ho) (Nat.le_trans I.sz h)) (Nat.lt_irrefl _)
def Inv.cne(I:Inv X pins σ H s):∀ x c,X.env.cells.lookup x=some c->c≠X.env.locals:=fun x c e z=>by
 obtain⟨v,o,ho,hd⟩:=I.cell x c e;obtain⟨m,⟨o',es,ep,ho',hd',_⟩,_⟩:=I.loc;rw[z,ho']at ho;cases ho;rw[hd']at hd;cases hd
def Inv.gR(I:Inv X pins σ H s):s.heap.FunFrames X.base X.outer:=by
 have all:∀ (l:List Env),(∀ b∈frs l,b∈X.fs)->X.s₀.heap.FunFrames X.base l->s.heap.FunFrames X.base l:=by
  intro l
  induction l with
  | nil=>intro _ _;trivial
  |cons env r ih=>
   intro hs hl;obtain⟨hk,⟨L,o,hf,hn,ho,hd⟩,hr⟩:=hl;have hL:L∈X.fs:=hs L (by unfold frs;rw[List.filterMap_cons,hf];exact List.mem_cons_self);obtain⟨sl,e⟩:=I.base.slot L o ho (I.ok.frf L hL) hL fun z=>I.ok.rZ L z hL;exact⟨hk,⟨L,_,hf,hn,e,hd⟩,ih (fun b hb=>hs b (by unfold frs;rw[List.filterMap_cons,hf];exact List.mem_cons_of_mem _ hb)) hr⟩
 exact all X.outer (fun _ hb=>hb) I.ok.gR
def Inv.stack(I:Inv X pins σ H s):s.heap.FunFrames X.base X.stack:=by
 rcases I.ok.stk with e | ⟨e,hf⟩
 ·rw[e];exact I.gR
 ·rw[e];obtain⟨m,hn,_⟩:=I.loc;refine .cons (by rw[I.ok.kind];decide) hf hn ?_ I.gR;exact Heap.get?_none_of_le (Nat.le_trans I.ok.bsz I.ok.above)
def Inv.sP(I:Inv X pins σ H s):∀ b∈frs X.stack,b∈X.env.locals::X.fs:=fun b hb=>by
 rcases I.ok.stk with e | ⟨e,hf⟩
 ·rw[e]at hb;exact List.mem_cons_of_mem _ hb
 ·rw[e]at hb;unfold frs at hb;rw[List.filterMap_cons,hf]at hb;exact hb
def Inv.uA(I:Inv X pins σ H s):∀ b∈frs X.stack,H b=none:=fun b hb=>by
 rcases List.mem_cons.mp (I.sP b hb)with e | hb
 ·rw[e];exact I.free
 ·obtain⟨_,o,ho,_⟩:=I.ok.gR.mem hb;exact I.base.free b o ho (I.ok.frf b hb) fun z=>I.ok.rZ b z hb
def Inv.step{g':Array GenState}{t':Nat}{d':Drawn}{ch:List Addr}(I:Inv X pins σ H s)
 (hch:∀ b∈ch,(b∈X.ex\/X.s₀.heap.objs.size<=b)/\b≠X.env.locals/\(∀ x c,X.env.cells.lookup x=some c->c≠b)/\∀ p∈X.pn++pins,p.1≠b)
 (keep:∀ b o,b≠X.env.locals->b∉X.fs->b∉ch->s.heap.get? b=some o->H b=none->h'.get? b=some o)
 (slot:∀ b o,b≠X.env.locals->b∈X.fs->b∉ch->s.heap.get? b=some o->H b=none->∃ sl,h'.get? b=some { o with slots:=sl })(free:∀ b o,b∉ch->s.heap.get? b=some o->H b=none->H' b=none)
 (there:∀ b o,b∉ch->s.heap.get? b=some o->∃ o',h'.get? b=some o')
 (jR:∀ b xs,H b=some (.tup xs)->H' b=some (.tup xs))(gW:∀ b o u,H b=some (.frz o u)->H' b=some (.frz o u))(jE:∀ b ps,H b=some (.tbl ps)->∃ more,H' b=some (.tbl (ps++more)))
 (ns:∀ m,s.heap.Ns X.env.locals m->h'.Ns X.env.locals m)(hok:HOk X.prog X.w H' h')(hg:AllBare g') :
  Inv X pins σ H' { s with heap:=h',gens:=g',drawn:=d',toks:=t' }:=by
 have neL:∀ b o,X.s₀.heap.get? b=some o->b≠X.env.locals:=fun b o e=>Nat.ne_of_lt (Nat.lt_of_lt_of_le (Heap.lt_size e) I.ok.above)
 have neC:∀ b o,X.s₀.heap.get? b=some o->b∉X.ex->b∉ch:=fun b o e hx hb=>by
  rcases(hch b hb).1 with z | z
  ·exact hx z
  ·exact absurd (Nat.lt_of_lt_of_le (Heap.lt_size e) z) (Nat.lt_irrefl _)
 have cellK:∀ x c,X.env.cells.lookup x=some c->∀ v,s.heap.IsCell c v->h'.IsCell c v:=fun x c e v ⟨o,ho,hd⟩=>by
  have nch:c∉ch:=fun z=>(hch c z).2.2.1 x c e rfl;by_cases hc:c∈X.fs
  ·obtain⟨sl,q⟩:=slot c o (I.cne x c e) hc nch ho (I.eE x c e);exact⟨_,q,hd⟩
  ·exact⟨o,keep c o (I.cne x c e) hc nch ho (I.eE x c e),hd⟩
 refine⟨I.ok,I.os,hg,⟨fun b o e n hb hx=>?_,fun b o e n hb hx=>?_,fun b o e n hx=>?_,fun b o e hx=>?_,fun b xs e=>jR b xs (I.base.jR b xs e),fun b o xs e=>gW b o xs (I.base.gW b o xs e),fun b ps e=>?_⟩,?_,fun x c e=>?_,?_,fun x c e=>?_,fun p hp=>?_,hok,I.len⟩
 ·exact keep b o (neL b o e) hb (neC b o e hx) (I.base.keep b o e n hb hx) (I.base.free b o e n hx)
 ·obtain⟨sl,e1⟩:=I.base.slot b o e n hb hx;obtain⟨sl',e2⟩:=slot b _ (neL b o e) hb (neC b o e hx) e1 (I.base.free b o e n hx);exact⟨sl',e2⟩
 ·obtain⟨o',e1⟩:=I.base.there b o e hx;exact free b o' (neC b o e hx) e1 (I.base.free b o e n hx)
 ·obtain⟨o',e1⟩:=I.base.there b o e hx;exact there b o' (neC b o e hx) e1
 ·obtain⟨m1,e1⟩:=I.base.jE b ps e;obtain⟨m2,e2⟩:=jE b _ e1;exact⟨m1++m2,by rw[e2,Array.append_assoc]⟩
 ·obtain⟨m,hn,hl⟩:=I.loc;refine⟨m,ns m hn,fun i x v e1 e2 e3=>?_⟩;obtain⟨u,r,l⟩:=hl i x v e1 e2 e3;refine⟨u,r,?_⟩
  rcases l with l | ⟨k,c,e,z⟩
  ·exact .inl l
  ·exact .inr ⟨k,c,e,cellK x c e _ z⟩
 ·obtain⟨v,z⟩:=I.cell x c e;exact⟨v,cellK x c e v z⟩
 ·obtain⟨m,⟨o,_,_,ho,_⟩,_⟩:=I.loc;exact free _ o (fun z=>(hch _ z).2.1 rfl) ho I.free
 ·obtain⟨v,o,ho,hd⟩:=I.cell x c e;exact free c o (fun z=>(hch c z).2.2.1 x c e rfl) ho (I.eE x c e)
 ·obtain⟨e,n,ne,nf,d⟩:=I.pin p hp;have nch:p.1∉ch:=fun z=>(hch p.1 z).2.2.2 p hp rfl;exact⟨keep p.1 p.2 ne nf nch e n,free p.1 p.2 nch e n,ne,nf,d⟩
def Inv.un(I:Inv X pins σ H s)(u:Un X.fs [] H H' s.heap h')(hok:HOk X.prog X.w H' h'):Inv X pins σ H' { s with heap:=h',toks:=t' }:=by
 obtain⟨m,⟨o,es,ep,ho,r⟩,_⟩:=id I.loc;obtain⟨sl,hL⟩:=u.any ho I.free (by simp)
 exact I.step (g':=s.gens) (d':=s.drawn) (ch:=[]) (fun _ z=>nomatch z) (fun b o _ hb _ e n=>u.keep b o e n hb (by simp)) (fun b o _ hb _ e n=>u.slot b o e n hb (by simp)) (fun b o _ e n=>u.free b o e n (by simp)) (fun b o _ e=>u.there b o e (by simp)) u.jR u.gW u.jE (fun m' hm=>by
  obtain⟨o',es',ep',ho',r'⟩:=hm;rw[ho]at ho';cases ho'
  exact⟨_,es',ep',hL,r'⟩) hok I.bare
def Inv.call(I:Inv X pins σ H s)(u:Un (frs X.stack) ch H H' s.heap h')(hok:HOk X.prog X.w H' h')(hg:AllBare g')
 (hch:∀ b∈ch,(b∈X.ex\/X.s₀.heap.objs.size<=b)/\b≠X.env.locals/\(∀ x c,X.env.cells.lookup x=some c->c≠b)/\∀ p∈X.pn++pins,p.1≠b) :
  Inv X pins σ H' { s with heap:=h',gens:=g',drawn:=d',toks:=t' }:=by
 obtain⟨m,⟨o,es,ep,ho,r⟩,_⟩:=id I.loc;obtain⟨sl,hL⟩:=u.any ho I.free fun z=>(hch _ z).2.1 rfl
 exact I.step (ch:=ch) hch (fun b o hL hb hc e n=>u.keep b o e n (fun z=>(List.mem_cons.mp (I.sP b z)).elim hL hb) hc) (fun b o _ _ hc e n=>u.any e n hc) (fun b o hc e n=>u.free b o e n hc) (fun b o hc e=>u.there b o e hc) u.jR u.gW u.jE (fun m' hm=>by
  obtain⟨o',es',ep',ho',r'⟩:=hm;rw[ho]at ho';cases ho'
  exact⟨_,es',ep',hL,r'⟩) hok hg
def Inv.turned(I:Inv X pins σ H s)(k:∀ b o,b≠it->s.heap.get? b=some o->h'.get? b=some o)(hn:H it=none)(hL:it≠X.env.locals)
 (h1:it∈X.ex\/X.s₀.heap.objs.size<=it)(h2:∀ x c,X.env.cells.lookup x=some c->c≠it)(h3:∀ p∈X.pn++pins,p.1≠it):Inv X pins σ H { s with heap:=h',toks:=t' }:=by
 have nit:∀ b u,H b=some u->b≠it:=fun b u e z=>by rw[z,hn]at e;cases e
 refine I.step (g':=s.gens) (d':=s.drawn) (ch:=[it]) (fun b hb=>?_) (fun b o _ _ hc e _=>k b o (fun z=>hc (by simp[z])) e) (fun b o _ _ hc e _=>⟨o.slots,k b o (fun z=>hc (by simp[z])) e⟩) (fun _ _ _ _ n=>n)
  (fun b o hc e=>⟨o,k b o (fun z=>hc (by simp[z])) e⟩) (fun _ _ e=>e) (fun _ _ _ e=>e) (fun b ps e=>⟨#[],by rw[e];simp⟩) (fun m hm=>?_) (fun b u e=>?_) I.bare
 ·have e:b=it:=by simpa using hb
  subst e;exact⟨h1,hL,h2,h3⟩
 ·obtain⟨o,es,ep,ho,r⟩:=hm;exact⟨o,es,ep,k _ o (Ne.symm hL) ho,r⟩
 ·refine(I.hok b u e).oH (fun c v hc q=>k c v ?_ q) (fun _ q=>q) fun _ _ q=>q;rcases hc with z | z
  ·rw[z];exact nit b u e
  ·exact nit c _ z
def Inv.tok(I:Inv X pins σ H s)(t:Nat):Inv X pins σ H { s with toks:=t }:=I.un (h':=s.heap) (t':=t) Un.refl I.hok
def Inv.kept(I:Inv X pins σ H s)(k:∀ b u,s.heap.get? b=some u->h'.get? b=some u):Inv X pins σ H { s with heap:=h',toks:=t' }:=I.un (Un.kept k) (I.hok.kept k)
def Inv.laid(I:Inv X pins σ H s)(k:∀ b u,s.heap.get? b=some u->h'.get? b=some u)(hp:s.heap.objs.size<=a)(new:bu X.prog X.w (upd H a o) h' a o) :
  Inv X pins σ (upd H a o) { s with heap:=h',toks:=t' }:=I.un (Un.laid k hp (I.hok.fresh hp)) (I.hok.laid k hp new)
def Inv.write(I:Inv X pins σ H s)(mu:Mut (H x))(he:e=x\/H e=some (.own x))(k:∀ b u,b≠e->s.heap.get? b=some u->h'.get? b=some u)(heo:∃ u,h'.get? e=some u)
 (new:bu X.prog X.w (upd H x o) h' x o):Inv X pins σ (upd H x o) { s with heap:=h',toks:=t' }:=I.un (Un.write mu he k heo) (I.hok.write mu he k heo new)
def Inv.weak(I:Inv X pins σ H s)(hl:σ'.length=σ.length)(w:∀ (i:Nat) v,σ'[i]?=some (some v)->σ[i]?=some (some v)):Inv X pins σ' H s :=
 ⟨I.ok,I.os,I.bare,I.base,let ⟨m,hn,hl'⟩:=I.loc;⟨m,hn,fun i x v e1 e2 e3=>hl' i x v e1 (w i v e2) e3⟩,I.cell,I.free,I.eE,I.pin,I.hok,hl.trans I.len⟩
def Inv.tU(I:Inv X pins σ H s)(h:∀ p∈pins',s.heap.get? p.1=some p.2/\H p.1=none/\p.1≠X.env.locals/\p.1∉X.fs/\∀ v,p.2.data≠.cell v):Inv X pins' σ H s :=
 ⟨I.ok,I.os,I.bare,I.base,I.loc,I.cell,I.free,I.eE,fun p hp=>(List.mem_append.mp hp).elim (fun z=>I.pin p (List.mem_append_left _ z)) (h p),I.hok,I.len⟩
def sg{N:List Str}(hN:N.Nodup){i j:Nat}(a:N[i]?=some x)(b:N[j]?=some x):i=j:=by
 obtain⟨h1,e1⟩:=List.getElem?_eq_some_iff.mp a;obtain⟨h2,e2⟩:=List.getElem?_eq_some_iff.mp b;exact(List.getElem_inj hN).mp (e1.trans e2.symm)
def pE{M:Model}{A:Around}(I:Inv X pins σ H s)(hN:X.N.Nodup)(hi:X.N[i]?=some x)(hx:Loc X.env.scope x)(r:RelV v u)
 (h:∀ s',Inv X pins (σ.set i (some v)) H s'->(∃ a,Heap.SameBut a s.heap s'.heap/\(a=X.env.locals\/X.env.cells.lookup x=some a))->Q () s')(hf:X.fn x=true\/X.env.scope.names.lookup x=some .local):wpAny M A (storeName X.env x u) Q E s:=by
 obtain⟨m,hn,hl⟩:=id I.loc
 have hcls:(X.env.scope.kind == .class || (X.env.scope.kind == .module&&X.env.locals != X.env.globals))=false:=by rw[I.ok.kind];rfl
 have hiσ:i<σ.length:=by rw[I.len];exact(List.getElem?_eq_some_iff.mp hi).1
 have cne:=I.cne
 have tracked:∀ {a:Addr} {h':Heap},(∃ o,s.heap.get? a=some o/\H a=none)->Heap.SameBut a s.heap h'->HOk X.prog X.w H h':=fun {a h'} ha hs b ob e=>by
  obtain⟨_,_,hfree⟩:=ha;refine(I.hok b ob e).oH (fun c w' hc q=>(hs.2 c ?_).trans q) (fun _ q=>q) fun _ _ q=>q;rintro rfl;rcases hc with rfl | hc
  ·rw[hfree]at e;cases e
  ·rw[hfree]at hc;cases hc
 rcases hx with hk | hk
 ·refine wpAny_storeName_local hk hn (fun h' hn' hs=>?_) hcls;obtain⟨oL,_,_,hoL,_⟩:=id hn;refine h _ ⟨I.ok,I.os,I.bare,⟨fun b o e n hb hx=>?_,fun b o e n hb hx=>?_,I.base.free,fun b o e hx=>?_,I.base.jR,I.base.gW,I.base.jE⟩,⟨_,hn',fun j y v' e1 e2 e3=>?_⟩,fun y c e=>?_,I.free,I.eE,fun p hp=>?_,tracked ⟨oL,hoL,I.free⟩ hs,by simpa using I.len⟩ ⟨_,hs,.inl rfl⟩
  ·exact(hs.2 b (Nat.ne_of_lt (Nat.lt_of_lt_of_le (Heap.lt_size e) I.ok.above))).trans (I.base.keep b o e n hb hx)
  ·obtain⟨sl,e1⟩:=I.base.slot b o e n hb hx;exact⟨sl,(hs.2 b (Nat.ne_of_lt (Nat.lt_of_lt_of_le (Heap.lt_size e) I.ok.above))).trans e1⟩
  ·obtain⟨o',e1⟩:=I.base.there b o e hx;exact⟨o',(hs.2 b (Nat.ne_of_lt (Nat.lt_of_lt_of_le (Heap.lt_size e) I.ok.above))).trans e1⟩
  ·by_cases hj:j=i
   ·subst hj;rw[hi]at e1;cases e1;rw[List.getElem?_set_self hiσ]at e2;cases e2;exact⟨u,r,.inl ⟨hk,by simp⟩⟩
   ·rw[List.getElem?_set_ne (Ne.symm hj)]at e2;obtain⟨u',r',q⟩:=hl j y v' e1 e2 e3;refine⟨u',r',?_⟩
    rcases q with⟨k,e⟩ | ⟨k,c,e,z⟩
    ·refine .inl ⟨k,?_⟩;have:y≠x:=fun e=>hj (sg hN e1 (e▸hi));simp[this,e]
    ·exact .inr ⟨k,c,e,z.sameBut hs (cne y c e)⟩
  ·obtain⟨w',z⟩:=I.cell y c e;exact⟨w',z.sameBut hs (cne y c e)⟩
  ·obtain⟨e,n,ne,nf,d⟩:=I.pin p hp;exact⟨(hs.2 p.1 ne).trans e,n,ne,nf,d⟩
 ·have hfn:X.fn x=true:=by
   rcases hf with z | z
   ·exact z
   ·rw[z]at hk;cases hk
  obtain⟨c,hc⟩:=I.ok.has x (.inl hk);obtain⟨w',z⟩:=I.cell x c hc;refine wpAny_storeName_cell I.ok.kind hk hc z (fun h' hc' hs=>?_);obtain⟨oc,hoc,hocd⟩:=id z;refine h { s with heap:=h' } ⟨I.ok,I.os,I.bare,⟨fun b o e n hb hx=>?_,fun b o e n hb hx=>?_,I.base.free,fun b o e hx=>?_,I.base.jR,I.base.gW,I.base.jE⟩,⟨m,hn.sameBut hs (Ne.symm (cne x c hc)),fun j y v' e1 e2 e3=>?_⟩,fun y c' e=>?_,I.free,I.eE,fun p hp=>?_,tracked ⟨oc,hoc,I.eE x c hc⟩ hs,by simpa using I.len⟩ ⟨c,hs,.inr hc⟩
  ·exact(hs.2 b (Nat.ne_of_lt (Nat.lt_of_lt_of_le (Heap.lt_size e) (I.ok.cab x c hfn hc)))).trans (I.base.keep b o e n hb hx)
  ·obtain⟨sl,e1⟩:=I.base.slot b o e n hb hx;exact⟨sl,(hs.2 b (Nat.ne_of_lt (Nat.lt_of_lt_of_le (Heap.lt_size e) (I.ok.cab x c hfn hc)))).trans e1⟩
  ·obtain⟨o',e1⟩:=I.base.there b o e hx;exact⟨o',(hs.2 b (Nat.ne_of_lt (Nat.lt_of_lt_of_le (Heap.lt_size e) (I.ok.cab x c hfn hc)))).trans e1⟩
  ·by_cases hj:j=i
   ·subst hj;rw[hi]at e1;cases e1;rw[List.getElem?_set_self hiσ]at e2;cases e2;exact⟨u,r,.inr ⟨.inl hk,c,hc,hc'⟩⟩
   ·rw[List.getElem?_set_ne (Ne.symm hj)]at e2;obtain⟨u',r',q⟩:=hl j y v' e1 e2 e3;refine⟨u',r',?_⟩
    rcases q with q | ⟨k,c',e,z'⟩
    ·exact .inl q
    ·refine .inr ⟨k,c',e,z'.sameBut hs ?_⟩;rintro rfl;exact hj (sg hN e1 (I.ok.inj _ _ _ e hc▸hi))
  ·by_cases hcc:c'=c
   ·subst hcc;exact⟨_,hc'⟩
   ·obtain⟨w2,z2⟩:=I.cell y c' e;exact⟨w2,z2.sameBut hs hcc⟩
  ·obtain⟨e,n,ne,nf,d⟩:=I.pin p hp;refine⟨(hs.2 p.1 ?_).trans e,n,ne,nf,d⟩;intro q;rw[q,hoc]at e;have q':oc=p.2:=Option.some.inj e;exact d w' (by rw[<-q'];exact hocd)
def gY(I:Inv X pins σ H s)(hN:X.N.Nodup)(hi:X.N[i]?=some x)(hx:Loc X.env.scope x)(r:RelV v u)
 (h:∀ s',Inv X pins (σ.set i (some v)) H s'->Q () s')(hf:X.fn x=true\/X.env.scope.names.lookup x=some .local):wpAny M A (storeName X.env x u) Q E s :=
 pE I hN hi hx r (fun s' I' _=>h s' I') hf
def Inv.Bk(I:Inv X pins σ H s)(ho:s'.os=s.os)(u:Un (frs X.stack) ch H H' s.heap s'.heap)(hok:HOk X.prog X.w H' s'.heap)(hg:AllBare s'.gens)
 (hch:∀ b∈ch,(b∈X.ex\/X.s₀.heap.objs.size<=b)/\b≠X.env.locals/\(∀ x c,X.env.cells.lookup x=some c->c≠b)/\∀ p∈X.pn++pins,p.1≠b):Inv X pins σ H' s':=by
 obtain⟨h',g',d',t',o'⟩:=s';have e:o'=s.os:=ho;subst e;exact I.call (g':=g') (t':=t') (d':=d') u hok hg hch
end
@[reducible]noncomputable def XK:=Value->Option Addr->Hp->Prop
@[reducible]noncomputable def St:=List (Option V)
@[reducible]noncomputable def VK:=V->Hp->Prop
@[reducible]noncomputable def TE:=St->Hp->VK->Prop
@[reducible]noncomputable def TT:=St->Hp->(Bool->Hp->Prop)->Prop
@[reducible]noncomputable def TA:=St->Hp->(List V->Hp->Prop)->Prop
structure Ends where
 nx:St->Hp->Prop
 rt:VK
 bk:St->Hp->Prop:=fun _ _=>False
 ct:St->Hp->Prop:=fun _ _=>False
@[reducible]noncomputable def TS:=Ends->St->Hp->Prop
abbrev EP(X:Cx)(pins:List (Addr × Obj))(σ:St)(Q:VK)(u:Value)(s':Shared):Prop:=∃ v H',Inv X pins σ H' s'/\RelV v u/\Q v H'
abbrev TP(X:Cx)(pins:List (Addr × Obj))(σ:St)(Q:Bool->Hp->Prop)(b:Bool)(s':Shared):Prop:=∃ H',Inv X pins σ H' s'/\Q b H'
abbrev AP(X:Cx)(pins:List (Addr × Obj))(σ:St)(Q:List V->Hp->Prop)(us:List Value)(s':Shared):Prop:=∃ vs H',Inv X pins σ H' s'/\Vals vs us/\Q vs H'
abbrev SP(X:Cx)(pins:List (Addr × Obj))(D:Ends)(f:Flow)(s':Shared):Prop :=
 match f with
 | .next=>∃ σ' H',Inv X pins σ' H' s'/\D.nx σ' H'
 | .brk=>∃ σ' H',Inv X pins σ' H' s'/\D.bk σ' H'
 | .cont=>∃ σ' H',Inv X pins σ' H' s'/\D.ct σ' H'
 | .ret u=>∃ v σ' H',Inv X pins σ' H' s'/\RelV v u/\D.rt v H'
abbrev PE(X:Cx)(e:Expr)(t:TE):Prop :=
 ∀ (pins:List (Addr × Obj)) (s:Shared) (σ:St) (H:Hp) (Q:VK),Inv X pins σ H s->t σ H Q->wpAny (model X.prog X.w) X.A (eval e X.env) (EP X pins σ Q) X.xe s
abbrev PT(X:Cx)(e:Expr)(t:TT):Prop :=
 ∀ (pins:List (Addr × Obj)) (s:Shared) (σ:St) (H:Hp) (Q:Bool->Hp->Prop),Inv X pins σ H s->t σ H Q->wpAny (model X.prog X.w) X.A (isTrue e X.env (eval e X.env)) (TP X pins σ Q) X.xe s
abbrev PW(X:Cx)(e:Expr)(t:TT):Prop :=
 ∀ (whole:Sem Value) (pins:List (Addr × Obj)) (s:Shared) (σ:St) (H:Hp) (Q:Bool->Hp->Prop),Inv X pins σ H s->t σ H Q->wpAny (model X.prog X.w) X.A (isTrue e X.env whole) (TP X pins σ Q) X.xe s
def PW.pt(h:PW X e t):PT X e t:=h _
abbrev PA(X:Cx)(es:List Expr)(t:TA):Prop :=
 ∀ (pos:Pos) (pins:List (Addr × Obj)) (s:Shared) (σ:St) (H:Hp) (Q:List V->Hp->Prop),Inv X pins σ H s->t σ H Q->wpAny (model X.prog X.w) X.A (spliced (backTo pos (starEach es X.env))) (AP X pins σ Q) X.xe s
abbrev PS(X:Cx)(st:Stmt)(t:TS):Prop :=
 ∀ (pins:List (Addr × Obj)) (s:Shared) (σ:St) (H:Hp) (D:Ends),Inv X pins σ H s->t D σ H->wpAny (model X.prog X.w) X.A (exec st X.env) (SP X pins D) X.xe s
abbrev PSs(X:Cx)(st:List Stmt)(t:TS):Prop :=
 ∀ (pins:List (Addr × Obj)) (s:Shared) (σ:St) (H:Hp) (D:Ends),Inv X pins σ H s->t D σ H->wpAny (model X.prog X.w) X.A (execs st X.env) (SP X pins D) X.xe s
def thn(h:wpAny M A t Q E s)(hQ:∀ a s,Q a s->Q' a s):wpAny M A t Q' E s:=wpAny_mono h hQ fun _ _ x=>x
section
variable{X:Cx}
abbrev gF(i:Nat):TE:=fun σ H Q=>∃ v,σ[i]?=some (some v)/\Q v H
abbrev tC(v:V):TE:=fun _ H Q=>Q v H
def eh(hN:X.N[i]?=some x)(hv:Vis X.env.scope x)(hd:(x == ("__debug__" : Str))=false)(hcd:(x == ("__classdict__" : Str))=false):PE X (.Name x pos) (gF i):=by
 intro pins s σ H Q I h;obtain⟨v,e,h⟩:=h;obtain⟨m,hn,hl⟩:=I.loc;obtain⟨u,r,l⟩:=hl i x v hN e hv
 have fin:EP X pins σ Q u s:=⟨v,H,I,r,h⟩
 rcases l with⟨hk,hm⟩ | ⟨hk,c,hc,hcell⟩
 ·exact wpAny_Name (wpAny_loadName_local I.ok.kind hk hn hm fin) hd
 ·rcases hk with hk | hk
  ·exact wpAny_Name (wpAny_loadName_cell I.ok.kind hk hc hcell fin) hd
  ·exact wpAny_Name (wpAny_loadName_free I.ok.kind hk hc hcell fin hcd) hd
def qF:PE X (.Constant (.int i) j pos) (tC (.int i)):=fun _ _ _ H _ I h=>wpAny_Constant_int ⟨.int i,H,I.tok _,⟨_,rfl⟩,h⟩
def Hc:PE X (.Constant (.bool b) j pos) (tC (.bl b)):=fun _ _ _ H _ I h=>Constant_bool ⟨.bl b,H,I,rfl,h⟩
def EC:PE X (.Constant .none j pos) (tC .non):=fun _ _ _ H _ I h=>Constant_none ⟨.non,H,I,rfl,h⟩
def FQ:PE X (.Constant (.str x) j pos) (tC (.str x)):=fun _ _ _ H _ I h=>Calls.Constant_str ⟨.str x,H,I.tok _,⟨_,rfl⟩,h⟩
abbrev Gl(X:Cx)(x:Str):Prop:=X.env.kindOf x=some .globalImplicit
def uq(I:Inv X pins σ H s)(hg:Gl X x)(hm:X.mg x=some u)(h:Q u s)
 (hd:(x == ("__debug__" : Str))=false):wpAny (model X.prog X.w) X.A (eval (.Name x pos) X.env) Q E s :=
 Calls.Name_function_global I.ok.kind hg (Calls.loadGlobal_global (by rw[I.ok.glob];exact I.mod.glob.keeps I.bk) hm h) hd
def gP(I:Inv X pins σ H s)(hg:Gl X x)(hm:X.mg x=none)(hv:bootBuiltins x=some u)(h:Q u s)
 (hn:x ≠ "__name__")(hd:(x == ("__debug__" : Str))=false):wpAny (model X.prog X.w) X.A (eval (.Name x pos) X.env) Q E s:=by
 obtain⟨mb,h1,h2⟩:=I.mod.blt;exact Calls.Name_function_global I.ok.kind hg (Calls.loadGlobal_builtin (by rw[I.ok.glob];exact I.mod.glob.keeps I.bk) hm (by rw[I.ok.blt];exact h1.keeps I.bk) ((h2 x hn).trans hv) h) hd
def BQ(hg:Gl X x)(hm:X.mg x=some u)(r:RelV v u)(hd:(x == ("__debug__" : Str))=false):PE X (.Name x pos) (tC v) :=
 fun _ _ _ H _ I h=>uq I hg hm ⟨v,H,I,r,h⟩ hd
def Cw(hg:Gl X x)(hm:X.mg x=none)(hv:bootBuiltins x=some u)(r:RelV v u)(hn:x ≠ "__name__")(hd:(x == ("__debug__" : Str))=false):PE X (.Name x pos) (tC v) :=
 fun _ _ _ H _ I h=>gP I hg hm hv ⟨v,H,I,r,h⟩ hn hd
variable{a b:Expr}{ta tb:TE}{pos:Pos}
abbrev PC(X:Cx)(op:CmpOp)(a b:Expr)(t:TE):Prop :=
 ∀ (pins:List (Addr × Obj)) (s:Shared) (σ:St) (H:Hp) (Q:VK),Inv X pins σ H s->t σ H Q ->
  wpAny (model X.prog X.w) X.A (eval a X.env) (fun v s₁=>wpAny (model X.prog X.w) X.A (eval b X.env) (fun u s₂=>wpAny (model X.prog X.w) X.A (compareOp op v u) (EP X pins σ Q) X.xe s₂) X.xe s₁) X.xe s
abbrev tB(t:TE):TT:=fun σ H Q=>t σ H fun x H1=>∃ c,x=.bl c/\Q c H1
def FL(h:PC X op a b t)(h1:behindInMarks op b=false):PE X (.Compare a [op] [b] pos) t:=fun pins s σ H Q I hw=>wpAny_Compare1 (h pins s σ H Q I hw) h1
def D8(h:PC X op a b t)(h1:behindInMarks op b=false):PT X (.Compare a [op] [b] pos) (tB t):=by
 intro pins s σ H Q I hw;refine wpAny_isTrue_Compare1 (thn (h pins s σ H _ I hw) fun v s1 h1=>thn h1 fun u s2 h2=>thn h2 fun c s3 ⟨x,H1,I1,r1,q1⟩=>?_) h1;obtain⟨d,rfl,q⟩:=q1;cases r1;exact wpAny_truthy_bool ⟨H1,I1,q⟩
variable{tA tB':TT}{rest:List Expr}
abbrev Jp(t u:TT):TT:=fun σ H Q=>t σ H fun c H1=>if c=true then u σ H1 Q else Q false H1
abbrev tOr(t u:TT):TT:=fun σ H Q=>t σ H fun c H1=>if c=true then Q true H1 else u σ H1 Q
abbrev Jv(t:TT):TT:=fun σ H Q=>t σ H fun c H1=>Q (!c) H1
def BR(ha:PT X a tA):PW X (.BoolOp .And [a] pos) tA:=by
 intro wh pins s σ H Q I h;refine isTrue_and (thn (ha pins s σ H Q I h) fun c s1 e=>?_)
 cases c with
 | true=>exact isTrue_and_nil e
 | false=>exact e
def EW(ha:PT X a tA):PW X (.BoolOp .Or [a] pos) tA:=by
 intro wh pins s σ H Q I h;refine isTrue_or (thn (ha pins s σ H Q I h) fun c s1 e=>?_)
 cases c with
 | false=>exact isTrue_or_nil e
 | true=>exact e
def ER(ha:PT X a tA)(hb:PW X (.BoolOp .And (b::rest) pos) tB'):PW X (.BoolOp .And (a::b::rest) pos) (Jp tA tB'):=by
 intro wh pins s σ H Q I h;refine isTrue_and (thn (ha pins s σ H _ I h) fun c s1 ⟨H1,I1,q1⟩=>?_)
 cases c with
 | true=>exact hb wh pins s1 σ H1 Q I1 q1
 | false=>exact⟨H1,I1,q1⟩
def GK(ha:PT X a tA)(hb:PW X (.BoolOp .Or (b::rest) pos) tB'):PW X (.BoolOp .Or (a::b::rest) pos) (tOr tA tB'):=by
 intro wh pins s σ H Q I h;refine isTrue_or (thn (ha pins s σ H _ I h) fun c s1 ⟨H1,I1,q1⟩=>?_)
 cases c with
 | true=>exact⟨H1,I1,q1⟩
 | false=>exact hb wh pins s1 σ H1 Q I1 q1
def Ga(ha:PT X a tA):PT X (.UnaryOp .Not a pos) (Jv tA):=by
 intro pins s σ H Q I h;exact isTrue_not (ha pins s σ H (fun c H1=>Q (!c) H1) I h)
abbrev GU(ta tb:TE):TE:=fun σ H Q=>ta σ H fun x H1=>∃ c,x=.bl c/\if c=true then tb σ H1 Q else Q (.bl false) H1
abbrev IM(ta tb:TE):TE:=fun σ H Q=>ta σ H fun x H1=>∃ c,x=.bl c/\if c=true then Q (.bl true) H1 else tb σ H1 Q
def E4(h:PE X a t):PE X (.BoolOp op [a] pos) t:=fun pins s σ H Q I hw=>BoolOp_one (h pins s σ H Q I hw)
def Fx(ha:PE X a ta)(hb:PE X (.BoolOp .And (b::rest) pos) tb):PE X (.BoolOp .And (a::b::rest) pos) (GU ta tb):=by
 intro pins s σ H Q I h;refine BoolOp_and (thn (ha pins s σ H _ I h) fun v s1 ⟨x,H1,I1,r1,q1⟩=>?_);obtain⟨c,rfl,q1⟩:=q1;cases r1;refine wpAny_truthy_bool ?_
 cases c with
 | true=>exact hb pins s1 σ H1 Q I1 q1
 | false=>exact⟨.bl false,H1,I1,rfl,q1⟩
def Ih(ha:PE X a ta)(hb:PE X (.BoolOp .Or (b::rest) pos) tb):PE X (.BoolOp .Or (a::b::rest) pos) (IM ta tb):=by
 intro pins s σ H Q I h;refine BoolOp_or (thn (ha pins s σ H _ I h) fun v s1 ⟨x,H1,I1,r1,q1⟩=>?_);obtain⟨c,rfl,q1⟩:=q1;cases r1;refine wpAny_truthy_bool ?_
 cases c with
 | false=>exact hb pins s1 σ H1 Q I1 q1
 | true=>exact⟨.bl true,H1,I1,rfl,q1⟩
abbrev tIf(t:TT)(ta tb:TE):TE:=fun σ H Q=>t σ H fun c H1=>if c=true then ta σ H1 Q else tb σ H1 Q
def yS(hc:PT X c tA)(ha:PE X a ta)(hb:PE X b tb):PE X (.IfExp c a b pos) (tIf tA ta tb):=by
 intro pins s σ H Q I h;refine wpAny_IfExp (thn (hc pins s σ H _ I h) fun d s1 ⟨H1,I1,q1⟩=>?_)
 cases d with
 | true=>exact ha pins s1 σ H1 Q I1 q1
 | false=>exact hb pins s1 σ H1 Q I1 q1
end
abbrev SqL(K:PySem.W.Frag)(H:Hp)(a:Addr)(xs:List V):Prop :=
 Rd H a (.lst xs) \/
  ∃ (o:Obj) (its:Array Value) (n:Nat),K.lookup a=some o/\o.cls=.type "list" /\ o.dict=none/\o.data=.seq its n/\its.size<=sizeLine/\Vals xs its.toList
abbrev SqT(K:PySem.W.Frag)(H:Hp)(a:Addr)(xs:List V):Prop :=
 Rd H a (.tup xs) \/
  ∃ (o:Obj) (its:Array Value) (n:Nat),K.lookup a=some o/\o.cls=.type "tuple" /\ o.data=.seq its n/\its.size<=sizeLine/\Vals xs its.toList
abbrev Jo:Value->Option V
 | .none=>some .non
 | .bool b=>some (.bl b)
 | .int i _=>some (.int i)
 | .str x _=>some (.str x)
 | .bytes b _=>some (.byt b)
 | .float b _=>some (.flt b)
 | .ref a=>some (.ref a)
 | .type n=>some (.ty n)
 | _=>none
def RelV.abs(r:RelV x u):Jo u=some x:=by
 cases x with
 | non=>cases r;rfl
 | bl _=>cases r;rfl
 | int _=>obtain⟨t,rfl⟩:=r;rfl
 | str _=>obtain⟨t,rfl⟩:=r;rfl
 | byt _=>obtain⟨t,rfl⟩:=r;rfl
 | flt _=>obtain⟨t,rfl⟩:=r;rfl
 | ref _=>cases r;rfl
 | ty _=>cases r;rfl
def RelV.inj(r:RelV x u)(q:RelV y u):x=y:=Option.some.inj (r.abs.symm.trans q.abs)
def Vals.inj:∀ {xs ys:List V} {us:List Value},Vals xs us->Vals ys us->xs=ys
 | _,_,_,.nil,.nil=>rfl
 | _,_,_,.cons r t,.cons r' t'=>by rw[r.inj r',Vals.inj t t']
section
variable{X:Cx}{pins:List (Addr × Obj)}{σ:St}{H:Hp}{s:Shared}{a:Addr}{xs ys:List V}
def SqL.of{K:PySem.W.Frag}(h:H a=some (.lst xs)):SqL K H a xs:=.inl (.inl h)
def SqT.of{K:PySem.W.Frag}(h:H a=some (.tup xs)):SqT K H a xs:=.inl (.inl h)
def Inv.list(I:Inv X pins σ H s)(h:SqL X.K H a xs):∃ its:List Value,Vals xs its/\PlainL s.heap a its.toArray/\xs.length<=sizeLine:=by
 rcases h with h | ⟨o,its,n,hk,hc,hd,hs,hz,r⟩
 ·obtain⟨z,its,n,r,e⟩:=h.ok I.hok;exact⟨its,r,⟨_,n,e,rfl,rfl,rfl⟩,z⟩
 ·refine⟨its.toList,r,⟨o,n,I.kIn a o hk,hc,hd,by simpa using hs⟩,?_⟩;have e:=r.length;simp only[Array.length_toList]at e;omega
def Inv.tuple(I:Inv X pins σ H s)(h:SqT X.K H a xs):∃ its:List Value,Vals xs its/\IsTup s.heap a its.toArray/\xs.length<=sizeLine:=by
 rcases h with h | ⟨o,its,n,hk,hc,hs,hz,r⟩
 ·obtain⟨z,its,r,p⟩:=h.ok I.hok;exact⟨its,r,p,z⟩
 ·refine⟨its.toList,r,⟨o,I.kIn a o hk,hc,n,by simpa using hs⟩,?_⟩;have e:=r.length;simp only[Array.length_toList]at e;omega
def Inv.AI(I:Inv X pins σ H s)(h:SqL X.K H a xs)(h':SqL X.K H a ys):xs=ys:=by
 obtain⟨its,r,⟨o,n,e,_,_,d⟩,_⟩:=I.list h;obtain⟨its',r',⟨o',n',e',_,_,d'⟩,_⟩:=I.list h';rw[e]at e';cases e';rw[d]at d';injection d' with d1 _
 have:its=its':=by simpa using congrArg Array.toList d1
 subst this;exact r.inj r'
def Inv.xH(I:Inv X pins σ H s)(h:SqT X.K H a xs)(h':SqT X.K H a ys):xs=ys:=by
 obtain⟨its,r,⟨o,e,_,n,d⟩,_⟩:=I.tuple h;obtain⟨its',r',⟨o',e',_,n',d'⟩,_⟩:=I.tuple h';rw[e]at e';cases e';rw[d]at d';injection d' with d1 _
 have:its=its':=by simpa using congrArg Array.toList d1
 subst this;exact r.inj r'
end
@[reducible]noncomputable def Cx.iu(X:Cx)(E:Value->Shared->Prop):Cx:={ X with xe:=E }
@[reducible]noncomputable def Cx.nox(X:Cx):Cx:=X.iu fun _ _=>False
def Cx.Ok.iu{X:Cx}(ok:X.Ok)(E:Value->Shared->Prop):(X.iu E).Ok :=
 ⟨ok.mod,ok.kind,ok.glob,ok.blt,ok.above,ok.inj,ok.has,ok.cab,ok.hd,ok.frames,ok.stk,ok.exf,ok.bs,ok.bsz,ok.sE,ok.rZ,ok.gR,ok.frf⟩
def Cx.Ok.fR{X:Cx}(ok:(X.iu E).Ok):X.Ok :=
 ⟨ok.mod,ok.kind,ok.glob,ok.blt,ok.above,ok.inj,ok.has,ok.cab,ok.hd,ok.frames,ok.stk,ok.exf,ok.bs,ok.bsz,ok.sE,ok.rZ,ok.gR,ok.frf⟩
section
variable{X:Cx}{pins:List (Addr × Obj)}{σ:St}{H:Hp}{s:Shared}{E:Value->Shared->Prop}
def Inv.iu(I:Inv X pins σ H s)(E:Value->Shared->Prop):Inv (X.iu E) pins σ H s:=⟨I.ok.iu E,I.os,I.bare,I.base,I.loc,I.cell,I.free,I.eE,I.pin,I.hok,I.len⟩
def Inv.fR(I:Inv (X.iu E) pins σ H s):Inv X pins σ H s:=⟨I.ok.fR,I.os,I.bare,I.base,I.loc,I.cell,I.free,I.eE,I.pin,I.hok,I.len⟩
def SP.fR(h:SP (X.iu E) pins D f s'):SP X pins D f s':=by
 cases f with
 | next=>obtain⟨σ',H',I,q⟩:=h;exact⟨σ',H',I.fR,q⟩
 | brk=>obtain⟨σ',H',I,q⟩:=h;exact⟨σ',H',I.fR,q⟩
 | cont=>obtain⟨σ',H',I,q⟩:=h;exact⟨σ',H',I.fR,q⟩
 | ret u=>obtain⟨v,σ',H',I,r,q⟩:=h;exact⟨v,σ',H',I.fR,r,q⟩
def PSs.nox{st:List Stmt}(h:PSs X.nox st t):PSs X st t:=fun pins s σ H D I hw =>
 wpAny_mono (h pins s σ H D (I.iu _) hw) (fun _ _ q=>q.fR) fun _ _ z=>False.elim z
end
section
variable{X:Cx}{st:Stmt}{rest:List Stmt}{t u:TS}{e:Expr}{te:TE}{pos:Pos}
abbrev GY:TS:=fun D σ H=>D.nx σ H
abbrev Iq(t u:TS):TS:=fun D σ H=>t { D with nx:=u D } σ H
def B4:PSs X [] GY:=fun _ _ σ H _ I h=>wpAny_execs_nil ⟨σ,H,I,h⟩
def iR(h1:PS X st t)(h2:PSs X rest u):PSs X (st::rest) (Iq t u):=by
 intro pins s σ H D I h;refine wpAny_execs_cons (thn (h1 pins s σ H { D with nx:=u D } I h) fun f s1 q=>?_)
 cases f with
 |next=>
  obtain⟨σ',H',I',q⟩:=q;exact h2 pins s1 σ' H' D I' q
 | ret v=>exact q
 | brk=>exact q
 | cont=>exact q
def Inv.quiet(I:Inv X pins σ H s):interactive X.env=false:=by simp[interactive,I.ok.kind]
abbrev nH(te:TE):TS:=fun D σ H=>te σ H fun _ H1=>D.nx σ H1
def kK(he:PE X e te)(hs:swapsWith e none pos.line X.env=pure false):PS X (.Expr e pos) (nH te):=by
 intro pins s σ H D I h;exact wpAny_Expr_any (thn (he pins s σ H _ I h) fun v s1 ⟨x,H1,I1,r1,q1⟩=>⟨σ,H1,I1,q1⟩) I.quiet hs
abbrev Jq(te:TE):TS:=fun D σ H=>te σ H D.rt
def ye(he:PE X e te):PS X (.Return (some e) pos) (Jq te):=by
 intro pins s σ H D I h;exact wpAny_Return_some (thn (he pins s σ H _ I h) fun v s1 ⟨x,H1,I1,r1,q1⟩=>⟨x,σ,H1,I1,r1,q1⟩)
abbrev Ju(c:TT)(t u:TS):TS:=fun D σ H=>c σ H fun b H1=>if b=true then t D σ H1 else u D σ H1
def Bc(hc:PT X c tc)(ha:PSs X a t)(hb:PSs X b u):PS X (.If c a b pos) (Ju tc t u):=by
 intro pins s σ H D I h;refine wpAny_If (thn (hc pins s σ H _ I h) fun d s1 ⟨H1,I1,q1⟩=>?_)
 cases d with
 | true=>exact ha pins s1 σ H1 D I1 q1
 | false=>exact hb pins s1 σ H1 D I1 q1
end
@[reducible]noncomputable def TG:=V->St->Hp->(St->Hp->Prop)->Prop
@[reducible]noncomputable def TGs:=List V->St->Hp->(St->Hp->Prop)->Prop
abbrev PG(X:Cx)(target:Expr)(t:TG):Prop :=
 ∀ (pins:List (Addr × Obj)) (s:Shared) (σ:St) (H:Hp) (v:V) (u:Value) (Q:St->Hp->Prop),Inv X pins σ H s->RelV v u->t v σ H Q ->
  wpAny (model X.prog X.w) X.A (assign target X.env u) (fun _ s'=>∃ σ' H',Inv X pins σ' H' s'/\Q σ' H') X.xe s
abbrev PGs(X:Cx)(ts:List Expr)(t:TGs):Prop :=
 ∀ (pins:List (Addr × Obj)) (s:Shared) (σ:St) (H:Hp) (vs:List V) (us:List Value) (Q:St->Hp->Prop),Inv X pins σ H s->Vals vs us->t vs σ H Q ->
  wpAny (model X.prog X.w) X.A (assignInOrder ((assignEach ts X.env).map (·.2)) us) (fun _ s'=>∃ σ' H',Inv X pins σ' H' s'/\Q σ' H') X.xe s
@[reducible]noncomputable def EJ:=V->V->V->Hp->(Hp->Prop)->Prop
abbrev Gq(X:Cx)(t:EJ):Prop :=
 ∀ (pins:List (Addr × Obj)) (s:Shared) (σ:St) (H:Hp) (o i v:V) (ov iv u:Value) (Q:Hp->Prop),Inv X pins σ H s->RelV o ov->RelV i iv->RelV v u->t o i v H Q ->
  wpAny (model X.prog X.w) X.A (setItem ov iv u) (fun _ s'=>∃ H',Inv X pins σ H' s'/\Q H') X.xe s
@[reducible]noncomputable def TIp:=V->V->Hp->VK->Prop
abbrev PIp(X:Cx)(op:Operator)(t:TIp):Prop :=
 ∀ (pins:List (Addr × Obj)) (s:Shared) (σ:St) (H:Hp) (x y:V) (v u:Value) (Q:VK),Inv X pins σ H s->RelV x v->RelV y u->t x y H Q ->
  wpAny (model X.prog X.w) X.A (inplaceOp op v u) (EP X pins σ Q) X.xe s
section
variable{X:Cx}{pos:Pos}
abbrev ql(i:Nat):TG:=fun v σ H Q=>Q (σ.set i (some v)) H
def tG(hN:X.N.Nodup)(hi:X.N[i]?=some x)(hx:Loc X.env.scope x)(hf:X.fn x=true\/X.env.scope.names.lookup x=some .local):PG X (.Name x pos) (ql i):=by
 intro pins s σ H v u Q I r h;exact wpAny_assign_Name (gY I hN hi hx r (fun s' I'=>⟨_,H,I',h⟩) hf)
abbrev EK:TGs:=fun vs σ H Q=>vs=[]/\Q σ H
abbrev Bu(t:TG)(u:TGs):TGs:=fun vs σ H Q=>∃ v r,vs=v::r/\t v σ H fun σ' H'=>u r σ' H' Q
def B7:PGs X [] EK:=by
 intro pins s σ H vs us Q I r h;obtain⟨e,h⟩:=h;subst e;cases r;exact assignInOrder_nil ⟨σ,H,I,h⟩
def zO(h1:PG X e t)(h2:PGs X es u)
 (hs:(assignEach (e::es) X.env).map (·.2)=assign e X.env::(assignEach es X.env).map (·.2)):PGs X (e::es) (Bu t u):=by
 intro pins s σ H vs us Q I r h;obtain⟨v,vr,e1,h⟩:=h;subst e1
 cases r with
 |cons r rr=>
  rw[hs];refine assignInOrder_cons (thn (h1 pins s σ H _ _ _ I r h) fun _ s1 ⟨σ1,H1,I1,q1⟩=>?_);exact h2 pins s1 σ1 H1 _ _ Q I1 rr q1
abbrev nO(K:PySem.W.Frag)(n:Nat)(t:TGs):TG:=fun v σ H Q=>∃ a xs,v=.ref a/\SqT K H a xs/\xs.length=n/\t xs σ H Q
def xZ(hc:X.calm=true)(h:PGs X es t)
 (hn:(assignEach es X.env).length=n)(hst:(assignEach es X.env).findIdx? (·.1)=none):PG X (.Tuple es k pos) (nO X.K n t):=by
 intro pins s σ H v u Q I r hw;obtain⟨a,xs,e1,hq,hl,hw⟩:=hw;subst e1;cases r;obtain⟨its,rv,ht,hz⟩:=I.tuple hq;refine assign_Tuple_tuple (I.ok.hd.1 hc) ht (by simp[hn,<-hl,rv.length]) hst fun h' hx=>?_;have I1:Inv X pins σ H { s with heap:=h' }:=I.kept (t':=s.toks) fun b o e=>hx b o (Nat.ne_of_lt (Heap.lt_size e)) e;exact h pins _ σ H xs _ Q I1 (by simpa using rv) hw
abbrev zK(to ti:TE)(t:EJ):TG:=fun v σ H Q=>to σ H fun o H1=>ti σ H1 fun i H2=>t o i v H2 fun H3=>Q σ H3
def Eu(ho:PE X o to)(hi:PE X i ti)(hs:Gq X t)
 (ha:∀ v,assign (.Subscript o i pos) X.env v=(do
   let ov <- holding [v] (eval o X.env)
   let iv <- holding [v,ov] (eval i X.env)
   standAt pos
   holding [v,ov,iv] (setItem ov iv v)
   release [v,ov,iv] []):=by intro _;rfl):PG X (.Subscript o i pos) (zK to ti t):=by
 intro pins s σ H v u Q I r h;rw[ha];refine wpAny_bind (wpAny_holding (thn (ho pins s σ H _ I h) fun ov s1 ⟨x,H1,I1,r1,q1⟩=>?_));refine wpAny_bind (wpAny_holding (thn (hi pins s1 σ H1 _ I1 q1) fun iv s2 ⟨y,H2,I2,r2,q2⟩=>?_));refine wpAny_bind (wpAny_standAt (wpAny_bind (wpAny_holding (thn (hs pins s2 σ H2 x y v ov iv u _ I2 r1 r2 r q2) fun _ s3 ⟨H3,I3,q3⟩=>?_))));exact wpAny_release ⟨σ,H3,I3,q3⟩
abbrev sT(te:TE)(g:TG):TS:=fun D σ H=>te σ H fun x H1=>g x σ H1 D.nx
def yb(he:PE X e te)(hg:PG X tg g)(hs:swapsWithSole [tg] e pos.line X.env=pure false)(hw:swappedStores [tg] e X.env=pure none)
 (h1:(assignEach [tg] X.env).map (·.2)=[assign tg X.env]):PS X (.Assign [tg] e pos) (sT te g):=by
 intro pins s σ H D I h;refine wpAny_Assign_stores (thn (he pins s σ H _ I h) fun v s1 ⟨x,H1,I1,r1,q1⟩=>?_) hs hw;rw[h1];exact thn (hg pins s1 σ H1 x v _ I1 r1 q1) fun _ s2 q=>q
def Ew(hN:X.N.Nodup)(hi:X.N[i]?=some x)(hx:Loc X.env.scope x)(he:PE X e te)(hs:swapsWith e (some (.Name x pos')) pos.line X.env=pure false)(hf:X.fn x=true\/X.env.scope.names.lookup x=some .local) :
  PS X (.Assign [.Name x pos'] e pos) (sT te (ql i)):=by
 intro pins s σ H D I h;refine wpAny_Assign_Name (thn (he pins s σ H _ I h) fun v s1 ⟨y,H1,I1,r1,q1⟩=>?_) hs;exact gY I1 hN hi hx r1 (fun s2 I2=>⟨_,H1,I2,q1⟩) hf
abbrev Fi(i j:Nat)(ta:TA):TS:=fun D σ H=>ta σ H fun vs H1=>∃ v w,vs=[v,w]/\D.nx ((σ.set i (some v)).set j (some w)) H1
def D5(hc:X.calm=true)(hN:X.N.Nodup)(hi:X.N[i]?=some x)(hj:X.N[j]?=some y)(hij:i≠j)
 (hx:X.env.scope.names.lookup x=some .local)(hy:X.env.scope.names.lookup y=some .local)(ha:PA X [a,b] ta)
 (hw:swappedStores [.Tuple [.Name x px,.Name y py] kt pt] (.Tuple [a,b] k2 pt2) X.env=pure (some [x,y]))
 (hs:swapsWithSole [.Tuple [.Name x px,.Name y py] kt pt] (.Tuple [a,b] k2 pt2) pos.line X.env=pure false) :
  PS X (.Assign [.Tuple [.Name x px,.Name y py] kt pt] (.Tuple [a,b] k2 pt2) pos) (Fi i j ta):=by
 intro pins s σ H D I h;rw[exec_Assign_arm];refine wpAny_bind (wpAny_standAt ?_);rw[hs];refine wpAny_bind (wpAny_pure ?_);rw[if_neg (by decide)];refine wpAny_bind (Tuple_ (thn (ha _ pins s σ H _ I h) fun us s1 ⟨vs,H1,I1,r1,q1⟩=>?_));obtain⟨v,w,e1,q1⟩:=q1;subst e1
 obtain⟨u1,u2,rfl,rv,rw'⟩:∃ u1 u2,us=[u1,u2]/\RelV v u1/\RelV w u2:=by
  cases r1 with
  |cons p q=>
   cases q with
   |cons p' q'=>
    cases q';exact⟨_,_,rfl,p,p'⟩
 refine wpAny_newObj_type ?_ (by show 2<=sizeLine;decide);have I2:Inv X pins σ H1 { s1 with heap:=s1.heap.push { cls:=.type "tuple",data:=.seq [u1,u2].toArray } }:=I1.kept (t':=s1.toks) fun b o e=>Heap.get?_push_of_some _ e;rw[hw];refine wpAny_bind (wpAny_pure ?_);show wpAny (model X.prog X.w) X.A (do rule "assign.swapped-stores";let items <- unpackItems (.ref s1.heap.objs.size) 2 none;assignInOrder [fun v=>bindName X.env y v,fun v=>bindName X.env x v] items.reverse;pure Flow.next) _ _ _;refine wpAny_bind (wpAny_rule (wpAny_bind (unpackItems_tuple (items:=#[u1,u2]) (I.ok.hd.1 hc) (IsTup.new s1.heap _) fun h' hx'=>?_)));have I3:=I2.kept (h':=h') (t':=s1.toks) fun b o e=>hx' b o (Nat.ne_of_lt (Heap.lt_size e)) e;show wpAny _ _ (assignInOrder [fun v=>bindName X.env y v,fun v=>bindName X.env x v] [u2,u1] >>= fun _=>pure Flow.next) _ _ _;refine wpAny_bind (assignInOrder_cons (wpAny_bindName (gY I3 hN hj (.inl hy) rw' (fun s2 I4=>?_) (.inr hy))));refine assignInOrder_cons (wpAny_bindName (gY I4 hN hi (.inl hx) rv (fun s3 I5=>assignInOrder_nil (wpAny_pure ?_)) (.inr hx)));rw[List.set_comm _ _ (Ne.symm hij)]at I5;exact⟨_,H1,I5,q1⟩
abbrev yZ(i:Nat)(te:TE)(ti:TIp):TS:=fun D σ H=>∃ x,σ[i]?=some (some x)/\te σ H fun y H1=>ti x y H1 fun z H2=>D.nx (σ.set i (some z)) H2
def qC(hN:X.N.Nodup)(hi:X.N[i]?=some x)(hx:Loc X.env.scope x)(he:PE X e te)(ho:PIp X op ti)(hf:X.fn x=true\/X.env.scope.names.lookup x=some .local) :
  PS X (.AugAssign (.Name x pos') op e pos) (yZ i te ti):=by
 intro pins s σ H D I h;obtain⟨v,e1,h⟩:=h;obtain⟨m,hn,hl⟩:=I.loc
 have vis:Vis X.env.scope x:=by rcases hx with k | k;exact .inl k;exact .inr (.inl k)
 obtain⟨u,r,l⟩:=hl i x v hi e1 vis;refine wpAny_AugAssign_Name ?_
 have go:wpAny (model X.prog X.w) X.A (eval e X.env) (fun w s₂=>wpAny (model X.prog X.w) X.A (inplaceOp op u w) (fun r s₃=>wpAny (model X.prog X.w) X.A (storeName X.env x r) (fun _=>SP X pins D .next) X.xe s₃) X.xe s₂) X.xe s:=by
  refine thn (he pins s σ H _ I h) fun w s1 ⟨y,H1,I1,r1,q1⟩=>?_;refine thn (ho pins s1 σ H1 v y u w _ I1 r r1 q1) fun z s2 ⟨zv,H2,I2,r2,q2⟩=>?_;exact gY I2 hN hi hx r2 (fun s3 I3=>⟨_,H2,I3,q2⟩) hf
 rcases l with⟨hk,hm⟩ | ⟨hk,c,hc,hcell⟩
 ·exact wpAny_loadName_local I.ok.kind hk hn hm go
 ·rcases hk with hk | hk
  ·exact wpAny_loadName_cell I.ok.kind hk hc hcell go
  ·rcases hx with k | k
   ·have:X.env.scope.names.lookup x=some .free:=hk;rw[k]at this;cases this
   ·have:X.env.scope.names.lookup x=some .free:=hk;rw[k]at this;cases this
abbrev ipI(f:Int->Int->Int):TIp:=fun x y H Q=>∃ i j,x=.int i/\y=.int j/\Q (.int (f i j)) H
def DE:PIp X .Add (ipI fun i j=>i+j):=by
 intro pins s σ H x y v u Q I r1 r2 h;obtain⟨i,j,e1,e2,q⟩:=h;subst e1;subst e2;obtain⟨t,rfl⟩:=r1;obtain⟨t',rfl⟩:=r2;exact iadd_int ⟨.int _,H,I.tok _,⟨_,rfl⟩,q⟩
def Dk:PIp X .Sub (ipI fun i j=>i-j):=by
 intro pins s σ H x y v u Q I r1 r2 h;obtain⟨i,j,e1,e2,q⟩:=h;subst e1;subst e2;obtain⟨t,rfl⟩:=r1;obtain⟨t',rfl⟩:=r2;exact isub_int ⟨.int _,H,I.tok _,⟨_,rfl⟩,q⟩
end
section
variable{X:Cx}{pos:Pos}
abbrev FI(c:TT)(tb:TS):TS:=fun D σ H=>∃ W:Nat->St->Hp->Prop,(∃ m,W m σ H)/\∀ m σ H,W m σ H ->
 c σ H fun b H1=>if b=true then ∃ N:St->Hp->Prop,(∀ σ' H',N σ' H'->∃ m',m'<m/\W m' σ' H')/\tb { D with nx:=N,ct:=N,bk:=D.nx } σ H1 else D.nx σ H1
def zC(hp:PassesOwn (model X.prog X.w) X.A X.env X.xe)(hc:PT X c tc)(hb:PSs X body tb):PS X (.While c body [] pos) (FI tc tb):=by
 intro pins s σ H D I h;obtain⟨W,⟨m0,w0⟩,turn⟩:=h;refine wpAny_While (codeAny_whileLoop (fun n s'=>∃ σ' H',Inv X pins σ' H' s'/\W n σ' H') ?_ m0 ⟨σ,H,I,w0⟩);rintro n s1 ⟨σ1,H1,I1,w1⟩;refine wpAny_passesOwn hp (thn (hc pins s1 σ1 H1 _ I1 (turn n σ1 H1 w1)) fun b s2 ⟨H2,I2,q2⟩=>?_)
 cases b with
 |true=>
  obtain⟨N,hN,q2⟩:=q2;rw[if_pos rfl];refine wpAny_passesOwn hp (thn (hb pins s2 σ1 H2 _ I2 q2) fun f s3 q3=>?_)
  cases f with
  |next=>
   obtain⟨σ3,H3,I3,n3⟩:=q3;obtain⟨m',hm,w3⟩:=hN σ3 H3 n3;exact⟨m',hm,σ3,H3,I3,w3⟩
  |cont=>
   obtain⟨σ3,H3,I3,n3⟩:=q3;obtain⟨m',hm,w3⟩:=hN σ3 H3 n3;exact⟨m',hm,σ3,H3,I3,w3⟩
  | brk=>exact q3
  | ret v=>exact q3
 |false=>
  rw[if_neg Bool.false_ne_true];exact wpAny_execs_nil ⟨σ1,H2,I2,q2⟩
end
structure It where
 go:Nat->Hp->Prop
 yld:Nat->Hp->V->Hp->Prop
 stop:Nat->Hp->Prop
abbrev jw(X:Cx)(pins:List (Addr × Obj))(H:Hp)(b:Addr):Prop :=
 H b=none/\b≠X.env.locals/\b∉X.fs/\(b∈X.ex\/X.s₀.heap.objs.size<=b)/\(∀ x c,X.env.cells.lookup x=some c->c≠b)/\∀ p∈X.pn++pins,p.1≠b
def Inv.kg(I:Inv X pins σ H s)(hb:s.heap.objs.size<=b)(hn:H' b=none):jw X pins H' b:=by
 refine⟨hn,Nat.ne_of_gt (Nat.lt_of_lt_of_le I.lt hb),I.IK hb,.inr (Nat.le_trans I.sz hb),fun x c e z=>?_,fun p hp z=>?_⟩
 ·obtain⟨v,q⟩:=I.cell x c e;exact absurd (Nat.lt_of_lt_of_le q.lt (by rw[z];exact hb)) (Nat.lt_irrefl _)
 ·exact absurd (Nat.lt_of_lt_of_le (Heap.lt_size (I.pin p hp).1) (by rw[z];exact hb)) (Nat.lt_irrefl _)
structure nj(CM:Cx->Prop)(P:Program)(w:World)(K:PySem.W.Frag)(tg:Expr)(J:It)(fp:List Addr)(it:Addr)(tn:Nat->Heap->Prop):Prop where
 mem:it∈fp
 obj:∀ i h,tn i h->∀ b∈fp,∃ o,h.get? b=some o/\∀ v,o.data≠.cell v
 keep:∀ i h h',tn i h->(∀ b∈fp,∀ o,h.get? b=some o->h'.get? b=some o)->tn i h'
 item:∀ (X:Cx),X.prog=P->X.w=w->X.K=K->CM X->∀ (i:Nat) (pins:List (Addr × Obj)) (s:Shared) (σ:St) (H:Hp) (E:Value->Shared->Prop),Inv X pins σ H s->(∀ b∈fp,jw X pins H b)->tn i s.heap->J.go i H ->
  wpAny (model P w) X.A (pyNext (.ref it)) (fun r s1=>∃ u,r=some u /\
   wpAny (model P w) X.A (letOwnedTupleGo tg (.ref it) u) (fun _ s2=>∃ x H',Inv X pins σ H' s2/\RelV x u/\J.yld i H x H'/\tn (i+1) s2.heap/\∀ b∈fp,H' b=none) E s1) E s
 done:∀ (X:Cx),X.prog=P->X.w=w->X.K=K->CM X->∀ (i:Nat) (pins:List (Addr × Obj)) (s:Shared) (σ:St) (H:Hp) (E:Value->Shared->Prop),Inv X pins σ H s->(∀ b∈fp,jw X pins H b)->tn i s.heap->J.stop i H ->
  wpAny (model P w) X.A (pyNext (.ref it)) (fun r s1=>r=none/\Inv X pins σ H s1) E s
 self:∀ (A:Around) (i:Nat) (s:Shared) (Q:Value->Shared->Prop) (E:Value->Shared->Prop),tn i s.heap->Q (.ref it) s->wpAny (model P w) A (pyIter (.ref it)) Q E s
@[reducible]noncomputable def Calm:Cx->Prop:=fun X=>X.calm=true
@[reducible]noncomputable def Turn:=nj Calm
@[reducible]noncomputable def TI:=St->Hp->(It->Hp->Prop)->Prop
abbrev F1(CM:Cx->Prop)(X:Cx)(pins:List (Addr × Obj))(σ:St)(tg:Expr)(R:It->Hp->Prop)(itv:Value)(s2:Shared):Prop :=
 ∃ (it:Addr) (fp:List Addr) (tn:Nat->Heap->Prop) (J:It) (H':Hp),itv=.ref it/\Inv X pins σ H' s2/\nj CM X.prog X.w X.K tg J fp it tn/\tn 0 s2.heap/\(∀ b∈fp,jw X pins H' b)/\R J H'
@[reducible]noncomputable def PIE:=F1 Calm
abbrev PI'(CM:Cx->Prop)(X:Cx)(tg iter:Expr)(wi:TI):Prop :=
 ∀ (pins:List (Addr × Obj)) (s:Shared) (σ:St) (H:Hp) (R:It->Hp->Prop),Inv X pins σ H s->wi σ H R ->
  wpAny (model X.prog X.w) X.A (eval iter X.env) (fun v s1=>wpAny (model X.prog X.w) X.A (pyIter v) (F1 CM X pins σ tg R) X.xe s1) X.xe s
@[reducible]noncomputable def PI:=PI' Calm
def kI(ho:s.heap.get? it=some o)(hc:o.cls=.type n)(hd:o.data=.fields vs)
 (hn:["enumerate", "zip", "dict_itemiterator", "dict_reverseitemiterator", "odict_iterator", "itertools.zip_longest", "itertools.pairwise"].contains n=false)(hQ:Q () s):wpAny M A (letOwnedTupleGo tg (.ref it) u) Q E s:=by
 unfold letOwnedTupleGo
 cases tg<;>first
  | exact wpAny_pure hQ
  | (cases u<;>first
    | exact wpAny_pure hQ
    | (refine wpAny_bind (wpAny_load ho ?_)
       rw[hc,hd];show wpAny M A (if(["enumerate", "zip", "dict_itemiterator", "dict_reverseitemiterator", "odict_iterator", "itertools.zip_longest", "itertools.pairwise"].contains n&&vs[0]? == some (rawInt _))=true then _ else _) Q E s;rw[if_neg (by intro h;rw[hn,Bool.false_and]at h;cases h)]
       exact wpAny_pure hQ))
abbrev Itl(K:PySem.W.Frag)(a:Addr):It :=
 ⟨fun i H=>∃ xs x,SqL K H a xs/\xs[i]?=some x,fun i H x H'=>H'=H/\∀ xs,SqL K H a xs->xs[i]?=some x,fun i H=>∃ xs,SqL K H a xs/\xs.length<=i⟩
abbrev Itt(K:PySem.W.Frag)(a:Addr):It :=
 ⟨fun i H=>∃ xs x,SqT K H a xs/\xs[i]?=some x,fun i H x H'=>H'=H/\∀ xs,SqT K H a xs->xs[i]?=some x,fun i H=>∃ xs,SqT K H a xs/\xs.length<=i⟩
abbrev Itr(lo:Int)(n:Nat):It:=⟨fun i _=>i<n,fun i H x H'=>H'=H/\x=.int (lo+i),fun i _=>n<=i⟩
def xo{P:Program}{w:World}{K:PySem.W.Frag}(a it:Addr):Turn P w K tg (Itl K a) [it] it (fun i h=>h.IsListIter it a i) where
 mem:=by simp
 obj:=fun i h st b hb=>by
  have e:b=it:=by simpa using hb
  subst e;obtain⟨o,e,c,d⟩:=st;exact⟨o,e,fun v z=>by rw[d]at z;cases z⟩
 keep:=fun i h h' st k=>st.at fun o e=>k it (by simp) o e
 item:=by
  intro X hP hw hK hc i pins s σ H E I hf st hg;subst hP hw hK;obtain⟨xs,x,hq,hx⟩:=hg;obtain⟨its,rv,p,hz⟩:=I.list hq;obtain⟨u,hu,ru⟩:=rv.get hx;obtain⟨f0,f1,f2,f3,f4,f5⟩:=hf it (by simp);refine wpAny_pyNext_list_item st p.isList (x:=u) (by simpa using hu) fun h' st' sb=>?_;have I1:Inv X pins σ H { s with heap:=h' }:=I.turned (t':=s.toks) (fun b o hb e=>(sb.2 b hb).trans e) f0 f1 f3 f4 f5;obtain⟨o,e,c,d⟩:=id st';exact⟨u,rfl,kI (s:={ s with heap:=h' }) e c d (by decide) ⟨x,H,I1,ru,⟨rfl,fun ys hy=>by rw[I.AI hy hq];exact hx⟩,st',fun b hb=>(hf b hb).1⟩⟩
 done:=by
  intro X hP hw hK hc i pins s σ H E I hf st hg;subst hP hw hK;obtain⟨xs,hq,hx⟩:=hg;obtain⟨its,rv,p,hz⟩:=I.list hq;obtain⟨f0,f1,f2,f3,f4,f5⟩:=hf it (by simp);have hl:=rv.length
  exact wpAny_pyNext_list_end (I.ok.hd.1 hc) st p.isList (by simp;omega) fun h' eb=>⟨rfl,I.turned (t':=s.toks) (fun b o hb e=>eb b o hb e) f0 f1 f3 f4 f5⟩
 self:=fun _ _ _ _ _ st h=>wpAny_pyIter_listiter st h
def wb{P:Program}{w:World}{K:PySem.W.Frag}(a it:Addr):Turn P w K tg (Itt K a) [it] it (fun i h=>h.IsTupleIter it a i) where
 mem:=by simp
 obj:=fun i h st b hb=>by
  have e:b=it:=by simpa using hb
  subst e;obtain⟨o,e,c,d⟩:=st;exact⟨o,e,fun v z=>by rw[d]at z;cases z⟩
 keep:=fun i h h' st k=>st.at fun o e=>k it (by simp) o e
 item:=by
  intro X hP hw hK hc i pins s σ H E I hf st hg;subst hP hw hK;obtain⟨xs,x,hq,hx⟩:=hg;obtain⟨its,rv,p,hz⟩:=I.tuple hq;obtain⟨u,hu,ru⟩:=rv.get hx;obtain⟨f0,f1,f2,f3,f4,f5⟩:=hf it (by simp);refine wpAny_pyNext_tuple_item st (show s.heap.IsTuple a its.toArray from p) (x:=u) (by simpa using hu) fun h' st' sb=>?_;have I1:Inv X pins σ H { s with heap:=h' }:=I.turned (t':=s.toks) (fun b o hb e=>(sb.2 b hb).trans e) f0 f1 f3 f4 f5;obtain⟨o,e,c,d⟩:=id st';exact⟨u,rfl,kI (s:={ s with heap:=h' }) e c d (by decide) ⟨x,H,I1,ru,⟨rfl,fun ys hy=>by rw[I.xH hy hq];exact hx⟩,st',fun b hb=>(hf b hb).1⟩⟩
 done:=by
  intro X hP hw hK hc i pins s σ H E I hf st hg;subst hP hw hK;obtain⟨xs,hq,hx⟩:=hg;obtain⟨its,rv,p,hz⟩:=I.tuple hq;obtain⟨f0,f1,f2,f3,f4,f5⟩:=hf it (by simp);have hl:=rv.length
  exact wpAny_pyNext_tuple_end (I.ok.hd.1 hc) st (show s.heap.IsTuple a its.toArray from p) (by simp;omega) fun h' eb=>⟨rfl,I.turned (t':=s.toks) (fun b o hb e=>eb b o hb e) f0 f1 f3 f4 f5⟩
 self:=fun _ _ _ _ _ st h=>wpAny_pyIter_tupleiter st h
def vR{P:Program}{w:World}{K:PySem.W.Frag}(it:Addr)(lo:Int)(n:Nat):Turn P w K tg (Itr lo n) [it] it (fun i h=>IsRangeIter h it (lo+(i:Nat)*1) ((n:Int)-(i:Nat)) 1) where
 mem:=by simp
 obj:=fun i h st b hb=>by
  have e:b=it:=by simpa using hb
  subst e
  exact⟨_,st,fun v z=>by
   have z':Data.fields _=Data.cell v:=z
   cases z'⟩
 keep:=fun i h h' st k=>k it (by simp) _ st
 item:=by
  intro X hP hw hK hc i pins s σ H E I hf st hg;subst hP hw hK;obtain⟨f0,f1,f2,f3,f4,f5⟩:=hf it (by simp);have W:=Walks.range (prog:=X.prog) (w:=X.w) (I.ok.hd.1 hc) it lo 1 n;refine W.item i s _ _ hg st fun v h' tk hv st' kk=>?_;obtain⟨t,rfl⟩:=hv;have I1:Inv X pins σ H { s with heap:=h',toks:=tk }:=I.turned (fun b o hb e=>kk b o (by simpa using hb) e) f0 f1 f3 f4 f5;refine⟨_,rfl,kI (s:={ s with heap:=h',toks:=tk }) (n := "range_iterator") st' rfl rfl (by decide) ⟨.int (lo+i),H,I1,⟨t,?_⟩,⟨rfl,rfl⟩,st',fun b hb=>(hf b hb).1⟩⟩;rw[Int.mul_one]
 done:=by
  intro X hP hw hK hc i pins s σ H E I hf st hg;subst hP hw hK;obtain⟨f0,f1,f2,f3,f4,f5⟩:=hf it (by simp)
  exact wpAny_pyNext_range_end (I.ok.hd.1 hc) st (by have:n<=i:=hg;omega) fun h' eb=>⟨rfl,I.turned (t':=s.toks) (fun b o hb e=>eb b o hb e) f0 f1 f3 f4 f5⟩
 self:=fun _ _ _ _ _ st h=>wpAny_pyIter_rangeiter st h
section
variable{X:Cx}{tg:Expr}
def qZ{pins:List (Addr × Obj)}{σ:St}{H:Hp}{s:Shared}{R:It->Hp->Prop}{E:Value->Shared->Prop}{lo hi:Int}{t u v:Tok}{tk:Nat}(I:Inv X pins σ H s)(h1:-(2 ^ 62)<=lo)(h2:lo<2 ^ 62)(h3:-(2 ^ 62)<=hi)(h4:hi<2 ^ 62)
 (q:R (Itr lo (hi-lo).toNat) H):wpAny (model X.prog X.w) X.A (pyIter (.ref s.heap.objs.size)) (PIE X pins σ tg R) E { s with heap:=s.heap.push { cls:=.type "range",data:=.fields #[.int lo t,.int hi u,.int 1 v] },toks:=tk }:=by
 refine wpAny_pyIter_range (IsRange.new ..) (small_one h1 h2 h3 h4) ?_;have I1:Inv X pins σ H { s with heap:=s.heap.push { cls:=.type "range",data:=.fields #[.int lo t,.int hi u,.int 1 v] },toks:=tk }:=I.kept fun b o e=>Heap.get?_push_of_some _ e
 refine⟨(s.heap.push { cls:=.type "range",data:=.fields #[.int lo t,.int hi u,.int 1 v] }).objs.size,[(s.heap.push { cls:=.type "range",data:=.fields #[.int lo t,.int hi u,.int 1 v] }).objs.size],_,_,H,rfl,
  I1.kept (t':=tk) fun b o e=>Heap.get?_push_of_some _ e,vR _ lo (hi-lo).toNat,?_,fun b hb=>?_,q⟩
 ·have e1:lo+((0:Nat):Int)*1=lo:=by simp
  have e2:(((hi-lo).toNat:Nat):Int)-((0:Nat):Int)=Builtin.Range.rangeSize lo hi 1:=by rw[rangeSize_one];split<;>omega
  show IsRangeIter _ _ (lo+((0:Nat):Int)*1) ((((hi-lo).toNat:Nat):Int)-((0:Nat):Int)) 1;rw[e1,e2];exact Heap.get?_push_size _ rfl
 ·have e:b=(s.heap.push { cls:=.type "range",data:=.fields #[.int lo t,.int hi u,.int 1 v] }).objs.size:=by simpa using hb
  subst e;exact I1.kg (Nat.le_refl _) (I1.hok.fresh (Nat.le_refl _))
abbrev GZ(ta:TA):TI:=fun σ H R=>ta σ H fun vs H1=>∃ j:Int,vs=[.int j]/\-(2 ^ 62)<=j/\j<2 ^ 62/\R (Itr 0 j.toNat) H1
abbrev Hb(ta:TA):TI:=fun σ H R=>ta σ H fun vs H1=>∃ i j:Int,vs=[.int i,.int j]/\(-(2 ^ 62)<=i/\i<2 ^ 62/\-(2 ^ 62)<=j/\j<2 ^ 62)/\R (Itr i (j-i).toNat) H1
def x6{a:Expr}{ta:TA}{p pos:Pos}(hg:Gl X "range")(hm:X.mg "range" = none)(ha:PA X [a] ta)(hs:starEach [a] X.env=[(false,eval a X.env)]):PI X tg (.Call (.Name "range" p) [a] [] pos) (GZ ta):=by
 intro pins s σ H R I h;refine Call_ (gP I hg hm boot_range (PyProof.Rows.callWith_type1 (thn (ha pos pins s σ H _ I h) fun us s1 ⟨vs,H1,I1,r1,q1⟩=>?_) hs rfl) (by decide) (by decide));obtain⟨j,e,q1,q2,q⟩:=q1;subst e
 cases r1 with
 |cons r rr=>
  cases rr;obtain⟨t,rfl⟩:=r;exact call_range_1 (qZ I1 (by omega) (by omega) q1 q2 (by simpa using q))
def yK(hg:Gl X "range")(hm:X.mg "range" = none)(ha:PA X [a,b] ta)(hs:starEach [a,b] X.env=[(false,eval a X.env),(false,eval b X.env)])(hs2:starEach [b] X.env=[(false,eval b X.env)]) :
  PI X tg (.Call (.Name "range" p) [a,b] [] pos) (Hb ta):=by
 intro pins s σ H R I h;refine Call_ (gP I hg hm boot_range (PyProof.Rows.callWith_type1 (thn (ha pos pins s σ H _ I h) fun us s1 ⟨vs,H1,I1,r1,q1⟩=>?_) (by rw[hs,hs2]) (by rw[hs2];rfl)) (by decide) (by decide));obtain⟨i,j,e,⟨q1,q2,q3,q4⟩,q⟩:=q1;subst e
 cases r1 with
 |cons r rr=>
  cases rr with
  |cons r' rr=>
   cases rr;obtain⟨t,rfl⟩:=r;obtain⟨t',rfl⟩:=r';exact call_range_2 (qZ I1 q1 q2 q3 q4 q)
abbrev IW(wi:TI)(g:TG)(tb:TS):TS:=fun D σ H=>wi σ H fun J H1=>∃ W:Nat->Nat->St->Hp->Prop,(∃ m,W 0 m σ H1)/\∀ i m σ H,W i m σ H ->
 (J.stop i H/\D.nx σ H)\/(J.go i H/\∃ N:St->Hp->Prop,(∀ σ' H',N σ' H'->∃ m',m'<m/\W (i+1) m' σ' H')/\∀ x H',J.yld i H x H'->g x σ H' fun σ2 H2=>tb { D with nx:=N,ct:=N,bk:=D.nx } σ2 H2)
abbrev j8(fp:List Addr)(h:Heap):List (Addr × Obj):=fp.filterMap fun b=>(h.get? b).map fun o=>(b,o)
def gq(hb:b∈fp)(e:h.get? b=some o):(b,o)∈j8 fp h:=List.mem_filterMap.mpr ⟨b,hb,by rw[e];rfl⟩
def yA(hp:p∈j8 fp h):p.1∈fp/\h.get? p.1=some p.2:=by
 obtain⟨b,hb,e⟩:=List.mem_filterMap.mp hp
 cases q:h.get? b with
 | none=>rw[q]at e;cases e
 |some o=>
  rw[q]at e;have e':(b,o)=p:=Option.some.inj e;subst e';exact⟨hb,q⟩
def Inv.pinned(I:Inv X pins σ H s)(hf:∀ b∈fp,jw X pins H b)(ho:∀ b∈fp,∃ o,s.heap.get? b=some o/\∀ v,o.data≠.cell v):Inv X (pins++j8 fp s.heap) σ H s :=
 I.tU fun p hp=>(List.mem_append.mp hp).elim (fun z=>I.pin p (List.mem_append_right _ z)) fun z=>by
  obtain⟨hb,e⟩:=yA z;obtain⟨f0,f1,f2,_⟩:=hf p.1 hb;obtain⟨o,e',d⟩:=ho p.1 hb;rw[e]at e';cases e';exact⟨e,f0,f1,f2,d⟩
def Inv.ja(I:Inv X (pins++pl) σ H s):Inv X pins σ H s:=I.tU fun p hp=>I.pin p (List.mem_append_right _ (List.mem_append_left _ hp))
def F6(hp:PassesOwn (model X.prog X.w) X.A X.env X.xe)(hc:X.calm=true)(hi:PI X tg iter wi)(hg:PG X tg g)(hb:PSs X body tb)
 (hs:∀ x,foldedSetIterable iter X.env x=pure x):PS X (.For tg iter body [] pos) (IW wi g tb):=by
 intro pins s σ H D I h;refine wpAny_For (thn (hi pins s σ H _ I h) fun v s1 h1=>thn h1 fun itv s2 h2=>?_) hs;obtain⟨it,fp,tn,J,H2,e,I2,T,st2,f2,W,⟨m0,w0⟩,turn⟩:=h2;subst e
 have stat:∀ {H':Hp},(∀ b∈fp,H' b=none)->∀ b∈fp,jw X pins H' b:=fun hn b hb=>⟨hn b hb,(f2 b hb).2⟩
 refine codeAny_forLoop_any (fun n s'=>∃ i σ' H',Inv X pins σ' H' s'/\tn i s'.heap/\(∀ b∈fp,H' b=none)/\W i n σ' H') ?_ m0 ⟨0,σ,H2,I2,st2,fun b hb=>(f2 b hb).1,w0⟩;rintro n s3 ⟨i,σ3,H3,I3,st3,fr3,w3⟩
 rcases turn i n σ3 H3 w3 with⟨stop,qn⟩ | ⟨go,N,hN,step⟩
 ·refine wpAny_passesOwn hp (thn (T.done X rfl rfl rfl hc i pins s3 σ3 H3 X.xe I3 (stat fr3) st3 stop) fun r s4 ⟨hr,I4⟩=>?_);subst hr;exact wpAny_execs_nil ⟨σ3,H3,I4,qn⟩
 ·refine wpAny_passesOwn hp (thn (T.item X rfl rfl rfl hc i pins s3 σ3 H3 X.xe I3 (stat fr3) st3 go) fun r s4 ⟨u,hr,h4⟩=>?_);subst hr;refine wpAny_passesOwn hp (thn h4 fun _ s5 ⟨x,H5,I5,r5,y5,st5,fr5⟩=>?_);have I5':=I5.pinned (stat fr5) (T.obj _ _ st5);refine wpAny_passesOwn hp (thn (hg _ s5 σ3 H5 x u _ I5' r5 (step x H5 y5)) fun _ s6 ⟨σ6,H6,I6,q6⟩=>?_);refine wpAny_passesOwn hp (thn (hb _ s6 σ6 H6 _ I6 q6) fun f s7 q7=>?_)
  have again:∀ {σ7:St} {H7:Hp},Inv X (pins++j8 fp s5.heap) σ7 H7 s7->N σ7 H7->∃ m,m<n/\∃ i σ' H',Inv X pins σ' H' s7/\tn i s7.heap/\(∀ b∈fp,H' b=none)/\W i m σ' H':=fun {σ7 H7} I7 n7=>by
   obtain⟨m',hm,w7⟩:=hN σ7 H7 n7;refine⟨m',hm,i+1,σ7,H7,I7.ja,T.keep _ _ _ st5 fun b hb o e=>(I7.pin (b,o) (List.mem_append_right _ (List.mem_append_right _ (gq hb e)))).1,fun b hb=>?_,w7⟩;obtain⟨o,e,d⟩:=T.obj _ _ st5 b hb;exact(I7.pin (b,o) (List.mem_append_right _ (List.mem_append_right _ (gq hb e)))).2.1
  cases f with
  | next=>obtain⟨σ7,H7,I7,n7⟩:=q7;exact again I7 n7
  | cont=>obtain⟨σ7,H7,I7,n7⟩:=q7;exact again I7 n7
  | brk=>obtain⟨σ7,H7,I7,q7⟩:=q7;exact⟨σ7,H7,I7.ja,q7⟩
  | ret v=>obtain⟨x7,σ7,H7,I7,r7,q7⟩:=q7;exact⟨x7,σ7,H7,I7.ja,r7,q7⟩
end
@[reducible]noncomputable def R2:=V->V->Hp->VK->Prop
abbrev OpR(X:Cx)(f:Value->Value->Sem Value)(r:R2):Prop :=
 ∀ (pins:List (Addr × Obj)) (s:Shared) (σ:St) (H:Hp) (x y:V) (v u:Value) (Q:VK),Inv X pins σ H s->RelV x v->RelV y u->r x y H Q ->
  wpAny (model X.prog X.w) X.A (f v u) (EP X pins σ Q) X.xe s
abbrev UnR(X:Cx)(f:Value->Sem Value)(r:V->Hp->VK->Prop):Prop :=
 ∀ (pins:List (Addr × Obj)) (s:Shared) (σ:St) (H:Hp) (x:V) (v:Value) (Q:VK),Inv X pins σ H s->RelV x v->r x H Q ->
  wpAny (model X.prog X.w) X.A (f v) (EP X pins σ Q) X.xe s
abbrev bF(X:Cx)(f:Value)(r:List V->Hp->VK->Prop):Prop :=
 ∀ (pins:List (Addr × Obj)) (s:Shared) (σ:St) (H:Hp) (xs:List V) (us:List Value) (Q:VK),Inv X pins σ H s->Vals xs us->r xs H Q ->
  wpAny (model X.prog X.w) X.A (call f us) (EP X pins σ Q) X.xe s
abbrev Jw(X:Cx)(r:V->Hp->(Bool->Hp->Prop)->Prop):Prop :=
 ∀ (pins:List (Addr × Obj)) (s:Shared) (σ:St) (H:Hp) (x:V) (v:Value) (Q:Bool->Hp->Prop),Inv X pins σ H s->RelV x v->r x H Q ->
  wpAny (model X.prog X.w) X.A (truthy v) (TP X pins σ Q) X.xe s
abbrev tOp(r:R2)(ta tb:TE):TE:=fun σ H Q=>ta σ H fun x H1=>tb σ H1 fun y H2=>r x y H2 Q
abbrev tUn(r:V->Hp->VK->Prop)(ta:TE):TE:=fun σ H Q=>ta σ H fun x H1=>r x H1 Q
abbrev rI(C:Int->Int->Prop)(g:Int->Int->V):R2:=fun x y H Q=>∃ i j,x=.int i/\y=.int j/\C i j/\Q (g i j) H
abbrev rI0(g:Int->Int->V):R2:=fun x y H Q=>∃ i j,x=.int i/\y=.int j/\Q (g i j) H
abbrev rU(g:Int->V):V->Hp->VK->Prop:=fun x H Q=>∃ i,x=.int i/\Q (g i) H
section
variable{X:Cx}{a b c:Expr}{ta tb tc:TE}{pos:Pos}
def zg(ha:PE X a ta)(hb:PE X b tb){pins:List (Addr × Obj)}{s:Shared}{σ:St}{H:Hp}{R:V->V->Hp->Prop}(I:Inv X pins σ H s)
 (h:ta σ H fun x H1=>tb σ H1 fun y H2=>R x y H2){Q:Value->Shared->Prop}{f:Value->Value->Sem Value}
 (hf:∀ v u s2 x y H2,Inv X pins σ H2 s2->RelV x v->RelV y u->R x y H2->wpAny (model X.prog X.w) X.A (f v u) Q X.xe s2) :
  wpAny (model X.prog X.w) X.A (eval a X.env) (fun v s₁=>wpAny (model X.prog X.w) X.A (eval b X.env) (fun u s₂=>wpAny (model X.prog X.w) X.A (f v u) Q X.xe s₂) X.xe s₁) X.xe s:=by
 refine thn (ha pins s σ H _ I h) fun v s1 ⟨x,H1,I1,r1,q1⟩=>?_;refine thn (hb pins s1 σ H1 _ I1 q1) fun u s2 ⟨y,H2,I2,r2,q2⟩=>?_;exact hf v u s2 x y H2 I2 r1 r2 q2
def HW{op:Operator}{r:R2}(ho:OpR X (binaryOp op) r)(ha:PE X a ta)(hb:PE X b tb):PE X (.BinOp a op b pos) (tOp r ta tb):=by
 intro pins s σ H Q I h;exact wpAny_BinOp (zg ha hb I h fun v u s2 x y H2 I2 rx ry q=>ho pins s2 σ H2 x y v u Q I2 rx ry q)
def Ba(ho:UnR X (unaryOp op) r)(ha:PE X a ta):PE X (.UnaryOp op a pos) (tUn r ta):=by
 intro pins s σ H Q I h;exact UnaryOp_ (thn (ha pins s σ H _ I h) fun v s1 ⟨x,H1,I1,r1,q1⟩=>ho pins s1 σ H1 x v Q I1 r1 q1)
def opI{f:Value->Value->Sem Value}{C:Int->Int->Prop}{g:Int->Int->Int}
 (rule:∀ (i j:Int) (t u:Tok) (s:Shared) (Q:Value->Shared->Prop) (E:Value->Shared->Prop),C i j->Q (.int (g i j) s.toks) { s with toks:=s.toks+1 }->wpAny (model X.prog X.w) X.A (f (.int i t) (.int j u)) Q E s) :
  OpR X f (rI C fun i j=>.int (g i j)):=by
 intro pins s σ H x y v u Q I rx ry h;obtain⟨i,j,rfl,rfl,hc,q⟩:=h;obtain⟨t,rfl⟩:=rx;obtain⟨t',rfl⟩:=ry;exact rule i j t t' s _ _ hc ⟨.int (g i j),H,I.tok _,⟨_,rfl⟩,q⟩
def Et{f:Value->Value->Sem Value}{g:Int->Int->Int}
 (rule:∀ (i j:Int) (t u:Tok) (s:Shared) (Q:Value->Shared->Prop) (E:Value->Shared->Prop),Q (.int (g i j) s.toks) { s with toks:=s.toks+1 }->wpAny (model X.prog X.w) X.A (f (.int i t) (.int j u)) Q E s) :
  OpR X f (rI0 fun i j=>.int (g i j)):=by
 intro pins s σ H x y v u Q I rx ry h;obtain⟨i,j,rfl,rfl,q⟩:=h;obtain⟨t,rfl⟩:=rx;obtain⟨t',rfl⟩:=ry;exact rule i j t t' s _ _ ⟨.int (g i j),H,I.tok _,⟨_,rfl⟩,q⟩
abbrev DP(i j:Int):Prop:=0<=j/\j<=1000000/\i.natAbs<2 ^ 64
abbrev vS(i j:Int):Prop:=(-(2 ^ 64)<i/\i<2 ^ 64)\/(-(2 ^ 64)<j/\j<2 ^ 64)
def vS.ok(h:vS i j):IntMulOk i j:=by
 rcases h with⟨h1,h2⟩ | ⟨h1,h2⟩
 ·exact .of_left (intBits_le_64 h1 h2)
 ·exact .of_right (intBits_le_64 h1 h2)
def Fz:OpR X (binaryOp .Add) (rI0 fun i j=>.int (i+j)):=Et fun _ _ _ _ _ _ _ q=>add_int q
def Fb:OpR X (binaryOp .Sub) (rI0 fun i j=>.int (i-j)):=Et fun _ _ _ _ _ _ _ q=>sub_int q
def G9:OpR X (binaryOp .Mult) (rI vS fun i j=>.int (i*j)):=opI fun _ _ _ _ _ _ _ hc q=>mul_int q hc.ok
def DG:OpR X (binaryOp .Mod) (rI (fun _ j=>0<j) fun i j=>.int (i%j)):=opI fun i j _ _ _ _ _ hc q=>by
 have h1:(0:Int)<j:=hc;exact mod_int' (by omega) (by rw[Int.fmod_eq_emod_of_nonneg i (by omega)];exact q)
def FE:OpR X (binaryOp .Pow) (rI DP fun i j=>.int (i ^ j.toNat)):=opI fun _ _ _ _ _ _ _ hc q=>pow_int_small hc.1 hc.2.1 hc.2.2 q
def unI{f:Value->Sem Value}{g:Int->Int}
 (rule:∀ (i:Int) (t:Tok) (s:Shared) (Q:Value->Shared->Prop) (E:Value->Shared->Prop),Q (.int (g i) s.toks) { s with toks:=s.toks+1 }->wpAny (model X.prog X.w) X.A (f (.int i t)) Q E s) :
  UnR X f (rU fun i=>.int (g i)):=by
 intro pins s σ H x v Q I rx h;obtain⟨i,rfl,q⟩:=h;obtain⟨t,rfl⟩:=rx;exact rule i t s _ _ ⟨.int (g i),H,I.tok _,⟨_,rfl⟩,q⟩
def xm:UnR X (unaryOp .USub) (rU fun i=>.int (-i)):=unI fun _ _ _ _ _ q=>neg_int q
end
abbrev Jj:V->V->Bool
 | .non,.non=>true | .non,.int _=>true | .int _,.non=>true | .non,.bl _=>true | .bl _,.non=>true | .non,.str _=>true | .str _,.non=>true
 | .int _,.int _=>true | .bl _,.bl _=>true | .str _,.str _=>true | .byt _,.byt _=>true
 | .int _,.str _=>true | .str _,.int _=>true | .bl _,.str _=>true | .str _,.bl _=>true
 | _,_=>false
abbrev rNe:R2:=fun x y H Q=>Jj x y=true/\Q (.bl (!decide (x=y))) H
def BA:decide (V.int i=V.int j)=(i == j):=by
 rw[Bool.eq_iff_iff];simp
def E1:decide (V.bl i=V.bl j)=(i == j):=by
 rw[Bool.eq_iff_iff];simp
def C0:decide (V.str i=V.str j)=(i == j):=by
 rw[Bool.eq_iff_iff];simp
def Cy:decide (V.byt i=V.byt j)=(i.toList == j.toList):=by
 rw[Bool.eq_iff_iff];cases i;cases j;simp
section
variable{X:Cx}{a b c:Expr}{ta tb tc:TE}{pos:Pos}
def bY(I:Inv X pins σ H s)(q:Q (.bl k) H)(e:k=k'):EP X pins σ Q (.bool k') s:=by
 subst e;exact⟨.bl k,H,I,rfl,q⟩
def GP:OpR X (compareOp .NotEq) rNe:=by
 intro pins s σ H x y v u Q I rx ry h;obtain⟨hs,q⟩:=h
 cases x with
 |non=>
  cases rx
  cases y with
  | non=>cases ry;exact PySem.EqNone.ne_none_none (bY I q (by simp))
  | bl j=>cases ry;exact PySem.EqNone.ne_none_bool (bY I q (by simp))
  | int j=>obtain⟨t',rfl⟩:=ry;exact PySem.EqNone.ne_none_int (bY I q (by simp))
  | str j=>obtain⟨t',rfl⟩:=ry;exact PySem.EqNone.ne_none_str (bY I q (by simp))
  | _=>exact absurd (show false=true from hs) Bool.false_ne_true
 |bl i=>
  cases rx
  cases y with
  | non=>cases ry;exact PySem.EqNone.ne_bool_none (bY I q (by simp))
  | bl j=>cases ry;exact ne_bool (bY I q (congrArg not E1))
  | str j=>obtain⟨t',rfl⟩:=ry;exact PySem.EqMixed.ne_bool_str (bY I q (by simp))
  | _=>exact absurd (show false=true from hs) Bool.false_ne_true
 |int i=>
  obtain⟨t,rfl⟩:=rx
  cases y with
  | non=>cases ry;exact PySem.EqNone.ne_int_none (bY I q (by simp))
  | int j=>obtain⟨t',rfl⟩:=ry;exact ne_int (bY I q (congrArg not BA))
  | str j=>obtain⟨t',rfl⟩:=ry;exact PySem.EqMixed.ne_int_str (bY I q (by simp))
  | _=>exact absurd (show false=true from hs) Bool.false_ne_true
 |str i=>
  obtain⟨t,rfl⟩:=rx
  cases y with
  | non=>cases ry;exact PySem.EqNone.ne_str_none (bY I q (by simp))
  | bl j=>cases ry;exact PySem.EqMixed.ne_str_bool (bY I q (by simp))
  | int j=>obtain⟨t',rfl⟩:=ry;exact PySem.EqMixed.ne_str_int (bY I q (by simp))
  | str j=>obtain⟨t',rfl⟩:=ry;exact ne_str (bY I q (congrArg not C0))
  | _=>exact absurd (show false=true from hs) Bool.false_ne_true
 |byt i=>
  obtain⟨t,rfl⟩:=rx
  cases y with
  | byt j=>obtain⟨t',rfl⟩:=ry;exact PySem.W.ne_bytes (bY I q (congrArg not Cy))
  | _=>exact absurd (show false=true from hs) Bool.false_ne_true
 | _=>cases y<;>exact absurd (show false=true from hs) Bool.false_ne_true
def OpR.or(h:OpR X f r)(h':OpR X f r'):OpR X f (fun x y H Q=>r x y H Q\/r' x y H Q):=by
 intro pins s σ H x y v u Q I rx ry q;rcases q with q | q
 ·exact h pins s σ H x y v u Q I rx ry q
 ·exact h' pins s σ H x y v u Q I rx ry q
def ya(b:Expr)(h:op≠.In)(h2:op≠.NotIn):behindInMarks op b=false:=by
 have e1:(op == CmpOp.In)=false:=by cases op<;>first | rfl | exact absurd rfl h
 have e2:(op == CmpOp.NotIn)=false:=by cases op<;>first | rfl | exact absurd rfl h2
 cases b<;>simp[behindInMarks,e1,e2]
def uP{op:CmpOp}{r:R2}(ho:OpR X (compareOp op) r)(ha:PE X a ta)(hb:PE X b tb)(hm:behindInMarks op b=false):PE X (.Compare a [op] [b] pos) (tOp r ta tb):=by
 intro pins s σ H Q I h;exact wpAny_Compare1 (zg ha hb I h fun v u s2 x y H2 I2 rx ry q=>ho pins s2 σ H2 x y v u Q I2 rx ry q) hm
abbrev Bn(t:TE):TT:=fun σ H Q=>t σ H fun x H'=>∃ k,x=.bl k/\Q k H'
def oC(ho:OpR X (compareOp op) r)(ha:PE X a ta)(hb:PE X b tb)(hm:behindInMarks op b=false):PT X (.Compare a [op] [b] pos) (Bn (tOp r ta tb)):=by
 intro pins s σ H Q I h
 refine wpAny_isTrue_Compare1 (thn (ha pins s σ H _ I h) fun v s1 ⟨x,H1,I1,r1,q1⟩=>thn (hb pins s1 σ H1 _ I1 q1) fun u s2 ⟨y,H2,I2,r2,q2⟩ =>
  thn (ho pins s2 σ H2 x y v u _ I2 r1 r2 q2) fun c s3 ⟨z,H3,I3,r3,k,e,q3⟩=>?_) hm
 subst e;cases r3;exact wpAny_truthy_bool ⟨H3,I3,q3⟩
abbrev sI(r r':R2)(ta tb tc:TE):TE:=fun σ H Q=>ta σ H fun x H1=>tb σ H1 fun y H2=>r x y H2 fun z H3=>∃ k,z=.bl k /\
 (if k=true then tc σ H3 fun w' H4=>r' y w' H4 Q else Q (.bl false) H3)
def zD(ho:OpR X (compareOp op) r)(ho':OpR X (compareOp op') r')(ha:PE X a ta)(hb:PE X b tb)(hc:PE X c tc)
 (hm:lastMarks [op,op'] [b,c]=false):PE X (.Compare a [op,op'] [b,c] pos) (sI r r' ta tb tc):=by
 intro pins s σ H Q I h
 refine Compare_chain (thn (ha pins s σ H _ I h) fun v s1 ⟨x,H1,I1,r1,q1⟩=>chain_link (thn (hb pins s1 σ H1 _ I1 q1) fun u s2 ⟨y,H2,I2,r2,q2⟩ =>
  thn (ho pins s2 σ H2 x y v u _ I2 r1 r2 q2) fun d s3 ⟨z,H3,I3,r3,k,e,q3⟩=>?_)) hm
 subst e;cases r3;refine wpAny_truthy_bool ?_
 cases k with
 | false=>exact ite_ff ⟨.bl false,H3,I3,rfl,q3⟩
 | true=>exact ite_tt (chain_last (thn (hc pins s3 σ H3 _ I3 q3) fun w' s4 ⟨z',H4,I4,r4,q4⟩=>ho' pins s4 σ H4 y z' u w' Q I4 r2 r4 q4))
def zi(ho:OpR X (compareOp op) r)(ho':OpR X (compareOp op') r')(ha:PE X a ta)(hb:PE X b tb)(hc:PE X c tc)
 (hm:lastMarks [op,op'] [b,c]=false):PT X (.Compare a [op,op'] [b,c] pos) (Bn (sI r r' ta tb tc)):=by
 intro pins s σ H Q I h
 refine isTrue_chain (thn (ha pins s σ H _ I h) fun v s1 ⟨x,H1,I1,r1,q1⟩=>test_link (thn (hb pins s1 σ H1 _ I1 q1) fun u s2 ⟨y,H2,I2,r2,q2⟩ =>
  thn (ho pins s2 σ H2 x y v u _ I2 r1 r2 q2) fun d s3 ⟨z,H3,I3,r3,k,e,q3⟩=>?_)) hm
 subst e;cases r3;refine wpAny_truthy_bool ?_
 cases k with
 |false=>
  obtain⟨k',e',q'⟩:=q3;cases e';exact ite_ff ⟨H3,I3,q'⟩
 |true=>
  refine ite_tt (test_last (thn (hc pins s3 σ H3 _ I3 q3) fun w' s4 ⟨z',H4,I4,r4,q4⟩=>thn (ho' pins s4 σ H4 y z' u w' _ I4 r2 r4 q4) fun d' s5 ⟨z2,H5,I5,r5,k2,e2,q5⟩=>?_));subst e2;cases r5;exact wpAny_truthy_bool ⟨H5,I5,q5⟩
abbrev v7(K:PySem.W.Frag)(x:V)(H:Hp)(k:Bool):Prop :=
 match x with
 | .non=>k=false
 | .bl b=>k=b
 | .int i=>k=(i != 0)
 | .str y=>y.length<=sizeLine/\k=((y.length:Int) != 0)
 | .byt y=>y.size<=sizeLine/\k=((y.size:Int) != 0)
 | .ref p=>(∃ xs,SqL K H p xs/\k=!xs.isEmpty)\/(∃ xs,SqT K H p xs/\k=!xs.isEmpty)\/∃ kvs,H p=some (.dK kvs)/\k=!kvs.isEmpty
 | _=>False
def vo(r:KV kvs vs):(!vs.isEmpty)=!kvs.isEmpty:=by
 cases r<;>rfl
def mL(r:Vals xs its):(!its.toArray.isEmpty)=!xs.isEmpty:=by
 cases r<;>simp
def i6:(sizeLine:Nat)<2 ^ 63:=by rw[sizeLine_eq];decide
def yF:Jw X (fun x H Q=>∃ k,v7 X.K x H k/\Q k H):=by
 intro pins s σ H x v Q I rx h;obtain⟨k,e,q⟩:=h;have hl:=i6;have hs:sizeLine=16777216:=sizeLine_eq
 cases x with
 |non=>
  cases rx;have e':k=false:=e;subst e';exact truthy_none ⟨H,I,q⟩
 |bl b=>
  cases rx;have e':k=b:=e;subst e';exact wpAny_truthy_bool ⟨H,I,q⟩
 |int i=>
  obtain⟨t,rfl⟩:=rx;have e':k=(i != 0):=e;subst e';exact PySem.P.truthy_int ⟨H,I,q⟩
 |str y=>
  obtain⟨t,rfl⟩:=rx;obtain⟨hy,e'⟩:y.length<=sizeLine/\k=((y.length:Int) != 0):=e;subst e';exact PySem.P.truthy_str (by omega) ⟨H,I.tok _,q⟩
 |byt y=>
  obtain⟨t,rfl⟩:=rx;obtain⟨hy,e'⟩:y.size<=sizeLine/\k=((y.size:Int) != 0):=e;subst e';exact PySem.W.truthy_bytes (by omega) ⟨H,I.tok _,q⟩
 |ref p=>
  cases rx;have e':(∃ xs,SqL X.K H p xs/\k=!xs.isEmpty)\/(∃ xs,SqT X.K H p xs/\k=!xs.isEmpty)\/∃ kvs,H p=some (.dK kvs)/\k=!kvs.isEmpty:=e
  rcases e' with⟨xs,hx,e'⟩ | ⟨xs,hx,e'⟩ | ⟨kvs,hx,e'⟩
  ·subst e';obtain⟨its,r,pl,hz⟩:=I.list hx;have hlen:=r.length;exact wpAny_truthy_list pl.isList (by simp only[List.size_toArray];omega) ⟨H,I.tok _,by rw[mL r];exact q⟩
  ·subst e';obtain⟨its,r,pl,hz⟩:=I.tuple hx;have hlen:=r.length;exact truthy_tuple pl (by simp only[List.size_toArray];omega) ⟨H,I.tok _,by rw[mL r];exact q⟩
  ·subst e';obtain⟨hz,hS,vs,r,m⟩:kvs.length<=sizeLine/\(p == sysModules)=false/\∃ vs,KV kvs vs/\s.heap.DictOf (bO X.prog X.w) p vs:=I.hok p _ hx;have hlen:kvs.length=vs.length:=Paired.length r;exact wpAny_truthy_dict hS m (by omega) ⟨H,I.tok _,by rw[vo r];exact q⟩
 | _=>exact(show False from e).elim
def Ar(ha:PE X a ta)(he:∀ whole,isTrue a X.env whole=(do let v <- whole;standAt a.pos;holding [v] (truthy v))) :
  PT X a (fun σ H Q=>ta σ H fun x H'=>∃ k,v7 X.K x H' k/\Q k H'):=by
 intro pins s σ H Q I h;exact isTrue_plain (thn (ha pins s σ H _ I h) fun v s1 ⟨x,H1,I1,r1,q1⟩=>yF pins s1 σ H1 x v Q I1 r1 q1) (he _)
def wg:OpR X (binaryOp .Add) (fun x y H Q=>∃ i j,x=.str i/\y=.str j/\i.length+j.length<=sizeLine/\Q (.str (i++j)) H):=by
 intro pins s σ H x y v u Q I rx ry h;obtain⟨i,j,rfl,rfl,hz,q⟩:=h;obtain⟨t,rfl⟩:=rx;obtain⟨t',rfl⟩:=ry;exact add_str (fun t' tk=>⟨.str (i++j),H,I.tok _,⟨_,rfl⟩,q⟩) hz
def vals1(r:Vals [x] us):∃ u,us=[u]/\RelV x u:=by
 cases r with
 | cons r1 r2=>cases r2;exact⟨_,rfl,r1⟩
def vals2(r:Vals [x,y] us):∃ u w',us=[u,w']/\RelV x u/\RelV y w':=by
 cases r with
 |cons r1 r2=>
  cases r2 with
  | cons r3 r4=>cases r4;exact⟨_,_,rfl,r1,r3⟩
def yy:bF X (.type "int") (fun xs H Q=>(∃ i,xs=[.int i]/\Q (.int i) H)\/∃ k,xs=[.bl k]/\Q (.int (if k then 1 else 0)) H):=by
 intro pins s σ H xs us Q I r h
 rcases h with⟨i,rfl,q⟩ | ⟨k,rfl,q⟩
 ·obtain⟨u,rfl,t,rfl⟩:=vals1 r;exact call_int_int ⟨.int i,H,I,⟨_,rfl⟩,q⟩
 ·obtain⟨u,rfl,r1⟩:=vals1 r;cases r1;exact call_int_bool ⟨.int (if k then 1 else 0),H,I.tok _,⟨_,rfl⟩,q⟩
abbrev EL(K:PySem.W.Frag)(x:V)(H:Hp)(n:Nat):Prop :=
 match x with
 | .str y=>y.length<=sizeLine/\n=y.length
 | .byt y=>y.size<=sizeLine/\n=y.size
 | .ref p=>(∃ xs,SqL K H p xs/\n=xs.length)\/∃ xs,SqT K H p xs/\n=xs.length
 | _=>False
def zJ:bF X (.builtin "len") (fun xs H Q=>∃ x n,xs=[x]/\EL X.K x H n/\Q (.int n) H):=by
 intro pins s σ H xs us Q I r h;obtain⟨x,n,rfl,e,q⟩:=h;obtain⟨u,rfl,rx⟩:=vals1 r;have hl:=i6;have hs:sizeLine=16777216:=sizeLine_eq
 cases x with
 |str y=>
  obtain⟨t,rfl⟩:=rx;obtain⟨hy,e'⟩:y.length<=sizeLine/\n=y.length:=e;subst e';exact len_str (by omega) ⟨.int _,H,I.tok _,⟨_,rfl⟩,q⟩
 |byt y=>
  obtain⟨t,rfl⟩:=rx;obtain⟨hy,e'⟩:y.size<=sizeLine/\n=y.size:=e;subst e';exact PySem.W.len_bytes (by omega) ⟨.int _,H,I.tok _,⟨_,rfl⟩,q⟩
 |ref p=>
  cases rx;have e':(∃ xs,SqL X.K H p xs/\n=xs.length)\/∃ xs,SqT X.K H p xs/\n=xs.length:=e
  rcases e' with⟨xs,hx,e'⟩ | ⟨xs,hx,e'⟩
  ·subst e';obtain⟨its,r',pl,hz⟩:=I.list hx;have hlen:=r'.length;exact Calls.call_len_list pl.isList (by simp only[List.size_toArray];omega) ⟨.int xs.length,H,I.tok _,⟨_,by simp only[List.size_toArray];rw[hlen]⟩,q⟩
  ·subst e';obtain⟨its,r',pl,hz⟩:=I.tuple hx;have hlen:=r'.length;exact len_tuple pl (by simp only[List.size_toArray];omega) ⟨.int xs.length,H,I.tok _,⟨_,by simp only[List.size_toArray];rw[hlen]⟩,q⟩
 | _=>exact(show False from e).elim
end
structure An(h:Heap)(x dx C:Addr)(mA:Str->Option Value):Prop where
 obj:h.get? x=some (PySem.W.instObj C dx)
 ns:h.Ns1 dx mA
 ne:dx≠x
def yx{h:Heap}(n:h.Ns1 dx mA):∃ od,h.get? dx=some od/\∀ name,PySem.W.lookIn name od=some (mA name):=by
 obtain⟨o,es,ep,ho,hd,hk,_,hm⟩:=n;refine⟨o,ho,fun name=>?_⟩;have e:=hm name;unfold nsFind findBy at e;rw[<-Array.find?_toList]at e;unfold PySem.W.lookIn;rw[hd];dsimp only;split
 ·rename_i y q;rw[q]at e;exact congrArg some e
 ·rename_i q;rw[q]at e
  have a:es.toList.any (·.refKey)=false:=by
   rw[List.any_eq_false];intro y hy;obtain⟨z,t,hkey⟩:=hk y (Array.mem_toList_iff.mp hy);simp[DictEntry.refKey,hkey]
  have a':¬ es.toList.any (·.refKey)=true:=by rw[a];exact Bool.false_ne_true
  rw[if_neg a'];exact congrArg some e
def An.look(I:An h x dx C mA):∃ od,PySem.W.InstAt h x (PySem.W.instObj C dx) C (some od)/\∀ name,PySem.W.lookIn name od=some (mA name) :=
 let ⟨od,ho,hl⟩:=yx I.ns
 ⟨od,⟨I.obj,rfl,rfl,ho⟩,hl⟩
section
variable{prog:Program}{w:World}{A:Around}{E:Value->Shared->Prop}{s:Shared}{K:PySem.W.Frag}{x dx C f:Addr}{mA:Str->Option Value}{name:Str}{v:Value}
end
def gI.some_of(r:gI (some v) o):∃ u,o=some u/\RelV v u:=by
 cases o with
 | none=>exact(show False from r).elim
 | some u=>exact⟨u,rfl,r⟩
section
variable{P:Program}{w:World}{H H':Hp}{h h':Heap}{a C dx:Addr}{fs fs':List (Str × V)}
def BZ(hok:HOk P w H h)(e:H a=some (.ins C dx fs)):∃ mA,An h a dx C mA/\(∀ f,gI (fs.lookup f) (mA f))/\PySem.Within mA (fs.map (·.1))/\fs.length<=1000/\H dx=some (.own a):=by
 obtain⟨d,z,ne,ob,mA,n,r,q⟩:=(show bu P w H h a (.ins C dx fs)from hok a _ e)
 exact⟨mA,⟨ob,n,ne⟩,r,q,z,d⟩
end
structure Cls(K:PySem.W.Frag)(C:Addr):Prop where
 pg:PySem.W.plainGet K C Str.empty=true
 hd:PySem.W.hasDictIn K C=true
 po:PySem.W.plainOver K C=true
 sa:PySem.W.findIn K (.ref C) "__setattr__" = some (some (.builtin "object.__setattr__"))
def Cls.get{K:PySem.W.Frag}(c:Cls K C)(f:Str):PySem.W.plainGet K C f=true:=c.pg
section
variable{X:Cx}{pins:List (Addr × Obj)}{σ:St}{H:Hp}{s:Shared}{a C dx:Addr}{fs:List (Str × V)}{f:Str}{v:V}{A:Around}{E:Value->Shared->Prop}
end
section
variable{X:Cx}{o e value:Expr}{f:Str}{pos pos' tpos:Pos}{ta tv:TE}
end
section
variable{X:Cx}{pins:List (Addr × Obj)}{σ:St}{H:Hp}{s:Shared}{A:Around}{E:Value->Shared->Prop}{Q:Value->Shared->Prop}{c:Value}{b:Bool}
inductive eK (K:PySem.W.Frag) (H:Hp):V->Value->Prop where
 | non:eK K H .non (.type "NoneType")
 | bl (x:Bool):eK K H (.bl x) (.type "bool")
 | int (i:Int):eK K H (.int i) (.type "int")
 | str (x:Str):eK K H (.str x) (.type "str")
 | flt (x:UInt64):eK K H (.flt x) (.type "float")
 | lst {a:Addr} {xs:List V} (e:H a=some (.lst xs)):eK K H (.ref a) (.type "list")
 | frz {a:Addr} {o:Obj} {xs:List V} (e:H a=some (.frz o (.lst xs))):eK K H (.ref a) (.type "list")
 | tup {a:Addr} {xs:List V} (e:H a=some (.tup xs)):eK K H (.ref a) (.type "tuple")
 | dK {a:Addr} {kvs:List (Key × V)} (e:H a=some (.dK kvs)):eK K H (.ref a) (.type "dict")
 | dT {a:Addr} {kvs:List (List Key × V)} (e:H a=some (.dT kvs)):eK K H (.ref a) (.type "dict")
 | ins {a C dx:Addr} {fs:List (Str × V)} (e:H a=some (.ins C dx fs)) (cl:Cls K C) (ha:PySem.W.findIn K (.ref C) "__class__" = some (some (.builtin "object.__class__")))
   (hn:PySem.W.specialIn K (.builtin "object.__class__") "__get__" = some (some (.builtin "getset_descriptor.__get__"))) (htk:PySem.W.takesIn K (.builtin "object.__class__")=some true)
   (hm:PySem.W.mroIn K C (.type "object")=some true):eK K H (.ref a) (.ref C)
def wG(I:Inv X pins σ H s)(rx:RelV x u)(ty:eK X.K H x t)(e:PySem.W.kitOne X.K t c=some b)(h:∀ tk,Q (.bool b) { s with toks:=tk }) :
  wpAny (model X.prog X.w) A (call (.builtin "isinstance") [u,c]) Q E s:=by
 cases ty with
 | non=>cases(show u=Value.none from rx);exact PySem.W.kia_one PySem.W.kitx_none I.kIn True.intro e (fun z=>nomatch z) h
 | bl y=>cases(show u=Value.bool y from rx);exact PySem.W.kia_one PySem.W.kitx_bool I.kIn True.intro e (fun z=>nomatch z) h
 | int i=>obtain⟨t,q⟩:=(show ∃ t,u=Value.int i t from rx);cases q;exact PySem.W.kia_one PySem.W.kitx_int I.kIn True.intro e (fun z=>nomatch z) h
 | str y=>obtain⟨t,q⟩:=(show ∃ t,u=Value.str y t from rx);cases q;exact PySem.W.kia_one PySem.W.kitx_str I.kIn True.intro e (fun z=>nomatch z) h
 | flt y=>obtain⟨t,q⟩:=(show ∃ t,u=Value.float y t from rx);cases q;exact PySem.W.kia_one PySem.W.kitx_float I.kIn True.intro e (fun z=>nomatch z) h
 |@lst a xs ea=>
  cases(show u=Value.ref a from rx)
  obtain⟨_,_,n,_,h1⟩:=(show bu X.prog X.w H s.heap a (.lst xs)from I.hok a _ ea)
  exact PySem.W.kia_one PySem.W.kitx_list I.kIn ⟨_,h1,rfl⟩ e (fun z=>nomatch z) h
 |@frz a ob xs ea=>
  cases(show u=Value.ref a from rx)
  obtain⟨_,_,_,n,_,h1⟩:=(show bu X.prog X.w H s.heap a (.frz ob (.lst xs))from I.hok a _ ea)
  exact PySem.W.kia_one PySem.W.kitx_list I.kIn ⟨_,h1,rfl⟩ e (fun z=>nomatch z) h
 |@tup a xs ea=>
  cases(show u=Value.ref a from rx)
  obtain⟨_,_,_,p⟩:=(show bu X.prog X.w H s.heap a (.tup xs)from I.hok a _ ea)
  obtain⟨o,h1,h2,_⟩:=p;exact PySem.W.kia_one PySem.W.kitx_tuple I.kIn ⟨o,h1,h2⟩ e (fun z=>nomatch z) h
 |@dK a kvs ea=>
  cases(show u=Value.ref a from rx)
  obtain⟨_,_,vs,_,p⟩:=(show bu X.prog X.w H s.heap a (.dK kvs)from I.hok a _ ea)
  obtain⟨o,es,ep,h1,h2,_⟩:=p;exact PySem.W.kia_one PySem.W.kitx_dict I.kIn ⟨o,h1,h2.1⟩ e (fun z=>nomatch z) h
 |@dT a kvs ea=>
  cases(show u=Value.ref a from rx)
  obtain⟨_,_,xs,_,o,es,ep,h1,h2,_⟩:=(show bu X.prog X.w H s.heap a (.dT kvs)from I.hok a _ ea)
  exact PySem.W.kia_one PySem.W.kitx_dict I.kIn ⟨o,h1,h2.1⟩ e (fun z=>nomatch z) h
 |@ins a C dx fs ea cl ha hn htk hm=>
  cases(show u=Value.ref a from rx);obtain⟨mA,O,_⟩:=BZ I.hok ea;obtain⟨od,J,_⟩:=O.look;exact PySem.W.kia_one (PySem.W.kitx_own (cl.get _) cl.hd ha hn htk hm) I.kIn J e (fun z=>nomatch z) h
end
structure dM(k:Nat)(A:Around):Prop where
 hd:A.handled=none
 dp:A.depth+3*k+5<recursionLimit
 un:A.units+16*k+200<cLine
def dM.deeper(r:dM (k+1) A)(env:Env):dM k (A.deeper env) :=
 ⟨r.hd,by have:=r.dp;show A.depth+1+3*k+5<_;omega,by have:=r.un;show A.units+3+16*k+200<_;omega⟩
def dM.depth(r:dM k A):A.depth<recursionLimit:=by have:=r.dp;omega
abbrev sN:TA:=fun _ H Q=>Q [] H
abbrev hZ(ta:TE)(tr:TA):TA:=fun σ H Q=>ta σ H fun x H1=>tr σ H1 fun xs H2=>Q (x::xs) H2
section
variable{X:Cx}{e:Expr}{es:List Expr}{te:TE}{t:TA}{pos:Pos}
def dh:PA X [] sN:=fun _ _ _ _ H Q I h=>Calls.spliced_nil ⟨[],H,I,.nil,h⟩
def bE(ha:PE X e te)(hr:PA X es t)(hs:starEach (e::es) X.env=(false,eval e X.env)::starEach es X.env):PA X (e::es) (hZ te t):=by
 intro pos pins s σ H Q I h;rw[hs];show wpAny _ _ (spliced ((false,eval e X.env)::backTo pos (starEach es X.env))) _ _ s;refine Calls.spliced_cons (thn (ha pins s σ H _ I h) fun u s1 ⟨x,H1,I1,r1,q1⟩=>?_)
 exact thn (hr pos pins s1 σ H1 _ I1 q1) fun us s2 ⟨xs,H2,I2,r2,q2⟩=>⟨x::xs,H2,I2,.cons r1 r2,q2⟩
abbrev Iw(t:TA):TE:=fun σ H Q=>t σ H fun xs H1=>xs.length<=sizeLine/\∀ p,H1 p=none->Q (.ref p) (upd H1 p (.tup xs))
abbrev IB(t:TA):TE:=fun σ H Q=>t σ H fun xs H1=>xs.length<=sizeLine/\∀ p,H1 p=none->Q (.ref p) (upd H1 p (.lst xs))
def E6(h:PA X es t):PE X (.Tuple es x1 pos) (Iw t):=by
 intro pins s σ H Q I hq;refine wpAny_Tuple_spliced (thn (h pos pins s σ H _ I hq) fun us s1 ⟨xs,H1,I1,r,z,q⟩=>⟨by rw[<-r.length];exact z,?_⟩);have hf:H1 s1.heap.objs.size=none:=I1.hok.fresh (Nat.le_refl _);refine⟨.ref s1.heap.objs.size,upd H1 s1.heap.objs.size (.tup xs),I1.laid (t':=s1.toks) (fun b u e=>Heap.get?_push_of_some _ e) (Nat.le_refl _) ?_,rfl,q _ hf⟩;exact⟨z,us,r,⟨_,Heap.get?_push_size _ rfl,rfl,_,rfl⟩⟩
def Eg(h:PA X es t):PE X (.List es pos) (IB t):=by
 intro pins s σ H Q I hq;refine wpAny_List_spliced (thn (h pos pins s σ H _ I hq) fun us s1 ⟨xs,H1,I1,r,z,q⟩=>⟨by rw[<-r.length];exact z,?_⟩);have hf:H1 s1.heap.objs.size=none:=I1.hok.fresh (Nat.le_refl _);refine⟨.ref s1.heap.objs.size,upd H1 s1.heap.objs.size (.lst xs),I1.laid (t':=s1.toks) (fun b u e=>Heap.get?_push_of_some _ e) (Nat.le_refl _) ?_,rfl,q _ hf⟩;exact⟨z,us,0,r,Heap.get?_push_size _ rfl⟩
end
@[reducible]noncomputable def Sp:=List V->Hp->VK->XK->Prop
@[reducible]noncomputable def CXT:=List Env->Hp->Shared->XK->Value->Shared->Prop
structure wm(P:Program)(w:World)(K:PySem.W.Frag)(mg:Str->Option Value)(base:Heap)(A:Around)(outer:List Env)(s:Shared)(H:Hp):Prop where
 frames:A.frames=some outer
 mod:Mod K mg base
 bs:∀ b o,base.get? b=some o->s.heap.get? b=some o/\H b=none
 bsz:base.objs.size<=s.heap.objs.size
 gR:s.heap.FunFrames base outer
 frf:∀ b∈frs outer,H b=none
 hok:HOk P w H s.heap
 bare:AllBare s.gens
abbrev CE(outer:List Env)(P:Program)(w:World)(H:Hp)(s:Shared)(Q:VK)(u:Value)(s':Shared):Prop :=
 ∃ v H',s'.os=s.os/\AllBare s'.gens/\Un (frs outer) [] H H' s.heap s'.heap/\HOk P w H' s'.heap/\RelV v u/\Q v H'
abbrev CR(CX:CXT)(outer:List Env)(P:Program)(w:World)(H:Hp)(s:Shared)(Q:VK)(E:XK)(r:Result)(s':Shared):Prop :=
 match r with
 | .ok (.ret u)=>CE outer P w H s Q u s'
 | .ok _=>False
 | .error e=>CX outer H s E e s'
structure ip(P:Program)(w:World)(K:PySem.W.Frag)(mg:Str->Option Value)(base:Heap)(CX:CXT)(k:Nat)(f:Addr)(fd:FuncData)(ps:List Str)(sp:Sp):Prop where
 len:∀ vs H Q E,sp vs H Q E->vs.length=ps.length
 run:∀ (A:Around) (outer:List Env) (s:Shared) (H:Hp) (args:Args) (us:List Value) (vs:List V) (Q:VK) (E:XK),dM k A->wm P w K mg base A outer s H->BindsTo s fd args (ps.zip us)->Vals vs us->sp vs H Q E ->
  codeAny (model P w) A (.call (.ref f) args) (CR CX outer P w H s Q E) s
section
variable{X:Cx}{pins:List (Addr × Obj)}{σ:St}{H:Hp}{s s':Shared}
def Inv.Ip(I:Inv X pins σ H s):wm X.prog X.w X.K X.mg X.base X.A X.stack s H :=
 ⟨I.ok.frames,I.ok.mod,I.bs,Nat.le_trans I.ok.bsz I.sz,I.stack,I.uA,I.hok,I.bare⟩
def Inv.after(I:Inv X pins σ H s)(h:CE X.stack X.prog X.w H s Q u s'):EP X pins σ Q u s':=by
 obtain⟨v,H',os,bare,un,hok,r,q⟩:=h;obtain⟨hh,g,d,t,os'⟩:=s';obtain rfl:os'=s.os:=os;exact⟨v,H',I.call (h':=hh) (g':=g) (d':=d) (t':=t) (ch:=[]) un hok bare (fun b z=>absurd z (by simp)),r,q⟩
end
abbrev m5(sp:Sp)(dvs:List V)(E:XK)(t:TA):TE:=fun σ H Q=>t σ H fun vs H1=>sp (vs++dvs) H1 Q E
abbrev Binds(K:PySem.W.Frag)(fd:FuncData)(ps:List Str)(ds:List Value):Prop :=
 ∀ (s:Shared) (us:List Value),K.In s.heap->(us++ds).length=ps.length->BindsTo s fd ⟨us,[]⟩ (ps.zip (us++ds))
def Binds.all{K:PySem.W.Frag}(h:∀ us:List Value,us.length=ps.length->bindArgs fd ⟨us,[]⟩=pure (ps.zip us)):Binds K fd ps []:=fun s us _ hl=>by
 rw[List.append_nil]at hl ⊢;exact .of_eq (h us hl)
abbrev Passes(CX:CXT)(X:Cx)(E:XK):Prop:=∀ (pins:List (Addr × Obj)) (σ:St) (H:Hp) (s:Shared) (e:Value) (s':Shared),Inv X pins σ H s->CX X.stack H s E e s'->X.xe e s'
section
variable{X:Cx}{CX:CXT}{k:Nat}{f C:Addr}{fd:FuncData}{ps:List Str}{sp:Sp}{dvs:List V}{ds:List Value}{E:XK}{x m:Str}{p pos apos:Pos}{e o:Expr}{es:List Expr}{ta:TE}{t:TA}
def Em(F:ip X.prog X.w X.K X.mg X.base CX k f fd ps sp)(hr:dM k X.A)(hb:Binds X.K fd ps ds)(hd:Vals dvs ds)(hx:Passes CX X E)
 (I:Inv X pins σ H s)(r:Vals vs us)(h:sp (vs++dvs) H Q E):wpAny (model X.prog X.w) X.A (call (.ref f) us) (EP X pins σ Q) X.xe s:=by
 have r2:Vals (vs++dvs) (us++ds):=r.append hd
 have hl:(us++ds).length=ps.length:=by rw[<-r2.length];exact F.len _ _ _ _ h
 refine wpAny_call (codeAny_mono (F.run X.A X.stack s H ⟨us,[]⟩ (us++ds) (vs++dvs) Q E hr I.Ip (hb s us I.kIn hl) r2 h) fun r s' hq=>?_)
 cases r with
 | error e=>exact hx pins σ H s e s' I hq
 |ok fl=>
  cases fl with
  | ret u=>exact I.after hq
  | next=>exact False.elim hq
  | brk=>exact False.elim hq
  | cont=>exact False.elim hq
def oG(F:ip X.prog X.w X.K X.mg X.base CX k f fd ps sp)(hr:dM k X.A)(hg:Gl X x)(hm:X.mg x=some (.ref f))(hk:PySem.W.keepIn X.K (.ref f)=true)(hb:Binds X.K fd ps ds)(hd:Vals dvs ds)(hx:Passes CX X E)
 (ha:PA X (e::es) t)(hdb:(x == ("__debug__" : Str))=false)(he:starEach (e::es) X.env=(false,eval e X.env)::starEach es X.env)(hpl:(backTo pos (starEach es X.env)).any (·.1)=false) :
  PE X (.Call (.Name x p) (e::es) [] pos) (m5 sp dvs E t):=by
 intro pins s σ H Q I h;refine wpAny_Call_Name_kw (uq I hg hm ?_ hdb);refine PySem.W.callWith_K (h₀:=X.base) I.ok.mod.kin hk (thn (ha pos pins s σ H _ I h) fun us s1 ⟨vs,H1,I1,r,q⟩=>⟨I1.kIn,?_⟩) he hpl;exact Em F hr hb hd hx I1 r q
end
section
variable{X:Cx}{CX:CXT}{k:Nat}{f C:Addr}{fd:FuncData}{ps ks:List Str}{sp:Sp}{E:XK}{x m:Str}{p pos apos kpos:Pos}{e o:Expr}{es:List Expr}{kws:List Keyword}{te ta:TE}{t tk:TA}{nm:Option Str}
variable{g:List Value->List Value->List Value}{gV:List V->List V->List V}
end
structure kN(N P:List Str)(sc:Scope):Prop where
 kind:sc.kind=.function
 co:sc.isCoroutine=false
 gen:sc.isGenerator=false
 nd:N.Nodup
 pre:N.take P.length=P
 par:∀ x∈P,sc.names.lookup x=some .local\/sc.names.lookup x=some .cell
 FU:∀ y∈sc.names,y.2≠.free
def pH{kindOf:Str->Option NameKind}:∀ {binds:List (Str × Value)} {m:Str->Option Value},(∀ v,(x,v)∉binds)->bindL kindOf binds m x=m x
 | [],_,_=>rfl
 | (n,v)::r,m,h=>by
  unfold bindL;rw[pH fun w hw=>h w (List.mem_cons_of_mem _ hw)];split
  ·have:x≠n:=by rintro rfl;exact h v List.mem_cons_self
   simp[this]
  ·rfl
def pL{kindOf:Str->Option NameKind}:∀ {binds:List (Str × Value)} {m:Str->Option Value},(∀ v,(x,v)∉binds)->bindC kindOf binds m x=m x
 | [],_,_=>rfl
 | (n,v)::r,m,h=>by
  unfold bindC;rw[pL fun w hw=>h w (List.mem_cons_of_mem _ hw)];split
  ·rfl
  ·have:x≠n:=by rintro rfl;exact h v List.mem_cons_self
   simp[this]
def pA{kindOf:Str->Option NameKind}:∀ {P:List Str} {vs:List Value} {i:Nat} {m:Str->Option Value},P.Nodup->P[i]?=some x->vs[i]?=some v->kindOf x=some .local ->
  bindL kindOf (P.zip vs) m x=some v
 | [],_,_,_,_,h,_,_=>by simp at h
 | _::_,[],_,_,_,_,h,_=>by simp at h
 | p::P,w::vs,0,m,nd,h1,h2,hk=>by
  simp at h1 h2;subst h1;subst h2;show bindL kindOf ((p,w)::P.zip vs) m p=_;unfold bindL;rw[pH fun v hv=>(List.nodup_cons.mp nd).1 (List.of_mem_zip hv).1,if_pos hk];simp
 | p::P,w::vs,i+1,m,nd,h1,h2,hk=>by
  show bindL kindOf ((p,w)::P.zip vs) m x=_;unfold bindL;exact pA (i:=i) (List.nodup_cons.mp nd).2 (by simpa using h1) (by simpa using h2) hk
def pF{kindOf:Str->Option NameKind}:∀ {P:List Str} {vs:List Value} {i:Nat} {m:Str->Option Value},P.Nodup->P[i]?=some x->vs[i]?=some v->kindOf x≠some .local ->
  bindC kindOf (P.zip vs) m x=some v
 | [],_,_,_,_,h,_,_=>by simp at h
 | _::_,[],_,_,_,_,h,_=>by simp at h
 | p::P,w::vs,0,m,nd,h1,h2,hk=>by
  simp at h1 h2;subst h1;subst h2;show bindC kindOf ((p,w)::P.zip vs) m p=_;unfold bindC;rw[pL fun v hv=>(List.nodup_cons.mp nd).1 (List.of_mem_zip hv).1,if_neg hk];simp
 | p::P,w::vs,i+1,m,nd,h1,h2,hk=>by
  show bindC kindOf ((p,w)::P.zip vs) m x=_;unfold bindC;exact pF (i:=i) (List.nodup_cons.mp nd).2 (by simpa using h1) (by simpa using h2) hk
abbrev start(N:List Str)(vs:List V):St:=vs.map some++List.replicate (N.length-vs.length) none
abbrev lU(CX:CXT)(P:Program)(w:World)(K:PySem.W.Frag)(mg:Str->Option Value)(base:Heap)(N:List Str)(qual:Str)(scope:Scope)(f:Addr)(cd:Value)(A:Around)(outer:List Env)(s:Shared)(H:Hp)(E:XK):Cx where
 prog:=P
 w:=w
 K:=K
 mg:=mg
 base:=base
 A:=A.deeper (envOfC qual scope s.heap.objs.size f cd)
 N:=N
 s₀:=s
 H₀:=H
 env:=envOfC qual scope s.heap.objs.size f cd
 outer:=outer
 stack:=envOfC qual scope s.heap.objs.size f cd::outer
 ex:=[]
 calm:=true
 fn:=fun _=>true
 pn:=[]
 xe:=fun e s'=>wpAny (model P w) (A.deeper (envOfC qual scope s.heap.objs.size f cd)) (leaving (envOfC qual scope s.heap.objs.size f cd) e) (fun _ s''=>CX outer H s E e s'') (fun e' s''=>CX outer H s E e' s'') s'
def r0{sc:Scope}(h:sc.names.lookup x=some .cell):∃ c,(cellsFrom n sc.names []).lookup x=some c:=by
 have q:=PySem.W.cellsFrom_some sc.names n [] (.inl h);exact Option.isSome_iff_exists.mp q
def yc{CX:CXT}{P:Program}{w:World}{K:PySem.W.Frag}{mg:Str->Option Value}{base:Heap}{N ps:List Str}{qual:Str}{scope:Scope}{f:Addr}{cd:Value}{A:Around}{outer:List Env}{s s1:Shared}{H:Hp}{E:XK}{us:List Value}{vs:List V}
 (S:kN N ps scope)(hd:A.handled=none)(e0:wm P w K mg base A outer s H)(hl:vs.length=ps.length)(r:Vals vs us)
 (x:InCallC s s.heap.objs.size (bindL (envOfC qual scope s.heap.objs.size f cd).kindOf (ps.zip us) fun _=>none) (cellsFrom (s.heap.objs.size+1) scope.names []) (bindC (envOfC qual scope s.heap.objs.size f cd).kindOf (ps.zip us) fun _=>none) s1) :
  Inv (lU CX P w K mg base N qual scope f cd A outer s H E) [] (start N vs) H s1:=by
 have hpl:ps.length<=N.length:=by have:=congrArg List.length S.pre;rw[List.length_take]at this;omega
 obtain⟨h1,tk,rfl,hk⟩:=x.done;have noA:∀ b:Addr,b∉(lU CX P w K mg base N qual scope f cd A outer s H E).ex:=fun b z=>absurd (show b∈([]:List Addr)from z) (by simp)
 refine⟨⟨e0.mod,S.kind,rfl,rfl,Nat.le_refl _,fun y z c h1 h2=>?_,fun y hy=>?_,fun y c _ h=>?_,⟨fun _=>hd,.inl hd⟩,Around.frames_deeper e0.frames,.inr ⟨rfl,rfl⟩,fun b z=>absurd z (noA b),e0.bs,e0.bsz,fun b _ _=>noA b,fun b z=>absurd z (noA b),e0.gR,e0.frf⟩,
  rfl,e0.bare,Un.kept hk,⟨_,x.toInCall.ns,fun i y v h1 h2 h3=>?_⟩,fun y c h=>⟨_,x.cell y c h⟩,e0.hok.fresh (Nat.le_refl _),fun y c h=>?_,fun p hp=>absurd (show p∈([]:List (Addr × Obj))from hp) (by simp),e0.hok.kept hk,?_⟩
 ·exact name_of_addr x.apart (PySem.mem_of_lookup h1) (PySem.mem_of_lookup h2)
 ·have hy:scope.names.lookup y=some .cell\/scope.names.lookup y=some .free:=hy;rcases hy with hy | hy
  ·exact r0 hy
  ·exact absurd rfl (S.FU _ (PySem.mem_of_lookup hy))
 ·exact Nat.le_of_lt (x.above y c (PySem.mem_of_lookup h))
 ·have hi:i<vs.length:=by
   unfold start at h2;by_cases hi:i<vs.length
   ·exact hi
   ·rw[List.getElem?_append_right (by simpa using hi)]at h2;rw[List.getElem?_replicate]at h2;split at h2<;>cases h2
  have ha:vs[i]?=some v:=by
   unfold start at h2;rw[List.getElem?_append_left (by simpa using hi),List.getElem?_map]at h2
   cases e:vs[i]? with
   | none=>rw[e]at h2;cases h2
   | some a=>rw[e]at h2;cases h2;rfl
  obtain⟨u,hu,rv⟩:=r.get ha
  have hp:ps[i]?=some y:=by
   rw[<-S.pre,List.getElem?_take_of_lt (by omega)];exact h1
  have ndP:ps.Nodup:=by rw[<-S.pre];exact S.nd.sublist (List.take_sublist _ _)
  refine⟨u,rv,?_⟩;rcases S.par y (List.mem_of_getElem? hp)with k | k
  ·exact .inl ⟨k,pA ndP hp hu k⟩
  ·obtain⟨c,e⟩:=r0 (n:=s.heap.objs.size+1) k;refine .inr ⟨.inl k,c,e,?_⟩;have q:=x.cell y c e;rw[pF ndP hp hu (by show scope.names.lookup y≠_;rw[k];decide)]at q;exact q
 ·exact e0.hok.fresh (Nat.le_of_lt (x.above y c (PySem.mem_of_lookup h)))
 ·unfold start;show _=N.length;rw[List.length_append,List.length_map,List.length_replicate];omega
def Ha{CX:CXT}{P:Program}{w:World}{K:PySem.W.Frag}{mg:Str->Option Value}{base:Heap}{k:Nat}{f:Addr}{name qual:Str}{params:Arguments}{body:List Stmt}{scope:Scope}{dV kV doc pm cdv ct oc:Value}{an od:Option Addr}
 {osl:Array (Option Value)}{N ps:List Str}{sp:Sp}(lk:K.lookup f=some ⟨oc,od,.func (PySem.W.fnOf name qual params body scope dV kV doc pm an cdv ct),osl⟩)(hcd:PySem.W.codeIn K cdv qual=true)(S:kN N ps scope)
 (len:∀ vs H Q E,sp vs H Q E->vs.length=ps.length)
 (hbody:∀ (A:Around) (outer:List Env) (s:Shared) (H:Hp) (vs:List V) (Q:VK) (E:XK),dM k (A.deeper (envOfC qual scope s.heap.objs.size f cdv))->sp vs H Q E ->
   ∃ t,PSs (lU CX P w K mg base N qual scope f cdv A outer s H E) body t/\t { nx:=fun _ H'=>Q .non H',rt:=Q } (start N vs) H) :
  ip P w K mg base CX (k+1) f (PySem.W.fnOf name qual params body scope dV kV doc pm an cdv ct) ps sp:=by
 refine⟨len,fun A outer s H args us vs Q E hr e0 hb r hsp=>?_⟩;have hl:=len _ _ _ _ hsp;have KX:K.In s.heap:=e0.mod.kin.keeps fun b o e=>(e0.bs b o e).1;have lim:s.heap.NoLimit:=e0.mod.nolimit.keeps fun b o e=>(e0.bs b o e).1
 have hkind:∀ y∈ps.zip us,scope.names.lookup y.1=some .local\/(scope.names.lookup y.1=some .cell/\((cellsFrom (s.heap.objs.size+1) scope.names []).lookup y.1).isSome=true):=fun⟨n,v⟩ hy=>by
  rcases S.par n (List.of_mem_zip hy).1 with q | q
  ·exact .inl q
  ·exact .inr ⟨q,PySem.W.cellsFrom_some _ _ _ (.inl q)⟩
 refine codeAny_call_function hr.depth (KX _ _ lk) rfl S.co S.gen rfl (PySem.W.codeRec_of KX hcd) (hb _ _ _ _ ?_);refine wpAny_newFunctionEnv_cells S.kind hkind fun env he s1 x=>?_;subst he;refine⟨lim.keeps x.toInCall.keep,codeAny_func ?_⟩;obtain⟨t,ht,hq⟩:=hbody A outer s H vs Q E (hr.deeper _) hsp;have I:Inv (lU CX P w K mg base N qual scope f cdv A outer s H E) [] (start N vs) H s1:=yc S hr.hd e0 hl r x;refine wpAny_mono (ht [] s1 (start N vs) H _ I hq) (fun fl s' hs=>?_) fun e s' hs=>hs
 have fin:∀ {σ':St} {H':Hp} {v:V} {u:Value},Inv (lU CX P w K mg base N qual scope f cdv A outer s H E) [] σ' H' s'->RelV v u->Q v H'->CE outer P w H s Q u s' :=
  fun {σ' H' v u} J rv q=>⟨v,H',J.os,J.bare,J.base,J.hok,rv,q⟩
 cases fl with
 |ret u=>
  obtain⟨v,σ',H',J,rv,q⟩:=hs;exact fin J rv q
 |next=>
  obtain⟨σ',H',J,q⟩:=hs;exact fin (v:=V.non) (u:=Value.none) J rfl q
 |brk=>
  obtain⟨_,_,_,q⟩:=hs;exact False.elim q
 |cont=>
  obtain⟨_,_,_,q⟩:=hs;exact False.elim q
section
variable{X:Cx}{x:Str}{p pos:Pos}{e:Expr}{es:List Expr}{t:TA}{id T:String}{r:List V->Hp->VK->Prop}
abbrev tCB(r:List V->Hp->VK->Prop)(t:TA):TE:=fun σ H Q=>t σ H fun vs H1=>r vs H1 Q
def lS(hc:bF X (.builtin id) r)(hg:Gl X x)(hm:X.mg x=none)(hv:bootBuiltins x=some (.builtin id))(ha:PA X (e::es) t)(hn:x ≠ "__name__")(hdb:(x == ("__debug__" : Str))=false)
 (he:starEach (e::es) X.env=(false,eval e X.env)::starEach es X.env)(hpl:(backTo pos (starEach es X.env)).any (·.1)=false):PE X (.Call (.Name x p) (e::es) [] pos) (tCB r t):=by
 intro pins s σ H Q I h;refine wpAny_Call_Name_kw (gP I hg hm hv ?_ hn hdb);exact PyProof.Rows.callWith_builtin1 (thn (ha pos pins s σ H _ I h) fun us s1 ⟨vs,H1,I1,r1,q1⟩=>hc pins s1 σ H1 vs us Q I1 r1 q1) he hpl
def c8(hc:bF X (.type T) r)(hg:Gl X x)(hm:X.mg x=none)(hv:bootBuiltins x=some (.type T))(ha:PA X (e::es) t)(hn:x ≠ "__name__")(hdb:(x == ("__debug__" : Str))=false)
 (he:starEach (e::es) X.env=(false,eval e X.env)::starEach es X.env)(hpl:(backTo pos (starEach es X.env)).any (·.1)=false):PE X (.Call (.Name x p) (e::es) [] pos) (tCB r t):=by
 intro pins s σ H Q I h;refine wpAny_Call_Name_kw (gP I hg hm hv ?_ hn hdb);exact PyProof.Rows.callWith_type1 (thn (ha pos pins s σ H _ I h) fun us s1 ⟨vs,H1,I1,r1,q1⟩=>hc pins s1 σ H1 vs us Q I1 r1 q1) he hpl
end
end L2
namespace HT
open PySem PyProof.Rows
section
open PySem.SeqAt
open PySem.AutoSeq1 (wpAny_loadPart')
open PySem.MeetsSeq PySem.MeetsSeq2 PySem.MeetsSeq3
end
section
variable{prog:Program}{w:World}{A:Around}{E:Value->Shared->Prop}{s:Shared}
def Cm(ht:IsTup s.heap t vs.toArray)(hb:IsTup s.heap b ws.toArray)(hv:vs≠[])
 (h1:ws=[]->Q (.ref t) s)(h2:ws≠[]->Q (.ref s.heap.objs.size) { s with heap:=s.heap.push { cls:=.type "tuple",data:=.seq (vs++ws).toArray } })
 (hsz:vs.length+ws.length<=sizeLine):wpAny (model prog w) A (binaryOp .Add (.ref t) (.ref b)) Q E s:=by
 obtain⟨⟨cls,dd,data,sl⟩,ho,hc,n,hd⟩:=id ht;obtain⟨⟨cls2,dd2,data2,sl2⟩,ho2,hc2,n2,hd2⟩:=id hb;simp only at hc hd hc2 hd2;subst hc hd hc2 hd2
 have e:vs.toArray++ws.toArray=(vs++ws).toArray:=by simp
 by_cases hw:ws=[]
 ·exact concat_meets ⟨_,ho,rfl⟩ ⟨_,ho2,rfl⟩ noFill_tuple_add seq_tuple_add PySem.F.slot_tuple_add PySem.F.entry_tuple_add (PySem.F.args_tuple_add_2 _ _)
   (tuple_addW1 t b vs.toArray ws.toArray n n2 dd dd2 sl sl2 (by simpa using hv) (by simp[hw])) ⟨ho,ho2,h1 hw⟩
 ·refine concat_meets ⟨_,ho,rfl⟩ ⟨_,ho2,rfl⟩ noFill_tuple_add seq_tuple_add PySem.F.slot_tuple_add PySem.F.entry_tuple_add (PySem.F.args_tuple_add_2 _ _)
   (tuple_addW2 t b vs.toArray ws.toArray n n2 dd dd2 sl sl2 (by simpa using hv) (by simpa using hw) (by rw[List.size_toArray,List.size_toArray];exact hsz)) ⟨ho,ho2,?_⟩
  rw[e];exact h2 hw
abbrev sIx(n d:Nat):Option Int->Nat
 | none=>d
 | some v=>if v<0 then(v+(n:Int)).toNat else min v.toNat n
def zm(n d:Nat):sIx n d none=d:=rfl
def ES(n d:Nat)(hd:d<=n)(o:Option Int):sIx n d o<=n:=by
 cases o with
 | none=>exact hd
 |some v=>
  show(if v<0 then(v+(n:Int)).toNat else min v.toNat n)<=n;by_cases hv:v<0
  ·rw[if_pos hv];omega
  ·rw[if_neg hv];exact Nat.min_le_right _ _
def lr(v:Int)(n d:Nat):(if v<0 then max (v+(n:Int)) 0 else min v (n:Int))=((sIx n d (some v):Nat):Int):=by
 show(if v<0 then max (v+(n:Int)) 0 else min v (n:Int))=(((if v<0 then(v+(n:Int)).toNat else min v.toNat n):Nat):Int);by_cases hv:v<0
 ·simp only[if_pos hv];omega
 ·simp only[if_neg hv];omega
def vz(lo hi:Option Int)(n:Nat):Builtin.Slice.sliceAdjust lo hi 1 (n:Int)=(((sIx n 0 lo:Nat):Int),((sIx n n hi:Nat):Int)):=by
 have h1:¬ ((1:Int)<0):=by omega
 unfold Builtin.Slice.sliceAdjust;simp only[h1,if_false];refine Prod.ext ?_ ?_
 ·cases lo with
  | none=>rfl
  | some v=>exact lr v n 0
 ·cases hi with
  | none=>rfl
  | some v=>exact lr v n n
def wq(i j:Nat):Builtin.Slice.slicePlaces (i:Int) (j:Int) 1=j-i:=by
 unfold Builtin.Slice.slicePlaces
 have h1:(1:Int) > 0:=by omega
 simp only[h1,if_true,Int.ediv_one];split<;>omega
def mJ(p:IsPart v o)(h:Q o s):wpAny (model prog w) A (Builtin.Slice.slicePartIndex v) Q E s:=by
 cases p with
 | none=>exact slicePart_none h
 | int i t=>exact slicePart_int h
def lI{sl:Addr}{vl vu:Value}{lo hi:Option Int}{n:Nat}{Q:Int × Int × Nat->Shared->Prop}(hs:s.heap.IsSliceOf sl vl vu .none)(pl:IsPart vl lo)(pu:IsPart vu hi)
 (h:Q (((sIx n 0 lo:Nat):Int),1,sIx n n hi-sIx n 0 lo) s):wpAny (model prog w) A (Builtin.Slice.sliceApplied (.ref sl) (pure (n:Int))) Q E s:=by
 obtain⟨os,hos,hcs,hds⟩:=id hs;unfold Builtin.Slice.sliceApplied Builtin.Slice.sliceFields;refine wpAny_bind (wpAny_bind (wpAny_field hos hds (x:=vl) rfl (wpAny_bind (wpAny_field hos hds (x:=vu) rfl (wpAny_bind (wpAny_field hos hds (x:=.none) rfl (wpAny_pure ?_)))))));refine wpAny_bind (slicePart_none ?_);show wpAny _ _ (if((1:Int) == 0)=true then _ else _) _ _ s;rw[if_neg (by decide)];refine wpAny_bind (mJ pl (wpAny_bind (mJ pu (wpAny_bind (wpAny_pure ?_)))));show wpAny _ _ (match Builtin.Slice.sliceAdjust lo hi 1 (n:Int)with | (lo,hi)=>pure (lo,(1:Int),Builtin.Slice.slicePlaces lo hi 1)) _ _ s;rw[vz lo hi n];show wpAny _ _ (pure (((sIx n 0 lo:Nat):Int),(1:Int),Builtin.Slice.slicePlaces ((sIx n 0 lo:Nat):Int) ((sIx n n hi:Nat):Int) 1)) _ _ s;rw[wq];exact wpAny_pure h
def AJ(xs:Array Value)(i k:Nat):((List.range k).filterMap fun(m:Nat)=>xs[((i:Int)+(m:Int)*1).toNat]?).toArray=((xs.toList.drop i).take k).toArray:=by
 have e:(fun(m:Nat)=>xs[((i:Int)+(m:Int)*1).toNat]?)=fun m=>xs[i+m]?:=by
  funext m
  have:((i:Int)+(m:Int)*1).toNat=i+m:=by omega
  rw[this]
 rw[e];have:=pick_run xs i k;rw[List.filterMap_map]at this;have e2:((fun x=>xs[x]?) ∘ fun x=>i+x)=fun m=>xs[i+m]?:=rfl;rw[e2]at this;rw[this]
def lu{t sl:Addr}{items:Array Value}{vl vu:Value}{lo hi:Option Int}{Q:Value->Shared->Prop}(ht:IsTup s.heap t items)(hs:s.heap.IsSliceOf sl vl vu .none)(pl:IsPart vl lo)(pu:IsPart vu hi)
 (hw:¬ (sIx items.size 0 lo=0/\sIx items.size items.size hi=items.size))
 (h:Q (.ref s.heap.objs.size) { s with heap:=s.heap.push { cls:=.type "tuple",data:=.seq ((items.toList.drop (sIx items.size 0 lo)).take (sIx items.size items.size hi-sIx items.size 0 lo)).toArray } })
 (hsz:items.size<=sizeLine):wpAny (model prog w) A (getItem (.ref t) (.ref sl)) Q E s:=by
 have htake:sizeOk (.seq ((items.toList.drop (sIx items.size 0 lo)).take (sIx items.size items.size hi-sIx items.size 0 lo)).toArray):=by
  show((items.toList.drop (sIx items.size 0 lo)).take (sIx items.size items.size hi-sIx items.size 0 lo)).toArray.size<=sizeLine;rw[List.size_toArray,List.length_take,List.length_drop,Array.length_toList];omega
 have hj:sIx items.size items.size hi<=items.size:=ES _ _ (Nat.le_refl _) hi;obtain⟨os,hos,hcs,hds⟩:=id hs
 have hTs:s.TypeIs (.ref sl) "slice" := ⟨os,hos,hcs⟩
 unfold getItem
 try with_reducible refine wpAny_holding ?_
 first | refine wpAny_bind (wpAny_pure ?_) | skip
 refine wpAny_bind (wpAny_sequenceKey ht.typeIs (by decide) ?_)
 refine wpAny_bind (wpAny_callSpecial?_slot (name:=Str.ofString "__getitem__") ht.typeIs PyProof.Rows.slot_tuple_getitem
  (wpAny_call_entry PyProof.Rows.slot_tuple_getitem ht.typeIs entry_tuple_getitem ?_ (args_tuple_getitem _ _)))
 show wpAny _ _ (Builtin.Tuple.tupleItemsOf (.ref t) >>= _) _ _ s;refine wpAny_bind (tupleItemsOf_ ht ?_);refine wpAny_bind (wpAny_typeOf hTs ?_);rw[if_pos (by decide)];refine wpAny_bind (lI hs pl pu ?_)
 have hno:¬ ((((sIx items.size 0 lo:Nat):Int) == 0&&(1:Int) == 1&&(sIx items.size items.size hi-sIx items.size 0 lo) == items.size)=true):=by
  intro q;rw[Bool.and_eq_true,Bool.and_eq_true]at q;have q1:((sIx items.size 0 lo:Nat):Int)=0:=eq_of_beq q.1.1;have q2:sIx items.size items.size hi-sIx items.size 0 lo=items.size:=eq_of_beq q.2;exact hw ⟨by omega,by omega⟩
 show wpAny _ _ (if(((sIx items.size 0 lo:Nat):Int) == 0&&(1:Int) == 1&&(sIx items.size items.size hi-sIx items.size 0 lo) == items.size)=true then _ else _) _ _ s;rw[if_neg hno,AJ]
 first
  | exact wpAny_bind (m:=Builtin.Tuple.tupleExact _) (wpAny_newObj_type (wpAny_pure ⟨_,rfl,wpAny_pure h⟩) htake)
  | exact wpAny_bind (m:=Builtin.Tuple.tupleExact _) (wpAny_newObj_type (wpAny_bind (wpAny_pure (wpAny_pure ⟨_,rfl,wpAny_pure h⟩))) htake)
  | exact wpAny_bind (wpAny_bind (m:=Builtin.Tuple.tupleExact _) (wpAny_newObj_type (wpAny_pure (wpAny_pure ⟨_,rfl,wpAny_pure h⟩)) htake))
  | exact wpAny_bind (wpAny_bind (m:=Builtin.Tuple.tupleExact _) (wpAny_newObj_type (wpAny_pure ⟨_,rfl,wpAny_pure h⟩) htake))
end
end HT
namespace L2
open PySem PySem.Spec PyProof.Rows
@[reducible]noncomputable def TO:=St->Hp->(Option Int->Hp->Prop)->Prop
abbrev PO(X:Cx)(e:Option Expr)(t:TO):Prop :=
 ∀ (pins:List (Addr × Obj)) (s:Shared) (σ:St) (H:Hp) (Q:Option Int->Hp->Prop),Inv X pins σ H s->t σ H Q ->
  wpAny (model X.prog X.w) X.A (evalPart e X.env) (fun u s'=>∃ o H',Inv X pins σ H' s'/\IsPart u o/\Q o H') X.xe s
abbrev C2:TO:=fun _ H Q=>Q none H
abbrev Ie(t:TE):TO:=fun σ H Q=>t σ H fun x H1=>∃ i,x=.int i/\Q (some i) H1
def intsAre_of:∀ {us:List Value},Vals (ns.map V.int) us->IntsAre us ns:=by
 induction ns with
 | nil=>intro us r;rw[List.map_nil]at r;cases r;exact .nil
 |cons n ns ih=>
  intro us r;rw[List.map_cons]at r
  cases r with
  |cons r1 r2=>
   obtain⟨t,e⟩:=r1;subst e;exact .cons n t (ih r2)
section
variable{X:Cx}{e:Expr}{te:TE}{lo hi:Option Expr}{tl th:TO}{pos p2:Pos}
def C1:PO X none C2:=by
 intro pins s σ H Q I h;rw[evalPart_none];exact wpAny_pure ⟨none,H,I,.none,h⟩
def B6(h:PE X e te):PO X (some e) (Ie te):=by
 intro pins s σ H Q I hw;rw[evalPart_some];refine thn (h pins s σ H _ I hw) fun u s1 ⟨x,H1,I1,r1,q1⟩=>?_;obtain⟨i,rfl,q⟩:=q1;obtain⟨t,rfl⟩:=r1;exact⟨some i,H1,I1,.int i t,q⟩
abbrev SlR(X:Cx)(r:V->Option Int->Option Int->Hp->VK->Prop):Prop :=
 ∀ (pins:List (Addr × Obj)) (s:Shared) (σ:St) (H:Hp) (x:V) (v vl vu:Value) (lo hi:Option Int) (sl:Addr) (Q:VK),Inv X pins σ H s->RelV x v->s.heap.IsSliceOf sl vl vu .none->IsPart vl lo->IsPart vu hi->r x lo hi H Q ->
  ∃ T id,typeLookup (.type T) "__getitem__" = pure (some (.builtin id))/\s.TypeIs v T/\wpAny (model X.prog X.w) X.A (getItem v (.ref sl)) (EP X pins σ Q) X.xe s
def SlR.or(h:SlR X r)(h':SlR X r'):SlR X (fun x lo hi H Q=>r x lo hi H Q\/r' x lo hi H Q):=by
 intro pins s σ H x v vl vu lo hi sl Q I rx hs pl pu q;rcases q with q | q
 ·exact h pins s σ H x v vl vu lo hi sl Q I rx hs pl pu q
 ·exact h' pins s σ H x v vl vu lo hi sl Q I rx hs pl pu q
abbrev tSl(r:V->Option Int->Option Int->Hp->VK->Prop)(te:TE)(tl th:TO):TE:=fun σ H Q=>te σ H fun x H1=>tl σ H1 fun l H2=>th σ H2 fun u H3=>r x l u H3 Q
def zf(hr:SlR X r)(he:PE X e te)(hl:PO X lo tl)(hu:PO X hi th):PE X (.Subscript e (.Slice lo hi none p2) pos) (tSl r te tl th):=by
 intro pins s σ H Q I h;refine Subscript_ (thn (he pins s σ H _ I h) fun v s1 ⟨x,H1,I1,r1,q1⟩=>?_);refine wpAny_Slice (thn (hl pins s1 σ H1 _ I1 q1) fun vl s2 ⟨l,H2,I2,pl,q2⟩=>thn (hu pins s2 σ H2 _ I2 q2) fun vu s3 ⟨u,H3,I3,pu,q3⟩=>?_);rw[evalPart_none];refine wpAny_pure ?_;have I4:Inv X pins σ H3 { s3 with heap:=s3.heap.push { cls:=.type "slice",data:=.fields #[vl,vu,.none] } }:=I3.kept (t':=s3.toks) fun b ob q=>Heap.get?_push_of_some _ q;obtain⟨T,id,hT,ht,hg⟩:=hr pins { s3 with heap:=s3.heap.push { cls:=.type "slice",data:=.fields #[vl,vu,.none] } } σ H3 x v vl vu l u s3.heap.objs.size Q I4 r1 (Heap.IsSliceOf.new ..) pl pu q3;show wpAny (model X.prog X.w) X.A (subscriptTail e (.Slice lo hi none p2) v (.ref s3.heap.objs.size)) (EP X pins σ Q) X.xe { s3 with heap:=s3.heap.push { cls:=.type "slice",data:=.fields #[vl,vu,.none] } };exact tail_any (ops:=[.ref s3.heap.objs.size,v]) ht hT hg (by with_unfolding_all rfl)
abbrev jd(xs:List V)(lo hi:Option Int):List V:=(xs.drop (HT.sIx xs.length 0 lo)).take (HT.sIx xs.length xs.length hi-HT.sIx xs.length 0 lo)
def l9(xs:List V)(lo hi:Option Int):(jd xs lo hi).length<=xs.length:=by
 unfold jd;rw[List.length_take,List.length_drop];omega
abbrev Ir(K:PySem.W.Frag):V->Option Int->Option Int->Hp->VK->Prop:=fun x lo hi H Q=>∃ a xs,x=.ref a/\SqT K H a xs /\
 ¬ (HT.sIx xs.length 0 lo=0/\HT.sIx xs.length xs.length hi=xs.length)/\∀ p,H p=none->Q (.ref p) (upd H p (.tup (jd xs lo hi)))
def Ei:SlR X (Ir X.K):=by
 intro pins s σ H x v vl vu lo hi sl Q I rx hs pl pu h;obtain⟨a,xs,rfl,hx,hw,q⟩:=h;cases rx;obtain⟨its,r,ht,hz⟩:=I.tuple hx
 have hlen:its.toArray.size=xs.length:=by rw[List.size_toArray];exact r.length.symm
 refine⟨"tuple",_,PyProof.Rows.slot_tuple_getitem.lookup,ht.typeIs,?_⟩;refine HT.lu ht hs pl pu (by rw[hlen];exact hw) ?_ (by rw[hlen];exact hz);rw[hlen];refine⟨.ref s.heap.objs.size,_,I.laid (t':=s.toks) (o:=.tup (jd xs lo hi)) (fun b ob q=>Heap.get?_push_of_some _ q) (Nat.le_refl _) ?_,rfl,q _ (I.hok.fresh (Nat.le_refl _))⟩;exact⟨Nat.le_trans (l9 xs lo hi) hz,_,(r.drop (HT.sIx xs.length 0 lo)).take (HT.sIx xs.length xs.length hi-HT.sIx xs.length 0 lo),IsTup.new _ _⟩
abbrev Hh(K:PySem.W.Frag):R2:=fun x y H Q=>∃ a b xs ys,x=.ref a/\y=.ref b/\SqT K H a xs/\SqT K H b ys/\xs≠[]/\xs.length+ys.length<=sizeLine /\
 (ys=[]->Q (.ref a) H)/\(ys≠[]->∀ p,H p=none->Q (.ref p) (upd H p (.tup (xs++ys))))
def Vals.oX(r:Vals xs us):us=[]↔xs=[]:=by
 cases r with
 | nil=>simp
 | cons _ _=>simp
def B0:OpR X (binaryOp .Add) (Hh X.K):=by
 intro pins s σ H x y v u Q I rx ry h;obtain⟨a,b,xs,ys,rfl,rfl,ha,hb,hx,hz,q1,q2⟩:=h;cases rx;cases ry;obtain⟨its,r1,p1,_⟩:=I.tuple ha;obtain⟨its2,r2,p2,_⟩:=I.tuple hb;refine HT.Cm p1 p2 (fun z=>hx (r1.oX.mp z)) (fun z=>⟨.ref a,H,I,rfl,q1 (r2.oX.mp z)⟩) (fun z=>?_) (by rw[<-r1.length,<-r2.length];exact hz);refine⟨.ref s.heap.objs.size,_,I.laid (t':=s.toks) (o:=.tup (xs++ys)) (fun b ob q=>Heap.get?_push_of_some _ q) (Nat.le_refl _) ?_,rfl,q2 (fun w=>z (r2.oX.mpr w)) _ (I.hok.fresh (Nat.le_refl _))⟩;exact⟨by rw[List.length_append];exact hz,_,r1.append r2,IsTup.new _ _⟩
end
abbrev ixN(n:Nat)(i:Int):Option Nat:=if 0<=i then(if i<n then some i.toNat else none)else if -(n:Int)<=i then some (i+n).toNat else none
abbrev atI(xs:List α)(i:Int):Option α:=(ixN xs.length i).bind fun j=>xs[j]?
def u5(h:ixN n i=some j):seqIndex? i n=some j/\j<n/\-(n:Int)<=i/\i<n:=by
 unfold ixN at h;by_cases h0:0<=i
 ·rw[if_pos h0]at h;by_cases h1:i<n
  ·rw[if_pos h1]at h;have e:i.toNat=j:=Option.some.inj h;exact⟨by rw[seqIndex_of h0 h1,e],by omega,by omega,h1⟩
  ·rw[if_neg h1]at h;cases h
 ·rw[if_neg h0]at h;by_cases h1:-(n:Int)<=i
  ·rw[if_pos h1]at h;have e:(i+n).toNat=j:=Option.some.inj h;exact⟨by rw[seqIndex_neg (by omega) h1,e],by omega,h1,by omega⟩
  ·rw[if_neg h1]at h;cases h
def p8(h:atI xs i=some v):∃ j,seqIndex? i xs.length=some j/\xs[j]?=some v/\j<xs.length/\-(xs.length:Int)<=i/\i<xs.length:=by
 unfold atI at h
 cases e:ixN xs.length i with
 | none=>rw[e]at h;cases h
 |some j=>
  rw[e]at h;obtain⟨h1,h2,h3,h4⟩:=u5 e;exact⟨j,h1,h,h2,h3,h4⟩
abbrev uW(b:Expr):Prop:=∀ o i,subscripted b false o i=operate [o,i] (getItem o i)
abbrev IxR(X:Cx)(r:R2):Prop :=
 ∀ (value slice:Expr) (pins:List (Addr × Obj)) (s:Shared) (σ:St) (H:Hp) (x y:V) (v u:Value) (Q:VK),Inv X pins σ H s->RelV x v->RelV y u->r x y H Q ->
  subscripted slice false v u=operate [v,u] (getItem v u)->wpAny (model X.prog X.w) X.A (subscriptTail value slice v u) (EP X pins σ Q) X.xe s
abbrev MtR(X:Cx)(id:String)(r:V->List V->Hp->VK->Prop):Prop :=
 ∀ (pins:List (Addr × Obj)) (s:Shared) (σ:St) (H:Hp) (x:V) (xs:List V) (v:Value) (us:List Value) (Q:VK),Inv X pins σ H s->RelV x v->Vals xs us->r x xs H Q ->
  wpAny (model X.prog X.w) X.A (call (.builtin id) (v::us)) (EP X pins σ Q) X.xe s
section
variable{X:Cx}{a b:Expr}{ta tb:TE}{pos:Pos}
def IxR.or(h:IxR X r)(h':IxR X r'):IxR X (fun x y H Q=>r x y H Q\/r' x y H Q):=by
 intro value slice pins s σ H x y v u Q I rx ry q hs;rcases q with q | q
 ·exact h value slice pins s σ H x y v u Q I rx ry q hs
 ·exact h' value slice pins s σ H x y v u Q I rx ry q hs
def Hz{r:R2}(hr:IxR X r)(ha:PE X a ta)(hb:PE X b tb)(hs:uW b):PE X (.Subscript a b pos) (tOp r ta tb):=by
 intro pins s σ H Q I h;exact Subscript_ (zg ha hb I h fun v u s2 x y H2 I2 rx ry q=>hr a b pins s2 σ H2 x y v u Q I2 rx ry q (hs _ _))
abbrev En(K:PySem.W.Frag):R2:=fun x y H Q=>∃ p xs i v,x=.ref p/\y=.int i/\SqL K H p xs/\atI xs i=some v/\Q v H
abbrev FY(K:PySem.W.Frag):R2:=fun x y H Q=>∃ p xs i v,x=.ref p/\y=.int i/\SqT K H p xs/\atI xs i=some v/\Q v H
abbrev Dr:R2:=fun x y H Q=>∃ z i c,x=.str z/\y=.int i/\z.length<=sizeLine/\atI z.cps.toList i=some c/\Q (.str ⟨#[c]⟩) H
def CA:IxR X (En X.K):=by
 intro value slice pins s σ H x y v u Q I rx ry h hs;obtain⟨p,xs,i,z,rfl,rfl,hq,he,q⟩:=h;cases rx;obtain⟨t,rfl⟩:=ry;obtain⟨its,r,pl,hz⟩:=I.list hq;obtain⟨j,h1,h2,h3,h4,h5⟩:=p8 he;obtain⟨w,ew,rw'⟩:=r.get h2;have hl:=r.length;have hn:=i6
 have fin:EP X pins σ Q w s:=⟨z,H,I,rw',q⟩
 by_cases h0:0<=i
 ·have hj:i.toNat=j:=by
   rw[seqIndex_of h0 h5]at h1;exact Option.some.inj h1
  exact item_listR pl.isList h0 (by omega) (by rw[hj];simpa using ew) fin hs
 ·have hj:(i+(its.toArray.size:Int)).toNat=j:=by
   rw[seqIndex_neg (by omega) h4]at h1;rw[List.size_toArray,<-hl];exact Option.some.inj h1
  exact subscriptTail_builtinR (x:=w) pl.isList.typeIs slot_list_getitem.lookup
   (wpAny_getItem_list_neg (Q:=fun r s'=>r=w/\EP X pins σ Q r s') pl.isList (by omega) (by rw[List.size_toArray]<;>omega) (by omega) (by rw[hj];simpa using ew) ⟨rfl,fin⟩) hs
def dC:IxR X (FY X.K):=by
 intro value slice pins s σ H x y v u Q I rx ry h hs;obtain⟨p,xs,i,z,rfl,rfl,hq,he,q⟩:=h;cases rx;obtain⟨t,rfl⟩:=ry;obtain⟨its,r,pl,hz⟩:=I.tuple hq;obtain⟨j,h1,h2,h3,h4,h5⟩:=p8 he;obtain⟨w,ew,rw'⟩:=r.get h2;have hl:=r.length;have hn:=i6
 have fin:EP X pins σ Q w s:=⟨z,H,I,rw',q⟩
 exact subscriptTail_builtinR (x:=w) pl.typeIs slot_tuple_getitem.lookup
  (getItem_tuple (j:=j) (Q:=fun r s'=>r=w/\EP X pins σ Q r s') pl (by omega) (by omega) (by rw[List.size_toArray,<-hl];exact h1) (by simpa using ew) ⟨rfl,fin⟩) hs
def D9:IxR X Dr:=by
 intro value slice pins s σ H x y v u Q I rx ry h hs;obtain⟨z,i,c,rfl,rfl,hz,he,q⟩:=h;obtain⟨t,rfl⟩:=rx;obtain⟨t',rfl⟩:=ry;obtain⟨j,h1,h2,h3,h4,h5⟩:=p8 he
 have hl:z.cps.toList.length=z.length:=by simp[Str.length]
 rw[hl]at h1 h4 h5;have hn:=i6
 exact tail_any (typeIs_str s z t) slot_str_getitem.lookup (getItem_str (c:=c) (by
  have e1:decide (i < -(2 ^ 63:Int))=false:=decide_eq_false (by omega);have e2:decide (i≥2 ^ 63)=false:=decide_eq_false (by omega)
  rw[e1,e2,Bool.or_false]) (by rw[h1];simpa using h2) ⟨.str ⟨#[c]⟩,H,I.tok _,⟨_,rfl⟩,q⟩) hs
abbrev rIx(K:PySem.W.Frag):R2:=fun x y H Q=>En K x y H Q\/FY K x y H Q\/Dr x y H Q
def Du:IxR X (rIx X.K):=CA.or (dC.or D9)
def v5(its:List Value)(n j:Nat)(u:Value):Obj.mapSeq (·.setIfInBounds j u) { cls:=.type "list",data:=.seq its.toArray n }={ cls:=.type "list",data:=.seq (its.set j u).toArray n }:=by
 simp[Obj.mapSeq]
def Inv.lst{pins:List (Addr × Obj)}{σ:St}{H:Hp}{s:Shared}{p:Addr}{xs:List V}(I:Inv X pins σ H s)(h:H p=some (.lst xs)) :
  ∃ (its:List Value) (n:Nat),Vals xs its/\s.heap.get? p=some { cls:=.type "list",data:=.seq its.toArray n }/\xs.length<=sizeLine:=by
 obtain⟨z,its,n,r,e⟩:=I.hok p _ h;exact⟨its,n,r,e,z⟩
def Inv.Ek{pins:List (Addr × Obj)}{σ:St}{H:Hp}{s:Shared}{p:Addr}{xs ys:List V}{its its':List Value}{n n':Nat}{f:Obj->Obj}(I:Inv X pins σ H s)(h:H p=some (.lst xs))
 (ho:s.heap.get? p=some { cls:=.type "list",data:=.seq its.toArray n })(hf:f { cls:=.type "list",data:=.seq its.toArray n }={ cls:=.type "list",data:=.seq its'.toArray n' })(r:Vals ys its')(hz:ys.length<=sizeLine)(t:Nat) :
  Inv X pins σ (upd H p (.lst ys)) { s with heap:=s.heap.update p f,toks:=t }:=by
 have e:(s.heap.update p f).get? p=some { cls:=.type "list",data:=.seq its'.toArray n' }:=by
  rw[Heap.get?_update_self f ho (by rw[hf]<;>rfl),hf]
 refine I.write (x:=p) (e:=p) (by rw[h];trivial) (.inl rfl) (fun b u hb q=>(Heap.get?_update_other _ _ (Ne.symm hb)).trans q) ⟨_,e⟩ ?_;exact⟨hz,its',n',r,e⟩
abbrev vc:V->V->V->Hp->(Hp->Prop)->Prop:=fun o i v H Q=>∃ p xs k j,o=.ref p/\i=.int k/\H p=some (.lst xs)/\ixN xs.length k=some j/\Q (upd H p (.lst (xs.set j v)))
def set_list:Gq X vc:=by
 intro pins s σ H o i v ov iv u Q I ro ri rv h;obtain⟨p,xs,k,j,rfl,rfl,hp,hj,q⟩:=h;cases ro;obtain⟨t,rfl⟩:=ri;obtain⟨its,n,r,ho,hz⟩:=I.lst hp;obtain⟨h1,h2,h3,h4⟩:=u5 hj;have hl:=r.length;have hn:=i6
 have I':Inv X pins σ (upd H p (.lst (xs.set j v))) { s with heap:=s.heap.update p (Obj.mapSeq (·.setIfInBounds j u)) } :=
  I.Ek hp ho (v5 its n j u) (r.set rv j) (by rw[List.length_set];exact hz) s.toks
 by_cases h0:0<=k
 ·have hk:k.toNat=j:=by
   rw[seqIndex_of h0 h4]at h1;exact Option.some.inj h1
  exact PySem.W.ki_setAt ho h0 (by omega) (by rw[List.size_toArray,<-hl];exact h4) (by rw[hk];exact⟨_,I',q⟩)
 ·have hk:(k+(its.toArray.size:Int)).toNat=j:=by
   rw[seqIndex_neg (by omega) h3]at h1;rw[List.size_toArray,<-hl];exact Option.some.inj h1
  exact PySem.W.ki_setBack ho (by omega) (by rw[List.size_toArray,<-hl];exact h3) (by omega) (by rw[hk];exact⟨_,I',q⟩)
def qT(lo hi:Option Int)(n:Nat):(sliceBounds lo hi none n).1=((HT.sIx n 0 lo:Nat):Int)/\(sliceBounds lo hi none n).2.1=((HT.sIx n n hi:Nat):Int)/\(sliceBounds lo hi none n).2.2=1:=by
 refine⟨?_,?_,rfl⟩
 ·cases lo with
  | none=>simp[sliceBounds,HT.sIx]
  |some i=>
   simp only[sliceBounds,HT.sIx,Option.getD_none,show(1:Int) > 0 by decide,if_true];by_cases h:i<0
   ·simp only[h,if_true]<;>omega
   ·simp only[h,if_false]<;>omega
 ·cases hi with
  | none=>simp[sliceBounds,HT.sIx]
  |some i=>
   simp only[sliceBounds,HT.sIx,Option.getD_none,show(1:Int) > 0 by decide,if_true];by_cases h:i<0
   ·simp only[h,if_true]<;>omega
   ·simp only[h,if_false]<;>omega
def pV(its:List Value)(lo hi:Option Int):slicePick its.toArray lo hi none=((its.drop (HT.sIx its.length 0 lo)).take (HT.sIx its.length its.length hi-HT.sIx its.length 0 lo)).toArray:=by
 obtain⟨h1,h2,h3⟩:=qT lo hi its.toArray.size;unfold slicePick;rw[h1,h2,h3];simp only[sliceRange_one,pick_run,List.size_toArray]<;>rfl
abbrev Io(K:PySem.W.Frag):V->Option Int->Option Int->Hp->VK->Prop:=fun x lo hi H Q=>∃ a xs,x=.ref a/\SqL K H a xs/\∀ p,H p=none->Q (.ref p) (upd H p (.lst (jd xs lo hi)))
def CZ:SlR X (Io X.K):=by
 intro pins s σ H x v vl vu lo hi sl Q I rx hs pl pu h;obtain⟨a,xs,rfl,hx,q⟩:=h;cases rx;obtain⟨its,r,ht,hz⟩:=I.list hx;have hlen:=r.length;refine⟨"list",_,slot_list_getitem.lookup,ht.isList.typeIs,?_⟩;refine wpAny_getItem_list_slice ht.isList hs pl pu .none (by simp) ?_ (by rw[List.size_toArray]<;>omega);rw[pV,<-hlen];refine⟨.ref s.heap.objs.size,_,I.laid (t':=s.toks) (o:=.lst (jd xs lo hi)) (fun b ob q=>Heap.get?_push_of_some _ q) (Nat.le_refl _) ?_,rfl,q _ (I.hok.fresh (Nat.le_refl _))⟩;exact⟨Nat.le_trans (l9 xs lo hi) hz,_,0,(r.drop (HT.sIx xs.length 0 lo)).take (HT.sIx xs.length xs.length hi-HT.sIx xs.length 0 lo),Heap.get?_push_size _ rfl⟩
abbrev fz:V->Bool
 | .non=>true
 | .bl _=>true
 | .int _=>true
 | .str _=>true
 | _=>false
abbrev eqV:V->V->Bool
 | .non,.non=>true
 | .bl a,.bl b=>a == b
 | .bl a,.int b=>(if a then 1 else 0) == b
 | .int a,.bl b=>a == (if b then 1 else 0)
 | .int a,.int b=>a == b
 | .str a,.str b=>a == b
 | _,_=>false
def F4(ry:RelV y u)(rx:RelV x v)(fy:fz y=true)(fx:fz x=true):SeqAt.EqAt A s u v (eqV y x):=by
 cases y with
 |non=>
  cases ry
  cases x with
  | non=>cases rx;exact SeqAt.EqAt.same _
  | bl b=>cases rx;exact SeqAt.EqAt.none_bool b
  | int b=>obtain⟨t,rfl⟩:=rx;exact SeqAt.EqAt.none_int b t
  | str b=>obtain⟨t,rfl⟩:=rx;exact SeqAt.EqAt.none_str b t
  | _=>exact absurd (show false=true from fx) Bool.false_ne_true
 |bl a=>
  cases ry
  cases x with
  | non=>cases rx;exact SeqAt.EqAt.bool_none a
  | bl b=>cases rx;exact SeqAt.EqAt.bool_bool a b
  | int b=>obtain⟨t,rfl⟩:=rx;exact SeqAt.EqAt.bool_int a b t
  | str b=>obtain⟨t,rfl⟩:=rx;exact SeqAt.EqAt.bool_str a b t
  | _=>exact absurd (show false=true from fx) Bool.false_ne_true
 |int a=>
  obtain⟨t',rfl⟩:=ry
  cases x with
  | non=>cases rx;exact SeqAt.EqAt.int_none a t'
  | bl b=>cases rx;exact SeqAt.EqAt.int_bool a t' b
  | int b=>obtain⟨t,rfl⟩:=rx;exact SeqAt.EqAt.int_int a t' b t
  | str b=>obtain⟨t,rfl⟩:=rx;exact SeqAt.EqAt.int_str a t' b t
  | _=>exact absurd (show false=true from fx) Bool.false_ne_true
 |str a=>
  obtain⟨t',rfl⟩:=ry
  cases x with
  | non=>cases rx;exact SeqAt.EqAt.str_none a t'
  | bl b=>cases rx;exact SeqAt.EqAt.str_bool a t' b
  | int b=>obtain⟨t,rfl⟩:=rx;exact SeqAt.EqAt.str_int a t' b t
  | str b=>obtain⟨t,rfl⟩:=rx;exact SeqAt.EqAt.str_str a t' b t
  | _=>exact absurd (show false=true from fx) Bool.false_ne_true
 | _=>exact absurd (show false=true from fy) Bool.false_ne_true
abbrev eqU(x:V)(u:Value):Bool:=match u with
 | .none=>eqV .non x
 | .bool b=>eqV (.bl b) x
 | .int i _=>eqV (.int i) x
 | .str z _=>eqV (.str z) x
 | _=>false
def xj(r:RelV y u)(f:fz y=true):eqU x u=eqV y x:=by
 cases y with
 | non=>cases r;rfl
 | bl b=>cases r;rfl
 | int i=>obtain⟨t,rfl⟩:=r;rfl
 | str z=>obtain⟨t,rfl⟩:=r;rfl
 | _=>exact absurd (show false=true from f) Bool.false_ne_true
def i7:∀ {xs:List V} {us:List Value},Vals xs us->xs.all fz=true->us.any (eqU x)=xs.any fun y=>eqV y x
 | _,_,.nil,_=>rfl
 | y::xs,u::us,.cons r t,f=>by
  rw[List.all_cons,Bool.and_eq_true]at f;rw[List.any_cons,List.any_cons,xj r f.1,i7 t f.2]
def gX(rx:RelV x v)(fx:fz x=true):∀ {xs:List V} {us:List Value},Vals xs us->xs.all fz=true->∀ u∈us,SeqAt.EqAt A s u v (eqU x u)
 | _,_,.nil,_=>fun u hu=>by cases hu
 | y::xs,u::us,.cons r t,f=>fun u' hu=>by
  rw[List.all_cons,Bool.and_eq_true]at f;rcases List.mem_cons.mp hu with rfl | hu
  ·rw[xj r f.1];exact F4 r rx f.1 fx
  ·exact gX rx fx t f.2 u' hu
abbrev inV(x:V)(xs:List V):Bool:=xs.any fun y=>eqV y x
abbrev rIn(K:PySem.W.Frag)(neg:Bool):R2:=fun x y H Q=>∃ p xs,y=.ref p/\(SqL K H p xs\/SqT K H p xs)/\fz x=true/\xs.all fz=true/\Q (.bl (if neg then !inV x xs else inV x xs)) H
def wB:OpR X (compareOp .In) (rIn X.K false):=by
 intro pins s σ H x y v u Q I rx ry h;obtain⟨p,xs,rfl,hq,fx,fs,q⟩:=h;cases ry;rcases hq with hq | hq
 ·obtain⟨its,r,pl,hz⟩:=I.list hq;refine SeqAt.in_listAt (eqU x) pl.isList (fun w hw=>gX rx fx r fs w (by simpa using hw)) ⟨.bl _,H,I,rfl,?_⟩;rw[show its.toArray.any (eqU x)=its.any (eqU x) by simp,i7 r fs];exact q
 ·obtain⟨its,r,pl,hz⟩:=I.tuple hq;refine SeqAt.in_tupleAt (eqU x) pl (fun w hw=>gX rx fx r fs w (by simpa using hw)) ⟨.bl _,H,I,rfl,?_⟩;rw[show its.toArray.any (eqU x)=its.any (eqU x) by simp,i7 r fs];exact q
def so:OpR X (compareOp .NotIn) (rIn X.K true):=by
 intro pins s σ H x y v u Q I rx ry h;obtain⟨p,xs,rfl,hq,fx,fs,q⟩:=h;cases ry;rcases hq with hq | hq
 ·obtain⟨its,r,pl,hz⟩:=I.list hq;refine SeqAt.notIn_listAt (eqU x) pl.isList (fun w hw=>gX rx fx r fs w (by simpa using hw)) ⟨.bl _,H,I,rfl,?_⟩;rw[show its.toArray.any (eqU x)=its.any (eqU x) by simp,i7 r fs];exact q
 ·obtain⟨its,r,pl,hz⟩:=I.tuple hq;refine SeqAt.notIn_tupleAt (eqU x) pl (fun w hw=>gX rx fx r fs w (by simpa using hw)) ⟨.bl _,H,I,rfl,?_⟩;rw[show its.toArray.any (eqU x)=its.any (eqU x) by simp,i7 r fs];exact q
def bF.or(h:bF X f r)(h':bF X f r'):bF X f (fun xs H Q=>r xs H Q\/r' xs H Q):=by
 intro pins s σ H xs us Q I rs q;rcases q with q | q
 ·exact h pins s σ H xs us Q I rs q
 ·exact h' pins s σ H xs us Q I rs q
def sV:bF X (.type "list") (fun xs H Q=>∃ p ys,xs=[.ref p]/\(SqL X.K H p ys\/SqT X.K H p ys)/\∀ l,H l=none->Q (.ref l) (upd H l (.lst ys))):=by
 intro pins s σ H xs us Q I r h;obtain⟨p,ys,rfl,hq,q⟩:=h;obtain⟨u,rfl,rx⟩:=vals1 r;cases rx
 have fin:∀ (its:List Value),Vals ys its->ys.length<=sizeLine->∀ (h':Heap) (c':Nat),(∀ b o',s.heap.get? b=some o'->h'.get? b=some o') ->
   h'.get? s.heap.objs.size=some { cls:=.type "list",dict:=none,data:=.seq its.toArray c',slots:=#[] }->EP X pins σ Q (.ref s.heap.objs.size) { s with heap:=h' }:=fun its r' hz h' c' kp e =>
  ⟨.ref s.heap.objs.size,_,I.laid (t':=s.toks) kp (Nat.le_refl _) (show bu X.prog X.w _ h' _ (.lst ys)from⟨hz,its,c',r',e⟩),rfl,q _ (I.hok.fresh (Nat.le_refl _))⟩
 rcases hq with hq | hq
 ·obtain⟨its,r',pl,hz⟩:=I.list hq;have hlen:=r'.length;obtain⟨o,ho,hc,n,hd⟩:=pl.isList;exact call_list_seq p (.inl rfl) ho hc hd (fun h' c' kp e=>fin its r' hz h' c' kp e) (by simp only[List.size_toArray]<;>omega)
 ·obtain⟨its,r',pl,hz⟩:=I.tuple hq;have hlen:=r'.length;obtain⟨o,ho,hc,n,hd⟩:=pl;exact call_list_seq p (.inr rfl) ho hc hd (fun h' c' kp e=>fin its r' hz h' c' kp e) (by simp only[List.size_toArray]<;>omega)
def pU:bF X (.type "tuple") (fun xs H Q=>∃ p ys,xs=[.ref p]/\((SqL X.K H p ys/\∀ l,H l=none->Q (.ref l) (upd H l (.tup ys)))\/(SqT X.K H p ys/\Q (.ref p) H))):=by
 intro pins s σ H xs us Q I r h;obtain⟨p,ys,rfl,h⟩:=h;obtain⟨u,rfl,rx⟩:=vals1 r;cases rx
 rcases h with⟨hq,q⟩ | ⟨hq,q⟩
 ·obtain⟨its,r',pl,hz⟩:=I.list hq;have hlen:=r'.length;refine call_tuple_list pl.isList (fun h' kp=>?_) (by simp only[List.size_toArray]<;>omega);have I1:Inv X pins σ H { s with heap:=h' }:=I.kept (t':=s.toks) kp
  have I2:Inv X pins σ (upd H h'.objs.size (.tup ys)) { s with heap:=h'.push { cls:=.type "tuple",data:=.seq its.toArray } } :=
   I1.laid (t':=s.toks) (fun b o e=>Heap.get?_push_of_some _ e) (Nat.le_refl _) (show bu X.prog X.w _ _ _ (.tup ys)from⟨hz,its,r',IsTup.new _ _⟩)
  exact⟨.ref h'.objs.size,_,I2,rfl,q _ (I1.hok.fresh (Nat.le_refl _))⟩
 ·obtain⟨its,r',pl,hz⟩:=I.tuple hq;exact call_tuple_same pl ⟨.ref p,H,I,rfl,q⟩
abbrev tyV(K:PySem.W.Frag)(T:String)(x:V)(H:Hp):Prop:=match x with
 | .str _=>T = "str"
 | .int _=>T = "int"
 | .ref p=>(T = "list" /\ ∃ xs,SqL K H p xs)\/(T = "tuple" /\ ∃ o,K.lookup p=some o/\o.cls=.type "tuple" /\ o.dict=none) \/
   (T = "dict" /\ ((∃ kvs,H p=some (.dK kvs))\/∃ kvs,H p=some (.dT kvs)))\/(T = "set" /\ ∃ S n,H p=some (.set S n))
 | _=>False
def yt(I:Inv X pins σ H s)(r:RelV x v)(ty:tyV X.K T x H) :
  s.TypeIs v T/\∀ a,v=.ref a->∃ ob,s.heap.get? a=some ob/\ob.dict=none:=by
 cases x with
 |str z=>
  obtain⟨t,rfl⟩:=r;cases(show T = "str" from ty);exact⟨typeIs_str s z t,fun _ e=>nomatch e⟩
 |int i=>
  obtain⟨t,rfl⟩:=r;cases(show T = "int" from ty);exact⟨typeIs_int s i t,fun _ e=>nomatch e⟩
 |ref p=>
  cases r
  rcases ty with⟨rfl,xs,hq⟩ | ⟨rfl,o,hk,hc,hd⟩ | ⟨rfl,hk⟩ | ⟨rfl,S,n,hk⟩
  ·obtain⟨its,_,pl,_⟩:=I.list hq;refine⟨pl.isList.typeIs,fun a e=>?_⟩;cases e;obtain⟨o,n,e,c,hd,_⟩:=pl;exact⟨o,e,hd⟩
  ·refine⟨⟨o,I.kIn p o hk,hc⟩,fun a e=>?_⟩;cases e;exact⟨o,I.kIn _ o hk,hd⟩
  ·have z:∃ o,s.heap.get? p=some o/\o.ExactDict:=by
    rcases hk with⟨kvs,hk⟩ | ⟨kvs,hk⟩
    ·obtain⟨_,_,_,_,o,_,_,e,ex,_⟩:=I.hok p _ hk;exact⟨o,e,ex⟩
    ·obtain⟨_,_,_,_,o,_,_,e,ex,_⟩:=I.hok p _ hk;exact⟨o,e,ex⟩
   obtain⟨o,e,ex⟩:=z;refine⟨⟨o,e,ex.1⟩,fun a e2=>?_⟩;cases e2;exact⟨o,e,ex.2.1⟩
  ·obtain⟨o,_,_,_,e,ex,_⟩:=I.hok p _ hk;refine⟨⟨o,e,ex.1⟩,fun a e2=>?_⟩;cases e2;exact⟨o,e,ex.2.1⟩
 | _=>exact False.elim ty
abbrev zR(K:PySem.W.Frag)(T:String)(r:V->List V->Hp->VK->Prop)(to:TE):TE:=fun σ H Q=>to σ H fun x H1=>tyV K T x H1/\r x [] H1 Q
abbrev tBM(K:PySem.W.Frag)(T:String)(r:V->List V->Hp->VK->Prop)(to:TE)(t:TA):TE:=fun σ H Q=>to σ H fun x H1=>tyV K T x H1/\t σ H1 fun xs H2=>r x xs H2 Q
variable{o e:Expr}{es:List Expr}{to:TE}{t:TA}{name:Str}{apos cpos:Pos}{T id:String}{r:V->List V->Hp->VK->Prop}
def wV(pa:PlainAttrs T)(slot:Slot T name id)(hty:typeOf (.builtin id)=pure (.type "method_descriptor"))(hm:MtR X id r)(ho:PE X o to)
 (hbase:attributeBase o name X.env (eval o X.env)=eval o X.env)(hline:(apos.endLine == cpos.line)=true):PE X (.Call (.Attribute o name apos) [] [] cpos) (zR X.K T r to):=by
 intro pins s σ H Q I h;refine wpAny_Call_method0_late hbase hline (thn (ho pins s σ H _ I h) fun v s1 ⟨x,H1,I1,r1,ty,q1⟩=>?_);obtain⟨h1,h2⟩:=yt I1 r1 ty;exact⟨T,id,pa,slot,hty,h1,h2,Calls.callWith_builtin rfl (PySem.evalArgs_none (hm pins s1 σ H1 x [] v [] Q I1 r1 .nil q1))⟩
def HE(pa:PlainAttrs T)(slot:Slot T name id)(hty:typeOf (.builtin id)=pure (.type "method_descriptor"))(hm:MtR X id r)(ho:PE X o to)(ha:PA X (e::es) t)
 (hbase:attributeBase o name X.env (eval o X.env)=eval o X.env)
 (hfew:((backTo cpos (starEach (e::es) X.env)).all (fun x=>!x.1)&&(backToKw cpos (keywordEach [] X.env)).all (fun x=>x.1.isSome)
   && decide ((e::es).length+([]:List Keyword).length+(if([]:List Keyword).isEmpty then 0 else 1)<30))=true:=by rfl)
 (hline:(apos.endLine == cpos.line)=true)(hs:starEach (e::es) X.env=(false,eval e X.env)::starEach es X.env)(hplain:(backTo cpos (starEach es X.env)).any (·.1)=false) :
  PE X (.Call (.Attribute o name apos) (e::es) [] cpos) (tBM X.K T r to t):=by
 intro pins s σ H Q I h;refine wpAny_Call_method_late hbase hfew hline rfl (thn (ho pins s σ H _ I h) fun v s1 ⟨x,H1,I1,r1,ty,q1⟩=>?_);obtain⟨h1,h2⟩:=yt I1 r1 ty;refine⟨T,id,pa,slot,hty,h1,h2,?_⟩;have hA:=ha cpos pins s1 σ H1 _ I1 q1;rw[hs]at hA ⊢;refine Calls.callWith_builtin (by show(false || (backTo cpos (starEach es X.env)).any (·.1))=false;rw[hplain]<;>rfl) (Calls.evalArgs_plain ?_);exact thn hA fun us s2 ⟨vs,H2,I2,r2,q2⟩=>hm pins s2 σ H2 x vs v us Q I2 r1 r2 q2
end
abbrev MtM(X:Cx)(id:String)(r:V->List V->Hp->VK->Prop):Prop :=
 ∀ (pins:List (Addr × Obj)) (s:Shared) (σ:St) (H:Hp) (x:V) (xs:List V) (v:Value) (us:List Value) (Q:VK),Inv X pins σ H s->RelV x v->Vals xs us->r x xs H Q ->
  wpAny (model X.prog X.w) X.A (call (.builtin id) (v::us)) (EP X pins σ Q) X.xe s
def Vals.one:∀ {x:V} {us:List Value},Vals [x] us->∃ u,us=[u]/\RelV x u
 | _,_,.cons r .nil=>⟨_,rfl,r⟩
def Vals.zero:∀ {us:List Value},Vals [] us->us=[]
 | _,.nil=>rfl
def Vals.dropLast(h:Vals xs us):Vals xs.dropLast us.dropLast:=by
 induction h with
 | nil=>exact .nil
 |cons r t ih=>
  cases t with
  | nil=>exact .nil
  | cons q t'=>exact .cons r ih
def Vals.rep(h:Vals xs us):∀ k:Nat,Vals (List.replicate k xs).flatten (List.replicate k us).flatten
 | 0=>.nil
 | k+1=>by
  rw[List.replicate_succ,List.replicate_succ,List.flatten_cons,List.flatten_cons];exact Vals.append h (Vals.rep h k)
def wa(l:List α):l.eraseIdx (l.length-1)=l.dropLast:=by
 induction l with
 | nil=>rfl
 |cons a r ih=>
  cases r with
  | nil=>rfl
  |cons b r=>
   have e:(a::b::r).length-1=((b::r).length-1)+1:=by
    have h1:(a::b::r).length=r.length+2:=rfl;have h2:(b::r).length=r.length+1:=rfl;omega
   rw[e,List.eraseIdx_cons_succ,ih]
   all_goals rfl
def foldl_rep(its:List Value):∀ (k:Nat) (acc:List Value),
  List.foldl (fun x1 x2=>x1++x2) acc.toArray (List.replicate k its.toArray)=(acc++(List.replicate k its).flatten).toArray
 | 0,acc=>by simp
 | k+1,acc=>by
  have e:acc.toArray++its.toArray=(acc++its).toArray:=by simp
  have e2:(acc++its)++(List.replicate k its).flatten=acc++(List.replicate (k+1) its).flatten:=by
   rw[List.replicate_succ,List.flatten_cons,List.append_assoc]
  rw[<-e2,<-foldl_rep its k (acc++its),<-e,List.replicate_succ,List.foldl_cons]
section
variable{X:Cx}{pins:List (Addr × Obj)}{σ:St}{H:Hp}{s:Shared}{l b:Addr}{xs ys zs:List V}
def Inv.GF{its its':List Value}{n:Nat}{f:Array Value->Array Value}{t':Nat}(I:Inv X pins σ H s)(hH:H l=some (.lst xs))
 (e:s.heap.get? l=some { cls:=.type "list",data:=.seq its.toArray n })(hf:f its.toArray=its'.toArray)(hv:Vals ys its')(hz:ys.length<=sizeLine) :
  Inv X pins σ (upd H l (.lst ys)) { s with heap:=s.heap.update l (Obj.mapSeq f),toks:=t' }:=by
 have q:=PySem.IsL.update e f;rw[hf]at q;refine I.write (x:=l) (e:=l) (by rw[hH];exact trivial) (.inl rfl) (fun b' u hb hu=>(Heap.get?_update_other s.heap (Obj.mapSeq f) (Ne.symm hb)).trans hu) ⟨_,q⟩ ?_;exact⟨hz,its',_,hv,q⟩
def Inv.DJ(I:Inv X pins σ H s)(hv:Vals ys its)(hz:ys.length<=sizeLine) :
  Inv X pins σ (upd H s.heap.objs.size (.lst ys)) { s with heap:=s.heap.push { cls:=.type "list",data:=.seq its.toArray },toks:=t' } :=
 I.laid (fun _ _ q=>Heap.get?_push_of_some _ q) (Nat.le_refl _) ⟨hz,its,0,hv,Heap.get?_push_size _ rfl⟩
def Inv.fresh(I:Inv X pins σ H s):H s.heap.objs.size=none:=I.hok.fresh (Nat.le_refl _)
def Inv.rG(I:Inv X pins σ H s)(hH:H l=some (.lst xs)):xs.length<=sizeLine/\∃ (its:List Value) (n:Nat),Vals xs its/\xs.length=its.length/\s.heap.get? l=some { cls:=.type "list",data:=.seq its.toArray n }:=by
 obtain⟨z,its,n,r,e⟩:=I.hok l _ hH;exact⟨z,its,n,r,r.length,e⟩
def AL(h:n<=sizeLine):Builtin.List.listTooLong n=false:=by
 unfold Builtin.List.listTooLong;exact decide_eq_false (by omega)
end
section
variable{X:Cx}
abbrev uH:V->List V->Hp->VK->Prop:=fun x vs H Q=>∃ l xs y,x=.ref l/\vs=[y]/\H l=some (.lst xs)/\xs.length<sizeLine/\Q .non (upd H l (.lst (xs++[y])))
def pN:MtM X "list.append" uH:=by
 intro pins s σ H x vs v us Q I rx rv h;obtain⟨l,xs,y,rfl,rfl,hH,hz,q⟩:=h;cases rx;obtain⟨u,rfl,ru⟩:=rv.one;obtain⟨z,its,n,r,hl,e⟩:=I.rG hH;refine call_meets F.slot_list_append ⟨_,e,rfl⟩ F.entry_list_append (F.args_list_append_2 _ _) (PySem.list_append l its.toArray n u (by rw[List.size_toArray];omega)) ⟨e,?_⟩;refine⟨.non,_,I.GF (its':=its++[u]) hH e (by simp) (r.append (.cons ru .nil)) ?_,rfl,q⟩;rw[List.length_append,List.length_singleton];omega
abbrev AH:V->List V->Hp->VK->Prop:=fun x vs H Q=>∃ l xs y,x=.ref l/\vs=[]/\H l=some (.lst xs)/\xs[xs.length-1]?=some y/\Q y (upd H l (.lst xs.dropLast))
def xk:MtM X "list.pop" AH:=by
 intro pins s σ H x vs v us Q I rx rv h;obtain⟨l,xs,y,rfl,rfl,hH,hy,q⟩:=h;cases rx;have hus:=rv.zero;subst hus;obtain⟨z,its,n,r,hl,e⟩:=I.rG hH;obtain⟨u,hu,ru⟩:=r.get hy
 have hy':its.toArray[its.toArray.size-1]?=some u:=by
  show its.toArray[its.length-1]?=some u;rw[<-Array.getElem?_toList,<-hl];exact hu
 refine call_meets F.slot_list_pop ⟨_,e,rfl⟩ F.entry_list_pop (F.args_list_pop_1 _) (MeetsSeq.list_pop_last l its.toArray n u hy' (by rw[List.size_toArray];omega)) ⟨e,?_⟩;refine⟨y,_,I.GF (its':=its.dropLast) hH e ?_ r.dropLast ?_,ru,q⟩
 ·show its.toArray.eraseIdxIfInBounds (its.toArray.size-1)=its.dropLast.toArray;rw[List.size_toArray,List.eraseIdxIfInBounds_toArray,wa]
 ·rw[List.length_dropLast];omega
abbrev Jt:R2:=fun x y H Q=>∃ l b xs zs,x=.ref l/\y=.ref b/\H l=some (.lst xs)/\H b=some (.lst zs)/\xs.length+zs.length<=sizeLine/\∀ p,H p=none->Q (.ref p) (upd H p (.lst (xs++zs)))
def Dv:OpR X (binaryOp .Add) Jt:=by
 intro pins s σ H x y v u Q I rx ry h;obtain⟨l,b,xs,zs,rfl,rfl,hH,hB,hz,q⟩:=h;cases rx;cases ry;obtain⟨z,its,n,r,hl,e⟩:=I.rG hH;obtain⟨z2,its2,n2,r2,hl2,e2⟩:=I.rG hB;refine PySem.P.add_list e e2 ?_ (by rw[List.size_toArray,List.size_toArray];omega)
 have ea:its.toArray++its2.toArray=(its++its2).toArray:=by simp
 rw[ea];exact⟨.ref _,_,I.DJ (t':=s.toks) (r.append r2) (by rw[List.length_append];omega),rfl,q _ I.fresh⟩
abbrev J4:R2:=fun x y H Q=>∃ l k xs,x=.ref l/\y=.int k/\H l=some (.lst xs)/\-(2 ^ 63)<=k/\k<2 ^ 63/\xs.length*k.toNat<=sizeLine /\
 ∀ p,H p=none->Q (.ref p) (upd H p (.lst (List.replicate k.toNat xs).flatten))
def len_rep(xs:List α)(k:Nat):(List.replicate k xs).flatten.length=k*xs.length:=by
 induction k with
 | zero=>simp
 | succ k ih=>rw[List.replicate_succ,List.flatten_cons,List.length_append,ih,Nat.succ_mul,Nat.add_comm]
def Fs:OpR X (binaryOp .Mult) J4:=by
 intro pins s σ H x y v u Q I rx ry h;obtain⟨l,k,xs,rfl,rfl,hH,h1,h2,hz,q⟩:=h;cases rx;obtain⟨t,rfl⟩:=ry;obtain⟨z,its,n,r,hl,e⟩:=I.rG hH
 have hlen:its.toArray.size*k.toNat<=sizeLine:=by rw[List.size_toArray,<-hl];exact hz
 have hcap:¬ its.toArray.size*k.toNat > (2 ^ 63-1) / 8:=by
  have:(sizeLine:Nat)<=(2 ^ 63-1) / 8:=by decide
  omega
 have hfit:¬ (!Builtin.List.listFitsIndex k)=true:=by
  rw[fitsIndex_both h1 h2];exact Bool.false_ne_true
 have hlong:¬ Builtin.List.listTooLong (its.toArray.size*k.toNat)=true:=by
  rw[AL hlen];exact Bool.false_ne_true
 have hnew:List.foldl (fun x1 x2=>x1++x2) #[] (List.replicate (if its.toArray.isEmpty=true then 0 else k.toNat) its.toArray)=(List.replicate k.toNat its).flatten.toArray:=by
  have f0:∀ m:Nat,List.foldl (fun x1 x2=>x1++x2) #[] (List.replicate m its.toArray)=(List.replicate m its).flatten.toArray:=fun m=>by
   have:=foldl_rep its m [];rw[List.nil_append]at this;exact this
  rw[f0]
  cases its with
  | nil=>simp
  | cons a r'=>rw[if_neg (by simp)]
 refine wpAny_binaryOp_repeat_ref (T := "list") (U := "int") (by decide) ⟨_,e,rfl⟩ (fun s'=>typeIs_int s' k t) noFill_list_mul F.fills_int_mul F.slot_int_rmul repeat_list F.slot_int_index.lookup
  (call_meets F.slot_int_rmul (typeIs_int s k t) F.entry_int_rmul (F.args_int_rmul_2 _ _) (int___rmul___int_list k t l its.toArray n)
   ⟨e,rfl,⟨_,e,rfl⟩,call_meets F.slot_list_mul ⟨_,e,rfl⟩ F.entry_list_mul (F.args_list_mul_2 _ _) (AutoListH.list___mul___list_int_3 l its.toArray n k t hfit hcap hlong) ⟨e,?_⟩⟩)
 rw[hnew];exact⟨.ref _,_,I.DJ (t':=s.toks) (r.rep k.toNat) (by rw[len_rep,Nat.mul_comm];exact hz),rfl,q _ I.fresh⟩
end
section
variable{prog:Program}{w:World}{A:Around}{E:Value->Shared->Prop}{s:Shared}
end
section
variable{X:Cx}
end
section
variable{κ:Type} [DecidableEq κ]
abbrev dN(kvs:List (κ × V))(k:κ):Option V:=(kvs.find? fun kv=>decide (kv.1=k)).map (·.2)
abbrev putK(kvs:List (κ × V))(k:κ)(v:V):List (κ × V) :=
 if(kvs.any fun kv=>decide (kv.1=k))=true then kvs.map (fun kv=>if kv.1=k then(kv.1,v)else kv)else kvs++[(k,v)]
def gC{p:κ × V}{r:List (κ × V)}{k:κ}(e:p.1=k):dN (p::r) k=some p.2:=by simp[dN,List.find?_cons,e]
def gK{p:κ × V}{r:List (κ × V)}{k:κ}(e:¬ p.1=k):dN (p::r) k=dN r k:=by simp[dN,List.find?_cons,e]
def rW(k:κ):∀ kvs:List (κ × V),(kvs.any fun kv=>decide (kv.1=k))=(dN kvs k).isSome
 | []=>rfl
 | p::r=>by
  rw[List.any_cons];by_cases e:p.1=k
  ·simp only[gC e,decide_eq_true e,Bool.true_or,Option.isSome_some]
  ·rw[gK e,decide_eq_false e,Bool.false_or];exact rW k r
def l6(kvs:List (κ × V))(k:κ)(v:V):(putK kvs k v).length<=kvs.length+1:=by
 unfold putK;split
 ·rw[List.length_map];omega
 ·rw[List.length_append,List.length_cons,List.length_nil];omega
def gI.fL(r:gI o u):o.isSome=u.isSome:=by
 cases o with
 | none=>cases u with
  | none=>rfl
  | some _=>exact(show False from r).elim
 | some _=>cases u with
  | none=>exact(show False from r).elim
  | some _=>rfl
def KV.val{kvs:List (κ × V)}{vs:List (κ × Value)}(r:KV kvs vs)(k:κ):gI (dN kvs k) (valueAt vs k):=by
 unfold KV at r
 induction r with
 | nil=>exact True.intro
 |@cons p q ps qs h t ih=>
  obtain⟨h1,h2⟩:=h;by_cases e:p.1=k
  ·have e':q.1=k:=h1.symm.trans e
   have b:valueAt (q::qs) k=some q.2:=by simp[valueAt,List.find?_cons,e']
   rw[gC e,b];exact h2
  ·have e':¬ q.1=k:=fun z=>e (h1.trans z)
   have b:valueAt (q::qs) k=valueAt qs k:=by simp[valueAt,List.find?_cons,e']
   rw[gK e,b];exact ih
def KV.any(r:KV kvs vs)(k:κ):(kvs.any fun kv=>decide (kv.1=k))=vs.any fun kv=>decide (kv.1=k):=by
 unfold KV at r
 induction r with
 | nil=>rfl
 | cons h t ih=>rw[List.any_cons,List.any_cons,ih,h.1]
def KV.Am(r:KV kvs vs)(k:κ)(ry:RelV y u) :
  KV (kvs.map fun kv=>if kv.1=k then(kv.1,y)else kv) (vs.map fun kv=>if kv.1=k then(kv.1,u)else kv):=by
 unfold KV at r ⊢
 induction r with
 | nil=>exact .nil
 |@cons p q ps qs h t ih=>
  rw[List.map_cons,List.map_cons];refine .cons ?_ ih;obtain⟨h1,h2⟩:=h;by_cases e:p.1=k
  ·rw[if_pos e,if_pos (h1.symm.trans e)];exact⟨h1,ry⟩
  ·rw[if_neg e,if_neg (fun z=>e (h1.trans z))];exact⟨h1,h2⟩
def KV.put(r:KV kvs vs)(k:κ)(ry:RelV y u):KV (putK kvs k y) (stored vs k u):=by
 unfold putK stored;rw[r.any k];by_cases e:(vs.any fun kv=>decide (kv.1=k))=true
 ·rw[if_pos e,if_pos e];exact r.Am k ry
 ·rw[if_neg e,if_neg e];exact Paired.snoc r ⟨rfl,ry⟩
def KV.length(r:KV kvs vs):kvs.length=vs.length:=Paired.length r
end
def mN(r:RelV (kV k) u):(bO P w).is k u=true:=by
 cases k with
 | inl i=>obtain⟨t,e⟩:=(show ∃ t,u=Value.int i t from r);subst e;exact t7 P w i t
 | inr x=>obtain⟨t,e⟩:=(show ∃ t,u=Value.str x t from r);subst e;exact t5 P w x t
def p9:∀ {ks:List Key} {us:List Value},Vals (ks.map kV) us->ItemsAre (bO P w) ks us
 | [],_,r=>by rw[List.map_nil]at r;cases r;exact .nil
 | k::ks,_,r=>by
  rw[List.map_cons]at r
  cases r with
  | cons h t=>exact .cons (mN h) (p9 t)
@[reducible]noncomputable def KT(H:Hp):List (List Key × V)->List (List Key × Addr × Value)->Prop:=Paired fun p q=>p.1=q.1/\H q.2.1=some (.tup (p.1.map kV))/\RelV p.2 q.2.2
def KT.val{H:Hp}{kvs:List (List Key × V)}{xs:List (List Key × Addr × Value)}(r:KT H kvs xs)(k:List Key):gI (dN kvs k) ((atKey xs k).map (·.2)):=by
 induction r with
 | nil=>exact True.intro
 |@cons p q ps qs h t ih=>
  obtain⟨h1,_,h2⟩:=h;by_cases e:p.1=k
  ·have e':q.1=k:=h1.symm.trans e
   have b:atKey (q::qs) k=some q.2:=by simp[atKey,List.find?_cons,e']
   rw[gC e,b];exact h2
  ·have e':¬ q.1=k:=fun z=>e (h1.trans z)
   have b:atKey (q::qs) k=atKey qs k:=by simp[atKey,List.find?_cons,e']
   rw[gK e,b];exact ih
def KT.Am(r:KT H kvs xs)(k:List Key)(ry:RelV y u) :
  KT H (kvs.map fun kv=>if kv.1=k then(kv.1,y)else kv) (xs.map (putAt k u)):=by
 induction r with
 | nil=>exact .nil
 |@cons p q ps qs h t ih=>
  rw[List.map_cons,List.map_cons];refine .cons ?_ ih;obtain⟨h1,h2,h3⟩:=h;unfold putAt;by_cases e:p.1=k
  ·rw[if_pos e,if_pos (h1.symm.trans e)];exact⟨h1,h2,ry⟩
  ·rw[if_neg e,if_neg (fun z=>e (h1.trans z))];exact⟨h1,h2,h3⟩
def KT.put(r:KT H kvs xs)(k:List Key)(hb:H b=some (.tup (k.map kV)))(ry:RelV y u) :
  KT H (putK kvs k y) (storedH xs k b u):=by
 have e:(kvs.any fun kv=>decide (kv.1=k))=(atKey xs k).isSome:=by
  rw[rW,(r.val k).fL,Option.isSome_map]
 unfold putK storedH;rw[e];by_cases q:(atKey xs k).isSome=true
 ·rw[if_pos q,if_pos q];exact r.Am k ry
 ·rw[if_neg q,if_neg q];exact Paired.snoc r ⟨rfl,hb,ry⟩
def KT.keeps(r:KT H kvs xs)(ht:∀ b ys,H b=some (.tup ys)->H' b=some (.tup ys)):KT H' kvs xs :=
 Paired.A4 r fun _ _ z=>⟨z.1,ht _ _ z.2.1,z.2.2⟩
section
variable{P:Program}{w:World}{H:Hp}{h:Heap}{a:Addr}
def Bx(ok:HOk P w H h)(e:Rd H a u):bu P w H h a u:=e.ok ok
def k7(ok:HOk P w H h)(e:Rd H a (.dK kvs)):kvs.length<=sizeLine/\(a == sysModules)=false/\∃ vs,KV kvs vs/\h.DictOf (bO P w) a vs :=
 show bu P w H h a (.dK kvs)from Bx ok e
def HZ(ok:HOk P w H h)(e:H a=some (.dK kvs)):kvs.length<=sizeLine/\(a == sysModules)=false/\∃ vs,KV kvs vs/\h.DictOf (bO P w) a vs:=k7 ok (.inl e)
def kf(ok:HOk P w H h)(e:H a=some (.tup (ks.map kV))):(tupleKind (bO P w)).is h ks a:=by
 obtain⟨_,its,r,o,h1,h2,n,h3⟩:=(show bu P w H h a (.tup (ks.map kV))from ok a _ e)
 exact⟨o,its.toArray,n,h1,h2,h3,by simpa using p9 r⟩
def mQ(ok:HOk P w H h)(e:Rd H a (.dT kvs)):kvs.length<=sizeLine/\(a == sysModules)=false /\
  ∃ xs,KT H kvs xs/\h.DictOfH (tupleKind (bO P w)) a xs:=by
 obtain⟨z,y,xs,r,o,es,ep,h1,h2,h3,h4,h5⟩:=(show bu P w H h a (.dT kvs)from Bx ok e)
 refine⟨z,y,xs,r,o,es,ep,h1,h2,h3,h4,fun x hx=>?_,h5⟩
 have all:∀ {l:List (List Key × V)} {m:List (List Key × Addr × Value)},KT H l m->∀ x∈m,(tupleKind (bO P w)).is h x.1 x.2.1:=by
  intro l m q
  induction q with
  | nil=>intro x hx;exact nomatch hx
  |@cons p q ps qs hq t ih=>
   intro x hx;rcases List.mem_cons.mp hx with e | hx
   ·subst e;exact kf ok (by rw[<-hq.1];exact hq.2.1)
   ·exact ih x hx
 exact all r x hx
def Bm(ok:HOk P w H h)(e:H a=some (.dT kvs)):kvs.length<=sizeLine/\(a == sysModules)=false /\
  ∃ xs,KT H kvs xs/\h.DictOfH (tupleKind (bO P w)) a xs:=mQ ok (.inl e)
end
abbrev dF(H:Hp)(a:Addr)(y:V)(r:Option V):Prop :=
 (∃ kvs k,Rd H a (.dK kvs)/\y=kV k/\r=dN kvs k)\/∃ kvs k b,Rd H a (.dT kvs)/\y=.ref b/\H b=some (.tup (k.map kV))/\r=dN kvs k
abbrev j4(H:Hp)(a:Addr)(y v:V)(H':Hp):Prop :=
 (∃ kvs k,H a=some (.dK kvs)/\y=kV k/\kvs.length<sizeLine/\H'=upd H a (.dK (putK kvs k v))) \/
 ∃ kvs k b,H a=some (.dT kvs)/\y=.ref b/\H b=some (.tup (k.map kV))/\kvs.length<sizeLine/\H'=upd H a (.dT (putK kvs k v))
def dF.k{H:Hp}{a:Addr}{kvs:List (Key × V)}{k:Key}(e:H a=some (.dK kvs)):dF H a (kV k) (dN kvs k):=.inl ⟨kvs,k,.inl e,rfl,rfl⟩
def dF.t{H:Hp}{a b:Addr}{kvs:List (List Key × V)}{k:List Key}(e:H a=some (.dT kvs))(eb:H b=some (.tup (k.map kV))):dF H a (.ref b) (dN kvs k):=.inr ⟨kvs,k,b,.inl e,rfl,eb,rfl⟩
def j4.k{H:Hp}{a:Addr}{kvs:List (Key × V)}{k:Key}{v:V}(e:H a=some (.dK kvs))(hl:kvs.length<sizeLine):j4 H a (kV k) v (upd H a (.dK (putK kvs k v))):=.inl ⟨kvs,k,e,rfl,hl,rfl⟩
def j4.t{H:Hp}{a b:Addr}{kvs:List (List Key × V)}{k:List Key}{v:V}(e:H a=some (.dT kvs))(eb:H b=some (.tup (k.map kV)))(hl:kvs.length<sizeLine) :
  j4 H a (.ref b) v (upd H a (.dT (putK kvs k v))):=.inr ⟨kvs,k,b,e,rfl,eb,hl,rfl⟩
section
variable{X:Cx}{pins:List (Addr × Obj)}{σ:St}{H:Hp}{s:Shared}{a:Addr}{y v:V}{u r:Value}{o:Option V}{A:Around}{E:Value->Shared->Prop}
def Inv.big(I:Inv X pins σ H s):sysModules<s.heap.objs.size:=by
 have h:mainGlobals<s.heap.objs.size:=(I.mod.glob.keeps I.bk).lt;exact Nat.lt_trans (by decide) h
def yw(hu:A.units+1<cLine)(I:Inv X pins σ H s)(g:dF H a y (some v))(ry:RelV y u)(h:∀ w' s',Inv X pins σ H s'->RelV v w'->Q w' s') :
  wpAny (model X.prog X.w) A (getItem (.ref a) u) Q E s:=by
 rcases g with⟨kvs,k,e,ey,l⟩ | ⟨kvs,k,b,e,ey,eb,l⟩
 ·subst ey;obtain⟨z,hd,vs,rel,dd⟩:=k7 I.hok e;obtain⟨w',hw,rw'⟩:=gI.some_of (v:=v) (o:=valueAt vs k) (by rw[l];exact rel.val k);exact wpAny_getItem_of (mN ry) dd.mapOf hw (h w' _ (I.tok _) rw')
 ·subst ey;cases(show u=Value.ref b from ry);obtain⟨z,hd,xs,rel,dd⟩:=mQ I.hok e;obtain⟨w',hw,rw'⟩:=gI.some_of (v:=v) (o:=(atKey xs k).map (·.2)) (by rw[l];exact rel.val k);obtain⟨p,hp,hp2⟩:=Option.map_eq_some_iff.mp hw;refine wpAny_getItem_heap (tupleKind_room_in1 hu) (kf I.hok eb) dd hp ?_;rw[hp2];exact h w' _ (I.tok _) rw'
def IJ(hu:A.units+1<cLine)(I:Inv X pins σ H s)(g:dF H a y o)(ry:RelV y u)(h:∀ s',Inv X pins σ H s'->Q (.bool o.isSome) s') :
  wpAny (model X.prog X.w) A (compareOp .In u (.ref a)) Q E s:=by
 rcases g with⟨kvs,k,e,ey,l⟩ | ⟨kvs,k,b,e,ey,eb,l⟩
 ·subst ey;obtain⟨z,hd,vs,rel,dd⟩:=k7 I.hok e;refine wpAny_in_of (mN ry) hd dd.mapOf ?_;rw[<-(rel.val k).fL,<-l];exact h _ (I.tok _)
 ·subst ey;cases(show u=Value.ref b from ry);obtain⟨z,hd,xs,rel,dd⟩:=mQ I.hok e;refine wpAny_in_heap (tupleKind_room_in1 hu) (kf I.hok eb) hd dd ?_;have q:=(rel.val k).fL;rw[Option.isSome_map]at q;rw[<-q,<-l];exact h _ (I.tok _)
def Dc(hu:A.units+1<cLine)(I:Inv X pins σ H s)(g:dF H a y o)(ry:RelV y u)(h:∀ s',Inv X pins σ H s'->Q (.bool (!o.isSome)) s') :
  wpAny (model X.prog X.w) A (compareOp .NotIn u (.ref a)) Q E s:=by
 rcases g with⟨kvs,k,e,ey,l⟩ | ⟨kvs,k,b,e,ey,eb,l⟩
 ·subst ey;obtain⟨z,hd,vs,rel,dd⟩:=k7 I.hok e;refine wpAny_notIn_of (mN ry) hd dd.mapOf ?_;rw[<-(rel.val k).fL,<-l];exact h _ (I.tok _)
 ·subst ey;cases(show u=Value.ref b from ry);obtain⟨z,hd,xs,rel,dd⟩:=mQ I.hok e;refine wpAny_notIn_heap (tupleKind_room_in1 hu) (kf I.hok eb) hd dd ?_;have q:=(rel.val k).fL;rw[Option.isSome_map]at q;rw[<-q,<-l];exact h _ (I.tok _)
def tN(I:Inv X pins σ H s)(mu:Mut (H a))(hs:Heap.SameBut a s.heap h')(he:∃ q,h'.get? a=some q)(new:bu X.prog X.w (upd H a ob) h' a ob) :
  Inv X pins σ (upd H a ob) { s with heap:=h',toks:=t' } :=
 I.write (x:=a) (e:=a) mu (.inl rfl) (fun b q hb z=>(hs.2 b hb).trans z) he new
def DZ(z:kvs.length<=sizeLine)(hd:(a == sysModules)=false)(rel:KV kvs vs)(dd:h'.DictOf (bO P w) a vs) :
  bu P w H' h' a (.dK kvs):=⟨z,hd,vs,rel,dd⟩
def wI(hu:A.units+1<cLine)(I:Inv X pins σ H s)(g:j4 H a y v H')(ry:RelV y u)(rv:RelV v r)(h:∀ s',Inv X pins σ H' s'->Q () s') :
  wpAny (model X.prog X.w) A (setItem (.ref a) u r) Q E s:=by
 rcases g with⟨kvs,k,e,ey,l,eH⟩ | ⟨kvs,k,b,e,ey,eb,l,eH⟩
 ·subst ey eH;obtain⟨z,hd,vs,rel,dd⟩:=HZ I.hok e
  have hz:vs.length<=sizeLine:=by rw[<-rel.length];exact z
  have hl:(putK kvs k v).length<=sizeLine:=by have:=l6 kvs k v;omega
  refine wpAny_setItem_pairs (hsz:=hz) (mN ry) dd fun h' dd' hs=>h _ ?_;have he:∃ q,h'.get? a=some q:=let ⟨q,_,_,hq,_⟩:=dd';⟨q,hq⟩;exact tN I (by rw[e];exact True.intro) hs he (DZ hl hd (rel.put k rv) dd')
 ·subst ey eH;cases(show u=Value.ref b from ry);obtain⟨z,hd,xs,rel,dd⟩:=Bm I.hok e
  have hz:xs.length<=sizeLine:=by rw[<-Paired.length rel];exact z
  have hl:(putK kvs k v).length<=sizeLine:=by have:=l6 kvs k v;omega
  refine wpAny_setItem_heap (hsz:=hz) (tupleKind_room_in1 hu) (kf I.hok eb) dd fun h' dd' hs=>h _ ?_;obtain⟨q,es,ep,hq,h2,h3,h4,_,h5⟩:=dd';refine tN I (by rw[e];exact True.intro) hs ⟨q,hq⟩ ⟨hl,hd,_,(rel.put k eb rv).keeps fun c ys ec=>?_,q,es,ep,hq,h2,h3,h4,h5⟩;rw[aL (kC ec e (fun z=>nomatch z))];exact ec
end
section
variable{X:Cx}{pins:List (Addr × Obj)}{σ:St}{H:Hp}{s:Shared}{a:Addr}{kvs:List (Key × V)}{k:Key}{u:Value}{A:Around}{E:Value->Shared->Prop}
def HG(I:Inv X pins σ H s)(e:Rd H a (.dK kvs))(h:∀ t s',Inv X pins σ H s'->Q (.int kvs.length t) s'):wpAny (model X.prog X.w) A (call (.builtin "len") [.ref a]) Q E s:=by
 obtain⟨z,hd,vs,rel,dd⟩:=k7 I.hok e;refine call_len_dict hd dd (by rw[<-rel.length];rw[sizeLine_eq]at z;omega) ?_;rw[<-rel.length];exact h _ _ (I.tok _)
end
abbrev ve(i:Expr):Prop:=∀ ov iv,subscripted i false ov iv=operate [ov,iv] (getItem ov iv)
def CG{prog:Program}{w:World}{A:Around}{E:Value->Shared->Prop}{s:Shared}{env:Env}{value slice:Expr}{pos:Pos}{T id:String}{Q:Value->Shared->Prop}
 (hl:typeLookup (.type T) "__getitem__" = pure (some (.builtin id)))(hs:ve slice)
 (h:wpAny (model prog w) A (eval value env) (fun o s₁=>wpAny (model prog w) A (eval slice env) (fun i s₂=>s₂.TypeIs o T/\wpAny (model prog w) A (getItem o i) Q E s₂) E s₁) E s) :
  wpAny (model prog w) A (eval (.Subscript value slice pos) env) Q E s:=by
 refine Subscript_ (wpAny_mono h (fun o s₁ h₁=>wpAny_mono h₁ (fun i s₂ h₂=>?_) fun _ _ x=>x) fun _ _ x=>x);obtain⟨hT,h₂⟩:=h₂;unfold subscriptTail;refine wpAny_bind ?_;rw[getitemInPython_of_ne hT.not_modules];refine wpAny_bind (wpAny_specialOf hT hl ?_)
 have fin:wpAny (model prog w) A (subscripted slice false o i) (fun r s₃=>wpAny (model prog w) A (letTemporaryGo value o r >>= fun _=>pure r) Q E s₃) E s₂:=by
  rw[hs o i];exact wpAny_operating (wpAny_mono h₂ (fun r s₃ h₃=>wpAny_bind (wpAny_letTemporaryGo (wpAny_pure h₃))) fun _ _ x=>x)
 first
  | exact wpAny_pure (wpAny_bind fin)
  | exact wpAny_bind (wpAny_pure (wpAny_bind fin))
  | exact wpAny_bind fin
def t8(I:Inv X pins σ H s)(g:dF H a y o):s.TypeIs (.ref a) "dict" := by
 rcases g with⟨kvs,k,e,_,_⟩ | ⟨kvs,k,b,e,_,_,_⟩
 ·obtain⟨_,_,vs,_,dd⟩:=k7 I.hok e;exact dd.typeIs
 ·obtain⟨_,_,xs,_,dd⟩:=mQ I.hok e;exact dd.typeIs
abbrev Hi(td ty:TE):TE:=fun σ H Q=>td σ H fun x H1=>ty σ H1 fun y H2=>∃ a v,x=.ref a/\dF H2 a y (some v)/\Q v H2
abbrev Fw(ty td:TE):TE:=fun σ H Q=>ty σ H fun y H1=>td σ H1 fun x H2=>∃ a o,x=.ref a/\dF H2 a y o/\Q (.bl o.isSome) H2
abbrev tL(ty td:TE):TE:=fun σ H Q=>ty σ H fun y H1=>td σ H1 fun x H2=>∃ a o,x=.ref a/\dF H2 a y o/\Q (.bl (!o.isSome)) H2
abbrev wc(td ty tv:TE):TS:=fun D σ H=>tv σ H fun v H1=>td σ H1 fun x H2=>ty σ H2 fun y H3=>∃ a H4,x=.ref a/\j4 H3 a y v H4/\D.nx σ H4
section
variable{X:Cx}{o i e value:Expr}{pos pos' tpos:Pos}{td ty tv:TE}
def C8(hu:X.A.units+1<cLine)(ho:PE X o td)(hi:PE X i ty)(hs:ve i):PE X (.Subscript o i pos) (Hi td ty):=by
 intro pins s σ H Q I h;refine CG PySem.F.slot_dict_getitem.lookup hs (thn (ho pins s σ H _ I h) fun u s1 ⟨x,H1,I1,rx,q1⟩=>thn (hi pins s1 σ H1 _ I1 q1) fun iv s2 ⟨y,H2,I2,ry,a,v,ex,g,q2⟩=>?_);subst ex;obtain rfl:u=Value.ref a:=rx;exact⟨t8 I2 g,yw hu I2 g ry fun w' s3 I3 rw'=>⟨v,H2,I3,rw',q2⟩⟩
def EB(hu:X.A.units+1<cLine)(hi:PE X i ty)(ho:PE X o td):PC X .In i o (Fw ty td):=by
 intro pins s σ H Q I h;refine thn (hi pins s σ H _ I h) fun iv s1 ⟨y,H1,I1,ry,q1⟩=>thn (ho pins s1 σ H1 _ I1 q1) fun u s2 ⟨x,H2,I2,rx,a,ov,ex,g,q2⟩=>?_;subst ex;obtain rfl:u=Value.ref a:=rx
 exact IJ hu I2 g ry fun s3 I3=>⟨.bl ov.isSome,H2,I3,rfl,q2⟩
def y8(hu:X.A.units+1<cLine)(hi:PE X i ty)(ho:PE X o td):PC X .NotIn i o (tL ty td):=by
 intro pins s σ H Q I h;refine thn (hi pins s σ H _ I h) fun iv s1 ⟨y,H1,I1,ry,q1⟩=>thn (ho pins s1 σ H1 _ I1 q1) fun u s2 ⟨x,H2,I2,rx,a,ov,ex,g,q2⟩=>?_;subst ex;obtain rfl:u=Value.ref a:=rx
 exact Dc hu I2 g ry fun s3 I3=>⟨.bl (!ov.isSome),H2,I3,rfl,q2⟩
def Cr(hu:X.A.units+1<cLine)(ho:PE X o td)(hi:PE X i ty)(hv:PE X value tv)(hs:swapsWith value (some (.Subscript o i pos')) pos.line X.env=pure false) :
  PS X (.Assign [.Subscript o i pos'] value pos) (wc td ty tv):=by
 intro pins s σ H D I h;refine wpAny_Assign_Subscript (thn (hv pins s σ H _ I h) fun r s1 ⟨v,H1,I1,rv,q1⟩=>thn (ho pins s1 σ H1 _ I1 q1) fun u s2 ⟨x,H2,I2,rx,q2⟩=>thn (hi pins s2 σ H2 _ I2 q2) fun iv s3 ⟨y,H3,I3,ry,a,H4,ex,g,q3⟩=>?_) hs;subst ex;obtain rfl:u=Value.ref a:=rx
 exact wI hu I3 g ry rv fun s4 I4=>⟨σ,H4,I4,q3⟩
end
def yW(h:Heap)(hb:sysModules<h.objs.size):bu P w H (h.push { cls:=.type "dict",data:=.dict #[] }) h.objs.size (.dK []) :=
 ⟨Nat.zero_le _,beq_eq_false_iff_ne.mpr (Ne.symm (Nat.ne_of_lt hb)),[],.nil,Heap.DictOf.new h⟩
def zl(h:Heap)(hb:sysModules<h.objs.size):bu P w H (h.push { cls:=.type "dict",data:=.dict #[] }) h.objs.size (.dT []) :=
 ⟨Nat.zero_le _,beq_eq_false_iff_ne.mpr (Ne.symm (Nat.ne_of_lt hb)),[],.nil,_,#[],0,Heap.get?_push_size _ rfl,⟨rfl,rfl,rfl⟩,rfl,rfl,List.nodup_nil⟩
abbrev DB:TE:=fun _ H Q=>∀ p,H p=none->Q (.ref p) (upd H p (.dK []))
abbrev F5:TE:=fun _ H Q=>∀ p,H p=none->Q (.ref p) (upd H p (.dT []))
section
variable{X:Cx}{pos:Pos}
def Ae:PE X (.Dict [] [] pos) DB:=fun pins s σ H Q I h =>
 wpAny_Dict_empty ⟨.ref s.heap.objs.size,_,I.laid (a:=s.heap.objs.size) (o:=.dK []) (t':=s.toks) (fun _ _ q=>Heap.get?_push_of_some _ q) (Nat.le_refl _) (yW s.heap I.big),rfl,h _ (I.hok.fresh (Nat.le_refl _))⟩
def zy:PE X (.Dict [] [] pos) F5:=fun pins s σ H Q I h =>
 wpAny_Dict_empty ⟨.ref s.heap.objs.size,_,I.laid (a:=s.heap.objs.size) (o:=.dT []) (t':=s.toks) (fun _ _ q=>Heap.get?_push_of_some _ q) (Nat.le_refl _) (zl s.heap I.big),rfl,h _ (I.hok.fresh (Nat.le_refl _))⟩
end
section
variable{X:Cx}{pins:List (Addr × Obj)}{σ:St}{H:Hp}{s:Shared}{a:Addr}{y d:V}{u r:Value}{o:Option V}{A:Around}{E:Value->Shared->Prop}
end
section
variable{X:Cx}{o e f:Expr}{apos cpos:Pos}{td ty tx:TE}
end
section
variable{X:Cx}{pins:List (Addr × Obj)}{σ:St}{H:Hp}{s:Shared}{a:Addr}{kvs:List (Key × V)}{A:Around}{E:Value->Shared->Prop}
end
section
variable{X:Cx}{pins:List (Addr × Obj)}{σ:St}{H:Hp}{s:Shared}{a:Addr}{y:V}{u:Value}{A:Around}{E:Value->Shared->Prop}
end
end L2
namespace Att
open PySem PySem.W PySem.Calls PyProof.Rows
def nr:∀ (ns:List Int) (vs:List Value),WellAll P h vs (ns.map WData.int)->IntsAre vs ns:=by
 intro ns
 induction ns with
 |nil=>
  intro vs w;rw[List.map_nil]at w;cases w;exact .nil
 |cons n ns ih=>
  intro vs w;rw[List.map_cons]at w
  cases w with
  |cons a b=>
   cases a;exact .cons _ _ (ih _ b)
def yj{l:OpenLaw}{n:Nat}(hn:l.most=some n){P:Params}{h:Heap}{args:List WData}{vals:List Value}
 (hpre:l.row.toRowW.claim.pre args=true)(hwl:WellAll P h vals args) :
  ∃ a vs ns,vals=[Value.ref a]/\args=[WData.list (ns.map WData.int)]/\h.get? a=some { cls:=.type "list",data:=.seq vs.toArray }/\IntsAre vs ns/\ns.length<=n:=by
 have hsh:WShape.hasAll [] args [.list .int]=true:=(pre_splitW hpre).1;have hc:l.pre.holds [] { args:=args }=true:=(pre_splitW hpre).2;obtain⟨d,r,rfl,h1,h2⟩:=hasAllW_cons hsh;obtain rfl:=hasAllW_nil h2;obtain⟨xs,rfl,h3⟩:=hasW_list h1;obtain⟨ns,rfl⟩:=items_int h3
 have hlen:ns.length<=n:=by
  unfold OpenLaw.pre at hc
  have h4:(WTm.not (.lt (.lit (.int (n:Int))) (.len (.arg 0)))).holds [] { args:=[.list (ns.map .int)] }=true:=by
   have h4:=(holds_andW hc).1;rw[hn]at h4;exact h4
  have h5:=condW_of h4 (w_not (w_lt w_lit (w_len_list (w_arg rfl))));rw[List.length_map]at h5;refine Nat.le_of_not_lt fun q=>?_
  have q':(n:Int)<((ns.length:Nat):Int):=by omega
  first
   | (rw[decide_eq_true q']at h5;exact absurd h5 (by decide))
   | (simp at h5;omega)
 cases hwl with
 |cons w1 w2=>
  cases w2
  cases w1 with
  | list ho hall=>exact⟨_,_,ns,rfl,rfl,ho,nr ns _ hall,hlen⟩
def wK(l:OpenLaw)(args:List WData):l.row.toRowW.claim.post args (.bool true) args=true :=
 postW_of (r:=l.row.toRowW) (X:=(true == true))
  (show WShape.has [] (.bool true) .bool=true by first | rfl | decide | simp[WShape.has,WShape.arms,WShape.armsAll])
  (show(WTm.eq .res (.lit (.bool true))).value [] { args:=args,res:=some (.bool true),after:=args }=some (.bool (true == true))from w_eq_bool (w_res rfl) w_lit) rfl
def t9{l:OpenLaw}{n:Nat}{q:Program}{loose:List Str}{XP:(Str->Option Value)->Heap->Prop}{YP:World->Heap->Prop}{d:DefRec}
 (hn:l.most=some n)(hdf:d.params.defaults=[])
 (call:∀ (w:World) (s₀ s₁:Shared) (mg mb:Str->Option Value) (fa:Addr) (o:Obj) (pm cd doc:Value) (a:Addr) (vs:List Value) (ns:List Int),
   Ground q loose [] XP w s₀ mg mb s₁.heap->YP w s₁.heap ->
   s₁.heap.get? fa=some o->o.data=.func (docDef d.name d.params d.body d.scope pm cd doc)->s₁.heap.CodeRec cd d.name->mg d.name=some (.ref fa) ->
   s₁.heap.get? a=some { cls:=.type "list",data:=.seq vs.toArray }->IntsAre vs ns->ns.length<=n->s₁.gens=#[] ->
   codeAny (model l.prog w) callerA (.call (.ref fa) ⟨[.ref a],[]⟩) (fun r s'=>r=.ok (.ret (.bool true))/\OldK s₁.heap s'.heap/\s'.os=s₁.os/\AllBare s'.gens) s₁) :
  WalkO q loose XP YP l.row.toRowW d [] (fun f vs=>PySem.call f vs):=by
 intro w s₀ s₁ mg mb G Y fa o pm cd doc dV kV ho hd hcd hD hmg hg args vals as hpre hlay hrd hwl hlo;obtain rfl:dV=.none:=Dflts.none hD hdf;obtain rfl:kV=.none:=Dflts.noKw hD;obtain⟨a,vs,ns,rfl,rfl,hobj,hints,hlen⟩:=yj hn hpre hwl;refine enter_call (codeAny_mono (call w s₀ s₁ mg mb fa o pm cd doc a vs ns G Y ho (fd_plain hd) hcd hmg hobj hints hlen hg) fun r s' hq=>?_);obtain⟨rfl,h2,h3,h4⟩:=hq;exact⟨.inl ⟨.bool true,.bool true,[],rfl,fun _=>rfl,.bool true,wK l _,fun _=>⟨List.Pairwise.nil,fun _ hm=>(nomatch hm)⟩⟩,h2,h3,h4⟩
section
variable{prog:Program}{w:World}{A:Around}{E:Value->Shared->Prop}{s:Shared}{K:Frag}
end
end Att
namespace L2
open PySem PySem.Spec PyProof.Rows
def pO:∀ {vs:List Value} {ns:List Int},IntsAre vs ns->Vals (ns.map V.int) vs
 | _,_,.nil=>.nil
 | _,_,.cons n t h=>.cons ⟨t,rfl⟩ (pO h)
abbrev qS(H:Hp):Prop:=∀ b,H b=none\/∃ o xs,H b=some (.frz o (.lst xs))
def Au{P:Program}{w:World}{K:PySem.W.Frag}{mg mb:Str->Option Value}{CX:CXT}{k:Nat}{fa a:Addr}{fd:FuncData}{x:Str}{sp:Sp}{s₁:Shared}{vs:List Value}{ns:List Int}
 (KX:K.In s₁.heap)(hns:s₁.heap.Ns mainGlobals mg)(hb:s₁.heap.Ns builtinsNs mb)(hbb:∀ x:Str,x ≠ "__name__" -> mb x=bootBuiltins x)(hlim:s₁.heap.NoLimit)(hg:s₁.gens=#[])
 (ha:s₁.heap.get? a=some { cls:=.type "list",data:=.seq vs.toArray })(hi:IntsAre vs ns)(hl:ns.length<=sizeLine)(hr:dM k callerA)
 (F:∀ base:Heap,K.In base->base.Ns mainGlobals mg->ip P w K mg base CX k fa fd [x] sp)(hbind:∀ (s:Shared) (u:Value),BindsTo s fd ⟨[u],[]⟩ [(x,u)])
 (hsp:∀ H:Hp,qS H->SqL K H a (ns.map V.int)->sp [.ref a] H (fun v _=>v=.bl true) fun _ _ _=>False)
 (hCX:∀ H e s',CX [] H s₁ (fun _ _ _=>False) e s'->False) :
  codeAny (model P w) callerA (.call (.ref fa) ⟨[.ref a],[]⟩) (fun r s'=>r=.ok (.ret (.bool true))/\OldK s₁.heap s'.heap/\s'.os=s₁.os/\AllBare s'.gens) s₁:=by
 have rv:=pO hi;have lenV:=hi.length
 have core:∀ H:Hp,qS H->SqL K H a (ns.map V.int)->HOk P w H s₁.heap->(∀ b,H b≠none->b=a)->(H a≠none->K.lookup a=none) ->
   codeAny (model P w) callerA (.call (.ref fa) ⟨[.ref a],[]⟩) (fun r s'=>r=.ok (.ret (.bool true))/\OldK s₁.heap s'.heap/\s'.os=s₁.os/\AllBare s'.gens) s₁:=by
  intro H hO hS hok hA hK;have base_of:∀ {b:Addr} {o:Obj},s₁.heap.get? b=some o->H b=none->(iW s₁.heap H).get? b=some o:=fun e n=>yR e n
  have noA:∀ {b:Addr} {o:Obj} {es:Array DictEntry} {ep:Nat},s₁.heap.get? b=some o->o.data=.dict es ep->H b=none:=fun {b o es ep} e d=>by
   cases q:H b with
   | none=>rfl
   |some u=>
    have e':b=a:=hA b (by rw[q];simp);subst e';rw[ha]at e;cases e;have d':Data.seq vs.toArray _=Data.dict es ep:=d;cases d'
  have nsK:∀ {b:Addr} {m:Str->Option Value},s₁.heap.Ns b m->(iW s₁.heap H).Ns b m:=fun {b m} ⟨o,es,ep,e,d,r⟩=>⟨o,es,ep,base_of e (noA e d),d,r⟩
  have hKb:K.In (iW s₁.heap H):=fun b o e=>base_of (KX b o e) (by
   cases q:H b with
   | none=>rfl
   |some u=>
    have e':b=a:=hA b (by rw[q];simp);subst e'
    rw[hK (by rw[q];simp)]at e;cases e)
  have hM:Mod K mg (iW s₁.heap H):=⟨hKb,nsK hns,⟨mb,nsK hb,hbb⟩,let ⟨mc,h1,h2⟩:=hlim;⟨mc,nsK h1,h2⟩⟩
  have e0:wm P w K mg (iW s₁.heap H) callerA [] s₁ H:=⟨rfl,hM,fun b o e=>BV e,Nat.le_of_eq (wN _ _),trivial,fun b hb=>absurd (show b∈([]:List Addr)from hb) (by simp),hok,.of_eq hg⟩
  refine codeAny_mono ((F _ hKb (nsK hns)).run callerA [] s₁ H ⟨[.ref a],[]⟩ [.ref a] [.ref a] _ _ hr e0 (hbind s₁ (.ref a)) (.cons rfl .nil) (hsp H hO hS)) fun r s' h=>?_
  cases r with
  | error e=>exact(hCX H e s' h).elim
  |ok fl=>
   cases fl with
   | next=>exact False.elim h
   | brk=>exact False.elim h
   | cont=>exact False.elim h
   |ret u=>
    obtain⟨v,H',os,bare,un,hok',r',q⟩:=h;have q':v=.bl true:=q;subst q';obtain rfl:u=Value.bool true:=r';refine⟨rfl,OldK.of_keep fun b o e=>?_,os,bare⟩
    cases q:H b with
    | none=>exact un.keep b o e q (by intro z;exact absurd (show b∈([]:List Addr)from z) (by simp)) (by simp)
    |some u=>
     rcases hO b with z | ⟨ob,xs,z⟩
     ·rw[q]at z;cases z
     ·have z2:=un.gW b ob _ z;obtain⟨e1,_⟩:=hok b _ z;obtain⟨e2,_⟩:=hok' b _ z2;rw[e]at e1;cases e1;exact e2
 cases hk:K.lookup a with
 |some o=>
  have e:=KX a o hk;rw[ha]at e;cases e;refine core (fun _=>none) (fun _=>.inl rfl) (.inr ⟨_,vs.toArray,_,hk,rfl,rfl,rfl,by rw[List.size_toArray,lenV];exact hl,by simpa using rv⟩) (fun b u z=>by have z':(none:Option HO)=some u:=z;cases z') (fun b z=>absurd rfl z) fun z=>absurd rfl z
 |none=>
  refine core (fun b=>if b=a then some (.frz { cls:=.type "list",data:=.seq vs.toArray } (.lst (ns.map V.int)))else none) (fun b=>?_) (.inl (.inr ⟨{ cls:=.type "list",data:=.seq vs.toArray },if_pos rfl⟩)) (fun b u z=>?_) (fun b z=>?_) fun _=>hk
  ·by_cases hb:b=a
   ·exact .inr ⟨_,_,if_pos hb⟩
   ·exact .inl (if_neg hb)
  ·by_cases hb:b=a
   ·have z':=(if_pos hb).symm.trans z;cases z';subst hb;exact⟨ha,by rw[List.length_map];exact hl,vs,_,rv,ha⟩
   ·have z':=(if_neg hb).symm.trans z;cases z'
  ·by_cases hb:b=a
   ·exact hb
   ·exact absurd (if_neg hb) z
@[reducible]noncomputable def KOf{K:PySem.W.Frag}{h:Heap}(_:K.In h):PySem.W.Frag:=K
def uF{l:PySem.W.OpenLaw}{n k:Nat}{q:Program}{loose:List Str}{XP:(Str->Option Value)->Heap->Prop}{YP:World->Heap->Prop}{d:DefRec}{K:Params->PySem.W.Frag}{CX:World->CXT}{sp:World->Sp}{x:Str}
 (hn:l.most=some n)(hn2:n<=sizeLine)(hdf:d.params.defaults=[])(hr:dM k callerA)
 (hY:∀ (w:World) (h:Heap),YP w h->(K w.params).In h)
 (F:∀ (w:World) (mg:Str->Option Value) (fa:Addr) (h:Heap),(K w.params).In h->h.Ns mainGlobals mg->mg d.name=some (.ref fa) ->
   ∃ fd:FuncData,(∀ (s:Shared) (u:Value),BindsTo s fd ⟨[u],[]⟩ [(x,u)]) /\
    ∀ base:Heap,(K w.params).In base->base.Ns mainGlobals mg->ip l.prog w (K w.params) mg base (CX w) k fa fd [x] (sp w))
 (hsp:∀ (w:World) (H:Hp) (a:Addr) (ns:List Int),ns.length<=n->qS H->SqL (K w.params) H a (ns.map V.int)->sp w [.ref a] H (fun v _=>v=.bl true) fun _ _ _=>False)
 (hCX:∀ (w:World) (H:Hp) (s:Shared) (e:Value) (s':Shared),CX w [] H s (fun _ _ _=>False) e s'->False) :
  PySem.W.WalkO q loose XP YP l.row.toRowW d [] (fun f vs=>PySem.call f vs):=by
 refine Att.t9 hn hdf fun w s₀ s₁ mg mb fa o pm cd doc a vs ns G Y ho hd hcd hmg hobj hints hlen hg=>?_;have KX:=hY w _ Y;obtain⟨fd,hb,hF⟩:=F w mg fa _ KX G.T.g hmg;exact Au KX G.T.g G.T.b G.T.builtins G.T.nolimit hg hobj hints (Nat.le_trans hlen hn2) hr hF hb (fun H hO hS=>hsp w H a ns hlen hO hS) fun H e s'=>hCX w H s₁ e s'
def Aj{l:PySem.W.OpenLaw}{n k:Nat}{q:Program}{loose:List Str}{XP:(Str->Option Value)->Heap->Prop}{YP:World->Heap->Prop}{d:DefRec}{K:Params->PySem.W.Frag}{CX:CXT}{sp:PySem.W.Frag->Sp}{x:Str}
 (hn:l.most=some n)(hn2:n<=sizeLine)(hdf:d.params.defaults=[])(hr:dM k callerA)
 (hY:∀ (w:World) (h:Heap),YP w h->(K w.params).In h)
 (F:∀ (w:World) (mg:Str->Option Value) (fa:Addr) (h:Heap),(K w.params).In h->h.Ns mainGlobals mg->mg d.name=some (.ref fa) ->
   ∃ fd:FuncData,(∀ (s:Shared) (u:Value),BindsTo s fd ⟨[u],[]⟩ [(x,u)]) /\
    ∀ base:Heap,(K w.params).In base->base.Ns mainGlobals mg->ip l.prog w (K w.params) mg base CX k fa fd [x] (sp (K w.params)))
 (hsp:∀ (K:PySem.W.Frag) (H:Hp) (a:Addr) (ns:List Int),ns.length<=n->qS H->SqL K H a (ns.map V.int)->sp K [.ref a] H (fun v _=>v=.bl true) fun _ _ _=>False)
 (hCX:∀ (H:Hp) (s:Shared) (e:Value) (s':Shared),CX [] H s (fun _ _ _=>False) e s'->False) :
  PySem.W.WalkO q loose XP YP l.row.toRowW d [] (fun f vs=>PySem.call f vs) :=
 uF (K:=K) (CX:=fun _=>CX) (sp:=fun w=>sp (K w.params)) hn hn2 hdf hr hY F (fun w H a ns h1 h2 h3=>hsp (K w.params) H a ns h1 h2 h3) fun _ H s e s'=>hCX H s e s'
abbrev gw(s:Stmt):Arguments:=match s with
 | .FunctionDef _ a _ _ _ _ _ _ _ _=>a
 | _=>{ posonlyargs:=[],args:=[],vararg:=none,kwonlyargs:=[],kw_defaults:=[],kwarg:=none,defaults:=[] }
abbrev dU(s:Stmt):List Stmt:=match s with
 | .FunctionDef _ _ b _ _ _ _ _ _ _=>b
 | _=>[]
abbrev bV(s:Stmt):Scope:=match s with
 | .FunctionDef _ _ _ _ _ _ sc _ _ _=>sc
 | _=>{ kind:=.function,names:=[],isGenerator:=false,isCoroutine:=false }
@[reducible]noncomputable def CX0:CXT:=fun _ _ _ _ _ _=>False
@[reducible]noncomputable def E0:XK:=fun _ _ _=>False
def vt:Passes CX0 X E0:=fun _ _ _ _ _ _ _ h=>h.elim
structure Fun(K:PySem.W.Frag)(x qual:Str)(st:Stmt)(f:Addr)(fd:FuncData):Prop where
 ex:∃ (oc:Value) (od:Option Addr) (kV doc pm:Value) (an:Option Addr) (cdv ct:Value) (osl:Array (Option Value)),
  fd=PySem.W.fnOf x qual (gw st) (dU st) (bV st) .none kV doc pm an cdv ct/\K.lookup f=some ⟨oc,od,.func fd,osl⟩/\PySem.W.codeIn K cdv qual=true
 kp:PySem.W.keepIn K (.ref f)=true
section
variable{P:Program}{w:World}{K:PySem.W.Frag}{mg:Str->Option Value}{base:Heap}
def Fun.ok{x qual:Str}{st:Stmt}{f:Addr}{fd:FuncData}{N ps:List Str}{k:Nat}{sp:Sp}(F:Fun K x qual st f fd)(S:kN N ps (bV st))(len:∀ vs H Q E,sp vs H Q E->vs.length=ps.length)
 (hbody:∀ (cdv:Value) (A:Around) (outer:List Env) (s:Shared) (H:Hp) (vs:List V) (Q:VK) (E:XK),dM k (A.deeper (envOfC qual (bV st) s.heap.objs.size f cdv))->sp vs H Q E ->
   ∃ t,PSs (lU CX0 P w K mg base N qual (bV st) f cdv A outer s H E).nox (dU st) t/\t { nx:=fun _ H'=>Q .non H',rt:=Q } (start N vs) H):ip P w K mg base CX0 (k+1) f fd ps sp:=by
 obtain⟨oc,od,kV,doc,pm,an,cdv,ct,osl,rfl,lk,hcd⟩:=F.ex;refine Ha lk hcd S len fun A outer s H vs Q E hr hsp=>?_;obtain⟨t,h,q⟩:=hbody cdv A outer s H vs Q E hr hsp;exact⟨t,h.nox,q⟩
def Fun.binds{x qual:Str}{st:Stmt}{f:Addr}{fd:FuncData}{ps:List Str}(F:Fun K x qual st f fd)
 (h:∀ (kV doc pm:Value) (an:Option Addr) (cdv ct:Value) (us:List Value),us.length=ps.length->bindArgs (PySem.W.fnOf x qual (gw st) (dU st) (bV st) .none kV doc pm an cdv ct) ⟨us,[]⟩=pure (ps.zip us)):Binds K fd ps []:=by
 obtain⟨oc,od,kV,doc,pm,an,cdv,ct,osl,rfl,lk,hcd⟩:=F.ex;exact .all (h kV doc pm an cdv ct)
def yl{x qual:Str}{st:Stmt}{f:Addr}{oc:Value}{od an:Option Addr}{osl:Array (Option Value)}{kV doc pm cdv ct:Value}(l:K.lookup f=some ⟨oc,od,.func (PySem.W.fnOf x qual (gw st) (dU st) (bV st) .none kV doc pm an cdv ct),osl⟩)
 (c:PySem.W.codeIn K cdv qual=true)(k:PySem.W.keepIn K (.ref f)=true):Fun K x qual st f (PySem.W.fnOf x qual (gw st) (dU st) (bV st) .none kV doc pm an cdv ct):=⟨⟨oc,od,kV,doc,pm,an,cdv,ct,osl,rfl,l,c⟩,k⟩
end
def pT(h:n<=1000):n<sizeLine:=Nat.lt_of_le_of_lt h (by decide)
section
variable{X:Cx}
end
def fY{A B:Prop}(h:B):if false=true then A else B:=by
 rw[if_neg Bool.false_ne_true];exact h
def fq{A B:Prop}(h:A):if true=true then A else B:=by
 rw[if_pos rfl];exact h
abbrev a5(H H':Hp):Prop:=∀ b o,H b=some o->H' b=some o
def a5.refl(H:Hp):a5 H H:=fun _ _ h=>h
def a5.trans(a:a5 H H1)(b:a5 H1 H2):a5 H H2:=fun c o h=>b c o (a c o h)
def a5.free(e:a5 H H')(h:H' l=Option.none):H l=Option.none:=by
 cases q:H l with
 | none=>rfl
 |some o=>
  rw[e l o q]at h;cases h
section
variable{X:Cx}
def xK:bF X (.builtin "len") (fun xs H Q=>∃ a kvs,xs=[V.ref a]/\H a=some (.dK kvs)/\Q (.int kvs.length) H):=by
 intro pins s σ H xs us Q I r h;obtain⟨a,kvs,rfl,ha,q⟩:=h;obtain⟨u,rfl,ru⟩:=vals1 r;cases ru
 exact HG I (.inl ha) fun t s' I'=>⟨.int kvs.length,H,I',⟨t,rfl⟩,q⟩
end
section
variable{κ:Type} [DecidableEq κ]
end
end L2
namespace RS
open PySem PySem.Spec PyProof.Rows L2
@[reducible]def VE:List Value:=[.type "ValueError",.type "Exception",.type "BaseException",.type "object"]
abbrev A7:List Str:=["RibbonError", "BadPegs", "BadFrame", "BadHalf", "BadHook", "BadName", "NoNumber", "NoFrame", "NoStack", "NoPlace", "Taken", "Full", "NothingThere", "BadTrade", "Hangs", "BadPage"]
abbrev DF(f:Option PySem.Builtin.ObjectAttr.Found):Bool:=match f with
 | some (.bind (.builtin a) (.builtin b))=>a == "getset_descriptor.__get__" && b == "object.__class__"
 | _=>false
abbrev Hw(K:PySem.W.Frag)(x:Str)(C:Addr):Bool :=
 PySem.W.excIn K C VE "ValueError.__new__" && PySem.W.findIn K (.ref C) "__getattribute__" == some (some (.builtin "BaseException.__getattribute__"))&&PySem.W.findIn K (.ref C) "__getattr__" == some none&&DF (PySem.W.findObj K C none "__class__") &&
 PySem.W.mroIn K C (.type "object") == some true&&PySem.W.subIn K (.ref C) (.type "BaseException") == some true&&(PySem.W.clsIn K C).isSome&&PySem.W.kitOne K (.ref C) (.type "ValueError") == some true &&
 A7.all fun c=>match PySem.W.nsIn K mainGlobals c with
  | some (some (.ref D))=>PySem.W.kitOne K (.ref C) (.ref D) == some (RL.Br x c)&&PySem.W.subIn K (.ref C) (.ref D) == some (RL.Br x c)
  | _=>true
structure Cls(K:PySem.W.Frag)(x:Str)(C:Addr):Prop where
 ns:PySem.W.nsIn K mainGlobals x=some (some (.ref C))
 ok:Hw K x C=true
section
variable{K:PySem.W.Frag}
end
abbrev nP:Addr->Prop:=fun _=>False
abbrev jC(K:PySem.W.Frag)(H:Hp)(a:Addr)(xs:List V):Prop:=(∃ o,H a=some (.frz o (.lst xs)))\/SqL K (fun _=>none) a xs
def jC.seq{K:PySem.W.Frag}(h:jC K H a xs):SqL K H a xs:=by
 rcases h with⟨o,h⟩ | (h | ⟨o,h⟩) | h
 ·exact .inl (.inr ⟨o,h⟩)
 ·cases h
 ·cases h
 ·exact .inr h
def jC.same{K:PySem.W.Frag}(e:a5 H H')(h:jC K H a xs):jC K H' a xs:=by
 rcases h with⟨o,h⟩ | h
 ·exact .inl ⟨o,e _ _ h⟩
 ·exact .inr h
abbrev ExV(K:PySem.W.Frag)(H:Hp)(c:Str)(v:V):Prop:=∃ a o u D vs,v=.ref a/\H a=some (.frz o u)/\(o.cls=.ref D/\o.dict=none)/\o.data=.fields vs/\vs[2]?=some .none/\Cls K c D
def ExV.keep{K:PySem.W.Frag}(h:ExV K H c v)(k:∀ b o u,H b=some (.frz o u)->H' b=some (.frz o u)):ExV K H' c v :=
 let ⟨a,o,u,D,vs,h1,h2,r⟩:=h;⟨a,o,u,D,vs,h1,k _ _ _ h2,r⟩
mutual
noncomputable def Rep(P:Addr->Prop)(K:PySem.W.Frag)(H:Hp):RL.D->V->Prop
 | .non,v=>v=.non
 | .bl b,v=>v=.bl b
 | .int i,v=>v=.int i
 | .str x,v=>v=.str x
 | .tup ds,v=>∃ a xs,v=.ref a/\H a=some (.tup xs)/\ae P K H ds xs
 | .lst ds,v=>∃ a xs,v=.ref a/\¬ P a/\H a=some (.lst xs)/\ae P K H ds xs
 | .dK ks ds,v=>∃ a xs,v=.ref a/\¬ P a/\H a=some (.dK (ks.zip xs))/\ks.length=ds.length/\ae P K H ds xs
 | .dT ks ds,v=>∃ a xs,v=.ref a/\¬ P a/\H a=some (.dT (ks.zip xs))/\ks.length=ds.length/\ae P K H ds xs
 | .scr ds,v=>∃ a xs,v=.ref a/\jC K H a xs/\ae P K H ds xs
 | .exc c,v=>ExV K H c v
 | .fT ks,v=>∃ a o kvs,v=.ref a/\H a=some (.frz o (.dT kvs))/\kvs.map (·.1)=ks
noncomputable def ae(P:Addr->Prop)(K:PySem.W.Frag)(H:Hp):List RL.D->List V->Prop
 | [],xs=>xs=[]
 | d::r,xs=>∃ x t,xs=x::t/\Rep P K H d x/\ae P K H r t
end
mutual
theorem Rep.same{P:Addr->Prop}{K:PySem.W.Frag}{H H':Hp}(e:a5 H H'):∀ {d:RL.D} {v:V},Rep P K H d v->Rep P K H' d v
 | .non,v,h=>by simpa[Rep]using h
 | .bl _,v,h=>by simpa[Rep]using h
 | .int _,v,h=>by simpa[Rep]using h
 | .str _,v,h=>by simpa[Rep]using h
 | .tup ds,v,h=>by
  rw[Rep]at h ⊢;obtain⟨a,xs,e1,e2,e3⟩:=h;exact⟨a,xs,e1,e _ _ e2,ae.same e e3⟩
 | .lst ds,v,h=>by
  rw[Rep]at h ⊢;obtain⟨a,xs,e1,e0,e2,e3⟩:=h;exact⟨a,xs,e1,e0,e _ _ e2,ae.same e e3⟩
 | .dK ks ds,v,h=>by
  rw[Rep]at h ⊢;obtain⟨a,xs,e1,e0,e2,el,e3⟩:=h;exact⟨a,xs,e1,e0,e _ _ e2,el,ae.same e e3⟩
 | .dT ks ds,v,h=>by
  rw[Rep]at h ⊢;obtain⟨a,xs,e1,e0,e2,el,e3⟩:=h;exact⟨a,xs,e1,e0,e _ _ e2,el,ae.same e e3⟩
 | .scr ds,v,h=>by
  rw[Rep]at h ⊢;obtain⟨a,xs,e1,e2,e3⟩:=h;exact⟨a,xs,e1,jC.same e e2,ae.same e e3⟩
 | .exc c,v,h=>by rw[Rep]at h ⊢;exact h.keep fun _ _ _ q=>e _ _ q
 | .fT ks,v,h=>by rw[Rep]at h ⊢;obtain⟨a,o,kvs,e1,e2,e3⟩:=h;exact⟨a,o,kvs,e1,e _ _ e2,e3⟩
theorem ae.same{P:Addr->Prop}{K:PySem.W.Frag}{H H':Hp}(e:a5 H H'):∀ {ds:List RL.D} {xs:List V},ae P K H ds xs->ae P K H' ds xs
 | [],xs,h=>by rw[ae]at h ⊢;exact h
 | d::r,xs,h=>by
  rw[ae]at h ⊢;obtain⟨x,t,e1,e2,e3⟩:=h;exact⟨x,t,e1,Rep.same e e2,ae.same e e3⟩
end
mutual
theorem Rep.weak{P P':Addr->Prop}{K:PySem.W.Frag}{H:Hp}(e:∀ a,P' a->P a):∀ {d:RL.D} {v:V},Rep P K H d v->Rep P' K H d v
 | .non,v,h=>by simpa[Rep]using h
 | .bl _,v,h=>by simpa[Rep]using h
 | .int _,v,h=>by simpa[Rep]using h
 | .str _,v,h=>by simpa[Rep]using h
 | .tup ds,v,h=>by
  rw[Rep]at h ⊢;obtain⟨a,xs,e1,e2,e3⟩:=h;exact⟨a,xs,e1,e2,ae.weak e e3⟩
 | .lst ds,v,h=>by
  rw[Rep]at h ⊢;obtain⟨a,xs,e1,e0,e2,e3⟩:=h;exact⟨a,xs,e1,fun z=>e0 (e a z),e2,ae.weak e e3⟩
 | .dK ks ds,v,h=>by
  rw[Rep]at h ⊢;obtain⟨a,xs,e1,e0,e2,el,e3⟩:=h;exact⟨a,xs,e1,fun z=>e0 (e a z),e2,el,ae.weak e e3⟩
 | .dT ks ds,v,h=>by
  rw[Rep]at h ⊢;obtain⟨a,xs,e1,e0,e2,el,e3⟩:=h;exact⟨a,xs,e1,fun z=>e0 (e a z),e2,el,ae.weak e e3⟩
 | .scr ds,v,h=>by
  rw[Rep]at h ⊢;obtain⟨a,xs,e1,e2,e3⟩:=h;exact⟨a,xs,e1,e2,ae.weak e e3⟩
 | .exc c,v,h=>by rw[Rep]at h ⊢;exact h
 | .fT ks,v,h=>by rw[Rep]at h ⊢;exact h
theorem ae.weak{P P':Addr->Prop}{K:PySem.W.Frag}{H:Hp}(e:∀ a,P' a->P a):∀ {ds:List RL.D} {xs:List V},ae P K H ds xs->ae P' K H ds xs
 | [],xs,h=>by rw[ae]at h ⊢;exact h
 | d::r,xs,h=>by
  rw[ae]at h ⊢;obtain⟨x,t,e1,e2,e3⟩:=h;exact⟨x,t,e1,Rep.weak e e2,ae.weak e e3⟩
end
def Rep.none{P:Addr->Prop}{K:PySem.W.Frag}(h:Rep P K H d v):Rep nP K H d v:=h.weak fun _ z=>z.elim
mutual
theorem Rep.imm{P P':Addr->Prop}{K:PySem.W.Frag}{H:Hp}:∀ {d:RL.D} {v:V},d.imm=true->Rep P K H d v->Rep P' K H d v
 | .non,v,_,h=>by simpa[Rep]using h
 | .bl _,v,_,h=>by simpa[Rep]using h
 | .int _,v,_,h=>by simpa[Rep]using h
 | .str _,v,_,h=>by simpa[Rep]using h
 | .tup ds,v,i,h=>by
  rw[Rep]at h ⊢;rw[RL.D.imm]at i;obtain⟨a,xs,e1,e2,e3⟩:=h;exact⟨a,xs,e1,e2,ae.imm i e3⟩
 | .lst ds,v,i,h=>by rw[RL.D.imm]at i;cases i
 | .dK ks ds,v,i,h=>by rw[RL.D.imm]at i;cases i
 | .dT ks ds,v,i,h=>by rw[RL.D.imm]at i;cases i
 | .scr ds,v,i,h=>by
  rw[Rep]at h ⊢;rw[RL.D.imm]at i;obtain⟨a,xs,e1,e2,e3⟩:=h;exact⟨a,xs,e1,e2,ae.imm i e3⟩
 | .exc c,v,i,h=>by rw[Rep]at h ⊢;exact h
 | .fT ks,v,i,h=>by rw[Rep]at h ⊢;exact h
theorem ae.imm{P P':Addr->Prop}{K:PySem.W.Frag}{H:Hp}:∀ {ds:List RL.D} {xs:List V},RL.au ds=true->ae P K H ds xs->ae P' K H ds xs
 | [],xs,_,h=>by rw[ae]at h ⊢;exact h
 | d::r,xs,i,h=>by
  rw[ae]at h ⊢;rw[RL.au,Bool.and_eq_true]at i;obtain⟨x,t,e1,e2,e3⟩:=h;exact⟨x,t,e1,Rep.imm i.1 e2,ae.imm i.2 e3⟩
end
abbrev cu(o:HO):Prop:=(∃ xs,o=.lst xs)\/(∃ kvs,o=.dK kvs)\/(∃ kvs,o=.dT kvs)
mutual
theorem Rep.upd{P:Addr->Prop}{K:PySem.W.Frag}{H:Hp}{a:Addr}{o o':HO}(ha:H a=some o)(m:cu o)(p:P a):∀ {d:RL.D} {v:V},Rep P K H d v->Rep P K (upd H a o') d v
 | .non,v,h=>by simpa[Rep]using h
 | .bl _,v,h=>by simpa[Rep]using h
 | .int _,v,h=>by simpa[Rep]using h
 | .str _,v,h=>by simpa[Rep]using h
 | .tup ds,v,h=>by
  rw[Rep]at h ⊢;obtain⟨b,xs,e1,e2,e3⟩:=h;have n:b≠a:=kC e2 ha (by rcases m with⟨z,rfl⟩ | ⟨z,rfl⟩ | ⟨z,rfl⟩<;>(intro q;cases q));exact⟨b,xs,e1,by rw[L2.aL n];exact e2,ae.upd ha m p e3⟩
 | .lst ds,v,h=>by
  rw[Rep]at h ⊢;obtain⟨b,xs,e1,e0,e2,e3⟩:=h;have n:b≠a:=fun z=>e0 (z▸p);exact⟨b,xs,e1,e0,by rw[L2.aL n];exact e2,ae.upd ha m p e3⟩
 | .dK ks ds,v,h=>by
  rw[Rep]at h ⊢;obtain⟨b,xs,e1,e0,e2,el,e3⟩:=h;have n:b≠a:=fun z=>e0 (z▸p);exact⟨b,xs,e1,e0,by rw[L2.aL n];exact e2,el,ae.upd ha m p e3⟩
 | .dT ks ds,v,h=>by
  rw[Rep]at h ⊢;obtain⟨b,xs,e1,e0,e2,el,e3⟩:=h;have n:b≠a:=fun z=>e0 (z▸p);exact⟨b,xs,e1,e0,by rw[L2.aL n];exact e2,el,ae.upd ha m p e3⟩
 | .scr ds,v,h=>by
  rw[Rep]at h ⊢;obtain⟨b,xs,e1,e2,e3⟩:=h;refine⟨b,xs,e1,?_,ae.upd ha m p e3⟩;rcases e2 with⟨q,e2⟩ | e2
  ·have n:b≠a:=kC e2 ha (by rcases m with⟨z,rfl⟩ | ⟨z,rfl⟩ | ⟨z,rfl⟩<;>(intro q;cases q));exact .inl ⟨q,by rw[L2.aL n];exact e2⟩
  ·exact .inr e2
 | .exc c,v,h=>by
  rw[Rep]at h ⊢;refine h.keep fun b ob u q=>?_;have n:b≠a:=kC q ha (by rcases m with⟨z,rfl⟩ | ⟨z,rfl⟩ | ⟨z,rfl⟩<;>(intro q;cases q));rw[L2.aL n];exact q
 | .fT ks,v,h=>by
  rw[Rep]at h ⊢;obtain⟨b,ob,kvs,e1,e2,e3⟩:=h;have n:b≠a:=kC e2 ha (by rcases m with⟨z,rfl⟩ | ⟨z,rfl⟩ | ⟨z,rfl⟩<;>(intro q;cases q));exact⟨b,ob,kvs,e1,by rw[L2.aL n];exact e2,e3⟩
theorem ae.upd{P:Addr->Prop}{K:PySem.W.Frag}{H:Hp}{a:Addr}{o o':HO}(ha:H a=some o)(m:cu o)(p:P a):∀ {ds:List RL.D} {xs:List V},ae P K H ds xs->ae P K (upd H a o') ds xs
 | [],xs,h=>by rw[ae]at h ⊢;exact h
 | d::r,xs,h=>by
  rw[ae]at h ⊢;obtain⟨x,t,e1,e2,e3⟩:=h;exact⟨x,t,e1,Rep.upd ha m p e2,ae.upd ha m p e3⟩
end
section lists
variable{K:PySem.W.Frag}
def ae.nil:ae P K H [] []:=by rw[ae]
def ae.cons{d:RL.D}{ds:List RL.D}{x:V}{xs:List V}(h:Rep P K H d x)(t:ae P K H ds xs):ae P K H (d::ds) (x::xs):=by rw[ae];exact⟨x,xs,rfl,h,t⟩
def ae.length:∀ {ds:List RL.D} {xs:List V},ae P K H ds xs->ds.length=xs.length
 | [],xs,h=>by rw[ae]at h;rw[h];rfl
 | d::r,xs,h=>by
  rw[ae]at h;obtain⟨x,t,rfl,_,e3⟩:=h;rw[List.length_cons,List.length_cons,ae.length e3]
def ae.append:∀ {ds es:List RL.D} {xs ys:List V},ae P K H ds xs->ae P K H es ys->ae P K H (ds++es) (xs++ys)
 | [],_,xs,_,h,k=>by rw[ae]at h;rw[h];exact k
 | d::r,_,xs,_,h,k=>by
  rw[ae]at h;obtain⟨x,t,rfl,e2,e3⟩:=h;exact ae.cons e2 (ae.append e3 k)
def ae.get:∀ {ds:List RL.D} {xs:List V} {i:Nat} {d:RL.D},ae P K H ds xs->ds[i]?=some d->∃ x,xs[i]?=some x/\Rep P K H d x
 | [],_,i,d,_,e=>by simp at e
 | d::r,xs,0,d',h,e=>by
  rw[ae]at h;obtain⟨x,t,rfl,e2,_⟩:=h;simp at e;subst e;exact⟨x,rfl,e2⟩
 | d::r,xs,i+1,d',h,e=>by
  rw[ae]at h;obtain⟨x,t,rfl,_,e3⟩:=h;obtain⟨y,h1,h2⟩:=ae.get (i:=i) e3 (by simpa using e);exact⟨y,by simpa using h1,h2⟩
def ae.set:∀ {ds:List RL.D} {xs:List V} (i:Nat) {d:RL.D} {x:V},ae P K H ds xs->Rep P K H d x->ae P K H (ds.set i d) (xs.set i x)
 | [],xs,_,_,_,h,_=>by rw[ae]at h;rw[h];exact ae.nil
 | d::r,xs,0,_,_,h,k=>by
  rw[ae]at h;obtain⟨x,t,rfl,_,e3⟩:=h;exact ae.cons k e3
 | d::r,xs,i+1,_,_,h,k=>by
  rw[ae]at h;obtain⟨x,t,rfl,e2,e3⟩:=h;exact ae.cons e2 (ae.set i e3 k)
def ae.take:∀ {ds:List RL.D} {xs:List V} (n:Nat),ae P K H ds xs->ae P K H (ds.take n) (xs.take n)
 | _,_,0,_=>by simpa using ae.nil
 | [],xs,n+1,h=>by rw[ae]at h;rw[h];simpa using ae.nil
 | d::r,xs,n+1,h=>by
  rw[ae]at h;obtain⟨x,t,rfl,e2,e3⟩:=h;exact ae.cons e2 (ae.take n e3)
def ae.rep(h:ae P K H ds xs):∀ n:Nat,ae P K H (List.replicate n ds).flatten (List.replicate n xs).flatten
 | 0=>ae.nil
 | n+1=>by
  rw[List.replicate_succ,List.replicate_succ,List.flatten_cons,List.flatten_cons];exact ae.append h (ae.rep h n)
end lists
abbrev RV0(K:PySem.W.Frag)(σD:RL.St)(σ:L2.St)(H:Hp):Prop:=σD.length<=σ.length/\∀ (i:Nat) (d:RL.D),σD[i]?=some (some d)->∃ v,σ[i]?=some (some v)/\Rep nP K H d v
def RV0.same{K:PySem.W.Frag}(h:RV0 K σD σ H)(e:a5 H H'):RV0 K σD σ H':=⟨h.1,fun i d q=>by
 obtain⟨v,h1,h2⟩:=h.2 i d q
 exact⟨v,h1,h2.same e⟩⟩
abbrev j2:RL.D->Bool
 | .lst _=>true
 | .dK _ _=>true
 | .dT _ _=>true
 | _=>false
structure Res(K:PySem.W.Frag)(σD:RL.St)(σ:L2.St)(H:Hp)(e:RL.E)(d:RL.D)(v:V)(H':Hp):Prop where
 same:a5 H H'
 rep:Rep nP K H' d v
 fresh:RL.aE e=true->j2 d=true->∀ a,v=.ref a->H a=none
 av:∀ M,RL.avE M e=true->∀ P:Addr->Prop,(∀ a,P a->H a≠none)->(∀ (j:Nat) (dj:RL.D) (vj:V),M.contains j=false->σD[j]?=some (some dj)->σ[j]?=some (some vj)->Rep P K H dj vj)->Rep P K H' d v
abbrev tE(K:PySem.W.Frag)(cl:RL.Cl)(e:RL.E):TE:=fun σ H Q=>∃ σD d,RV0 K σD σ H/\RL.ev cl σD e=some d/\∀ v H',Res K σD σ H e d v H'->Q v H'
abbrev SE(X:Cx)(cl:RL.Cl)(e:Expr)(e':RL.E):Prop:=PE X e (tE X.K cl e')
def PE.weak(h:PE X e t)(w:∀ σ H Q,t' σ H Q->t σ H Q):PE X e t':=fun pins s σ H Q I q=>h pins s σ H Q I (w σ H Q q)
abbrev tEs(K:PySem.W.Frag)(cl:RL.Cl)(es:RL.Es):TA:=fun σ H Q=>∃ σD ds,RV0 K σD σ H/\RL.evs cl σD es=some ds/\∀ vs H',a5 H H'->ae nP K H' ds vs->Q vs H'
abbrev SEs(X:Cx)(cl:RL.Cl)(es:List Expr)(es':RL.Es):Prop:=PA X es (tEs X.K cl es')
section rules
variable{X:Cx}
def two{σD:RL.St}{σ:L2.St}{H:Hp}{x y:RL.D}{R:V->V->Hp->Prop}(rv:RV0 X.K σD σ H)(ea:RL.ev cl σD a'=some x)(eb:RL.ev cl σD b'=some y)
 (k:∀ v u H1 H2,a5 H H1->a5 H1 H2->Rep nP X.K H2 x v->Rep nP X.K H2 y u->Res X.K σD σ H a' x v H1->Res X.K σD σ H1 b' y u H2->R v u H2) :
  tE X.K cl a' σ H fun v H1=>tE X.K cl b' σ H1 fun u H2=>R v u H2 :=
 ⟨σD,x,rv,ea,fun v H1 r1=>⟨σD,y,rv.same r1.same,eb,fun u H2 r2=>k v u H1 H2 r1.same r2.same (r1.rep.same r2.same) r2.rep r1 r2⟩⟩
def bind_some(h:o.bind f=some y):∃ x,o=some x/\f x=some y:=by
 cases o with
 | none=>cases h
 | some x=>exact⟨x,rfl,h⟩
def map_some(h:o.map f=some y):∃ x,o=some x/\f x=y:=by
 cases o with
 | none=>cases h
 | some x=>exact⟨x,rfl,Option.some.inj h⟩
def bU:RL.most<=sizeLine:=by decide
def a5.bQ(hn:H p=none):a5 H (upd H p o):=fun b u e=>by rw[aL (aI e hn)];exact e
def Dm(hN:X.N[i]?=some x)(hv:Vis X.env.scope x)(hd:(x == ("__debug__" : Str))=false)(hcd:(x == ("__classdict__" : Str))=false):SE X cl (.Name x pos) (.var i):=by
 refine PE.weak (eh hN hv hd hcd) fun σ H Q h=>?_;obtain⟨σD,d,rv,e,k⟩:=h
 have e':σD[i]?=some (some d):=by
  obtain⟨o,h1,h2⟩:=bind_some e
  cases o with
  | none=>cases h2
  | some z=>cases h2;exact h1
 obtain⟨v,h1,h2⟩:=rv.2 i d e';refine⟨v,h1,k v H ⟨a5.refl H,h2,fun z=>(by cases z),fun M z P hP av=>?_⟩⟩;rw[RL.vX]at z;exact av i d v (by simpa using z) e' h1
def ny(h:PE X (.Constant k j pos) (tC v))(r:∀ P H,Rep P X.K H d v)(hm:j2 d=false):SE X cl (.Constant k j pos) (.cst d):=by
 refine PE.weak h fun σ H Q q=>?_;obtain⟨σD,d',rv,e,k⟩:=q;cases e;exact k v H ⟨a5.refl H,r _ _,fun z=>(by cases z),fun M z=>nomatch (show false=true from z)⟩
def Ff{x:Str}{i:Int}{u:Value}(h:PE X (.Name x pos) (tC (.int i))):SE X cl (.Name x pos) (.glb x i):=by
 refine PE.weak h fun σ H Q q=>?_;obtain⟨σD,d',rv,e,k⟩:=q;cases e;exact k _ H ⟨a5.refl H,(by rw[Rep]),fun z=>(by cases z),fun M z=>nomatch (show false=true from z)⟩
end rules
section rules
variable{X:Cx}
def cW(sm:a5 H H')(r:Rep nP X.K H' d v)(im:d.imm=true):Res X.K σD σ H e d v H' where
 same:=sm
 rep:=r
 fresh:=fun _ m=>by
  cases d with
  | lst _=>cases im
  | dK _ _=>cases im
  | dT _ _=>cases im
  | _=>cases m
 av:=fun M _ P _ _=>r.imm im
def A5:OpR X (binaryOp .FloorDiv) (rI (fun _ j=>0<j/\j<2 ^ 200) fun i j=>.int (i / j)):=opI fun i j _ _ _ _ _ hc q=>by
 refine floordiv_int (by lia) ?_ (.inl (PyProof.noPylong_of_log2 ?_))
 ·rw[Int.fdiv_eq_ediv_of_nonneg _ (by lia)];exact q
 ·have h0:j.natAbs≠0:=by lia
  have h1:j.natAbs<2 ^ 200:=by
   have:=hc.2;omega
  have h2:j.natAbs.log2<200:=(Nat.log2_lt h0).mpr h1;lia
def dZ(sm:a5 H H1)(hn:H1 p=none)(r:ae nP X.K H1 ds xs)(hav:∀ M,RL.avE M e=false):Res X.K σD σ H e (.lst ds) (.ref p) (upd H1 p (.lst xs)) where
 same:=sm.trans (a5.bQ hn)
 rep:=by
  rw[Rep];exact⟨p,xs,rfl,fun z=>z,br,r.same (a5.bQ hn)⟩
 fresh:=fun _ _ a z=>by
  cases z;exact sm.free hn
 av:=fun M z=>by rw[hav M]at z;cases z
def iS(sm:a5 H H1)(hn:H1 p=none)(r:ae nP X.K H1 ds xs)(hav:∀ M,RL.avE M e=false):Res X.K σD σ H e (.tup ds) (.ref p) (upd H1 p (.tup xs)) where
 same:=sm.trans (a5.bQ hn)
 rep:=by
  rw[Rep];exact⟨p,xs,rfl,br,r.same (a5.bQ hn)⟩
 fresh:=fun _ m=>by cases m
 av:=fun M z=>by rw[hav M]at z;cases z
abbrev qX:RL.Bop->Operator
 | .add=>.Add
 | .sub=>.Sub
 | .mul=>.Mult
 | .fdiv=>.FloorDiv
 | .mod=>.Mod
 | .pow=>.Pow
def aX{P:Addr->Prop}{K:PySem.W.Frag}:Rep P K H (.int i) (.int i):=by rw[Rep]
def rJ{P:Addr->Prop}{K:PySem.W.Frag}:Rep P K H (.bl i) (.bl i):=by rw[Rep]
def dW{P:Addr->Prop}{K:PySem.W.Frag}:Rep P K H (.str i) (.str i):=by rw[Rep]
def aj{P:Addr->Prop}{K:PySem.W.Frag}(h:Rep P K H (.int i) v):v=.int i:=by rw[Rep]at h;exact h
def aZ{P:Addr->Prop}{K:PySem.W.Frag}(h:Rep P K H (.bl i) v):v=.bl i:=by rw[Rep]at h;exact h
def aD{P:Addr->Prop}{K:PySem.W.Frag}(h:Rep P K H (.str i) v):v=.str i:=by rw[Rep]at h;exact h
abbrev mS(X:Cx)(o:RL.Bop)(r:R2):Prop :=
 ∀ (σD:RL.St) (σ:L2.St) (H H2:Hp) (e:RL.E) (x y d:RL.D) (v u:V) (Q:VK),a5 H H2->Rep nP X.K H2 x v->Rep nP X.K H2 y u->RL.aG o x y=some d->(∀ M,RL.avE M e=false) ->
  (∀ w H',Res X.K σD σ H e d w H'->Q w H')->r v u H2 Q
def gu(ho:OpR X (binaryOp (qX o)) r)(ok:mS X o r)(ha:SE X cl a a')(hb:SE X cl b b'):SE X cl (.BinOp a (qX o) b pos) (.bin o a' b'):=by
 refine PE.weak (HW ho ha hb) fun σ H Q h=>?_;obtain⟨σD,d,rv,e,k⟩:=h;obtain⟨x,ea,e⟩:=bind_some e;obtain⟨y,eb,e⟩:=bind_some e;refine two rv ea eb fun v u H1 H2 s1 s2 rx ry _ _=>?_;exact ok σD σ H H2 _ x y d v u Q (s1.trans s2) rx ry e (fun _=>rfl) k
end rules
section rules
variable{X:Cx}{cl:RL.Cl}{a b c:Expr}{a' b' c':RL.E}{pos:Pos}
def cH{α:Type}{c:Prop} [Decidable c]{a d:α}(h:(if c then some a else none)=some d):c/\d=a:=by
 by_cases hc:c
 ·rw[if_pos hc]at h;exact⟨hc,(Option.some.inj h).symm⟩
 ·rw[if_neg hc]at h;cases h
def noN{α:Type}{o:Option α}{d:α}{p:Prop}(e:o=none)(h:o=some d):p:=by rw[e]at h;cases h
def Ah{x y d:RL.D}(h:RL.aG .add x y=some d):(∃ i j,x=.int i/\y=.int j/\d=.int (i+j))\/(∃ i j:Str,x=.str i/\y=.str j/\i.length+j.length<=RL.most/\d=.str (i++j)) \/
  (∃ i j,x=.lst i/\y=.lst j/\i.length+j.length<=RL.most/\d=.lst (i++j)) \/
  (∃ i j,x=.tup i/\y=.tup j/\(i.length+j.length<=RL.most/\0<i.length)/\d=.tup (i++j)):=by
 cases x with
 | int i=>cases y with
  | int j=>cases h;exact .inl ⟨i,j,rfl,rfl,rfl⟩
  | _=>exact noN rfl h
 | str i=>cases y with
  |str j=>
   obtain⟨hc,e⟩:=cH h;exact .inr (.inl ⟨i,j,rfl,rfl,hc,e⟩)
  | _=>exact noN rfl h
 | lst i=>cases y with
  |lst j=>
   obtain⟨hc,e⟩:=cH h;exact .inr (.inr (.inl ⟨i,j,rfl,rfl,hc,e⟩))
  | _=>exact noN rfl h
 | tup i=>cases y with
  |tup j=>
   obtain⟨hc,e⟩:=cH h;exact .inr (.inr (.inr ⟨i,j,rfl,rfl,hc,e⟩))
  | _=>exact noN rfl h
 | _=>exact noN rfl h
def zo{x y d:RL.D}(h:RL.aG .mul x y=some d):(∃ i j,x=.int i/\y=.int j/\vS i j/\d=.int (i*j)) \/
  (∃ i j,x=.lst i/\y=.int j/\(0<=j/\j<=RL.most/\i.length*j.toNat<=RL.most)/\d=.lst (List.replicate j.toNat i).flatten):=by
 cases x with
 | int i=>cases y with
  |int j=>
   obtain⟨hc,e⟩:=cH h;exact .inl ⟨i,j,rfl,rfl,hc,e⟩
  | _=>exact noN rfl h
 | lst i=>cases y with
  |int j=>
   obtain⟨hc,e⟩:=cH h;exact .inr ⟨i,j,rfl,rfl,hc,e⟩
  | _=>exact noN rfl h
 | _=>exact noN rfl h
def hG{o:RL.Bop}{x y d:RL.D}(h:RL.aG o x y=some d)(ho:o≠.add)(hm:o≠.mul):∃ i j,x=.int i/\y=.int j/\RL.aG o (.int i) (.int j)=some d:=by
 have no:∀ {a b:RL.D},RL.aG .sub a b=none->RL.aG .fdiv a b=none->RL.aG .mod a b=none->RL.aG .pow a b=none->RL.aG o a b=some d->False:=fun e1 e2 e3 e4 h=>by
  cases o with
  | add=>exact ho rfl
  | mul=>exact hm rfl
  | sub=>rw[e1]at h;cases h
  | fdiv=>rw[e2]at h;cases h
  | mod=>rw[e3]at h;cases h
  | pow=>rw[e4]at h;cases h
 cases x with
 | int i=>cases y with
  | int j=>exact⟨i,j,rfl,rfl,h⟩
  | _=>exact(no rfl rfl rfl rfl h).elim
 | _=>exact(no rfl rfl rfl rfl h).elim
def AF{x y d:RL.D}(h:RL.aG .sub x y=some d):∃ i j,x=.int i/\y=.int j/\d=.int (i-j):=by
 obtain⟨i,j,e1,e2,h⟩:=hG h (by decide) (by decide);cases h;exact⟨i,j,e1,e2,rfl⟩
def x4{x y d:RL.D}(h:RL.aG .fdiv x y=some d):∃ i j,x=.int i/\y=.int j/\(0<j/\j<2 ^ 200)/\d=.int (i / j):=by
 obtain⟨i,j,e1,e2,h⟩:=hG h (by decide) (by decide);obtain⟨hc,e⟩:=cH h;exact⟨i,j,e1,e2,hc,e⟩
def AB{x y d:RL.D}(h:RL.aG .mod x y=some d):∃ i j,x=.int i/\y=.int j/\0<j/\d=.int (i%j):=by
 obtain⟨i,j,e1,e2,h⟩:=hG h (by decide) (by decide);obtain⟨hc,e⟩:=cH h;exact⟨i,j,e1,e2,hc,e⟩
def zY{x y d:RL.D}(h:RL.aG .pow x y=some d):∃ i j,x=.int i/\y=.int j/\(0<=j/\j<=1000/\i.natAbs<2 ^ 64)/\d=.int (i ^ j.toNat):=by
 obtain⟨i,j,e1,e2,h⟩:=hG h (by decide) (by decide);obtain⟨hc,e⟩:=cH h;exact⟨i,j,e1,e2,hc,e⟩
def aC{P:Addr->Prop}{K:PySem.W.Frag}{H:Hp}{ds:List RL.D}{v:V}(h:Rep P K H (.lst ds) v):∃ a xs,v=.ref a/\¬ P a/\H a=some (.lst xs)/\ae P K H ds xs:=by rw[Rep]at h;exact h
def bw{P:Addr->Prop}{K:PySem.W.Frag}{H:Hp}{ds:List RL.D}{v:V}(h:Rep P K H (.tup ds) v):∃ a xs,v=.ref a/\H a=some (.tup xs)/\ae P K H ds xs:=by rw[Rep]at h;exact h
def G4:mS X .sub (rI0 fun i j=>.int (i-j)):=by
 intro σD σ H H2 e x y d v u Q sm rx ry h hav k;obtain⟨i,j,rfl,rfl,rfl⟩:=AF h;exact⟨i,j,aj rx,aj ry,k _ _ (cW sm aX rfl)⟩
def C4:mS X .fdiv (rI (fun _ j=>0<j/\j<2 ^ 200) fun i j=>.int (i / j)):=by
 intro σD σ H H2 e x y d v u Q sm rx ry h hav k;obtain⟨i,j,rfl,rfl,hc,rfl⟩:=x4 h;exact⟨i,j,aj rx,aj ry,hc,k _ _ (cW sm aX rfl)⟩
def FO:mS X .mod (rI (fun _ j=>0<j) fun i j=>.int (i%j)):=by
 intro σD σ H H2 e x y d v u Q sm rx ry h hav k;obtain⟨i,j,rfl,rfl,hc,rfl⟩:=AB h;exact⟨i,j,aj rx,aj ry,hc,k _ _ (cW sm aX rfl)⟩
def Ft:mS X .pow (rI DP fun i j=>.int (i ^ j.toNat)):=by
 intro σD σ H H2 e x y d v u Q sm rx ry h hav k;obtain⟨i,j,rfl,rfl,hc,rfl⟩:=zY h;exact⟨i,j,aj rx,aj ry,⟨hc.1,Int.le_trans hc.2.1 (by decide),hc.2.2⟩,k _ _ (cW sm aX rfl)⟩
def DM(ha:SE X cl a a')(hb:SE X cl b b'):SE X cl (.BinOp a .Add b pos) (.bin .add a' b'):=by
 refine gu (o:=.add) (Fz.or (wg.or (Dv.or B0))) ?_ ha hb;intro σD σ H H2 e x y d v u Q sm rx ry h hav k
 rcases Ah h with⟨i,j,rfl,rfl,rfl⟩ | ⟨i,j,rfl,rfl,hc,rfl⟩ | ⟨i,j,rfl,rfl,hc,rfl⟩ | ⟨i,j,rfl,rfl,⟨hc,ha⟩,rfl⟩
 ·exact .inl ⟨i,j,aj rx,aj ry,k _ _ (cW sm aX rfl)⟩
 ·exact .inr (.inl ⟨i,j,aD rx,aD ry,Nat.le_trans hc bU,k _ _ (cW sm dW rfl)⟩)
 ·obtain⟨p,xs,e1,_,e2,e3⟩:=aC rx;obtain⟨q,ys,f1,_,f2,f3⟩:=aC ry;refine .inr (.inr (.inl ⟨p,q,xs,ys,e1,f1,e2,f2,?_,fun l hl=>k _ _ (dZ sm hl (e3.append f3) hav)⟩));rw[<-e3.length,<-f3.length];exact Nat.le_trans hc bU
 ·obtain⟨p,xs,e1,e2,e3⟩:=bw rx;obtain⟨q,ys,f1,f2,f3⟩:=bw ry;refine .inr (.inr (.inr ⟨p,q,xs,ys,e1,f1,SqT.of e2,SqT.of f2,fun z=>?_,?_,fun z=>?_,fun _ l hl=>k _ _ (iS sm hl (e3.append f3) hav)⟩))
  ·rw[e3.length,z]at ha;exact absurd ha (by decide)
  ·rw[<-e3.length,<-f3.length];exact Nat.le_trans hc bU
  ·have hj:j=[]:=by
    have:=f3.length;rw[z]at this;exact List.length_eq_zero_iff.mp this
   subst hj;rw[List.append_nil]at k;exact k _ _ ⟨sm,e1▸rx,fun _ m=>(by cases m),fun M z=>by rw[hav M]at z;cases z⟩
def Gm(ha:SE X cl a a')(hb:SE X cl b b'):SE X cl (.BinOp a .Mult b pos) (.bin .mul a' b'):=by
 refine gu (o:=.mul) (G9.or Fs) ?_ ha hb;intro σD σ H H2 e x y d v u Q sm rx ry h hav k
 rcases zo h with⟨i,j,rfl,rfl,hc,rfl⟩ | ⟨i,j,rfl,rfl,hc,rfl⟩
 ·exact .inl ⟨i,j,aj rx,aj ry,hc,k _ _ (cW sm aX rfl)⟩
 ·obtain⟨p,xs,e1,_,e2,e3⟩:=aC rx;refine .inr ⟨p,j,xs,e1,aj ry,e2,?_,?_,?_,fun l hl=>k _ _ (dZ sm hl (e3.rep _) hav)⟩
  ·exact Int.le_trans (by decide) hc.1
  ·exact Int.lt_of_le_of_lt hc.2.1 (by decide)
  ·rw[<-e3.length];exact Nat.le_trans hc.2.2 bU
def Fq{o:RL.Bop}(ha:SE X cl a a')(hb:SE X cl b b'):SE X cl (.BinOp a (qX o) b pos) (.bin o a' b'):=by
 cases o with
 | add=>exact DM ha hb
 | mul=>exact Gm ha hb
 | sub=>exact gu (o:=.sub) Fb G4 ha hb
 | fdiv=>exact gu (o:=.fdiv) A5 C4 ha hb
 | mod=>exact gu (o:=.mod) DG FO ha hb
 | pow=>exact gu (o:=.pow) FE Ft ha hb
def dS{σD:RL.St}{σ:L2.St}{H H':Hp}{e:RL.E}{k:Bool}(sm:a5 H H'):Res X.K σD σ H e (.bl k) (.bl k) H':=cW sm rJ rfl
def DU{rest:List Expr}(ha:SE X cl a a')(hb:SE X cl (.BoolOp .And (b::rest) pos) b'):SE X cl (.BoolOp .And (a::b::rest) pos) (.and a' b'):=by
 refine PE.weak (Fx ha hb) fun σ H Q h=>?_;obtain⟨σD,d,rv,e,k⟩:=h;obtain⟨x,ea,e⟩:=bind_some e;refine⟨σD,x,rv,ea,fun v H1 r1=>?_⟩
 cases x with
 |bl t=>
  refine⟨t,aZ r1.rep,?_⟩
  cases t with
  |true=>
   refine fq ?_;refine⟨σD,d,rv.same r1.same,e,fun w H2 r2=>k w H2 ?_⟩;exact⟨r1.same.trans r2.same,r2.rep,fun z=>(by cases z),fun M z=>nomatch (show false=true from z)⟩
  |false=>
   refine fY ?_;cases e;exact k _ _ (dS r1.same)
 | _=>cases e
def Hj{rest:List Expr}(ha:SE X cl a a')(hb:SE X cl (.BoolOp .Or (b::rest) pos) b'):SE X cl (.BoolOp .Or (a::b::rest) pos) (.or a' b'):=by
 refine PE.weak (Ih ha hb) fun σ H Q h=>?_;obtain⟨σD,d,rv,e,k⟩:=h;obtain⟨x,ea,e⟩:=bind_some e;refine⟨σD,x,rv,ea,fun v H1 r1=>?_⟩
 cases x with
 |bl t=>
  refine⟨t,aZ r1.rep,?_⟩
  cases t with
  |false=>
   refine fY ?_;refine⟨σD,d,rv.same r1.same,e,fun w H2 r2=>k w H2 ?_⟩;exact⟨r1.same.trans r2.same,r2.rep,fun z=>(by cases z),fun M z=>nomatch (show false=true from z)⟩
  |true=>
   refine fq ?_;cases e;exact k _ _ (dS r1.same)
 | _=>cases e
def wH{op}(ha:SE X cl a a'):SE X cl (.BoolOp op [a] pos) a':=E4 ha
abbrev tT(K:PySem.W.Frag)(cl:RL.Cl)(e:RL.E):TT:=fun σ H Q=>∃ σD k,RV0 K σD σ H/\(RL.ev cl σD e).bind RL.truth=some k/\∀ H',a5 H H'->Q k H'
abbrev ST(X:Cx)(cl:RL.Cl)(e:Expr)(e':RL.E):Prop:=PT X e (tT X.K cl e')
abbrev SW(X:Cx)(cl:RL.Cl)(e:Expr)(e':RL.E):Prop:=PW X e (tT X.K cl e')
def PT.weak{e:Expr}{t t':TT}(h:PT X e t)(w:∀ σ H Q,t' σ H Q->t σ H Q):PT X e t':=fun pins s σ H Q I q=>h pins s σ H Q I (w σ H Q q)
def PW.weak{e:Expr}{t t':TT}(h:PW X e t)(w:∀ σ H Q,t' σ H Q->t σ H Q):PW X e t':=fun wh pins s σ H Q I q=>h wh pins s σ H Q I (w σ H Q q)
def ae.isEmpty{P:Addr->Prop}{K:PySem.W.Frag}{H:Hp}{ds:List RL.D}{xs:List V}(h:ae P K H ds xs):ds.isEmpty=xs.isEmpty:=by
 cases ds with
 | nil=>rw[ae]at h;rw[h];rfl
 |cons d r=>
  rw[ae]at h;obtain⟨x,t,rfl,_⟩:=h;rfl
def GG{K:PySem.W.Frag}{H:Hp}{d:RL.D}{v:V}{k:Bool}(r:Rep nP K H d v)(h:RL.truth d=some k):v7 K v H k:=by
 cases d<;>simp only[RL.truth]at h<;>first | (cases h;done) | skip
 case bl t=>cases h;rw[aZ r];exact rfl
 case int t =>
  cases h;rw[aj r];simp[v7]
 case tup ds =>
  obtain⟨a,xs,rfl,e,rs⟩:=bw r;cases h;exact .inr (.inl ⟨xs,SqT.of e,by rw[rs.isEmpty]⟩)
 case lst ds =>
  obtain⟨a,xs,rfl,_,e,rs⟩:=aC r;cases h;exact .inl ⟨xs,SqL.of e,by rw[rs.isEmpty]⟩
def zP(ha:SE X cl a a')(he:∀ whole,isTrue a X.env whole=(do let v <- whole;standAt a.pos;holding [v] (truthy v))):ST X cl a a':=by
 refine PT.weak (Ar ha he) fun σ H Q h=>?_;obtain⟨σD,k,rv,e,q⟩:=h;obtain⟨d,e1,e2⟩:=bind_some e;exact⟨σD,d,rv,e1,fun v H1 r1=>⟨k,GG r1.rep e2,q H1 r1.same⟩⟩
def yn{op:BoolOp}(ha:ST X cl a a'):SW X cl (.BoolOp op [a] pos) a':=by
 cases op with
 | And=>exact BR ha
 | Or=>exact EW ha
def xr{σD:RL.St}{k:Bool}(h:(RL.ev cl σD (.and a' b')).bind RL.truth=some k):∃ t,(RL.ev cl σD a').bind RL.truth=some t/\(if t=true then(RL.ev cl σD b').bind RL.truth=some k else k=false):=by
 rw[RL.mm]at h
 cases ea:RL.ev cl σD a' with
 | none=>rw[ea]at h;cases h
 |some x=>
  rw[ea]at h
  cases x with
  |bl t=>
   cases t with
   | true=>exact⟨true,rfl,fq h⟩
   | false=>exact⟨false,rfl,fY (by cases h;rfl)⟩
  | _=>exact noN rfl h
def zB{σD:RL.St}{k:Bool}(h:(RL.ev cl σD (.or a' b')).bind RL.truth=some k):∃ t,(RL.ev cl σD a').bind RL.truth=some t/\(if t=true then k=true else(RL.ev cl σD b').bind RL.truth=some k):=by
 rw[RL.Ep]at h
 cases ea:RL.ev cl σD a' with
 | none=>rw[ea]at h;cases h
 |some x=>
  rw[ea]at h
  cases x with
  |bl t=>
   cases t with
   | true=>exact⟨true,rfl,fq (by cases h;rfl)⟩
   | false=>exact⟨false,rfl,fY h⟩
  | _=>exact noN rfl h
def FT{rest:List Expr}(ha:ST X cl a a')(hb:SW X cl (.BoolOp .And (b::rest) pos) b'):SW X cl (.BoolOp .And (a::b::rest) pos) (.and a' b'):=by
 refine PW.weak (ER ha hb) fun σ H Q h=>?_;obtain⟨σD,k,rv,e,q⟩:=h;obtain⟨t,e1,e2⟩:=xr e;refine⟨σD,t,rv,e1,fun H1 s1=>?_⟩
 cases t with
 | true=>exact fq ⟨σD,k,rv.same s1,e2,fun H2 s2=>q H2 (s1.trans s2)⟩
 |false=>
  have e2:k=false:=e2;subst e2;exact fY (q H1 s1)
def GX{rest:List Expr}(ha:ST X cl a a')(hb:SW X cl (.BoolOp .Or (b::rest) pos) b'):SW X cl (.BoolOp .Or (a::b::rest) pos) (.or a' b'):=by
 refine PW.weak (GK ha hb) fun σ H Q h=>?_;obtain⟨σD,k,rv,e,q⟩:=h;obtain⟨t,e1,e2⟩:=zB e;refine⟨σD,t,rv,e1,fun H1 s1=>?_⟩
 cases t with
 |true=>
  have e2:k=true:=e2;subst e2;exact fq (q H1 s1)
 | false=>exact fY ⟨σD,k,rv.same s1,e2,fun H2 s2=>q H2 (s1.trans s2)⟩
def Er(ha:ST X cl a a'):ST X cl (.UnaryOp .Not a pos) (.not a'):=by
 refine PT.weak (Ga ha) fun σ H Q h=>?_;obtain⟨σD,k,rv,e,q⟩:=h;obtain⟨d,e1,e2⟩:=bind_some e;obtain⟨t,e3,e4⟩:=map_some e1;subst e4;cases e2;exact⟨σD,t,rv,e3,fun H1 s1=>q H1 s1⟩
def Gg(hc:ST X cl c c')(ha:SE X cl a a')(hb:SE X cl b b'):SE X cl (.IfExp c a b pos) (.ifx c' a' b'):=by
 refine PE.weak (yS hc ha hb) fun σ H Q h=>?_;obtain⟨σD,d,rv,e,q⟩:=h;obtain⟨t,e1,e2⟩:=bind_some e;refine⟨σD,t,rv,e1,fun H1 s1=>?_⟩;have fin:∀ (a':RL.E) (v:V) (H2:Hp),(∀ M,RL.avE M (.ifx c' a' b')=true->RL.avE M a'=true)->True:=fun _ _ _ _=>trivial
 cases t with
 |true=>
  refine fq ⟨σD,d,rv.same s1,e2,fun v H2 r2=>q v H2 ⟨s1.trans r2.same,r2.rep,fun z=>(by cases z),fun M z P hP av=>?_⟩⟩;have z:(RL.avE M a'&&RL.avE M b')=true:=z;rw[Bool.and_eq_true]at z;exact r2.av M z.1 P (fun a p=>(Option.ne_none_iff_exists'.mpr (by obtain⟨o,ho⟩:=Option.ne_none_iff_exists'.mp (hP a p);exact⟨o,s1 _ _ ho⟩))) fun j dj vj h1 h2 h3=>(av j dj vj h1 h2 h3).same s1
 |false=>
  refine fY ⟨σD,d,rv.same s1,e2,fun v H2 r2=>q v H2 ⟨s1.trans r2.same,r2.rep,fun z=>(by cases z),fun M z P hP av=>?_⟩⟩;have z:(RL.avE M a'&&RL.avE M b')=true:=z;rw[Bool.and_eq_true]at z;exact r2.av M z.2 P (fun a p=>(Option.ne_none_iff_exists'.mpr (by obtain⟨o,ho⟩:=Option.ne_none_iff_exists'.mp (hP a p);exact⟨o,s1 _ _ ho⟩))) fun j dj vj h1 h2 h3=>(av j dj vj h1 h2 h3).same s1
end rules
section rules
variable{X:Cx}
def D6(ha:SE X cl a a'):SE X cl (.UnaryOp .Not a pos) (.not a'):=by
 intro pins s σ H Q I h;obtain⟨σD,d,rv,e,k⟩:=h;obtain⟨t,e1,e2⟩:=map_some e;obtain⟨x,e3,e4⟩:=bind_some e1;subst e2;refine UnaryOp_ (thn (ha pins s σ H (fun v H1=>a5 H H1/\Rep nP X.K H1 x v) I ⟨σD,x,rv,e3,fun v H1 r1=>⟨r1.same,r1.rep⟩⟩) fun v s1 ⟨y,H1,I1,r1,sm,rp⟩=>?_);refine not_of (thn (yF pins s1 σ H1 y v (fun k H2=>k=t/\H2=H1) I1 r1 ⟨t,GG rp e4,rfl,rfl⟩) fun k2 s2 ⟨H2,I2,q1,q2⟩=>?_);subst q1;subst q2;exact⟨.bl (!k2),H2,I2,rfl,k _ _ (dS sm)⟩
abbrev noStar:Expr->Bool
 | .Starred _ _=>false
 | _=>true
def a9(es:List Expr)(h:noStar e=true):starEach (e::es) X.env=(false,eval e X.env)::starEach es X.env:=by
 cases e<;>first | rfl | (cases h)
def eR:∀ {es:List Expr} {pos:Pos},es.all noStar=true->(backTo pos (starEach es X.env)).any (·.1)=false
 | [],_,_=>rfl
 | e::es,pos,h=>by
  rw[List.all_cons,Bool.and_eq_true]at h;rw[a9 es h.1];show(false || (backTo pos (starEach es X.env)).any (·.1))=false;rw[eR h.2];rfl
def cV:SEs X cl [] .nil:=by
 intro pos pins s σ H Q I h;obtain⟨σD,ds,rv,e,k⟩:=h;cases e;exact dh pos pins s σ H Q I (k [] H (a5.refl H) ae.nil)
def bR(he:SE X cl e e')(hr:SEs X cl es es')(hn:noStar e=true):SEs X cl (e::es) (.cons e' es'):=by
 intro pos pins s σ H Q I h;refine bE he hr (a9 es hn) pos pins s σ H Q I ?_;obtain⟨σD,ds,rv,e,k⟩:=h;obtain⟨d,e1,e2⟩:=bind_some e;obtain⟨r,e3,e4⟩:=map_some e2;subst e4;refine⟨σD,d,rv,e1,fun v H1 r1=>⟨σD,r,rv.same r1.same,e3,fun vs H2 s2 r2=>k (v::vs) H2 (r1.same.trans s2) (ae.cons (r1.rep.same s2) r2)⟩⟩
abbrev eJ:RL.Es->Nat
 | .nil=>0
 | .cons _ r=>eJ r+1
def lQ:∀ {es:RL.Es} {ds:List RL.D},RL.evs cl σD es=some ds->ds.length=eJ es
 | .nil,ds,h=>by rw[RL.evs]at h;cases h;rfl
 | .cons e r,ds,h=>by
  obtain⟨d,e1,e2⟩:=bind_some h;obtain⟨t,e3,e4⟩:=map_some e2;subst e4;rw[List.length_cons,lQ e3,eJ]
def ET(h:SEs X cl es es')(hl:eJ es'<=1000):SE X cl (.Tuple es x1 pos) (.tup es'):=by
 refine PE.weak (E6 h) fun σ H Q q=>?_;obtain⟨σD,d,rv,e,k⟩:=q;obtain⟨ds,e1,e2⟩:=map_some e;subst e2;refine⟨σD,ds,rv,e1,fun vs H1 s1 r1=>⟨?_,fun p hp=>k _ _ (iS s1 hp r1 fun _=>rfl)⟩⟩;rw[<-r1.length,lQ e1];exact Nat.le_of_lt (pT hl)
def GI(h:SEs X cl es es')(hl:eJ es'<=1000):SE X cl (.List es pos) (.lst es'):=by
 refine PE.weak (Eg h) fun σ H Q q=>?_;obtain⟨σD,d,rv,e,k⟩:=q;obtain⟨ds,e1,e2⟩:=map_some e;subst e2;refine⟨σD,ds,rv,e1,fun vs H1 s1 r1=>⟨?_,fun p hp=>k _ _ (dZ s1 hp r1 fun _=>rfl)⟩⟩;rw[<-r1.length,lQ e1];exact Nat.le_of_lt (pT hl)
def oY(h:RL.cb xs i=some x):atI xs i=some x:=by
 unfold RL.cb at h;unfold atI ixN;by_cases h0:0<=i
 ·rw[if_pos h0]at h;rw[if_pos h0];obtain⟨h1,_⟩:=List.getElem?_eq_some_iff.mp h;rw[if_pos (by lia)];exact h
 ·rw[if_neg h0]at h;rw[if_neg h0];by_cases h1:-(xs.length:Int)<=i
  ·rw[if_pos h1]at h;rw[if_pos h1];exact h
  ·rw[if_neg h1]at h;cases h
def ic{P:Addr->Prop}{K:PySem.W.Frag}(r:ae P K H ds xs)(h:RL.cb ds i=some d):∃ x,RL.cb xs i=some x/\Rep P K H d x:=by
 unfold RL.cb at h ⊢;rw[<-r.length];by_cases h0:0<=i
 ·rw[if_pos h0]at h ⊢;exact r.get h
 ·rw[if_neg h0]at h ⊢;by_cases h1:-(ds.length:Int)<=i
  ·rw[if_pos h1]at h ⊢;exact r.get h
  ·rw[if_neg h1]at h;cases h
abbrev lF:Expr->Bool
 | .Slice _ _ _ _=>false
 | _=>true
def BX(h:lF b=true):uW b:=by
 intro o i
 cases b<;>first | rfl | (cases h)
def yo(h:RL.ixV x y=some d):(∃ xs i,x=.lst xs/\y=.int i/\RL.cb xs i=some d)\/(∃ xs i,x=.tup xs/\y=.int i/\RL.cb xs i=some d) \/
  (∃ (z:Str) (i:Int) (c:Nat),x=.str z/\y=.int i/\z.length<=RL.most/\RL.cb z.cps.toList i=some c/\d=.str ⟨#[c]⟩):=by
 have no:∀ {o:Option RL.D},o=none->o=some d->False:=fun e h=>by rw[e]at h;cases h
 cases x with
 | lst xs=>cases y with
  | int i=>exact .inl ⟨xs,i,rfl,rfl,h⟩
  | _=>exact(no rfl h).elim
 | tup xs=>cases y with
  | int i=>exact .inr (.inl ⟨xs,i,rfl,rfl,h⟩)
  | _=>exact(no rfl h).elim
 | str z=>cases y with
  |int i=>
   by_cases hc:z.length<=RL.most
   ·obtain⟨c,e1,e2⟩:=map_some (show(RL.cb z.cps.toList i).map (fun c=>RL.D.str ⟨#[c]⟩)=some d from(if_pos hc).symm.trans h);exact .inr (.inr ⟨z,i,c,rfl,rfl,hc,e1,e2.symm⟩)
   ·exact(no (if_neg hc) h).elim
  | _=>exact(no rfl h).elim
 | _=>exact(no rfl h).elim
def HK(ha:SE X cl a a')(hb:SE X cl b b')(hs:lF b=true):SE X cl (.Subscript a b pos) (.ix a' b'):=by
 refine PE.weak (Hz Du ha hb (BX hs)) fun σ H Q h=>?_;obtain⟨σD,d,rv,e,k⟩:=h;obtain⟨x,ea,e⟩:=bind_some e;obtain⟨y,eb,e⟩:=bind_some e;refine two rv ea eb fun v u H1 H2 s1 s2 rx ry ra rb=>?_
 have fin:∀ (w:V),Rep nP X.K H2 d w->(∀ P:Addr->Prop,Rep P X.K H2 x v->Rep P X.K H2 d w)->Res X.K σD σ H (.ix a' b') d w H2:=fun w h1 h2=>{
  same:=s1.trans s2
  rep:=h1
  fresh:=fun z=>by cases z
  av:=fun M z P hP av=>h2 P ((ra.av M z P hP av).same s2) }
 rcases yo e with⟨xs,i,rfl,rfl,hd⟩ | ⟨xs,i,rfl,rfl,hd⟩ | ⟨z,i,c,rfl,rfl,hz,hd,rfl⟩
 ·obtain⟨p,ys,rfl,_,e2,e3⟩:=aC rx;obtain⟨w,h1,h2⟩:=ic e3 hd;refine .inl ⟨p,ys,i,w,rfl,aj ry,SqL.of e2,oY h1,k _ _ (fin w h2 fun P rp=>?_)⟩;obtain⟨p',ys',q1,_,q2,q3⟩:=aC rp;cases q1;rw[e2]at q2;cases q2;obtain⟨w',h3,h4⟩:=ic q3 hd;rw[h1]at h3;cases h3;exact h4
 ·obtain⟨p,ys,rfl,e2,e3⟩:=bw rx;obtain⟨w,h1,h2⟩:=ic e3 hd;refine .inr (.inl ⟨p,ys,i,w,rfl,aj ry,SqT.of e2,oY h1,k _ _ (fin w h2 fun P rp=>?_)⟩);obtain⟨p',ys',q1,q2,q3⟩:=bw rp;cases q1;rw[e2]at q2;cases q2;obtain⟨w',h3,h4⟩:=ic q3 hd;rw[h1]at h3;cases h3;exact h4
 ·exact .inr (.inr ⟨z,i,c,aD rx,aj ry,Nat.le_trans hz bU,oY hd,k _ _ (fin _ dW fun P _=>dW)⟩)
end rules
section rules
def gx:∀ {as bs:List RL.D} {k:Bool},RL.eqs f as bs=some k ->
  ∃ e:Nat->Bool,k=(List.range (min as.length bs.length)).all e/\∀ j x y,as[j]?=some x->bs[j]?=some y->f x y=some (e j)
 | [],bs,k,h=>by
  have h:some true=some k:=by simpa[RL.eqs]using h
  cases h;exact⟨fun _=>true,by simp,fun j x y h1=>by simp at h1⟩
 | a::r,[],k,h=>by
  have h:some true=some k:=by simpa[RL.eqs]using h
  cases h;exact⟨fun _=>true,by simp,fun j x y h1 h2=>by simp at h2⟩
 | a::r,b::s,k,h=>by
  rw[RL.eqs]at h;obtain⟨e0,h1,h2⟩:=bind_some h;obtain⟨k',h3,h4⟩:=map_some h2;obtain⟨e,h5,h6⟩:=gx h3;refine⟨fun j=>match j with | 0=>e0 | j+1=>e j,?_,fun j x y hx hy=>?_⟩
  ·rw[<-h4,h5,List.length_cons,List.length_cons,Nat.succ_min_succ,List.range_succ_eq_map,List.all_cons,List.all_map];rfl
  ·cases j with
   |zero=>
    simp at hx hy;subst hx hy;exact h1
   | succ j=>exact h6 j x y (by simpa using hx) (by simpa using hy)
def fN(h:RL.eqD n x y=some k):(∃ i j,x=.bl i/\y=.bl j/\(i == j)=k)\/(∃ i j,x=.int i/\y=.int j/\(i == j)=k)\/(∃ i j,x=.str i/\y=.str j/\(i == j)=k) \/
  (∃ m i j,n=m+1/\x=.tup i/\y=.tup j/\Option.map (fun k=>k&&i.length == j.length) (RL.eqs (RL.eqD m) i j)=some k)\/(∃ m i j,n=m+1/\x=.lst i/\y=.lst j/\Option.map (fun k=>k&&i.length == j.length) (RL.eqs (RL.eqD m) i j)=some k):=by
 cases n with
 | zero=>cases x with
  | bl i=>cases y with
   | bl j=>exact .inl ⟨i,j,rfl,rfl,Option.some.inj h⟩
   | _=>exact noN rfl h
  | int i=>cases y with
   | int j=>exact .inr (.inl ⟨i,j,rfl,rfl,Option.some.inj h⟩)
   | _=>exact noN rfl h
  | str i=>cases y with
   | str j=>exact .inr (.inr (.inl ⟨i,j,rfl,rfl,Option.some.inj h⟩))
   | _=>exact noN rfl h
  | _=>exact noN rfl h
 | succ m=>cases x with
  | bl i=>cases y with
   | bl j=>exact .inl ⟨i,j,rfl,rfl,Option.some.inj h⟩
   | _=>exact noN rfl h
  | int i=>cases y with
   | int j=>exact .inr (.inl ⟨i,j,rfl,rfl,Option.some.inj h⟩)
   | _=>exact noN rfl h
  | str i=>cases y with
   | str j=>exact .inr (.inr (.inl ⟨i,j,rfl,rfl,Option.some.inj h⟩))
   | _=>exact noN rfl h
  | tup i=>cases y with
   | tup j=>exact .inr (.inr (.inr (.inl ⟨m,i,j,rfl,rfl,rfl,h⟩)))
   | _=>exact noN rfl h
  | lst i=>cases y with
   | lst j=>exact .inr (.inr (.inr (.inr ⟨m,i,j,rfl,rfl,rfl,h⟩)))
   | _=>exact noN rfl h
  | _=>exact noN rfl h
def pQ{K:PySem.W.Frag}:∀ (n:Nat) (x y:RL.D) (v:V) (k:Bool),Rep nP K H x v->Rep nP K H y v->RL.eqD n x y=some k->k=true:=by
 intro n
 induction n with
 |zero=>
  intro x y v k rx ry h
  rcases fN h with⟨i,j,rfl,rfl,rfl⟩ | ⟨i,j,rfl,rfl,rfl⟩ | ⟨i,j,rfl,rfl,rfl⟩ | ⟨m,i,j,hn,hx,hy,h⟩ | ⟨m,i,j,hn,hx,hy,h⟩
  ·have:=aZ rx;rw[aZ ry]at this;cases this;simp
  ·have:=aj rx;rw[aj ry]at this;cases this;simp
  ·have:=aD rx;rw[aD ry]at this;cases this;simp
  ·cases hn
  ·cases hn
 |succ n ih=>
  intro x y v k rx ry h
  have seq:∀ (i j:List RL.D) (xs:List V) (k:Bool),ae nP K H i xs->ae nP K H j xs->Option.map (fun k=>k&&i.length == j.length) (RL.eqs (RL.eqD n) i j)=some k->k=true:=by
   intro i j xs k e3 f3 h;obtain⟨k',h1,h2⟩:=map_some h;obtain⟨e,h3,h4⟩:=gx h1;have hl:i.length=j.length:=e3.length.trans f3.length.symm
   have hk:k'=true:=by
    rw[h3,List.all_eq_true];intro m hm;rw[List.mem_range]at hm;obtain⟨w,w1,w2⟩:=e3.get (i:=m) (d:=i[m]'(by lia)) (by simp);obtain⟨w',w1',w2'⟩:=f3.get (i:=m) (d:=j[m]'(by lia)) (by simp);rw[w1]at w1';cases w1';exact ih _ _ w (e m) w2 w2' (h4 m _ _ (by simp) (by simp))
   rw[<-h2,hk,hl];simp
  rcases fN h with⟨i,j,rfl,rfl,rfl⟩ | ⟨i,j,rfl,rfl,rfl⟩ | ⟨i,j,rfl,rfl,rfl⟩ | ⟨m,i,j,hn,hx,hy,h⟩ | ⟨m,i,j,hn,hx,hy,h⟩
  ·have:=aZ rx;rw[aZ ry]at this;cases this;simp
  ·have:=aj rx;rw[aj ry]at this;cases this;simp
  ·have:=aD rx;rw[aD ry]at this;cases this;simp
  ·cases hn;subst hx;subst hy;obtain⟨p,xs,rfl,e2,e3⟩:=bw rx;obtain⟨q,ys,q1,f2,f3⟩:=bw ry;cases q1;rw[e2]at f2;cases f2;exact seq i j xs k e3 f3 h
  ·cases hn;subst hx;subst hy;obtain⟨p,xs,rfl,_,e2,e3⟩:=aC rx;obtain⟨q,ys,q1,_,f2,f3⟩:=aC ry;cases q1;rw[e2]at f2;cases f2;exact seq i j xs k e3 f3 h
open SeqAt in
def deep(I:Inv X pins σ H s):∀ (n:Nat) (A:Around) (x y:RL.D) (v u:V) (va ua:Value) (k:Bool),A.units+n<cLine->Rep nP X.K H x v->Rep nP X.K H y u->RelV v va->RelV u ua ->
  RL.eqD n x y=some k->RcAt A s va ua k/\EqAt A s va ua k:=by
 intro n
 induction n with
 |zero=>
  intro A x y v u va ua k hu rx ry qx qy h
  rcases fN h with⟨i,j,rfl,rfl,rfl⟩ | ⟨i,j,rfl,rfl,rfl⟩ | ⟨i,j,rfl,rfl,rfl⟩ | ⟨m,i,j,hn,hx,hy,h⟩ | ⟨m,i,j,hn,hx,hy,h⟩
  ·rw[aZ rx]at qx;rw[aZ ry]at qy;cases qx;cases qy;exact⟨RcAt.bool_bool i j,EqAt.bool_bool i j⟩
  ·rw[aj rx]at qx;rw[aj ry]at qy;obtain⟨t,rfl⟩:=qx;obtain⟨t',rfl⟩:=qy;exact⟨RcAt.int_int i t j t',EqAt.int_int i t j t'⟩
  ·rw[aD rx]at qx;rw[aD ry]at qy;obtain⟨t,rfl⟩:=qx;obtain⟨t',rfl⟩:=qy;exact⟨RcAt.str_str i t j t',EqAt.str_str i t j t'⟩
  ·cases hn
  ·cases hn
 |succ n ih=>
  intro A x y v u va ua k hu rx ry qx qy h
  rcases fN h with⟨i,j,rfl,rfl,rfl⟩ | ⟨i,j,rfl,rfl,rfl⟩ | ⟨i,j,rfl,rfl,rfl⟩ | ⟨m,i,j,hn,hx,hy,h⟩ | ⟨m,i,j,hn,hx,hy,h⟩
  ·rw[aZ rx]at qx;rw[aZ ry]at qy;cases qx;cases qy;exact⟨RcAt.bool_bool i j,EqAt.bool_bool i j⟩
  ·rw[aj rx]at qx;rw[aj ry]at qy;obtain⟨t,rfl⟩:=qx;obtain⟨t',rfl⟩:=qy;exact⟨RcAt.int_int i t j t',EqAt.int_int i t j t'⟩
  ·rw[aD rx]at qx;rw[aD ry]at qy;obtain⟨t,rfl⟩:=qx;obtain⟨t',rfl⟩:=qy;exact⟨RcAt.str_str i t j t',EqAt.str_str i t j t'⟩
  ·cases hn;subst hx;subst hy;obtain⟨p,xs,rfl,e2,e3⟩:=bw rx;obtain⟨q,ys,rfl,f2,f3⟩:=bw ry;cases qx;cases qy;obtain⟨its,r1,t1,z1⟩:=I.tuple (SqT.of e2);obtain⟨jts,r2,t2,z2⟩:=I.tuple (SqT.of f2);obtain⟨k',h1,h2⟩:=map_some h;obtain⟨e,h3,h4⟩:=gx h1;have l1:i.length=its.length:=e3.length.trans r1.length;have l2:j.length=jts.length:=f3.length.trans r2.length
   have he:∀ m (g1:m<its.toArray.size) (g2:m<jts.toArray.size),EqAt A.in1 s its.toArray[m] jts.toArray[m] (e m):=fun m g1 g2=>by
    rw[List.size_toArray]at g1 g2;obtain⟨w,w1,w2⟩:=e3.get (i:=m) (d:=i[m]'(by lia)) (by simp);obtain⟨w',w1',w2'⟩:=f3.get (i:=m) (d:=j[m]'(by lia)) (by simp);obtain⟨uu,b1,b2⟩:=r1.get w1;obtain⟨uu',b1',b2'⟩:=r2.get w1'
    have c1:its.toArray[m]=uu:=by simpa using(List.getElem?_eq_some_iff.mp b1).2
    have c2:jts.toArray[m]=uu':=by simpa using(List.getElem?_eq_some_iff.mp b1').2
    rw[c1,c2];exact(ih A.in1 _ _ w w' uu uu' (e m) (by show A.units+1+n<cLine;lia) w2 w2' b2 b2' (h4 m _ _ (by simp) (by simp))).2
   have main:RcAt A s (.ref p) (.ref q) k:=by
    have z:=RcAt.tuples (e:=e) t1 t2 (by lia) he;rw[List.size_toArray,List.size_toArray,<-l1,<-l2,<-h3,h2]at z;exact z
   refine⟨main,?_⟩;by_cases z:p=q
   ·subst z;rw[pQ (n+1) _ _ _ k rx ry h];exact EqAt.same _
   ·exact EqAt.of_refs z main
  ·cases hn;subst hx;subst hy;obtain⟨p,xs,rfl,_,e2,e3⟩:=aC rx;obtain⟨q,ys,rfl,_,f2,f3⟩:=aC ry;cases qx;cases qy;obtain⟨its,r1,t1,z1⟩:=I.list (SqL.of e2);obtain⟨jts,r2,t2,z2⟩:=I.list (SqL.of f2);obtain⟨k',h1,h2⟩:=map_some h;obtain⟨e,h3,h4⟩:=gx h1;have l1:i.length=its.length:=e3.length.trans r1.length;have l2:j.length=jts.length:=f3.length.trans r2.length
   have he:∀ m (g1:m<its.toArray.size) (g2:m<jts.toArray.size),EqAt A.in1 s its.toArray[m] jts.toArray[m] (e m):=fun m g1 g2=>by
    rw[List.size_toArray]at g1 g2;obtain⟨w,w1,w2⟩:=e3.get (i:=m) (d:=i[m]'(by lia)) (by simp);obtain⟨w',w1',w2'⟩:=f3.get (i:=m) (d:=j[m]'(by lia)) (by simp);obtain⟨uu,b1,b2⟩:=r1.get w1;obtain⟨uu',b1',b2'⟩:=r2.get w1'
    have c1:its.toArray[m]=uu:=by simpa using(List.getElem?_eq_some_iff.mp b1).2
    have c2:jts.toArray[m]=uu':=by simpa using(List.getElem?_eq_some_iff.mp b1').2
    rw[c1,c2];exact(ih A.in1 _ _ w w' uu uu' (e m) (by show A.units+1+n<cLine;lia) w2 w2' b2 b2' (h4 m _ _ (by simp) (by simp))).2
   have main:RcAt A s (.ref p) (.ref q) k:=by
    by_cases hl:its.length=jts.length
    ·have z:=RcAt.lists (e:=e) t1.isList t2.isList (by rw[List.size_toArray,List.size_toArray];exact hl) (by lia) he;rw[List.size_toArray]at z
     have hk:k=(List.range its.length).all e:=by
      rw[<-h2,h3,l1,l2,hl];simp
     rw[hk];exact z
    ·have hk:k=false:=by
      rw[<-h2,l1,l2];simp[hl]
     rw[hk];exact RcAt.lists_lengths t1.isList t2.isList (by rw[List.size_toArray,List.size_toArray];simpa using hl) (by lia)
   refine⟨main,?_⟩;by_cases z:p=q
   ·subst z;rw[pQ (n+1) _ _ _ k rx ry h];exact EqAt.same _
   ·exact EqAt.of_refs z main
end rules
section rules
variable{X:Cx}
open SeqAt in
def GH(I:Inv X pins σ H s)(n:Nat)(A:Around)(x y:RL.D)(v u:V)(va ua:Value)(k:Bool)(hu:A.units+n<cLine)(rx:Rep nP X.K H x v)(ry:Rep nP X.K H y u)(qx:RelV v va)(qy:RelV u ua)
 (h:RL.eqD n x y=some k):RcNeAt A s va ua (!k):=by
 rcases fN h with⟨i,j,rfl,rfl,rfl⟩ | ⟨i,j,rfl,rfl,rfl⟩ | ⟨i,j,rfl,rfl,rfl⟩ | ⟨nn,i,j,hn,hx,hy,h⟩ | ⟨nn,i,j,hn,hx,hy,h⟩
 ·rw[aZ rx]at qx;rw[aZ ry]at qy;cases qx;cases qy;exact RcNeAt.bool_bool i j
 ·rw[aj rx]at qx;rw[aj ry]at qy;obtain⟨t,rfl⟩:=qx;obtain⟨t',rfl⟩:=qy;exact RcNeAt.int_int i t j t'
 ·rw[aD rx]at qx;rw[aD ry]at qy;obtain⟨t,rfl⟩:=qx;obtain⟨t',rfl⟩:=qy;exact RcNeAt.str_str i t j t'
 ·subst hn;subst hx;subst hy;obtain⟨p,xs,rfl,e2,e3⟩:=bw rx;obtain⟨q,ys,rfl,f2,f3⟩:=bw ry;cases qx;cases qy;obtain⟨its,r1,t1,z1⟩:=I.tuple (SqT.of e2);obtain⟨jts,r2,t2,z2⟩:=I.tuple (SqT.of f2);obtain⟨k',h1,h2⟩:=map_some h;obtain⟨e,h3,h4⟩:=gx h1;have l1:i.length=its.length:=e3.length.trans r1.length;have l2:j.length=jts.length:=f3.length.trans r2.length
  have he:∀ m (g1:m<its.toArray.size) (g2:m<jts.toArray.size),EqAt A.in1 s its.toArray[m] jts.toArray[m] (e m):=fun m g1 g2=>by
   rw[List.size_toArray]at g1 g2;obtain⟨w,w1,w2⟩:=e3.get (i:=m) (d:=i[m]'(by lia)) (by simp);obtain⟨w',w1',w2'⟩:=f3.get (i:=m) (d:=j[m]'(by lia)) (by simp);obtain⟨uu,b1,b2⟩:=r1.get w1;obtain⟨uu',b1',b2'⟩:=r2.get w1'
   have c1:its.toArray[m]=uu:=by simpa using(List.getElem?_eq_some_iff.mp b1).2
   have c2:jts.toArray[m]=uu':=by simpa using(List.getElem?_eq_some_iff.mp b1').2
   rw[c1,c2];exact(deep I nn A.in1 _ _ w w' uu uu' (e m) (by show A.units+1+nn<cLine;lia) w2 w2' b2 b2' (h4 m _ _ (by simp) (by simp))).2
  have z:=RcNeAt.tuples (e:=e) t1 t2 (by lia) he;rw[List.size_toArray,List.size_toArray,<-l1,<-l2,<-h3,h2]at z;exact z
 ·subst hn;subst hx;subst hy;obtain⟨p,xs,rfl,_,e2,e3⟩:=aC rx;obtain⟨q,ys,rfl,_,f2,f3⟩:=aC ry;cases qx;cases qy;obtain⟨its,r1,t1,z1⟩:=I.list (SqL.of e2);obtain⟨jts,r2,t2,z2⟩:=I.list (SqL.of f2);obtain⟨k',h1,h2⟩:=map_some h;obtain⟨e,h3,h4⟩:=gx h1;have l1:i.length=its.length:=e3.length.trans r1.length;have l2:j.length=jts.length:=f3.length.trans r2.length
  have he:∀ m (g1:m<its.toArray.size) (g2:m<jts.toArray.size),EqAt A.in1 s its.toArray[m] jts.toArray[m] (e m):=fun m g1 g2=>by
   rw[List.size_toArray]at g1 g2;obtain⟨w,w1,w2⟩:=e3.get (i:=m) (d:=i[m]'(by lia)) (by simp);obtain⟨w',w1',w2'⟩:=f3.get (i:=m) (d:=j[m]'(by lia)) (by simp);obtain⟨uu,b1,b2⟩:=r1.get w1;obtain⟨uu',b1',b2'⟩:=r2.get w1'
   have c1:its.toArray[m]=uu:=by simpa using(List.getElem?_eq_some_iff.mp b1).2
   have c2:jts.toArray[m]=uu':=by simpa using(List.getElem?_eq_some_iff.mp b1').2
   rw[c1,c2];exact(deep I nn A.in1 _ _ w w' uu uu' (e m) (by show A.units+1+nn<cLine;lia) w2 w2' b2 b2' (h4 m _ _ (by simp) (by simp))).2
  by_cases hl:its.length=jts.length
  ·have z:=RcNeAt.lists (e:=e) t1.isList t2.isList (by rw[List.size_toArray,List.size_toArray];exact hl) (by lia) he;rw[List.size_toArray]at z
   have hk:k=(List.range its.length).all e:=by
    rw[<-h2,h3,l1,l2,hl];simp
   rw[hk];exact z
  ·have hk:k=false:=by
    rw[<-h2,l1,l2];simp[hl]
   rw[hk];exact RcNeAt.lists_lengths t1.isList t2.isList (by rw[List.size_toArray,List.size_toArray];simpa using hl) (by lia)
abbrev cY:RL.Cop->CmpOp
 | .lt=>.Lt
 | .le=>.LtE
 | .gt=>.Gt
 | .ge=>.GtE
 | .eq=>.Eq
 | .ne=>.NotEq
abbrev vO(K:PySem.W.Frag)(c:RL.Cop):R2:=fun v u H Q=>∃ x y k,Rep nP K H x v/\Rep nP K H y u/\RL.bB c x y=some k/\Q (.bl k) H
def jg{c:RL.Cop}(hc:c≠.eq)(hc2:c≠.ne)(h:RL.bB c x y=some k):∃ i j,x=.int i/\y=.int j:=by
 have no:∀ {a b:RL.D},RL.bB .lt a b=none->RL.bB .le a b=none->RL.bB .gt a b=none->RL.bB .ge a b=none->RL.bB c a b=some k->False:=fun e1 e2 e3 e4 h=>by
  cases c with
  | eq=>exact hc rfl
  | ne=>exact hc2 rfl
  | lt=>rw[e1]at h;cases h
  | le=>rw[e2]at h;cases h
  | gt=>rw[e3]at h;cases h
  | ge=>rw[e4]at h;cases h
 cases x with
 | int i=>cases y with
  | int j=>exact⟨_,_,rfl,rfl⟩
  | _=>exact(no rfl rfl rfl rfl h).elim
 | _=>exact(no rfl rfl rfl rfl h).elim
def iB{c:RL.Cop}(hu:X.A.units+100<cLine):OpR X (compareOp (cY c)) (vO X.K c):=by
 intro pins s σ H x y v u Q I rx ry h;obtain⟨dx,dy,k,ex,ey,e,q⟩:=h
 have fin:EP X pins σ Q (.bool k) s:=⟨.bl k,H,I,rfl,q⟩
 cases c with
 |eq=>
  have e:RL.eqD 8 dx dy=some k:=e;exact(deep I 8 X.A dx dy x y v u k (by lia) ex ey rx ry e).1 X.prog X.w X.xe _ fin
 |ne=>
  obtain⟨k',e1,e2⟩:=map_some (show(RL.eqD 8 dx dy).map not=some k from e);subst e2;exact GH I 8 X.A dx dy x y v u k' (by lia) ex ey rx ry e1 X.prog X.w X.xe _ fin
 |lt=>
  obtain⟨i,j,rfl,rfl⟩:=jg (by decide) (by decide) e;cases e;rw[aj ex]at rx;rw[aj ey]at ry;obtain⟨t,rfl⟩:=rx;obtain⟨t',rfl⟩:=ry;exact lt_int fin
 |le=>
  obtain⟨i,j,rfl,rfl⟩:=jg (by decide) (by decide) e;cases e;rw[aj ex]at rx;rw[aj ey]at ry;obtain⟨t,rfl⟩:=rx;obtain⟨t',rfl⟩:=ry;exact le_int fin
 |gt=>
  obtain⟨i,j,rfl,rfl⟩:=jg (by decide) (by decide) e;cases e;rw[aj ex]at rx;rw[aj ey]at ry;obtain⟨t,rfl⟩:=rx;obtain⟨t',rfl⟩:=ry;exact gt_int fin
 |ge=>
  obtain⟨i,j,rfl,rfl⟩:=jg (by decide) (by decide) e;cases e;rw[aj ex]at rx;rw[aj ey]at ry;obtain⟨t,rfl⟩:=rx;obtain⟨t',rfl⟩:=ry;exact ge_int fin
def jq{c:RL.Cop}(b:Expr):behindInMarks (cY c) b=false:=by cases c<;>exact ya b (by decide) (by decide)
def w6{c:RL.Cop}(h:∃ σD d,RV0 X.K σD σ H/\RL.ev cl σD (.cmp c a' b')=some d/\∀ H',a5 H H'->∃ k,d=.bl k/\Q (.bl k) H'):tOp (vO X.K c) (tE X.K cl a') (tE X.K cl b') σ H Q:=by
 obtain⟨σD,d,rv,e,k⟩:=h;obtain⟨x,ea,e⟩:=bind_some e;obtain⟨y,eb,e⟩:=bind_some e;obtain⟨t,e1,e2⟩:=map_some e;refine two rv ea eb fun v u H1 H2 s1 s2 rx ry _ _=>?_;obtain⟨k',h1,h2⟩:=k H2 (s1.trans s2);rw[h1]at e2;cases e2;exact⟨x,y,t,rx,ry,e1,h2⟩
def pC{c:RL.Cop}(e:RL.ev cl σD (.cmp c a' b')=some d):∃ k,d=.bl k:=by
 obtain⟨x,ea,e⟩:=bind_some e;obtain⟨y,eb,e⟩:=bind_some e;obtain⟨t,e1,e2⟩:=map_some e;exact⟨t,e2.symm⟩
def Gu{c:RL.Cop}(hu:X.A.units+100<cLine)(ha:SE X cl a a')(hb:SE X cl b b'):SE X cl (.Compare a [cY c] [b] pos) (.cmp c a' b'):=by
 refine PE.weak (uP (iB hu) ha hb (jq b)) fun σ H Q h=>?_;obtain⟨σD,d,rv,e,k⟩:=h;obtain⟨t,rfl⟩:=pC e;exact w6 ⟨σD,_,rv,e,fun H' sm=>⟨t,rfl,k _ _ (dS sm)⟩⟩
def FR{c:RL.Cop}(hu:X.A.units+100<cLine)(ha:SE X cl a a')(hb:SE X cl b b'):ST X cl (.Compare a [cY c] [b] pos) (.cmp c a' b'):=by
 refine PT.weak (oC (iB hu) ha hb (jq b)) fun σ H Q h=>?_;obtain⟨σD,k,rv,e,q⟩:=h;obtain⟨d,e1,e2⟩:=bind_some e;obtain⟨t,rfl⟩:=pC e1;cases e2;exact w6 ⟨σD,_,rv,e1,fun H' sm=>⟨k,rfl,k,rfl,q H' sm⟩⟩
def Bp{c c':RL.Cop}(b e:Expr):lastMarks [cY c,cY c'] [b,e]=false:=by
 show behindInMarks (cY c') e=false;exact jq e
def l5{c c':RL.Cop}(h:RL.ev cl σD (.chain c c' a' b' e')=some d):∃ k,d=.bl k:=by
 obtain⟨x,ea,h⟩:=bind_some h;obtain⟨y,eb,h⟩:=bind_some h;obtain⟨t,e1,h⟩:=bind_some h
 cases t with
 |true=>
  obtain⟨z,ec,h⟩:=bind_some (show(RL.ev cl σD e').bind _=some d from h);obtain⟨t,e1,e2⟩:=map_some h;exact⟨t,e2.symm⟩
 | false=>exact⟨false,(Option.some.inj (show some (RL.D.bl false)=some d from h)).symm⟩
def rC{c c':RL.Cop}(h:∃ σD k,RV0 X.K σD σ H/\RL.ev cl σD (.chain c c' a' b' e')=some (.bl k)/\∀ H',a5 H H'->Q (.bl k) H') :
  sI (vO X.K c) (vO X.K c') (tE X.K cl a') (tE X.K cl b') (tE X.K cl e') σ H Q:=by
 obtain⟨σD,k,rv,h,q⟩:=h;obtain⟨x,ea,h⟩:=bind_some h;obtain⟨y,eb,h⟩:=bind_some h;obtain⟨t,e1,h⟩:=bind_some h;refine two rv ea eb fun v u H1 H2 s1 s2 rx ry _ _=>?_;refine⟨x,y,t,rx,ry,e1,t,rfl,?_⟩;have sm:=s1.trans s2
 cases t with
 |true=>
  rw[if_pos rfl]at h;obtain⟨z,ec,h⟩:=bind_some h;obtain⟨t,e3,e2⟩:=map_some h;cases e2;exact fq ⟨σD,z,rv.same sm,ec,fun w H3 r3=>⟨y,z,k,ry.same r3.same,r3.rep,e3,q H3 (sm.trans r3.same)⟩⟩
 |false=>
  rw[if_neg (by decide)]at h;cases h;exact fY (q H2 sm)
def AA{c c':RL.Cop}(hu:X.A.units+100<cLine)(ha:SE X cl a a')(hb:SE X cl b b')(he:SE X cl e e'):SE X cl (.Compare a [cY c,cY c'] [b,e] pos) (.chain c c' a' b' e'):=by
 refine PE.weak (zD (iB hu) (iB hu) ha hb he (Bp b e)) fun σ H Q h=>?_;obtain⟨σD,d,rv,h,k⟩:=h;obtain⟨t,rfl⟩:=l5 h;exact rC ⟨σD,t,rv,h,fun H' sm=>k _ _ (dS sm)⟩
def AD{c c':RL.Cop}(hu:X.A.units+100<cLine)(ha:SE X cl a a')(hb:SE X cl b b')(he:SE X cl e e'):ST X cl (.Compare a [cY c,cY c'] [b,e] pos) (.chain c c' a' b' e'):=by
 refine PT.weak (zi (iB hu) (iB hu) ha hb he (Bp b e)) fun σ H Q h=>?_;obtain⟨σD,k,rv,h,q⟩:=h;obtain⟨d,e1,e2⟩:=bind_some h;obtain⟨t,rfl⟩:=l5 e1;cases e2;exact rC ⟨σD,k,rv,e1,fun H' sm=>⟨k,rfl,q H' sm⟩⟩
end rules
section rules
variable{X:Cx}
def eY{P:Addr->Prop}{K:PySem.W.Frag}(h:RL.items d=some ds)(r:Rep P K H d v):∃ p xs,v=.ref p/\((H p=some (.lst xs)/\d=.lst ds)\/(H p=some (.tup xs)/\d=.tup ds))/\ae P K H ds xs:=by
 cases d<;>simp only[RL.items]at h<;>first | (cases h;done) | skip
 case lst ys=>cases h;obtain⟨p,xs,e1,_,e2,e3⟩:=aC r;exact⟨p,xs,e1,.inl ⟨e2,rfl⟩,e3⟩
 case tup ys=>cases h;obtain⟨p,xs,e1,e2,e3⟩:=bw r;exact⟨p,xs,e1,.inr ⟨e2,rfl⟩,e3⟩
def uU{P:Addr->Prop}{K:PySem.W.Frag}(h:RL.flat d=true)(r:Rep P K H d v):fz v=true/\∀ d' v',RL.flat d'=true->Rep P K H d' v'->RL.eqF d d'=eqV v v':=by
 cases d<;>simp only[RL.flat]at h<;>first | (cases h;done) | skip
 case int i =>
  rw[aj r];refine⟨rfl,fun d' v' h' r'=>?_⟩
  cases d'<;>simp only[RL.flat]at h'<;>first | (cases h';done) | skip
  case int j=>rw[aj r'];simp[RL.eqF,eqV]
  case str j=>rw[aD r'];simp[RL.eqF,eqV]
 case str i =>
  rw[aD r];refine⟨rfl,fun d' v' h' r'=>?_⟩
  cases d'<;>simp only[RL.flat]at h'<;>first | (cases h';done) | skip
  case int j=>rw[aj r'];simp[RL.eqF,eqV]
  case str j=>rw[aD r'];simp[RL.eqF,eqV]
def rf{P:Addr->Prop}{K:PySem.W.Frag}(hf:RL.flat d=true)(r:Rep P K H d v):∀ {ds:List RL.D} {xs:List V},ds.all RL.flat=true->ae P K H ds xs->xs.all fz=true/\(ds.any fun x=>RL.eqF x d)=inV v xs
 | [],xs,_,h=>by rw[ae]at h;subst h;exact⟨rfl,rfl⟩
 | e::t,xs,ha,h=>by
  rw[ae]at h;obtain⟨x,ys,rfl,e2,e3⟩:=h;rw[List.all_cons,Bool.and_eq_true]at ha;obtain⟨h1,h2⟩:=rf hf r ha.2 e3;obtain⟨h3,h4⟩:=uU ha.1 e2;refine⟨by rw[List.all_cons,h3,h1];rfl,?_⟩;rw[List.any_cons,h2,h4 d v hf r];rfl
def yG:OpR X (compareOp (if neg then .NotIn else .In)) (rIn X.K neg):=by
 cases neg with
 | true=>exact so
 | false=>exact wB
def xW(rv:RV0 X.K σD σ H)(e:RL.ev cl σD (.inn neg a' b')=some d)(k:∀ t H',d=.bl t->a5 H H'->Q (.bl t) H'):tOp (rIn X.K neg) (tE X.K cl a') (tE X.K cl b') σ H Q:=by
 obtain⟨x,ea,e⟩:=bind_some e;obtain⟨y,eb,e⟩:=bind_some e;obtain⟨t,e1,e2⟩:=map_some e;unfold RL.inV at e1;obtain⟨ds,e3,e4⟩:=bind_some e1;by_cases hc:(RL.flat x&&ds.all RL.flat)=true
 ·rw[if_pos hc]at e4;cases e4;rw[Bool.and_eq_true]at hc;refine two rv ea eb fun v u H1 H2 s1 s2 rx ry _ _=>?_;obtain⟨p,xs,rfl,hp,rs⟩:=eY e3 ry;obtain⟨h1,h2⟩:=rf hc.1 rx hc.2 rs;refine⟨p,xs,rfl,?_,(uU hc.1 rx).1,h1,?_⟩
  ·rcases hp with⟨z,_⟩ | ⟨z,_⟩
   ·exact .inl (SqL.of z)
   ·exact .inr (SqT.of z)
  ·refine k _ _ ?_ (s1.trans s2);rw[<-e2,h2]
 ·rw[if_neg hc]at e4;cases e4
abbrev mh:Expr->Bool
 | .Set _ _ _=>false
 | _=>true
def hX(h:mh b=true):behindInMarks op b=false:=by
 cases b<;>first | rfl | (cases h)
def Gs(ha:SE X cl a a')(hb:SE X cl b b')(hm:mh b=true):SE X cl (.Compare a [if neg then .NotIn else .In] [b] pos) (.inn neg a' b'):=by
 refine PE.weak (uP yG ha hb (hX hm)) fun σ H Q h=>?_;obtain⟨σD,d,rv,e,q⟩:=h
 exact xW rv e fun t H' hd sm=>by subst hd;exact q _ _ (dS sm)
def Gi(ha:SE X cl a a')(hb:SE X cl b b')(hm:mh b=true):ST X cl (.Compare a [if neg then .NotIn else .In] [b] pos) (.inn neg a' b'):=by
 refine PT.weak (oC yG ha hb (hX hm)) fun σ H Q h=>?_;obtain⟨σD,k,rv,e,q⟩:=h;obtain⟨d,e1,e2⟩:=bind_some e;refine xW rv e1 fun t H' hd sm=>?_;subst hd;cases e2;exact⟨_,rfl,q _ sm⟩
abbrev spF(K:PySem.W.Frag)(cl:RL.Cl)(f:Nat):Sp:=fun vs H Q _=>∃ ds d,ae nP K H ds vs/\cl f ds=some d/\∀ v H',a5 H H'->Rep (fun p=>H p≠none) K H' d v->Q v H'
def Ci(F:ip X.prog X.w X.K X.mg X.base CX0 k fa fd ps (spF X.K cl f))(hr:dM k X.A)(hg:Gl X x)
 (hm:X.mg x=some (.ref fa))(hk:PySem.W.keepIn X.K (.ref fa)=true)(hb:Binds X.K fd ps [])(he:SEs X cl (e::es) (.cons e' es'))(hdb:(x == ("__debug__" : Str))=false)(hn:noStar e=true)(hns:es.all noStar=true) :
  SE X cl (.Call (.Name x p) (e::es) [] pos) (.call f (.cons e' es')):=by
 refine PE.weak (oG F hr hg hm hk hb .nil vt he hdb (a9 es hn) (eR hns)) fun σ H Q h=>?_;obtain⟨σD,d,rv,ev,q⟩:=h;obtain⟨ds,e1,e2⟩:=bind_some ev;refine⟨σD,ds,rv,e1,fun vs H1 s1 r1=>?_⟩;show spF X.K cl f (vs++[]) H1 Q E0;rw[List.append_nil];refine⟨ds,d,r1,e2,fun v H2 s2 r2=>q v H2 ⟨s1.trans s2,r2.none,fun _ m a z=>?_,fun M _ P hP _=>?_⟩⟩
 ·subst z
  have hh:H1 a=none:=by
   cases d with
   | lst ds=>obtain⟨p,xs,e1,e2,_⟩:=aC r2;cases e1;exact Classical.byContradiction e2
   | dK ks ds=>rw[Rep]at r2;obtain⟨p,xs,e1,e2,_⟩:=r2;cases e1;exact Classical.byContradiction e2
   | dT ks ds=>rw[Rep]at r2;obtain⟨p,xs,e1,e2,_⟩:=r2;cases e1;exact Classical.byContradiction e2
   | _=>cases m
  exact s1.free hh
 ·refine r2.weak fun a z=>?_;obtain⟨o,ho⟩:=Option.ne_none_iff_exists'.mp (hP a z);rw[s1 _ _ ho]
  exact fun q=>nomatch q
end rules
abbrev Off(P:Addr->Prop)(H H':Hp):Prop:=∀ b o,¬ P b->H b=some o->H' b=some o
def Off.same{H H':Hp}(h:a5 H H'){P:Addr->Prop}:Off P H H':=fun b o _ e=>h b o e
mutual
theorem Rep.off{P:Addr->Prop}{K:PySem.W.Frag}{H H':Hp}(hm:∀ b o,P b->H b=some o->cu o)(k:Off P H H'):∀ {d:RL.D} {v:V},Rep P K H d v->Rep P K H' d v
 | .non,v,h=>by simpa[Rep]using h
 | .bl _,v,h=>by simpa[Rep]using h
 | .int _,v,h=>by simpa[Rep]using h
 | .str _,v,h=>by simpa[Rep]using h
 | .tup ds,v,h=>by
  rw[Rep]at h ⊢;obtain⟨b,xs,e1,e2,e3⟩:=h
  have n:¬ P b:=fun p=>by rcases hm b _ p e2 with⟨z,q⟩ | ⟨z,q⟩ | ⟨z,q⟩<;>cases q
  exact⟨b,xs,e1,k _ _ n e2,ae.off hm k e3⟩
 | .lst ds,v,h=>by
  rw[Rep]at h ⊢;obtain⟨b,xs,e1,e0,e2,e3⟩:=h;exact⟨b,xs,e1,e0,k _ _ e0 e2,ae.off hm k e3⟩
 | .dK ks ds,v,h=>by
  rw[Rep]at h ⊢;obtain⟨b,xs,e1,e0,e2,el,e3⟩:=h;exact⟨b,xs,e1,e0,k _ _ e0 e2,el,ae.off hm k e3⟩
 | .dT ks ds,v,h=>by
  rw[Rep]at h ⊢;obtain⟨b,xs,e1,e0,e2,el,e3⟩:=h;exact⟨b,xs,e1,e0,k _ _ e0 e2,el,ae.off hm k e3⟩
 | .scr ds,v,h=>by
  rw[Rep]at h ⊢;obtain⟨b,xs,e1,e2,e3⟩:=h;refine⟨b,xs,e1,?_,ae.off hm k e3⟩;rcases e2 with⟨q,e2⟩ | e2
  ·have n:¬ P b:=fun p=>by rcases hm b _ p e2 with⟨z,q⟩ | ⟨z,q⟩ | ⟨z,q⟩<;>cases q
   exact .inl ⟨q,k _ _ n e2⟩
  ·exact .inr e2
 | .exc c,v,h=>by
  rw[Rep]at h ⊢;exact h.keep fun b ob u q=>k _ _ (fun p=>by rcases hm b _ p q with⟨z,y⟩ | ⟨z,y⟩ | ⟨z,y⟩<;>cases y) q
 | .fT ks,v,h=>by
  rw[Rep]at h ⊢;obtain⟨b,ob,kvs,e1,e2,e3⟩:=h;exact⟨b,ob,kvs,e1,k _ _ (fun p=>by rcases hm b _ p e2 with⟨z,y⟩ | ⟨z,y⟩ | ⟨z,y⟩<;>cases y) e2,e3⟩
theorem ae.off{P:Addr->Prop}{K:PySem.W.Frag}{H H':Hp}(hm:∀ b o,P b->H b=some o->cu o)(k:Off P H H'):∀ {ds:List RL.D} {xs:List V},ae P K H ds xs->ae P K H' ds xs
 | [],xs,h=>by rw[ae]at h ⊢;exact h
 | d::r,xs,h=>by
  rw[ae]at h ⊢;obtain⟨x,t,e1,e2,e3⟩:=h;exact⟨x,t,e1,Rep.off hm k e2,ae.off hm k e3⟩
end
structure gB(K:PySem.W.Frag)(J:L2.It)(ds:List RL.D)(P:Addr->Prop)(H:Hp):Prop where
 go:∀ H' i,Off P H H'->i<ds.length->J.go i H'
 stop:∀ H',Off P H H'->J.stop ds.length H'
 yld:∀ H' i d x H2,Off P H H'->ds[i]?=some d->J.yld i H' x H2->a5 H' H2/\(d.imm=true\/a5 H H'->Rep nP K H2 d x)
abbrev Bv(K:PySem.W.Frag)(σD:RL.St)(σ:L2.St)(H:Hp)(it:RL.It)(J:L2.It)(ds:List RL.D)(H1:Hp):Prop :=
 gB K J ds nP H1/\∀ (M:List Nat) (P:Addr->Prop),RL.wd M it=true->(∀ b,P b->∃ o,H b=some o/\cu o)->(∀ (j:Nat) (dj:RL.D) (vj:V),M.contains j=false->σD[j]?=some (some dj)->σ[j]?=some (some vj)->Rep P K H dj vj)->gB K J ds P H1
abbrev tI(K:PySem.W.Frag)(cl:RL.Cl)(it:RL.It):TI:=fun σ H R=>∃ σD ds,RV0 K σD σ H/\RL.bf cl σD it=some ds/\∀ J H1,a5 H H1->Bv K σD σ H it J ds H1->R J H1
abbrev SI(X:Cx)(cl:RL.Cl)(tg iter:Expr)(it:RL.It):Prop:=PI X tg iter (tI X.K cl it)
def PI.weak{X:Cx}{tg iter:Expr}{t t':TI}(h:PI X tg iter t)(w:∀ σ H R,t' σ H R->t σ H R):PI X tg iter t':=fun pins s σ H R I q=>h pins s σ H R I (w σ H R q)
def gL{K:PySem.W.Frag}{P:Addr->Prop}{H H':Hp}{d:RL.D}{v:V}(hm:∀ b o,P b->H b=some o->cu o)(k:Off P H H')(r:Rep nP K H d v)(i:d.imm=true):Rep nP K H' d v :=
 ((r.imm i).off hm k).imm i
def um{K:PySem.W.Frag}{H:Hp}{a:Addr}{ds:List RL.D}{xs:List V}{P:Addr->Prop}(h:H a=some (.lst xs))(r:ae nP K H ds xs)(hp:¬ P a)(hm:∀ b o,P b->H b=some o->cu o):gB K (Itl K a) ds P H where
 go:=fun H' i k hi=>by
  obtain⟨x,e,_⟩:=r.get (i:=i) (d:=ds[i]) (by simp[hi]);exact⟨xs,x,SqL.of (k _ _ hp h),e⟩
 stop:=fun H' k=>⟨xs,SqL.of (k _ _ hp h),by rw[r.length];exact Nat.le_refl _⟩
 yld:=fun H' i d x H2 k e y=>by
  obtain⟨z,y⟩:=y;subst z;have hx:=y xs (SqL.of (k _ _ hp h));obtain⟨x',e1,e2⟩:=r.get e;rw[hx]at e1;cases e1;refine⟨a5.refl _,fun q=>?_⟩;rcases q with q | q
  ·exact gL hm k e2 q
  ·exact e2.same q
def yp{K:PySem.W.Frag}{H:Hp}{a:Addr}{ds:List RL.D}{xs:List V}{P:Addr->Prop}(h:H a=some (.tup xs))(r:ae nP K H ds xs)(hm:∀ b o,P b->H b=some o->cu o):gB K (Itt K a) ds P H:=by
 have hp:¬ P a:=fun p=>by rcases hm a _ p h with⟨z,q⟩ | ⟨z,q⟩ | ⟨z,q⟩<;>cases q
 exact {
  go:=fun H' i k hi=>by
   obtain⟨x,e,_⟩:=r.get (i:=i) (d:=ds[i]) (by simp[hi]);exact⟨xs,x,SqT.of (k _ _ hp h),e⟩
  stop:=fun H' k=>⟨xs,SqT.of (k _ _ hp h),by rw[r.length];exact Nat.le_refl _⟩
  yld:=fun H' i d x H2 k e y=>by
   obtain⟨z,y⟩:=y;subst z;have hx:=y xs (SqT.of (k _ _ hp h));obtain⟨x',e1,e2⟩:=r.get e;rw[hx]at e1;cases e1;refine⟨a5.refl _,fun q=>?_⟩;rcases q with q | q
   ·exact gL hm k e2 q
   ·exact e2.same q }
def m9:∀ (n:Nat) (lo:Int) (i:Nat) (d:RL.D),(RL.c9 lo n)[i]?=some d->d=.int (lo+i)
 | 0,lo,i,d,h=>by simp[RL.c9]at h
 | n+1,lo,0,d,h=>by simp[RL.c9]at h;simp[h]
 | n+1,lo,i+1,d,h=>by
  rw[RL.c9,List.getElem?_cons_succ]at h;rw[m9 n (lo+1) i d h];congr 1;lia
def iP:∀ (n:Nat) (lo:Int),(RL.c9 lo n).length=n
 | 0,_=>rfl
 | n+1,lo=>by rw[RL.c9,List.length_cons,iP n]
def nB{K:PySem.W.Frag}{H:Hp}{lo:Int}{n:Nat}{P:Addr->Prop}:gB K (Itr lo n) (RL.c9 lo n) P H where
 go:=fun H' i k hi=>by rw[iP]at hi;exact hi
 stop:=fun H' k=>by rw[iP];exact Nat.le_refl _
 yld:=fun H' i d x H2 k e y=>by
  obtain⟨z,y⟩:=y;subst z;refine⟨a5.refl _,fun _=>?_⟩;rw[m9 n lo i d e,y];exact aX
section rules
variable{X:Cx}{cl:RL.Cl}{tg a b l:Expr}{a' b' e':RL.E}{pos p:Pos}
def HY{t t':TE}{l:Expr}(hl:PE X l t):PI X tg l (fun σ H R=>t σ H fun x H1=>(∃ a,x=.ref a/\(∃ xs,SqL X.K H1 a xs)/\R (Itl X.K a) H1)\/(∃ a,x=.ref a/\(∃ xs,SqT X.K H1 a xs)/\R (Itt X.K a) H1)):=by
 intro pins s σ H R I h;refine thn (hl pins s σ H _ I h) fun v s1 ⟨x,H1,I1,r1,q1⟩=>?_
 rcases q1 with⟨a,e,⟨xs,hq⟩,q⟩ | ⟨a,e,⟨xs,hq⟩,q⟩
 ·subst e;cases r1;obtain⟨its,rv,p,hz⟩:=I1.list hq;refine wpAny_pyIter_list p.isList ⟨s1.heap.objs.size,[s1.heap.objs.size],_,_,H1,rfl,I1.kept (t':=s1.toks) fun b o e=>Heap.get?_push_of_some _ e,xo a _,⟨_,Heap.get?_push_size _ rfl,rfl,rfl⟩,fun b hb=>?_,q⟩;rw[show b=s1.heap.objs.size by simpa using hb];exact I1.kg (Nat.le_refl _) (I1.hok.fresh (Nat.le_refl _))
 ·subst e;cases r1;obtain⟨its,rv,p,hz⟩:=I1.tuple hq;refine wpAny_pyIter_tuple (show s1.heap.IsTuple a its.toArray from p) ⟨s1.heap.objs.size,[s1.heap.objs.size],_,_,H1,rfl,I1.kept (t':=s1.toks) fun b o e=>Heap.get?_push_of_some _ e,wb a _,⟨_,Heap.get?_push_size _ rfl,rfl,rfl⟩,fun b hb=>?_,q⟩;rw[show b=s1.heap.objs.size by simpa using hb];exact I1.kg (Nat.le_refl _) (I1.hok.fresh (Nat.le_refl _))
def nD{σD:RL.St}{σ:L2.St}{H H1:Hp}{d:RL.D}{v:V}{M:List Nat}{P:Addr->Prop}(r1:Res X.K σD σ H e' d v H1)(z:(RL.avE M e' || RL.aE e')=true)(hP:∀ b,P b->∃ o,H b=some o/\cu o)
 (av:∀ (j:Nat) (dj:RL.D) (vj:V),M.contains j=false->σD[j]?=some (some dj)->σ[j]?=some (some vj)->Rep P X.K H dj vj):∀ ds a,d=.lst ds->v=.ref a->¬ P a:=by
 intro ds a hd hv;subst hd hv;rw[Bool.or_eq_true]at z;rcases z with z | z
 ·obtain⟨p,xs,e1,e2,_⟩:=aC (r1.av M z P (fun b q=>by obtain⟨o,ho,_⟩:=hP b q;rw[ho];exact fun z=>nomatch z) av);cases e1;exact e2
 ·intro q;obtain⟨o,ho,_⟩:=hP a q;rw[r1.fresh z rfl a rfl]at ho;cases ho
def dP{P:Addr->Prop}{H H1:Hp}(s:a5 H H1)(hP:∀ b,P b->∃ o,H b=some o/\cu o):∀ b o,P b->H1 b=some o->cu o:=fun b o q e=>by
 obtain⟨o',ho,m⟩:=hP b q;rw[s _ _ ho]at e;cases e;exact m
def gZ{H1:Hp}:∀ b o,nP b->H1 b=some o->cu o:=fun b o q=>q.elim
def D0(hl:SE X cl l e')(hs:True):PI X tg l (fun σ H R=>∃ σD d ds,RV0 X.K σD σ H/\RL.ev cl σD e'=some d/\RL.items d=some ds/\∀ J H1,a5 H H1->Bv X.K σD σ H (.seq e') J ds H1->R J H1):=by
 refine PI.weak (HY (t':=tE X.K cl e') hl) fun σ H R h=>?_;obtain⟨σD,d,ds,rv,e,ei,k⟩:=h;refine⟨σD,d,rv,e,fun v H1 r1=>?_⟩;obtain⟨p,xs,rfl,hp,rs⟩:=eY ei r1.rep
 rcases hp with⟨hp,rfl⟩ | ⟨hp,rfl⟩
 ·refine .inl ⟨p,rfl,⟨xs,SqL.of hp⟩,k _ _ r1.same ⟨um hp rs (fun z=>z) gZ,fun M P z hP av=>um hp rs (nD r1 z hP av _ _ rfl rfl) (dP r1.same hP)⟩⟩
 ·exact .inr ⟨p,rfl,⟨xs,SqT.of hp⟩,k _ _ r1.same ⟨yp hp rs gZ,fun M P z hP av=>yp hp rs (dP r1.same hP)⟩⟩
def m4{x y:RL.D}{ds:List RL.D}(h:RL.cE x y=some ds):∃ i j:Int,x=.int i/\y=.int j/\(-(2 ^ 62)<=i/\i<2 ^ 62/\-(2 ^ 62)<=j/\j<2 ^ 62)/\(j-i).toNat<=RL.most/\ds=RL.c9 i (j-i).toNat:=by
 have no:∀ {o:Option (List RL.D)},o=none->o=some ds->False:=fun e h=>by rw[e]at h;cases h
 cases x with
 | int i=>cases y with
  |int j=>
   obtain⟨hc,e⟩:=cH h
   have lo:-(2 ^ 62:Int)<=-(2 ^ 60):=by decide
   have hi:(2 ^ 60:Int)<2 ^ 62:=by decide
   exact⟨i,j,rfl,rfl,⟨Int.le_trans lo hc.2.1,Int.lt_trans hc.2.2.1 hi,Int.le_trans lo hc.2.2.2.1,Int.lt_trans hc.2.2.2.2 hi⟩,hc.1,e⟩
  | _=>exact(no rfl h).elim
 | _=>exact(no rfl h).elim
def Cg(hg:Gl X "range")(hm:X.mg "range" = none)(ha:SE X cl a a')(hn:noStar a=true):SI X cl tg (.Call (.Name "range" p) [a] [] pos) (.rng1 a'):=by
 refine PI.weak (x6 hg hm (bR (cl:=cl) ha cV hn) (a9 [] hn)) fun σ H R h=>?_;obtain⟨σD,ds,rv,e,k⟩:=h;obtain⟨x,ea,e⟩:=bind_some e;obtain⟨i,j,e1,rfl,hb,_,rfl⟩:=m4 e;cases e1;refine⟨σD,[.int j],rv,by rw[RL.evs,ea];rfl,fun vs H1 s1 r1=>?_⟩;rw[ae]at r1;obtain⟨v,t,rfl,r2,r3⟩:=r1;rw[ae]at r3;subst r3;refine⟨j,by rw[aj r2],hb.2.2.1,hb.2.2.2,?_⟩
 have hz:(j-0).toNat=j.toNat:=by simp
 rw[hz]at k;exact k _ _ s1 ⟨nB,fun _ _ _ _ _=>nB⟩
def C5(hg:Gl X "range")(hm:X.mg "range" = none)(ha:SE X cl a a')(hb:SE X cl b b')(hn:noStar a=true)(hn2:noStar b=true):SI X cl tg (.Call (.Name "range" p) [a,b] [] pos) (.rng2 a' b'):=by
 refine PI.weak (yK hg hm (bR (cl:=cl) ha (bR hb cV hn2) hn) (by rw[a9 _ hn,a9 _ hn2];rfl) (a9 [] hn2)) fun σ H R h=>?_;obtain⟨σD,ds,rv,e,k⟩:=h;obtain⟨x,ea,e⟩:=bind_some e;obtain⟨y,eb,e⟩:=bind_some e;obtain⟨i,j,rfl,rfl,hb,_,rfl⟩:=m4 e;refine⟨σD,[.int i,.int j],rv,by rw[RL.evs,ea,RL.evs,eb];rfl,fun vs H1 s1 r1=>?_⟩;rw[ae]at r1;obtain⟨v,t,rfl,r2,r3⟩:=r1;rw[ae]at r3;obtain⟨u,t,rfl,r4,r5⟩:=r3;rw[ae]at r5;subst r5;exact⟨i,j,by rw[aj r2,aj r4],hb,k _ _ s1 ⟨nB,fun _ _ _ _ _=>nB⟩⟩
end rules
end RS
namespace L2
open PySem PySem.Spec PyProof.Rows
abbrev gG(ifs:List Expr)(env:Env):Sem Bool:=forIn ifs true fun c r=>if r=true then do let ok <- isTrue c env (eval c env);pure (ForInStep.yield ok)else pure (ForInStep.yield r)
section
def Fg(h:wpAny M A m P (fun _ _=>False) s):wpAny M A m P E s :=
 wpAny_mono h (fun _ _ q=>q) fun _ _ z=>z.elim
def cT(h:wpAny M A m (fun a s1=>wpAny M A (k a) P E s1) (fun _ _=>False) s):wpAny M A (m >>= k) P E s:=wpAny_bind (Fg h)
end
section
abbrev pG(prog:Program)(w:World)(A:Around)(elt tg:Expr)(ifs:List Expr)(it acc:Value)(env:Env)(stop next:Shared->Prop)(s:Shared):Prop :=
 wpAny (model prog w) A (pyNext it) (fun r s1=>match r with
  | none=>stop s1
  | some v=>wpAny (model prog w) A (letOwnedTupleGo tg it v) (fun _ s2=>wpAny (model prog w) A (assign tg env v) (fun _ s3=>wpAny (model prog w) A (gG ifs env) (fun ok s4 =>
     if ok=true then wpAny (model prog w) A (eval elt env) (fun x s5=>wpAny (model prog w) A (call (.builtin "list.append") [acc,x]) (fun _ s6=>next s6) (fun _ _=>False) s5) (fun _ _=>False) s4
     else next s4) (fun _ _=>False) s3) (fun _ _=>False) s2) (fun _ _=>False) s1) (fun _ _=>False) s
def zI(h:pG prog w A elt tg ifs it acc env stop next s) :
  wpAny (model prog w) A (compTurn (.ListComp elt [⟨tg,iter,ifs,0⟩] scope pos) 0 it acc env) (fun fin s'=>match fin with
   | .done f=>f=.next/\stop s'
   | .again c=>c=.compLoop (.ListComp elt [⟨tg,iter,ifs,0⟩] scope pos) 0 it acc env/\next s') E s:=by
 rw[compTurn_list];apply wpAny_bind;apply wpAny_standAt;apply cT;refine thn h fun r s1 h1=>?_
 cases r with
 |none=>
  apply wpAny_pure;exact⟨rfl,h1⟩
 |some v=>
  apply cT;refine thn h1 fun _ s2 h2=>?_;apply cT;refine thn h2 fun _ s3 h3=>?_;apply cT;refine thn h3 fun ok s4 h4=>?_;cases ok
  ·apply wpAny_pure;exact⟨rfl,h4⟩
  ·apply wpAny_bind;apply cT;refine thn h4 fun x s5 h5=>?_;apply cT;refine thn h5 fun _ s6 h6=>?_;apply wpAny_pure;apply wpAny_pure;exact⟨rfl,h6⟩
def wX(I:Nat->Shared->Prop)(turn:∀ n s,I n s->pG prog w A elt tg ifs it acc env (R (.ok .next)) (fun s'=>∃ m,m<n/\I m s') s)
 (n:Nat)(h:I n s):codeAny (model prog w) A (.compLoop (.ListComp elt [⟨tg,iter,ifs,0⟩] scope pos) 0 it acc env) R s :=
 codeAny_loop (M:=model prog w) rfl I (fun n s hI=>wpAny_noted (thn (zI (turn n s hI)) fun fin s' q=>by
  cases fin with
  |done f=>
   obtain⟨rfl,q⟩:=q;exact q
  | again c=>exact q)) n h
end
def kY:∀ (names:List (Str × NameKind)) (n:Nat) (acc:List (Str × Addr)) (x:Str) (c:Addr),(cellsFrom n names acc).lookup x=some c->(acc.lookup x=some c/\(x,NameKind.cell)∉names)\/(n<=c/\(x,NameKind.cell)∈names)
 | [],n,acc,x,c,h=>.inl ⟨h,by simp⟩
 | (nm,k)::r,n,acc,x,c,h=>by
  unfold cellsFrom at h;by_cases hk:(k == NameKind.cell)=true
  ·rw[if_pos hk]at h
   have ek:k=.cell:=by simpa using hk
   subst ek
   rcases kY r (n+1) ((nm,n)::acc) x c h with⟨a,b⟩ | ⟨a,b⟩
   ·rw[List.lookup_cons]at a
    cases hx:x == nm with
    |true=>
     rw[hx]at a;cases a
     have:x=nm:=by simpa using hx
     subst this;exact .inr ⟨Nat.le_refl _,List.mem_cons_self ..⟩
    |false=>
     rw[hx]at a;refine .inl ⟨a,fun z=>?_⟩;rcases List.mem_cons.mp z with z | z
     ·cases z;simp at hx
     ·exact b z
   ·exact .inr ⟨Nat.le_of_succ_le a,List.mem_cons_of_mem _ b⟩
  ·rw[if_neg hk]at h
   rcases kY r n acc x c h with⟨a,b⟩ | ⟨a,b⟩
   ·refine .inl ⟨a,fun z=>?_⟩;rcases List.mem_cons.mp z with z | z
    ·cases z;exact hk (by simp)
    ·exact b z
   ·exact .inr ⟨a,List.mem_cons_of_mem _ b⟩
def og:∀ (names:List (Str × NameKind)) (n:Nat) (acc:List (Str × Addr)) (x:Str),(x,NameKind.cell)∉names->(cellsFrom n names acc).lookup x=acc.lookup x
 | [],n,acc,x,_=>rfl
 | (nm,k)::r,n,acc,x,h=>by
  have hr:(x,NameKind.cell)∉r:=fun z=>h (List.mem_cons_of_mem _ z);unfold cellsFrom;by_cases hk:(k == NameKind.cell)=true
  ·rw[if_pos hk,og r (n+1) _ x hr,List.lookup_cons]
   have ek:k=.cell:=by simpa using hk
   subst ek
   have:(x == nm)=false:=by
    rw[beq_eq_false_iff_ne];intro z;subst z;exact h (List.mem_cons_self ..)
   rw[this]
  ·rw[if_neg hk];exact og r n acc x hr
def sj:∀ (names:List (Str × NameKind)) (n:Nat) (acc:List (Str × Addr)),(∀ x c,acc.lookup x=some c->c<n)->(∀ x y c,acc.lookup x=some c->acc.lookup y=some c->x=y)->∀ x y c,(cellsFrom n names acc).lookup x=some c->(cellsFrom n names acc).lookup y=some c->x=y
 | [],n,acc,_,hi,x,y,c,h1,h2=>hi x y c h1 h2
 | (nm,k)::r,n,acc,hl,hi,x,y,c,h1,h2=>by
  unfold cellsFrom at h1 h2;by_cases hk:(k == NameKind.cell)=true
  ·rw[if_pos hk]at h1 h2;refine sj r (n+1) ((nm,n)::acc) (fun x c e=>?_) (fun x y c e1 e2=>?_) x y c h1 h2
   ·rw[List.lookup_cons]at e
    cases hx:x == nm with
    | true=>rw[hx]at e;cases e;exact Nat.lt_succ_self _
    | false=>rw[hx]at e;exact Nat.lt_succ_of_lt (hl x c e)
   ·rw[List.lookup_cons]at e1 e2
    cases hx:x == nm with
    |true=>
     rw[hx]at e1;cases e1
     cases hy:y == nm with
     |true=>
      have a:x=nm:=by simpa using hx
      have b:y=nm:=by simpa using hy
      rw[a,b]
     |false=>
      rw[hy]at e2;exact absurd (hl y n e2) (Nat.lt_irrefl _)
    |false=>
     rw[hx]at e1
     cases hy:y == nm with
     |true=>
      rw[hy]at e2;cases e2;exact absurd (hl x n e1) (Nat.lt_irrefl _)
     |false=>
      rw[hy]at e2;exact hi x y c e1 e2
  ·rw[if_neg hk]at h1 h2;exact sj r n acc hl hi x y c h1 h2
def oh:∀ (names:List (Str × NameKind)) (h:Heap) (acc:List (Str × Addr)) (x:Str) (c:Addr),(cellsFrom h.objs.size names acc).lookup x=some c->acc.lookup x=some c\/(pushCells h names).IsCell c none
 | [],h,acc,x,c,e=>.inl e
 | (nm,k)::r,h,acc,x,c,e=>by
  unfold cellsFrom at e;unfold pushCells;by_cases hk:(k == NameKind.cell)=true
  ·rw[if_pos hk]at e ⊢
   have e':(cellsFrom (h.push { cls:=.type "cell",data:=.cell none }).objs.size r ((nm,h.objs.size)::acc)).lookup x=some c:=by rw[Heap.size_push];exact e
   rcases oh r (h.push { cls:=.type "cell",data:=.cell none }) ((nm,h.objs.size)::acc) x c e' with a | a
   ·rw[List.lookup_cons]at a
    cases hx:x == nm with
    |true=>
     rw[hx]at a;cases a;exact .inr ⟨_,pushCells_keeps r _ _ _ (Heap.get?_push_size _ rfl),rfl⟩
    |false=>
     rw[hx]at a;exact .inl a
   ·exact .inr a
  ·rw[if_neg hk]at e ⊢;exact oh r h acc x c e
def Cq{M:Model}{A:Around}{E:Value->Shared->Prop}{s:Shared}{scope:Scope}{globals:Addr}{closure:List (Str × Addr)}{qual:Str}{func:Option Addr}{code:Value}{outer:Env}{builtins:Addr}{Q:Env->Shared->Prop}
 (hQ:Q (newEnv scope s.heap.objs.size globals (cellsFrom (s.heap.objs.size+1) scope.names closure) qual func code (some outer) builtins) { s with heap:=pushCells (s.heap.push { cls:=.type "dict",data:=.dict #[] }) scope.names }) :
  wpAny M A (newFunctionEnv scope globals closure [] qual func code (some outer) builtins) Q E s:=by
 simp only[newFunctionEnv,Option.isSome_some,if_true];refine wpAny_bind (wpAny_alloc ?_);refine wpAny_bind (wpAny_layCells _ (fun name kind cells=>by cases hkc:kind == NameKind.cell<;>simp[hkc]) _ _ _ _ ?_);rw[show({ s with heap:=s.heap.push { cls:=.type "dict",data:=.dict #[] } }:Shared).heap.objs.size=s.heap.objs.size+1 from Heap.size_push ..];refine wpAny_bind ?_;rw[List.forIn_nil];exact wpAny_pure (wpAny_pure hQ)
abbrev blk(X:Cx)(scope:Scope)(cls:List (Str × Addr))(C:Addr)(fp:List Addr)(s:Shared)(H:Hp):Cx where
 prog:=X.prog
 w:=X.w
 K:=X.K
 mg:=X.mg
 base:=X.base
 A:=X.A
 N:=X.N
 s₀:=s
 H₀:=H
 env:=compEnvC scope cls C X.env
 outer:=X.stack
 stack:=X.stack
 ex:=fp
 fn:=fun x=>scope.names.lookup x == some .cell
 calm:=X.calm
 pn:=[]
 xe:=fun _ _=>False
structure fQ(scope:Scope)(sc:Scope)(cls:List (Str × Addr))(cells:List (Str × Addr)):Prop where
 kind:scope.kind=.function
 own:∀ x∈scope.names,x.2=.cell->scope.names.lookup x.1=some .cell
 loc:∀ x∈scope.names,x.2=.local->scope.names.lookup x.1=some .local
 sub:∀ x c,cls.lookup x=some c->cells.lookup x=some c
 has:∀ x,scope.names.lookup x=some .free->∃ c,cls.lookup x=some c
 vis:∀ x,scope.names.lookup x=some .free->sc.names.lookup x=some .cell\/sc.names.lookup x=some .free
def bP{env:Env}:∀ {names:List (Str × NameKind)} {x:Str} {k:NameKind},
  (names.map fun(n,k)=>if(k == NameKind.free&&env.scope.kind == .function&&env.kindOf n == some .cell)then(n,NameKind.cell)else(n,k)).lookup x=some k ->
  names.lookup x=some k\/(k=.cell/\names.lookup x=some .free/\env.kindOf x=some .cell)
 | [],x,k,h=>by simp at h
 | (n,k')::r,x,k,h=>by
  have ih:=@bP env r x k;rw[List.map_cons]at h
  cases hx:x == n with
  |true=>
   have en:x=n:=by simpa using hx
   subst en;by_cases hc:(k' == NameKind.free&&env.scope.kind == .function&&env.kindOf x == some .cell)=true
   ·simp only[hc,if_true]at h;rw[List.lookup_cons,hx]at h;cases h;simp only[Bool.and_eq_true,beq_iff_eq]at hc;refine .inr ⟨rfl,?_,hc.2⟩;rw[List.lookup_cons,hx,hc.1.1]
   ·simp only[Bool.not_eq_true]at hc;simp only[hc,Bool.false_eq_true,if_false]at h;rw[List.lookup_cons,hx]at h;cases h;exact .inl (by rw[List.lookup_cons,hx])
  |false=>
   have h':(r.map fun(n,k)=>if(k == NameKind.free&&env.scope.kind == .function&&env.kindOf n == some .cell)then(n,NameKind.cell)else(n,k)).lookup x=some k:=by
    by_cases hc:(k' == NameKind.free&&env.scope.kind == .function&&env.kindOf n == some .cell)=true
    ·simp only[hc,if_true]at h;rw[List.lookup_cons,hx]at h;exact h
    ·simp only[Bool.not_eq_true]at hc;simp only[hc,Bool.false_eq_true,if_false]at h;rw[List.lookup_cons,hx]at h;exact h
   rcases ih h' with q | ⟨q1,q2,q3⟩
   ·exact .inl (by rw[List.lookup_cons,hx];exact q)
   ·exact .inr ⟨q1,by rw[List.lookup_cons,hx];exact q2,q3⟩
abbrev Bb(X:Cx)(scope:Scope)(σ σB:St):Prop:=σB.length=σ.length/\∀ (i:Nat) (x:Str) (v:V),X.N[i]?=some x->σB[i]?=some (some v)->σ[i]?=some (some v)/\scope.names.lookup x≠some .local/\scope.names.lookup x≠some .cell
section
def Inv.hxb(I:Inv X pins σ H s):HX (blk X scope cls C fp s H):=by
 rcases I.ok.hd.2 with z | ⟨h,o,u,vs,h1,h2,h3⟩
 ·exact .inl z
 ·exact .inr ⟨h,o,u,vs,h1,I.base.gW _ _ _ h2,h3⟩
def C3(I:Inv X pins σ H s)(S:fQ scope X.env.scope cls X.env.cells)(hf:∀ b∈fp,jw X pins H b/\b<s.heap.objs.size)(ho:Bb X scope σ σB)
 (hns:h'.Ns s.heap.objs.size (fun _=>none))(hk:∀ b o,s.heap.get? b=some o->h'.get? b=some o)(hcl:∀ x c,(cellsFrom (s.heap.objs.size+1) scope.names cls).lookup x=some c->cls.lookup x=some c\/h'.IsCell c none) :
  Inv (blk X scope (cellsFrom (s.heap.objs.size+1) scope.names cls) s.heap.objs.size fp s H) [] σB H { s with heap:=h',toks:=t }:=by
 have hC:H s.heap.objs.size=none:=I.hok.fresh (Nat.le_refl _)
 have clt:∀ x c,cls.lookup x=some c->c<s.heap.objs.size:=fun x c e=>by
  obtain⟨v,q⟩:=I.cell x c (S.sub x c e);exact q.lt
 have cas:∀ x c,(cellsFrom (s.heap.objs.size+1) scope.names cls).lookup x=some c->(X.env.cells.lookup x=some c/\c<s.heap.objs.size)\/(s.heap.objs.size+1<=c/\scope.names.lookup x=some .cell):=fun x c e=>by
  rcases kY _ _ _ _ _ e with⟨a,_⟩ | ⟨a,b⟩
  ·exact .inl ⟨S.sub x c a,clt x c a⟩
  ·exact .inr ⟨a,S.own _ b rfl⟩
 have fre:∀ x c,cls.lookup x=some c->scope.names.lookup x=some .free->(cellsFrom (s.heap.objs.size+1) scope.names cls).lookup x=some c:=fun x c e f=>by
  rw[og _ _ _ _ fun z=>by rw[S.own _ z rfl]at f;cases f];exact e
 refine⟨⟨I.ok.mod,?_,I.ok.glob,I.ok.blt,Nat.le_refl _,fun x y c h1 h2=>sj _ _ _ (fun x c e=>Nat.lt_succ_of_lt (clt x c e)) (fun x y c e1 e2=>I.ok.inj x y c (S.sub x c e1) (S.sub y c e2)) x y c h1 h2,fun x hx=>?_,fun x c z e=>?_,⟨I.ok.hd.1,I.hxb⟩,I.ok.frames,.inl rfl,fun b hb=>?_,fun b o e=>I.bs b o e,Nat.le_trans I.ok.bsz I.sz,fun b o e hb=>?_,fun b hb=>?_,I.stack,I.uA⟩,
  rfl,I.bare,Un.kept hk,⟨_,hns,fun i x v h1 h2 h3=>?_⟩,fun x c e=>?_,hC,fun x c e=>?_,fun p hp=>absurd hp (by simp[blk]),I.hok.kept hk,ho.1.trans I.len⟩
 ·exact S.kind
 ·have hx:(relabel scope X.env).names.lookup x=some .cell\/(relabel scope X.env).names.lookup x=some .free:=hx
  have key:scope.names.lookup x=some .cell\/scope.names.lookup x=some .free:=by
   rcases hx with hx | hx
   ·rcases bP hx with q | ⟨_,q,_⟩
    ·exact .inl q
    ·exact .inr q
   ·rcases bP hx with q | ⟨q,_⟩
    ·exact .inr q
    ·cases q
  rcases key with q | q
  ·have:=PySem.W.cellsFrom_some scope.names (s.heap.objs.size+1) cls (.inl q);exact Option.isSome_iff_exists.mp this
  ·obtain⟨c,hc⟩:=S.has x q;exact⟨c,fre x c hc q⟩
 ·have z:(scope.names.lookup x == some .cell)=true:=z
  rcases kY _ _ _ _ _ (show(cellsFrom (s.heap.objs.size+1) scope.names cls).lookup x=some c from e)with⟨_,b⟩ | ⟨b,_⟩
  ·exact absurd (PySem.mem_of_lookup (by simpa using z)) b
  ·exact Nat.le_of_succ_le b
 ·obtain⟨⟨f0,f1,f2,f3,f4,f5⟩,f6⟩:=hf b hb;refine⟨Nat.ne_of_lt f6,fun x c e=>?_⟩
  rcases cas x c e with⟨a,_⟩ | ⟨a,_⟩
  ·exact f4 x c a
  ·exact Nat.ne_of_gt (Nat.lt_trans f6 a)
 ·obtain⟨⟨f0,f1,f2,f3,f4,f5⟩,f6⟩:=hf b hb;rcases f3 with z | z
  ·exact I.ok.sE b o e z
  ·exact absurd (Nat.lt_of_lt_of_le (Heap.lt_size e) I.ok.bsz) (Nat.not_lt.mpr z)
 ·obtain⟨⟨f0,f1,f2,f3,f4,f5⟩,f6⟩:=hf b hb;intro z;rcases List.mem_cons.mp (I.sP b z)with e | e
  ·exact f1 e
  ·exact f2 e
 ·obtain⟨h4,h5,h6⟩:=ho.2 i x v h1 h2;have h3:(relabel scope X.env).names.lookup x=some .local\/(relabel scope X.env).names.lookup x=some .cell\/(relabel scope X.env).names.lookup x=some .free:=h3
  have key:scope.names.lookup x=some .free:=by
   rcases h3 with z | z | z
   ·rcases bP z with q | ⟨q,_⟩
    ·exact absurd q h5
    ·cases q
   ·rcases bP z with q | ⟨_,q,_⟩
    ·exact absurd q h6
    ·exact q
   ·rcases bP z with q | ⟨q,_⟩
    ·exact q
    ·cases q
  obtain⟨c,hc⟩:=S.has x key;have hcx:=S.sub x c hc;obtain⟨m,hn,hl⟩:=I.loc;have hv:Vis X.env.scope x:=.inr (S.vis x key);obtain⟨u,ru,lk⟩:=hl i x v h1 h4 hv;refine⟨u,ru,.inr ⟨?_,c,fre x c hc key,?_⟩⟩
  ·rcases h3 with z | z
   ·rcases bP z with q | ⟨q,_⟩
    ·exact absurd q h5
    ·cases q
   ·exact z
  ·rcases lk with⟨z,_⟩ | ⟨_,c',e',q⟩
   ·have z:X.env.scope.names.lookup x=some .local:=z;rcases S.vis x key with z' | z'<;>(rw[z]at z';cases z')
   ·rw[hcx]at e';cases e';obtain⟨o,g1,g2⟩:=q;exact⟨o,hk _ _ g1,g2⟩
 ·rcases hcl x c e with a | a
  ·obtain⟨v,q⟩:=I.cell x c (S.sub x c a);obtain⟨o,h1,h2⟩:=q;exact⟨v,o,hk _ _ h1,h2⟩
  ·exact⟨none,a⟩
 ·rcases cas x c e with⟨a,_⟩ | ⟨a,_⟩
  ·exact I.eE x c a
  ·exact I.hok.fresh (Nat.le_of_succ_le a)
abbrev iF(wi:TI)(clr:St->St)(g:TG)(tc:TT)(te:TE):TE:=fun σ H Q=>wi σ H fun J H1=>∀ l,H1 l=none->∃ W:Nat->Nat->List V->Hp->Prop,(∃ m,W 0 m [] (upd H1 l (.lst []))) /\
 ∀ i m ys H2,W i m ys H2->H2 l=some (.lst ys)/\((J.stop i H2/\Q (.ref l) H2)\/(J.go i H2/\∀ x H3,J.yld i H2 x H3->g x (clr σ) H3 fun σ4 H4=>tc σ4 H4 fun k H5 =>
  if k=true then te σ4 H5 fun y H6=>H6 l=some (.lst ys)/\ys.length<sizeLine/\∃ m',m'<m/\W (i+1) m' (ys++[y]) (upd H6 l (.lst (ys++[y])))else ∃ m',m'<m/\W (i+1) m' ys H5))
structure qv(X:Cx)(scope:Scope)(tg:Expr)(ifs:List Expr)(elt:Expr)(clr:St->St)(g:TG)(tc:TT)(te:TE):Prop where
 htg:∀ cls C fp s H,PG (blk X scope cls C fp s H) tg g
 htc:∀ cls C fp s H pins s' σ H' Q,Inv (blk X scope cls C fp s H) pins σ H' s'->tc σ H' Q->wpAny (model X.prog X.w) X.A (gG ifs (compEnvC scope cls C X.env)) (TP (blk X scope cls C fp s H) pins σ Q) (fun _ _=>False) s'
 hte:∀ cls C fp s H,PE (blk X scope cls C fp s H) elt te
 Fo:∀ σ:St,σ.length=X.N.length->Bb X scope σ (clr σ)
 Be:∀ (x:V) (σ:St) (H:Hp) (Q:St->Hp->Prop),g x (clr σ) H Q->g x (clr σ) H fun σ2 H2=>Q σ2 H2/\(clr σ).length=σ2.length/\∀ (i:Nat) v,(clr σ)[i]?=some (some v)->σ2[i]?=some (some v)
def pM{elt tg iter:Expr}{ifs:List Expr}{pos:Pos}{wi:TI}{clr:St->St}{g:TG}{tc:TT}{te:TE}{Q:VK}{RR:Value->Addr->Result->Shared->Prop}{CM:Cx->Prop}(hc:∀ {pins:List (Addr × Obj)} {σ:St} {H:Hp} {s:Shared} (cls:List (Str × Addr)) (C:Addr) (fp:List Addr),Inv X pins σ H s->CM (blk X scope cls C fp s H))(S:fQ scope X.env.scope cls X.env.cells)
 (hi:PI' CM X tg iter wi)(B:qv X scope tg ifs elt clr g tc te)(I:Inv X pins σ H s)(h:iF wi clr g tc te σ H Q)
 (hRR:∀ l C H' s',Inv X pins σ H' s'->(∃ m,s'.heap.Ns C m)->H' C=none->C≠X.env.locals->X.s₀.heap.objs.size<=C->(∀ x c,X.env.cells.lookup x=some c->c≠C)->(∀ p∈X.pn++pins,p.1≠C)->Q (.ref l) H'->RR (.ref l) C (.ok .next) s') :
  wpAny (model X.prog X.w) X.A (eval iter X.env) (fun x s1=>wpAny (model X.prog X.w) X.A (pyIter x) (fun it s2=>wpAny (model X.prog X.w) X.A (newList []) (fun acc s3 =>
   wpAny (model X.prog X.w) X.A (newFunctionEnv scope X.env.globals cls [] X.env.qual none .none (some X.env)) (fun cenv s4 =>
    codeAny (model X.prog X.w) X.A (.compStart (.ListComp elt [⟨tg,iter,ifs,0⟩] scope pos) 0 it acc { cenv with scope:=relabel scope X.env }) (RR acc cenv.locals) s4) X.xe s3) X.xe s2) X.xe s1) X.xe s:=by
 refine thn (hi pins s σ H _ I h) fun x s1 h1=>thn h1 fun itv s2 h2=>?_;obtain⟨it,fp,tn,J,H2,e,I2,T,st2,f2,h3⟩:=h2;subst e
 have flt:∀ b∈fp,b<s2.heap.objs.size:=fun b hb=>by
  obtain⟨o,e,_⟩:=T.obj _ _ st2 b hb;exact Heap.lt_size e
 refine wpAny_newObj_type ?_
 have I3:Inv X pins σ (upd H2 s2.heap.objs.size (.lst [])) { s2 with heap:=s2.heap.push { cls:=.type "list",dict:=none,data:=.seq ([]:List Value).toArray } } :=
  I2.laid (t':=s2.toks) (fun b u e=>Heap.get?_push_of_some _ e) (Nat.le_refl _) ⟨Nat.zero_le _,[],0,.nil,Heap.get?_push_size _ rfl⟩
 have hl2:H2 s2.heap.objs.size=none:=I2.hok.fresh (Nat.le_refl _);obtain⟨W,⟨m0,w0⟩,turn⟩:=h3 s2.heap.objs.size hl2
 have f3:∀ b∈fp,jw X pins (upd H2 s2.heap.objs.size (.lst [])) b/\b<(s2.heap.push { cls:=.type "list",dict:=none,data:=.seq ([]:List Value).toArray }).objs.size:=fun b hb=>by
  obtain⟨z0,z⟩:=f2 b hb;refine⟨⟨?_,z⟩,?_⟩
  ·rw[aL (Nat.ne_of_lt (flt b hb))];exact z0
  ·rw[Heap.size_push];exact Nat.lt_succ_of_lt (flt b hb)
 generalize hs3:({ s2 with heap:=s2.heap.push { cls:=.type "list",dict:=none,data:=.seq ([]:List Value).toArray } }:Shared)=s3 at I3
 have hs3h:s3.heap=s2.heap.push { cls:=.type "list",dict:=none,data:=.seq ([]:List Value).toArray }:=by rw[<-hs3]
 rw[<-hs3h]at f3
 have st3:tn 0 s3.heap:=T.keep _ _ _ st2 fun b hb o e=>by rw[hs3h];exact Heap.get?_push_of_some _ e
 refine Cq ?_;have k4:∀ b o,s3.heap.get? b=some o->(pushCells (s3.heap.push { cls:=.type "dict",data:=.dict #[] }) scope.names).get? b=some o:=fun b o e=>pushCells_keeps _ _ b o (Heap.get?_push_of_some _ e);have hns4:(pushCells (s3.heap.push { cls:=.type "dict",data:=.dict #[] }) scope.names).Ns s3.heap.objs.size (fun _=>none):=(Heap.Ns.new s3.heap (.type "dict")).keeps (pushCells_keeps _ _);have hcl4:∀ x c,(cellsFrom (s3.heap.objs.size+1) scope.names cls).lookup x=some c->cls.lookup x=some c\/(pushCells (s3.heap.push { cls:=.type "dict",data:=.dict #[] }) scope.names).IsCell c none:=fun x c e=>oh scope.names (s3.heap.push { cls:=.type "dict",data:=.dict #[] }) cls x c (by rw[Heap.size_push];exact e);generalize pushCells (s3.heap.push { cls:=.type "dict",data:=.dict #[] }) scope.names=h4 at k4 hns4 hcl4
 have I4:Inv (blk X scope (cellsFrom (s3.heap.objs.size+1) scope.names cls) s3.heap.objs.size fp s3 (upd H2 s2.heap.objs.size (.lst []))) [] (clr σ) (upd H2 s2.heap.objs.size (.lst [])) { s3 with heap:=h4 } :=
  C3 (t:=s3.toks) I3 S f3 (B.Fo σ I.len) hns4 k4 hcl4
 generalize hs4:({ s3 with heap:=h4 }:Shared)=s4 at I4
 have hs4h:s4.heap=h4:=by rw[<-hs4]
 generalize hH3:upd H2 s2.heap.objs.size (.lst [])=H3 at I3 I4 w0
 have st4:tn 0 s4.heap:=T.keep _ _ _ st3 fun b hb o e=>by rw[hs4h];exact k4 b o e
 have fn4:∀ b∈fp,H3 b=none:=fun b hb=>by rw[<-hH3];exact(f3 b hb).1.1
 have stat:∀ {H':Hp} {σ':St} {s':Shared},Inv (blk X scope (cellsFrom (s3.heap.objs.size+1) scope.names cls) s3.heap.objs.size fp s3 H3) [] σ' H' s'->(∀ b∈fp,H' b=none)->∀ b∈fp,jw (blk X scope (cellsFrom (s3.heap.objs.size+1) scope.names cls) s3.heap.objs.size fp s3 H3) [] H' b :=
  fun {H' σ' s'} J hn b hb=>⟨hn b hb,(J.ok.exf b hb).1,J.ok.rZ b hb,.inl hb,(J.ok.exf b hb).2,fun p hp=>absurd hp (by simp[blk])⟩
 have fin:∀ {H':Hp} {s':Shared},Inv (blk X scope (cellsFrom (s3.heap.objs.size+1) scope.names cls) s3.heap.objs.size fp s3 H3) [] (clr σ) H' s'->Q (.ref s2.heap.objs.size) H'->RR (.ref s2.heap.objs.size) s3.heap.objs.size (.ok .next) s':=fun {H' s'} J q=>by
  obtain⟨m,hn,_⟩:=J.loc
  have J1:Inv X pins σ H' s':=I3.Bk (s':=s') (ch:=fp) (J.os.trans rfl) J.base J.hok J.bare fun b hb=>by
   obtain⟨⟨g0,g1,g2,g3,g4,g5⟩,_⟩:=f3 b hb;exact⟨g3,g1,g4,g5⟩
  refine hRR _ _ H' s' J1 ⟨m,hn⟩ J.free (Nat.ne_of_gt I3.lt) I3.sz (fun x c e=>?_) (fun p hp=>?_) q
  ·obtain⟨v,z⟩:=I3.cell x c e;exact Nat.ne_of_lt z.lt
  ·exact Nat.ne_of_lt (Heap.lt_size (I3.pin p hp).1)
 have loop:codeAny (model X.prog X.w) X.A (.compLoop (.ListComp elt [⟨tg,iter,ifs,0⟩] scope pos) 0 (.ref it) (.ref s2.heap.objs.size) (compEnvC scope (cellsFrom (s3.heap.objs.size+1) scope.names cls) s3.heap.objs.size X.env))
   (RR (.ref s2.heap.objs.size) s3.heap.objs.size) s4:=by
  refine wX (fun n s'=>∃ i ys H',Inv (blk X scope (cellsFrom (s3.heap.objs.size+1) scope.names cls) s3.heap.objs.size fp s3 H3) [] (clr σ) H' s'/\tn i s'.heap/\(∀ b∈fp,H' b=none)/\W i n ys H') ?_ m0 ⟨0,[],H3,I4,st4,fn4,w0⟩;rintro n s5 ⟨i,ys,H5,I5,st5,fr5,w5⟩;obtain⟨hl5,tr⟩:=turn i n ys H5 w5
  rcases tr with⟨stop,qn⟩ | ⟨go,step⟩
  ·refine thn (T.done (blk X scope (cellsFrom (s3.heap.objs.size+1) scope.names cls) s3.heap.objs.size fp s3 H3) rfl rfl rfl (hc _ _ _ I3) i [] s5 (clr σ) H5 (fun _ _=>False) I5 (stat I5 fr5) st5 stop) fun r s6 ⟨hr,I6⟩=>?_;subst hr;exact fin I6 qn
  ·refine thn (T.item (blk X scope (cellsFrom (s3.heap.objs.size+1) scope.names cls) s3.heap.objs.size fp s3 H3) rfl rfl rfl (hc _ _ _ I3) i [] s5 (clr σ) H5 (fun _ _=>False) I5 (stat I5 fr5) st5 go) fun r s6 ⟨u,hr,h6⟩=>?_;subst hr;refine thn h6 fun _ s7 ⟨x,H7,I7,r7,y7,st7,fr7⟩=>?_;have I7':=I7.pinned (stat I7 fr7) (T.obj _ _ st7)
   have back:∀ {σ':St} {H':Hp} {s':Shared},Inv (blk X scope (cellsFrom (s3.heap.objs.size+1) scope.names cls) s3.heap.objs.size fp s3 H3) ([]++j8 fp s7.heap) σ' H' s'->(clr σ).length=σ'.length->(∀ (i:Nat) v,(clr σ)[i]?=some (some v)->σ'[i]?=some (some v))->(∃ m ys',m<n/\W (i+1) m ys' H') ->
     ∃ m,m<n/\∃ i ys H',Inv (blk X scope (cellsFrom (s3.heap.objs.size+1) scope.names cls) s3.heap.objs.size fp s3 H3) [] (clr σ) H' s'/\tn i s'.heap/\(∀ b∈fp,H' b=none)/\W i m ys H':=fun {σ' H' s'} J el ew hw=>by
    obtain⟨m,ys',hm,w8⟩:=hw;refine⟨m,hm,i+1,ys',H',J.ja.weak el ew,T.keep _ _ _ st7 fun b hb o e=>(J.pin (b,o) (List.mem_append_right _ (List.mem_append_right _ (gq hb e)))).1,fun b hb=>?_,w8⟩;obtain⟨o,e,d⟩:=T.obj _ _ st7 b hb;exact(J.pin (b,o) (List.mem_append_right _ (List.mem_append_right _ (gq hb e)))).2.1
   refine thn (B.htg _ s3.heap.objs.size fp s3 H3 _ s7 (clr σ) H7 x u _ I7' r7 (B.Be x σ H7 _ (step x H7 y7))) fun _ s8 ⟨σ8,H8,I8,q8,el8,ew8⟩=>?_;refine thn (B.htc _ s3.heap.objs.size fp s3 H3 _ s8 σ8 H8 _ I8 q8) fun ok s9 ⟨H9,I9,q9⟩=>?_
   cases ok with
   |false=>
    have q9:∃ m',m'<n/\W (i+1) m' ys H9:=q9;obtain⟨m',hm,w9⟩:=q9;exact back I9 el8 ew8 ⟨m',ys,hm,w9⟩
   |true=>
    refine thn (B.hte _ s3.heap.objs.size fp s3 H3 _ s9 σ8 H9 _ I9 q9) fun v s10 ⟨y,H10,I10,r10,hl10,hz,m',hm,w10⟩=>?_;refine thn (pN (X:=blk X scope (cellsFrom (s3.heap.objs.size+1) scope.names cls) s3.heap.objs.size fp s3 H3) _ s10 σ8 H10 (.ref s2.heap.objs.size) [y] (.ref s2.heap.objs.size) [v] (fun _ H'=>H'=upd H10 s2.heap.objs.size (.lst (ys++[y]))) I10 rfl (.cons r10 .nil) ⟨_,ys,y,rfl,rfl,hl10,hz,rfl⟩) fun _ s11 ⟨_,H11,I11,_,e11⟩=>?_;subst e11;exact back I11 el8 ew8 ⟨m',_,hm,w10⟩
 exact codeAny_compStart_list loop (T.self _ 0 _ _ _ st4 loop)
def uf{elt tg iter:Expr}{ifs:List Expr}{pos:Pos}{wi:TI}{clr:St->St}{g:TG}{tc:TT}{te:TE}{CM:Cx->Prop}(hc:∀ {pins:List (Addr × Obj)} {σ:St} {H:Hp} {s:Shared} (cls:List (Str × Addr)) (C:Addr) (fp:List Addr),Inv X pins σ H s->CM (blk X scope cls C fp s H))(S:fQ scope X.env.scope cls X.env.cells)(hclos:closureFor scope X.env=pure cls)
 (hi:PI' CM X tg iter wi)(B:qv X scope tg ifs elt clr g tc te)(hs:∀ x,foldedSetIterable iter X.env x=pure x):PE X (.ListComp elt [⟨tg,iter,ifs,0⟩] scope pos) (iF wi clr g tc te):=by
 intro pins s σ H Q I h;rw[eval_ListComp];refine wpAny_comprehension_free (use:=none) rfl hs hclos S.kind S.loc (pM (RR:=fun acc C=>compPost (model X.prog X.w) X.A X.xe none (EP X pins σ Q) acc C) hc S hi B I h ?_);intro l C H' s' J hn c0 c1 c2 c3 c4 q;obtain⟨m,hn⟩:=hn;exact⟨m,hn,fun h' sb=>⟨.ref l,H',J.turned (it:=C) (h':=h') (t':=s'.toks) (fun b o hb e=>(sb.2 b hb).trans e) c0 (Ne.symm (Ne.symm c1)) (.inr c2) c3 c4,rfl,q⟩⟩
abbrev HA(i:Nat)(t:TE):TS:=fun D σ H=>t σ H fun v H1=>D.nx (σ.set i (some v)) H1
def uM(hc:X.calm=true)(hN:X.N.Nodup)(hiy:X.N[i]?=some y)(hy:X.env.scope.names.lookup y=some .local)
 (S:fQ scope X.env.scope cls X.env.cells)(hclos:closureFor scope X.env=pure cls)
 (hi:PI X tg iter wi)(B:qv X scope tg ifs elt clr g tc te)(hs:∀ x,foldedSetIterable iter X.env x=pure x)
 (hsw:swapsWith (.ListComp elt [⟨tg,iter,ifs,0⟩] scope pos) (some (.Name y py)) spos.line X.env=pure true) :
  PS X (.Assign [.Name y py] (.ListComp elt [⟨tg,iter,ifs,0⟩] scope pos) spos) (HA i (iF wi clr g tc te)):=by
 intro pins s σ H D I h
 have back:∀ (l C:Addr) (H':Hp) (s':Shared),Inv X pins σ H' s'->(∃ m,s'.heap.Ns C m)->H' C=none->C≠X.env.locals->X.s₀.heap.objs.size<=C->(∀ x c,X.env.cells.lookup x=some c->c≠C)->(∀ p∈X.pn++pins,p.1≠C)->D.nx (σ.set i (some (.ref l))) H' ->
   compPost (model X.prog X.w) X.A X.xe (some (assign (.Name y py) X.env)) (fun _ s'=>SP X pins D .next s') (.ref l) C (.ok .next) s':=by
  intro l C H' s' J hn c0 c1 c2 c3 c4 q;obtain⟨m,hn⟩:=hn;show wpAny _ X.A (assign (.Name y py) X.env (.ref l)) _ _ s';refine wpAny_assign_Name (pE (v:=.ref l) J hN hiy (.inl hy) rfl (fun s2 J2 ⟨a,sb,ha⟩=>?_) (.inr hy))
  have hne:C≠a:=by
   rcases ha with z | z
   ·rw[z];exact c1
   ·exact(c3 _ _ z).symm
  exact⟨m,hn.sameBut sb hne,fun h' sb'=>⟨σ.set i (some (.ref l)),H',J2.turned (it:=C) (h':=h') (t':=s2.toks) (fun b o hb e=>(sb'.2 b hb).trans e) c0 c1 (.inr c2) c3 c4,q⟩⟩
 have core:=pM (RR:=fun acc C=>compPost (model X.prog X.w) X.A X.xe (some (assign (.Name y py) X.env)) (fun _ s'=>SP X pins D .next s') acc C) (pos:=pos) (fun _ _ _ _=>hc) S hi B I h back;have whole:=wpAny_comprehension_free (e:=.ListComp elt [⟨tg,iter,ifs,0⟩] scope pos) (newAcc:=newList []) (use:=some (assign (.Name y py) X.env)) (Q:=fun _ s'=>SP X pins D .next s') (pos:=iter.pos) rfl hs hclos S.kind S.loc core;rw[exec_Assign_Name_used (hs:=hsw)];apply wpAny_bind;apply wpAny_standAt;apply wpAny_bind;apply wpAny_bind;refine thn whole fun _ s' hq=>?_;apply wpAny_pure;apply wpAny_pure;exact hq
end
end L2
namespace RS
open PySem PySem.Spec PyProof.Rows L2
def jh:∀ (names:List (Str × NameKind)) (acc:List (Str × Addr)),(∀ x,(x,NameKind.free)∈names->∃ c,env.cells.lookup x=some c)->(∀ x c,acc.lookup x=some c->env.cells.lookup x=some c) ->
  ∃ cls,(forIn names acc fun(p:Str × NameKind) cs=>match p with | (name,kind)=>if(kind == NameKind.free)=true then do let c <- cellOf env name;pure (ForInStep.yield ((name,c)::cs))else pure (ForInStep.yield cs):Sem (List (Str × Addr)))=pure cls /\
   (∀ x c,cls.lookup x=some c->env.cells.lookup x=some c)/\(∀ x,(acc.lookup x).isSome=true\/(x,NameKind.free)∈names->∃ c,cls.lookup x=some c)
 | [],acc,_,ha=>⟨acc,rfl,ha,fun x hx=>by
   rcases hx with h | h
   ·exact Option.isSome_iff_exists.mp h
   ·simp at h⟩
 | (n,k)::r,acc,hn,ha=>by
  by_cases hk:k=.free
  ·subst hk;obtain⟨c,hc⟩:=hn n List.mem_cons_self
   have ha':∀ x c',((n,c)::acc).lookup x=some c'->env.cells.lookup x=some c':=fun x c' e=>by
    rw[List.lookup_cons]at e
    cases hx:x == n with
    |true=>
     rw[hx]at e;cases e;rw[show x=n by simpa using hx];exact hc
    |false=>
     rw[hx]at e;exact ha x c' e
   obtain⟨cls,h1,h2,h3⟩:=jh r ((n,c)::acc) (fun x hx=>hn x (List.mem_cons_of_mem _ hx)) ha';refine⟨cls,?_,h2,fun x hx=>h3 x ?_⟩
   ·rw[List.forIn_cons]
    have hcell:cellOf env n=pure c:=by unfold cellOf;rw[hc]
    simp only[beq_self_eq_true,if_true,hcell];exact h1
   ·rcases hx with h | h
    ·left;rw[List.lookup_cons];split<;>simp_all
    ·rcases List.mem_cons.mp h with e | e
     ·cases e;left;simp[List.lookup_cons]
     ·exact .inr e
  ·obtain⟨cls,h1,h2,h3⟩:=jh r acc (fun x hx=>hn x (List.mem_cons_of_mem _ hx)) ha;refine⟨cls,?_,h2,fun x hx=>h3 x ?_⟩
   ·rw[List.forIn_cons]
    have:(k == NameKind.free)=false:=by simpa using hk
    simp only[this,Bool.false_eq_true,if_false];exact h1
   ·rcases hx with h | h
    ·exact .inl h
    ·rcases List.mem_cons.mp h with e | e
     ·cases e;exact absurd rfl hk
     ·exact .inr e
def wt(h:∀ x,(x,NameKind.free)∈scope.names->∃ c,env.cells.lookup x=some c) :
  ∃ cls,closureFor scope env=pure cls/\(∀ x c,cls.lookup x=some c->env.cells.lookup x=some c)/\(∀ x,scope.names.lookup x=some .free->∃ c,cls.lookup x=some c):=by
 obtain⟨cls,h1,h2,h3⟩:=jh (env:=env) scope.names [] h (fun x c e=>by simp at e);refine⟨cls,?_,h2,fun x hx=>h3 x (.inr (PySem.mem_of_lookup hx))⟩;unfold closureFor;simp only[bind_pure_comp]at h1 ⊢;rw[h1];rfl
section
abbrev nR(K:PySem.W.Frag)(n:Nat)(t:TGs):TG:=fun v σ H Q=>∃ a xs,v=.ref a/\SqL K H a xs/\xs.length=n/\t xs σ H Q
def wC(hc:X.calm=true)(h:PGs X es t)(hn:(assignEach es X.env).length=n)(hst:(assignEach es X.env).findIdx? (·.1)=none):PG X (.Tuple es k pos) (nR X.K n t):=by
 intro pins s σ H v u Q I r hw;obtain⟨a,xs,e1,hq,hl,hw⟩:=hw;subst e1;cases r;obtain⟨its,rv,ht,hz⟩:=I.list hq
 have hsz:(assignEach es X.env).length=its.toArray.size:=by rw[hn,<-hl,rv.length,List.size_toArray]
 rw[PyProof.Rows.assign_Tuple];refine wpAny_bind (wpAny_standAt ?_);unfold unpack;rw[hsz,hst];refine wpAny_bind (wpAny_holding (PySem.W.kun_itemsOf (I.ok.hd.1 hc) ht.isList fun h' hx=>?_));have I1:Inv X pins σ H { s with heap:=h' }:=I.kept (t':=s.toks) fun b o e=>hx b o (Nat.ne_of_lt (Heap.lt_size e)) e;exact h pins _ σ H xs _ Q I1 (by simpa using rv) hw
end
section
def xI(h:PG X tgE t)(h':PG X tgE t'):PG X tgE (fun v σ H Q=>t v σ H Q\/t' v σ H Q):=by
 intro pins s σ H v u Q I r hw;rcases hw with q | q
 ·exact h pins s σ H v u Q I r q
 ·exact h' pins s σ H v u Q I r q
end
abbrev gs:List Nat->TGs
 | []=>EK
 | i::r=>Bu (ql i) (gs r)
abbrev gT(K:PySem.W.Frag):List Nat->TG
 | [i]=>ql i
 | is=>fun v σ H Q=>nO K is.length (gs is) v σ H Q\/nR K is.length (gs is) v σ H Q
abbrev cK:List Nat->List V->L2.St->L2.St
 | i::is,v::vs,σ=>cK is vs (σ.set i (some v))
 | _,_,σ=>σ
abbrev dQ:List Nat->List RL.D->RL.St->RL.St
 | i::is,d::ds,σ=>dQ is ds (σ.set i (some d))
 | _,_,σ=>σ
def fH:∀ {is:List Nat} {ds:List RL.D} {σ σ1:RL.St},RL.b8 is ds σ=some σ1->is.length=ds.length/\σ1=dQ is ds σ
 | [],[],σ,σ1,h=>by cases h;exact⟨rfl,rfl⟩
 | [],d::ds,σ,σ1,h=>by cases h
 | i::is,[],σ,σ1,h=>by cases h
 | i::is,d::ds,σ,σ1,h=>by
  obtain⟨h1,h2⟩:=fH (is:=is) (ds:=ds) (σ:=σ.set i (some d)) h;exact⟨by simp[h1],h2⟩
def je:∀ {is:List Nat} {vs:List V} {σ:L2.St} {H:Hp} {Q:L2.St->Hp->Prop},is.length=vs.length->Q (cK is vs σ) H->gs is vs σ H Q
 | [],[],σ,H,Q,_,q=>⟨rfl,q⟩
 | [],_::_,_,_,_,h,_=>by simp at h
 | _::_,[],_,_,_,h,_=>by simp at h
 | i::is,v::vs,σ,H,Q,h,q=>⟨v,vs,rfl,je (is:=is) (by simpa using h) q⟩
def Bl{K:PySem.W.Frag}(h:RL.aQ tg d σD=some σD1)(r:Rep nP K H d v) :
  ∃ ds vs,σD1=dQ tg ds σD/\tg.length=ds.length/\ae nP K H ds vs/\(d.imm=true->RL.au ds=true)/\∀ (σ:L2.St) (Q:L2.St->Hp->Prop),Q (cK tg vs σ) H->gT K tg v σ H Q:=by
 unfold RL.aQ at h;split at h
 ·rename_i i;cases h;exact⟨[d],[v],rfl,rfl,ae.cons r ae.nil,fun z=>by simp[RL.au,z],fun σ Q q=>q⟩
 ·rename_i hne
  have key:gT K tg=fun v σ H Q=>nO K tg.length (gs tg) v σ H Q\/nR K tg.length (gs tg) v σ H Q:=by
   unfold gT;split
   ·rename_i i;exact absurd rfl (hne i)
   ·rfl
  rw[key];split at h
  ·rename_i ds;obtain⟨h1,h2⟩:=fH h;obtain⟨p,xs,rfl,e2,e3⟩:=bw r;exact⟨ds,xs,h2,h1,e3,fun z=>by rw[RL.D.imm]at z;exact z,fun σ Q q=>.inl ⟨p,xs,rfl,SqT.of e2,by rw[<-e3.length,h1],je (h1.trans e3.length) q⟩⟩
  ·rename_i ds;obtain⟨h1,h2⟩:=fH h;obtain⟨p,xs,rfl,_,e2,e3⟩:=aC r;exact⟨ds,xs,h2,h1,e3,fun z=>(by cases z),fun σ Q q=>.inr ⟨p,xs,rfl,SqL.of e2,by rw[<-e3.length,h1],je (h1.trans e3.length) q⟩⟩
  ·cases h
def sk:∀ (is:List Nat) (vs:List V) (σ:L2.St),(cK is vs σ).length=σ.length
 | [],_,_=>rfl
 | _::_,[],_=>rfl
 | i::is,v::vs,σ=>by rw[cK,sk is vs,List.length_set]
def oZ:∀ (is:List Nat) (vs:List V) (σ:L2.St) (j:Nat),is.contains j=false->(cK is vs σ)[j]?=σ[j]?
 | [],_,_,_,_=>rfl
 | _::_,[],_,_,_=>rfl
 | i::is,v::vs,σ,j,h=>by
  rw[List.contains_cons,Bool.or_eq_false_iff]at h;rw[cK,oZ is vs _ j h.2,List.getElem?_set_ne (by intro e;subst e;simp at h)]
def lL:∀ (is:List Nat) (vs:List RL.D) (σ:RL.St),(dQ is vs σ).length=σ.length
 | [],_,_=>rfl
 | _::_,[],_=>rfl
 | i::is,v::vs,σ=>by rw[dQ,lL is vs,List.length_set]
def kT:∀ (is:List Nat) (vs:List RL.D) (σ:RL.St) (j:Nat),is.contains j=false->(dQ is vs σ)[j]?=σ[j]?
 | [],_,_,_,_=>rfl
 | _::_,[],_,_,_=>rfl
 | i::is,v::vs,σ,j,h=>by
  rw[List.contains_cons,Bool.or_eq_false_iff]at h;rw[dQ,kT is vs _ j h.2,List.getElem?_set_ne (by intro e;subst e;simp at h)]
abbrev RVx(T:List Nat)(K:PySem.W.Frag)(σD:RL.St)(σ:L2.St)(H:Hp):Prop:=σD.length<=σ.length/\∀ (i:Nat) (d:RL.D),T.contains i=false->σD[i]?=some (some d)->∃ v,σ[i]?=some (some v)/\Rep nP K H d v
def RVx.set{K:PySem.W.Frag}(h:RVx (i::T) K σD σ H)(r:Rep nP K H d v):RVx T K (σD.set i (some d)) (σ.set i (some v)) H:=⟨by simpa using h.1,fun j dj hT e=>by
 by_cases hj:j=i
 ·subst hj
  have hlt:j<σD.length:=by
   have:=(List.getElem?_eq_some_iff.mp e).1;simpa using this
  rw[List.getElem?_set_self hlt]at e;cases e;exact⟨v,by rw[List.getElem?_set_self (Nat.lt_of_lt_of_le hlt h.1)],r⟩
 ·rw[List.getElem?_set_ne (Ne.symm hj)]at e ⊢
  exact h.2 j dj (by rw[List.contains_cons,hT,Bool.or_false];simpa using hj) e⟩
def RVx.b8{K:PySem.W.Frag}:∀ {is:List Nat} {ds:List RL.D} {vs:List V} {σD:RL.St} {σ:L2.St},RVx is K σD σ H->is.length=ds.length->ae nP K H ds vs->RV0 K (dQ is ds σD) (cK is vs σ) H
 | [],_,_,_,_,h,_,_=>⟨h.1,fun i d e=>h.2 i d rfl e⟩
 | i::is,[],_,_,_,_,hl,_=>by simp at hl
 | i::is,d::ds,vs,σD,σ,h,hl,r=>by
  rw[ae]at r;obtain⟨v,t,rfl,r1,r2⟩:=r;rw[dQ,cK];exact RVx.b8 (h.set r1) (by simpa using hl) r2
def F7{K:PySem.W.Frag}(h:gT K tg v σ H Q):∃ vs,tg.length=vs.length/\Q (cK tg vs σ) H/\∀ Q':L2.St->Hp->Prop,Q' (cK tg vs σ) H->gT K tg v σ H Q':=by
 have inv:∀ (is:List Nat) (xs:List V) (σ:L2.St) (Q:L2.St->Hp->Prop),gs is xs σ H Q->is.length=xs.length/\Q (cK is xs σ) H:=by
  intro is
  induction is with
  | nil=>intro xs σ Q h;obtain⟨rfl,q⟩:=h;exact⟨rfl,q⟩
  |cons i r ih=>
   intro xs σ Q h;obtain⟨v,t,rfl,q⟩:=h;obtain⟨h1,h2⟩:=ih t _ Q q;exact⟨by simp[h1],h2⟩
 unfold gT at h;split at h
 ·rename_i i;exact⟨[v],rfl,h,fun Q' q=>q⟩
 ·rename_i hne
  have key:gT K tg=fun v σ H Q=>nO K tg.length (gs tg) v σ H Q\/nR K tg.length (gs tg) v σ H Q:=by
   unfold gT;split
   ·rename_i i;exact absurd rfl (hne i)
   ·rfl
  rw[key]
  rcases h with⟨a,xs,rfl,hq,hl,hg⟩ | ⟨a,xs,rfl,hq,hl,hg⟩
  ·obtain⟨h1,h2⟩:=inv _ _ _ _ hg;exact⟨xs,h1,h2,fun Q' q=>.inl ⟨a,xs,rfl,hq,hl,je h1 q⟩⟩
  ·obtain⟨h1,h2⟩:=inv _ _ _ _ hg;exact⟨xs,h1,h2,fun Q' q=>.inr ⟨a,xs,rfl,hq,hl,je h1 q⟩⟩
abbrev fX(tg:List Nat)(σ:L2.St):L2.St:=σ.mapIdx fun i o=>if tg.contains i then none else o
def sX(tg:List Nat)(σ:L2.St):(fX tg σ).length=σ.length:=by simp[fX]
def uI(h:tg.contains i=false):(fX tg σ)[i]?=σ[i]?:=by
 unfold fX;rw[List.getElem?_mapIdx]
 cases σ[i]? with
 | none=>rfl
 | some o=>simp only[Option.map_some,h,Bool.false_eq_true,if_false]
def uV(h:tg.contains i=true):(fX tg σ)[i]?≠some (some v):=by
 unfold fX;rw[List.getElem?_mapIdx]
 cases σ[i]? with
 | none=>simp
 | some o=>simp only[Option.map_some,h,if_true];intro z;cases z
section comp
variable{X:Cx}
structure kR(X:Cx)(cl:RL.Cl)(scope:Scope)(tgE:Expr)(tg:List Nat)(elt:Expr)(e':RL.E)(tcs:TT)(ifs:List Expr):Prop where
 htg:∀ cls C fp s H,PG (blk X scope cls C fp s H) tgE (gT X.K tg)
 htc:∀ cls C fp s H pins s' σ H' Q,Inv (blk X scope cls C fp s H) pins σ H' s'->tcs σ H' Q->wpAny (model X.prog X.w) X.A (gG ifs (compEnvC scope cls C X.env)) (TP (blk X scope cls C fp s H) pins σ Q) (fun _ _=>False) s'
 hte:∀ cls C fp s H,SE (blk X scope cls C fp s H) cl elt e'
 cover:∀ (i:Nat) (x:Str),X.N[i]?=some x->scope.names.lookup x=some .local\/scope.names.lookup x=some .cell->tg.contains i=true
def kR.blk{tcs:TT}(B:kR X cl scope tgE tg elt e' tcs ifs):qv X scope tgE ifs elt (fX tg) (gT X.K tg) tcs (tE X.K cl e') where
 htg:=B.htg
 htc:=B.htc
 hte:=B.hte
 Fo:=fun σ hl=>⟨sX tg σ,fun i x v h1 h2=>by
  by_cases hc:tg.contains i=true
  ·exact absurd h2 (uV hc)
  ·simp only[Bool.not_eq_true]at hc;rw[uI hc]at h2;refine⟨h2,fun z=>?_,fun z=>?_⟩
   ·rw[B.cover i x h1 (.inl z)]at hc;cases hc
   ·rw[B.cover i x h1 (.inr z)]at hc
    cases hc⟩
 Be:=fun x σ H Q h=>by
  obtain⟨vs,h1,h2,h3⟩:=F7 h;refine h3 _ ⟨h2,(sk _ _ _).symm,fun i v e=>?_⟩;by_cases hc:tg.contains i=true
  ·exact absurd e (uV hc)
  ·simp only[Bool.not_eq_true]at hc;rw[oZ _ _ _ _ hc];exact e
def xE(h:RL.bT f tg σ (d::r)=some ys):∃ σ1 y ys',RL.aQ tg d σ=some σ1/\f σ1=some y/\RL.bT f tg σ r=some ys'/\RL.jS y ys'=some ys:=by
 rw[RL.bT]at h;obtain⟨σ1,h1,h⟩:=bind_some h;obtain⟨y,h2,h⟩:=bind_some h;obtain⟨ys',h3,h⟩:=bind_some h;exact⟨σ1,y,ys',h1,h2,h3,h⟩
def tX(rv:RV0 X.K σD σ H)(ei:RL.bf cl σD it=some ds)(hz:ds.length<=RL.most)(hm:RL.bT f tg σD ds=some total)
 (ht:∀ σ1 σV H y (Q:Bool->Hp->Prop),RV0 X.K σ1 σV H->f σ1=some y->(∀ k H',a5 H H'->(if k=true then ∃ d,y=some d/\RL.ev cl σ1 e'=some d else y=none)->Q k H')->tcs σV H Q)
 (k:∀ l H',a5 H H'->H l=none->(∃ xs,H' l=some (.lst xs)/\ae nP X.K H' total xs)->Q (.ref l) H'):iF (tI X.K cl it) (fX tg) (gT X.K tg) tcs (tE X.K cl e') σ H Q:=by
 refine⟨σD,ds,rv,ei,fun J H1 s1 src l hl=>?_⟩;obtain⟨ok,_⟩:=src
 refine⟨fun i m xs H2=>∃ don rest,m=ds.length-i/\i<=ds.length/\a5 H1 H2/\H2 l=some (.lst xs)/\ae (fun p=>p=l) X.K H2 don xs/\RL.bT f tg σD (ds.drop i)=some rest/\don++rest=total/\don.length<=i,
  ⟨_,[],total,rfl,Nat.zero_le _,a5.bQ hl,br,ae.nil,hm,rfl,Nat.le_refl _⟩,?_⟩
 rintro i m xs H2 ⟨don,rest,rfl,hi,s2,hl2,rs,hr,htot,hdn⟩;refine⟨hl2,?_⟩;have off:Off nP H1 H2:=Off.same s2;by_cases hlt:i<ds.length
 ·refine .inr ⟨ok.go H2 i off hlt,fun x H3 y=>?_⟩
  have hd:ds[i]?=some ds[i]:=by simp[hlt]
  obtain⟨s3,rp⟩:=ok.yld H2 i ds[i] x H3 off hd y;have rp:=rp (.inr s2);rw[List.drop_eq_getElem_cons hlt]at hr;obtain⟨σ1,y1,ys',h1,h2,h3,h4⟩:=xE hr;obtain⟨dv,vs,e1,e2,e3,_,e5⟩:=Bl h1 rp;refine e5 _ _ ?_;have rv3:RV0 X.K σD σ H3:=rv.same ((s1.trans s2).trans s3)
  have rvx:RVx tg X.K σD (fX tg σ) H3:=⟨by rw[sX];exact rv3.1,fun j d hT e=>by rw[uI hT];exact rv3.2 j d e⟩
  have rv1:RV0 X.K σ1 (cK tg vs (fX tg σ)) H3:=by rw[e1];exact rvx.b8 e2 e3
  refine ht σ1 _ H3 y1 _ rv1 h2 fun t H5 s5 hy=>?_;have hl5:H5 l=some (.lst xs):=s5 _ _ (s3 _ _ hl2);have rs5:ae (fun p=>p=l) X.K H5 don xs:=(rs.same s3).same s5
  cases t with
  |true=>
   obtain⟨d,rfl,hv⟩:=(show ∃ d,y1=some d/\RL.ev cl σ1 e'=some d from hy)
   have him:d.imm=true/\rest=d::ys':=by
    unfold RL.jS at h4;dsimp only at h4;split at h4
    ·rename_i hh;cases h4;exact⟨hh,rfl⟩
    ·cases h4
   refine fq ⟨σ1,d,rv1.same s5,hv,fun v H6 r6=>⟨r6.same _ _ hl5,?_,ds.length-(i+1),by lia,don++[d],ys',rfl,hlt,?_,br,?_,h3,?_,?_⟩⟩
   ·rw[<-rs.length];exact Nat.lt_of_lt_of_le (Nat.lt_of_le_of_lt hdn (Nat.lt_of_lt_of_le hlt hz)) (Nat.le_of_lt (by decide))
   ·intro b o e;have hb:b≠l:=aI e hl;rw[aL hb];exact r6.same _ _ (s5 _ _ (s3 _ _ (s2 _ _ e)))
   ·exact ae.upd (P:=fun p=>p=l) (r6.same _ _ hl5) (.inl ⟨_,rfl⟩) rfl (ae.append (rs5.same r6.same) (ae.cons (r6.rep.imm him.1) ae.nil))
   ·rw[<-htot,him.2,List.append_assoc];rfl
   ·rw[List.length_append,List.length_singleton];lia
  |false=>
   have hy:y1=none:=hy;subst hy
   have hr2:rest=ys':=by
    unfold RL.jS at h4;dsimp only at h4;cases h4;rfl
   refine fY ⟨ds.length-(i+1),by lia,don,ys',rfl,hlt,(s2.trans s3).trans s5,hl5,rs5,h3,by rw[<-htot,hr2],by lia⟩
 ·have e:i=ds.length:=by lia
  subst e;refine .inl ⟨ok.stop H2 off,k l H2 (s1.trans s2) (s1.free hl) ⟨xs,hl2,?_⟩⟩;rw[List.drop_length,RL.bT]at hr;cases hr;rw[List.append_nil]at htot;rw[<-htot];exact ae.weak (fun _ z=>z.elim) rs
end comp
section comp
variable{X:Cx}
structure p6(scope sc:Scope):Prop where
 kind:scope.kind=.function
 own:∀ x∈scope.names,x.2=.cell->scope.names.lookup x.1=some .cell
 loc:∀ x∈scope.names,x.2=.local->scope.names.lookup x.1=some .local
 vis:∀ x∈scope.names,x.2=.free->sc.names.lookup x.1=some .cell\/sc.names.lookup x.1=some .free
def gn(S:p6 scope X.env.scope)(I:Inv X pins σ H s):∃ cls,closureFor scope X.env=pure cls/\fQ scope X.env.scope cls X.env.cells:=by
 obtain⟨cls,h1,h2,h3⟩:=wt (env:=X.env) (scope:=scope) fun x hx=>I.ok.has x (S.vis _ hx rfl);exact⟨cls,h1,S.kind,S.own,S.loc,h2,h3,fun x hx=>S.vis _ (PySem.mem_of_lookup hx) rfl⟩
def qM(sm:a5 H H')(hl:H l=none)(h:∃ xs,H' l=some (.lst xs)/\ae nP X.K H' total xs)(hav:∀ M,RL.avE M e=false):Res X.K σD σ H e (.lst total) (.ref l) H' where
 same:=sm
 rep:=by
  obtain⟨xs,h1,h2⟩:=h;rw[Rep];exact⟨l,xs,rfl,fun z=>z,h1,h2⟩
 fresh:=fun _ _ a z=>by cases z;exact hl
 av:=fun M z=>by rw[hav M]at z;cases z
abbrev mY:TT:=fun _ H Q=>Q true H
def qK(h:tE X.K cl (.compA e' tg it) σ H Q):iF (tI X.K cl it) (fX tg) (gT X.K tg) mY (tE X.K cl e') σ H Q:=by
 obtain⟨σD,d,rv,e,k⟩:=h;obtain⟨ds,e1,e⟩:=bind_some e;obtain⟨ds',e2,e⟩:=bind_some e;obtain⟨total,e3,e4⟩:=map_some e;unfold RL.fits at e2;split at e2
 ·rename_i hz;cases e2;subst e4;refine tX (f:=fun σ1=>(RL.ev cl σ1 e').map some) rv e1 hz e3 (fun σ1 σV H y Q rv1 hy q=>?_) fun l H' sm hl hx=>k _ _ (qM sm hl hx fun _=>rfl);obtain⟨d,h1,h2⟩:=map_some hy;exact q true H (a5.refl H) (fq ⟨d,h2.symm,h1⟩)
 ·cases e2
def sJ(h:tE X.K cl (.comp e' tg it c') σ H Q):iF (tI X.K cl it) (fX tg) (gT X.K tg) (tT X.K cl c') (tE X.K cl e') σ H Q:=by
 obtain⟨σD,d,rv,e,k⟩:=h;obtain⟨ds,e1,e⟩:=bind_some e;obtain⟨ds',e2,e⟩:=bind_some e;obtain⟨total,e3,e4⟩:=map_some e;unfold RL.fits at e2;split at e2
 ·rename_i hz;cases e2;subst e4;refine tX rv e1 hz e3 (fun σ1 σV H y Q rv1 hy q=>?_) fun l H' sm hl hx=>k _ _ (qM sm hl hx fun _=>rfl);obtain⟨t,h1,h2⟩:=bind_some hy;refine⟨σ1,t,rv1,h1,fun H' sm=>q t H' sm ?_⟩
  cases t with
  |true=>
   obtain⟨d,h3,h4⟩:=map_some (show(RL.ev cl σ1 e').map some=some y from h2);exact fq ⟨d,h4.symm,h3⟩
  |false=>
   cases(show(some none:Option (Option RL.D))=some y from h2);exact fY rfl
 ·cases e2
def zj(hc:X.calm=true)(S:p6 scope X.env.scope)(hi:SI X cl tgE iter it)(B:kR X cl scope tgE tg elt e' mY [])(hs:∀ x,foldedSetIterable iter X.env x=pure x):SE X cl (.ListComp elt [⟨tgE,iter,[],0⟩] scope pos) (.compA e' tg it):=by
 intro pins s σ H Q I h;obtain⟨cls,h1,h2⟩:=gn S I;exact uf (fun _ _ _ _=>hc) h2 h1 hi B.blk hs pins s σ H Q I (qK h)
def Ac(hc:∀ {pins:List (Addr × Obj)} {σ:L2.St} {H:Hp} {s:Shared} (cls:List (Str × Addr)) (C:Addr) (fp:List Addr),Inv X pins σ H s->CM (blk X scope cls C fp s H))(S:p6 scope X.env.scope)(hi:PI' CM X tgE iter (tI X.K cl it))(B:kR X cl scope tgE tg elt e' (tT X.K cl c') [c])(hs:∀ x,foldedSetIterable iter X.env x=pure x):SE X cl (.ListComp elt [⟨tgE,iter,[c],0⟩] scope pos) (.comp e' tg it c'):=by
 intro pins s σ H Q I h;obtain⟨cls,h1,h2⟩:=gn S I;exact uf hc h2 h1 hi B.blk hs pins s σ H Q I (sJ h)
abbrev SA(X:Cx)(cl:RL.Cl)(st:Stmt)(i:Nat)(e':RL.E):Prop:=PS X st (fun D σ H=>tE X.K cl e' σ H fun v H1=>D.nx (σ.set i (some v)) H1)
def PS.weak{st:Stmt}(h:PS X st t)(w:∀ D σ H,t' D σ H->t D σ H):PS X st t':=fun pins s σ H D I q=>h pins s σ H D I (w D σ H q)
def PSs.weak{st:List Stmt}(h:PSs X st t)(w:∀ D σ H,t' D σ H->t D σ H):PSs X st t':=fun pins s σ H D I q=>h pins s σ H D I (w D σ H q)
def zX(hc:X.calm=true)(hN:X.N.Nodup)(hiy:X.N[i]?=some y)(hy:X.env.scope.names.lookup y=some .local)(S:p6 scope X.env.scope)(hi:SI X cl tgE iter it)(B:kR X cl scope tgE tg elt e' mY [])(hs:∀ x,foldedSetIterable iter X.env x=pure x)
 (hsw:swapsWith (.ListComp elt [⟨tgE,iter,[],0⟩] scope pos) (some (.Name y py)) spos.line X.env=pure true):SA X cl (.Assign [.Name y py] (.ListComp elt [⟨tgE,iter,[],0⟩] scope pos) spos) i (.compA e' tg it):=by
 intro pins s σ H D I h;obtain⟨cls,h1,h2⟩:=gn S I;exact uM hc hN hiy hy h2 h1 hi B.blk hs hsw pins s σ H D I (qK h)
def Ay(hc:X.calm=true)(hN:X.N.Nodup)(hiy:X.N[i]?=some y)(hy:X.env.scope.names.lookup y=some .local)(S:p6 scope X.env.scope)(hi:SI X cl tgE iter it)(B:kR X cl scope tgE tg elt e' (tT X.K cl c') [c])(hs:∀ x,foldedSetIterable iter X.env x=pure x)
 (hsw:swapsWith (.ListComp elt [⟨tgE,iter,[c],0⟩] scope pos) (some (.Name y py)) spos.line X.env=pure true):SA X cl (.Assign [.Name y py] (.ListComp elt [⟨tgE,iter,[c],0⟩] scope pos) spos) i (.comp e' tg it c'):=by
 intro pins s σ H D I h;obtain⟨cls,h1,h2⟩:=gn S I;exact uM hc hN hiy hy h2 h1 hi B.blk hs hsw pins s σ H D I (sJ h)
def As(hN:X.N.Nodup)(hiy:X.N[i]?=some y)(hx:Loc X.env.scope y)(he:SE X cl e e')(hf:X.fn y=true\/X.env.scope.names.lookup y=some .local)(hs:swapsWith e (some (.Name y py)) spos.line X.env=pure false)(hf2:True):SA X cl (.Assign [.Name y py] e spos) i e':=by
 exact Ew hN hiy hx he hs hf
end comp
abbrev aV(M:List Nat)(σ:L2.St):Addr->Prop:=fun a=>∃ i,M.contains i=true/\σ[i]?=some (some (.ref a))
abbrev Own(K:PySem.W.Frag)(H:Hp)(d:RL.D)(v:V):Prop:=j2 d=true/\RL.a8 d=true/\Rep nP K H d v
structure RVm(K:PySem.W.Frag)(M:List Nat)(σD:RL.St)(σ:L2.St)(H:Hp):Prop where
 len:σD.length=σ.length
 val:∀ (i:Nat) (d:RL.D),σD[i]?=some (some d)->∃ v,σ[i]?=some (some v)/\(if M.contains i=true then Own K H d v else Rep (aV M σ) K H d v)
 non:∀ (i:Nat) (v:V),σ[i]?=some (some v)->∃ d,σD[i]?=some (some d)
 sep:∀ (i j:Nat) (a:Addr),M.contains i=true->M.contains j=true->σ[i]?=some (some (.ref a))->σ[j]?=some (some (.ref a))->i=j
abbrev Fr'(M:List Nat)(σ:L2.St)(H:Hp)(σ':L2.St)(H':Hp):Prop:=(∀ b o,H b=some o->¬ aV M σ b->H' b=some o/\¬ aV M σ' b)/\∀ j,2<=M.count j->σ'[j]?=σ[j]?
def Fr'.trans(a:Fr' M σ H σ1 H1)(b:Fr' M σ1 H1 σ2 H2):Fr' M σ H σ2 H2:=⟨fun c o e n=>b.1 c o (a.1 c o e n).1 (a.1 c o e n).2,fun j hj=>(b.2 j hj).trans (a.2 j hj)⟩
def Fr'.same(s:a5 H H1):Fr' M σ H σ H1:=⟨fun c o e n=>⟨s _ _ e,n⟩,fun _ _=>rfl⟩
def kE{M:List Nat}(h:2<=M.count j):M.contains j=true:=by
 have:0<M.count j:=by lia
 simpa using List.count_pos_iff.mp this
section st
variable{K:PySem.W.Frag}
def Own.ref(h:Own K H d v):∃ a o,v=.ref a/\H a=some o/\cu o:=by
 obtain⟨m,_,r⟩:=h
 cases d with
 | lst ds=>obtain⟨a,xs,e1,_,e2,_⟩:=aC r;exact⟨a,_,e1,e2,.inl ⟨_,rfl⟩⟩
 | dK ks ds=>rw[Rep]at r;obtain⟨a,xs,e1,_,e2,_⟩:=r;exact⟨a,_,e1,e2,.inr (.inl ⟨_,rfl⟩)⟩
 | dT ks ds=>rw[Rep]at r;obtain⟨a,xs,e1,_,e2,_⟩:=r;exact⟨a,_,e1,e2,.inr (.inr ⟨_,rfl⟩)⟩
 | _=>cases m
def RVm.rv0(h:RVm K M σD σ H):RV0 K σD σ H:=⟨Nat.le_of_eq h.len,fun i d e=>by
 obtain⟨v,h1,h2⟩:=h.val i d e;refine⟨v,h1,?_⟩;by_cases hm:M.contains i=true
 ·rw[if_pos hm]at h2;exact h2.2.2
 ·rw[if_neg hm]at h2
  exact h2.none⟩
def RVm.A1(h:RVm K M σD σ H):∀ a,aV M σ a->∃ o,H a=some o/\cu o:=fun a ⟨i,hi,e⟩=>by
 obtain⟨d,hd⟩:=h.non i _ e;obtain⟨v,h1,h2⟩:=h.val i d hd;rw[if_pos hi]at h2;obtain⟨b,o,e1,e2,e3⟩:=h2.ref;rw[e]at h1;cases h1;cases e1;exact⟨o,e2,e3⟩
def RVm.oM(h:RVm K M σD σ H):∀ a,aV M σ a->H a≠none:=fun a p=>by
 obtain⟨o,e,_⟩:=h.A1 a p;rw[e]
 exact fun z=>nomatch z
def Own.same(h:Own K H d v)(s:a5 H H1):Own K H1 d v:=⟨h.1,h.2.1,h.2.2.same s⟩
def RVm.same(h:RVm K M σD σ H)(s:a5 H H1):RVm K M σD σ H1:=⟨h.len,fun i d e=>by
 obtain⟨v,h1,h2⟩:=h.val i d e;refine⟨v,h1,?_⟩;by_cases hm:M.contains i=true
 ·rw[if_pos hm]at h2 ⊢;exact h2.same s
 ·rw[if_neg hm]at h2 ⊢
  exact h2.same s,h.non,h.sep⟩
def aV.set(hi:M.contains i=false):aV M (σ.set i (some v))=aV M σ:=by
 funext a;apply propext;constructor
 ·rintro⟨j,hj,e⟩
  have hne:i≠j:=fun z=>by subst z;rw[hi]at hj;cases hj
  rw[List.getElem?_set_ne hne]at e;exact⟨j,hj,e⟩
 ·rintro⟨j,hj,e⟩
  have hne:i≠j:=fun z=>by subst z;rw[hi]at hj;cases hj
  exact⟨j,hj,by rw[List.getElem?_set_ne hne];exact e⟩
def RVm.bind(h:RVm K M σD σ H)(hi:M.contains i=false)(r:Rep (aV M σ) K H d v):RVm K M (σD.set i (some d)) (σ.set i (some v)) H where
 len:=by simpa using h.len
 val:=fun j dj e=>by
  rw[aV.set hi];by_cases hj:j=i
  ·subst hj
   have hlt:j<σD.length:=by
    have:=(List.getElem?_eq_some_iff.mp e).1;simpa using this
   rw[List.getElem?_set_self hlt]at e;cases e;refine⟨v,by rw[List.getElem?_set_self (by rw[<-h.len];exact hlt)],?_⟩;rw[if_neg (by rw[hi];decide)];exact r
  ·rw[List.getElem?_set_ne (Ne.symm hj)]at e ⊢;exact h.val j dj e
 non:=fun j w e=>by
  by_cases hj:j=i
  ·subst hj
   have hlt:j<σ.length:=by
    have:=(List.getElem?_eq_some_iff.mp e).1;simpa using this
   exact⟨d,by rw[List.getElem?_set_self (by rw[h.len];exact hlt)]⟩
  ·rw[List.getElem?_set_ne (Ne.symm hj)]at e ⊢;exact h.non j w e
 sep:=fun j k a hj hk e1 e2=>by
  have n1:i≠j:=fun z=>by subst z;rw[hi]at hj;cases hj
  have n2:i≠k:=fun z=>by subst z;rw[hi]at hk;cases hk
  rw[List.getElem?_set_ne n1]at e1;rw[List.getElem?_set_ne n2]at e2;exact h.sep j k a hj hk e1 e2
def Fr'.bind{i:Nat}(hi:M.contains i=false)(s:a5 H H1):Fr' M σ H (σ.set i (some v)) H1:=⟨fun b o e n=>⟨s _ _ e,by rw[aV.set hi];exact n⟩,fun j hj=>List.getElem?_set_ne (fun z=>by subst z;rw[kE hj]at hi;cases hi)⟩
end st
mutual
theorem Rep.d9{P:Addr->Prop}{K:PySem.W.Frag}{H:Hp}{a:Addr}(ha:H a=none):∀ {d:RL.D} {v:V},Rep P K H d v->Rep (fun p=>P p\/p=a) K H d v
 | .non,v,h=>by simpa[Rep]using h
 | .bl _,v,h=>by simpa[Rep]using h
 | .int _,v,h=>by simpa[Rep]using h
 | .str _,v,h=>by simpa[Rep]using h
 | .tup ds,v,h=>by
  rw[Rep]at h ⊢;obtain⟨b,xs,e1,e2,e3⟩:=h;exact⟨b,xs,e1,e2,ae.d9 ha e3⟩
 | .lst ds,v,h=>by
  rw[Rep]at h ⊢;obtain⟨b,xs,e1,e0,e2,e3⟩:=h;exact⟨b,xs,e1,fun z=>z.elim e0 (fun q=>aI e2 ha q),e2,ae.d9 ha e3⟩
 | .dK ks ds,v,h=>by
  rw[Rep]at h ⊢;obtain⟨b,xs,e1,e0,e2,el,e3⟩:=h;exact⟨b,xs,e1,fun z=>z.elim e0 (fun q=>aI e2 ha q),e2,el,ae.d9 ha e3⟩
 | .dT ks ds,v,h=>by
  rw[Rep]at h ⊢;obtain⟨b,xs,e1,e0,e2,el,e3⟩:=h;exact⟨b,xs,e1,fun z=>z.elim e0 (fun q=>aI e2 ha q),e2,el,ae.d9 ha e3⟩
 | .scr ds,v,h=>by
  rw[Rep]at h ⊢;obtain⟨b,xs,e1,e2,e3⟩:=h;exact⟨b,xs,e1,e2,ae.d9 ha e3⟩
 | .exc c,v,h=>by rw[Rep]at h ⊢;exact h
 | .fT ks,v,h=>by rw[Rep]at h ⊢;exact h
theorem ae.d9{P:Addr->Prop}{K:PySem.W.Frag}{H:Hp}{a:Addr}(ha:H a=none):∀ {ds:List RL.D} {xs:List V},ae P K H ds xs->ae (fun p=>P p\/p=a) K H ds xs
 | [],xs,h=>by rw[ae]at h ⊢;exact h
 | d::r,xs,h=>by
  rw[ae]at h ⊢;obtain⟨x,t,e1,e2,e3⟩:=h;exact⟨x,t,e1,Rep.d9 ha e2,ae.d9 ha e3⟩
end
section st
variable{K:PySem.W.Frag}
def RVm.own(h:RVm K M σD σ H)(s:a5 H H1)(hi:M.contains i=true)(hi2:M.count i<2)(ha:H a=none)(r:Own K H1 d (.ref a)):RVm K M (σD.set i (some d)) (σ.set i (some (.ref a))) H1/\Fr' M σ H (σ.set i (some (.ref a))) H1:=by
 have sub:∀ b,aV M (σ.set i (some (.ref a))) b->aV M σ b\/b=a:=fun b ⟨j,hj,e⟩=>by
  by_cases hji:j=i
  ·subst hji
   have hlt:j<σ.length:=by
    have:=(List.getElem?_eq_some_iff.mp e).1;simpa using this
   rw[List.getElem?_set_self hlt]at e;cases e;exact .inr rfl
  ·rw[List.getElem?_set_ne (Ne.symm hji)]at e;exact .inl ⟨j,hj,e⟩
 have old:∀ b,aV M σ b->b≠a:=fun b p z=>h.oM b p (z▸ha);refine⟨⟨by simpa using h.len,fun j dj e=>?_,fun j w e=>?_,fun j k b hj hk e1 e2=>?_⟩,⟨fun b o e n=>⟨s _ _ e,fun z=>(sub b z).elim n fun q=>aI e ha q⟩,fun j hj=>List.getElem?_set_ne (fun z=>by subst z;lia)⟩⟩
 ·by_cases hj:j=i
  ·subst hj
   have hlt:j<σD.length:=by
    have:=(List.getElem?_eq_some_iff.mp e).1;simpa using this
   rw[List.getElem?_set_self hlt]at e;cases e;refine⟨.ref a,by rw[List.getElem?_set_self (by rw[<-h.len];exact hlt)],?_⟩;rw[if_pos hi];exact r
  ·rw[List.getElem?_set_ne (Ne.symm hj)]at e ⊢;obtain⟨v,h1,h2⟩:=h.val j dj e;refine⟨v,h1,?_⟩;by_cases hm:M.contains j=true
   ·rw[if_pos hm]at h2 ⊢;exact h2.same s
   ·rw[if_neg hm]at h2 ⊢;exact((h2.d9 ha).weak sub).same s
 ·by_cases hj:j=i
  ·subst hj
   have hlt:j<σ.length:=by
    have:=(List.getElem?_eq_some_iff.mp e).1;simpa using this
   exact⟨d,by rw[List.getElem?_set_self (by rw[h.len];exact hlt)]⟩
  ·rw[List.getElem?_set_ne (Ne.symm hj)]at e ⊢;exact h.non j w e
 ·by_cases h1:j=i
  ·by_cases h2:k=i
   ·rw[h1,h2]
   ·subst h1
    have hlt:j<σ.length:=by
     have:=(List.getElem?_eq_some_iff.mp e1).1;simpa using this
    rw[List.getElem?_set_self hlt]at e1;rw[List.getElem?_set_ne (Ne.symm h2)]at e2;cases e1;exact absurd rfl (old _ ⟨k,hk,e2⟩)
  ·rw[List.getElem?_set_ne (Ne.symm h1)]at e1;by_cases h2:k=i
   ·subst h2
    have hlt:k<σ.length:=by
     have:=(List.getElem?_eq_some_iff.mp e2).1;simpa using this
    rw[List.getElem?_set_self hlt]at e2;cases e2;exact absurd rfl (old _ ⟨j,hj,e1⟩)
   ·rw[List.getElem?_set_ne (Ne.symm h2)]at e2;exact h.sep j k b hj hk e1 e2
def RVm.iC(h:RVm K M σD σ H)(hi:M.contains i=true)(e:σ[i]?=some (some (.ref a)))(ha:H a=some o)(m:cu o)(r:Own K (upd H a o') d' (.ref a)):RVm K M (σD.set i (some d')) σ (upd H a o')/\Fr' M σ H σ (upd H a o'):=by
 have pa:aV M σ a:=⟨i,hi,e⟩
 refine⟨⟨by simpa using h.len,fun j dj e'=>?_,fun j w e'=>?_,h.sep⟩,⟨fun b u eb n=>⟨?_,n⟩,fun _ _=>rfl⟩⟩
 ·by_cases hj:j=i
  ·subst hj
   have hlt:j<σD.length:=by
    have:=(List.getElem?_eq_some_iff.mp e').1;simpa using this
   rw[List.getElem?_set_self hlt]at e';cases e';refine⟨.ref a,e,?_⟩;rw[if_pos hi];exact r
  ·rw[List.getElem?_set_ne (Ne.symm hj)]at e';obtain⟨v,h1,h2⟩:=h.val j dj e';refine⟨v,h1,?_⟩;by_cases hm:M.contains j=true
   ·rw[if_pos hm]at h2 ⊢;obtain⟨b,ob,rfl,hb,_⟩:=h2.ref
    have hne:b≠a:=fun z=>by subst z;exact hj (h.sep j i b hm hi h1 e)
    obtain⟨q1,q2,q3⟩:=h2;refine⟨q1,q2,?_⟩;have im:∀ {ds:List RL.D} {xs:List V},RL.au ds=true->ae nP K H ds xs->ae nP K (L2.upd H a o') ds xs:=fun hi r=>(ae.upd (P:=fun p=>p=a) ha m rfl (r.imm hi)).imm hi
    cases dj with
    | lst ds=>obtain⟨b',xs,e1,e0,e2,e3⟩:=aC q3;cases e1;rw[Rep];exact⟨b,xs,rfl,fun z=>z,by rw[L2.aL hne];exact e2,im q2 e3⟩
    | dK ks ds=>rw[Rep]at q3 ⊢;obtain⟨b',xs,e1,e0,e2,el,e3⟩:=q3;cases e1;exact⟨b,xs,rfl,fun z=>z,by rw[L2.aL hne];exact e2,el,im q2 e3⟩
    | dT ks ds=>rw[Rep]at q3 ⊢;obtain⟨b',xs,e1,e0,e2,el,e3⟩:=q3;cases e1;exact⟨b,xs,rfl,fun z=>z,by rw[L2.aL hne];exact e2,el,im q2 e3⟩
    | _=>cases q1
   ·rw[if_neg hm]at h2 ⊢;exact Rep.upd ha m pa h2
 ·obtain⟨dj,hd⟩:=h.non j w e';by_cases hj:j=i
  ·subst hj;have hlt:=(List.getElem?_eq_some_iff.mp hd).1;exact⟨d',by rw[List.getElem?_set_self hlt]⟩
  ·exact⟨dj,by rw[List.getElem?_set_ne (Ne.symm hj)];exact hd⟩
 ·have hb:b≠a:=fun z=>n (z▸pa);rw[L2.aL hb];exact eb
end st
abbrev sZ(K:PySem.W.Frag)(M:List Nat)(D:Ends)(σ:L2.St)(H:Hp):RL.Out->RL.St->Prop
 | .nx,σD'=>∀ σ' H',RVm K M σD' σ' H'->Fr' M σ H σ' H'->D.nx σ' H'
 | .rt d,σD'=>∀ σ1 H1 v H',RVm K M σD' σ1 H1->Fr' M σ H σ1 H1->a5 H1 H'->(∀ P:Addr->Prop,(∀ p,P p->H1 p≠none/\¬ aV M σ1 p)->Rep P K H' d v)->D.rt v H'
def sZ.from{K:PySem.W.Frag}(h:sZ K M D σ H r σD')(f:Fr' M σ H σ1 H1):sZ K M D σ1 H1 r σD':=by
 cases r with
 | nx=>exact fun σ2 H2 rv2 fr2=>h σ2 H2 rv2 (f.trans fr2)
 | rt d=>exact fun σ1 H1 v H2 rv2 fr2 sm rp=>h σ1 H1 v H2 rv2 (f.trans fr2) sm rp
abbrev tS(K:PySem.W.Frag)(M:List Nat)(f:RL.St->Option (RL.Out × RL.St)):TS:=fun D σ H=>∃ σD r σD',RVm K M σD σ H/\f σD=some (r,σD')/\sZ K M D σ H r σD'
abbrev SS(X:Cx)(cl:RL.Cl)(M:List Nat)(st:Stmt)(s:RL.S):Prop:=PS X st (tS X.K M (RL.evS cl M s))
abbrev SSs(X:Cx)(cl:RL.Cl)(M:List Nat)(st:List Stmt)(s:RL.Ss):Prop:=PSs X st (tS X.K M (RL.ah cl M s))
section rules
variable{st:Stmt}{i j:Nat}
def BN:SSs X cl M [] .nil:=by
 refine PSs.weak B4 fun D σ H h=>?_;obtain⟨σD,r,σD',rv,e,k⟩:=h;rw[RL.ah]at e;cases e;exact k σ H rv (Fr'.same (a5.refl H))
def zZ(h1:SS X cl M st s)(h2:SSs X cl M sts r):SSs X cl M (st::sts) (.cons s r):=by
 refine PSs.weak (iR h1 h2) fun D σ H h=>?_;obtain⟨σD,o,σD',rv,e,k⟩:=h;rw[RL.ah]at e;obtain⟨p,e1,e2⟩:=bind_some e;obtain⟨o1,σ1⟩:=p;refine⟨σD,o1,σ1,rv,e1,?_⟩
 cases o1 with
 |rt d=>
  cases e2;exact k
 |nx=>
  exact fun σ' H' rv' fr'=>⟨σ1,o,σD',rv',e2,k.from fr'⟩
def F0(h:SA X cl st i e')(hi:M.contains i=false):SS X cl M st (.asg i e'):=by
 refine PS.weak h fun D σ H h=>?_;obtain⟨σD,o,σD',rv,e,k⟩:=h;obtain⟨d,e1,e2⟩:=bind_some e;split at e2
 ·rename_i ok;cases e2;refine⟨σD,d,rv.rv0,e1,fun v H1 r1=>k _ _ ?_ (Fr'.bind hi r1.same)⟩;refine(rv.same r1.same).bind hi ?_;unfold RL.aN at ok;rw[Bool.or_eq_true,Bool.or_eq_true,Bool.and_eq_true]at ok;rcases ok with(q | ⟨q1,q2⟩) | q
  ·exact r1.rep.imm q
  ·have rp:=r1.rep;have fr:j2 d=true->∀ a,v=.ref a->¬ aV M σ a:=fun m a z p=>rv.oM a p (r1.fresh q2 m a z)
   cases d with
   | lst ds=>obtain⟨a,xs,e1,e0,e2,e3⟩:=aC rp;rw[Rep];exact⟨a,xs,e1,fr rfl a e1,e2,e3.imm q1⟩
   | dK ks ds=>rw[Rep]at rp ⊢;obtain⟨a,xs,e1,e0,e2,el,e3⟩:=rp;exact⟨a,xs,e1,fr rfl a e1,e2,el,e3.imm q1⟩
   | dT ks ds=>rw[Rep]at rp ⊢;obtain⟨a,xs,e1,e0,e2,el,e3⟩:=rp;exact⟨a,xs,e1,fr rfl a e1,e2,el,e3.imm q1⟩
   | _=>cases q1
  ·refine r1.av M q _ rv.oM fun j dj vj hj h1 h2=>?_;obtain⟨v',h3,h4⟩:=rv.val j dj h1;rw[h2]at h3;cases h3;rw[if_neg (by rw[hj];decide)]at h4;exact h4
 ·cases e2
def Ef(h:SA X cl st i e')(hi:M.contains i=true)(hi2:M.count i<2):SS X cl M st (.own i e'):=by
 refine PS.weak h fun D σ H h=>?_;obtain⟨σD,o,σD',rv,e,k⟩:=h;obtain⟨d,e1,e2⟩:=bind_some e;split at e2
 ·rename_i ok;cases e2;rw[Bool.and_eq_true]at ok;refine⟨σD,d,rv.rv0,e1,fun v H1 r1=>?_⟩
  have m:j2 d=true:=by
   cases d with
   | lst _=>rfl
   | dK _ _=>rfl
   | dT _ _=>rfl
   | _=>cases ok.1
  have ow:Own X.K H1 d v:=⟨m,ok.1,r1.rep⟩
  obtain⟨a,ob,rfl,_,_⟩:=ow.ref;obtain⟨h1,h2⟩:=rv.own r1.same hi hi2 (r1.fresh ok.2 m a rfl) ow;exact k _ _ h1 h2
 ·cases e2
def Ik{c:Expr}(hc:ST X cl c c')(ha:SSs X cl M a a')(hb:SSs X cl M b b'):SS X cl M (.If c a b pos) (.ife c' a' b'):=by
 refine PS.weak (Bc hc ha hb) fun D σ H h=>?_;obtain⟨σD,o,σD',rv,e,k⟩:=h;obtain⟨t,e1,e2⟩:=bind_some e;refine⟨σD,t,rv.rv0,e1,fun H1 s1=>?_⟩;have k1:=k.from (Fr'.same (σ:=σ) s1)
 cases t with
 | true=>exact fq ⟨σD,o,σD',rv.same s1,e2,k1⟩
 | false=>exact fY ⟨σD,o,σD',rv.same s1,e2,k1⟩
def Dl(he:SE X cl e e')(hv:∀ i,e'=.var i->M.contains i=false):SS X cl M (.Return (some e) pos) (.ret e'):=by
 refine PS.weak (ye he) fun D σ H h=>?_;obtain⟨σD,o,σD',rv,ev,k⟩:=h;obtain⟨d,e1,e2⟩:=bind_some ev;split at e2
 ·rename_i ok;cases e2;refine⟨σD,d,rv.rv0,e1,fun v H1 r1=>k σ H v H1 rv (Fr'.same (a5.refl H)) r1.same fun P hP=>?_⟩;unfold RL.bh at ok;rw[Bool.or_eq_true,Bool.and_eq_true,Bool.or_eq_true]at ok
  rcases ok with q | ⟨q1,q2⟩
  ·exact r1.rep.imm q
  ·have rp:=r1.rep
   have fr:j2 d=true->∀ a,v=.ref a->¬ P a:=fun m a z p=>by
    rcases q2 with q | q
    ·exact(hP a p).1 (r1.fresh q m a z)
    ·cases e' with
     |var i=>
      have hi:M.contains i=true:=q;rw[hv i rfl]at hi;cases hi
     | _=>cases q
   cases d with
   | lst ds=>obtain⟨a,xs,e1,e0,e2,e3⟩:=aC rp;rw[Rep];exact⟨a,xs,e1,fr rfl a e1,e2,e3.imm q1⟩
   | dK ks ds=>rw[Rep]at rp ⊢;obtain⟨a,xs,e1,e0,e2,el,e3⟩:=rp;exact⟨a,xs,e1,fr rfl a e1,e2,el,e3.imm q1⟩
   | dT ks ds=>rw[Rep]at rp ⊢;obtain⟨a,xs,e1,e0,e2,el,e3⟩:=rp;exact⟨a,xs,e1,fr rfl a e1,e2,el,e3.imm q1⟩
   | _=>cases q1
 ·cases e2
def Df(hN:X.N[i]?=some x)(hv:Vis X.env.scope x)(hd:(x == ("__debug__" : Str))=false)(hcd:(x == ("__classdict__" : Str))=false)(hi:M.contains i=true):SS X cl M (.Return (some (.Name x p)) pos) (.ret (.var i)):=by
 refine PS.weak (ye (eh hN hv hd hcd)) fun D σ H h=>?_;obtain⟨σD,o,σD',rv,e,k⟩:=h;obtain⟨d,e1,e2⟩:=bind_some e;split at e2
 ·cases e2
  have e3:σD[i]?=some (some d):=by
   obtain⟨o,h1,h2⟩:=bind_some e1
   cases o with
   | none=>cases h2
   | some z=>cases h2;exact h1
  obtain⟨v,h1,h2⟩:=rv.val i d e3;rw[if_pos hi]at h2;refine⟨v,h1,k σ H v H rv (Fr'.same (a5.refl H)) (a5.refl H) fun P hP=>?_⟩;obtain⟨a,o,rfl,_,_⟩:=h2.ref;have np:¬ P a:=fun p=>(hP a p).2 ⟨i,hi,h1⟩;obtain⟨q1,q2,q3⟩:=h2
  cases d with
  | lst ds=>obtain⟨b,xs,e1,e0,e2,e3⟩:=aC q3;cases e1;rw[Rep];exact⟨a,xs,rfl,np,e2,e3.imm q2⟩
  | dK ks ds=>rw[Rep]at q3 ⊢;obtain⟨b,xs,e1,e0,e2,el,e3⟩:=q3;cases e1;exact⟨a,xs,rfl,np,e2,el,e3.imm q2⟩
  | dT ks ds=>rw[Rep]at q3 ⊢;obtain⟨b,xs,e1,e0,e2,el,e3⟩:=q3;cases e1;exact⟨a,xs,rfl,np,e2,el,e3.imm q2⟩
  | _=>cases q1
 ·cases e2
def slot_get{σD:RL.St}(h:(σD[i]?).bind id=some d):σD[i]?=some (some d):=by
 obtain⟨o,h1,h2⟩:=bind_some h
 cases o with
 | none=>cases h2
 | some z=>cases h2;exact h1
def EN(h:PS X st (nH (tBM X.K "list" uH (gF i) (tEs X.K cl (.cons e' .nil)))))(hi:M.contains i=true):SS X cl M st (.app i e'):=by
 refine PS.weak h fun D σ H h=>?_;obtain⟨σD,o,σD',rv,e,k⟩:=h;obtain⟨d,e1,e2⟩:=bind_some e;obtain⟨l,e3,e4⟩:=bind_some e2
 cases l with
 |lst ds=>
  dsimp only at e4;split at e4
  ·rename_i ok;cases e4;rw[Bool.and_eq_true,decide_eq_true_eq]at ok;obtain⟨v,h1,h2⟩:=rv.val i _ (slot_get e3);rw[if_pos hi]at h2;obtain⟨q1,q2,q3⟩:=h2;obtain⟨a,xs,rfl,_,f2,f3⟩:=aC q3;refine⟨.ref a,h1,.inl ⟨rfl,xs,SqL.of f2⟩,σD,[d],rv.rv0,by rw[RL.evs,e1];rfl,fun vs H1 s1 r1=>?_⟩;rw[ae]at r1;obtain⟨y,t,rfl,r2,r3⟩:=r1;rw[ae]at r3;subst r3
   have hl:xs.length<sizeLine:=by rw[<-f3.length];exact Nat.lt_of_lt_of_le ok.2 bU
   refine⟨a,xs,y,rfl,rfl,s1 _ _ f2,hl,?_⟩
   have im:RL.au (ds++[d])=true:=by
    have:∀ l:List RL.D,RL.au l=true->RL.au (l++[d])=true:=fun l=>by
     induction l with
     | nil=>intro _;simp[RL.au,ok.1]
     | cons z r ih=>intro h;rw[RL.au,Bool.and_eq_true]at h;rw[List.cons_append,RL.au,h.1,ih h.2];rfl
    exact this ds q2
   have rs:ae nP X.K (upd H1 a (.lst (xs++[y]))) (ds++[d]) (xs++[y]):=(ae.upd (P:=fun p=>p=a) (s1 _ _ f2) (.inl ⟨_,rfl⟩) rfl ((ae.append (f3.same s1) (ae.cons r2 ae.nil)).imm im)).imm im;obtain⟨g1,g2⟩:=(rv.same s1).iC (d':=.lst (ds++[d])) (o':=.lst (xs++[y])) hi h1 (s1 _ _ f2) (.inl ⟨_,rfl⟩) ⟨rfl,im,by rw[Rep];exact⟨a,_,rfl,fun z=>z,br,rs⟩⟩;exact k _ _ g1 ((Fr'.same s1).trans g2)
  ·cases e4
 | _=>cases e4
end rules
def RVm.b8{K:PySem.W.Frag}{M:List Nat}{H:Hp}:∀ {tg:List Nat} {ds:List RL.D} {vs:List V} {σD:RL.St} {σ:L2.St},RVm K M σD σ H->(∀ i∈tg,M.contains i=false)->tg.length=ds.length->RL.au ds=true->ae nP K H ds vs ->
  RVm K M (dQ tg ds σD) (cK tg vs σ) H/\aV M (cK tg vs σ)=aV M σ
 | [],_,_,_,_,h,_,_,_,_=>⟨h,rfl⟩
 | i::is,[],_,_,_,_,_,hl,_,_=>by simp at hl
 | i::is,d::ds,vs,σD,σ,h,hM,hl,him,r=>by
  rw[ae]at r;obtain⟨v,t,rfl,r1,r2⟩:=r;rw[RL.au,Bool.and_eq_true]at him;rw[dQ,cK];have hi:=hM i List.mem_cons_self;obtain⟨g1,g2⟩:=RVm.b8 (h.bind hi (r1.imm him.1)) (fun j hj=>hM j (List.mem_cons_of_mem _ hj)) (by simpa using hl) him.2 r2;exact⟨g1,g2.trans (aV.set hi)⟩
def rR{M tg:List Nat}{vs:List V}{σ:L2.St}{j:Nat}(hM:∀ i∈tg,M.contains i=false)(hj:2<=M.count j):(cK tg vs σ)[j]?=σ[j]?:=by
 refine oZ tg vs σ j ?_
 cases hc:tg.contains j with
 | false=>rfl
 |true=>
  have:=hM j (by simpa using hc);rw[kE hj]at this;cases this
section rules
variable{X:Cx}{cl:RL.Cl}{M:List Nat}{st:Stmt}{tgE iter:Expr}{body:List Stmt}{b:RL.Ss}{it:RL.It}{tg:List Nat}{e' k' a' b':RL.E}{i j:Nat}{pos:Pos}
def vW{f:RL.St->Option (RL.Out × RL.St)}{d:RL.D}{ds:List RL.D}{σ:RL.St}{p:RL.Out × RL.St}(h:RL.aY f tg (d::ds) σ=some p):d.imm=true/\∃ σ1 o σ2,RL.aQ tg d σ=some σ1/\f σ1=some (o,σ2) /\
  (match o with | .nx=>RL.aY f tg ds σ2=some p | .rt d=>p=(.rt d,σ2)):=by
 rw[RL.aY]at h;split at h
 ·rename_i him;obtain⟨σ1,h1,h⟩:=bind_some h;obtain⟨⟨o,σ2⟩,h2,h⟩:=bind_some h;refine⟨him,σ1,o,σ2,h1,h2,?_⟩
  cases o with
  | nx=>exact h
  | rt d=>exact(Option.some.inj h).symm
 ·cases h
def FA(hx:X.xe=fun _ _=>False)(hc:X.calm=true)(hi:SI X cl tgE iter it)(hg:PG X tgE (gT X.K tg))(hb:SSs X cl M body b)(hs:∀ x,foldedSetIterable iter X.env x=pure x)(hav:RL.wd M it=true)(hM:∀ i∈tg,M.contains i=false) :
  SS X cl M (.For tgE iter body [] pos) (.forr tg it b):=by
 refine PS.weak (F6 (by rw[hx];exact PassesOwn.never) hc hi hg hb hs) fun D σ H h=>?_;obtain⟨σD,r,σD',rv,e,k⟩:=h;obtain⟨ds,e1,e2⟩:=bind_some e;refine⟨σD,ds,rv.rv0,e1,fun J H1 s1 src=>?_⟩
 have ok:gB X.K J ds (aV M σ) H1:=src.2 M (aV M σ) hav rv.A1 fun j dj vj hj h1 h2=>by
  obtain⟨v',h3,h4⟩:=rv.val j dj h1;rw[h2]at h3;cases h3;rw[if_neg (by rw[hj];decide)]at h4;exact h4
 have k1:=k.from (Fr'.same (σ:=σ) s1);refine⟨fun i m σ2 H2=>∃ σD2,m=ds.length-i/\i<=ds.length/\RVm X.K M σD2 σ2 H2/\Fr' M σ H1 σ2 H2/\RL.aY (RL.ah cl M b) tg (ds.drop i) σD2=some (r,σD'),⟨_,σD,rfl,Nat.zero_le _,rv.same s1,Fr'.same (a5.refl _),e2⟩,?_⟩;rintro i m σ2 H2 ⟨σD2,rfl,hi2,rv2,fr2,hl⟩;have off:Off (aV M σ) H1 H2:=fun b o n e=>(fr2.1 b o e n).1;by_cases hlt:i<ds.length
 ·refine .inr ⟨ok.go H2 i off hlt,fun σ' H'=>∃ m',m'<ds.length-i/\∃ σD2,m'=ds.length-(i+1)/\i+1<=ds.length/\RVm X.K M σD2 σ' H'/\Fr' M σ H1 σ' H'/\RL.aY (RL.ah cl M b) tg (ds.drop (i+1)) σD2=some (r,σD'),fun σ' H' z=>z,fun x H3 y=>?_⟩;rw[List.drop_eq_getElem_cons hlt]at hl;obtain⟨him,σ3,o,σ4,h1,h2,h3⟩:=vW hl;obtain⟨s3,rp⟩:=ok.yld H2 i ds[i] x H3 off (by simp[hlt]) y;obtain⟨dv,vs,q1,q2,q3,q4,q5⟩:=Bl h1 (rp (.inl him));refine q5 _ _ ?_;obtain⟨rv3,as3⟩:=(rv2.same s3).b8 hM q2 (q4 him) q3
  have fr3:Fr' M σ H1 (cK tg vs σ2) H3:=⟨fun b o e n=>⟨s3 _ _ (fr2.1 b o e n).1,by rw[as3];exact(fr2.1 b o e n).2⟩,fun j hj=>(rR hM hj).trans (fr2.2 j hj)⟩
  refine⟨σ3,o,σ4,by rw[q1];exact rv3,h2,?_⟩
  cases o with
  | nx=>exact fun σ' H' rv' fr'=>⟨_,by lia,σ4,rfl,hlt,rv',fr3.trans fr',h3⟩
  |rt d=>
   cases h3;exact fun σ' H' v H4 rv' fr' sm rp=>k1 σ' H' v H4 rv' (fr3.trans fr') sm rp
 ·have e:i=ds.length:=by lia
  subst e;rw[List.drop_length,RL.aY]at hl;cases hl;exact .inl ⟨ok.stop H2 off,k1 σ2 H2 rv2 fr2⟩
def A0{n:Nat}{k:Int}{j:Nat}(h:RL.jN n k=some j):ixN n k=some j:=h
def yN:∀ {ds:List RL.D} {d:RL.D} (j:Nat),RL.au ds=true->d.imm=true->RL.au (ds.set j d)=true
 | [],d,j,_,_=>by simp[RL.au]
 | x::r,d,0,h,hd=>by rw[RL.au,Bool.and_eq_true]at h;rw[List.set_cons_zero,RL.au,hd,h.2];rfl
 | x::r,d,j+1,h,hd=>by rw[RL.au,Bool.and_eq_true]at h;rw[List.set_cons_succ,RL.au,h.1,yN j h.2 hd];rfl
def ot{H:Hp}{a:Addr}{ds:List RL.D}{xs ys:List V}{ds':List RL.D}(f2:H a=some (.lst xs))(im:RL.au ds'=true)(rs:ae nP X.K H ds' ys):Own X.K (upd H a (.lst ys)) (.lst ds') (.ref a) :=
 ⟨rfl,im,by rw[Rep];exact⟨a,_,rfl,fun z=>z,br,(ae.upd (P:=fun p=>p=a) f2 (.inl ⟨_,rfl⟩) rfl (rs.imm im)).imm im⟩⟩
def GC(h:PS X st (sT (tE X.K cl e') (zK (gF i) (tE X.K cl k') vc)))(hi:M.contains i=true)(hl:True):PS X st (tS X.K M fun σD=>(RL.ev cl σD e').bind fun d=>(RL.ev cl σD k').bind fun kk=>((σD[i]?).bind id).bind fun l=>match l with
  | .lst _=>if d.imm then(RL.dJ l kk d).map fun l'=>(.nx,σD.set i (some l'))else none
  | _=>none):=by
 refine PS.weak h fun D σ H h=>?_;obtain⟨σD,o,σD',rv,e,k⟩:=h;obtain⟨d,e1,e⟩:=bind_some e;obtain⟨kk,e2,e⟩:=bind_some e;obtain⟨l,e3,e⟩:=bind_some e
 cases l with
 |lst ds=>
  dsimp only at e;split at e
  ·rename_i him;obtain⟨l',e4,e5⟩:=map_some e;cases e5;obtain⟨v,h1,h2⟩:=rv.val i _ (slot_get e3);rw[if_pos hi]at h2;obtain⟨q1,q2,q3⟩:=h2;obtain⟨a,xs,rfl,_,f2,f3⟩:=aC q3
   cases kk with
   |int kk=>
    obtain⟨jx,e6,e7⟩:=map_some (show(RL.jN ds.length kk).map (fun j=>RL.D.lst (ds.set j d))=some l' from e4);subst e7;refine⟨σD,d,rv.rv0,e1,fun y H1 r1=>⟨.ref a,h1,σD,.int kk,rv.rv0.same r1.same,e2,fun z H2 r2=>?_⟩⟩;have sm:=r1.same.trans r2.same;refine⟨a,xs,kk,jx,rfl,aj r2.rep,sm _ _ f2,?_,?_⟩
    ·rw[<-f3.length];exact A0 e6
    ·have im:=yN jx q2 him;obtain⟨g1,g2⟩:=(rv.same sm).iC (d':=.lst (ds.set jx d)) (o':=.lst (xs.set jx y)) hi h1 (sm _ _ f2) (.inl ⟨_,rfl⟩) (ot (ds:=ds) (sm _ _ f2) im (ae.set jx (f3.same sm) (r1.rep.same r2.same)));exact k _ _ g1 ((Fr'.same sm).trans g2)
   | _=>cases e4
  ·cases e
 | _=>cases e
def oj:∀ {ds:List RL.D},RL.au ds=true->RL.au ds.dropLast=true
 | [],_=>rfl
 | [x],_=>rfl
 | x::y::r,h=>by rw[RL.au,Bool.and_eq_true]at h;rw[List.dropLast_cons_cons,RL.au,h.1,oj h.2];rfl
def yk:∀ {ds:List RL.D} {i:Nat} {d:RL.D},RL.au ds=true->ds[i]?=some d->d.imm=true
 | [],i,d,_,e=>by simp at e
 | x::r,0,d,h,e=>by rw[RL.au,Bool.and_eq_true]at h;simp at e;subst e;exact h.1
 | x::r,i+1,d,h,e=>by rw[RL.au,Bool.and_eq_true]at h;exact yk (i:=i) h.2 (by simpa using e)
def ae.dropLast{P:Addr->Prop}{K:PySem.W.Frag}{H:Hp}{ds:List RL.D}{xs:List V}(h:ae P K H ds xs):ae P K H ds.dropLast xs.dropLast:=by
 rw[List.dropLast_eq_take,List.dropLast_eq_take,<-h.length];exact h.take _
def DT(h:PS X st (Fi i j (tEs X.K cl (.cons a' (.cons b' .nil)))))(hi:M.contains i=false)(hj:M.contains j=false):SS X cl M st (.par i j a' b'):=by
 refine PS.weak h fun D σ H h=>?_;obtain⟨σD,o,σD',rv,e,k⟩:=h;obtain⟨x,e1,e⟩:=bind_some e;obtain⟨y,e2,e⟩:=bind_some e;split at e
 ·rename_i him;cases e;rw[Bool.and_eq_true]at him;refine⟨σD,[x,y],rv.rv0,by rw[RL.evs,e1,RL.evs,e2];rfl,fun vs H1 s1 r1=>?_⟩;rw[ae]at r1;obtain⟨v,t,rfl,r2,r3⟩:=r1;rw[ae]at r3;obtain⟨u,t,rfl,r4,r5⟩:=r3;rw[ae]at r5;subst r5;refine⟨v,u,rfl,k _ _ ?_ ?_⟩
  ·refine((rv.same s1).bind hi (r2.imm him.1)).bind hj (r4.imm him.2)
  ·exact(Fr'.bind hi s1).trans (Fr'.bind hj (a5.refl _))
 ·cases e
def EX(h:PS X st (nH (tE X.K cl e'))):SS X cl M st (.exc e'):=by
 refine PS.weak h fun D σ H h=>?_;obtain⟨σD,o,σD',rv,e,k⟩:=h;obtain⟨d,e1,e2⟩:=map_some e;cases e2;exact⟨σD,d,rv.rv0,e1,fun v H1 r1=>k _ _ (rv.same r1.same) (Fr'.same r1.same)⟩
end rules
section rules
variable{st:Stmt}
def Cb(h:PS X st (sT (tE X.K cl e') (fun v σ H Q=>nO X.K is.length (gs is) v σ H Q\/nR X.K is.length (gs is) v σ H Q)))(hM:∀ i∈is,M.contains i=false):SS X cl M st (.unp is e'):=by
 refine PS.weak h fun D σ H h=>?_;obtain⟨σD,o,σD',rv,e,k⟩:=h;obtain⟨d,e1,e⟩:=bind_some e;obtain⟨ds,e2,e⟩:=bind_some e;split at e
 ·rename_i him;obtain⟨σ1,e3,e4⟩:=map_some e;cases e4;obtain⟨q1,q2⟩:=fH e3;refine⟨σD,d,rv.rv0,e1,fun v H1 r1=>?_⟩;obtain⟨p,xs,rfl,hp,rs⟩:=eY e2 r1.rep;obtain⟨g1,g2⟩:=(rv.same r1.same).b8 (vs:=xs) hM q1 him rs;have fin:D.nx (cK is xs σ) H1:=k _ _ (by rw[q2];exact g1) ⟨fun b o e n=>⟨r1.same _ _ e,by rw[g2];exact n⟩,fun j hj=>rR hM hj⟩
  have hl:xs.length=is.length:=by rw[<-rs.length,q1]
  rcases hp with⟨hp,_⟩ | ⟨hp,_⟩
  ·exact .inr ⟨p,xs,rfl,SqL.of hp,hl,je hl.symm fin⟩
  ·exact .inl ⟨p,xs,rfl,SqT.of hp,hl,je hl.symm fin⟩
 ·cases e
def lT(xs:List α)(k:Int):(xs.drop (HT.sIx xs.length 0 none)).take (HT.sIx xs.length xs.length (some k)-HT.sIx xs.length 0 none)=xs.take (RL.cutAt xs.length k):=by
 rw[HT.zm,List.drop_zero,Nat.sub_zero];congr 1;have h:=HT.lr k xs.length xs.length;unfold RL.cutAt;split at h
 ·rename_i h0;rw[if_neg (by lia)];lia
 ·rename_i h0;rw[if_pos (by lia)];lia
end rules
section rules
variable{X:Cx}
def one(rv:RV0 X.K σD σ H)(ea:RL.ev cl σD a'=some d)(k:∀ v H1,a5 H H1->Rep nP X.K H1 d v->R [v] H1):tEs X.K cl (.cons a' .nil) σ H R :=
 ⟨σD,[d],rv,by rw[RL.evs,ea];rfl,fun vs H1 s1 r1=>by
  rw[ae]at r1;obtain⟨v,t,rfl,r2,r3⟩:=r1;rw[ae]at r3;subst r3
  exact k v H1 s1 r2⟩
def pair(rv:RV0 X.K σD σ H)(ea:RL.ev cl σD a'=some d)(eb:RL.ev cl σD b'=some d')(k:∀ v u H1,a5 H H1->Rep nP X.K H1 d v->Rep nP X.K H1 d' u->R [v,u] H1):tEs X.K cl (.cons a' (.cons b' .nil)) σ H R :=
 ⟨σD,[d,d'],rv,by rw[RL.evs,ea,RL.evs,eb];rfl,fun vs H1 s1 r1=>by
  rw[ae]at r1;obtain⟨v,t,rfl,r2,r3⟩:=r1;rw[ae]at r3;obtain⟨u,t,rfl,r4,r5⟩:=r3;rw[ae]at r5;subst r5
  exact k v u H1 s1 r2 r4⟩
def jD{id:String}{r:List V->Hp->VK->Prop}{b:RL.Bi}(hc:bF X (.builtin id) r)(hg:Gl X x)(hm:X.mg x=none)(hv:bootBuiltins x=some (.builtin id))(ha:SE X cl a a')(hn:noStar a=true)(h1:x ≠ "__name__")(h2:(x == ("__debug__" : Str))=false)
 (ok:∀ (σD:RL.St) (σ:L2.St) (H H1:Hp) (y d:RL.D) (v:V) (Q:VK),RL.biV b y=some d->a5 H H1->Rep nP X.K H1 y v->(∀ w H',Res X.K σD σ H (.bi b a') d w H'->Q w H')->r [v] H1 Q):SE X cl (.Call (.Name x p) [a] [] pos) (.bi b a'):=by
 refine PE.weak (lS hc hg hm hv (bR (cl:=cl) ha cV hn) h1 h2 (a9 [] hn) rfl) fun σ H Q h=>?_;obtain⟨σD,d,rv,e,k⟩:=h;obtain⟨y,ea,e⟩:=bind_some e;exact one rv ea fun v H1 s1 r1=>ok σD σ H H1 y d v Q e s1 r1 k
def jF{T:String}{r:List V->Hp->VK->Prop}{b:RL.Bi}(hc:bF X (.type T) r)(hg:Gl X x)(hm:X.mg x=none)(hv:bootBuiltins x=some (.type T))(ha:SE X cl a a')(hn:noStar a=true)(h1:x ≠ "__name__")(h2:(x == ("__debug__" : Str))=false)
 (ok:∀ (σD:RL.St) (σ:L2.St) (H H1:Hp) (y d:RL.D) (v:V) (Q:VK),RL.biV b y=some d->a5 H H1->Rep nP X.K H1 y v->(∀ w H',Res X.K σD σ H (.bi b a') d w H'->Q w H')->r [v] H1 Q):SE X cl (.Call (.Name x p) [a] [] pos) (.bi b a'):=by
 refine PE.weak (c8 hc hg hm hv (bR (cl:=cl) ha cV hn) h1 h2 (a9 [] hn) rfl) fun σ H Q h=>?_;obtain⟨σD,d,rv,e,k⟩:=h;obtain⟨y,ea,e⟩:=bind_some e;exact one rv ea fun v H1 s1 r1=>ok σD σ H H1 y d v Q e s1 r1 k
def C7(hg:Gl X "list")(hm:X.mg "list" = none)(ha:SE X cl a a')(hn:noStar a=true):SE X cl (.Call (.Name "list" p) [a] [] pos) (.bi .list a'):=by
 refine jF sV hg hm (by decide +kernel) ha hn (by decide) (by decide) fun σD σ H H1 y d v Q e s1 r1 k=>?_;obtain⟨ds,e1,e2⟩:=map_some (show(RL.items y).map RL.D.lst=some d from e);subst e2;obtain⟨q,xs,rfl,hp,rs⟩:=eY e1 r1;refine⟨q,xs,rfl,?_,fun l hl=>k _ _ (dZ s1 hl rs fun _=>rfl)⟩
 rcases hp with⟨z,_⟩ | ⟨z,_⟩
 ·exact .inl (SqL.of z)
 ·exact .inr (SqT.of z)
def zc(hg:Gl X "tuple")(hm:X.mg "tuple" = none)(ha:SE X cl a a')(hn:noStar a=true):SE X cl (.Call (.Name "tuple" p) [a] [] pos) (.bi .tuple a'):=by
 refine jF pU hg hm (by decide +kernel) ha hn (by decide) (by decide) fun σD σ H H1 y d v Q e s1 r1 k=>?_;obtain⟨ds,e1,e2⟩:=map_some (show(RL.items y).map RL.D.tup=some d from e);subst e2;obtain⟨q,xs,rfl,hp,rs⟩:=eY e1 r1
 rcases hp with⟨z,_⟩ | ⟨z,_⟩
 ·exact⟨q,xs,rfl,.inl ⟨SqL.of z,fun l hl=>k _ _ (iS s1 hl rs fun _=>rfl)⟩⟩
 ·refine⟨q,xs,rfl,.inr ⟨SqT.of z,k _ _ ⟨s1,?_,fun _ m=>(by cases m),fun M z=>nomatch (show false=true from z)⟩⟩⟩;rw[Rep];exact⟨q,xs,rfl,z,rs⟩
def Ey(hg:Gl X "int")(hm:X.mg "int" = none)(ha:SE X cl a a')(hn:noStar a=true):SE X cl (.Call (.Name "int" p) [a] [] pos) (.bi .int a'):=by
 refine jF yy hg hm (by decide +kernel) ha hn (by decide) (by decide) fun σD σ H H1 y d v Q e s1 r1 k=>?_
 cases y<;>first | (cases e;done) | skip
 case bl t=>cases e;exact .inr ⟨t,by rw[aZ r1],k _ _ (cW s1 aX rfl)⟩
 case int t=>cases e;exact .inl ⟨t,by rw[aj r1],k _ _ (cW s1 aX rfl)⟩
def vV{prog:Program}{w:World}{K:Type} [DecidableEq K]{knd:HeapKind prog w K}(hd:(d == sysModules)=false) :
  MeetsIn prog w (Builtin.«dict.__len__» ⟨[.ref d],[]⟩) (fun _ R s=>∃ xs,s.heap.DictOfH knd d xs/\R (.ok (.ret (.int xs.length s.toks))) { s with toks:=s.toks+1 }) :=
 .of_wp fun A R s ⟨xs,hm,h⟩=>by
  obtain⟨o,es,ep,ho,hc,hdat,hk,_,_⟩:=hm;show wpAny _ _ (dictSize d >>= _) _ _ s;unfold dictSize;refine wpAny_bind (wpAny_bind (wpAny_dictEntries ho hdat (wpAny_pure ?_)));show wpAny _ _ (Builtin.Dict.pendingCount d >>= _) _ _ s;refine wpAny_bind (wpAny_pendingCount_other hd ?_);refine wpAny_ret_mkInt ?_;rw[Nat.add_zero,size_of_entries hk];exact h
def pz{prog:Program}{w:World}{K:Type} [DecidableEq K]{knd:HeapKind prog w K}{A:Around}{E:Value->Shared->Prop}{s:Shared}{d:Addr}{xs:List (K × Addr × Value)}{Q:Value->Shared->Prop}(hd:(d == sysModules)=false)(hm:s.heap.DictOfH knd d xs)(hfit:(xs.length:Int)<2 ^ 63)
 (h:Q (.int xs.length (s.toks+1)) { s with toks:=s.toks+1+1 }):wpAny (model prog w) A (call (.builtin "len") [.ref d]) Q E s:=by
 refine Calls.call_function_entry kind_len plain_len entry_len (args_len1 _) ?_;unfold Builtin.«len»;refine wpAny_bind (m:=oneArg "len" _) (wpAny_pure ?_)
 refine wpAny_bind (m:=callSpecial? (.ref d) (Str.ofString "__len__")) (wpAny_callSpecial?_slot (name:=Str.ofString "__len__") hm.typeIs F.slot_dict_len
  (call_meetsIn F.slot_dict_len hm.typeIs F.entry_dict_len (F.args_dict_len_1 _) (vV hd) ⟨xs,hm,?_⟩))
 show wpAny _ _ _ _ _ { s with toks:=s.toks+1 };refine wpAny_bind (wpAny_holding (wpAny_pure ?_));refine wpAny_bind (wpAny_letGo ?_);show wpAny _ _ (if((xs.length:Nat):Int)<0 then _ else _) _ _ _;rw[if_neg (by omega)];show wpAny _ _ (if((xs.length:Nat):Int)≥2 ^ 63 then _ else _) _ _ _;rw[if_neg (by omega)];exact wpAny_bind (wpAny_mkInt (wpAny_pure ⟨_,rfl,h⟩))
def wA:bF X (.builtin "len") (fun xs H Q=>∃ a kvs,xs=[V.ref a]/\H a=some (.dT kvs)/\Q (.int kvs.length) H):=by
 intro pins s σ H xs us Q I r h;obtain⟨a,kvs,rfl,ha,q⟩:=h;obtain⟨u,rfl,ru⟩:=vals1 r;cases ru;obtain⟨z,hd,xs,rel,dd⟩:=Bm I.hok ha;have hl:kvs.length=xs.length:=Paired.length rel;refine pz hd dd (by rw[<-hl];rw[sizeLine_eq]at z;omega) ?_;rw[<-hl];exact⟨.int kvs.length,H,I.tok _,⟨_,rfl⟩,q⟩
def x9:bF X (.builtin "len") (fun xs H Q=>(∃ y n,xs=[y]/\EL X.K y H n/\Q (.int n) H)\/(∃ q kvs,xs=[V.ref q]/\H q=some (.dK kvs)/\Q (.int kvs.length) H)\/∃ q kvs,xs=[V.ref q]/\H q=some (.dT kvs)/\Q (.int kvs.length) H):=bF.or zJ (bF.or xK wA)
def Ec(hg:Gl X "len")(hm:X.mg "len" = none)(ha:SE X cl a a')(hn:noStar a=true):SE X cl (.Call (.Name "len" p) [a] [] pos) (.bi .len a'):=by
 refine jD x9 hg hm PySem.boot_len ha hn (by decide) (by decide) fun σD σ H H1 y d v Q e s1 r1 k=>?_
 cases y<;>first | (cases e;done) | skip
 case str t =>
  rw[RL.GS]at e;split at e
  ·rename_i hz;cases e;rw[aD r1];exact .inl ⟨_,_,rfl,⟨Nat.le_trans hz bU,rfl⟩,k _ _ (cW s1 aX rfl)⟩
  ·cases e
 case tup t =>
  cases e;obtain⟨q,xs,rfl,f2,f3⟩:=bw r1;dsimp only at k;rw[f3.length]at k;exact .inl ⟨_,_,rfl,.inr ⟨xs,SqT.of f2,rfl⟩,k _ _ (cW s1 aX rfl)⟩
 case lst t =>
  cases e;obtain⟨q,xs,rfl,_,f2,f3⟩:=aC r1;dsimp only at k;rw[f3.length]at k;exact .inl ⟨_,_,rfl,.inl ⟨xs,SqL.of f2,rfl⟩,k _ _ (cW s1 aX rfl)⟩
 case dK ks t =>
  cases e;rw[Rep]at r1;obtain⟨q,xs,rfl,_,f2,fl,f3⟩:=r1;refine .inr (.inl ⟨q,_,rfl,f2,?_⟩)
  have:(ks.zip xs).length=ks.length:=by rw[List.length_zip,<-f3.length,fl,Nat.min_self]
  rw[this];exact k _ _ (cW s1 aX rfl)
 case dT ks t =>
  cases e;rw[Rep]at r1;obtain⟨q,xs,rfl,_,f2,fl,f3⟩:=r1;refine .inr (.inr ⟨q,_,rfl,f2,?_⟩)
  have:(ks.zip xs).length=ks.length:=by rw[List.length_zip,<-f3.length,fl,Nat.min_self]
  rw[this];exact k _ _ (cW s1 aX rfl)
abbrev tyN:RL.Ty->String
 | .int => "int"
 | .bool => "bool"
 | .list => "list"
 | .tuple => "tuple"
 | .str => "str"
def zH:bF X (.builtin "isinstance") (fun xs H Q=>∃ y t T k,xs=[y,.ty T]/\eK X.K H y t/\PySem.W.kitOne X.K t (.type T)=some k/\Q (.bl k) H):=by
 intro pins s σ H xs us Q I r h;obtain⟨y,t,T,k,rfl,ty,e,q⟩:=h;obtain⟨u,w,rfl,r1,r2⟩:=vals2 r;cases r2
 exact wG I r1 ty e fun tk=>⟨.bl k,H,I.tok tk,rfl,q⟩
def DY(h:RL.vJ t d=some k)(r:Rep nP X.K H d v):∃ ty,eK X.K H v ty/\PySem.W.kitOne X.K ty (.type (tyN t))=some k:=by
 cases d with
 | non=>rw[Rep]at r;subst r;refine⟨_,.non,?_⟩;cases t<;>(cases h;rfl)
 | bl i=>rw[aZ r];refine⟨_,.bl i,?_⟩;cases t<;>(cases h;rfl)
 | int i=>rw[aj r];refine⟨_,.int i,?_⟩;cases t<;>(cases h;rfl)
 | str i=>rw[aD r];refine⟨_,.str i,?_⟩;cases t<;>(cases h;rfl)
 | tup i=>obtain⟨q,xs,rfl,f2,f3⟩:=bw r;refine⟨_,.tup f2,?_⟩;cases t<;>(cases h;rfl)
 | lst i=>obtain⟨q,xs,rfl,_,f2,f3⟩:=aC r;refine⟨_,.lst f2,?_⟩;cases t<;>(cases h;rfl)
 | _=>cases t<;>cases h
def Dq(hg:Gl X "isinstance")(hm:X.mg "isinstance" = none)(hgy:Gl X y)(hmy:X.mg y=none)(hy:bootBuiltins y=some (.type (tyN t)))(hy1:y ≠ "__name__")(hy2:(y == ("__debug__" : Str))=false)(ha:SE X cl a a')(hn:noStar a=true) :
  SE X cl (.Call (.Name "isinstance" p) [a,.Name y p2] [] pos) (.isi a' t):=by
 have hty:PE X (.Name y p2) (tC (.ty (tyN t))):=Cw hgy hmy hy rfl hy1 hy2;refine PE.weak (lS zH hg hm (by decide +kernel) (bE ha (bE hty dh rfl) (a9 _ hn)) (by decide) (by decide) (a9 _ hn) rfl) fun σ H Q h=>?_;obtain⟨σD,d,rv,e,k⟩:=h;obtain⟨u,ea,e⟩:=bind_some e;obtain⟨t',e1,e2⟩:=map_some e;subst e2;refine⟨σD,u,rv,ea,fun v H1 r1=>?_⟩;obtain⟨ty,h1,h2⟩:=DY e1 r1.rep;exact⟨v,ty,_,t',rfl,h1,h2,k _ _ (dS r1.same)⟩
end rules
end RS
namespace L2
open PySem PySem.Spec PyProof.Rows
structure ky(prog:Program)(w:World):Prop where
 draws:∀ {A:Around},A.handled=none->∀ (ti tp:Addr),tp≠ti->∀ its:Array Value,Draws prog w A ti [ti,tp] its.size (fun i v=>its[i]?=some v) (fun i h=>h.IsTupleIter ti tp i/\h.IsTuple tp its)
 call:∀ {A:Around} {E:Value->Shared->Prop} {z:Shared} {tp:Addr} {its:Array Value} {Q:Value->Shared->Prop},z.heap.IsTuple tp its ->
  (∀ g,IsEnum g (z.heap.objs.size+1) z.heap.objs.size 0 .none->g.IsTupleIter z.heap.objs.size tp 0->(∀ b o,z.heap.get? b=some o->g.get? b=some o)->Q (.ref (z.heap.objs.size+1)) { z with heap:=g })->wpAny (model prog w) A (call (.type "enumerate") [.ref tp]) Q E z
section
def Inv.pj{h':Heap}{t':Nat}{fp:List Addr}(I:Inv X pins σ H s)(k:∀ b o,b∉fp->s.heap.get? b=some o->h'.get? b=some o)(hf:∀ b∈fp,H b=none/\(b∈X.ex\/X.s₀.heap.objs.size<=b)/\b≠X.env.locals/\(∀ x c,X.env.cells.lookup x=some c->c≠b)/\∀ p∈X.pn++pins,p.1≠b) :
  Inv X pins σ H { s with heap:=h',toks:=t' }:=by
 have nf:∀ b u,H b=some u->b∉fp:=fun b u e z=>by rw[(hf b z).1]at e;cases e
 refine I.Bk (s':={ s with heap:=h',toks:=t' }) (ch:=fp) rfl ⟨fun b o e _ _ hx=>k b o hx e,fun b o e _ _ hx=>⟨o.slots,k b o hx e⟩,fun _ _ _ n _=>n,fun b o e hx=>⟨o,k b o hx e⟩,fun _ _ e=>e,fun _ _ _ e=>e,fun b ps e=>⟨#[],by rw[e];simp⟩⟩ (fun b u e=>?_) I.bare fun b hb=>(hf b hb).2;refine(I.hok b u e).oH (fun c v hc q=>k c v ?_ q) (fun _ q=>q) fun _ _ q=>q;rcases hc with z | z
 ·rw[z];exact nf b u e
 ·exact nf c _ z
end
abbrev Ite(cont:Hp->List V->Prop):It :=
 ⟨fun i H=>∃ xs x,cont H xs/\xs[i]?=some x,fun i H v H'=>∃ p x,H p=none/\v=.ref p/\H'=upd H p (.tup [.int i,x])/\∀ xs,cont H xs->xs[i]?=some x,fun i H=>∃ xs,cont H xs/\xs.length=i⟩
structure Src(P:Program)(w:World)(K:PySem.W.Frag)(e it:Addr)(cont:Hp->List V->Prop)(ia:Nat->Heap->Prop):Prop where
 obj:∀ i h,ia i h->∃ o,h.get? it=some o/\∀ v,o.data≠.cell v
 keep:∀ i h h',ia i h->(∀ o,h.get? it=some o->h'.get? it=some o)->ia i h'
 inj:∀ (H:Hp) xs ys,cont H xs->cont H ys->xs=ys
 dr:∀ (X:Cx),X.prog=P->X.w=w->X.K=K->X.calm=true->∀ (pins:List (Addr × Obj)) (s:Shared) (σ:St) (H:Hp) (xs:List V),Inv X pins σ H s->H e=none->H it=none->cont H xs ->
  ∃ (fp:List Addr) (Pv:Nat->Value->Prop) (St:Nat->Heap->Prop),Draws P w X.A.in1 it fp xs.length Pv St/\e∉fp/\(∀ i,ia i s.heap->St i s.heap)/\(∀ i h,St i h->ia i h)/\∀ i v,Pv i v->∃ x,xs[i]?=some x/\RelV x v
def xh{P:Program}{w:World}{K:PySem.W.Frag}(hei:e≠it)(S:Src P w K e it cont ia) :
  Turn P w K (.Tuple elts kx tp) (Ite cont) [e,it] e (fun i h=>(∃ old,IsEnum h e it i old)/\ia i h) where
 mem:=by simp
 obj:=fun i h st b hb=>by
  rcases List.mem_cons.mp hb with rfl | hb
  ·obtain⟨⟨old,he⟩,_⟩:=st;exact⟨_,he,fun v z=>by cases z⟩
  ·rw[List.mem_singleton.mp hb];exact S.obj i h st.2
 keep:=fun i h h' st k=>by
  obtain⟨⟨old,he⟩,hi⟩:=st;exact⟨⟨old,k e (by simp) _ he⟩,S.keep i h h' hi fun o q=>k it (by simp) o q⟩
 item:=by
  intro X hP hw hK hc i pins s σ H E I hf st hg;subst hP hw hK;obtain⟨⟨old,he⟩,hi⟩:=st;obtain⟨xs,x,hq,hx⟩:=hg;have fe:=hf e (by simp);have fi:=hf it (by simp);obtain⟨fp,Pv,St,D,hef,h1,h2,h3⟩:=S.dr X rfl rfl rfl hc pins s σ H xs I fe.1 fi.1 hq;have hlt:i<xs.length:=(List.getElem?_eq_some_iff.mp hx).1;refine wpAny_pyNext_enum_itemD D he (h1 i hi) hlt hei hef fun v h' tk hP ho hs' hT hsz hk=>?_;obtain⟨x',hx',rx⟩:=h3 i v hP;rw[hx]at hx';cases hx';refine⟨.ref s.heap.objs.size,rfl,wpAny_letOwnedTupleGo_enum ho fun h'' he' hs''=>?_⟩;have hn:H s.heap.objs.size=none:=I.hok.fresh (Nat.le_refl _)
  have I1:Inv X pins σ (upd H s.heap.objs.size (.tup [.int i,x])) { s with heap:=s.heap.push { cls:=.type "tuple",data:=.seq #[.int i tk,v] },toks:=tk+1 } :=
   I.laid (t':=tk+1) (fun b u q=>Heap.get?_push_of_some _ q) (Nat.le_refl _) ⟨by show 2<=sizeLine;decide,[.int i tk,v],.cons ⟨tk,rfl⟩ (.cons rx .nil),⟨_,Heap.get?_push_size _ rfl,rfl,_,rfl⟩⟩
  have hes:e<s.heap.objs.size:=Heap.lt_size he
  have hit:it<s.heap.objs.size:=by obtain⟨o,q,_⟩:=S.obj i _ hi;exact Heap.lt_size q
  have stat:∀ b∈[e,it],upd H s.heap.objs.size (.tup [.int i,x]) b=none/\(b∈X.ex\/X.s₀.heap.objs.size<=b)/\b≠X.env.locals/\(∀ x c,X.env.cells.lookup x=some c->c≠b)/\∀ p∈X.pn++pins,p.1≠b:=fun b hb=>by
   obtain⟨f0,f1,f2,f3,f4,f5⟩:=hf b hb
   have hb':b≠s.heap.objs.size:=by
    rcases List.mem_cons.mp hb with rfl | hb
    ·exact Nat.ne_of_lt hes
    ·rw[List.mem_singleton.mp hb];exact Nat.ne_of_lt hit
   exact⟨by rw[aL hb'];exact f0,f3,f1,f4,f5⟩
  have I2:Inv X pins σ (upd H s.heap.objs.size (.tup [.int i,x])) { s with heap:=h'',toks:=tk+1 }:=by
   refine Inv.pj (s:={ s with heap:=s.heap.push { cls:=.type "tuple",data:=.seq #[.int i tk,v] },toks:=tk+1 }) (h':=h'') (t':=tk+1) (fp:=[e,it]) I1 (fun b o hb q=>?_) stat;have b1:b≠e:=fun z=>hb (by simp[z]);have b2:b≠it:=fun z=>hb (by simp[z]);refine hs''.extBut b o b1 ?_;by_cases hbT:b=s.heap.objs.size
   ·subst hbT;have q':(s.heap.push { cls:=.type "tuple",data:=.seq #[.int i tk,v] }).get? s.heap.objs.size=some o:=q;rw[Heap.get?_push_size _ rfl]at q';cases q';exact hT
   ·have q':s.heap.get? b=some o:=(Heap.get?_push_ne _ _ _ hbT).symm.trans q;exact hk b o b1 b2 q'
  refine⟨.ref s.heap.objs.size,_,I2,rfl,⟨s.heap.objs.size,x,hn,rfl,rfl,fun ys hy=>by rw[S.inj H ys xs hy hq];exact hx⟩,⟨⟨v,by simpa using he'⟩,S.keep _ h' h'' (h2 _ _ hs') fun o q=>hs''.extBut _ _ (Ne.symm hei) q⟩,fun b hb=>(stat b hb).1⟩
 done:=by
  intro X hP hw hK hc i pins s σ H E I hf st hg;subst hP hw hK;obtain⟨⟨old,he⟩,hi⟩:=st;obtain⟨xs,hq,hx⟩:=hg;have fe:=hf e (by simp);have fi:=hf it (by simp);obtain⟨fp,Pv,St,D,hef,h1,h2,h3⟩:=S.dr X rfl rfl rfl hc pins s σ H xs I fe.1 fi.1 hq;subst hx
  refine wpAny_pyNext_enum_endD D he (h1 _ hi) fun h' eb=>⟨rfl,?_⟩
  obtain⟨f0,f1,f2,f3,f4,f5⟩:=fi;exact I.turned (it:=it) (h':=h') (t':=s.toks) (fun b o hb q=>eb b o hb q) f0 f1 f3 f4 f5
 self:=fun A i s Q E st h=>by
  obtain⟨⟨old,he⟩,hi⟩:=st;exact wpAny_pyIter_enum he h
def src_list{P:Program}{w:World}{K:PySem.W.Frag}(hei:e≠it):Src P w K e it (fun H xs=>H l=some (.lst xs)) (fun i h=>h.IsListIter it l i) where
 obj:=fun i h st=>let ⟨o,ho,_,hd⟩:=st;⟨o,ho,fun v q=>by rw[hd]at q;cases q⟩
 keep:=fun i h h' st k=>st.at fun o q=>k o q
 inj:=fun H xs ys h1 h2=>by rw[h1]at h2;cases h2;rfl
 dr:=by
  intro X hP hw hK hc pins s σ H xs I he hi hx;subst hP hw hK;obtain⟨its,rv,p,hz⟩:=I.list (SqL.of hx)
  have hl:its.toArray.size=xs.length:=by rw[List.size_toArray,rv.length]
  have hh:X.A.in1.handled=none:=I.ok.hd.1 hc;have D:=Draws.list (prog:=X.prog) (w:=X.w) (A:=X.A.in1) hh it l (aI hx hi) its.toArray;rw[hl]at D;refine⟨_,_,_,D,?_,fun i st=>⟨st,p.isList⟩,fun i h st=>st.1,fun i v hv=>?_⟩
  ·intro m;rcases List.mem_cons.mp m with q | m
   ·exact hei q
   ·exact(aI hx he).symm (List.mem_singleton.mp m)
  ·have hv:its[i]?=some v:=by simpa using hv
   have hlt:i<xs.length:=by rw[rv.length];exact(List.getElem?_eq_some_iff.mp hv).1
   obtain⟨u,h1,h2⟩:=rv.get (i:=i) (x:=xs[i]) (by simp[hlt]);rw[hv]at h1;cases h1;exact⟨xs[i],by simp[hlt],h2⟩
def C6{P:Program}{w:World}{K:PySem.W.Frag}(TE:ky P w)(hei:e≠it):Src P w K e it (fun H xs=>H l=some (.tup xs)) (fun i h=>h.IsTupleIter it l i) where
 obj:=fun i h st=>let ⟨o,ho,_,hd⟩:=st;⟨o,ho,fun v q=>by rw[hd]at q;cases q⟩
 keep:=fun i h h' st k=>let ⟨o,ho,r⟩:=st;⟨o,k o ho,r⟩
 inj:=fun H xs ys h1 h2=>by rw[h1]at h2;cases h2;rfl
 dr:=by
  intro X hP hw hK hc pins s σ H xs I he hi hx;subst hP hw hK;obtain⟨its,rv,p,hz⟩:=I.tuple (SqT.of hx)
  have hl:its.toArray.size=xs.length:=by rw[List.size_toArray,rv.length]
  have hh:X.A.in1.handled=none:=I.ok.hd.1 hc;have D:=TE.draws (A:=X.A.in1) hh it l (aI hx hi) its.toArray;rw[hl]at D;refine⟨_,_,_,D,?_,fun i st=>⟨st,p⟩,fun i h st=>st.1,fun i v hv=>?_⟩
  ·intro m;rcases List.mem_cons.mp m with q | m
   ·exact hei q
   ·exact(aI hx he).symm (List.mem_singleton.mp m)
  ·have hv:its[i]?=some v:=by simpa using hv
   have hlt:i<xs.length:=by rw[rv.length];exact(List.getElem?_eq_some_iff.mp hv).1
   obtain⟨u,h1,h2⟩:=rv.get (i:=i) (x:=xs[i]) (by simp[hlt]);rw[hv]at h1;cases h1;exact⟨xs[i],by simp[hlt],h2⟩
abbrev iA(x:Str):List V:=x.cps.toList.map fun c=>.str ⟨#[c]⟩
def Cz{P:Program}{w:World}{K:PySem.W.Frag}(hei:e≠it):Src P w K e it (fun _ xs=>xs=iA x) (fun i h=>h.IsStrIter it (strIterType x) x t i) where
 obj:=fun i h st=>let ⟨o,ho,_,hd⟩:=st;⟨o,ho,fun v q=>by rw[hd]at q;cases q⟩
 keep:=fun i h h' st k=>let ⟨o,ho,r⟩:=st;⟨o,k o ho,r⟩
 inj:=fun H xs ys h1 h2=>by rw[h1,h2]
 dr:=by
  intro X hP hw hK hc pins s σ H xs I he hi hx;subst hP hw hK hx;have hh:X.A.in1.handled=none:=I.ok.hd.1 hc
  have hl:x.cps.size=(iA x).length:=by simp[iA]
  have pv:∀ (i:Nat) (v:Value),(∃ c u,x.cps[i]?=some c/\v=Value.str ⟨#[c]⟩ u)->∃ y,(iA x)[i]?=some y/\RelV y v:=fun i v hv=>by
   obtain⟨c,u,h1,h2⟩:=hv;exact⟨.str ⟨#[c]⟩,by simp[iA,h1],u,h2⟩
  have ni:e∉[it]:=fun m=>hei (List.mem_singleton.mp m)
  cases ha:x.cps.all (·<128)with
  |true=>
   have ht:strIterType x = "str_ascii_iterator" := by simp[strIterType,ha]
   have D:=Draws.strAscii (prog:=X.prog) (w:=X.w) (A:=X.A.in1) hh it x t;rw[hl]at D;exact⟨_,_,_,D,ni,fun i st=>by rw[ht]at st;exact st,fun i h st=>by rw[ht];exact st,pv⟩
  |false=>
   have ht:strIterType x = "str_iterator" := by simp[strIterType,ha]
   have D:=Draws.strWide (prog:=X.prog) (w:=X.w) (A:=X.A.in1) hh it x t;rw[hl]at D;exact⟨_,_,_,D,ni,fun i st=>by rw[ht]at st;exact st,fun i h st=>by rw[ht];exact st,pv⟩
section
abbrev Ho(ta:TA):TI:=fun σ H R=>ta σ H fun vs H1=>(∃ l xs,vs=[.ref l]/\H1 l=some (.lst xs)/\R (Ite fun H xs=>H l=some (.lst xs)) H1)\/(∃ l xs,vs=[.ref l]/\H1 l=some (.tup xs)/\R (Ite fun H xs=>H l=some (.tup xs)) H1) \/
 (∃ x,vs=[.str x]/\R (Ite fun _ xs=>xs=iA x) H1)
def lC(I:Inv X pins σ H s)(S:Src X.prog X.w X.K (s.heap.objs.size+1) s.heap.objs.size cont ia)
 (he:IsEnum g (s.heap.objs.size+1) s.heap.objs.size 0 .none)(hi:ia 0 g)(hk:∀ b o,s.heap.get? b=some o->g.get? b=some o)(q:R (Ite cont) H) :
  wpAny (model X.prog X.w) X.A (pyIter (.ref (s.heap.objs.size+1))) (PIE X pins σ (.Tuple elts kx tp) R) E { s with heap:=g }:=by
 refine wpAny_pyIter_enum he ⟨s.heap.objs.size+1,[s.heap.objs.size+1,s.heap.objs.size],_,_,H,rfl,I.kept (t':=s.toks) hk,xh (Nat.succ_ne_self _) S,⟨⟨.none,he⟩,hi⟩,fun b hb=>?_,q⟩
 have hb':s.heap.objs.size<=b:=by
  rcases List.mem_cons.mp hb with z | z
  ·rw[z];exact Nat.le_succ _
  ·rw[List.mem_singleton.mp z];exact Nat.le_refl _
 exact I.kg hb' (I.hok.fresh hb')
def CU(TE:ky X.prog X.w)(hg:Gl X "enumerate")(hm:X.mg "enumerate" = none)(ha:PA X [a] ta)(hs:starEach [a] X.env=[(false,eval a X.env)]):PI X (.Tuple elts kx tp) (.Call (.Name "enumerate" p) [a] [] pos) (Ho ta):=by
 intro pins s σ H R I h;refine Call_ (gP I hg hm boot_enumerate (PyProof.Rows.callWith_type1 (thn (ha pos pins s σ H _ I h) fun us s1 ⟨vs,H1,I1,r1,q1⟩=>?_) hs rfl) (by decide) (by decide))
 rcases q1 with⟨l,xs,rfl,hx,q⟩ | ⟨l,xs,rfl,hx,q⟩ | ⟨x,rfl,q⟩
 ·obtain⟨u,rfl,ru⟩:=vals1 r1;cases ru;obtain⟨its,rv,pl,hz⟩:=I1.list (SqL.of hx);exact call_enumerate_list pl.isList fun g he hi hsz hk=>lC I1 (src_list (Nat.succ_ne_self _)) he hi hk q
 ·obtain⟨u,rfl,ru⟩:=vals1 r1;cases ru;obtain⟨its,rv,pl,hz⟩:=I1.tuple (SqT.of hx);exact TE.call pl fun g he hi hk=>lC I1 (C6 TE (Nat.succ_ne_self _)) he hi hk q
 ·obtain⟨u,rfl,ru⟩:=vals1 r1;obtain⟨t,rfl⟩:=ru;exact call_enumerate_str fun g he hi hsz hk=>lC I1 (Cz (Nat.succ_ne_self _)) he hi hk q
end
end L2
namespace RS
open PySem PySem.Spec PyProof.Rows L2
def kd:∀ (ds:List RL.D) (k:Int),(RL.cZ k ds).length=ds.length
 | [],_=>rfl
 | d::r,k=>by rw[RL.cZ,List.length_cons,List.length_cons,kd r]
def pJ:∀ (ds:List RL.D) (k:Int) (i:Nat) (d:RL.D),(RL.cZ k ds)[i]?=some d->∃ e,ds[i]?=some e/\d=.tup [.int (k+i),e]
 | [],k,i,d,h=>by simp[RL.cZ]at h
 | e::r,k,0,d,h=>by simp[RL.cZ]at h;exact⟨e,rfl,by simp[h]⟩
 | e::r,k,i+1,d,h=>by
  rw[RL.cZ,List.getElem?_cons_succ]at h;obtain⟨e',h1,h2⟩:=pJ r (k+1) i d h;refine⟨e',by simpa using h1,?_⟩;rw[h2];congr 3;lia
def gy{K:PySem.W.Frag}(hc:∀ H',Off P H H'->cont H' xs)(hj:∀ H' ys,cont H' xs->cont H' ys->ys=xs)(r:ae nP K H ds xs)(hm:∀ b o,P b->H b=some o->cu o):gB K (Ite cont) (RL.cZ 0 ds) P H where
 go:=fun H' i k hi=>by
  rw[kd]at hi;obtain⟨x,e,_⟩:=r.get (i:=i) (d:=ds[i]) (by simp[hi]);exact⟨xs,x,hc H' k,e⟩
 stop:=fun H' k=>⟨xs,hc H' k,by rw[kd,r.length]⟩
 yld:=fun H' i d v H2 k e y=>by
  obtain⟨p,x,hp,rfl,rfl,hx⟩:=y;obtain⟨e',h1,rfl⟩:=pJ ds 0 i d e;obtain⟨x',h2,h3⟩:=r.get h1;rw[hx xs (hc H' k)]at h2;cases h2;refine⟨a5.bQ hp,fun q=>?_⟩
  have re:Rep nP K H' e' x:=by
   rcases q with q | q
   ·have q:(true&&(e'.imm&&true))=true:=q;simp only[Bool.true_and,Bool.and_true]at q;exact gL hm k h3 q
   ·exact h3.same q
  rw[Rep];refine⟨p,[.int i,x],rfl,br,ae.cons ?_ (ae.cons (re.same (a5.bQ hp)) ae.nil)⟩;simpa using(aX (P:=nP) (K:=K) (H:=upd H' p (.tup [.int i,x])) (i:=(i:Int)))
def yv{P:Addr->Prop}{K:PySem.W.Frag}(h:RL.fO d=some ds)(r:Rep P K H d v):(∃ p xs,v=.ref p/\H p=some (.lst xs)/\d=.lst ds/\ae P K H ds xs)\/(∃ p xs,v=.ref p/\H p=some (.tup xs)/\d=.tup ds/\ae P K H ds xs) \/
  (∃ x,v=.str x/\d=.str x/\ds=x.cps.toList.map fun c=>.str ⟨#[c]⟩):=by
 cases d<;>simp only[RL.fO]at h<;>first | (cases h;done) | skip
 case lst ys=>cases h;obtain⟨p,xs,e1,_,e2,e3⟩:=aC r;exact .inl ⟨p,xs,e1,e2,rfl,e3⟩
 case tup ys=>cases h;obtain⟨p,xs,e1,e2,e3⟩:=bw r;exact .inr (.inl ⟨p,xs,e1,e2,rfl,e3⟩)
 case str x=>cases h;exact .inr (.inr ⟨x,aD r,rfl,rfl⟩)
def js{P:Addr->Prop}{K:PySem.W.Frag}:∀ (cs:List Nat),ae P K H (cs.map fun c=>RL.D.str ⟨#[c]⟩) (cs.map fun c=>V.str ⟨#[c]⟩)
 | []=>ae.nil
 | c::r=>ae.cons dW (js r)
section rules
def EF(TE:ky X.prog X.w)(hg:Gl X "enumerate")(hm:X.mg "enumerate" = none)(ha:SE X cl a a')(hn:noStar a=true):SI X cl (.Tuple elts kx tp) (.Call (.Name "enumerate" p) [a] [] pos) (.enm a'):=by
 intro pins s σ H R I h;obtain⟨σD,ds,rv,e,k⟩:=h;obtain⟨d,e1,e2⟩:=bind_some e;obtain⟨es,e3,e4⟩:=map_some e2;subst e4;have hpa:PA X [a] (hZ (tE X.K cl a') sN):=bE ha dh (a9 [] hn);refine CU TE hg hm hpa (a9 [] hn) pins s σ H R I ⟨σD,d,rv,e1,fun v H1 r1=>?_⟩
 rcases yv e3 r1.rep with⟨l,xs,rfl,hx,rfl,rs⟩ | ⟨l,xs,rfl,hx,rfl,rs⟩ | ⟨x,rfl,rfl,rfl⟩
 ·refine .inl ⟨l,xs,rfl,hx,k _ _ r1.same ⟨gy (fun H' o=>o _ _ (fun z=>z) hx) (fun H' ys h1 h2=>by rw[h1]at h2;cases h2;rfl) rs gZ,fun M P z hP av=>?_⟩⟩;exact gy (fun H' o=>o _ _ (nD r1 z hP av _ _ rfl rfl) hx) (fun H' ys h1 h2=>by rw[h1]at h2;cases h2;rfl) rs (dP r1.same hP)
 ·have np:∀ P:Addr->Prop,(∀ b o,P b->H1 b=some o->cu o)->¬ P l:=fun P hP q=>by rcases hP l _ q hx with⟨z,q⟩ | ⟨z,q⟩ | ⟨z,q⟩<;>cases q
  exact .inr (.inl ⟨l,xs,rfl,hx,k _ _ r1.same ⟨gy (fun H' o=>o _ _ (np _ gZ) hx) (fun H' ys h1 h2=>by rw[h1]at h2;cases h2;rfl) rs gZ,fun M P z hP av=>gy (fun H' o=>o _ _ (np P (dP r1.same hP)) hx) (fun H' ys h1 h2=>by rw[h1]at h2;cases h2;rfl) rs (dP r1.same hP)⟩⟩)
 ·exact .inr (.inr ⟨x,rfl,k _ _ r1.same ⟨gy (fun H' o=>rfl) (fun H' ys h1 h2=>h2) (js _) gZ,fun M P z hP av=>gy (fun H' o=>rfl) (fun H' ys h1 h2=>h2) (js _) (dP r1.same hP)⟩⟩)
end rules
section rules
variable{X:Cx}
def CV{P:Addr->Prop}{K:PySem.W.Frag}(h:Rep P K H (.scr ds) v):∃ a xs,v=.ref a/\jC K H a xs/\ae P K H ds xs:=by rw[Rep]at h;exact h
def x5(n:Nat)(k:Int):HT.sIx n n (some k)=RL.cutAt n k:=by
 have h:=HT.lr k n n;unfold RL.cutAt;split at h
 ·rw[if_neg (by lia)];lia
 ·rw[if_pos (by lia)];lia
def Ej(ha:SE X cl a a')(hb:SE X cl b b'):SE X cl (.Subscript a (.Slice none (some b) none p2) pos) (.slT a' b'):=by
 refine PE.weak (zf (SlR.or CZ Ei) ha C1 (B6 hb)) fun σ H Q h=>?_;obtain⟨σD,d,rv,e,k⟩:=h;obtain⟨x,ea,e⟩:=bind_some e;obtain⟨y,eb,e⟩:=bind_some e;refine⟨σD,x,rv,ea,fun v H1 r1=>⟨σD,y,rv.same r1.same,eb,fun u H2 r2=>?_⟩⟩;have rx:=r1.rep.same r2.same;have sm:=r1.same.trans r2.same
 cases y with
 |int n=>
  refine⟨n,aj r2.rep,?_⟩
  cases x with
  |lst xs=>
   cases e;obtain⟨q,ys,rfl,_,f2,f3⟩:=aC rx;refine .inl ⟨q,ys,rfl,SqL.of f2,fun l hl=>?_⟩;unfold jd;rw[lT,<-f3.length];exact k _ _ (dZ sm hl (f3.take _) fun _=>rfl)
  |scr xs=>
   cases e;obtain⟨q,ys,rfl,f2,f3⟩:=CV rx;refine .inl ⟨q,ys,rfl,f2.seq,fun l hl=>?_⟩;unfold jd;rw[lT,<-f3.length];exact k _ _ (dZ sm hl (f3.take _) fun _=>rfl)
  |tup xs=>
   simp only[RL.jH]at e;split at e
   ·rename_i hz;cases e;obtain⟨q,ys,rfl,f2,f3⟩:=bw rx;refine .inr ⟨q,ys,rfl,SqT.of f2,fun z=>?_,fun l hl=>?_⟩
    ·rw[x5,<-f3.length]at z;lia
    ·unfold jd;rw[lT,<-f3.length];exact k _ _ (iS sm hl (f3.take _) fun _=>rfl)
   ·cases e
  | _=>cases e
 | _=>cases x<;>cases e
abbrev zu:RL.D->RL.D->Option (Option RL.D)
 | .dK ks vs,k=>(RL.keyOf k).map (RL.aB ks vs)
 | .dT ks vs,.tup k=>(RL.keysOf k).map (RL.aB ks vs)
 | _,_=>none
abbrev Ans(P:Addr->Prop)(K:PySem.W.Frag)(H:Hp):Option RL.D->Option V->Prop
 | some d,r=>∃ w,r=some w/\Rep P K H d w
 | none,r=>r=none
def nT{κ:Type} [DecidableEq κ]{P:Addr->Prop}{K:PySem.W.Frag}{H:Hp}{x:κ}:∀ {ks:List κ} {ds:List RL.D} {xs:List V},ks.length=ds.length->ae P K H ds xs ->
  Ans P K H (RL.aB ks ds x) (dN (ks.zip xs) x)
 | [],ds,xs,hl,r=>by simp[RL.aB,dN,Ans]
 | k::ks,[],xs,hl,r=>by simp at hl
 | k::ks,d::ds,xs,hl,r=>by
  rw[ae]at r;obtain⟨v,t,rfl,r1,r2⟩:=r;by_cases hk:k=x
  ·have h1:RL.aB (k::ks) (d::ds) x=some d:=by rw[RL.aB,if_pos hk]
   rw[h1];exact⟨v,by rw[List.zip_cons_cons];exact gC hk,r1⟩
  ·have ih:=nT (x:=x) (ks:=ks) (ds:=ds) (xs:=t) (by simpa using hl) r2
   have h1:RL.aB (k::ks) (d::ds) x=RL.aB ks ds x:=by rw[RL.aB,if_neg hk]
   rw[h1,List.zip_cons_cons,gK hk];exact ih
def lP{P:Addr->Prop}{K:PySem.W.Frag}(h:RL.keyOf d=some k)(r:Rep P K H d v):v=kV k:=by
 cases d<;>simp only[RL.keyOf]at h<;>first | (cases h;done) | skip
 case int i=>cases h;exact aj r
 case str i=>cases h;exact aD r
def ib{P:Addr->Prop}{K:PySem.W.Frag}:∀ {ds:List RL.D} {k:List RL.Ky} {xs:List V},RL.keysOf ds=some k->ae P K H ds xs->xs=k.map kV
 | [],k,xs,h,r=>by cases h;rw[ae]at r;exact r
 | d::ds,k,xs,h,r=>by
  rw[RL.keysOf]at h;obtain⟨k1,h1,h⟩:=bind_some h;obtain⟨k2,h2,h3⟩:=map_some h;subst h3;rw[ae]at r;obtain⟨v,t,rfl,r1,r2⟩:=r;rw[lP h1 r1,ib h2 r2];rfl
def uK{H:Hp}{y kx:RL.D}{v u:V}{o:Option RL.D}(ry:Rep nP X.K H y v)(rk:Rep nP X.K H kx u)(h:zu y kx=some o) :
  ∃ q r,v=.ref q/\dF H q u r/\Ans nP X.K H o r:=by
 cases y with
 |dK ks vs=>
  obtain⟨k,h1,h2⟩:=map_some h;rw[Rep]at ry;obtain⟨q,xs,rfl,_,f2,fl,f3⟩:=ry;have lk:=nT (x:=k) fl f3;rw[h2]at lk;refine⟨q,_,rfl,by rw[lP h1 rk];exact dF.k f2,lk⟩
 |dT ks vs=>
  cases kx with
  |tup kk=>
   obtain⟨k,h1,h2⟩:=map_some h;rw[Rep]at ry;obtain⟨q,xs,rfl,_,f2,fl,f3⟩:=ry;obtain⟨q',ys,rfl,g2,g3⟩:=bw rk;rw[ib h1 g3]at g2;have lk:=nT (x:=k) fl f3;rw[h2]at lk;exact⟨q,_,rfl,dF.t f2 g2,lk⟩
  | _=>cases h
 | _=>cases kx<;>cases h
def ED(h:RL.lG y kx=some d):zu y kx=some (some d):=by
 cases y with
 | dK ks vs=>obtain⟨k,h1,h2⟩:=bind_some (show(RL.keyOf kx).bind (RL.aB ks vs)=some d from h);show(RL.keyOf kx).map (RL.aB ks vs)=_;rw[h1,Option.map_some,h2]
 |dT ks vs=>
  cases kx with
  | tup kk=>obtain⟨k,h1,h2⟩:=bind_some (show(RL.keysOf kk).bind (RL.aB ks vs)=some d from h);show(RL.keysOf kk).map (RL.aB ks vs)=_;rw[h1,Option.map_some,h2]
  | _=>cases h
 | _=>cases kx<;>cases h
def G3(hu:X.A.units+100<cLine)(ha:SE X cl a a')(hb:SE X cl b b')(hs:ve b):SE X cl (.Subscript a b pos) (.ixD a' b'):=by
 refine PE.weak (C8 (by lia) ha hb hs) fun σ H Q h=>?_;obtain⟨σD,d,rv,e,k⟩:=h;obtain⟨x,ea,e⟩:=bind_some e;obtain⟨y,eb,e⟩:=bind_some e;refine⟨σD,x,rv,ea,fun v H1 r1=>⟨σD,y,rv.same r1.same,eb,fun u H2 r2=>?_⟩⟩;obtain⟨q,r,rfl,g,w,rfl,rw'⟩:=uK (r1.rep.same r2.same) r2.rep (ED e);exact⟨q,w,rfl,g,k _ _ ⟨r1.same.trans r2.same,rw',fun z=>(by cases z),fun M z=>nomatch (show false=true from z)⟩⟩
def FG:SE X cl (.Dict [] [] pos) .dk0:=by
 refine PE.weak Ae fun σ H Q h=>?_;obtain⟨σD,d,rv,e,k⟩:=h;cases e;intro q hq;refine k _ _ ⟨a5.bQ hq,?_,fun _ _ a z=>(by cases z;exact hq),fun M z=>nomatch (show false=true from z)⟩;rw[Rep];exact⟨q,[],rfl,fun z=>z,br,rfl,ae.nil⟩
def E9:SE X cl (.Dict [] [] pos) .dt0:=by
 refine PE.weak zy fun σ H Q h=>?_;obtain⟨σD,d,rv,e,k⟩:=h;cases e;intro q hq;refine k _ _ ⟨a5.bQ hq,?_,fun _ _ a z=>(by cases z;exact hq),fun M z=>nomatch (show false=true from z)⟩;rw[Rep];exact⟨q,[],rfl,fun z=>z,br,rfl,ae.nil⟩
end rules
section rules
variable{X:Cx}{st:Stmt}
def Gb(hn:∀ ks,y≠.fT ks)(h:RL.jU y kx=some k):∃ o,zu y kx=some o/\k=o.isSome:=by
 cases y with
 | dK ks vs=>obtain⟨q,h1,h2⟩:=map_some (show(RL.keyOf kx).map _=some k from h);exact⟨RL.aB ks vs q,by show(RL.keyOf kx).map _=_;rw[h1];rfl,h2.symm⟩
 |dT ks vs=>
  cases kx with
  | tup kk=>obtain⟨q,h1,h2⟩:=map_some (show(RL.keysOf kk).map _=some k from h);exact⟨RL.aB ks vs q,by show(RL.keysOf kk).map _=_;rw[h1];rfl,h2.symm⟩
  | _=>cases h
 | fT ks=>exact absurd rfl (hn ks)
 | _=>cases kx<;>cases h
def Ans.isSome{P:Addr->Prop}{K:PySem.W.Frag}(h:Ans P K H o r):r.isSome=o.isSome:=by
 cases o with
 | none=>rw[show r=none from h];rfl
 | some d=>obtain⟨w,hw,_⟩:=h;rw[hw];rfl
def Cc{κ:Type} [DecidableEq κ](kvs:List (κ × V))(k:κ):(dN kvs k).isSome=(kvs.map (·.1)).any fun x=>decide (x=k):=by
 induction kvs with
 | nil=>rfl
 |cons q r ih=>
  obtain⟨x,v⟩:=q;by_cases c:x=k
  ·rw[gC c,List.map_cons,List.any_cons,decide_eq_true c];rfl
  ·rw[gK c,ih,List.map_cons,List.any_cons,decide_eq_false c];rfl
def wO{H:Hp}{y kx:RL.D}{v u:V}(ry:Rep nP X.K H y v)(rk:Rep nP X.K H kx u)(h:RL.jU y kx=some k):∃ q r,v=.ref q/\dF H q u r/\r.isSome=k:=by
 by_cases c:∃ ks,y=.fT ks
 ·obtain⟨ks,rfl⟩:=c
  cases kx with
  |tup kk=>
   obtain⟨kq,h1,h2⟩:=map_some (show(RL.keysOf kk).map _=some k from h);rw[Rep]at ry;obtain⟨q,o,kvs,rfl,f2,f3⟩:=ry;obtain⟨q',ys,rfl,g2,g3⟩:=bw rk;rw[ib h1 g3]at g2;refine⟨q,_,rfl,.inr ⟨kvs,kq,q',.inr ⟨o,f2⟩,rfl,g2,rfl⟩,?_⟩;rw[Cc,f3];exact h2
  | _=>cases h
 ·obtain⟨o,h1,h2⟩:=Gb (fun ks z=>c ⟨ks,z⟩) h;obtain⟨q,r,e,g,an⟩:=uK ry rk h1;exact⟨q,r,e,g,by rw[an.isSome,h2]⟩
abbrev AU(neg:Bool)(ty td:TE):TE:=if neg then tL ty td else Fw ty td
def tW(hu:X.A.units+100<cLine)(ha:SE X cl a a')(hb:SE X cl b b'):PC X (if neg then .NotIn else .In) a b (AU neg (tE X.K cl a') (tE X.K cl b')):=by
 cases neg with
 | true=>exact y8 (by lia) ha hb
 | false=>exact EB (by lia) ha hb
def xG(rv:RV0 X.K σD σ H)(e:RL.ev cl σD (.inD neg a' b')=some d)(k:∀ t H',d=.bl t->a5 H H'->Q (.bl t) H'):AU neg (tE X.K cl a') (tE X.K cl b') σ H Q:=by
 obtain⟨x,ea,e⟩:=bind_some e;obtain⟨y,eb,e⟩:=bind_some e;obtain⟨t,e1,e2⟩:=map_some e
 cases neg with
 |true=>
  refine two rv ea eb fun v u H1 H2 s1 s2 rx ry _ _=>?_;obtain⟨q,r,rfl,g,an⟩:=wO ry rx e1;refine⟨q,r,rfl,g,k _ _ ?_ (s1.trans s2)⟩;rw[an,<-e2];rfl
 |false=>
  refine two rv ea eb fun v u H1 H2 s1 s2 rx ry _ _=>?_;obtain⟨q,r,rfl,g,an⟩:=wO ry rx e1;refine⟨q,r,rfl,g,k _ _ ?_ (s1.trans s2)⟩;rw[an,<-e2];rfl
def EI(hu:X.A.units+100<cLine)(ha:SE X cl a a')(hb:SE X cl b b')(hm:mh b=true):SE X cl (.Compare a [if neg then .NotIn else .In] [b] pos) (.inD neg a' b'):=by
 refine PE.weak (FL (tW hu ha hb) (hX hm)) fun σ H Q h=>?_;obtain⟨σD,d,rv,e,q⟩:=h
 exact xG rv e fun t H' hd sm=>by subst hd;exact q _ _ (dS sm)
def Ge(hu:X.A.units+100<cLine)(ha:SE X cl a a')(hb:SE X cl b b')(hm:mh b=true):ST X cl (.Compare a [if neg then .NotIn else .In] [b] pos) (.inD neg a' b'):=by
 refine PT.weak (D8 (tW hu ha hb) (hX hm)) fun σ H Q h=>?_;obtain⟨σD,k,rv,e,q⟩:=h;obtain⟨d,e1,e2⟩:=bind_some e;refine xG rv e1 fun t H' hd sm=>?_;subst hd;cases e2;exact⟨_,rfl,q _ sm⟩
def uD{κ:Type} [DecidableEq κ]{x:κ}{d:RL.D}{v:V}{P:Addr->Prop}{K:PySem.W.Frag}{H:Hp}{ks:List κ}{ds:List RL.D}{xs:List V}(hl:ks.length=ds.length)(r:ae P K H ds xs)(rv:Rep P K H d v) :
  ∃ ys,putK (ks.zip xs) x v=(RL.putD ks ds x d).1.zip ys/\(RL.putD ks ds x d).1.length=(RL.putD ks ds x d).2.length/\ae P K H (RL.putD ks ds x d).2 ys:=by
 have hx:ks.length=xs.length:=hl.trans r.length
 have any:∀ (ks:List κ) (xs:List V),ks.length=xs.length->((ks.zip xs).any fun kv=>decide (kv.1=x))=decide (x∈ks):=by
  intro ks
  induction ks with
  | nil=>intro xs _;simp
  |cons k r ih=>
   intro xs h
   cases xs with
   | nil=>simp at h
   |cons y t=>
    rw[List.zip_cons_cons,List.any_cons,ih t (by simpa using h)];by_cases hk:k=x
    ·simp[hk]
    ·simp[hk,Ne.symm hk]
 unfold putK RL.putD;rw[any ks xs hx];by_cases hm:x∈ks
 ·rw[if_pos (by simpa using hm),if_pos hm];refine⟨List.zipWith (fun k w=>if k=x then v else w) ks xs,?_,?_,?_⟩
  ·clear any hm hl r
   induction ks generalizing xs with
   | nil=>simp
   |cons k t ih=>
    cases xs with
    | nil=>simp at hx
    |cons y t'=>
     rw[List.zip_cons_cons,List.map_cons,List.zipWith_cons_cons,List.zip_cons_cons,ih (by simpa using hx)];by_cases hk:k=x<;>simp[hk]
  ·rw[List.length_zipWith,hl,Nat.min_self]
  ·clear any hm hx
   induction ks generalizing ds xs with
   | nil=>simpa using ae.nil
   |cons k t ih=>
    cases ds with
    | nil=>simp at hl
    |cons d0 ds=>
     rw[ae]at r;obtain⟨y,t',rfl,r1,r2⟩:=r;rw[List.zipWith_cons_cons,List.zipWith_cons_cons];refine ae.cons ?_ (ih (by simpa using hl) r2);by_cases hk:k=x
     ·rw[if_pos hk,if_pos hk];exact rv
     ·rw[if_neg hk,if_neg hk];exact r1
 ·rw[if_neg (by simpa using hm),if_neg hm];refine⟨xs++[v],?_,by simp[hl],ae.append r (ae.cons rv ae.nil)⟩;rw[List.zip_append hx];rfl
def xq [DecidableEq κ](hd:d.imm=true):∀ {ks:List κ} {ds:List RL.D},RL.au ds=true->RL.au (RL.putD ks ds x d).2=true:=by
 have app:∀ l:List RL.D,RL.au l=true->RL.au (l++[d])=true:=fun l=>by
  induction l with
  | nil=>intro _;simp[RL.au,hd]
  | cons z r ih=>intro h;rw[RL.au,Bool.and_eq_true]at h;rw[List.cons_append,RL.au,h.1,ih h.2];rfl
 have zw:∀ (ks:List κ) (ds:List RL.D),RL.au ds=true->RL.au (List.zipWith (fun k w=>if k=x then d else w) ks ds)=true:=fun ks=>by
  induction ks with
  | nil=>intro ds _;simp[RL.au]
  |cons k r ih=>
   intro ds h
   cases ds with
   | nil=>simp[RL.au]
   |cons y t=>
    rw[RL.au,Bool.and_eq_true]at h;rw[List.zipWith_cons_cons,RL.au,ih t h.2,Bool.and_true];by_cases hk:k=x
    ·rw[if_pos hk];exact hd
    ·rw[if_neg hk];exact h.1
 intro ks ds h;unfold RL.putD;split
 ·exact zw ks ds h
 ·exact app ds h
def CJ(h:PS X st (wc (gF i) (tE X.K cl k') (tE X.K cl e')))(hi:M.contains i=true):PS X st (tS X.K M fun σD=>(RL.ev cl σD e').bind fun d=>(RL.ev cl σD k').bind fun kk=>((σD[i]?).bind id).bind fun l=>match l with
  | .lst _=>none
  | _=>if d.imm then(RL.dJ l kk d).map fun l'=>(.nx,σD.set i (some l'))else none):=by
 refine PS.weak h fun D σ H h=>?_;obtain⟨σD,o,σD',rv,e,k⟩:=h;obtain⟨d,e1,e⟩:=bind_some e;obtain⟨kk,e2,e⟩:=bind_some e;obtain⟨l,e3,e⟩:=bind_some e;obtain⟨v,h1,h2⟩:=rv.val i _ (slot_get e3);rw[if_pos hi]at h2;obtain⟨q1,q2,q3⟩:=h2
 cases l with
 |dK ks ds=>
  dsimp only at e;split at e
  ·rename_i him;obtain⟨l',e4,e5⟩:=map_some e;cases e5;obtain⟨kx,e6,e7⟩:=bind_some (show(RL.keyOf kk).bind _=some l' from e4);split at e7
   ·rename_i hz;cases e7;rw[Rep]at q3;obtain⟨q,xs,rfl,_,f2,fl,f3⟩:=q3;refine⟨σD,d,rv.rv0,e1,fun y H1 r1=>⟨.ref q,h1,σD,kk,rv.rv0.same r1.same,e2,fun u H2 r2=>?_⟩⟩;have sm:=r1.same.trans r2.same;obtain⟨ys,p1,p2,p3⟩:=uD (x:=kx) fl (f3.same sm) (r1.rep.same r2.same)
    have hlen:(ks.zip xs).length<sizeLine:=by
     rw[List.length_zip,<-f3.length,fl,Nat.min_self,<-fl];exact Nat.lt_of_lt_of_le hz bU
    refine⟨q,_,rfl,by rw[lP e6 r2.rep];exact j4.k (sm _ _ f2) hlen,?_⟩;have im:=xq (x:=kx) him (ks:=ks) q2
    obtain⟨g1,g2⟩:=(rv.same sm).iC (d':=.dK (RL.putD ks ds kx d).1 (RL.putD ks ds kx d).2) (o':=.dK (putK (ks.zip xs) kx y)) hi h1 (sm _ _ f2) (.inr (.inl ⟨_,rfl⟩)) ⟨rfl,im,by
     rw[Rep]
     exact⟨q,ys,rfl,fun z=>z,by rw[br,p1],p2,(ae.upd (P:=fun p=>p=q) (sm _ _ f2) (.inr (.inl ⟨_,rfl⟩)) rfl (p3.imm im)).imm im⟩⟩
    exact k _ _ g1 ((Fr'.same sm).trans g2)
   ·cases e7
  ·cases e
 |dT ks ds=>
  dsimp only at e;split at e
  ·rename_i him;obtain⟨l',e4,e5⟩:=map_some e;cases e5
   cases kk with
   |tup kt=>
    obtain⟨kx,e6,e7⟩:=bind_some (show(RL.keysOf kt).bind _=some l' from e4);split at e7
    ·rename_i hz;cases e7;rw[Rep]at q3;obtain⟨q,xs,rfl,_,f2,fl,f3⟩:=q3;refine⟨σD,d,rv.rv0,e1,fun y H1 r1=>⟨.ref q,h1,σD,.tup kt,rv.rv0.same r1.same,e2,fun u H2 r2=>?_⟩⟩;have sm:=r1.same.trans r2.same;obtain⟨ys,p1,p2,p3⟩:=uD (x:=kx) fl (f3.same sm) (r1.rep.same r2.same)
     have hlen:(ks.zip xs).length<sizeLine:=by
      rw[List.length_zip,<-f3.length,fl,Nat.min_self,<-fl];exact Nat.lt_of_lt_of_le hz bU
     obtain⟨b,ws,rfl,g2,g3⟩:=bw r2.rep;rw[ib e6 g3]at g2;refine⟨q,_,rfl,j4.t (sm _ _ f2) g2 hlen,?_⟩;have im:=xq (x:=kx) him (ks:=ks) q2
     obtain⟨g1,g2⟩:=(rv.same sm).iC (d':=.dT (RL.putD ks ds kx d).1 (RL.putD ks ds kx d).2) (o':=.dT (putK (ks.zip xs) kx y)) hi h1 (sm _ _ f2) (.inr (.inr ⟨_,rfl⟩)) ⟨rfl,im,by
      rw[Rep]
      exact⟨q,ys,rfl,fun z=>z,by rw[br,p1],p2,(ae.upd (P:=fun p=>p=q) (sm _ _ f2) (.inr (.inr ⟨_,rfl⟩)) rfl (p3.imm im)).imm im⟩⟩
     exact k _ _ g1 ((Fr'.same sm).trans g2)
    ·cases e7
   | _=>cases e4
  ·cases e
 | lst _=>cases e
 | _=>cases q1
end rules
end RS
namespace L2
open PySem PySem.Spec PyProof.Rows
abbrev Its(c lo:Int)(n:Nat):It:=⟨fun i _=>i<n,fun i H x H'=>H'=H/\x=.int (lo+i*c),fun i _=>n<=i⟩
def yJ{P:Program}{w:World}{K:PySem.W.Frag}(it:Addr)(c lo:Int)(n:Nat):Turn P w K tg (Its c lo n) [it] it (fun i h=>IsRangeIter h it (lo+(i:Nat)*c) ((n:Int)-(i:Nat)) c) where
 mem:=by simp
 obj:=fun i h st b hb=>by
  rw[show b=it by simpa using hb];exact⟨_,st,fun v z=>by cases(show Data.fields _=Data.cell v from z)⟩
 keep:=fun i h h' st k=>k it (by simp) _ st
 item:=by
  intro X hP hw hK hc i pins s σ H E I hf st hg;subst hP hw hK;obtain⟨f0,f1,f2,f3,f4,f5⟩:=hf it (by simp);have W:=Walks.range (prog:=X.prog) (w:=X.w) (I.ok.hd.1 hc) it lo c n;refine W.item i s _ _ hg st fun v h' tk hv st' kk=>?_;obtain⟨t,rfl⟩:=hv;have I1:Inv X pins σ H { s with heap:=h',toks:=tk }:=I.turned (fun b o hb e=>kk b o (by simpa using hb) e) f0 f1 f3 f4 f5;exact⟨_,rfl,kI (s:={ s with heap:=h',toks:=tk }) (n := "range_iterator") st' rfl rfl (by decide) ⟨.int (lo+i*c),H,I1,⟨t,rfl⟩,⟨rfl,rfl⟩,st',fun b hb=>(hf b hb).1⟩⟩
 done:=by
  intro X hP hw hK hc i pins s σ H E I hf st hg;subst hP hw hK;obtain⟨f0,f1,f2,f3,f4,f5⟩:=hf it (by simp)
  exact wpAny_pyNext_range_end (I.ok.hd.1 hc) st (by have:n<=i:=hg;lia) fun h' eb=>⟨rfl,I.turned (t':=s.toks) (fun b o hb e=>eb b o hb e) f0 f1 f3 f4 f5⟩
 self:=fun _ _ _ _ _ st h=>wpAny_pyIter_rangeiter st h
end L2
namespace RS
open PySem PySem.Spec PyProof.Rows L2
def mw(c:Int):∀ (n:Nat) (lo:Int) (i:Nat) (d:RL.D),(RL.bN c lo n)[i]?=some d->d=.int (lo+i*c)
 | 0,lo,i,d,h=>by simp[RL.bN]at h
 | n+1,lo,0,d,h=>by simp[RL.bN]at h;simp[h]
 | n+1,lo,i+1,d,h=>by
  rw[RL.bN,List.getElem?_cons_succ]at h;rw[mw c n (lo+c) i d h];congr 1;rw[show((i+1:Nat):Int)=(i:Int)+1 by lia,Int.add_mul];lia
def iY(c:Int):∀ (n:Nat) (lo:Int),(RL.bN c lo n).length=n
 | 0,_=>rfl
 | n+1,lo=>by rw[RL.bN,List.length_cons,iY c n]
def uz{K:PySem.W.Frag}{H:Hp}{c lo:Int}:gB K (Its c lo n) (RL.bN c lo n) P H where
 go:=fun H' i k hi=>by rw[iY]at hi;exact hi
 stop:=fun H' k=>by rw[iY];exact Nat.le_refl _
 yld:=fun H' i d x H2 k e y=>by
  obtain⟨z,y⟩:=y;subst z;refine⟨a5.refl _,fun _=>?_⟩;rw[mw c n lo i d e,y];exact aX
section rules
variable{st:Stmt}
def xw(hf:∀ a b,RL.aG o (.int a) (.int b)=some (.int (f a b)))(h:PS X st (yZ i (tE X.K cl e') (ipI f)))(hi:M.contains i=false):SS X cl M st (.aug i o e'):=by
 refine PS.weak h fun D σ H h=>?_;obtain⟨σD,ou,σD',rv,e,k⟩:=h;obtain⟨x,e1,e⟩:=bind_some e;obtain⟨y,e2,e⟩:=bind_some e
 cases x with
 |int a=>
  cases y with
  |int b=>
   dsimp only at e;rw[hf]at e;cases e;obtain⟨v,h1,h2⟩:=rv.val i _ (slot_get e1);rw[if_neg (by rw[hi];decide)]at h2;refine⟨v,h1,σD,.int b,rv.rv0,e2,fun u H1 r1=>⟨a,b,aj h2,aj r1.rep,?_⟩⟩;exact k _ _ ((rv.same r1.same).bind hi aX) (Fr'.bind hi r1.same)
  | _=>cases e
 | _=>cases e
end rules
abbrev nQ(p:Addr)(a b c:Int):HO:=.ext fun h=>∃ t u v,IsRange h p a b c t u v
def rO(a b c:Int):0<=Builtin.Range.rangeSize a b c:=by
 unfold Builtin.Range.rangeSize;split
 ·split
  ·have:=Int.ediv_nonneg (a:=b-a-1) (b:=c) (by lia) (by lia);omega
  ·lia
 ·split
  ·by_cases h0:c=0
   ·subst h0;simp
   ·have:=Int.ediv_nonneg (a:=a-b-1) (b:=-c) (by lia) (by lia);omega
  ·lia
def AK(a b c:Int):Builtin.Range.rangeSize a b c<=(if a<b then b-a else a-b)+1:=by
 unfold Builtin.Range.rangeSize;split
 ·split
  ·have:=Int.ediv_le_self (a:=b-a-1) c (by lia);lia
  ·lia
 ·split
  ·have:=Int.ediv_le_self (a:=a-b-1) (-c) (by lia);split<;>omega
  ·split<;>lia
def j6(a b c:Int):(RL.bH c a b:Int)=Builtin.Range.rangeSize a b c:=Int.toNat_of_nonneg (rO a b c)
def jJ(ha:-(2 ^ 60)<=a)(ha':a<2 ^ 60)(hb:-(2 ^ 60)<=b)(hb':b<2 ^ 60)(hc:-(2 ^ 60)<=c)(hc':c<2 ^ 60):Builtin.Range.small a b c=true:=by
 have h1:=rO a b c;have h2:=AK a b c;unfold Builtin.Range.small;simp only[Builtin.Range.rangeFitsLong,Bool.and_eq_true,Bool.or_eq_true,decide_eq_true_eq,beq_iff_eq];refine⟨⟨⟨⟨?_,?_⟩,?_⟩,?_⟩,.inr ?_⟩
 ·lia
 ·lia
 ·lia
 ·split at h2<;>lia
 ·split<;>(rw[Bool.and_eq_true,decide_eq_true_eq,decide_eq_true_eq];lia)
section
variable{X:Cx}
abbrev rT(xs:List V)(a b c:Int):Prop:=(xs=[.int b]/\a=0/\c=1)\/(xs=[.int a,.int b]/\c=1)\/(xs=[.int a,.int b,.int c]/\c≠0/\c.natAbs<2 ^ 60)
def lX{pins:List (Addr × Obj)}{σ:L2.St}{H:Hp}{s:Shared}{a b c:Int}{t u v:Tok}{tk:Nat}(I:Inv X pins σ H s):Inv X pins σ (upd H s.heap.objs.size (nQ s.heap.objs.size a b c)) { s with heap:=s.heap.push { cls:=.type "range",data:=.fields #[.int a t,.int b u,.int c v] },toks:=tk } :=
 I.laid (fun b u e=>Heap.get?_push_of_some _ e) (Nat.le_refl _) ⟨⟨t,u,v,IsRange.new _ a b c t u v⟩,⟨_,Heap.get?_push_size _ rfl⟩,fun h1 h2 ⟨t,u,v,e⟩ k=>⟨t,u,v,k _ e⟩⟩
def jv:bF X (.type "range") (fun xs H Q=>∃ a b c,rT xs a b c/\∀ p,H p=none->Q (.ref p) (upd H p (nQ p a b c))):=by
 intro pins s σ H xs us Q I r h;obtain⟨a,b,c,ha,q⟩:=h;have hf:H s.heap.objs.size=none:=I.hok.fresh (Nat.le_refl _)
 rcases ha with⟨rfl,rfl,rfl⟩ | ⟨rfl,rfl⟩ | ⟨rfl,hc,hc2⟩
 ·cases r with
  |cons r rr=>
   cases rr;obtain⟨t,rfl⟩:=r;exact call_range_1 ⟨.ref _,_,lX I,rfl,q _ hf⟩
 ·cases r with
  |cons r rr=>
   cases rr with
   |cons r2 rr=>
    cases rr;obtain⟨t,rfl⟩:=r;obtain⟨t2,rfl⟩:=r2;exact call_range_2 ⟨.ref _,_,lX I,rfl,q _ hf⟩
 ·cases r with
  |cons r rr=>
   cases rr with
   |cons r2 rr=>
    cases rr with
    |cons r3 rr=>
     cases rr;obtain⟨t,rfl⟩:=r;obtain⟨t2,rfl⟩:=r2;obtain⟨t3,rfl⟩:=r3;refine call_range_3 hc ⟨.ref _,_,lX I,rfl,q _ hf⟩ (.inl (PyProof.noPylong_of_log2 ?_));have:c.natAbs.log2<60:=(Nat.log2_lt (by lia)).mpr hc2;lia
abbrev cO(a c:Int)(n:Nat):List V:=(List.range n).map fun(i:Nat)=>V.int (a+(i:Int)*c)
def CO{a c:Int}{n:Nat}{acc:Array Value}(hI:ItemsOf (fun i v=>∃ t,v=.int (a+i*c) t) acc n):Vals (cO a c n) acc.toList:=by
 have len:(cO a c (n)).length=acc.toList.length:=by
  simp only[cO,List.length_map,List.length_range,Array.length_toList,hI.1]
 have gen:∀ (xs:List V) (us:List Value),xs.length=us.length->(∀ (i:Nat) u,us[i]?=some u->∃ x,xs[i]?=some x/\RelV x u)->Vals xs us:=by
  intro xs
  induction xs with
  | nil=>intro us h _;cases us with
   | nil=>exact .nil
   | cons _ _=>cases h
  | cons x r ih=>intro us h g;cases us with
   | nil=>cases h
   |cons u us=>
    obtain⟨x',e1,e2⟩:=g 0 u rfl;cases e1
    exact .cons e2 (ih us (by simpa using h) fun i u hu=>by
     obtain⟨y,e3,e4⟩:=g (i+1) u (by simpa using hu)
     exact⟨y,by simpa using e3,e4⟩)
 refine gen _ _ len fun i u hu=>?_
 have hu':acc[i]?=some u:=by simpa using hu
 obtain⟨tk,rfl⟩:=hI.2 i u hu'
 have hi:i<n:=by
  have:=(Array.getElem?_eq_some_iff.mp hu').1;rw[hI.1]at this;exact this
 exact⟨.int (a+(i:Int)*c),by simp[cO,hi],tk,rfl⟩
def fV(hc:X.calm=true):bF X (.type "list") (fun xs H Q=>∃ p a b c,xs=[.ref p]/\H p=some (nQ p a b c)/\Builtin.Range.small a b c=true/\RL.bH c a b<=RL.most /\
  ∀ l,H l=none->Q (.ref l) (upd H l (.lst (cO a c (RL.bH c a b))))):=by
 intro pins s σ H xs us Q I r h;obtain⟨p,a,b,c,rfl,hp,hs,hn,q⟩:=h
 cases r with
 |cons r rr=>
  cases rr;cases r;obtain⟨⟨t,u,v,hR⟩,_,_⟩:=I.hok p _ hp;refine call_list_range (I.ok.hd.1 hc) hR hs (j6 a b c).symm (Nat.le_trans hn (by decide)) fun h' tk acc c' hk hS hI=>?_;have hf:H s.heap.objs.size=none:=I.hok.fresh (Nat.le_refl _);refine⟨.ref s.heap.objs.size,upd H s.heap.objs.size (.lst (cO a c (RL.bH c a b))),I.laid hk (Nat.le_refl _) (show _/\_ from⟨?_,acc.toList,c',?_,?_⟩),rfl,q _ hf⟩
  ·simp only[cO,List.length_map,List.length_range];exact Nat.le_trans hn bU
  ·exact CO hI
  ·rw[Array.toArray_toList];exact hS
def pB{P:Addr->Prop}{K:PySem.W.Frag}:∀ (n:Nat) (a c:Int),ae P K H (RL.bN c a n) (cO a c n)
 | 0,a,c=>ae.nil
 | n+1,a,c=>by
  have e:cO a c (n+1)=V.int a::cO (a+c) c n:=by
   simp only[cO,List.range_succ_eq_map,List.map_cons,List.map_map];congr 1
   ·simp
   ·apply List.map_congr_left;intro i _;show V.int (a+((i+1:Nat):Int)*c)=V.int (a+c+(i:Int)*c);congr 1;rw[show((i+1:Nat):Int)=(i:Int)+1 by lia,Int.add_mul];lia
  rw[RL.bN,e];exact ae.cons aX (pB n (a+c) c)
def lR:∀ (n:Nat) (a:Int),RL.c9 a n=RL.bN 1 a n
 | 0,_=>rfl
 | n+1,a=>by rw[RL.c9,RL.bN,lR n]
def gh(a b:Int):RL.bH 1 a b=(b-a).toNat:=by
 have h:=j6 a b 1;rw[rangeSize_one]at h;split at h<;>lia
def sQ{σD:RL.St}{σ:L2.St}{H H1:Hp}{e:RL.E}{Q:VK}{vs:List V}{a b c:Int}{ds:List RL.D}(hv:rT vs a b c)(hd:ds=RL.bN c a (RL.bH c a b))(hn:RL.bH c a b<=RL.most)(hs:Builtin.Range.small a b c=true)(sm:a5 H H1)
 (hav:∀ M,RL.avE M e=false)(k:∀ v H',Res X.K σD σ H e (.lst ds) v H'->Q v H') :
  ∃ a b c,rT vs a b c/\∀ p,H1 p=none->(fun xs H Q=>∃ p a b c,xs=[V.ref p]/\H p=some (nQ p a b c)/\Builtin.Range.small a b c=true/\RL.bH c a b<=RL.most/\∀ l,H l=none->Q (.ref l) (upd H l (.lst (cO a c (RL.bH c a b))))) [.ref p] (upd H1 p (nQ p a b c)) Q:=by
 refine⟨a,b,c,hv,fun p hp=>⟨p,a,b,c,rfl,br,hs,hn,fun l hl=>k _ _ ?_⟩⟩;subst hd;exact dZ (sm.trans (a5.bQ hp)) hl (pB _ _ _) hav
def B5(hc:X.calm=true)(hgl:Gl X "list")(hml:X.mg "list" = none)(hg:Gl X "range")(hm:X.mg "range" = none)(ha:SE X cl a a')(hn:noStar a=true){p2 pos2:Pos}:SE X cl (.Call (.Name "list" p2) [.Call (.Name "range" p) [a] [] pos] [] pos2) (.rng1 a'):=by
 refine PE.weak (c8 (fV hc) hgl hml (by decide +kernel) (bE (c8 jv hg hm boot_range (bR (cl:=cl) ha cV hn) (by decide) (by decide) (a9 [] hn) rfl) dh rfl) (by decide) (by decide) rfl rfl) fun σ H Q h=>?_;obtain⟨σD,d,rv,e,k⟩:=h;obtain⟨x,ea,e⟩:=bind_some e;obtain⟨ds,e1,e2⟩:=map_some e;subst e2;obtain⟨i,j,e3,rfl,hb,hm2,rfl⟩:=m4 e1;cases e3
 have hb2:-(2 ^ 60)<=j/\j<2 ^ 60:=by
  simp only[RL.cE]at e1;split at e1
  ·lia
  ·cases e1
 refine one rv ea fun v H1 s1 r1=>?_;exact sQ (a:=0) (b:=j) (c:=1) (.inl ⟨by rw[aj r1],rfl,rfl⟩) (by rw[lR,gh]) (by rw[gh];exact hm2) (jJ (by decide) (by decide) hb2.1 hb2.2 (by decide) (by decide)) s1 (fun _=>rfl) k
def BM(hc:X.calm=true)(hgl:Gl X "list")(hml:X.mg "list" = none)(hg:Gl X "range")(hm:X.mg "range" = none)(ha:SE X cl a a')(hb:SE X cl b b')(hn:noStar a=true)(hn2:noStar b=true){p2 pos2:Pos}:SE X cl (.Call (.Name "list" p2) [.Call (.Name "range" p) [a,b] [] pos] [] pos2) (.rng2 a' b'):=by
 refine PE.weak (c8 (fV hc) hgl hml (by decide +kernel) (bE (c8 jv hg hm boot_range (bR (cl:=cl) ha (bR hb cV hn2) hn) (by decide) (by decide) (a9 _ hn) (eR (by simp[hn2]))) dh rfl) (by decide) (by decide) rfl rfl) fun σ H Q h=>?_;obtain⟨σD,d,rv,e,k⟩:=h;obtain⟨x,ea,e⟩:=bind_some e;obtain⟨y,eb,e⟩:=bind_some e;obtain⟨ds,e1,e2⟩:=map_some e;subst e2;obtain⟨i,j,rfl,rfl,hb,hm2,rfl⟩:=m4 e1
 have hb2:(-(2 ^ 60)<=i/\i<2 ^ 60)/\-(2 ^ 60)<=j/\j<2 ^ 60:=by
  simp only[RL.cE]at e1;split at e1
  ·lia
  ·cases e1
 refine pair rv ea eb fun v u H1 s1 r1 r2=>?_;exact sQ (a:=i) (b:=j) (c:=1) (.inr (.inl ⟨by rw[aj r1,aj r2],rfl⟩)) (by rw[lR,gh]) (by rw[gh];exact hm2) (jJ hb2.1.1 hb2.1.2 hb2.2.1 hb2.2.2 (by decide) (by decide)) s1 (fun _=>rfl) k
abbrev gf(c:Int):Expr->Bool
 | .Constant (.int i) _ _=>i == c
 | .UnaryOp .USub (.Constant (.int i) _ _) _=>-i == c
 | _=>false
def kL(h:gf c e=true):PE X e (tC (.int c))/\noStar e=true:=by
 unfold gf at h;split at h
 ·rw[beq_iff_eq]at h;subst h;exact⟨qF,rfl⟩
 ·rw[beq_iff_eq]at h;subst h;exact⟨PE.weak (Ba xm qF) fun σ H Q q=>⟨_,rfl,q⟩,rfl⟩
 ·cases h
def ur(h:RL.kO c x y=some ds):∃ i j:Int,x=.int i/\y=.int j/\c≠0/\c.natAbs<2 ^ 60/\Builtin.Range.small i j c=true/\RL.bH c i j<=RL.most/\ds=RL.bN c i (RL.bH c i j):=by
 cases x<;>cases y<;>simp only[RL.kO]at h<;>first
  | (cases h;done)
  | (split at h
     ·rename_i i j hc;cases h;exact⟨i,j,rfl,rfl,hc.1,by omega,jJ hc.2.2.2.2.1 hc.2.2.2.2.2.1 hc.2.2.2.2.2.2.1 hc.2.2.2.2.2.2.2 (by omega) hc.2.2.1,hc.2.2.2.1,rfl⟩
     ·cases h)
def uN(ha:SE X cl a a')(hb:SE X cl b b')(hn:noStar a=true)(hn2:noStar b=true)(h3:gf c e3=true):PA X [a,b,e3] (fun σ H R=>tE X.K cl a' σ H fun v H1=>tE X.K cl b' σ H1 fun u H2=>R [v,u,.int c] H2) :=
 bE ha (bE hb (bE (kL h3).1 dh (a9 [] (kL (X:=X) h3).2)) (a9 _ hn2)) (a9 _ hn)
def CH{c:Int}{e3:Expr}(hc:X.calm=true)(hgl:Gl X "list")(hml:X.mg "list" = none)(hg:Gl X "range")(hm:X.mg "range" = none)(ha:SE X cl a a')(hb:SE X cl b b')(hn:noStar a=true)(hn2:noStar b=true)(h3:gf c e3=true){p2 pos2:Pos} :
  SE X cl (.Call (.Name "list" p2) [.Call (.Name "range" p) [a,b,e3] [] pos] [] pos2) (.rng3 c a' b'):=by
 refine PE.weak (c8 (fV hc) hgl hml (by decide +kernel) (bE (c8 jv hg hm boot_range (uN (cl:=cl) ha hb hn hn2 h3) (by decide) (by decide) (a9 _ hn) (eR (by simp[hn2,(kL (X:=X) h3).2]))) dh rfl) (by decide) (by decide) rfl rfl) fun σ H Q h=>?_;obtain⟨σD,d,rv,e,k⟩:=h;obtain⟨x,ea,e⟩:=bind_some e;obtain⟨y,eb,e⟩:=bind_some e;obtain⟨ds,e1,e2⟩:=map_some e;subst e2;obtain⟨i,j,rfl,rfl,h0,h1,h2,h3,rfl⟩:=ur e1;refine two rv ea eb fun v u H1 H2 s1 s2 rx ry _ _=>?_;exact sQ (a:=i) (b:=j) (c:=c) (.inr (.inr ⟨by rw[aj rx,aj ry],h0,h1⟩)) rfl h3 h2 (s1.trans s2) (fun _=>rfl) k
def BB(hg:Gl X "range")(hm:X.mg "range" = none)(ha:SE X cl a a')(hb:SE X cl b b')(hn:noStar a=true)(hn2:noStar b=true)(h3:gf c e3=true) :
  SI X cl tg (.Call (.Name "range" p) [a,b,e3] [] pos) (.rng3 c a' b'):=by
 intro pins s σ H R I h;obtain⟨σD,ds,rv,e,k⟩:=h;obtain⟨x,ea,e⟩:=bind_some e;obtain⟨y,eb,e⟩:=bind_some e;obtain⟨i,j,rfl,rfl,h0,h1,hs,hl,rfl⟩:=ur e;refine thn (c8 jv hg hm boot_range (uN (cl:=cl) ha hb hn hn2 h3) (by decide) (by decide) (a9 _ hn) (eR (by simp[hn2,(kL (X:=X) h3).2])) pins s σ H (fun x H2=>∃ p,x=.ref p/\H2 p=some (nQ p i j c)/\a5 H H2) I ?_) ?_
 ·exact two rv ea eb fun v u H1 H2 s1 s2 rx ry _ _=>⟨i,j,c,.inr (.inr ⟨by rw[aj rx,aj ry],h0,h1⟩),fun p hp=>⟨p,rfl,br,(s1.trans s2).trans (a5.bQ hp)⟩⟩
 ·rintro v s1 ⟨x,H1,I1,r1,q,rfl,hq,sm⟩;cases r1;obtain⟨⟨t,u,v,hR⟩,_,_⟩:=I1.hok q _ hq;refine wpAny_pyIter_range hR hs ⟨s1.heap.objs.size,[s1.heap.objs.size],_,Its c i (RL.bH c i j),H1,rfl,I1.kept (t':=s1.toks) fun b o e=>Heap.get?_push_of_some _ e,yJ _ c i _,?_,fun b hb=>?_,k _ _ sm ⟨uz,fun _ _ _ _ _=>uz⟩⟩
  ·have e1:i+((0:Nat):Int)*c=i:=by simp
   have e2:((RL.bH c i j:Nat):Int)-((0:Nat):Int)=Builtin.Range.rangeSize i j c:=by rw[j6];simp
   show IsRangeIter _ _ (i+((0:Nat):Int)*c) (((RL.bH c i j:Nat):Int)-((0:Nat):Int)) c;rw[e1,e2];exact Heap.get?_push_size _ rfl
  ·rw[show b=s1.heap.objs.size by simpa using hb];exact I1.kg (Nat.le_refl _) (I1.hok.fresh (Nat.le_refl _))
def Co(hl:SE X cl l e'):SI X cl tg l (.seq e'):=by
 refine PI.weak (D0 (cl:=cl) hl trivial) fun σ H R h=>?_;obtain⟨σD,ds,rv,e,k⟩:=h;obtain⟨d,e1,e2⟩:=bind_some e;exact⟨σD,d,ds,rv,e1,e2,k⟩
def FH(ha:SE X cl a a'):SE X cl (.UnaryOp .USub a pos) (.neg a'):=by
 refine PE.weak (Ba xm ha) fun σ H Q h=>?_;obtain⟨σD,d,rv,e,k⟩:=h;obtain⟨x,ea,e⟩:=bind_some e
 cases x with
 | int i=>cases e;exact⟨σD,_,rv,ea,fun v H1 r1=>⟨i,aj r1.rep,k _ _ (cW r1.same aX rfl)⟩⟩
 | _=>cases e
end
abbrev mAt(mp:List Nat)(vs:List V):Addr->Prop:=fun a=>∃ p,p∈mp/\vs[p]?=some (.ref a)
structure E5(K:PySem.W.Frag)(mp:List Nat)(ds:List RL.D)(vs:List V)(H:Hp):Prop where
 jW:ae nP K H ds vs
 own:∀ p∈mp,∃ d a,ds[p]?=some d/\vs[p]?=some (.ref a)/\Own K H d (.ref a)
 sep:∀ p∈mp,∀ q∈mp,∀ a,vs[p]?=some (.ref a)->vs[q]?=some (.ref a)->p=q
 oth:∀ (q:Nat) d v,q∉mp->ds[q]?=some d->vs[q]?=some v->Rep (mAt mp vs) K H d v
structure IY(K:PySem.W.Frag)(mp:List Nat)(outs:List RL.D)(vs:List V)(H:Hp):Prop where
 len:outs.length=mp.length
 own:∀ (k p:Nat) o,mp[k]?=some p->outs[k]?=some o->∃ a,vs[p]?=some (.ref a)/\Own K H o (.ref a)
abbrev spM(K:PySem.W.Frag)(cl:RL.Cl)(mp:List Nat)(f:Nat):Sp:=fun vs H Q _=>∃ ds d outs,cl f ds=some (.tup (d::outs))/\E5 K mp ds vs H/\∀ v H',Off (mAt mp vs) H H'->Rep nP K H' d v->d.imm=true->IY K mp outs vs H'->Q v H'
abbrev sA(K:PySem.W.Frag)(cl:RL.Cl):RL.E->TE
 | .var j=>gF j
 | e=>tE K cl e
abbrev ju(K:PySem.W.Frag)(cl:RL.Cl):RL.Es->TA
 | .nil=>sN
 | .cons e es=>hZ (sA K cl e) (ju K cl es)
abbrev cA(K:PySem.W.Frag)(M:List Nat)(σ:L2.St)(ps:List Nat)(H:Hp):Nat->RL.Es->List RL.D->List V->Prop
 | _,.nil,[],[]=>True
 | q,.cons e es,d::ds,v::vs=>Rep nP K H d v/\(if ps.contains q=true then ∃ j,e=.var j/\σ[j]?=some (some v)else Rep (aV M σ) K H d v)/\cA K M σ ps H (q+1) es ds vs
 | _,_,_,_=>False
section
variable{K:PySem.W.Frag}
def xv(e:RL.ev cl σD (.var j)=some d):σD[j]?=some (some d):=by
 exact slot_get e
def Fp(rv:RVm K M σD σ H)(r1:Res K σD σ H e' d v H1)(ok:RL.aN M e' d=true):Rep (aV M σ) K H1 d v:=by
 unfold RL.aN at ok;rw[Bool.or_eq_true,Bool.or_eq_true,Bool.and_eq_true]at ok;rcases ok with(q | ⟨q1,q2⟩) | q
 ·exact r1.rep.imm q
 ·have rp:=r1.rep;have fr:j2 d=true->∀ a,v=.ref a->¬ aV M σ a:=fun m a z p=>rv.oM a p (r1.fresh q2 m a z)
  cases d with
  | lst ds=>obtain⟨a,xs,e1,e0,e2,e3⟩:=aC rp;rw[Rep];exact⟨a,xs,e1,fr rfl a e1,e2,e3.imm q1⟩
  | dK ks ds=>rw[Rep]at rp ⊢;obtain⟨a,xs,e1,e0,e2,el,e3⟩:=rp;exact⟨a,xs,e1,fr rfl a e1,e2,el,e3.imm q1⟩
  | dT ks ds=>rw[Rep]at rp ⊢;obtain⟨a,xs,e1,e0,e2,el,e3⟩:=rp;exact⟨a,xs,e1,fr rfl a e1,e2,el,e3.imm q1⟩
  | _=>cases q1
 ·refine r1.av M q _ rv.oM fun j dj vj hj h1 h2=>?_;obtain⟨v',h3,h4⟩:=rv.val j dj h1;rw[h2]at h3;cases h3;rw[if_neg (by rw[hj];decide)]at h4;exact h4
def BW{e:RL.E}{d:RL.D}{ps:List Nat}(rv:RVm K M σD σ H)(he:RL.ev cl σD e=some d)(ok:(if ps.contains q=true then RL.isVar e else RL.aN M e d)=true)
 (k:∀ v H1,a5 H H1->Rep nP K H1 d v->(if ps.contains q=true then ∃ j,e=.var j/\σ[j]?=some (some v)else Rep (aV M σ) K H1 d v)->R v H1):sA K cl e σ H R:=by
 have other:sA K cl e=tE K cl e->ps.contains q=false->sA K cl e σ H R:=fun z hq=>by
  rw[z];rw[if_neg (by rw[hq];decide)]at ok;refine⟨σD,d,rv.rv0,he,fun v H1 r1=>k v H1 r1.same r1.rep ?_⟩;rw[if_neg (by rw[hq];decide)];exact Fp rv r1 ok
 cases e with
 |var j=>
  have hj:=xv he;obtain⟨v,h1,h2⟩:=rv.val j d hj;refine⟨v,h1,k v H (a5.refl H) ?_ ?_⟩
  ·obtain⟨v',h3,h4⟩:=rv.rv0.2 j d hj;rw[h1]at h3;cases h3;exact h4
  ·by_cases hq:ps.contains q=true
   ·rw[if_pos hq];exact⟨j,rfl,h1⟩
   ·rw[if_neg hq]at ok ⊢;by_cases hm:M.contains j=true
    ·rw[if_pos hm]at h2
     have im:d.imm=true:=by
      unfold RL.aN at ok;rw[Bool.or_eq_true,Bool.or_eq_true,Bool.and_eq_true]at ok;rcases ok with(z | ⟨_,z⟩) | z
      ·exact z
      ·cases z
      ·rw[RL.vX,hm]at z;cases z
     exact h2.2.2.imm im
    ·rw[if_neg hm]at h2;exact h2
 |_=>
  refine other rfl ?_
  cases hq:ps.contains q with
  | false=>rfl
  |true=>
   rw[if_pos hq]at ok;cases ok
def tq:∀ {es:RL.Es} {q:Nat} {ds:List RL.D} {H:Hp} {R:List V->Hp->Prop},RVm K M σD σ H->RL.evs cl σD es=some ds->RL.dA M ps q es ds=true ->
  (∀ vs H1,a5 H H1->cA K M σ ps H1 q es ds vs->R vs H1)->ju K cl es σ H R
 | .nil,q,ds,H,R,rv,he,ok,k=>by
  cases he;exact k [] H (a5.refl H) (by rw[cA];trivial)
 | .cons e es,q,ds,H,R,rv,he,ok,k=>by
  obtain⟨d,e1,he⟩:=bind_some he;obtain⟨ds',e2,e3⟩:=map_some he;subst e3;rw[RL.dA,Bool.and_eq_true]at ok;refine BW rv e1 ok.1 fun v H1 s1 r1 x1=>?_;refine tq (rv.same s1) e2 ok.2 fun vs H2 s2 r2=>k (v::vs) H2 (s1.trans s2) ?_;rw[cA];refine⟨r1.same s2,?_,r2⟩;by_cases hq:ps.contains q=true
  ·rw[if_pos hq]at x1 ⊢;exact x1
  ·rw[if_neg hq]at x1 ⊢;exact x1.same s2
abbrev ku:RL.Es->Nat->Option RL.E
 | .nil,_=>none
 | .cons e _,0=>some e
 | .cons _ es,n+1=>ku es n
def cA.jW:∀ {q:Nat} {es:RL.Es} {ds:List RL.D} {vs:List V},cA K M σ ps H q es ds vs->ae nP K H ds vs
 | _,.nil,[],[],h=>ae.nil
 | q,.cons e es,d::ds,v::vs,h=>by
  rw[cA]at h;exact ae.cons h.1 (cA.jW h.2.2)
 | _,.nil,_::_,_,h=>by simp[cA]at h
 | _,.nil,[],_::_,h=>by simp[cA]at h
 | _,.cons _ _,[],_,h=>by simp[cA]at h
 | _,.cons _ _,_::_,[],h=>by simp[cA]at h
def cA.get:∀ {q:Nat} {es:RL.Es} {ds:List RL.D} {vs:List V} (n:Nat) {d:RL.D} {v:V},cA K M σ ps H q es ds vs->ds[n]?=some d->vs[n]?=some v ->
  Rep nP K H d v/\(if ps.contains (q+n)=true then ∃ j,ku es n=some (.var j)/\σ[j]?=some (some v)else Rep (aV M σ) K H d v)
 | _,.nil,[],[],n,_,_,h,e,_=>by simp at e
 | q,.cons e es,d::ds,v::vs,0,_,_,h,e1,e2=>by
  simp at e1 e2;subst e1 e2;rw[cA]at h;refine⟨h.1,?_⟩;have h2:=h.2.1;rw[Nat.add_zero];by_cases hq:ps.contains q=true
  ·rw[if_pos hq]at h2 ⊢;obtain⟨j,z,y⟩:=h2;subst z;exact⟨j,rfl,y⟩
  ·rw[if_neg hq]at h2 ⊢;exact h2
 | q,.cons e es,d::ds,v::vs,n+1,_,_,h,e1,e2=>by
  rw[cA]at h;have:=cA.get n h.2.2 (by simpa using e1) (by simpa using e2);rw[show q+1+n=q+(n+1) by lia]at this;exact this
 | _,.nil,_::_,_,_,_,_,h,_,_=>by simp[cA]at h
 | _,.nil,[],_::_,_,_,_,h,_,_=>by simp[cA]at h
 | _,.cons _ _,[],_,_,_,_,h,_,_=>by simp[cA]at h
 | _,.cons _ _,_::_,[],_,_,_,h,_,_=>by simp[cA]at h
def Own.off(h:Own K H d (.ref a))(hm:∀ b o,P b->H b=some o->cu o)(k:Off P H H1)(n:¬ P a):Own K H1 d (.ref a):=by
 obtain⟨q1,q2,q3⟩:=h;refine⟨q1,q2,?_⟩;have im:∀ {ds:List RL.D} {xs:List V},RL.au ds=true->ae nP K H ds xs->ae nP K H1 ds xs:=fun hi r=>((r.imm hi).off hm k).imm hi
 cases d with
 | lst ds=>obtain⟨b',xs,e1,e0,e2,e3⟩:=aC q3;cases e1;rw[Rep];exact⟨a,xs,rfl,fun z=>z,k _ _ n e2,im q2 e3⟩
 | dK ks ds=>rw[Rep]at q3 ⊢;obtain⟨b',xs,e1,e0,e2,el,e3⟩:=q3;cases e1;exact⟨a,xs,rfl,fun z=>z,k _ _ n e2,el,im q2 e3⟩
 | dT ks ds=>rw[Rep]at q3 ⊢;obtain⟨b',xs,e1,e0,e2,el,e3⟩:=q3;cases e1;exact⟨a,xs,rfl,fun z=>z,k _ _ n e2,el,im q2 e3⟩
 | _=>cases q1
def oD:∀ {ms:List Nat} {outs:List RL.D} {σD:RL.St} {k i:Nat} {o:RL.D},ms.Nodup->ms[k]?=some i->outs[k]?=some o->i<σD.length->(dQ ms outs σD)[i]?=some (some o)
 | [],_,_,_,_,_,_,e,_,_=>by simp at e
 | m::ms,[],_,_,_,_,_,_,e,_=>by simp at e
 | m::ms,d::ds,σD,0,i,o,nd,e1,e2,hl=>by
  simp at e1 e2;subst e1 e2;rw[dQ,kT _ _ _ _ (by simpa using(List.nodup_cons.mp nd).1),List.getElem?_set_self hl]
 | m::ms,d::ds,σD,k+1,i,o,nd,e1,e2,hl=>by
  rw[dQ];exact oD (List.nodup_cons.mp nd).2 (by simpa using e1) (by simpa using e2) (by simpa using hl)
def RVm.changed(h:RVm K M σD σ H)(hms:∀ i∈ms,M.contains i=true)(nd:ms.Nodup)(len:ms.length=outs.length)(k:Off (fun a=>∃ i∈ms,σ[i]?=some (some (.ref a))) H H1)
 (ow:∀ (k i:Nat) o,ms[k]?=some i->outs[k]?=some o->∃ a,σ[i]?=some (some (.ref a))/\Own K H1 o (.ref a)):RVm K M (dQ ms outs σD) σ H1/\Fr' M σ H σ H1:=by
 have sub:∀ a,(∃ i∈ms,σ[i]?=some (some (.ref a)))->aV M σ a:=fun a ⟨i,hi,e⟩=>⟨i,hms i hi,e⟩
 have offA:Off (aV M σ) H H1:=fun b o n e=>k b o (fun z=>n (sub b z)) e
 have hmA:∀ b o,aV M σ b->H b=some o->cu o:=fun b o p e=>by
  obtain⟨o',e',m⟩:=h.A1 b p;rw[e]at e';cases e';exact m
 have at_:∀ i,i∈ms->∃ (kk:Nat) (o:RL.D),ms[kk]?=some i/\outs[kk]?=some o:=fun i hi=>by
  obtain⟨kk,hk,e⟩:=List.getElem_of_mem hi;exact⟨kk,outs[kk]'(by lia),by simp[hk,e],by simp⟩
 refine⟨⟨by rw[lL];exact h.len,fun i d e=>?_,fun i v e=>?_,h.sep⟩,⟨fun b o e n=>⟨offA b o n e,n⟩,fun _ _=>rfl⟩⟩
 ·by_cases hi:i∈ms
  ·obtain⟨kk,o,e1,e2⟩:=at_ i hi
   have hl:i<σD.length:=by
    have:=(List.getElem?_eq_some_iff.mp e).1;rw[lL]at this;exact this
   rw[oD nd e1 e2 hl]at e;cases e;obtain⟨a,q1,q2⟩:=ow kk i _ e1 e2;exact⟨.ref a,q1,by rw[if_pos (hms i hi)];exact q2⟩
  ·rw[kT _ _ _ _ (by simpa using hi)]at e;obtain⟨v,h1,h2⟩:=h.val i d e;refine⟨v,h1,?_⟩;by_cases hm:M.contains i=true
   ·rw[if_pos hm]at h2 ⊢;obtain⟨a,o,rfl,_,_⟩:=h2.ref;refine h2.off (fun b o p e=>hmA b o (sub b p) e) k fun⟨j,hj,ej⟩=>?_;exact hi (h.sep i j a hm (hms j hj) h1 ej▸hj)
   ·rw[if_neg hm]at h2 ⊢;exact h2.off hmA offA
 ·obtain⟨d,hd⟩:=h.non i v e;by_cases hi:i∈ms
  ·obtain⟨kk,o,e1,e2⟩:=at_ i hi;exact⟨o,oD nd e1 e2 (List.getElem?_eq_some_iff.mp hd).1⟩
  ·exact⟨d,by rw[kT _ _ _ _ (by simpa using hi)];exact hd⟩
end
section rules
variable{X:Cx}{st:Stmt}
abbrev bW(es:RL.Es):List Nat->List Nat->Bool
 | [],[]=>true
 | p::ps,m::ms=>(match ku es p with | some (.var j)=>j == m | _=>false)&&bW es ps ms
 | _,_=>false
def lB:∀ {ps ms:List Nat} {k p:Nat},bW es ps ms=true->ps[k]?=some p->∃ m,ms[k]?=some m/\ku es p=some (.var m)
 | [],_,_,_,_,e=>by simp at e
 | _::_,[],_,_,h,_=>by simp[bW]at h
 | p::ps,m::ms,0,q,h,e=>by
  rw[bW,Bool.and_eq_true]at h;simp at e;subst e;have h1:=h.1;split at h1
  ·rename_i j hj;rw[beq_iff_eq]at h1;subst h1;exact⟨j,rfl,hj⟩
  ·cases h1
 | p::ps,m::ms,k+1,q,h,e=>by
  rw[bW,Bool.and_eq_true]at h;obtain⟨m',h1,h2⟩:=lB (k:=k) h.2 (by simpa using e);exact⟨m',by simpa using h1,h2⟩
def iz:∀ {ps ms:List Nat},bW es ps ms=true->ps.length=ms.length
 | [],[],_=>rfl
 | [],_::_,h=>by simp[bW]at h
 | _::_,[],h=>by simp[bW]at h
 | p::ps,m::ms,h=>by
  rw[bW,Bool.and_eq_true]at h;rw[List.length_cons,List.length_cons,iz h.2]
def Av(rv:RVm X.K M σD σ H)(he:RL.evs cl σD es=some ds)(ok:RL.dA M ps 0 es ds=true)(hc:cl f ds=some (.tup (d::outs)))
 (hs:bW es ps ms=true)(hms:∀ i∈ms,M.contains i=true)(nd:ms.Nodup)(ndp:ps.Nodup)(hset:RL.b8 ms outs σD=some σ1)
 (k:∀ v H',Rep nP X.K H' d v->d.imm=true->RVm X.K M σ1 σ H'->Fr' M σ H σ H'->Q v H'):m5 (spM X.K cl ps f) [] E0 (ju X.K cl es) σ H Q:=by
 refine tq rv he ok fun vs H1 s1 ar=>?_;show spM X.K cl ps f (vs++[]) H1 Q E0;rw[List.append_nil];have rv1:=rv.same s1;have rps:=ar.jW;obtain⟨hlen,hσ1⟩:=fH hset;subst hσ1
 have adr:∀ (k p:Nat),ps[k]?=some p->∃ m a d',ms[k]?=some m/\σ[m]?=some (some (.ref a))/\vs[p]?=some (.ref a)/\ds[p]?=some d'/\Own X.K H1 d' (.ref a)/\ku es p=some (.var m):=by
  intro k p hk;obtain⟨m,h1,h2⟩:=lB hs hk
  have evg:∀ (es:RL.Es) (ds:List RL.D) (n:Nat) (e:RL.E),RL.evs cl σD es=some ds->ku es n=some e->∃ d',ds[n]?=some d'/\RL.ev cl σD e=some d':=by
   intro es
   induction es using RL.Es.rec (motive_1:=fun _=>True) (motive_3:=fun _=>True)with
   | nil=>intro ds n e _ z;cases z
   |cons e0 es0 _ ih=>
    intro ds n e h z;obtain⟨d0,y1,h⟩:=bind_some h;obtain⟨ds0,y2,y3⟩:=map_some h;subst y3
    cases n with
    | zero=>cases z;exact⟨d0,rfl,y1⟩
    | succ n=>exact ih ds0 n e y2 z
   | _=>trivial
  obtain⟨d',g1,g2⟩:=evg es ds p _ he h2;obtain⟨v,g3,g4⟩:=rps.get g1
  have hpc:ps.contains (0+p)=true:=by
   rw[Nat.zero_add];simpa using List.mem_of_getElem? hk
  have g5:=(ar.get p g1 g3).2;rw[if_pos hpc]at g5;obtain⟨j,z1,z2⟩:=g5;rw[h2]at z1;cases z1;have hm:M.contains m=true:=hms m (List.mem_of_getElem? h1);obtain⟨v',z3,z4⟩:=rv1.val m d' (xv g2);rw[z2]at z3;cases z3;rw[if_pos hm]at z4;obtain⟨a,o,rfl,_,_⟩:=z4.ref;exact⟨m,a,d',h1,z2,g3,g1,z4,h2⟩
 have adr':∀ a,mAt ps vs a->∃ i∈ms,σ[i]?=some (some (.ref a)):=fun a ⟨p,hp,e⟩=>by
  obtain⟨k,hk,z⟩:=List.getElem_of_mem hp;obtain⟨m,a',d',h1,h2,h3,_⟩:=adr k p (by simp[hk,z]);rw[e]at h3;cases h3;exact⟨m,List.mem_of_getElem? h1,h2⟩
 refine⟨ds,d,outs,hc,⟨rps,fun p hp=>?_,fun p hp q hq a e1 e2=>?_,fun q dq v hq e1 e2=>?_⟩,fun v H' off rp im mo=>?_⟩
 ·obtain⟨k,hk,z⟩:=List.getElem_of_mem hp;obtain⟨m,a',d',h1,h2,h3,h4,h5,_⟩:=adr k p (by simp[hk,z]);exact⟨d',a',h4,h3,h5⟩
 ·obtain⟨k,hk,z⟩:=List.getElem_of_mem hp;obtain⟨l,hl,y⟩:=List.getElem_of_mem hq
  have gk:ps[k]?=some p:=by simp[hk,z]
  have gl:ps[l]?=some q:=by simp[hl,y]
  obtain⟨m,a1,d1,h1,h2,h3,_⟩:=adr k p gk;obtain⟨m',a2,d2,h1',h2',h3',_⟩:=adr l q gl;rw[e1]at h3;cases h3;rw[e2]at h3';cases h3';have hmm:=rv1.sep m m' a (hms m (List.mem_of_getElem? h1)) (hms m' (List.mem_of_getElem? h1')) h2 h2';subst hmm;have hkl:k=l:=(List.getElem?_inj (by rw[<-iz hs];exact hk) nd).mp (by rw[h1,h1']);subst hkl;rw[gk]at gl;exact Option.some.inj gl
 ·have hpc:ps.contains (0+q)=false:=by
   rw[Nat.zero_add];simpa using hq
  have g5:=(ar.get q e1 e2).2;rw[if_neg (by rw[hpc];decide)]at g5
  exact g5.weak fun a ha=>by
   obtain⟨i,hi,e⟩:=adr' a ha;exact⟨i,hms i hi,e⟩
 ·obtain⟨g1,g2⟩:=rv1.changed (outs:=outs) (H1:=H') hms nd hlen (fun b o n e=>off b o (fun z=>n (adr' b z)) e) fun k i o hk ho=>by
   have hkl:k<ps.length:=by
    rw[iz hs];exact(List.getElem?_eq_some_iff.mp hk).1
   obtain⟨m,a1,d1,h1,h2,h3,_⟩:=adr k ps[k] (by simp[hkl]);rw[hk]at h1;cases h1;obtain⟨a,q1,q2⟩:=mo.own k ps[k] o (by simp[hkl]) ho;rw[q1]at h3;cases h3;exact⟨_,h2,q2⟩
  exact k v H' rp im g1 ((Fr'.same s1).trans g2)
def Cp(h:PS X st (nH (m5 (spM X.K cl ps f) [] E0 (ju X.K cl es))))(hs:bW es ps ms=true)(hms:∀ i∈ms,M.contains i=true)(nd:ms.Nodup)(ndp:ps.Nodup):SS X cl M st (.mexc f es ps ms):=by
 refine PS.weak h fun D σ H h=>?_;obtain⟨σD,o,σD',rv,e,k⟩:=h;obtain⟨ds,e1,e⟩:=bind_some e;split at e
 ·rename_i ok;obtain⟨r,e2,e⟩:=bind_some e;split at e
  ·rename_i d outs;obtain⟨σ1,e3,e4⟩:=map_some e;cases e4;exact Av rv e1 ok e2 hs hms nd ndp e3 fun v H' _ _ rv' fr'=>k _ _ rv' fr'
  ·cases e
 ·cases e
end rules
end RS
namespace L2
open PySem PySem.Spec PyProof.Rows
abbrev jO(A:Around)(h:Heap):Prop:=A.handled=none\/∃ x o vs,A.handled=some (.ref x)/\h.get? x=some o/\o.data=.fields vs/\vs[2]?=some .none
def jO.keeps(x:jO A h)(k:∀ b o vs,h.get? b=some o->o.data=.fields vs->A.handled=some (.ref b)->h'.get? b=some o):jO A h':=by
 rcases x with z | ⟨y,o,vs,h1,h2,h3,h4⟩
 ·exact .inl z
 ·exact .inr ⟨y,o,vs,h1,k _ _ _ h2 h3 h1,h3,h4⟩
section
def qb:entryFor table "proto.unchain" = some Builtin.«proto.unchain»:=entryFor_of_tree (by kernel_rfl)
def ze(hd:jO A s.heap)(he:s.heap.get? e=some oe)(hf:oe.data=.fields vs)(hz:2<vs.size)(ne:A.handled≠some (.ref e))
 (k:∀ h',Heap.SameBut e s.heap h'->(∃ o,h'.get? e=some o/\o.cls=oe.cls)->E (.ref e) { s with heap:=h' }):wpAny (model prog w) A (raiseNew (.ref e):Sem α) Q E s:=by
 unfold raiseNew;refine wpAny_bind (wpAny_handled ?_)
 rcases hd with z | ⟨x,o,ws,h1,h2,h3,h4⟩
 ·rw[z];exact wpAny_bind (wpAny_pure (wpAny_throw (k s.heap (.refl ..) ⟨oe,he,rfl⟩)))
 ·rw[h1]
  have nx:(Value.ref x != Value.ref e)=true:=by
   rw[bne_iff_ne];intro q;exact ne (by rw[h1,q])
  dsimp only;rw[if_pos nx];refine wpAny_bind (wpAny_holding (wpAny_runValue (codeAny_builtin qb ?_)));unfold Builtin.«proto.unchain»;refine wpAny_bind (wpAny_field h2 h3 h4 ?_);rw[if_pos (by decide)];refine wpAny_bind (wpAny_pure (wpAny_pure ?_));show wpAny _ _ _ _ _ _;refine wpAny_bind ?_;show wpAny _ _ (setField (.ref e) 2 (.ref x)) _ _ _;refine wpAny_setField he hf hz (wpAny_throw (k _ (.update ..) ⟨_,Heap.get?_update_self _ he (Obj.isFreed_of_fields (Obj.data_mapFields hf _)),Obj.cls_mapFields ..⟩))
def u6(hd:jO A s.heap)(k:∀ h' e,(∀ b o,s.heap.get? b=some o->h'.get? b=some o)->(∃ o,h'.get? e=some o/\o.cls=.type "StopIteration")->E (.ref e) { s with heap:=h' }) :
  wpAny (model prog w) A (newExc (.type "StopIteration") []) (fun e s'=>wpAny (model prog w) A (raiseNew e:Sem α) Q E s') E s:=by
 simp only[newExc,newTuple];apply wpAny_bind;refine wpAny_newObj_type ?_ (by size_fits);apply wpAny_bind (m:=firstArgMember _ _);refine wpAny_of_eq (a:=Value.none) (by first | rfl | (simp only[firstArgMember];rfl)) ?_;refine wpAny_newObj_type ?_ (by size_fits);have hs:∀ b o,s.heap.get? b=some o->b≠(s.heap.push { cls:=.type "tuple",data:=.seq ([]:List Value).toArray }).objs.size:=fun b o e=>Nat.ne_of_lt (by rw[Heap.size_push];exact Nat.lt_succ_of_lt (Heap.lt_size e));refine ze (hd.keeps fun b o vs e _ _=>Heap.get?_push_of_some _ (Heap.get?_push_of_some _ e)) (Heap.get?_push_size _ rfl) rfl (Nat.lt_of_lt_of_le (by decide:2<6) (by simp)) (fun q=>?_) fun h' sb ho=>k h' _ (fun b o e=>(sb.2 b (hs b o e)).trans (Heap.get?_push_of_some _ (Heap.get?_push_of_some _ e))) ho
 rcases hd with z | ⟨x,o,ws,h1,h2,_,_⟩
 ·rw[z]at q;cases q
 ·rw[h1]at q;cases q;exact hs _ _ h2 rfl
def pX{it l:Addr}{i:Nat}(hd:jO A s.heap)(ni:A.handled≠some (.ref it))(ho:s.heap.get? it=some o)(hdt:o.data=.fields #[.ref l,.int i 0])(hol:s.heap.get? l=some ol)(hdl:ol.data=.seq its nl)(hx:its[i]?=none)
 (k:∀ h' e,Heap.ExtBut it s.heap h'->(∃ o,h'.get? e=some o/\o.cls=.type "StopIteration")->E (.ref e) { s with heap:=h' }):wpAny (model prog w) A (Builtin.«list_iterator.__next__» ⟨[.ref it],[]⟩) Q E s:=by
 have n0:¬ ((Value.ref l == Value.none)=true):=Bool.false_ne_true;refine show wpAny _ _ (field (.ref it) 0 >>= _) _ _ s from wpAny_bind (wpAny_field ho hdt (x:=.ref l) rfl ?_);refine show wpAny _ _ (if(Value.ref l == Value.none)=true then _ else _) _ _ s from ?_;rw[if_neg n0];refine show wpAny _ _ (field (.ref it) 1 >>= _) _ _ s from wpAny_bind (wpAny_field ho hdt (x:=.int i 0) rfl ?_);refine show wpAny _ _ (seqItems? (.ref l) >>= _) _ _ s from wpAny_bind (wpAny_seqItems hol hdl ?_);simp only[Int.toNat_natCast,hx];refine wpAny_bind (wpAny_rule (wpAny_bind (wpAny_setField ho hdt (by simp) ?_)));refine show wpAny _ _ (newExc (.type "StopIteration") [] >>= _) _ _ _ from wpAny_bind ?_;have sb:=Heap.SameBut.update s.heap it (Obj.mapFields (·.setIfInBounds 0 Value.none));refine u6 (hd.keeps fun b u vs e _ hb=>(sb.2 b fun z=>ni (z▸hb)).trans e) fun h' e kk he=>k h' e (fun b u hb q=>kk b u ((sb.2 b hb).trans q)) he
def pW{it l:Addr}{i:Nat}(hd:jO A s.heap)(ni:A.handled≠some (.ref it))(hit:s.heap.IsListIter it l i)(hl:s.heap.IsList l its)(hx:its[i]?=none)
 (k:∀ h' e,Heap.ExtBut it s.heap h'->(∃ o,h'.get? e=some o/\o.cls=.type "StopIteration")->E (.ref e) { s with heap:=h' }):wpAny (model prog w) A (Builtin.SmallTypes.nextOf (.ref it)) Q E s:=by
 obtain⟨o,ho,hc,hdt⟩:=id hit;obtain⟨ol,hol,_,nl,hdl⟩:=hl;unfold Builtin.SmallTypes.nextOf;apply wpAny_bind;apply wpAny_callSpecial?_slot (name:=Str.ofString "__next__") hit.typeIs slot_listiter_next;refine wpAny_call_entry slot_listiter_next hit.typeIs entry_listiter_next ?_ (args_listiter_next _);exact pX hd ni ho hdt hol hdl hx k
end
section
def qL(hi:z.heap.IsTupleIter ti tp i)(ht:z.heap.IsTuple tp its)(hx:its[i]?=some x)
 (k:∀ g,g.IsTupleIter ti tp (i+1)->Heap.SameBut ti z.heap g->Q x { z with heap:=g }):wpAny (model prog w) A (Builtin.SmallTypes.nextOf (.ref ti)) Q E z:=by
 have hty:=hi.typeIs;obtain⟨⟨c1,d1,f1,s1⟩,g1,c1',f1'⟩:=hi;obtain⟨⟨c2,d2,f2,s2⟩,g2,c2',n2,f2'⟩:=ht;dsimp only at c1' f1' c2' f2';subst c1' f1' c2' f2';obtain⟨hp,g,d,tk,os⟩:=z;unfold Builtin.SmallTypes.nextOf;refine wpAny_bind (wpAny_callSpecial?_slot (name:=Str.ofString "__next__") hty F.slot_tuple_iterator_next (wpAny_call_entry F.slot_tuple_iterator_next hty F.entry_tuple_iterator_next ?_ (F.args_tuple_iterator_next_1 _)));unfold Builtin.«tuple_iterator.__next__»
 wp_walk using AutoSeq1.wpAny_loadPart' g1,AutoSeq1.wpAny_loadPart' g2
 have e:its[((i:Nat):Int).toNat]?=some x:=hx;rw[e];dsimp only;apply wpAny_bind;apply wpAny_setField g1 rfl (by simp);apply wpAny_pure;refine⟨x,rfl,?_⟩;apply wpAny_pure;apply k
 ·exact⟨_,Heap.get?_update_self _ g1 rfl,rfl,by simp[Obj.mapFields,rawInt]⟩
 ·exact Heap.SameBut.update ..
def u7(hd:jO A z.heap)(ni:A.handled≠some (.ref ti))(hi:z.heap.IsTupleIter ti tp i)(ht:z.heap.IsTuple tp its)(hx:its[i]?=none)
 (k:∀ g e,Heap.ExtBut ti z.heap g->(∃ o,g.get? e=some o/\o.cls=.type "StopIteration")->E (.ref e) { z with heap:=g }):wpAny (model prog w) A (Builtin.SmallTypes.nextOf (.ref ti)) Q E z:=by
 have hty:=hi.typeIs;obtain⟨⟨c1,d1,f1,s1⟩,g1,c1',f1'⟩:=hi;obtain⟨⟨c2,d2,f2,s2⟩,g2,c2',n2,f2'⟩:=ht;dsimp only at c1' f1' c2' f2';subst c1' f1' c2' f2';obtain⟨hp,g,d,tk,os⟩:=z;unfold Builtin.SmallTypes.nextOf;refine wpAny_bind (wpAny_callSpecial?_slot (name:=Str.ofString "__next__") hty F.slot_tuple_iterator_next (wpAny_call_entry F.slot_tuple_iterator_next hty F.entry_tuple_iterator_next ?_ (F.args_tuple_iterator_next_1 _)));unfold Builtin.«tuple_iterator.__next__»
 wp_walk using AutoSeq1.wpAny_loadPart' g1,AutoSeq1.wpAny_loadPart' g2
 have e:its[((i:Nat):Int).toNat]?=none:=hx;rw[e];dsimp only;apply wpAny_bind;apply wpAny_rule;apply wpAny_bind;apply wpAny_setField g1 rfl (by simp);unfold Builtin.SmallTypes.stopIteration;apply wpAny_bind;refine u6 (hd.keeps fun b u vs e _ hb=>(Heap.SameBut.update ..).extBut b u (fun z=>ni (z▸hb)) e) fun g e kp hc=>k g e (fun b o hb q=>kp b o ?_) hc;exact(Heap.SameBut.update ..).extBut b o hb q
def qm(h:wpAny (model prog w) A m S (fun _ _=>False) z)(k:∀ a z1,S a z1->Q a z1):wpAny (model prog w) A m Q E z:=wpAny_mono h k fun _ _ f=>f.elim
def wL(h:∀ b,Q b z):wpAny (model prog w) A (pure b) Q E z:=wpAny_pure (h b)
def zN{x:Value}{S:Addr->Shared->Prop}(hx:∀ A:Around,wpAny (model prog w) A (pyIter x) (fun v z1=>∃ it,v=.ref it/\S it z1) (fun _ _=>False) z)
 (k:∀ it z1,S it z1->Q (.ref z1.heap.objs.size) { z1 with heap:=z1.heap.push { cls:=.type "enumerate",data:=.fields #[.none,.bool false,.ref it,rawInt 0,.none,.none] } }):wpAny (model prog w) A (call (.type "enumerate") [x]) Q E z:=by
 have body:MeetsIn prog w (Builtin.«enumerate.__new__» ⟨[.type "enumerate",x],[]⟩) (fun A R s=>s=z/\∀ it z1,S it z1->R (.ok (.ret (.ref z1.heap.objs.size))) { z1 with heap:=z1.heap.push { cls:=.type "enumerate",data:=.fields #[.none,.bool false,.ref it,rawInt 0,.none,.none] } }):=by
  rintro A R s ⟨rfl,hR⟩;have hsub:=sub_enumerate;have iter:=hx A.in1;obtain⟨hp,g,d,tk,os⟩:=s
  wp_walk
  refine wpAny_stack_any fun st=>wL fun b=>?_
  have done:∀ it z1,S it z1->wpAny (model prog w) A.in1 (do let r <- Builtin.SmallTypes.newRecord (.type "enumerate") (Builtin.SmallTypes.ownedTupleFields++[.ref it,rawInt 0,.none,.none]);ret r)
    (fun fin s'=>match fin with | .done f=>R (.ok f) s' | .again c'=>c'.quiet=true/\codeAny (model prog w) A c' R s') (fun e s'=>R (.error e) s') z1:=by
   intro it z1 h1;have:=hR it z1 h1;obtain⟨hp1,gg1,dd1,tk1,os1⟩:=z1
   wp_walk
   exact this
  cases b
  ·wp_walk using qm iter
   rintro _ z1 ⟨it,rfl,h1⟩;exact done it z1 h1
  ·wp_walk using qm iter
   rintro _ z1 ⟨it,rfl,h1⟩;exact done it z1 h1
 refine callType_newIn F.called_enumerate (by decide) (F.typeCall_enumerate_1 _) (F.newCall_enumerate_1 _) (fun obj=>F.args_object_init_2 obj _) F.entry_enumerate_new body ⟨rfl,fun it z1 h=>?_⟩;exact⟨⟨_,Heap.get?_push_size _ rfl,rfl⟩,k it z1 h⟩
def qV:ky prog w where
 draws:=fun hh ti tp hne its=>{
  live:=fun i h st=>let ⟨o,e,_⟩:=st.1;⟨o,e⟩
  frame:=fun i h h' st kp=>by
   obtain⟨⟨o1,e1,r1⟩,⟨o2,e2,r2⟩⟩:=st;exact⟨⟨o1,kp ti (by simp) _ e1,r1⟩,⟨o2,kp tp (by simp) _ e2,r2⟩⟩
  item:=fun i s Q E hi st k=>by
   refine qL st.1 st.2 (x:=its[i]) (by simp[hi]) fun g h1 h2=>k its[i] g s.toks (by simp[hi]) ⟨h1,st.2.extBut h2.extBut hne⟩ h2
  done:=fun s Q E st k=>u7 (.inl hh) (by rw[hh];exact fun z=>nomatch z) st.1 st.2 (by simp) fun g e h1 h2=>k g e h1 h2 }
 call:=fun {A E z tp its Q} ht k=>by
  refine zN (S:=fun it z1=>it=z.heap.objs.size/\z1={ z with heap:=z.heap.push { cls:=.type "tuple_iterator",data:=.fields #[.ref tp,rawInt 0] } }) (fun A=>wpAny_pyIter_tuple ht ⟨_,rfl,rfl,rfl⟩) ?_;rintro it z1 ⟨rfl,rfl⟩;have hz:(z.heap.push { cls:=.type "tuple_iterator",data:=.fields #[.ref tp,rawInt 0] }).objs.size=z.heap.objs.size+1:=Heap.size_push ..;dsimp only;rw[hz];refine k _ ?_ ⟨_,Heap.get?_push_of_some _ (Heap.get?_push_size _ rfl),rfl,rfl⟩ fun b o e=>Heap.get?_push_of_some _ (Heap.get?_push_of_some _ e);have:=Heap.get?_push_size (z.heap.push { cls:=.type "tuple_iterator",data:=.fields #[.ref tp,rawInt 0] }) (o:={ cls:=.type "enumerate",data:=.fields #[.none,.bool false,.ref z.heap.objs.size,rawInt 0,.none,.none] }) rfl;rw[hz]at this;exact this
end
end L2
namespace RS
open PySem PySem.Spec PyProof.Rows L2
section
variable{X:Cx}
def uX:∀ {bs:List Bool} {us:List Value},Vals (bs.map V.bl) us->us=bs.map Value.bool
 | [],_,h=>by cases h;rfl
 | b::bs,_,h=>by
  cases h with
  |cons r t=>
   cases r;rw[uX t];rfl
def Ad{A:Around}{bs:List Bool}:TruthOf X.prog X.w A (fun i v=>(bs.map Value.bool).toArray[i]?=some v) (fun i=>bs.getD i false):=by
 intro i v s Q E hP q
 have hP':(bs.map Value.bool)[i]?=some v:=by simpa using hP
 rw[List.getElem?_map]at hP';obtain⟨b,h1,h2⟩:=map_some hP';subst h2
 have:bs.getD i false=b:=by rw[List.getD_eq_getElem?_getD,h1];rfl
 have q':Q b s:=this▸q;exact wpAny_truthy_bool q'
def range_all(bs:List Bool):(List.range bs.length).all (fun i=>bs.getD i false)=bs.all id:=by
 have:bs=(List.range bs.length).map fun i=>bs.getD i false:=by
  apply List.ext_getElem
  ·simp
  ·intro i h1 h2;simp[List.getD_eq_getElem?_getD,h1]
 conv=>rhs;rw[this]
 rw[List.all_map];rfl
abbrev Eo(f:List Bool->Bool):List V->Hp->VK->Prop:=fun xs H Q=>∃ p bs,xs=[.ref p]/\H p=some (.lst (bs.map V.bl))/\Q (.bl (f bs)) H
def A8(hc:X.calm=true):bF X (.builtin "all") (Eo fun bs=>bs.all id):=by
 intro pins s σ H xs us Q I r h;obtain⟨p,bs,rfl,hp,q⟩:=h
 cases r with
 |cons r rr=>
  cases rr;cases r;obtain⟨its,rv,hl,hz⟩:=I.list (SqL.of hp);have hits:=uX rv;subst hits
  have hlt:p<s.heap.objs.size:=by obtain⟨o,ho,_⟩:=hl.isList;exact Heap.lt_size ho
  refine call_all_walk (wpAny_pyIter_list hl.isList ?_);refine⟨s.heap.objs.size,_,[s.heap.objs.size],_,_,_,_,rfl,Walks.list (A:=X.A.in1) (I.ok.hd.1 hc) s.heap.objs.size p (Nat.ne_of_lt hlt) (bs.map Value.bool).toArray,⟨⟨_,Heap.get?_push_size _ rfl,rfl,rfl⟩,hl.isList.push _⟩,Ad,fun h' tk hk=>?_⟩;refine⟨.bl (bs.all id),H,I.kept (t':=tk) (fun b o e=>hk b o (fun z=>?_) (Heap.get?_push_of_some _ e)),?_,q⟩
  ·rw[List.mem_singleton.mp z]at e;exact absurd (Heap.lt_size e) (Nat.lt_irrefl _)
  ·have:=range_all bs;show Value.bool _=Value.bool _;rw[<-this];simp
def tm{P:Addr->Prop}{K:PySem.W.Frag}:∀ {ds:List RL.D} {bs:List Bool} {xs:List V},RL.eg ds=some bs->ae P K H ds xs->xs=bs.map V.bl
 | [],bs,xs,h,r=>by rw[RL.eg]at h;cases h;rw[ae]at r;exact r
 | d::ds,bs,xs,h,r=>by
  cases d<;>simp only[RL.eg]at h<;>first | (cases h;done) | skip
  rename_i b;obtain⟨bs',h1,h2⟩:=map_some h;subst h2;rw[ae]at r;obtain⟨x,t,rfl,r1,r2⟩:=r;rw[aZ r1,tm h1 r2];rfl
def Ee(hc:X.calm=true)(hg:Gl X "all")(hm:X.mg "all" = none)(ha:SE X cl a a')(hn:noStar a=true):SE X cl (.Call (.Name "all" p) [a] [] pos) (.bi .all a'):=by
 refine jD (A8 hc) hg hm (by decide +kernel) ha hn (by decide) (by decide) fun σD σ H H1 y d v Q e s1 r1 k=>?_
 cases y<;>first | (cases e;done) | skip
 case lst ds =>
  obtain⟨bs,e1,e2⟩:=map_some e;subst e2;obtain⟨q,xs,rfl,_,f2,f3⟩:=aC r1;rw[tm e1 f3]at f2;exact⟨q,bs,rfl,f2,k _ _ (cW s1 rJ rfl)⟩
def CL(hg:Gl X "enumerate")(hm:X.mg "enumerate" = none)(ha:SE X cl a a')(hn:noStar a=true):SI X cl (.Tuple elts kx tp) (.Call (.Name "enumerate" p) [a] [] pos) (.enm a'):=EF qV hg hm ha hn
def ug{P:Addr->Prop}{K:PySem.W.Frag}:∀ {ds:List RL.D} {is:List Int} {xs:List V},RL.eC ds=some is->ae P K H ds xs->xs=is.map V.int
 | [],is,xs,h,r=>by rw[RL.eC]at h;cases h;rw[ae]at r;exact r
 | d::ds,is,xs,h,r=>by
  cases d<;>simp only[RL.eC]at h<;>first | (cases h;done) | skip
  rename_i b;obtain⟨bs',h1,h2⟩:=map_some h;subst h2;rw[ae]at r;obtain⟨x,t,rfl,r1,r2⟩:=r;rw[aj r1,ug h1 r2];rfl
abbrev oE(ns:List Int):List Int:=firstMet (fun i=>ns.getD i 0) ns.length
def CY(ns:List Int):oE ns=RL.gS ns:=by
 unfold oE firstMet RL.gS
 have:(List.range ns.length).map (fun i=>ns.getD i 0)=ns:=by
  apply List.ext_getElem
  ·simp
  ·intro i h1 h2;simp[List.getD_eq_getElem?_getD,h2]
 rw[this];rfl
def wW(hc:X.calm=true):bF X (.type "set") (fun xs H Q=>∃ p ns,xs=[.ref p]/\H p=some (.lst (ns.map V.int))/\ns.length<=1000/\∀ l,H l=none->Q (.ref l) (upd H l (.set (fun k=>(oE ns).any (· == k)) (oE ns).length))):=by
 intro pins s σ H xs us Q I r h;obtain⟨p,ns,rfl,hp,hn,q⟩:=h
 cases r with
 |cons r rr=>
  cases rr;cases r;obtain⟨its,rv,hl,hz⟩:=I.list (SqL.of hp)
  have hlen:its.length=ns.length:=by
   have:=rv.length;simp at this;exact this.symm
  have hf:H s.heap.objs.size=none:=I.hok.fresh (Nat.le_refl _);refine call_set_list (I.ok.hd.1 hc) hl.isList (ns:=ns) (by simpa using intsAre_of rv) (by rw[List.size_toArray,hlen];show ns.length+1<4096;lia) fun h' tk hS hk=>?_
  have hsz:its.toArray.size=ns.length:=by rw[List.size_toArray];exact hlen
  rw[hsz]at hS;exact⟨.ref s.heap.objs.size,_,I.laid (o:=.set (fun k=>(oE ns).any (· == k)) (oE ns).length) (t':=tk) (fun b u e=>hk b u (Heap.lt_size e) e) (Nat.le_refl _) hS,rfl,q _ hf⟩
def wQ:bF X (.builtin "len") (fun xs H Q=>∃ p S n,xs=[.ref p]/\H p=some (.set S n)/\Q (.int (n:Nat)) H):=by
 intro pins s σ H xs us Q I r h;obtain⟨p,S,n,rfl,hp,q⟩:=h
 cases r with
 |cons r rr=>
  cases rr;cases r;obtain⟨o,es,ep,t,h1,h2,h3,h4,h5,h6,h7,h8⟩:=I.hok p _ hp;refine call_len_set h1 h2 h3 h7 (by have:scanBound=4096:=rfl;lia) ?_;rw[h8];exact⟨.int n,H,I.tok _,⟨_,rfl⟩,q⟩
def wM(hc:X.calm=true)(hgl:Gl X "len")(hml:X.mg "len" = none)(hg:Gl X "set")(hm:X.mg "set" = none)(ha:SE X cl a a')(hn:noStar a=true):SE X cl (.Call (.Name "len" p2) [.Call (.Name "set" p) [a] [] pos] [] pos2) (.bi .lenSet a'):=by
 refine PE.weak (lS wQ hgl hml PySem.boot_len (bE (c8 (wW hc) hg hm (by decide +kernel) (bR (cl:=cl) ha cV hn) (by decide) (by decide) (a9 [] hn) rfl) dh rfl) (by decide) (by decide) rfl rfl) fun σ H Q h=>?_;obtain⟨σD,d,rv,e,k⟩:=h;obtain⟨y,ea,e⟩:=bind_some e;refine one rv ea fun v H1 s1 r1=>?_
 cases y<;>first | (cases e;done) | skip
 case lst ds =>
  rw[RL.AW]at e;split at e
  ·rename_i hl;obtain⟨is,e1,e2⟩:=map_some e;subst e2;obtain⟨q,xs,rfl,_,f2,f3⟩:=aC r1;have hx:=ug e1 f3;rw[hx]at f2
   have hil:is.length<=1000:=by
    have:=f3.length;rw[hx]at this;simp at this;lia
   refine⟨q,is,rfl,f2,hil,fun l hl2=>⟨l,_,_,rfl,br,?_⟩⟩;rw[CY];exact k _ _ (cW (s1.trans (a5.bQ hl2)) aX rfl)
  ·cases e
def Fj(hl:PE X l (zR X.K "list" AH (gF i)))(he:SE X cl e e')(ha:SSs X cl M A A')(hb:SSs X cl M B B')(hi:M.contains i=true):SS X cl M (.If (.Compare l [.NotEq] [e] pos) A B pos2) (.ifp i e' A' B'):=by
 refine PS.weak (Bc (oC GP hl he (ya _ (by decide) (by decide))) ha hb) fun D σ H h=>?_;obtain⟨σD,o,σD',rv,ev,k⟩:=h;obtain⟨l,e3,ev⟩:=bind_some ev
 cases l with
 |lst ds=>
  obtain⟨d,e4,ev⟩:=bind_some ev;obtain⟨y,e5,ev⟩:=bind_some ev;obtain⟨v,h1,h2⟩:=rv.val i _ (slot_get e3);rw[if_pos hi]at h2;obtain⟨q1,q2,q3⟩:=h2;obtain⟨a,xs,rfl,_,f2,f3⟩:=aC q3;obtain⟨u,f4,f5⟩:=f3.get e4;have im:=oj q2;obtain⟨g1,g2⟩:=rv.iC (d':=.lst ds.dropLast) (o':=.lst xs.dropLast) hi h1 f2 (.inl ⟨_,rfl⟩) (ot (ds:=ds) f2 im f3.dropLast)
  cases d with
  |int m=>
   cases y with
   |int n=>
    refine⟨.ref a,h1,.inl ⟨rfl,xs,SqL.of f2⟩,a,xs,u,rfl,rfl,f2,by rw[<-f3.length];exact f4,?_⟩;refine⟨_,_,g1.rv0,e5,fun w H1 r1=>?_⟩;rw[aj f5,aj r1.rep];have k1:=k.from (g2.trans (Fr'.same (σ:=σ) r1.same));refine⟨rfl,_,rfl,?_⟩;dsimp only at ev;by_cases hmn:m=n
    ·rw[if_pos (by simpa using hmn)]at ev
     have hd:(!decide (V.int m=V.int n))=false:=by rw[hmn];simp
     rw[hd];exact fY ⟨_,o,σD',g1.same r1.same,ev,k1⟩
    ·rw[if_neg (by simpa using hmn)]at ev
     have hd:(!decide (V.int m=V.int n))=true:=by
      have:V.int m≠V.int n:=fun z=>hmn (by injection z);simp[this]
     rw[hd];exact fq ⟨_,o,σD',g1.same r1.same,ev,k1⟩
   | _=>cases ev
  | _=>cases ev
 | _=>cases ev
end
end RS
namespace L2
open PySem PySem.Spec PyProof.Rows
section
variable{prog:Program}{w:World}{A:Around}{E:Value->Shared->Prop}
def Cd{x y:Value}{S1:Addr->Shared->Prop}{S2:Addr->Addr->Shared->Prop}{z:Shared}{Q:Value->Shared->Prop}(hx:∀ A:Around,wpAny (model prog w) A (pyIter x) (fun v z1=>∃ it,v=.ref it/\S1 it z1) (fun _ _=>False) z)
 (hy:∀ it z1,S1 it z1->∀ A:Around,wpAny (model prog w) A (pyIter y) (fun v z2=>∃ jt,v=.ref jt/\S2 it jt z2) (fun _ _=>False) z1)
 (k:∀ it jt z2,S2 it jt z2->Q (.ref (((z2.heap.push { cls:=.type "tuple",data:=.seq #[.ref it,.ref jt] }).push { cls:=.type "tuple",data:=.seq #[.none,.none] })).objs.size)
   { z2 with heap:=((z2.heap.push { cls:=.type "tuple",data:=.seq #[.ref it,.ref jt] }).push { cls:=.type "tuple",data:=.seq #[.none,.none] }).push { cls:=.type "zip",data:=.fields #[.none,.bool false,.bool false,.ref z2.heap.objs.size,.ref (z2.heap.push { cls:=.type "tuple",data:=.seq #[.ref it,.ref jt] }).objs.size] } }) :
  wpAny (model prog w) A (call (.type "zip") [x,y]) Q E z:=by
 have body:MeetsIn prog w (Builtin.«zip.__new__» ⟨[.type "zip",x,y],[]⟩) (fun A R s=>s=z/\∀ it jt z2,S2 it jt z2->R (.ok (.ret (.ref (((z2.heap.push { cls:=.type "tuple",data:=.seq #[.ref it,.ref jt] }).push { cls:=.type "tuple",data:=.seq #[.none,.none] })).objs.size)))
   { z2 with heap:=((z2.heap.push { cls:=.type "tuple",data:=.seq #[.ref it,.ref jt] }).push { cls:=.type "tuple",data:=.seq #[.none,.none] }).push { cls:=.type "zip",data:=.fields #[.none,.bool false,.bool false,.ref z2.heap.objs.size,.ref (z2.heap.push { cls:=.type "tuple",data:=.seq #[.ref it,.ref jt] }).objs.size] } }):=by
  rintro A R s ⟨rfl,hR⟩;have hsub:=sub_zip;have iter:=hx A.in1;obtain⟨hp,g,d,tk,os⟩:=s
  wp_walk using qm iter
  rintro _ z1 ⟨it,rfl,h1⟩;have iter2:=hy it z1 h1 A.in1;obtain⟨hp1,gg1,dd1,tk1,os1⟩:=z1
  wp_walk using qm iter2
  rintro _ z2 ⟨jt,rfl,h2⟩;have fin:=hR it jt z2 h2;obtain⟨hp2,gg2,dd2,tk2,os2⟩:=z2
  wp_walk
  exact fin
 refine callType_newIn F.called_zip (by decide) (F.typeCall_zip_2 _ _) (F.newCall_zip_2 _ _) (fun obj=>F.args_object_init_3 obj _ _) F.entry_zip_new body ⟨rfl,fun it jt z2 h=>?_⟩;exact⟨⟨_,Heap.get?_push_size _ rfl,rfl⟩,k it jt z2 h⟩
structure iD(z TI TO i1 i2:Addr)(fp1 fp2:List Addr):Prop where
 zTI:TI≠z
 zTO:TO≠z
 TT:TI≠TO
 i1z:i1≠z
 i2z:i2≠z
 IA:i1≠TO
 IX:i2≠TO
 i12:i1≠i2
 z1:z∉fp1
 z2:z∉fp2
 TO1:TO∉fp1
 TO2:TO∉fp2
 i1f:i1∉fp2
 i2f:i2∉fp1
def zb{z TI TO i1 i2:Addr}{fp1 fp2:List Addr}{n1 n2 k:Nat}{P1 P2:Nat->Value->Prop}{S1 S2:Nat->Heap->Prop}{a b:Value}{s:Shared}{Q:Value->Shared->Prop}(Z:iD z TI TO i1 i2 fp1 fp2)
 (D1:Draws prog w A i1 fp1 n1 P1 S1)(D2:Draws prog w A i2 fp2 n2 P2 S2)(hz:IsZip s.heap z TI TO .none)(hTI:IsPair s.heap TI (.ref i1) (.ref i2))(hTO:IsPair s.heap TO a b)(s1:S1 k s.heap)(s2:S2 k s.heap)(k1:k<n1)(k2:k<n2)
 (hQ:∀ x y g tk,P1 k x->P2 k y->IsZip g z TI TO (rawInt s.heap.objs.size)->IsPair g TO x y->S1 (k+1) g->S2 (k+1) g->IsPair g s.heap.objs.size x y->g.objs.size=s.heap.objs.size+1->(∀ c o,c≠z->c≠TO->c≠i1->c≠i2->s.heap.get? c=some o->g.get? c=some o)->Q (.ref s.heap.objs.size) { s with heap:=g,toks:=tk }) :
  wpAny (model prog w) A (Builtin.«zip.__next__» ⟨[.ref z],[]⟩) (fun fin s'=>∃ v,fin=.done (.ret v)/\Q v s') E s:=by
 obtain⟨hp,g,d,tk,os⟩:=s;have off:∀ (f:Obj->Obj) b o,b≠z->hp.get? b=some o->(hp.update z f).get? b=some o:=fun f b o hb e=>(Heap.SameBut.update ..).extBut b o hb e;have st1:∀ f:Obj->Obj,S1 k (hp.update z f):=fun f=>D1.frame k _ _ s1 fun b hb o e=>off f b o (fun q=>Z.z1 (q▸hb)) e;have st2:∀ f:Obj->Obj,S2 k (hp.update z f):=fun f=>D2.frame k _ _ s2 fun b hb o e=>off f b o (fun q=>Z.z2 (q▸hb)) e;unfold Builtin.«zip.__next__»
 wp_walk using AutoSeq1.wpAny_loadPart' hz,AutoSeq1.wpAny_loadPart' hTI,wpAny_onRaise,(D1.item k _ _ _ k1 (st1 _))
 intro x h1 t1 px st1' sb1;have q1:IsPair h1 TO a b:=sb1.extBut _ _ (Ne.symm Z.IA) (off _ TO _ Z.zTO hTO);have z1:IsZip h1 z TI TO .ellipsis:=sb1.extBut _ _ (Ne.symm Z.i1z) (Heap.get?_update_self _ hz rfl);have u1:=sb1.1;have c1:∀ c o,c≠z->c≠i1->hp.get? c=some o->h1.get? c=some o:=fun c o n1 n2 e=>sb1.extBut _ _ n2 (off _ c o n1 e);clear sb1 st1 st2
 wp_walk using AutoSeq1.wpAny_loadPart' q1,(wpAny_updateSeq_pair q1)
 intro h2 q2 sb2
 replace q2:IsPair h2 TO x b:=q2
 have z2:IsZip h2 z TI TO .ellipsis:=sb2.extBut _ _ (Ne.symm Z.zTO) z1;have c2:∀ c o,c≠z->c≠TO->c≠i1->hp.get? c=some o->h2.get? c=some o:=fun c o n1 n2 n3 e=>sb2.extBut _ _ n2 (c1 c o n1 n3 e);have e1:S1 (k+1) h2:=D1.frame _ _ _ st1' fun b hb o e=>sb2.extBut _ _ (fun q=>Z.TO1 (q▸hb)) e;have e2:S2 k h2:=D2.frame _ _ _ s2 fun b hb o e=>c2 b o (fun q=>Z.z2 (q▸hb)) (fun q=>Z.TO2 (q▸hb)) (fun q=>Z.i1f (q▸hb)) e;have u2:=sb2.1.trans u1;clear sb2 u1 c1 z1 q1
 wp_walk using wpAny_onRaise,(D2.item k _ _ _ k2 e2)
 intro y h3 t3 py f2 sb3;have q3:IsPair h3 TO x b:=sb3.extBut _ _ (Ne.symm Z.IX) q2;have z3:IsZip h3 z TI TO .ellipsis:=sb3.extBut _ _ (Ne.symm Z.i2z) z2;have f1:S1 (k+1) h3:=D1.frame _ _ _ e1 fun b hb o e=>sb3.extBut _ _ (fun q=>Z.i2f (q▸hb)) e;have c3:∀ c o,c≠z->c≠TO->c≠i1->c≠i2->hp.get? c=some o->h3.get? c=some o:=fun c o n1 n2 n3 n4 e=>sb3.extBut _ _ n4 (c2 c o n1 n2 n3 e);have u3:=sb3.1.trans u2;clear sb3 u2 c2 z2 q2 e1 e2
 wp_walk using AutoSeq1.wpAny_loadPart' q3,(wpAny_updateSeq_pair q3)
 intro h4 q4 sb4
 replace q4:IsPair h4 TO x y:=q4
 have z4:IsZip h4 z TI TO .ellipsis:=sb4.extBut _ _ (Ne.symm Z.zTO) z3;have g1:S1 (k+1) h4:=D1.frame _ _ _ f1 fun b hb o e=>sb4.extBut _ _ (fun q=>Z.TO1 (q▸hb)) e;have g2:S2 (k+1) h4:=D2.frame _ _ _ f2 fun b hb o e=>sb4.extBut _ _ (fun q=>Z.TO2 (q▸hb)) e;have c4:∀ c o,c≠z->c≠TO->c≠i1->c≠i2->hp.get? c=some o->h4.get? c=some o:=fun c o n1 n2 n3 n4 e=>sb4.extBut _ _ n2 (c3 c o n1 n2 n3 n4 e);have u4:=sb4.1.trans u3;clear sb4 u3 c3 z3 q3 f1 f2
 wp_walk using AutoSeq1.wpAny_loadPart' q4
 have u0:h4.objs.size=hp.objs.size:=u4.trans (Heap.SameBut.update ..).1;refine⟨_,rfl,?_⟩;show Q (.ref h4.objs.size) _;have zp:IsZip (h4.push { cls:=.type "tuple",data:=.seq #[x,y].toList.toArray }) z TI TO .ellipsis:=Heap.get?_push_of_some _ z4;have zlt:z<h4.objs.size:=Heap.lt_size z4
 have up:∀ (f f':Obj->Obj) c o,c≠z->(h4.push { cls:=.type "tuple",data:=.seq #[x,y].toList.toArray }).get? c=some o->(((h4.push { cls:=.type "tuple",data:=.seq #[x,y].toList.toArray }).update z f).update z f').get? c=some o:=fun f f' c o hc e =>
  (Heap.SameBut.update ..).extBut c o hc ((Heap.SameBut.update ..).extBut c o hc e)
 have goal:=hQ x y (((h4.push { cls:=.type "tuple",data:=.seq #[x,y].toList.toArray }).update z (Obj.mapFields (·.setIfInBounds 0 (rawInt h4.objs.size)))).update z (Obj.mapFields (·.setIfInBounds 1 (.bool false)))) t3 px py ?_ ?_ ?_ ?_ ?_ ?_ ?_
 ·rw[u0]at goal ⊢;exact goal
 ·rw[<-u0];exact Heap.get?_update_self _ (Heap.get?_update_self _ zp rfl) rfl
 ·exact up _ _ _ _ Z.zTO (Heap.get?_push_of_some _ q4)
 ·exact D1.frame _ _ _ g1 fun b hb o e=>up _ _ _ _ (fun q=>Z.z1 (q▸hb)) (Heap.get?_push_of_some _ e)
 ·exact D2.frame _ _ _ g2 fun b hb o e=>up _ _ _ _ (fun q=>Z.z2 (q▸hb)) (Heap.get?_push_of_some _ e)
 ·show IsPair _ hp.objs.size x y;rw[<-u0];exact up _ _ _ _ (Nat.ne_of_gt zlt) (Heap.get?_push_size _ rfl)
 ·refine((Heap.SameBut.update ..).1.trans ((Heap.SameBut.update ..).1.trans ((Heap.size_push ..).trans ?_)));show h4.objs.size+1=hp.objs.size+1;rw[u0]
 ·exact fun c o n1 n2 n3 n4 e=>up _ _ _ _ n1 (Heap.get?_push_of_some _ (c4 c o n1 n2 n3 n4 e))
def CS{z TI TO i1 i2:Addr}{fp1 fp2:List Addr}{n1:Nat}{P1:Nat->Value->Prop}{S1:Nat->Heap->Prop}{a b:Value}{s:Shared}{Q:Fin->Shared->Prop}(Z:iD z TI TO i1 i2 fp1 fp2)
 (D1:Draws prog w A i1 fp1 n1 P1 S1)(hz:IsZip s.heap z TI TO .none)(hTI:IsPair s.heap TI (.ref i1) (.ref i2))(hTO:IsPair s.heap TO a b)(s1:S1 n1 s.heap)
 (hE:∀ g e,(∀ c o,c≠z->c≠i1->s.heap.get? c=some o->g.get? c=some o)->(∃ o,g.get? e=some o/\o.cls=.type "StopIteration")->E (.ref e) { s with heap:=g }) :
  wpAny (model prog w) A (Builtin.«zip.__next__» ⟨[.ref z],[]⟩) Q E s:=by
 obtain⟨hp,g,d,tk,os⟩:=s;have off:∀ (f:Obj->Obj) b o,b≠z->hp.get? b=some o->(hp.update z f).get? b=some o:=fun f b o hb e=>(Heap.SameBut.update ..).extBut b o hb e;have st1:∀ f:Obj->Obj,S1 n1 (hp.update z f):=fun f=>D1.frame n1 _ _ s1 fun b hb o e=>off f b o (fun q=>Z.z1 (q▸hb)) e;unfold Builtin.«zip.__next__»
 wp_walk using AutoSeq1.wpAny_loadPart' hz,AutoSeq1.wpAny_loadPart' hTI,wpAny_onRaise,(D1.done _ _ _ (st1 _))
 rintro h1 e eb ⟨oe,he,hce⟩;have z1:IsZip h1 z TI TO .ellipsis:=eb _ _ (Ne.symm Z.i1z) (Heap.get?_update_self _ hz rfl)
 have ez:e≠z:=fun q=>by
  rw[q,z1]at he;have:=Option.some.inj he;rw[<-this]at hce;simp at hce
 refine wpAny_setField_rec z1 (by simp) fun h2 _ sb2=>?_;exact hE h2 e (fun c o n1 n2 q=>sb2.extBut _ _ n1 (eb _ _ n2 (off _ _ _ n1 q))) ⟨oe,sb2.extBut _ _ ez he,hce⟩
end
section
variable{prog:Program}{w:World}{A:Around}{E:Value->Shared->Prop}{z TI TO i1 i2:Addr}{fp1 fp2:List Addr}{n1 n2 k:Nat}{P1 P2:Nat->Value->Prop}{S1 S2:Nat->Heap->Prop}{a b:Value}{s:Shared}
def Ap{Q:Option Value->Shared->Prop}(Z:iD z TI TO i1 i2 fp1 fp2)(D1:Draws prog w A.in1 i1 fp1 n1 P1 S1)(D2:Draws prog w A.in1 i2 fp2 n2 P2 S2)(hz:IsZip s.heap z TI TO .none)(hTI:IsPair s.heap TI (.ref i1) (.ref i2))(hTO:IsPair s.heap TO a b)(s1:S1 k s.heap)(s2:S2 k s.heap)(k1:k<n1)(k2:k<n2)
 (hQ:∀ x y g tk,P1 k x->P2 k y->IsZip g z TI TO (rawInt s.heap.objs.size)->IsPair g TO x y->S1 (k+1) g->S2 (k+1) g->IsPair g s.heap.objs.size x y->g.objs.size=s.heap.objs.size+1->(∀ c o,c≠z->c≠TO->c≠i1->c≠i2->s.heap.get? c=some o->g.get? c=some o)->Q (some (.ref s.heap.objs.size)) { s with heap:=g,toks:=tk }) :
  wpAny (model prog w) A (pyNext (.ref z)) Q E s:=by
 have hT:s.TypeIs (.ref z) "zip" := ⟨_,hz,rfl⟩
 unfold pyNext;apply wpAny_bind;apply wpAny_attempt;apply wpAny_callSpecial?_slot (name:=Str.ofString "__next__") hT F.slot_zip_next;refine wpAny_call_entry F.slot_zip_next hT F.entry_zip_next ?_ (F.args_zip_next_1 _);refine zb Z D1 D2 hz hTI hTO s1 s2 k1 k2 fun x y g tk px py q1 q2 q3 q4 q5 q6 q7=>?_;apply wpAny_pure;exact hQ x y g tk px py q1 q2 q3 q4 q5 q6 q7
def zE{Q:Option Value->Shared->Prop}(Z:iD z TI TO i1 i2 fp1 fp2)(D1:Draws prog w A.in1 i1 fp1 n1 P1 S1)(hz:IsZip s.heap z TI TO .none)(hTI:IsPair s.heap TI (.ref i1) (.ref i2))(hTO:IsPair s.heap TO a b)(s1:S1 n1 s.heap)
 (hQ:∀ g,(∀ c o,c≠z->c≠i1->s.heap.get? c=some o->g.get? c=some o)->Q none { s with heap:=g }):wpAny (model prog w) A (pyNext (.ref z)) Q E s:=by
 have hT:s.TypeIs (.ref z) "zip" := ⟨_,hz,rfl⟩
 unfold pyNext;apply wpAny_bind;apply wpAny_attempt;apply wpAny_callSpecial?_slot (name:=Str.ofString "__next__") hT F.slot_zip_next;refine wpAny_call_entry F.slot_zip_next hT F.entry_zip_next ?_ (F.args_zip_next_1 _);refine CS Z D1 hz hTI hTO s1 fun g e hk ⟨o,he,hc⟩=>?_;apply wpAny_bind;refine wpAny_isInstance (T := "StopIteration") (b:=true) ⟨_,he,hc⟩ isSubtype_stop ?_;apply wpAny_pure;exact hQ g hk
end
section
variable{s:Shared}
def zx(hh:A.handled=some (.ref x))(hd:ox.data=.fields xs)(h2:xs[2]?=some .none)(nx:x≠it)(hne:l≠it)(its:Array Value) :
  Draws prog w A it [it,l,x] its.size (fun i v=>its[i]?=some v) (fun i h=>(h.IsListIter it l i/\h.IsList l its)/\h.get? x=some ox) where
 live:=fun _ _ st=>let ⟨o,ho,_⟩:=st.1.1;⟨o,ho⟩
 frame:=fun _ _ _ st hk=>⟨⟨st.1.1.at fun o e=>hk it (by simp) o e,st.1.2.at fun o e=>hk l (by simp) o e⟩,hk x (by simp) _ st.2⟩
 item:=fun i s Q E hi st hQ=>wpAny_nextOf_list_item st.1.1 st.1.2 (x:=its[i]) (by simp[hi]) fun h' hit' hs'=>hQ _ h' s.toks (by simp[hi]) ⟨⟨hit',st.1.2.extBut hs'.extBut hne⟩,(hs'.2 x nx).trans st.2⟩ hs'
 done:=fun s Q E st hE=>pW (.inr ⟨x,ox,xs,hh,st.2,hd,h2⟩) (fun q=>by rw[hh]at q;cases q;exact nx rfl) st.1.1 st.1.2 (by simp) hE
def ym(hh:A.handled=some (.ref x))(hd:ox.data=.fields xs)(h2:xs[2]?=some .none)(nx:x≠it)(hne:l≠it)(its:Array Value) :
  Draws prog w A it [it,l,x] its.size (fun i v=>its[i]?=some v) (fun i h=>(h.IsTupleIter it l i/\h.IsTuple l its)/\h.get? x=some ox) where
 live:=fun _ _ st=>let ⟨o,ho,_⟩:=st.1.1;⟨o,ho⟩
 frame:=fun _ _ _ st hk=>by
  obtain⟨⟨⟨o1,e1,r1⟩,⟨o2,e2,r2⟩⟩,e3⟩:=st;exact⟨⟨⟨o1,hk it (by simp) _ e1,r1⟩,⟨o2,hk l (by simp) _ e2,r2⟩⟩,hk x (by simp) _ e3⟩
 item:=fun i s Q E hi st k=>qL st.1.1 st.1.2 (x:=its[i]) (by simp[hi]) fun g g1 g2=>k its[i] g s.toks (by simp[hi]) ⟨⟨g1,st.1.2.extBut g2.extBut hne⟩,(g2.2 x nx).trans st.2⟩ g2
 done:=fun s Q E st hE=>u7 (.inr ⟨x,ox,xs,hh,st.2,hd,h2⟩) (fun q=>by rw[hh]at q;cases q;exact nx rfl) st.1.1 st.1.2 (by simp) hE
end
section
end
abbrev d6(t:Bool)(xs:List V):HO:=if t then .tup xs else .lst xs
abbrev il(t:Bool)(it l:Addr)(i:Nat)(h:Heap):Prop:=if t then h.IsTupleIter it l i else h.IsListIter it l i
def il.obj(st:il t it l i h):∃ o,h.get? it=some o/\∀ v,o.data≠.cell v:=by
 cases t with
 | true=>exact let ⟨o,ho,_,hd⟩:=(show h.IsTupleIter it l i from st);⟨o,ho,fun v q=>by rw[hd]at q;cases q⟩
 | false=>exact let ⟨o,ho,_,hd⟩:=(show h.IsListIter it l i from st);⟨o,ho,fun v q=>by rw[hd]at q;cases q⟩
def il.keep(st:il t it l i h)(k:∀ o,h.get? it=some o->h'.get? it=some o):il t it l i h':=by
 cases t with
 | true=>exact let ⟨o,ho,r⟩:=(show h.IsTupleIter it l i from st);⟨o,k o ho,r⟩
 | false=>exact(show h.IsListIter it l i from st).at fun o q=>k o q
def hU(I:Inv X pins σ H s)(hi:H it=none)(hx:H l=some (d6 t xs)) :
  ∃ (fp:List Addr) (Pv:Nat->Value->Prop) (St:Nat->Heap->Prop),Draws X.prog X.w X.A.in1 it fp xs.length Pv St/\(∀ b∈fp,b=it\/H b≠none)/\(∀ i,il t it l i s.heap->St i s.heap)/\(∀ i h,St i h->il t it l i h)/\∀ i v,Pv i v->∃ x,xs[i]?=some x/\RelV x v:=by
 have back:∀ {its:List Value},Vals xs its->∀ (i:Nat) (v:Value),its.toArray[i]?=some v->∃ x,xs[i]?=some x/\RelV x v:=fun {its} rv i v hv=>by
  have hv:its[i]?=some v:=by simpa using hv
  have hlt:i<xs.length:=by rw[rv.length];exact(List.getElem?_eq_some_iff.mp hv).1
  obtain⟨u,h1,h2⟩:=rv.get (i:=i) (x:=xs[i]) (by simp[hlt]);rw[hv]at h1;cases h1;exact⟨xs[i],by simp[hlt],h2⟩
 have two:∀ {u:HO},H l=some u->∀ b∈[it,l],b=it\/H b≠none:=fun {u} e b hb=>by
  rcases List.mem_cons.mp hb with z | z
  ·exact .inl z
  ·rw[List.mem_singleton.mp z,e]
   exact .inr fun z=>nomatch z
 rcases I.ok.hd.2 with hh | ⟨x,ox,ux,ws,hh,g1,g2,g3⟩
 ·cases t with
  |true=>
   have hx:H l=some (.tup xs):=hx;obtain⟨its,rv,p,hz⟩:=I.tuple (SqT.of hx);have D:=qV.draws (prog:=X.prog) (w:=X.w) (A:=X.A.in1) hh it l (aI hx hi) its.toArray;rw[show its.toArray.size=xs.length by rw[List.size_toArray,rv.length]]at D;exact⟨_,_,_,D,two hx,fun i st=>⟨st,p⟩,fun i h st=>st.1,back rv⟩
  |false=>
   have hx:H l=some (.lst xs):=hx;obtain⟨its,rv,p,hz⟩:=I.list (SqL.of hx);have D:=Draws.list (prog:=X.prog) (w:=X.w) (A:=X.A.in1) hh it l (aI hx hi) its.toArray;rw[show its.toArray.size=xs.length by rw[List.size_toArray,rv.length]]at D;exact⟨_,_,_,D,two hx,fun i st=>⟨st,p.isList⟩,fun i h st=>st.1,back rv⟩
 ·have hxx:=I.base.gW _ _ _ g1;have hxo:s.heap.get? x=some ox:=(I.hok _ _ hxx).1;have nx:x≠it:=aI hxx hi
  have three:∀ {u:HO},H l=some u->∀ b∈[it,l,x],b=it\/H b≠none:=fun {u} e b hb=>by
   simp only[List.mem_cons,List.mem_nil_iff,or_false]at hb;rcases hb with z | z | z
   ·exact .inl z
   ·rw[z,e]
    exact .inr fun z=>nomatch z
   ·rw[z,hxx]
    exact .inr fun z=>nomatch z
  cases t with
  |true=>
   have hx:H l=some (.tup xs):=hx;obtain⟨its,rv,p,hz⟩:=I.tuple (SqT.of hx);have D:=ym (prog:=X.prog) (w:=X.w) (A:=X.A.in1) hh g2 g3 nx (aI hx hi) its.toArray;rw[show its.toArray.size=xs.length by rw[List.size_toArray,rv.length]]at D;exact⟨_,_,_,D,three hx,fun i st=>⟨⟨st,p⟩,hxo⟩,fun i h st=>st.1.1,back rv⟩
  |false=>
   have hx:H l=some (.lst xs):=hx;obtain⟨its,rv,p,hz⟩:=I.list (SqL.of hx);have D:=zx (prog:=X.prog) (w:=X.w) (A:=X.A.in1) hh g2 g3 nx (aI hx hi) its.toArray;rw[show its.toArray.size=xs.length by rw[List.size_toArray,rv.length]]at D;exact⟨_,_,_,D,three hx,fun i st=>⟨⟨st,p.isList⟩,hxo⟩,fun i h st=>st.1.1,back rv⟩
abbrev Itz(t1 t2:Bool)(l1 l2:Addr):It :=
 ⟨fun i H=>∃ xs ys x y,H l1=some (d6 t1 xs)/\H l2=some (d6 t2 ys)/\xs[i]?=some x/\ys[i]?=some y,
   fun i H v H'=>∃ p x y,H p=none/\v=.ref p/\H'=upd H p (.tup [x,y])/\(∀ xs,H l1=some (d6 t1 xs)->xs[i]?=some x)/\∀ ys,H l2=some (d6 t2 ys)->ys[i]?=some y,
   fun i H=>∃ xs ys,H l1=some (d6 t1 xs)/\H l2=some (d6 t2 ys)/\xs.length=i/\ys.length=i⟩
def sy(h:d6 t xs=d6 t ys):xs=ys:=by
 cases t<;>(injection h)
def yX{P:Program}{w:World}{K:PySem.W.Frag}{elts:List Expr}{kx:Nat}{tp:Pos}{t1 t2:Bool}{z TI TO i1 i2 l1 l2:Addr}(n1:TI≠z)(n2:TO≠z)(n3:TI≠TO)(n4:i1≠z)(n5:i2≠z)(n6:i1≠TO)(n7:i2≠TO)(n8:i1≠i2)(n9:i1≠TI)(n10:i2≠TI) :
  nj (fun _=>True) P w K (.Tuple elts kx tp) (Itz t1 t2 l1 l2) [z,TI,TO,i1,i2] z (fun i h=>IsZip h z TI TO .none/\IsPair h TI (.ref i1) (.ref i2)/\(∃ a b,IsPair h TO a b)/\il t1 i1 l1 i h/\il t2 i2 l2 i h) where
 mem:=by simp
 obj:=fun i h st b hb=>by
  obtain⟨h1,h2,⟨a,c,h3⟩,h4,h5⟩:=st;simp only[List.mem_cons,List.mem_nil_iff,or_false]at hb;rcases hb with rfl | rfl | rfl | rfl | rfl
  ·exact⟨_,h1,fun v q=>by cases q⟩
  ·exact⟨_,h2,fun v q=>by cases q⟩
  ·exact⟨_,h3,fun v q=>by cases q⟩
  ·exact h4.obj
  ·exact h5.obj
 keep:=fun i h h' st k=>by
  obtain⟨h1,h2,⟨a,c,h3⟩,h4,h5⟩:=st;exact⟨k z (by simp) _ h1,k TI (by simp) _ h2,⟨a,c,k TO (by simp) _ h3⟩,h4.keep fun o q=>k i1 (by simp) o q,h5.keep fun o q=>k i2 (by simp) o q⟩
 item:=by
  intro X hP hw hK hc i pins s σ H E I hf st hg;subst hP hw hK;obtain⟨h1,h2,⟨a,c,h3⟩,h4,h5⟩:=st;obtain⟨xs,ys,x,y,hx,hy,ex,ey⟩:=hg;have f:∀ b∈[z,TI,TO,i1,i2],H b=none:=fun b hb=>(hf b hb).1;obtain⟨fp1,Pv1,St1,D1,m1,a1,a2,a3⟩:=hU I (f i1 (by simp)) hx;obtain⟨fp2,Pv2,St2,D2,m2,b1,b2,b3⟩:=hU I (f i2 (by simp)) hy;have no:∀ {fp:List Addr} {i b:Addr},(∀ b∈fp,b=i\/H b≠none)->b∈[z,TI,TO,i1,i2]->b≠i->b∉fp:=fun m hb n z=>(m _ z).elim n fun q=>q (f _ hb)
  have Z:iD z TI TO i1 i2 fp1 fp2:=⟨n1,n2,n3,n4,n5,n6,n7,n8,no m1 (by simp) (Ne.symm n4),no m2 (by simp) (Ne.symm n5),no m1 (by simp) (Ne.symm n6),no m2 (by simp) (Ne.symm n7),no m2 (by simp) n8,no m1 (by simp) (Ne.symm n8)⟩
  refine Ap Z D1 D2 h1 h2 h3 (a1 i h4) (b1 i h5) (List.getElem?_eq_some_iff.mp ex).1 (List.getElem?_eq_some_iff.mp ey).1 fun u v g tk pu pv g1 g2 g3 g4 g5 g6 g7=>?_;obtain⟨x',ex',rx⟩:=a3 i u pu;obtain⟨y',ey',ry⟩:=b3 i v pv;rw[ex]at ex';rw[ey]at ey';cases ex';cases ey';refine⟨.ref s.heap.objs.size,rfl,wpAny_letOwnedTupleGo_zip g1 fun g' gz' sb=>?_⟩;have hn:H s.heap.objs.size=none:=I.hok.fresh (Nat.le_refl _)
  have I1:Inv X pins σ (upd H s.heap.objs.size (.tup [x,y])) { s with heap:=s.heap.push { cls:=.type "tuple",data:=.seq #[u,v] },toks:=tk } :=
   I.laid (t':=tk) (fun b o q=>Heap.get?_push_of_some _ q) (Nat.le_refl _) ⟨by show 2<=sizeLine;decide,[u,v],.cons rx (.cons ry .nil),⟨_,Heap.get?_push_size _ rfl,rfl,_,rfl⟩⟩
  have lt:∀ b∈[z,TI,TO,i1,i2],b≠s.heap.objs.size:=fun b hb=>by
   have:∃ o,s.heap.get? b=some o:=by
    simp only[List.mem_cons,List.mem_nil_iff,or_false]at hb;rcases hb with rfl | rfl | rfl | rfl | rfl
    ·exact⟨_,h1⟩
    ·exact⟨_,h2⟩
    ·exact⟨_,h3⟩
    ·exact let ⟨o,q,_⟩:=h4.obj;⟨o,q⟩
    ·exact let ⟨o,q,_⟩:=h5.obj;⟨o,q⟩
   obtain⟨o,q⟩:=this;exact Nat.ne_of_lt (Heap.lt_size q)
  have stat:∀ b∈[z,TI,TO,i1,i2],upd H s.heap.objs.size (.tup [x,y]) b=none/\(b∈X.ex\/X.s₀.heap.objs.size<=b)/\b≠X.env.locals/\(∀ x c,X.env.cells.lookup x=some c->c≠b)/\∀ p∈X.pn++pins,p.1≠b:=fun b hb=>by
   obtain⟨f0,f1,f2,f3,f4,f5⟩:=hf b hb;exact⟨by rw[aL (lt b hb)];exact f0,f3,f1,f4,f5⟩
  have I2:Inv X pins σ (upd H s.heap.objs.size (.tup [x,y])) { s with heap:=g',toks:=tk }:=by
   refine Inv.pj (s:={ s with heap:=s.heap.push { cls:=.type "tuple",data:=.seq #[u,v] },toks:=tk }) (h':=g') (t':=tk) (fp:=[z,TI,TO,i1,i2]) I1 (fun b o hb q=>?_) stat;simp only[List.mem_cons,List.mem_nil_iff,or_false,not_or]at hb;refine sb.extBut b o hb.1 ?_;by_cases hbT:b=s.heap.objs.size
   ·subst hbT;have q':(s.heap.push { cls:=.type "tuple",data:=.seq #[u,v] }).get? s.heap.objs.size=some o:=q;rw[Heap.get?_push_size _ rfl]at q';cases q';exact g5
   ·exact g7 b o hb.1 hb.2.2.1 hb.2.2.2.1 hb.2.2.2.2 ((Heap.get?_push_ne _ _ _ hbT).symm.trans q)
  have kp:∀ b∈[TI,TO,i1,i2],∀ o,g.get? b=some o->g'.get? b=some o:=fun b hb o q=>sb.extBut b o (fun e=>by
   subst e;simp only[List.mem_cons,List.mem_nil_iff,or_false]at hb;rcases hb with e | e | e | e
   ·exact n1 e.symm
   ·exact n2 e.symm
   ·exact n4 e.symm
   ·exact n5 e.symm) q
  refine⟨.ref s.heap.objs.size,_,I2,rfl,⟨s.heap.objs.size,x,y,hn,rfl,rfl,fun xs' hx'=>?_,fun ys' hy'=>?_⟩,⟨gz',kp TI (by simp) _ (g7 TI _ n1 n3 (Ne.symm n9) (Ne.symm n10) h2),⟨u,v,kp TO (by simp) _ g2⟩,(a2 _ _ g3).keep fun o q=>kp i1 (by simp) o q,(b2 _ _ g4).keep fun o q=>kp i2 (by simp) o q⟩,fun b hb=>(stat b hb).1⟩
  ·rw[hx]at hx';rw[<-sy (Option.some.inj hx')];exact ex
  ·rw[hy]at hy';rw[<-sy (Option.some.inj hy')];exact ey
 done:=by
  intro X hP hw hK hc i pins s σ H E I hf st hg;subst hP hw hK;obtain⟨h1,h2,⟨a,c,h3⟩,h4,h5⟩:=st;obtain⟨xs,ys,hx,hy,ex,ey⟩:=hg;have f:∀ b∈[z,TI,TO,i1,i2],H b=none:=fun b hb=>(hf b hb).1;obtain⟨fp1,Pv1,St1,D1,m1,a1,a2,a3⟩:=hU I (f i1 (by simp)) hx;obtain⟨fp2,_,_,_,m2,_⟩:=hU I (f i2 (by simp)) hy;have no:∀ {fp:List Addr} {i b:Addr},(∀ b∈fp,b=i\/H b≠none)->b∈[z,TI,TO,i1,i2]->b≠i->b∉fp:=fun m hb n z=>(m _ z).elim n fun q=>q (f _ hb)
  have Z:iD z TI TO i1 i2 fp1 fp2:=⟨n1,n2,n3,n4,n5,n6,n7,n8,no m1 (by simp) (Ne.symm n4),no m2 (by simp) (Ne.symm n5),no m1 (by simp) (Ne.symm n6),no m2 (by simp) (Ne.symm n7),no m2 (by simp) n8,no m1 (by simp) (Ne.symm n8)⟩
  subst ex
  refine zE Z D1 h1 h2 h3 (a1 _ h4) fun g hk=>⟨rfl,?_⟩
  refine Inv.pj (h':=g) (t':=s.toks) (fp:=[z,i1]) I (fun b o hb q=>?_) fun b hb=>?_
  ·simp only[List.mem_cons,List.mem_nil_iff,or_false,not_or]at hb;exact hk b o hb.1 hb.2 q
  ·have hb':b∈[z,TI,TO,i1,i2]:=by
    simp only[List.mem_cons,List.mem_nil_iff,or_false]at hb ⊢;rcases hb with q | q
    ·exact .inl q
    ·exact .inr (.inr (.inr (.inl q)))
   obtain⟨f0,f1,f2,f3,f4,f5⟩:=hf b hb';exact⟨f0,f3,f1,f4,f5⟩
 self:=fun A i s Q E st h=>wpAny_pyIter_zip st.1 h
def nj.calm{P:Program}{w:World}{K:PySem.W.Frag}(T:nj (fun _=>True) P w K tg J fp it tn):Turn P w K tg J fp it tn where
 mem:=T.mem
 obj:=T.obj
 keep:=T.keep
 item:=fun X a b c hc i pins s σ H E I=>T.item X a b c trivial i pins s σ H E I
 done:=fun X a b c hc i pins s σ H E I=>T.done X a b c trivial i pins s σ H E I
 self:=T.self
def PI'.calm(h:PI' (fun _=>True) X tg iter wi):PI X tg iter wi:=fun pins s σ H R I q =>
 thn (h pins s σ H R I q) fun v s1 h1=>thn h1 fun itv s2 ⟨it,fp,tn,J,H',e,I',T,r⟩=>⟨it,fp,tn,J,H',e,I',T.calm,r⟩
abbrev cJ(t:Bool)(l:Addr):Obj:=if t then { cls:=.type "tuple_iterator",data:=.fields #[.ref l,rawInt 0] } else { cls:=.type "list_iterator",data:=.fields #[.ref l,.int 0 0] }
def qO(e:h.get? it=some (cJ t l)):il t it l 0 h:=by
 cases t with
 | true=>exact⟨_,e,rfl,rfl⟩
 | false=>exact⟨_,e,rfl,rfl⟩
def q0(I:Inv X pins σ H s)(hx:H l=some (d6 t xs))(q:Q (.ref s.heap.objs.size) { s with heap:=s.heap.push (cJ t l) }):wpAny (model X.prog X.w) A (pyIter (.ref l)) Q E s:=by
 cases t with
 |true=>
  obtain⟨its,rv,p,hz⟩:=I.tuple (SqT.of (show H l=some (.tup xs)from hx));exact wpAny_pyIter_tuple p q
 |false=>
  obtain⟨its,rv,p,hz⟩:=I.list (SqL.of (show H l=some (.lst xs)from hx));exact wpAny_pyIter_list p.isList q
section
abbrev Jf(ta:TA):TI:=fun σ H R=>ta σ H fun vs H1=>∃ t1 t2 l1 l2 xs ys,vs=[.ref l1,.ref l2]/\H1 l1=some (d6 t1 xs)/\H1 l2=some (d6 t2 ys)/\R (Itz t1 t2 l1 l2) H1
def far(n a b:Nat)(h:a≠b):n+a≠n+b:=fun q=>h (Nat.add_left_cancel q)
def xJ:bootBuiltins "zip" = some (.type "zip"):=by decide +kernel
def Gd(hg:Gl X "zip")(hm:X.mg "zip" = none)(ha:PA X [a,b] ta)(hs:starEach [a,b] X.env=[(false,eval a X.env),(false,eval b X.env)])(hs2:starEach [b] X.env=[(false,eval b X.env)]):PI' (fun _=>True) X (.Tuple elts kx tp) (.Call (.Name "zip" p) [a,b] [] pos) (Jf ta):=by
 intro pins s0 σ H0 R I0 h;refine Call_ (gP I0 hg hm xJ (PyProof.Rows.callWith_type1 (thn (ha pos pins s0 σ H0 _ I0 h) fun us s ⟨vs,H,I,r1,q1⟩=>?_) (by rw[hs,hs2]) (by rw[hs2];rfl)) (by decide) (by decide));obtain⟨t1,t2,l1,l2,xs,ys,rfl,hx,hy,q⟩:=q1
 cases r1 with
 |cons r rr=>
  cases rr with
  |cons r2 rr=>
   cases rr;cases r;cases r2;have I1:Inv X pins σ H { s with heap:=s.heap.push (cJ t1 l1) }:=I.kept (t':=s.toks) fun b o e=>Heap.get?_push_of_some _ e
   refine Cd (S1:=fun it z1=>it=s.heap.objs.size/\z1={ s with heap:=s.heap.push (cJ t1 l1) }) (S2:=fun it jt z2=>it=s.heap.objs.size/\jt=(s.heap.push (cJ t1 l1)).objs.size/\z2={ s with heap:=(s.heap.push (cJ t1 l1)).push (cJ t2 l2) })
    (fun A=>q0 I hx ⟨_,rfl,rfl,rfl⟩) (fun it z1 h1 A=>?_) fun it jt z2 h2=>?_
   ·obtain⟨rfl,rfl⟩:=h1;exact q0 I1 hy ⟨_,rfl,rfl,rfl,rfl⟩
   ·obtain⟨rfl,rfl,rfl⟩:=h2;have z1:(s.heap.push (cJ t1 l1)).objs.size=s.heap.objs.size+1:=Heap.size_push ..;generalize e1:s.heap.push (cJ t1 l1)=g1 at *
    have p1:g1.get? s.heap.objs.size=some (cJ t1 l1):=by
     rw[<-e1];exact Heap.get?_push_size _ (by cases t1<;>rfl)
    have k1:∀ b o,s.heap.get? b=some o->g1.get? b=some o:=fun b o e=>by rw[<-e1];exact Heap.get?_push_of_some _ e
    have z2:(g1.push (cJ t2 l2)).objs.size=s.heap.objs.size+2:=by rw[Heap.size_push,z1]
    have p2:(g1.push (cJ t2 l2)).get? (s.heap.objs.size+1)=some (cJ t2 l2):=by
     rw[<-z1];exact Heap.get?_push_size _ (by cases t2<;>rfl)
    have k2:∀ b o,g1.get? b=some o->(g1.push (cJ t2 l2)).get? b=some o:=fun b o e=>Heap.get?_push_of_some _ e;generalize e2:g1.push (cJ t2 l2)=g2 at *;dsimp only;rw[z1]
    have z3:(g2.push { cls:=.type "tuple",data:=.seq #[.ref s.heap.objs.size,.ref (s.heap.objs.size+1)] }).objs.size=s.heap.objs.size+3:=by rw[Heap.size_push,z2]
    have p3:(g2.push { cls:=.type "tuple",data:=.seq #[.ref s.heap.objs.size,.ref (s.heap.objs.size+1)] }).get? (s.heap.objs.size+2)=some { cls:=.type "tuple",data:=.seq #[.ref s.heap.objs.size,.ref (s.heap.objs.size+1)] }:=by
     rw[<-z2];exact Heap.get?_push_size _ rfl
    have k3:∀ b o,g2.get? b=some o->(g2.push { cls:=.type "tuple",data:=.seq #[.ref s.heap.objs.size,.ref (s.heap.objs.size+1)] }).get? b=some o:=fun b o e=>Heap.get?_push_of_some _ e;rw[z2];generalize e3:g2.push { cls:=.type "tuple",data:=.seq #[.ref s.heap.objs.size,.ref (s.heap.objs.size+1)] }=g3 at *;rw[z3]
    have z4:(g3.push { cls:=.type "tuple",data:=.seq #[.none,.none] }).objs.size=s.heap.objs.size+4:=by rw[Heap.size_push,z3]
    have p4:(g3.push { cls:=.type "tuple",data:=.seq #[.none,.none] }).get? (s.heap.objs.size+3)=some { cls:=.type "tuple",data:=.seq #[.none,.none] }:=by
     rw[<-z3];exact Heap.get?_push_size _ rfl
    have k4:∀ b o,g3.get? b=some o->(g3.push { cls:=.type "tuple",data:=.seq #[.none,.none] }).get? b=some o:=fun b o e=>Heap.get?_push_of_some _ e;generalize e4:g3.push { cls:=.type "tuple",data:=.seq #[.none,.none] }=g4 at *;rw[z4]
    have p5:(g4.push { cls:=.type "zip",data:=.fields #[.none,.bool false,.bool false,.ref (s.heap.objs.size+2),.ref (s.heap.objs.size+3)] }).get? (s.heap.objs.size+4)=some { cls:=.type "zip",data:=.fields #[.none,.bool false,.bool false,.ref (s.heap.objs.size+2),.ref (s.heap.objs.size+3)] }:=by
     rw[<-z4];exact Heap.get?_push_size _ rfl
    have k5:∀ b o,g4.get? b=some o->(g4.push { cls:=.type "zip",data:=.fields #[.none,.bool false,.bool false,.ref (s.heap.objs.size+2),.ref (s.heap.objs.size+3)] }).get? b=some o:=fun b o e=>Heap.get?_push_of_some _ e;generalize e5:g4.push { cls:=.type "zip",data:=.fields #[.none,.bool false,.bool false,.ref (s.heap.objs.size+2),.ref (s.heap.objs.size+3)] }=g5 at *
    refine wpAny_pyIter_zip (TI:=s.heap.objs.size+2) (TO:=s.heap.objs.size+3) (f0:=.none) p5 ⟨s.heap.objs.size+4,[s.heap.objs.size+4,s.heap.objs.size+2,s.heap.objs.size+3,s.heap.objs.size,s.heap.objs.size+1],_,Itz t1 t2 l1 l2,H,rfl,I.kept (t':=s.toks) fun b o e=>k5 _ _ (k4 _ _ (k3 _ _ (k2 _ _ (k1 _ _ e)))),yX (far _ 2 4 (by decide)) (far _ 3 4 (by decide)) (far _ 2 3 (by decide)) (far _ 0 4 (by decide)) (far _ 1 4 (by decide)) (far _ 0 3 (by decide)) (far _ 1 3 (by decide)) (far _ 0 1 (by decide)) (far _ 0 2 (by decide)) (far _ 1 2 (by decide)),
     ⟨p5,k5 _ _ (k4 _ _ p3),⟨_,_,k5 _ _ p4⟩,qO (k5 _ _ (k4 _ _ (k3 _ _ (k2 _ _ p1)))),qO (k5 _ _ (k4 _ _ (k3 _ _ p2)))⟩,fun b hb=>?_,q⟩
    have hb':s.heap.objs.size<=b:=by
     simp only[List.mem_cons,List.mem_nil_iff,or_false]at hb
     rcases hb with rfl | rfl | rfl | rfl | rfl<;>first | exact Nat.le_refl _ | exact Nat.le_add_right _ _
    exact I.kg hb' (I.hok.fresh hb')
end
end L2
namespace RS
open PySem PySem.Spec PyProof.Rows L2
def iV:∀ (ds es:List RL.D),ds.length=es.length->(RL.fv ds es).length=ds.length
 | [],[],_=>rfl
 | [],_::_,h=>by cases h
 | _::_,[],h=>by cases h
 | d::ds,e::es,h=>by rw[RL.fv,List.length_cons,List.length_cons,iV ds es (by simpa using h)]
def r8:∀ (ds es:List RL.D) (i:Nat) (d:RL.D),(RL.fv ds es)[i]?=some d->∃ x y,ds[i]?=some x/\es[i]?=some y/\d=.tup [x,y]
 | [],es,i,d,h=>by cases es<;>simp[RL.fv]at h
 | _::_,[],i,d,h=>by simp[RL.fv]at h
 | x::ds,y::es,0,d,h=>by simp[RL.fv]at h;exact⟨x,y,rfl,rfl,h.symm⟩
 | x::ds,y::es,i+1,d,h=>by
  rw[RL.fv,List.getElem?_cons_succ]at h;obtain⟨x',y',h1,h2,h3⟩:=r8 ds es i d h;exact⟨x',y',by simpa using h1,by simpa using h2,h3⟩
def x8{K:PySem.W.Frag}(hl:ds.length=es.length)(h1:H l1=some (d6 t1 xs))(h2:H l2=some (d6 t2 ys))(n1:¬ P l1)(n2:¬ P l2)(r1:ae nP K H ds xs)(r2:ae nP K H es ys)(hm:∀ b o,P b->H b=some o->cu o) :
  gB K (Itz t1 t2 l1 l2) (RL.fv ds es) P H where
 go:=fun H' i k hi=>by
  rw[iV ds es hl]at hi;obtain⟨x,e,_⟩:=r1.get (i:=i) (d:=ds[i]) (by simp[hi]);obtain⟨y,e',_⟩:=r2.get (i:=i) (d:=es[i]'(by lia)) (by simp);exact⟨xs,ys,x,y,k _ _ n1 h1,k _ _ n2 h2,e,e'⟩
 stop:=fun H' k=>⟨xs,ys,k _ _ n1 h1,k _ _ n2 h2,by rw[iV ds es hl,r1.length],by rw[iV ds es hl,hl,r2.length]⟩
 yld:=fun H' i d v H2 k e y=>by
  obtain⟨p,x,w,hp,rfl,rfl,hx,hw⟩:=y;obtain⟨dx,dw,g1,g2,rfl⟩:=r8 ds es i d e;obtain⟨x',g3,g4⟩:=r1.get g1;obtain⟨w',g5,g6⟩:=r2.get g2;rw[hx xs (k _ _ n1 h1)]at g3;rw[hw ys (k _ _ n2 h2)]at g5;cases g3;cases g5;refine⟨a5.bQ hp,fun q=>?_⟩
  have re:Rep nP K H' dx x/\Rep nP K H' dw w:=by
   rcases q with q | q
   ·have q:(dx.imm&&(dw.imm&&true))=true:=q;rw[Bool.and_true,Bool.and_eq_true]at q;exact⟨gL hm k g4 q.1,gL hm k g6 q.2⟩
   ·exact⟨g4.same q,g6.same q⟩
  rw[Rep];exact⟨p,[x,w],rfl,br,ae.cons (re.1.same (a5.bQ hp)) (ae.cons (re.2.same (a5.bQ hp)) ae.nil)⟩
def pI{P:Addr->Prop}{K:PySem.W.Frag}(h:RL.items d=some ds)(r:Rep P K H d v):∃ t l xs,v=.ref l/\H l=some (d6 t xs)/\ae P K H ds xs/\(t=false->d=.lst ds):=by
 obtain⟨p,xs,rfl,hp,rs⟩:=eY h r
 rcases hp with⟨q,rfl⟩ | ⟨q,rfl⟩
 ·exact⟨false,p,xs,rfl,q,rs,fun _=>rfl⟩
 ·exact⟨true,p,xs,rfl,q,rs,fun z=>by cases z⟩
section rules
def E3(hg:Gl X "zip")(hm:X.mg "zip" = none)(ha:SE X cl a a')(hb:SE X cl b b')(hn:noStar a=true)(hn2:noStar b=true):PI' (fun _=>True) X (.Tuple elts kx tp) (.Call (.Name "zip" p) [a,b] [] pos) (tI X.K cl (.zip a' b')):=by
 intro pins s σ H R I h;obtain⟨σD,ds,rv,e,k⟩:=h;obtain⟨x,ea,e⟩:=bind_some e;obtain⟨y,eb,e⟩:=bind_some e;obtain⟨xs,e1,e⟩:=bind_some e;obtain⟨ys,e2,e⟩:=bind_some e;split at e
 ·rename_i hl;cases e;have hpa:PA X [a,b] (hZ (tE X.K cl a') (hZ (tE X.K cl b') sN)):=bE ha (bE hb dh (a9 [] hn2)) (a9 _ hn);refine Gd hg hm hpa (by rw[a9 _ hn,a9 _ hn2];rfl) (a9 [] hn2) pins s σ H R I ?_;refine⟨σD,x,rv,ea,fun v H1 r1=>⟨σD,y,rv.same r1.same,eb,fun u H2 r2=>?_⟩⟩;obtain⟨t1,l1,vs,rfl,h1,p1,c1⟩:=pI e1 (r1.rep.same r2.same);obtain⟨t2,l2,us,rfl,h2,p2,c2⟩:=pI e2 r2.rep;refine⟨t1,t2,l1,l2,vs,us,rfl,h1,h2,k _ _ (r1.same.trans r2.same) ⟨x8 hl h1 h2 (fun z=>z) (fun z=>z) p1 p2 gZ,fun M P z hP av=>?_⟩⟩;have hP2:=dP (r1.same.trans r2.same) hP;unfold RL.wd at z;rw[Bool.and_eq_true]at z
  have notT:∀ (t:Bool) l zs,H2 l=some (d6 t zs)->t=true->¬ P l:=fun t l zs hl ht q=>by
   subst ht;rcases hP2 l _ q hl with⟨_,q⟩ | ⟨_,q⟩ | ⟨_,q⟩<;>cases q
  refine x8 hl h1 h2 ?_ ?_ p1 p2 hP2
  ·cases ht:t1 with
   | true=>exact notT t1 l1 vs h1 ht
   | false=>exact nD r1 z.1 hP av _ _ (c1 ht) rfl
  ·cases ht:t2 with
   | true=>exact notT t2 l2 us h2 ht
   |false=>
    refine nD r2 z.2 (fun b q=>?_) (fun j dj vj hj h3 h4=>(av j dj vj hj h3 h4).same r1.same) _ _ (c2 ht) rfl;obtain⟨o,ho,hmu⟩:=hP b q;exact⟨o,r1.same _ _ ho,hmu⟩
 ·cases e
end rules
end RS
namespace L2
open PySem PySem.Spec PyProof.Rows
section
end
end L2
namespace RS
open PySem PySem.Spec PyProof.Rows L2
section
def Ao{c:Expr}{body:List Stmt}{b:RL.Ss}(hx:X.xe=fun _ _=>False)(hc:ST X cl c c')(hb:SSs X cl M body b):SS X cl M (.While c body [] pos) (.whil c' b):=by
 refine PS.weak (zC (by rw[hx];exact PassesOwn.never) hc hb) fun D σ H h=>?_;obtain⟨σD,r,σD',rv,e,k⟩:=h;refine⟨fun m σ2 H2=>∃ σD2,RVm X.K M σD2 σ2 H2/\Fr' M σ H σ2 H2/\RL.whF (fun σ=>(RL.ev cl σ c').bind RL.truth) (RL.ah cl M b) m σD2=some (r,σD'),⟨_,σD,rv,Fr'.same (a5.refl _),e⟩,?_⟩;rintro m σ2 H2 ⟨σD2,rv2,fr2,hl⟩
 cases m with
 | zero=>rw[RL.whF]at hl;cases hl
 |succ m=>
  rw[RL.whF]at hl;obtain⟨t,e1,hl⟩:=bind_some hl;refine⟨σD2,t,rv2.rv0,e1,fun H3 s3=>?_⟩;have fr3:=fr2.trans (Fr'.same (M:=M) (σ:=σ2) s3)
  cases t with
  |true=>
   rw[if_pos rfl]at hl;dsimp only;rw[if_pos rfl];obtain⟨⟨o,σD3⟩,e2,hl⟩:=bind_some hl;refine⟨fun σ' H'=>∃ m',m'<m+1/\∃ σDx,RVm X.K M σDx σ' H'/\Fr' M σ H σ' H'/\RL.whF (fun σ=>(RL.ev cl σ c').bind RL.truth) (RL.ah cl M b) m' σDx=some (r,σD'),fun _ _ h=>h,σD2,o,σD3,rv2.same s3,e2,?_⟩
   cases o with
   | nx=>exact fun σ' H' rv' fr'=>⟨m,by lia,σD3,rv',fr3.trans fr',hl⟩
   |rt d=>
    cases hl;exact fun σ' H' v H4 rv' fr' sm rp=>k σ' H' v H4 rv' (fr3.trans fr') sm rp
  |false=>
   rw[if_neg (by decide)]at hl;dsimp only;rw[if_neg (by decide)];cases hl;exact k σ2 H3 (rv2.same s3) fr3
end
end RS
namespace L2
open PySem PySem.Spec PyProof.Rows
section
end
section
end
end L2
namespace RS
open PySem PySem.Spec PyProof.Rows L2
section
end
section
variable{st:Stmt}
end
section
variable{X:Cx}
end
end RS
namespace L2
open PySem PySem.Spec PyProof.Rows
end L2
namespace RS
open PySem PySem.Spec PyProof.Rows L2
end RS
namespace L2
open PySem PySem.Spec PyProof.Rows
section
variable{prog:Program}{w:World}{A:Around}{E:Value->Shared->Prop}{s:Shared}
end
end L2
namespace RS
open PySem PySem.Spec PyProof.Rows L2
end RS
namespace L2
open PySem PySem.Spec PyProof.Rows
abbrev Itx(x:Str):It:=⟨fun i _=>i<x.cps.size,fun i H v H'=>H'=H/\∃ c,x.cps[i]?=some c/\v=.str ⟨#[c]⟩,fun i _=>x.cps.size<=i⟩
def AG{P:Program}{w:World}{K:PySem.W.Frag}{tg:Expr}(x:Str)(t:Tok)(it:Addr):Turn P w K tg (Itx x) [it] it (fun i h=>h.IsStrIter it (strIterType x) x t i) where
 mem:=by simp
 obj:=fun i h st b hb=>by
  have e:b=it:=by simpa using hb
  subst e;obtain⟨o,e,c,d⟩:=st;exact⟨o,e,fun v z=>by rw[d]at z;cases z⟩
 keep:=fun i h h' st k=>let ⟨o,e,r⟩:=st;⟨o,k it (by simp) o e,r⟩
 item:=by
  intro X hP hw hK hc i pins s σ H E I hf st hg;subst hP hw hK;have hg:i<x.cps.size:=hg;obtain⟨f0,f1,f2,f3,f4,f5⟩:=hf it (by simp)
  have hx:x.cps[i]?=some x.cps[i]:=by simp[hg]
  have fin:∀ h',h'.IsStrIter it (strIterType x) x t (i+1)->Heap.SameBut it s.heap h'->(∃ u,some (Value.str ⟨#[x.cps[i]]⟩ s.toks)=some u /\
    wpAny (model X.prog X.w) X.A (letOwnedTupleGo tg (.ref it) u) (fun _ s2=>∃ y H',Inv X pins σ H' s2/\RelV y u/\(Itx x).yld i H y H'/\s2.heap.IsStrIter it (strIterType x) x t (i+1)/\∀ b∈[it],H' b=none) E { s with heap:=h',toks:=s.toks+1 }):=fun h' st' sb=>by
   have I1:Inv X pins σ H { s with heap:=h',toks:=s.toks+1 }:=I.turned (t':=s.toks+1) (fun b o hb e=>(sb.2 b hb).trans e) f0 f1 f3 f4 f5;obtain⟨o,e,c,d⟩:=id st'
   have hn:["enumerate", "zip", "dict_itemiterator", "dict_reverseitemiterator", "odict_iterator", "itertools.zip_longest", "itertools.pairwise"].contains (strIterType x)=false:=by
    unfold strIterType;split<;>decide
   exact⟨_,rfl,kI (s:={ s with heap:=h',toks:=s.toks+1 }) e c d hn ⟨.str ⟨#[x.cps[i]]⟩,H,I1,⟨_,rfl⟩,⟨rfl,_,hx,rfl⟩,st',fun b hb=>(hf b hb).1⟩⟩
  cases ha:x.cps.all (·<128)with
  |true=>
   have ht:strIterType x = "str_ascii_iterator" := by simp[strIterType,ha]
   rw[ht]at st;exact wpAny_pyNext_ascii_item st hx fun h' st' sb=>fin h' (by rw[ht];exact st') sb
  |false=>
   have ht:strIterType x = "str_iterator" := by simp[strIterType,ha]
   rw[ht]at st;exact wpAny_pyNext_wide_item st hx fun h' st' sb=>fin h' (by rw[ht];exact st') sb
 done:=by
  intro X hP hw hK hc i pins s σ H E I hf st hg;subst hP hw hK;have hg:x.cps.size<=i:=hg;obtain⟨f0,f1,f2,f3,f4,f5⟩:=hf it (by simp)
  have hx:x.cps[i]?=none:=by simp[hg]
  have fin:∀ h',Heap.ExtBut it s.heap h'->(none:Option Value)=none/\Inv X pins σ H { s with heap:=h' }:=fun h' eb=>⟨rfl,I.turned (t':=s.toks) (fun b o hb e=>eb b o hb e) f0 f1 f3 f4 f5⟩
  cases ha:x.cps.all (·<128)with
  |true=>
   have ht:strIterType x = "str_ascii_iterator" := by simp[strIterType,ha]
   rw[ht]at st;exact wpAny_pyNext_ascii_end (I.ok.hd.1 hc) st hx fin
  |false=>
   have ht:strIterType x = "str_iterator" := by simp[strIterType,ha]
   rw[ht]at st;exact wpAny_pyNext_wide_end (I.ok.hd.1 hc) st hx fin
 self:=fun A i s Q E st h=>by
  cases ha:x.cps.all (·<128)with
  |true=>
   have ht:strIterType x = "str_ascii_iterator" := by simp[strIterType,ha]
   rw[ht]at st;exact wpAny_pyIter_striter_ascii st h
  |false=>
   have ht:strIterType x = "str_iterator" := by simp[strIterType,ha]
   rw[ht]at st;exact wpAny_pyIter_striter_wide st h
def F2{X:Cx}{tg l:Expr}{tl:TE}(hl:PE X l tl):PI X tg l (fun σ H R=>tl σ H fun y H1=>∃ x,y=.str x/\R (Itx x) H1):=by
 intro pins s σ H R I h;refine thn (hl pins s σ H _ I h) fun v s1 ⟨y,H1,I1,r1,x,e,q⟩=>?_;subst e;obtain⟨t,rfl⟩:=r1;refine wpAny_pyIter_strU ⟨s1.heap.objs.size,[s1.heap.objs.size],_,_,H1,rfl,I1.kept (t':=s1.toks) fun b o e=>Heap.get?_push_of_some _ e,AG x t _,⟨_,Heap.get?_push_size _ rfl,rfl,rfl⟩,fun b hb=>?_,q⟩;rw[show b=s1.heap.objs.size by simpa using hb];exact I1.kg (Nat.le_refl _) (I1.hok.fresh (Nat.le_refl _))
end L2
namespace RS
open PySem PySem.Spec PyProof.Rows L2
def y9{K:PySem.W.Frag}{H:Hp}{x:Str}{P:Addr->Prop}:gB K (Itx x) (x.cps.toList.map fun c=>RL.D.str ⟨#[c]⟩) P H where
 go:=fun H' i k hi=>by show i<x.cps.size;simpa using hi
 stop:=fun H' k=>by show x.cps.size<=_;simp
 yld:=fun H' i d v H2 k e y=>by
  obtain⟨z,c,h1,h2⟩:=y;subst z h2;refine⟨a5.refl _,fun _=>?_⟩
  have:d=.str ⟨#[c]⟩:=by
   rw[List.getElem?_map]at e;obtain⟨c',e1,e2⟩:=map_some e;rw[Array.getElem?_toList,h1]at e1;cases e1;exact e2.symm
  subst this;exact dW
def DI{X:Cx}{cl:RL.Cl}{tg a:Expr}{a':RL.E}(ha:SE X cl a a'):SI X cl tg a (.chr a'):=by
 refine PI.weak (F2 ha) fun σ H R h=>?_;obtain⟨σD,ds,rv,e,k⟩:=h;obtain⟨d,e1,e2⟩:=bind_some (show(RL.ev cl σD a').bind _=some ds from e);refine⟨σD,d,rv,e1,fun v H1 r1=>?_⟩
 cases d with
 |str x=>
  cases e2;exact⟨x,aD r1.rep,k _ _ r1.same ⟨y9,fun _ _ _ _ _=>y9⟩⟩
 | _=>cases e2
end RS
namespace L2
open PySem PySem.Spec PyProof.Rows
def BC{X:Cx}:PIp X .Add (fun x y H Q=>∃ a b,x=.str a/\y=.str b/\a.length+b.length<=sizeLine/\Q (.str (a++b)) H):=by
 intro pins s σ H x y v u Q I r1 r2 h;obtain⟨a,b,rfl,rfl,hz,q⟩:=h;obtain⟨t,rfl⟩:=r1;obtain⟨t',rfl⟩:=r2;exact SBL.iadd (fun t' k _=>⟨.str (a++b),H,I.tok _,⟨_,rfl⟩,q⟩) hz
end L2
namespace RS
open PySem PySem.Spec PyProof.Rows L2
section
open PySem.Builtin.Str
end
section
variable{X:Cx}{cl:RL.Cl}{a b:Expr}{a' b' e':RL.E}{pos p2:Pos}{M:List Nat}{st:Stmt}{i:Nat}
def Ct(h:PS X st (yZ i (tE X.K cl e') (fun x y H Q=>∃ a b,x=.str a/\y=.str b/\a.length+b.length<=sizeLine/\Q (.str (a++b)) H)))(hi:M.contains i=false):SS X cl M st (.augs i e'):=by
 refine PS.weak h fun D σ H h=>?_;obtain⟨σD,ou,σD',rv,e,k⟩:=h;obtain⟨x,e1,e⟩:=bind_some (show((σD[i]?).bind id).bind _=some (ou,σD')from e);obtain⟨y,e2,e⟩:=bind_some e;obtain⟨z,e3,e4⟩:=map_some e;cases e4
 cases x with
 |str a=>
  cases y with
  |str b=>
   have e3:(if a.length+b.length<=RL.most then some (RL.D.str (a++b))else none)=some z:=e3;by_cases c:a.length+b.length<=RL.most
   ·rw[if_pos c]at e3;cases e3;obtain⟨v,h1,h2⟩:=rv.val i _ (slot_get e1);rw[if_neg (by rw[hi];decide)]at h2;refine⟨v,h1,σD,.str b,rv.rv0,e2,fun u H1 r1=>⟨a,b,aD h2,aD r1.rep,Nat.le_trans c bU,?_⟩⟩;exact k _ _ ((rv.same r1.same).bind hi dW) (Fr'.bind hi r1.same)
   ·rw[if_neg c]at e3;cases e3
  | _=>cases e3
 | _=>cases e3
def BP{f r p w:Nat}(h:PS X st (nH (m5 (spM X.K cl [0] f) [] E0 (hZ (gF r) (hZ (gF p) (hZ (zR X.K "list" AH (gF w)) sN))))))(hr:M.contains r=true)(hp:M.contains p=false)(hw:M.contains w=true)(hrw:r≠w):SS X cl M st (.tie3 f r p w):=by
 refine PS.weak h fun D σ H h=>?_;obtain⟨σD,ou,σD',rv,e,k⟩:=h;obtain⟨R,e1,e⟩:=bind_some (show((σD[r]?).bind id).bind _=some (ou,σD')from e);obtain⟨x,e2,e⟩:=bind_some e;obtain⟨l,e3,e⟩:=bind_some e;obtain⟨q,e4,e⟩:=bind_some e
 have hpw:p≠w:=fun z=>by rw[z,hw]at hp;cases hp
 cases l with
 |lst ds=>
  obtain⟨d,e5,e6⟩:=map_some (show(ds[ds.length-1]?).map _=some q from e4);subst e6;by_cases im:x.imm=true
  ·rw[if_pos im]at e;obtain⟨c,e7,e8⟩:=bind_some e;obtain⟨v,h1,h2⟩:=rv.val r _ (slot_get e1);rw[if_pos hr]at h2;obtain⟨a,o,rfl,_,_⟩:=h2.ref;obtain⟨vp,p1,p2⟩:=rv.val p _ (slot_get e2);obtain⟨vw,w1,w2⟩:=rv.val w _ (slot_get e3);rw[if_pos hw]at w2;obtain⟨q1,q2,q3⟩:=w2;obtain⟨b,xs,rfl,_,f2,f3⟩:=aC q3;obtain⟨y,f4,f5⟩:=f3.get e5;have imd:=oj q2;obtain⟨g1,g2⟩:=rv.iC (d':=.lst ds.dropLast) (o':=.lst xs.dropLast) hw w1 f2 (.inl ⟨_,rfl⟩) (ot (ds:=ds) f2 imd f3.dropLast);have hdi:d.imm=true:=yk q2 e5;have rd:∀ P:Addr->Prop,Rep P X.K (upd H b (.lst xs.dropLast)) d y:=fun P=>Rep.imm hdi (Rep.upd (P:=fun p=>p=b) f2 (.inl ⟨_,rfl⟩) rfl (f5.imm hdi));refine⟨.ref a,h1,vp,p1,.ref b,w1,.inl ⟨rfl,xs,SqL.of f2⟩,b,xs,y,rfl,rfl,f2,by rw[<-f3.length];exact f4,?_⟩;show spM X.K cl [0] f ([.ref a,vp,y]++[]) (upd H b (.lst xs.dropLast)) _ E0;rw[List.append_nil]
   have er:(σD.set w (some (RL.D.lst ds.dropLast)))[r]?=some (some R):=by rw[List.getElem?_set_ne (Ne.symm hrw)];exact slot_get e1
   have ep:(σD.set w (some (RL.D.lst ds.dropLast)))[p]?=some (some x):=by rw[List.getElem?_set_ne (Ne.symm hpw)];exact slot_get e2
   obtain⟨v',z1,z2⟩:=g1.val r _ er;rw[h1]at z1;cases z1;rw[if_pos hr]at z2;obtain⟨v',z3,z4⟩:=g1.val p _ ep;rw[p1]at z3;cases z3;rw[if_neg (by rw[hp];decide)]at z4
   cases c with
   |tup ts=>
    match ts,e8,e7 with
    |[d0,R'],e8,e7=>
     cases e8
     have at0:∀ c,mAt [0] [V.ref a,vp,y] c->c=a:=fun c ⟨p,hp,e⟩=>by
      rw[List.mem_singleton]at hp;subst hp;cases e;rfl
     refine⟨[R,x,d],d0,[R'],e7,⟨ae.cons z2.2.2 (ae.cons z4.none (ae.cons (rd nP) ae.nil)),fun p hp=>?_,fun p hp q hq _ _ _=>?_,fun q dq v hq h3 h4=>?_⟩,fun v H' off rp im' mo=>?_⟩
     ·rw[List.mem_singleton]at hp;subst hp;exact⟨R,a,rfl,rfl,z2⟩
     ·rw[List.mem_singleton]at hp hq;rw[hp,hq]
     ·match q,hq,h3,h4 with
      | 0,hq,_,_=>exact absurd (List.mem_singleton.mpr rfl) hq
      |1,_,h3,h4=>
       cases h3;cases h4
       exact z4.weak fun c hc=>by
        rw[at0 c hc];exact⟨r,hr,h1⟩
      |2,_,h3,h4=>
       cases h3;cases h4;exact rd _
     ·obtain⟨k1,k2⟩:=g1.changed (ms:=[r]) (outs:=[R']) (H1:=H') (fun i hi=>by rw[List.mem_singleton.mp hi];exact hr) (by simp) rfl
       (fun c o n e=>off c o (fun z=>n ⟨r,List.mem_singleton.mpr rfl,by rw[at0 c z];exact h1⟩) e) fun k i o hk ho=>by
        match k,hk,ho with
        |0,hk,ho=>
         cases hk;cases ho;obtain⟨c,c1,c2⟩:=mo.own 0 0 _ rfl rfl;cases c1;exact⟨a,h1,c2⟩
      exact k _ _ k1 (g2.trans k2)
    | [],e8,_=>cases e8
    | [_],e8,_=>cases e8
    | _::_::_::_,e8,_=>cases e8
   | _=>cases e8
  ·rw[if_neg im]at e;cases e
 | _=>cases e4
end
section
variable{X:Cx}{cl:RL.Cl}{a b c d:Expr}{a' b' c' d':RL.E}{pos apos p p2 p3:Pos}
end
section
open PySem.W
variable{prog:Program}{w:World}{A:Around}{E:Value->Shared->Prop}{s:Shared}
def pK:∀ (f n r:Nat),minRun' f n r<=n+r
 | 0,n,r=>Nat.le_refl _
 | f+1,n,r=>by
  rw[minRun'_succ];split
  ·exact Nat.le_refl _
  ·have h:=pK f (n / 2) (max r (n%2));lia
def xR{κ:SortKind}{it:Array Keyed}{n:Nat}(hc:∀ i,1<=i->i<n->∀ C:Bool->Shared->Prop,C false s->kas_cmp prog w A κ it i (i-1) C s) :
  ∀ (f k:Nat),1<=k->k+f<=n->(kas_asc (List.toArray (List.range n)) f k).kasWp (kas_cmp prog w A κ it) (fun m s'=>m=k+f/\s'=s) s
 | 0,k,_,_=>⟨rfl,rfl⟩
 | f+1,k,h1,h2=>by
  have e1:(List.toArray (List.range n)).getD k 0=k:=by simp[Array.getD];lia
  have e2:(List.toArray (List.range n)).getD (k-1) 0=k-1:=by simp[Array.getD];lia
  show kas_cmp prog w A κ it ((List.toArray (List.range n)).getD k 0) ((List.toArray (List.range n)).getD (k-1) 0) _ s;rw[e1,e2];refine hc k h1 (by lia) _ ?_;have h:=xR hc f (k+1) (by lia) (by lia);rw[show k+1+f=k+(f+1) by lia]at h;exact h
def Ai{κ:SortKind}{it:Array Keyed}{n:Nat}{Q:Unit->SortSt->Shared->Prop}(h2:2<=n)(hc:∀ i,1<=i->i<n->∀ C:Bool->Shared->Prop,C false s->kas_cmp prog w A κ it i (i-1) C s)
 (hQ:∀ st,arrOf st=(List.toArray (List.range n)).map (kas_item it)->failedOf st=none->Q () st s):kasC (model prog w) A E sortRuns' Q (kas_st κ it (List.toArray (List.range n))) s:=by
 obtain⟨r,rfl⟩:∃ r,n=r+2:=⟨n-2,by lia⟩
 have hrs:(List.toArray (List.range (r+2))).size=r+2:=by simp
 have hsz:(arrOf (kas_st κ it (List.toArray (List.range (r+2))))).size=r+2:=by
  show((List.toArray (List.range (r+2))).map (kas_item it)).size=_;rw[Array.size_map,hrs]
 have hmr:=pK (r+2) (r+2) 0;rw[sortRuns'_eq];refine kasC_bind (kasC_get ?_);dsimp only;simp only[hsz];generalize hM:minRun' (r+2) (r+2) 0=M at hmr ⊢;refine kasC_bind (kasC_range ?_);show kasC _ _ _ (forIn (0::1::List.range' 2 r) _ _) _ _ _;refine kasC_cons ?_;dsimp only;rw[if_neg (by lia)];simp only[Nat.sub_zero,Nat.zero_add]
 have ask:(kas_count (r+2) (List.toArray (List.range (r+2)))).kasWp (kas_cmp prog w A κ it) (fun q s'=>(q.1=r+2/\q.2=List.toArray (List.range (r+2)))/\s'=s) s:=by
  unfold kas_count;rw[KasT.kasWp_bind];refine kas_wp_mono (xR hc (r+2-1) 1 (Nat.le_refl 1) (by lia)) fun m s' hm=>?_;obtain⟨rfl,rfl⟩:=hm;rw[if_pos (by simp;lia)];exact⟨⟨by show 1+(r+2-1)=_;lia,rfl⟩,rfl⟩
 refine kasC_bind (kas_count_ (by lia) (by rw[hrs];exact Nat.le_refl _) (fun m p' s' _ _ _ hg=>?_) ask);obtain⟨⟨e1,e2⟩,e3⟩:=hg;dsimp only at e1 e2;subst e1 e2 e3;dsimp only;rw[if_neg (by lia)];refine kasC_bind (kasC_get ?_);rw[show(pendingOf (kas_st κ it (List.toArray (List.range (r+2))))).back?=none from rfl];dsimp only;refine kasC_bind (kasC_modify (kasC_pure ?_));show kasC _ _ _ (forIn (1::List.range' 2 r) _ _) _ _ _;refine kasC_cons ?_;dsimp only;rw[if_pos (Nat.le_refl _)];refine kasC_pure ?_;dsimp only;refine kasC_bind (kasC_range ?_);show kasC _ _ _ (forIn (0::1::List.range' 2 r) _ _) _ _ _;refine kasC_cons (kasC_bind (kasC_get ?_));rw[if_pos (show(pendingOf (setPending (kas_st κ it (List.toArray (List.range (r+2)))) ((pendingOf (kas_st κ it (List.toArray (List.range (r+2))))).push (0,r+2,0)))).size<=1 from Nat.le_refl 1)];refine kasC_pure ?_;dsimp only;exact kasC_pure (hQ _ rfl rfl)
variable{vs:List Value}{xs:List Str}
def se(rv:Vals (xs.map V.str) vs)(h:xs[i]?=some x):∃ t,vs.getD i Value.none=.str x t:=by
 obtain⟨u,h1,t,rfl⟩:=rv.get (i:=i) (x:=.str x) (by simp[h]);exact⟨t,by simp[List.getD,h1]⟩
abbrev vD(xs:List Str):Prop:=∀ (i:Nat) (a b:Str),xs[i]?=some a->xs[i+1]?=some b->¬ b.cps.toList<a.cps.toList
def pY{a:Addr}{n:Nat}{P:PySem.Fin->Shared->Prop}(ho:s.heap.get? a=some (seqObj "list" vs.toArray n))(rv:Vals (xs.map V.str) vs)(asc:vD xs)(hz:vs.length<=sizeLine)
 (h:P (.done (.ret .none)) { s with heap:=sortedHeap s.heap a vs vs.toArray }):wpAny (model prog w) A (Builtin.«list.sort» ⟨[.ref a],[]⟩) P E s:=by
 have hlen:xs.length=vs.length:=by simpa using rv.length
 obtain⟨e1,ho1⟩:∃ e1,(s.heap.update a (Obj.mapSeq fun _=>(#[]:Array Value))).get? a=some (seqObj "list" #[] e1):=⟨_,get?_update_seq ho fun _=>#[]⟩
 have hlt:a<s.heap.objs.size:=Heap.lt_size ho;have ho3:(((s.heap.update a (Obj.mapSeq fun _=>(#[]:Array Value))).push (seqObj "tuple" vs.toArray 0)).push (seqObj "list" #[] 0)).get? a=some (seqObj "list" #[] e1):=Heap.get?_push_of_some _ (Heap.get?_push_of_some _ ho1)
 have fin:∀ st:SortSt,(arrOf st).map (·.2)=vs.toArray->failedOf st=none->wpAny (model prog w) A (do
   let sorted:=(arrOf st).map (·.2)
   let touched:=(<- seqEpoch a) != e1
   Builtin.List.listUpdate (.ref a) fun _=>sorted
   if let some e:=failedOf st then do rule "list.sort.comparison-raised";throw e
   if touched then do rule "list.sort.modified";raiseError "ValueError" "list modified during sort"
   ret .none) P E { s with heap:=((s.heap.update a (Obj.mapSeq fun _=>(#[]:Array Value))).push (seqObj "tuple" vs.toArray 0)).push (seqObj "list" #[] 0) }:=fun st hs hf=>by
  dsimp only;rw[hs,hf];refine wpAny_bind (seqEpoch_at ho3 rfl (wpAny_bind (listUpdate_at ho3 rfl ?_ (Nat.zero_le _) (by rw[List.size_toArray];lia))));simp only[bne_self_eq_false,Bool.false_eq_true,if_false];exact wpAny_pure h
 rw[list_sort_plain];refine wpAny_bind (listItems_at ho rfl (wpAny_bind (listUpdate_at ho rfl ?_ (by rw[List.size_toArray];exact hz) (Nat.zero_le _))));refine wpAny_bind (seqEpoch_at ho1 rfl (wpAny_bind (wpAny_newTuple ?_ (by show vs.length<=_;exact hz))));refine wpAny_bind (wpAny_newList (wpAny_holding ?_) (Nat.zero_le _));show wpAny (model prog w) A _ P E { s with heap:=((s.heap.update a (Obj.mapSeq fun _=>(#[]:Array Value))).push (seqObj "tuple" vs.toArray 0)).push (seqObj "list" #[] 0) };dsimp only
 have sn:∀ k:SortKind,(arrOf (SortSt.mk' k (vs.toArray.zip vs.toArray) #[] 7 none)).map (·.2)=vs.toArray:=fun k=>by
  show(vs.toArray.zip vs.toArray).map (·.2)=_;apply Array.toList_inj.mp;simp only[Array.toList_map,Array.toList_zip];exact List.map_snd_zip (Nat.le_refl _)
 by_cases hn:vs.length<2
 ·have hn':vs.toArray.size<2:=by simpa using hn
  rw[if_pos hn',if_pos hn'];exact wpAny_bind (wpAny_pure (wpAny_bind (wpAny_pure (fin _ (sn _) rfl))))
 ·have hn':¬ vs.toArray.size<2:=by simpa using hn
  rw[if_neg hn',if_neg hn'];refine wpAny_bind (kas_kind (T:=.type "str") (by lia) (fun v hv=>?_) rfl rfl ?_)
  ·obtain⟨j,hj,rfl⟩:=List.mem_iff_getElem.mp hv;obtain⟨t,e⟩:=se (i:=j) (x:=xs[j]'(by lia)) rv (by simp)
   have:vs.getD j Value.none=vs[j]:=by simp[List.getD,hj]
   rw[<-this,e];exact .of_pure rfl
  ·have est:SortSt.mk' oneType' (vs.toArray.zip vs.toArray) #[] 7 none=kas_st oneType' (pairsOf vs) (List.toArray (List.range vs.length)):=by
    have e:=kas_range (pairsOf vs);rw[pairsOf_size]at e;unfold kas_st;rw[e];rfl
   rw[est];refine wpAny_bind (wpAny_mono (Ai (E:=E) (Q:=fun _ st s'=>(arrOf st=(List.toArray (List.range vs.length)).map (kas_item (pairsOf vs))/\failedOf st=none)/\s'={ s with heap:=((s.heap.update a (Obj.mapSeq fun _=>(#[]:Array Value))).push (seqObj "tuple" vs.toArray 0)).push (seqObj "list" #[] 0) }) (by lia) (fun i h1 hi C hC=>?_) fun st e1 e2=>⟨⟨e1,e2⟩,rfl⟩) ?_ fun _ _ e=>e)
   ·have hb:i-1+1=i:=by lia
    obtain⟨t,e⟩:=se (i:=i) (x:=xs[i]'(by lia)) rv (by simp);obtain⟨t',e'⟩:=se (i:=i-1) (x:=xs[i-1]'(by lia)) rv (by simp);rw[<-kas_ask_eq];unfold kas_ask;rw[e,e'];refine kas_lt_str ?_;rw[decide_eq_false (asc (i-1) _ _ (by simp) (by rw[hb];simp))];exact hC
   ·rintro⟨⟨⟩,st⟩ s' ⟨⟨e1,e2⟩,rfl⟩;refine fin st ?_ e2;have e:=kas_range (pairsOf vs);rw[pairsOf_size]at e;rw[e1,e];exact sn oneType'
def vH{l:Addr}{Q:Value->Shared->Prop}(hl:s.heap.IsList l vs.toArray)(rv:Vals (xs.map V.str) vs)(asc:vD xs)(hz:vs.length<=sizeLine)
 (h:Q (.ref (s.heap.objs.size+1)) { s with heap:=sortedAll s.heap vs vs.toArray }):wpAny (model prog w) A (call (.builtin "sorted") [.ref l]) Q E s:=by
 have hsz:((s.heap.push (seqObj "list" #[] 0)).update s.heap.objs.size (Obj.mapSeq (· ++ vs.toArray))).objs.size=s.heap.objs.size+1:=by rw[Heap.size_update,size_push']
 have hoL:(((s.heap.push (seqObj "list" #[] 0)).update s.heap.objs.size (Obj.mapSeq (· ++ vs.toArray))).push (seqObj "list" vs.toArray 0)).get? (s.heap.objs.size+1)=some (seqObj "list" vs.toArray 0):=by
  rw[<-hsz];exact Heap.get?_push_size _ rfl
 refine Calls.call_function_entry kind_sorted plain_sorted entry_sorted (args_sorted1 _) ?_;unfold Builtin.«sorted»;refine wpAny_bind (m:=checkCount "sorted" 1 1 _) (wpAny_pure (wpAny_bind (collect_list hl (wpAny_bind (wpAny_newList ?_ hz)) hz)));show wpAny _ _ _ _ _ { s with heap:=((s.heap.push (seqObj "list" #[] 0)).update s.heap.objs.size (Obj.mapSeq (· ++ vs.toArray))).push (seqObj "list" vs.toArray 0) };rw[hsz];exact wpAny_bind (wpAny_holding (wpAny_call_entry slot_list_sort ⟨_,hoL,rfl⟩ entry_list_sort (pY hoL rv asc hz ⟨_,rfl,wpAny_pure ⟨_,rfl,h⟩⟩) (args_list_sort _)))
end
variable{X:Cx}
def sS:bF X (.builtin "sorted") (fun xs H Q=>∃ (p:Addr) (ts:List Str),xs=[.ref p]/\H p=some (.lst (ts.map V.str))/\vD ts/\∀ l,H l=none->Q (.ref l) (upd H l (.lst (ts.map V.str)))):=by
 intro pins s σ H xs us Q I r h;obtain⟨p,ts,rfl,hp,asc,q⟩:=h
 cases r with
 |cons r rr=>
  cases rr;cases r;obtain⟨its,rv,hl,hz⟩:=I.list (SqL.of hp)
  have hz':its.length<=sizeLine:=by rw[<-rv.length];simpa using hz
  refine vH hl.isList rv asc hz' ?_;obtain⟨en,he⟩:=sortedAll_at s.heap its its.toArray;refine⟨.ref (s.heap.objs.size+1),_,I.laid (t':=s.toks) (o:=.lst (ts.map V.str)) (fun b ob q=>sortedAll_old q) (by lia) ?_,rfl,q _ (I.hok.fresh (by lia))⟩;exact⟨by simpa using hz,its,en,rv,he⟩
section
variable{K:PySem.W.Frag}
def RVm.G1(h:RVm K N1 σD σ H)(sub:∀ i,N2.contains i=true->N1.contains i=true):RVm K N2 σD σ H where
 len:=h.len
 val:=fun i d e=>by
  obtain⟨v,h1,h2⟩:=h.val i d e;refine⟨v,h1,?_⟩;by_cases hm:N2.contains i=true
  ·rw[if_pos hm];rw[if_pos (sub i hm)]at h2;exact h2
  ·rw[if_neg hm];by_cases hn:N1.contains i=true
   ·rw[if_pos hn]at h2;obtain⟨a,o,rfl,_,_⟩:=h2.ref;have np:¬ aV N2 σ a:=fun⟨k,hk,ek⟩=>hm ((h.sep i k a hn (sub k hk) h1 ek)▸hk);obtain⟨q1,q2,q3⟩:=h2
    cases d with
    | lst ds=>obtain⟨b,xs,e1,e0,e2,e3⟩:=aC q3;cases e1;rw[Rep];exact⟨a,xs,rfl,np,e2,e3.imm q2⟩
    | dK ks ds=>rw[Rep]at q3 ⊢;obtain⟨b,xs,e1,e0,e2,el,e3⟩:=q3;cases e1;exact⟨a,xs,rfl,np,e2,el,e3.imm q2⟩
    | dT ks ds=>rw[Rep]at q3 ⊢;obtain⟨b,xs,e1,e0,e2,el,e3⟩:=q3;cases e1;exact⟨a,xs,rfl,np,e2,el,e3.imm q2⟩
    | _=>cases q1
   ·rw[if_neg hn]at h2
    exact h2.weak fun b ⟨k,hk,ek⟩=>⟨k,sub k hk,ek⟩
 non:=h.non
 sep:=fun i j a hi hj=>h.sep i j a (sub i hi) (sub j hj)
def dG{M:List Nat}{i j:Nat}(h:(j::M).contains i=true):i=j\/M.contains i=true:=by simpa using h
def gE{M:List Nat}{j:Nat}:(j::M).contains j=true:=by simp
def cL{M:List Nat}{i j:Nat}(h:M.contains i=true):(j::M).contains i=true:=by simp at h ⊢;exact .inr h
def RVm.open(h:RVm K M σD σ H)(s:a5 H H1)(ha:H a=none)(r:Own K H1 d (.ref a)):RVm K (i::M) (σD.set i (some d)) (σ.set i (some (.ref a))) H1 /\
  ∀ b,aV (i::M) (σ.set i (some (.ref a))) b->aV M σ b\/b=a:=by
 have sub:∀ b,aV (i::M) (σ.set i (some (.ref a))) b->aV M σ b\/b=a:=fun b ⟨j,hj,e⟩=>by
  by_cases hji:j=i
  ·subst hji
   have hlt:j<σ.length:=by simpa using(List.getElem?_eq_some_iff.mp e).1
   rw[List.getElem?_set_self hlt]at e;cases e;exact .inr rfl
  ·rw[List.getElem?_set_ne (Ne.symm hji)]at e;exact .inl ⟨j,(dG hj).resolve_left hji,e⟩
 have old:∀ b,aV M σ b->b≠a:=fun b p z=>h.oM b p (z▸ha);refine⟨⟨by simpa using h.len,fun j dj e=>?_,fun j w e=>?_,fun j k b hj hk e1 e2=>?_⟩,sub⟩
 ·by_cases hj:j=i
  ·subst hj
   have hlt:j<σD.length:=by simpa using(List.getElem?_eq_some_iff.mp e).1
   rw[List.getElem?_set_self hlt]at e;cases e;refine⟨.ref a,by rw[List.getElem?_set_self (by rw[<-h.len];exact hlt)],?_⟩;rw[if_pos gE];exact r
  ·rw[List.getElem?_set_ne (Ne.symm hj)]at e ⊢;obtain⟨v,h1,h2⟩:=h.val j dj e;refine⟨v,h1,?_⟩;by_cases hm:M.contains j=true
   ·rw[if_pos (cL hm)];rw[if_pos hm]at h2;exact h2.same s
   ·rw[if_neg fun z=>hm ((dG z).resolve_left hj)];rw[if_neg hm]at h2;exact((h2.d9 ha).weak sub).same s
 ·by_cases hj:j=i
  ·subst hj
   have hlt:j<σ.length:=by simpa using(List.getElem?_eq_some_iff.mp e).1
   exact⟨d,by rw[List.getElem?_set_self (by rw[h.len];exact hlt)]⟩
  ·rw[List.getElem?_set_ne (Ne.symm hj)]at e ⊢;exact h.non j w e
 ·by_cases h1:j=i
  ·by_cases h2:k=i
   ·rw[h1,h2]
   ·subst h1
    have hlt:j<σ.length:=by simpa using(List.getElem?_eq_some_iff.mp e1).1
    rw[List.getElem?_set_self hlt]at e1;rw[List.getElem?_set_ne (Ne.symm h2)]at e2;cases e1;exact absurd rfl (old _ ⟨k,(dG hk).resolve_left h2,e2⟩)
  ·rw[List.getElem?_set_ne (Ne.symm h1)]at e1;by_cases h2:k=i
   ·subst h2
    have hlt:k<σ.length:=by simpa using(List.getElem?_eq_some_iff.mp e2).1
    rw[List.getElem?_set_self hlt]at e2;cases e2;exact absurd rfl (old _ ⟨j,(dG hj).resolve_left h1,e1⟩)
   ·rw[List.getElem?_set_ne (Ne.symm h2)]at e2;exact h.sep j k b ((dG hj).resolve_left h1) ((dG hk).resolve_left h2) e1 e2
end
abbrev FrX(M N1:List Nat)(σ0:L2.St)(H0:Hp)(σ:L2.St)(H:Hp):Prop:=(∀ b o,H0 b=some o->¬ aV M σ0 b->H b=some o/\¬ aV N1 σ b)/\∀ j,2<=M.count j->σ[j]?=σ0[j]?
abbrev tQ(K:PySem.W.Frag)(M N1:List Nat)(f:RL.St->Option (RL.Out × RL.St)):TS:=fun D σ H=>∃ σ0 H0 σD r σD',RVm K N1 σD σ H/\FrX M N1 σ0 H0 σ H/\f σD=some (r,σD')/\sZ K M D σ0 H0 r σD'
abbrev SQ(X:Cx)(cl:RL.Cl)(M N1:List Nat)(st:List Stmt)(s:RL.Sq):Prop:=PSs X st (tQ X.K M N1 (RL.kj cl M N1 s))
section
variable{X:Cx}{M N1:List Nat}{st:Stmt}{sts:List Stmt}{j:Nat}
def D7(h:SSs X cl M sts r)(sub:∀ i,M.contains i=true->N1.contains i=true):SQ X cl M N1 sts (.cls r):=by
 refine PSs.weak h fun D σ H h=>?_;obtain⟨σ0,H0,σD,o,σD',rv,fr,e,k⟩:=h;exact⟨σD,o,σD',rv.G1 sub,e,k.from ⟨fun b u eb n=>⟨(fr.1 b u eb n).1,fun⟨j,hj,ej⟩=>(fr.1 b u eb n).2 ⟨j,sub j hj,ej⟩⟩,fr.2⟩⟩
def CN(h1:SS X cl N1 st s)(h2:SQ X cl M N1 sts r)(cnt:∀ j,2<=M.count j->2<=N1.count j):SQ X cl M N1 (st::sts) (.cons s r):=by
 refine PSs.weak (iR h1 h2) fun D σ H h=>?_;obtain⟨σ0,H0,σD,o,σD',rv,fr,e,k⟩:=h;obtain⟨p,e1,e2⟩:=bind_some e;obtain⟨o1,σ1⟩:=p
 cases o1 with
 | rt d=>cases e2
 | nx=>exact⟨σD,.nx,σ1,rv,e1,fun σ' H' rv' fr'=>⟨σ0,H0,σ1,o,σD',rv',⟨fun b u eb n=>fr'.1 b u (fr.1 b u eb n).1 (fr.1 b u eb n).2,fun j hj=>(fr'.2 j (cnt j hj)).trans (fr.2 j hj)⟩,e2,k⟩⟩
def tP{K:PySem.W.Frag}(rv:RVm K N1 σD σ H)(fr:FrX M N1 σ0 H0 σ H)(hj:M.count j<2)(ok:(RL.a8 d&&RL.aE e')=true)(r1:Res K σD σ H e' d v H1):RVm K (j::N1) (σD.set j (some d)) (σ.set j (some v)) H1/\FrX M (j::N1) σ0 H0 (σ.set j (some v)) H1:=by
 rw[Bool.and_eq_true]at ok
 have m:j2 d=true:=by
  cases d with
  | lst _=>rfl
  | dK _ _=>rfl
  | dT _ _=>rfl
  | _=>cases ok.1
 have ow:Own K H1 d v:=⟨m,ok.1,r1.rep⟩
 obtain⟨a,ob,rfl,_,_⟩:=ow.ref;have hn:=r1.fresh ok.2 m a rfl;obtain⟨g1,g2⟩:=rv.open (i:=j) r1.same hn ow;refine⟨g1,fun b u eb n=>⟨r1.same _ _ (fr.1 b u eb n).1,fun z=>(g2 b z).elim (fr.1 b u eb n).2 fun q=>aI (fr.1 b u eb n).1 hn q⟩,fun k hk=>?_⟩;rw[List.getElem?_set_ne (fun z=>by subst z;lia)];exact fr.2 k hk
def E2(h:SA X cl st j e')(hj:M.count j<2)(h2:SQ X cl M (j::N1) sts r):SQ X cl M N1 (st::sts) (.opn j e' r):=by
 refine PSs.weak (iR h h2) fun D σ H h=>?_;obtain⟨σ0,H0,σD,o,σD',rv,fr,e,k⟩:=h;obtain⟨d,e1,e2⟩:=bind_some e;split at e2
 ·rename_i ok;refine⟨σD,d,rv.rv0,e1,fun v H1 r1=>?_⟩;obtain⟨g1,g2⟩:=tP rv fr hj ok r1;exact⟨σ0,H0,_,o,σD',g1,g2,e2,k⟩
 ·cases e2
def Cf(h:SA X cl st j e')(hj:M.contains j=false)(h2:SQ X cl M (j::M) sts r):SSs X cl M (st::sts) (.opn j e' r):=by
 refine PSs.weak (iR h h2) fun D σ H h=>?_;obtain⟨σD,o,σD',rv,e,k⟩:=h;obtain⟨d,e1,e2⟩:=bind_some e;split at e2
 ·rename_i ok;refine⟨σD,d,rv.rv0,e1,fun v H1 r1=>?_⟩
  have c0:M.count j<2:=by
   have:M.count j=0:=List.count_eq_zero.mpr (by simpa using hj);lia
  obtain⟨g1,g2⟩:=tP (M:=M) (σ0:=σ) (H0:=H) rv ⟨fun b u eb n=>⟨eb,n⟩,fun _ _=>rfl⟩ c0 ok r1;exact⟨σ,H,_,o,σD',g1,g2,e2,k⟩
 ·cases e2
end
section
variable{X:Cx}
variable{M:List Nat}{st:Stmt}{i:Nat}{cl:RL.Cl}
def ui{P:Addr->Prop}{K:PySem.W.Frag}:∀ {ds:List RL.D} {ss:List Str} {xs:List V},RL.strs? ds=some ss->ae P K H ds xs->xs=ss.map V.str
 | [],ss,xs,h,r=>by cases h;rw[ae]at r;exact r
 | .str y::ds,ss,xs,h,r=>by
  obtain⟨ys,h1,h2⟩:=map_some (show(RL.strs? ds).map _=some ss from h);subst h2;rw[ae]at r;obtain⟨x,t,rfl,r1,r2⟩:=r;rw[aD r1,ui h1 r2];rfl
def yE:∀ {xs:List Str},RL.rF xs=true->vD xs
 | [],_,i,a,b,h,_=>by simp at h
 | [_],_,i,a,b,_,h=>by simp at h
 | x::y::r,z,i,a,b,h1,h2=>by
  rw[RL.rF,Bool.and_eq_true]at z
  cases i with
  | zero=>simp at h1 h2;subst h1 h2;simpa using z.1
  | succ i=>exact yE z.2 i a b (by simpa using h1) (by simpa using h2)
def vU{a:Expr}{a':RL.E}{p pos:Pos}(hg:Gl X "sorted")(hm:X.mg "sorted" = none)(ha:SE X cl a a')(hn:noStar a=true):SE X cl (.Call (.Name "sorted" p) [a] [] pos) (.bi .sortedS a'):=by
 refine jD sS hg hm (by decide +kernel) ha hn (by decide) (by decide) fun σD σ H H1 y d v Q e s1 r1 k=>?_
 cases y<;>first | (cases e;done) | skip
 case lst ds =>
  rw[RL.HV]at e;obtain⟨ss,e1,e2⟩:=bind_some e;split at e2
  ·rename_i asc;cases e2;obtain⟨q,xs,rfl,_,f2,f3⟩:=aC r1;have hx:=ui e1 f3;rw[hx]at f2 f3;exact⟨q,ss,rfl,f2,yE asc,fun l hl=>k _ _ (dZ s1 hl f3 fun _=>rfl)⟩
  ·cases e2
end
section
variable{bt:Bool}{t:SetTable}{m:Nat}
end
section
variable{prog:Program}{w:World}{A:Around}{E:Value->Shared->Prop}{s:Shared}
end
section
variable{prog:Program}{w:World}{A:Around}{E:Value->Shared->Prop}{s:Shared}
variable{R:Result->Shared->Prop}{I:Addr}{fp wr:List Addr}{G:Array GenState->Array GenState->Prop}{n:Nat}{P:Nat->Value->Prop}{St:Nat->Shared->Prop}
end
section
variable{prog:Program}{w:World}{A:Around}{E:Value->Shared->Prop}{s:Shared}{S I:Addr}{o:Obj}{es:Array (Int × Value)}{ep m i j:Nat}{t:SetTable}
end
section
variable{prog:Program}{w:World}{A:Around}{E:Value->Shared->Prop}{s:Shared}{S I:Addr}{o:Obj}{es:Array (Int × Value)}{ep m i j:Nat}{t:SetTable}
end
section
variable{X:Cx}
end
open Sem (wp)
section
variable{prog:Program}{w:World}{A:Around}{E:Value->Shared->Prop}{s:Shared}{it d:Addr}{es:Array DictEntry}{ep i:Nat}
abbrev nV(h:Heap)(d:Addr)(es:Array DictEntry)(ep:Nat):Prop:=∃ o,h.get? d=some o/\o.ExactDict/\o.data=.dict es ep
def nV.typeIs(x:nV s.heap d es ep):s.TypeIs (.ref d) "dict" := let ⟨o,ho,hc,_⟩:=x;⟨o,ho,hc.1⟩
def zW{Q:Value->Shared->Prop}(hd:(d == sysModules)=false)(hm:nV s.heap d es ep)
 (hQ:Q (.ref s.heap.objs.size) { s with heap:=s.heap.push { cls:=.type "dict_keyiterator",data:=.fields #[.ref d,.int 0 0,.int es.size 0,.int ep 0] } }) :
  wpAny (model prog w) A (pyIter (.ref d)) Q E s:=by
 obtain⟨o,ho,hc,hdat⟩:=id hm;have hT:=hm.typeIs;refine wpAny_pyIter_slot hT F.slot_dict_iter (wpAny_call_entry F.slot_dict_iter hT F.entry_dict_iter ?_ (F.args_dict_iter_1 _));unfold Builtin.«dict.__iter__» Builtin.Dict.dictSlotNone;refine wpAny_bind (wpAny_bind (wpAny_notOrdered_dict hT (wpAny_pure ?_)));show wpAny _ _ (Builtin.Dict.showsAll d >>= _) _ _ s;unfold Builtin.Dict.showsAll;rw[if_neg (by rw[hd];exact Bool.false_ne_true)];refine wpAny_bind (wpAny_pure (wpAny_bind (wpAny_dictEntries ho hdat (wpAny_bind (wpAny_dictEpoch ho hdat ?_)))));exact wpAny_bind (wpAny_newObj_type (wpAny_pure ⟨_,rfl, "dict_keyiterator",_,⟨_,Heap.get?_push_size _ rfl,rfl⟩,F.slot_dict_keyiterator_next.lookup,by simpa[rawInt]using hQ⟩))
def A6{Q:Option Value->Shared->Prop}(hit:s.heap.IsKeyIter it d i es.size ep)(hm:nV s.heap d es ep){e:DictEntry}(hx:es[i]?=some e)
 (hQ:∀ h',h'.IsKeyIter it d (i+1) es.size ep->Heap.SameBut it s.heap h'->Q (some e.key) { s with heap:=h' }) :
  wpAny (model prog w) A (pyNext (.ref it)) Q E s:=by
 obtain⟨o,ho,hc,hd⟩:=id hit;obtain⟨od,hod,hcd,hdd⟩:=id hm;unfold pyNext
 refine wpAny_bind (wpAny_attempt (wpAny_callSpecial?_slot (name:=Str.ofString "__next__") hit.typeIs F.slot_dict_keyiterator_next
  (wpAny_call_entry F.slot_dict_keyiterator_next hit.typeIs F.entry_dict_keyiterator_next ?_ (F.args_dict_keyiterator_next_1 _))))
 refine wpAny_bind (wpAny_pure (wpAny_bind (wpAny_bind ?_)))
 first | refine wpAny_bind (wpAny_typeNameOfWhole_keyiter hit.typeIs (wpAny_pure ?_)) | refine wpAny_bind (wpAny_typeNameOf_keyiter hit.typeIs (wpAny_pure ?_))
 refine wpAny_bind (wpAny_fieldsOf ho hd ?_)
 have hown:Builtin.Dict_items.ownsTuple "dict_keyiterator" = false:=by decide
 simp only[hown,Bool.false_eq_true,if_false];show wpAny _ _ (if(Value.ref d == Value.none)=true then _ else _) _ _ s;rw[if_neg (show ¬ ((Value.ref d == Value.none)=true)from Bool.false_ne_true)];refine wpAny_bind (wpAny_pure (wpAny_bind (wpAny_dictEntries hod hdd ?_)));rw[if_neg (by simp)];refine wpAny_bind (wpAny_pure (wpAny_bind (wpAny_dictEpoch hod hdd ?_)));rw[if_neg (by simp)];refine wpAny_pure ?_;simp only[show ¬ ((i:Int)<0)from by omega,if_false,Int.toNat_natCast,hx];refine wpAny_bind ?_
 first | refine wpAny_bind (wpAny_typeNameOfWhole_keyiter hit.typeIs (wpAny_pure ?_)) | refine wpAny_bind (wpAny_typeNameOf_keyiter hit.typeIs (wpAny_pure ?_))
 refine wpAny_bind (wpAny_isOneOf_keyiter hit.typeIs ?_);show wpAny _ _ (setField (.ref it) 1 (rawInt ((i:Int)+1)) >>= _) _ _ s;refine wpAny_bind (wpAny_setField ho hd (by simp) ?_)
 have hit':(s.heap.update it (Obj.mapFields (·.setIfInBounds 1 (rawInt ((i:Int)+1))))).IsKeyIter it d (i+1) es.size ep :=
  ⟨_,Heap.get?_update_self _ ho (Obj.isFreed_of_fields (Obj.data_mapFields hd _)),(Obj.cls_mapFields ..).trans hc,by rw[Obj.data_mapFields hd];simp[rawInt]⟩
 refine wpAny_bind (wpAny_holding ?_);refine wpAny_bind (wpAny_isOneOf_keyiter (s:={ s with heap:=s.heap.update it (Obj.mapFields (·.setIfInBounds 1 (rawInt ((i:Int)+1)))) }) hit'.typeIs ?_);show wpAny _ _ (pure e.key) _ _ _;exact wpAny_pure (wpAny_pure ⟨_,rfl,wpAny_pure (hQ _ hit' (Heap.SameBut.update ..))⟩)
def Cv{Q:Option Value->Shared->Prop}(hh:A.handled=none)(hit:s.heap.IsKeyIter it d i es.size ep)(hm:nV s.heap d es ep)(hx:es[i]?=none)
 (hQ:∀ h',Heap.ExtBut it s.heap h'->Q none { s with heap:=h' }):wpAny (model prog w) A (pyNext (.ref it)) Q E s:=by
 obtain⟨o,ho,hc,hd⟩:=id hit;obtain⟨od,hod,hcd,hdd⟩:=id hm;unfold pyNext
 refine wpAny_bind (wpAny_attempt (wpAny_callSpecial?_slot (name:=Str.ofString "__next__") hit.typeIs F.slot_dict_keyiterator_next
  (wpAny_call_entry F.slot_dict_keyiterator_next hit.typeIs F.entry_dict_keyiterator_next ?_ (F.args_dict_keyiterator_next_1 _))))
 refine wpAny_bind (wpAny_pure (wpAny_bind (wpAny_bind ?_)))
 first | refine wpAny_bind (wpAny_typeNameOfWhole_keyiter hit.typeIs (wpAny_pure ?_)) | refine wpAny_bind (wpAny_typeNameOf_keyiter hit.typeIs (wpAny_pure ?_))
 refine wpAny_bind (wpAny_fieldsOf ho hd ?_)
 have hown:Builtin.Dict_items.ownsTuple "dict_keyiterator" = false:=by decide
 simp only[hown,Bool.false_eq_true,if_false];show wpAny _ _ (if(Value.ref d == Value.none)=true then _ else _) _ _ s;rw[if_neg (show ¬ ((Value.ref d == Value.none)=true)from Bool.false_ne_true)];refine wpAny_bind (wpAny_pure (wpAny_bind (wpAny_dictEntries hod hdd ?_)));rw[if_neg (by simp)];refine wpAny_bind (wpAny_pure (wpAny_bind (wpAny_dictEpoch hod hdd ?_)));rw[if_neg (by simp)];refine wpAny_pure ?_;simp only[show ¬ ((i:Int)<0)from by omega,if_false,Int.toNat_natCast,hx];refine wpAny_bind ?_
 first | refine wpAny_bind (wpAny_typeNameOfWhole_keyiter hit.typeIs (wpAny_pure ?_)) | refine wpAny_bind (wpAny_typeNameOf_keyiter hit.typeIs (wpAny_pure ?_))
 show wpAny _ _ (setField (.ref it) 0 .none >>= _) _ _ s;refine wpAny_bind (wpAny_setField ho hd (by simp) ?_);show wpAny _ _ (newExc (.type "StopIteration") [] >>= _) _ _ _;refine wpAny_bind ?_;simp only[newExc,newTuple];refine wpAny_bind (wpAny_newObj_type ?_ (by size_fits));refine wpAny_bind (m:=firstArgMember _ _) (wpAny_of_eq (a:=Value.none) (by first | rfl | (simp only[firstArgMember];rfl)) ?_);refine wpAny_newObj_type ?_ (by size_fits);simp only[raiseNew];refine wpAny_bind (wpAny_handled ?_);rw[show A.in1.handled=none from hh];refine wpAny_bind (wpAny_pure (wpAny_throw ?_));refine wpAny_bind (wpAny_isInstance (T := "StopIteration") (b:=true) ⟨_,Heap.get?_push_size _ rfl,rfl⟩ isSubtype_stop ?_);exact wpAny_pure (hQ _ (((Heap.SameBut.update ..).extBut.push _).push _))
end
end RS
namespace L2
open PySem PySem.Spec PyProof.Rows
abbrev Ikd(a:Addr)(o:Obj)(kvs:List (List Key × V)):It:=⟨fun i H=>H a=some (.frz o (.dT kvs))/\i<kvs.length,fun i H v H'=>H'=H/\∃ k x b,kvs[i]?=some (k,x)/\v=.ref b/\H b=some (.tup (k.map kV)),fun i H=>H a=some (.frz o (.dT kvs))/\kvs.length<=i⟩
def oU{P:Program}{w:World}{H:Hp}{h:Heap}{a:Addr}{o:Obj}{kvs:List (List Key × V)}{es:Array DictEntry}{ep:Nat}(hd:o.data=.dict es ep)(q:bu P w H h a (.frz o (.dT kvs))) :
  RS.nV h a es ep/\es.size=kvs.length/\(a == sysModules)=false/\∀ (i:Nat) e,es[i]?=some e->∃ k x b,kvs[i]?=some (k,x)/\e.key=.ref b/\H b=some (.tup (k.map kV)):=by
 obtain⟨g,_,hs,xs,pr,o',es',ep',g',ex,hd',he,_⟩:=q;rw[g]at g';cases g';rw[hd]at hd';cases hd'
 have hl:es.size=xs.length:=by rw[<-Array.length_toList,he,List.length_map]
 have pl:∀ {kvs:List (List Key × V)} {xs:List (List Key × Addr × Value)},Paired (fun(p:List Key × V) (q:List Key × Addr × Value)=>p.1=q.1/\H q.2.1=some (.tup (p.1.map kV))/\RelV p.2 q.2.2) kvs xs->kvs.length=xs.length/\∀ (i:Nat) q,xs[i]?=some q->∃ x,kvs[i]?=some (q.1,x)/\H q.2.1=some (.tup (q.1.map kV)):=by
  intro kvs xs pr
  induction pr with
  | nil=>exact⟨rfl,fun i q e=>by simp at e⟩
  |cons h t ih=>
   rename_i p q ps qs;refine⟨by rw[List.length_cons,List.length_cons,ih.1],fun i q' e=>?_⟩
   cases i with
   |zero=>
    simp at e;subst e;obtain⟨h1,h2,h3⟩:=h;obtain⟨pk,pv⟩:=p;have h1:pk=q.1:=h1;subst h1;exact⟨pv,rfl,h2⟩
   | succ i=>exact ih.2 i q' (by simpa using e)
 obtain⟨p1,p2⟩:=pl pr;refine⟨⟨o,g,ex,hd⟩,hl.trans p1.symm,hs,fun i e hi=>?_⟩
 have hi':(xs.map (entryOfKey (tupleKind (bO P w))))[i]?=some e:=by rw[<-he,Array.getElem?_toList];exact hi
 rw[List.getElem?_map]at hi'
 cases hx:xs[i]? with
 | none=>rw[hx]at hi';cases hi'
 |some q=>
  rw[hx]at hi';cases hi';obtain⟨x,h1,h2⟩:=p2 i q hx;exact⟨q.1,x,q.2.1,h1,rfl,h2⟩
def zV{P:Program}{w:World}{K:PySem.W.Frag}{tg:Expr}{a:Addr}{o:Obj}{kvs:List (List Key × V)}{es:Array DictEntry}{ep:Nat}(hd:o.data=.dict es ep)(it:Addr):Turn P w K tg (Ikd a o kvs) [it] it (fun i h=>h.IsKeyIter it a i es.size ep) where
 mem:=by simp
 obj:=fun i h st b hb=>by
  have e:b=it:=by simpa using hb
  subst e;obtain⟨o,e,c,d⟩:=st;exact⟨o,e,fun v z=>by rw[d]at z;cases z⟩
 keep:=fun i h h' st k=>st.at fun o e=>k it (by simp) o e
 item:=by
  intro X hP hw hK hc i pins s σ H E I hf st hg;subst hP hw hK;obtain⟨hH,hlt⟩:=hg;obtain⟨f0,f1,f2,f3,f4,f5⟩:=hf it (by simp);obtain⟨raw,hsz,_,hk⟩:=oU hd (I.hok a _ hH);have hx:es[i]?=some (es[i]'(by omega)):=Array.getElem?_eq_getElem _;obtain⟨k,x,b,k1,k2,k3⟩:=hk i _ hx;refine RS.A6 st raw hx fun h' st' sb=>?_;have I1:Inv X pins σ H { s with heap:=h',toks:=s.toks }:=I.turned (t':=s.toks) (fun b o hb e=>(sb.2 b hb).trans e) f0 f1 f3 f4 f5;obtain⟨ob,e,c,d⟩:=id st';exact⟨_,rfl,kI (s:={ s with heap:=h',toks:=s.toks }) e c d (by decide) ⟨.ref b,H,I1,by rw[k2];exact rfl,⟨rfl,k,x,b,k1,rfl,k3⟩,st',fun b hb=>(hf b hb).1⟩⟩
 done:=by
  intro X hP hw hK hc i pins s σ H E I hf st hg;subst hP hw hK;obtain⟨hH,hlt⟩:=hg;obtain⟨f0,f1,f2,f3,f4,f5⟩:=hf it (by simp);obtain⟨raw,hsz,_,hk⟩:=oU hd (I.hok a _ hH)
  exact RS.Cv (I.ok.hd.1 hc) st raw (by rw[Array.getElem?_eq_none_iff];omega) fun h' eb=>⟨rfl,I.turned (t':=s.toks) (fun b o hb e=>eb b o hb e) f0 f1 f3 f4 f5⟩
 self:=fun A i s Q E st h=>wpAny_pyIter_keyiter st h
def F8{X:Cx}{tg l:Expr}{tl:TE}(hl:PE X l tl):PI X tg l (fun σ H R=>tl σ H fun y H1=>∃ a o kvs,y=.ref a/\H1 a=some (.frz o (.dT kvs))/\R (Ikd a o kvs) H1):=by
 intro pins s σ H R I h;refine thn (hl pins s σ H _ I h) fun v s1 ⟨y,H1,I1,r1,a,o,kvs,e,hH,q⟩=>?_;subst e;cases r1;obtain⟨g,_,_,_,_,o',es,ep,g',ex,hd,_,_⟩:=I1.hok a _ hH;rw[g]at g';cases g';obtain⟨raw,hsz,hs,hk⟩:=oU hd (I1.hok a _ hH);refine RS.zW hs raw ⟨s1.heap.objs.size,[s1.heap.objs.size],_,_,H1,rfl,I1.kept (t':=s1.toks) fun b o e=>Heap.get?_push_of_some _ e,zV hd _,⟨_,Heap.get?_push_size _ rfl,rfl,rfl⟩,fun b hb=>?_,q⟩;rw[show b=s1.heap.objs.size by simpa using hb];exact I1.kg (Nat.le_refl _) (I1.hok.fresh (Nat.le_refl _))
end L2
namespace RS
open PySem PySem.Spec PyProof.Rows L2
def nK{P:Addr->Prop}{K:PySem.W.Frag}{H:Hp}:∀ k:List RL.Ky,ae P K H (k.map RL.kyD) (k.map kV)
 | []=>ae.nil
 | .inl i::r=>ae.cons aX (nK r)
 | .inr x::r=>ae.cons dW (nK r)
def xS{K:PySem.W.Frag}{H:Hp}{a:Addr}{o:Obj}{kvs:List (List Key × V)}{P:Addr->Prop}(h:H a=some (.frz o (.dT kvs)))(hm:∀ b o,P b->H b=some o->cu o):gB K (Ikd a o kvs) ((kvs.map (·.1)).map fun k=>RL.D.tup (k.map RL.kyD)) P H:=by
 have hp:¬ P a:=fun p=>by rcases hm a _ p h with⟨z,q⟩ | ⟨z,q⟩ | ⟨z,q⟩<;>cases q
 exact {
  go:=fun H' i k hi=>⟨k _ _ hp h,by simpa using hi⟩
  stop:=fun H' k=>⟨k _ _ hp h,by simp⟩
  yld:=fun H' i d x H2 k e y=>by
   obtain⟨z,kk,xx,b,h1,rfl,h3⟩:=y;subst z;refine⟨a5.refl _,fun _=>?_⟩;rw[List.getElem?_map,List.getElem?_map,h1]at e;cases e;rw[Rep]
   exact⟨b,_,rfl,h3,nK kk⟩ }
def GJ{X:Cx}{cl:RL.Cl}{tg a:Expr}{a':RL.E}(ha:SE X cl a a'):SI X cl tg a (.key a'):=by
 refine PI.weak (F8 ha) fun σ H R h=>?_;obtain⟨σD,ds,rv,e,k⟩:=h;obtain⟨d,e1,e2⟩:=bind_some (show(RL.ev cl σD a').bind _=some ds from e);refine⟨σD,d,rv,e1,fun v H1 r1=>?_⟩
 cases d with
 |fT ks=>
  cases e2;have r:=r1.rep;rw[Rep]at r;obtain⟨a,o,kvs,rfl,h2,h3⟩:=r;subst h3
  exact⟨a,o,kvs,rfl,h2,k _ _ r1.same ⟨xS h2 fun _ _ z=>z.elim,fun M P _ hm _=>xS h2 fun b ob p eb=>by
   obtain⟨o1,q1,q2⟩:=hm b p;rw[r1.same _ _ q1]at eb;cases eb
   exact q2⟩⟩
 | _=>cases e2
def CK{X:Cx}{sts:List Stmt}{t t':TS}(h:PSs X sts t')(w:∀ D σ H,t D σ H->∃ a kvs,H a=some (.dT kvs)/\∀ o,t' D σ (upd H a (.frz o (.dT kvs)))):PSs X sts t:=by
 intro pins s σ H D I q;obtain⟨a,kvs,hH,k⟩:=w D σ H q;obtain⟨z,hs,xs,pr,o,es,ep,g,rest⟩:=id (I.hok a _ hH);have I':Inv X pins σ (upd H a (.frz o (.dT kvs))) { s with heap:=s.heap,toks:=s.toks }:=I.write (x:=a) (e:=a) (h':=s.heap) (t':=s.toks) (by rw[hH];trivial) (.inl rfl) (fun b u _ e=>e) ⟨o,g⟩ ⟨g,z,hs,xs,?_,o,es,ep,g,rest⟩
 ·exact h pins s σ _ D I' (k o)
 ·exact Paired.mono (fun p q ⟨h1,h2,h3⟩=>⟨h1,by rw[aL (kC h2 hH (by intro z;cases z))];exact h2,h3⟩) pr
def RVm.freeze{K:PySem.W.Frag}{M:List Nat}(h:RVm K (j::M) σD σ H)(hM:M.contains j=false)(h1:σ[j]?=some (some (.ref a)))(f2:H a=some (.dT kvs)):RVm K M (σD.set j (some (.fT (kvs.map (·.1))))) σ (upd H a (.frz o (.dT kvs))):=by
 have pa:aV (j::M) σ a:=⟨j,gE,h1⟩
 have mu:cu (.dT kvs):=.inr (.inr ⟨_,rfl⟩);refine⟨by simpa using h.len,fun i d ei=>?_,fun i w e=>?_,fun i k b hi hk=>h.sep i k b (cL hi) (cL hk)⟩
 ·by_cases hij:i=j
  ·subst hij
   have hlt:i<σD.length:=by simpa using(List.getElem?_eq_some_iff.mp ei).1
   rw[List.getElem?_set_self hlt]at ei;cases ei;refine⟨.ref a,h1,?_⟩;rw[if_neg (by rw[hM];exact Bool.false_ne_true),Rep];exact⟨a,o,kvs,rfl,br,rfl⟩
  ·rw[List.getElem?_set_ne (Ne.symm hij)]at ei;obtain⟨v,g1,g2⟩:=h.val i d ei;refine⟨v,g1,?_⟩;by_cases hm:M.contains i=true
   ·rw[if_pos hm];rw[if_pos (cL hm)]at g2;obtain⟨b,ob,rfl,_,_⟩:=g2.ref;exact g2.off (P:=fun x=>x=a) (fun x u e e'=>by subst e;rw[f2]at e';cases e';exact mu) (fun x u n e=>by rw[aL n];exact e) fun z=>hij (h.sep i j a (cL hm) gE (z▸g1) h1)
   ·rw[if_neg hm];rw[if_neg fun z=>hm ((dG z).resolve_left hij)]at g2
    exact(g2.upd f2 mu pa).weak fun b ⟨k,hk,ek⟩=>⟨k,cL hk,ek⟩
 ·obtain⟨d,hd⟩:=h.non i w e;by_cases hij:i=j
  ·subst hij;exact⟨_,List.getElem?_set_self (List.getElem?_eq_some_iff.mp hd).1⟩
  ·exact⟨d,by rw[List.getElem?_set_ne (Ne.symm hij)];exact hd⟩
def E7{X:Cx}{M:List Nat}{sts:List Stmt}(h:SSs X cl M sts r)(hM:M.contains j=false):SQ X cl M (j::M) sts (.frz j r):=by
 refine CK h fun D σ H h=>?_;obtain⟨σ0,H0,σD,o,σD',rv,fr,e,k⟩:=h;obtain⟨d,e1,e2⟩:=bind_some e;obtain⟨dj,e3,e4⟩:=bind_some e1
 cases dj with
 |dT ks vs=>
  cases e4;obtain⟨v,h1,h2⟩:=rv.val j _ (slot_get e3);rw[if_pos gE]at h2;obtain⟨q1,q2,q3⟩:=h2;rw[Rep]at q3;obtain⟨a,xs,rfl,_,f2,fl,f3⟩:=q3
  have hk:(ks.zip xs).map (·.1)=ks:=by rw[List.map_fst_zip];rw[fl,f3.length];exact Nat.le_refl _
  refine⟨a,ks.zip xs,f2,fun ob=>⟨_,o,σD',rv.freeze hM h1 f2,by rw[hk];exact e2,k.from ⟨fun b u eb n=>⟨?_,fun⟨i,hi,ei⟩=>(fr.1 b u eb n).2 ⟨i,cL hi,ei⟩⟩,fr.2⟩⟩⟩;rw[aL (fun z=>(fr.1 b u eb n).2 ⟨j,gE,by rw[z];exact h1⟩)];exact(fr.1 b u eb n).1
 | _=>cases e4
def nos{α:Type}{P:Prop}{x:α}(h:(none:Option α)=some x):P:=by cases h
def ay{α:Type}{o:Option α}{f:α->Bool}(h:o.any f=true):∃ x,o=some x/\f x=true:=by
 cases o with
 | none=>cases h
 | some x=>exact⟨x,rfl,h⟩
def af{a b:Bool}(h:(a&&b)=true):a=true/\b=true:=by rw[Bool.and_eq_true]at h;exact h
abbrev f9:Expr->Option Str
 | .Name x _=>some x
 | _=>none
def dk{e:Expr}{x:Str}(h:f9 e=some x):∃ p,e=.Name x p:=by
 cases e
 case Name=>cases h;exact⟨_,rfl⟩
 all_goals exact nos h
abbrev EV:Expr->Option Const
 | .Constant k _ _=>some k
 | _=>none
def De{e:Expr}{k:Const}(h:EV e=some k):∃ j p,e=.Constant k j p:=by
 cases e
 case Constant=>cases h;exact⟨_,_,rfl⟩
 all_goals exact nos h
abbrev D4:Expr->Option (Expr × Operator × Expr)
 | .BinOp l o r _=>some (l,o,r)
 | _=>none
def CT{e:Expr}{l r:Expr}{o:Operator}(h:D4 e=some (l,o,r)):∃ p,e=.BinOp l o r p:=by
 cases e
 case BinOp=>cases h;exact⟨_,rfl⟩
 all_goals exact nos h
abbrev vUn:Expr->Option (UnaryOp × Expr)
 | .UnaryOp o x _=>some (o,x)
 | _=>none
def rD{e x:Expr}{o:UnaryOp}(h:vUn e=some (o,x)):∃ p,e=.UnaryOp o x p:=by
 cases e
 case UnaryOp=>cases h;exact⟨_,rfl⟩
 all_goals exact nos h
abbrev oO:Expr->Option (Expr × List CmpOp × List Expr)
 | .Compare l o r _=>some (l,o,r)
 | _=>none
def iH{e l:Expr}{r:List Expr}{o:List CmpOp}(h:oO e=some (l,o,r)):∃ p,e=.Compare l o r p:=by
 cases e
 case Compare=>cases h;exact⟨_,rfl⟩
 all_goals exact nos h
abbrev vBool:Expr->Option (BoolOp × List Expr × Pos)
 | .BoolOp o es p=>some (o,es,p)
 | _=>none
def iT{e:Expr}{es:List Expr}{o:BoolOp}{p:Pos}(h:vBool e=some (o,es,p)):e=.BoolOp o es p:=by
 cases e
 case BoolOp=>cases h;exact rfl
 all_goals exact nos h
abbrev Gr:Expr->Option (Expr × Expr × Expr)
 | .IfExp c a b _=>some (c,a,b)
 | _=>none
def BI{e a b c:Expr}(h:Gr e=some (c,a,b)):∃ p,e=.IfExp c a b p:=by
 cases e
 case IfExp=>cases h;exact⟨_,rfl⟩
 all_goals exact nos h
abbrev jK:Expr->Option (List Expr)
 | .Tuple es _ _=>some es
 | _=>none
def eZ{e:Expr}{es:List Expr}(h:jK e=some es):∃ k p,e=.Tuple es k p:=by
 cases e
 case Tuple=>cases h;exact⟨_,_,rfl⟩
 all_goals exact nos h
abbrev Gj:Expr->Option (List Expr)
 | .List es _=>some es
 | _=>none
def BJ{e:Expr}{es:List Expr}(h:Gj e=some es):∃ p,e=.List es p:=by
 cases e
 case List=>cases h;exact⟨_,rfl⟩
 all_goals exact nos h
abbrev sL:Expr->Option (Expr × Expr)
 | .Subscript a b _=>some (a,b)
 | _=>none
def kB{e a b:Expr}(h:sL e=some (a,b)):∃ p,e=.Subscript a b p:=by
 cases e
 case Subscript=>cases h;exact⟨_,rfl⟩
 all_goals exact nos h
abbrev vSl:Expr->Option (Option Expr × Option Expr × Option Expr)
 | .Slice a b c _=>some (a,b,c)
 | _=>none
def Fv{e:Expr}{a b c:Option Expr}(h:vSl e=some (a,b,c)):∃ p,e=.Slice a b c p:=by
 cases e
 case Slice=>cases h;exact⟨_,rfl⟩
 all_goals exact nos h
abbrev kJ:Expr->Option (Expr × List Expr × List Keyword × Pos)
 | .Call f as ks p=>some (f,as,ks,p)
 | _=>none
def gN{e f:Expr}{as:List Expr}{ks:List Keyword}{p:Pos}(h:kJ e=some (f,as,ks,p)):e=.Call f as ks p:=by
 cases e
 case Call=>cases h;exact rfl
 all_goals exact nos h
abbrev AX:Expr->Option (Expr × Str × Pos)
 | .Attribute o x p=>some (o,x,p)
 | _=>none
def Aa{e o:Expr}{x:Str}{p:Pos}(h:AX e=some (o,x,p)):e=.Attribute o x p:=by
 cases e
 case Attribute=>cases h;exact rfl
 all_goals exact nos h
abbrev vm:Expr->Option (Expr × List Comprehension × Scope × Pos)
 | .ListComp e gs sc p=>some (e,gs,sc,p)
 | _=>none
def r9{e x:Expr}{gs:List Comprehension}{sc:Scope}{p:Pos}(h:vm e=some (x,gs,sc,p)):e=.ListComp x gs sc p:=by
 cases e
 case ListComp=>cases h;exact rfl
 all_goals exact nos h
abbrev vM:Expr->Option (List (Option Expr) × List Expr)
 | .Dict ks vs _=>some (ks,vs)
 | _=>none
def rz{e:Expr}{ks:List (Option Expr)}{vs:List Expr}(h:vM e=some (ks,vs)):∃ p,e=.Dict ks vs p:=by
 cases e
 case Dict=>cases h;exact⟨_,rfl⟩
 all_goals exact nos h
abbrev of1{α:Type}(xs:List α)(f:α->Bool):Bool:=match xs with
 | [a]=>f a
 | _=>false
abbrev of2{α:Type}(xs:List α)(f:α->α->Bool):Bool:=match xs with
 | [a,b]=>f a b
 | _=>false
abbrev of3{α:Type}(xs:List α)(f:α->α->α->Bool):Bool:=match xs with
 | [a,b,c]=>f a b c
 | _=>false
def aO{α:Type}:∀ {xs:List α} {f:α->Bool},of1 xs f=true->∃ a,xs=[a]/\f a=true
 | [a],_,h=>⟨a,rfl,h⟩
def fS{α:Type}:∀ {xs:List α} {f:α->α->Bool},of2 xs f=true->∃ a b,xs=[a,b]/\f a b=true
 | [a,b],_,h=>⟨a,b,rfl,h⟩
def rK{α:Type}:∀ {xs:List α} {f:α->α->α->Bool},of3 xs f=true->∃ a b c,xs=[a,b,c]/\f a b c=true
 | [a,b,c],_,h=>⟨a,b,c,rfl,h⟩
abbrev ofM{α:Type}(xs:List α)(f:α->α->List α->Bool):Bool:=match xs with
 | a::b::r=>f a b r
 | _=>false
def mB{α:Type}:∀ {xs:List α} {f:α->α->List α->Bool},ofM xs f=true->∃ a b r,xs=a::b::r/\f a b r=true
 | a::b::r,_,h=>⟨a,b,r,rfl,h⟩
abbrev lJ:Stmt->Option (List Expr × Expr)
 | .Assign ts e _=>some (ts,e)
 | _=>none
def gr{st:Stmt}{ts:List Expr}{e:Expr}(h:lJ st=some (ts,e)):∃ p,st=.Assign ts e p:=by
 cases st
 case Assign=>cases h;exact⟨_,rfl⟩
 all_goals exact nos h
abbrev zh:Stmt->Option (Expr × Operator × Expr)
 | .AugAssign t o e _=>some (t,o,e)
 | _=>none
def uB{st:Stmt}{t e:Expr}{o:Operator}(h:zh st=some (t,o,e)):∃ p,st=.AugAssign t o e p:=by
 cases st
 case AugAssign=>cases h;exact⟨_,rfl⟩
 all_goals exact nos h
abbrev rL:Stmt->Option Expr
 | .Expr e _=>some e
 | _=>none
def k6{st:Stmt}{e:Expr}(h:rL st=some e):∃ p,st=.Expr e p:=by
 cases st
 case Expr=>cases h;exact⟨_,rfl⟩
 all_goals exact nos h
abbrev wIf:Stmt->Option (Expr × List Stmt × List Stmt)
 | .If c a b _=>some (c,a,b)
 | _=>none
def yL{st:Stmt}{c:Expr}{a b:List Stmt}(h:wIf st=some (c,a,b)):∃ p,st=.If c a b p:=by
 cases st
 case If=>cases h;exact⟨_,rfl⟩
 all_goals exact nos h
abbrev Ez:Stmt->Option (Expr × Expr × List Stmt × List Stmt)
 | .For t i b o _=>some (t,i,b,o)
 | _=>none
def Di{st:Stmt}{t i:Expr}{b o:List Stmt}(h:Ez st=some (t,i,b,o)):∃ p,st=.For t i b o p:=by
 cases st
 case For=>cases h;exact⟨_,rfl⟩
 all_goals exact nos h
abbrev Fe:Stmt->Option (Expr × List Stmt × List Stmt)
 | .While c b o _=>some (c,b,o)
 | _=>none
def CQ{st:Stmt}{c:Expr}{b o:List Stmt}(h:Fe st=some (c,b,o)):∃ p,st=.While c b o p:=by
 cases st
 case While=>cases h;exact⟨_,rfl⟩
 all_goals exact nos h
abbrev F3:Stmt->Option (Option Expr)
 | .Return e _=>some e
 | _=>none
def BG{st:Stmt}{e:Option Expr}(h:F3 st=some e):∃ p,st=.Return e p:=by
 cases st
 case Return=>cases h;exact⟨_,rfl⟩
 all_goals exact nos h
structure CC where
 N:List Str
 sc:Scope
 B:List Str
 G:List (Str × Int)
 F:List (Str × List Nat)
abbrev DN(scope sc:Scope):Scope:={ scope with names:=scope.names.map fun(n,k)=>if(k == NameKind.free&&sc.kind == .function&&sc.names.lookup n == some .cell)then(n,NameKind.cell)else(n,k) }
abbrev CC.inner(C:CC)(scope:Scope):CC:={ C with sc:=DN scope C.sc }
abbrev iN(x:Str):Bool:=!(x == ("__debug__" : Str)) && !(x == ("__classdict__" : Str))
abbrev zL(C:CC)(x:Str):Bool:=C.sc.names.lookup x == some .local || C.sc.names.lookup x == some .cell
abbrev yV(C:CC)(x:Str):Bool:=C.sc.names.lookup x == some .local || C.sc.names.lookup x == some .cell || C.sc.names.lookup x == some .free
abbrev glB(C:CC)(x:Str):Bool:=C.sc.names.lookup x == some .globalImplicit&&iN x
abbrev qI(C:CC)(x:Str):Bool:=glB C x&&C.B.contains x
abbrev nmB(C:CC)(i:Nat)(x:Str):Bool:=C.N[i]? == some x&&iN x
structure XOk(C:CC)(X:Cx)(cl:RL.Cl):Prop where
 scope:X.env.scope=C.sc
 names:X.N=C.N
 nd:C.N.Nodup
 calm:X.calm=true
 xe:X.xe=fun _ _=>False
 hu:X.A.units+100<cLine
 blt:∀ x∈C.B,X.mg x=none
 glb:∀ x i,C.G.lookup x=some i->∃ u,X.mg x=some u/\RelV (.int i) u
 fns:∀ (f:Nat) (x:Str) (mp:List Nat),C.F[f]?=some (x,mp)->∃ k fa fd ps,ip X.prog X.w X.K X.mg X.base CX0 k fa fd ps (if mp=[]then spF X.K cl f else spM X.K cl mp f)/\dM k X.A/\X.mg x=some (.ref fa)/\PySem.W.keepIn X.K (.ref fa)=true/\Binds X.K fd ps []
section
variable{C:CC}{X:Cx}{cl:RL.Cl}{e:Expr}
def XOk.vis(h:XOk C X cl){x:Str}(v:yV C x=true):Vis X.env.scope x:=by
 unfold yV at v;rw[<-h.scope,Bool.or_eq_true,Bool.or_eq_true,beq_iff_eq,beq_iff_eq,beq_iff_eq]at v;rcases v with(v | v) | v
 ·exact .inl v
 ·exact .inr (.inl v)
 ·exact .inr (.inr v)
def XOk.loc(h:XOk C X cl){x:Str}(v:zL C x=true):Loc X.env.scope x:=by
 unfold zL at v;rw[<-h.scope,Bool.or_eq_true,beq_iff_eq,beq_iff_eq]at v;exact v
def du{x:Str}(h:iN x=true):(x == ("__debug__" : Str))=false/\(x == ("__classdict__" : Str))=false:=by
 unfold iN at h;rw[Bool.and_eq_true,Bool.not_eq_true',Bool.not_eq_true']at h;exact h
def XOk.gl(h:XOk C X cl){x:Str}(v:glB C x=true):Gl X x/\iN x=true:=by
 unfold glB at v;rw[<-h.scope,Bool.and_eq_true,beq_iff_eq]at v;exact v
def XOk.bl(h:XOk C X cl){x:Str}(v:qI C x=true):Gl X x/\X.mg x=none:=by
 unfold qI at v;rw[Bool.and_eq_true]at v;exact⟨(h.gl v.1).1,h.blt x (by simpa using v.2)⟩
def XOk.nm(h:XOk C X cl){i:Nat}{x:Str}(v:nmB C i x=true):X.N[i]?=some x/\iN x=true:=by
 unfold nmB at v;rw[<-h.names,Bool.and_eq_true,beq_iff_eq]at v;exact v
def XOk.ndX(h:XOk C X cl):X.N.Nodup:=by rw[h.names];exact h.nd
def XOk.blk(h:XOk C X cl){scope:Scope}(cls:List (Str × Addr))(Ca:Addr)(fp:List Addr)(s:Shared)(H:Hp):XOk (C.inner scope) (L2.blk X scope cls Ca fp s H) cl where
 scope:=by
  show relabel scope X.env=DN scope C.sc;rw[<-h.scope];rfl
 names:=h.names
 nd:=h.nd
 calm:=h.calm
 xe:=rfl
 hu:=h.hu
 blt:=h.blt
 glb:=h.glb
 fns:=h.fns
abbrev vC:RL.D->Const->Bool
 | .int i,.int j=>i == j
 | .bl i,.bool j=>i == j
 | .non,.none=>true
 | .str x,.str y=>x == y
 | _,_=>false
abbrev plainT:Expr->Bool
 | .UnaryOp .Not _ _=>false
 | .BoolOp _ _ _=>false
 | .IfExp _ _ _ _=>false
 | .Compare _ _ _ _=>false
 | _=>true
abbrev tw:Expr->Bool
 | .BoolOp _ _ _=>true
 | _=>false
abbrev mH:Expr->Bool
 | .Set _ _ _=>false
 | _=>true
abbrev vY:RL.Bi->Option Str
 | .len=>some "len"
 | .list=>some "list"
 | .tuple=>some "tuple"
 | .int=>some "int"
 | .all=>some "all"
 | .sortedS=>some "sorted"
 | _=>none
abbrev qY:RL.Ty->Str
 | .int => "int"
 | .bool => "bool"
 | .list => "list"
 | .tuple => "tuple"
 | .str => "str"
abbrev Gv(neg:Bool):CmpOp:=if neg then .NotIn else .In
abbrev kF(C:CC)(i:Nat)(e:Expr):Bool:=(f9 e).any fun x=>nmB C i x&&yV C x
abbrev gp(C:CC)(i:Nat)(e:Expr):Bool:=(f9 e).any fun x=>nmB C i x&&zL C x
abbrev kP(C:CC):List Nat->List Expr->Bool
 | [],es=>es.isEmpty
 | i::is,es=>match es with
  | e::es=>gp C i e&&kP C is es
  | []=>false
abbrev nU(C:CC)(tg:List Nat)(e:Expr):Bool :=
 match tg with
 | [i]=>gp C i e
 | tg=>(jK e).any fun es=>kP C tg es
abbrev mG(C:CC)(scope:Scope)(tg:List Nat):Bool:=tg.all fun i=>match C.N[i]? with
 | some x=>scope.names.lookup x == some .local || scope.names.lookup x == some .cell
 | none=>false
abbrev nC(C:CC)(scope:Scope)(tg:List Nat):Bool:=(List.range C.N.length).all fun i=>match C.N[i]? with
 | some x=>!(scope.names.lookup x == some .local || scope.names.lookup x == some .cell) || tg.contains i
 | none=>true
abbrev scB(scope sc:Scope):Bool:=scope.kind == .function&&scope.names.all (fun x=>(!(x.2 == .cell) || scope.names.lookup x.1 == some .cell)&&(!(x.2 == .local) || scope.names.lookup x.1 == some .local)&&(!(x.2 == .free) || sc.names.lookup x.1 == some .cell || sc.names.lookup x.1 == some .free))
abbrev bj(C:CC)(e:Expr)(nm:Str)(f:List Expr->Bool):Bool:=(kJ e).any fun q=>(f9 q.1).any (fun x=>x == nm&&qI C x)&&q.2.2.1.isEmpty&&q.2.1.all noStar&&f q.2.1
def bD{nm:Str}{f:List Expr->Bool}(h:XOk C X cl)(z:bj C e nm f=true):∃ p as pos,e=.Call (.Name nm p) as [] pos/\Gl X nm/\X.mg nm=none/\as.all noStar=true/\f as=true:=by
 unfold bj at z;obtain⟨⟨g,as,ks,pos⟩,z0,z⟩:=ay z;have e0:=gN z0;subst e0;obtain⟨z,z4⟩:=af z;obtain⟨z,z3⟩:=af z;obtain⟨z1,z2⟩:=af z;obtain⟨x,y0,z1⟩:=ay z1;obtain⟨p,rfl⟩:=dk y0;obtain⟨y1,y2⟩:=af z1;rw[beq_iff_eq]at y1;subst y1;obtain⟨b1,b2⟩:=h.bl y2;rw[List.isEmpty_iff]at z2;subst z2;exact⟨p,as,pos,rfl,b1,b2,z3,z4⟩
def all1{a:Expr}(h:[a].all noStar=true):noStar a=true:=by simpa using h
def all2{a b:Expr}(h:[a,b].all noStar=true):noStar a=true/\noStar b=true:=by simpa using h
def oa{a b c:Expr}(h:[a,b,c].all noStar=true):noStar a=true/\noStar b=true/\noStar c=true:=by simpa using h
end
mutual
noncomputable def chk(C:CC)(t:Bool):RL.E->Expr->Bool
 | .var i=>fun e=>kF C i e
 | .cst d=>fun e=>(EV e).any fun k=>vC d k
 | .glb y i=>fun e=>(f9 e).any fun x=>x == y&&glB C x&&C.G.lookup x == some i
 | .bin o a b=>fun e=>(D4 e).any fun q=>q.2.1 == qX o&&chk C false a q.1&&chk C false b q.2.2
 | .neg a=>fun e=>(vUn e).any fun q=>q.1 == .USub&&chk C false a q.2
 | .cmp c a b=>fun e=>(oO e).any fun q=>of1 q.2.1 fun op=>of1 q.2.2 fun r=>op == cY c&&chk C false a q.1&&chk C false b r
 | .chain c c' a b d=>fun e=>(oO e).any fun q=>of2 q.2.1 fun op op'=>of2 q.2.2 fun r s=>op == cY c&&op' == cY c'&&chk C false a q.1&&chk C false b r&&chk C false d s
 | .inn neg a b=>fun e=>(oO e).any fun q=>of1 q.2.1 fun op=>of1 q.2.2 fun r=>op == Gv neg&&mh r&&chk C false a q.1&&chk C false b r
 | .inD neg a b=>fun e=>(oO e).any fun q=>of1 q.2.1 fun op=>of1 q.2.2 fun r=>op == Gv neg&&mh r&&chk C false a q.1&&chk C false b r
 | .and a b=>fun e=>(vBool e).any fun q=>ofM q.2.1 fun l r rest=>q.1 == .And&&chk C t a l&&(if rest.isEmpty then chk C t b r else chk C t b (.BoolOp .And (r::rest) q.2.2))
 | .or a b=>fun e=>(vBool e).any fun q=>ofM q.2.1 fun l r rest=>q.1 == .Or&&chk C t a l&&(if rest.isEmpty then chk C t b r else chk C t b (.BoolOp .Or (r::rest) q.2.2))
 | .not a=>fun e=>(vUn e).any fun q=>q.1 == .Not&&chk C t a q.2
 | .ifx c a b=>fun e=>(Gr e).any fun q=>!t&&chk C true c q.1&&chk C false a q.2.1&&chk C false b q.2.2
 | .tup es=>fun e=>(jK e).any fun xs=>nc C es xs&&decide (eJ es<=1000)
 | .lst es=>fun e=>(Gj e).any fun xs=>nc C es xs&&decide (eJ es<=1000)
 | .ix a b=>fun e=>(sL e).any fun q=>lF q.2&&chk C false a q.1&&chk C false b q.2
 | .ixD a b=>fun e=>(sL e).any fun q=>lF q.2&&chk C false a q.1&&chk C false b q.2
 | .slT a b=>fun e=>(sL e).any fun q=>chk C false a q.1&&(vSl q.2).any fun s=>s.1.isNone&&s.2.2.isNone&&s.2.1.any fun r=>chk C false b r
 | .call f es=>fun e=>(kJ e).any fun q=>(f9 q.1).any (fun x=>glB C x&&C.F[f]? == some (x,[]))&&q.2.2.1.isEmpty && !q.2.1.isEmpty&&nc C es q.2.1
 | .bi b a=>fun e=>match b with
  | .lenSet=>bj C e "len" fun ys=>of1 ys fun y=>bj C y "set" fun zs=>of1 zs fun z=>chk C false a z
  | b=>(vY b).any fun x=>bj C e x fun ys=>of1 ys fun y=>chk C false a y
 | .isi a ty=>fun e=>bj C e "isinstance" fun ys=>of2 ys fun y z=>(f9 z).any (fun x=>x == qY ty&&qI C x)&&chk C false a y
 | .rng1 a=>fun e=>bj C e "list" fun ys=>of1 ys fun y=>bj C y "range" fun zs=>of1 zs fun z=>chk C false a z
 | .rng2 a b=>fun e=>bj C e "list" fun ys=>of1 ys fun y=>bj C y "range" fun zs=>of2 zs fun z u=>chk C false a z&&chk C false b u
 | .rng3 c a b=>fun e=>bj C e "list" fun ys=>of1 ys fun y=>bj C y "range" fun zs=>of3 zs fun z u q=>gf c q&&chk C false a z&&chk C false b u
 | .comp d tg it c=>fun e=>(vm e).any fun q=>of1 q.2.1 fun g=>of1 g.ifs fun w=>g.is_async == 0&&scB q.2.2.1 C.sc&&nC C q.2.2.1 tg&&mH g.iter&&nU (C.inner q.2.2.1) tg g.target&&mG C q.2.2.1 tg&&vi C it g.target g.iter&&chk (C.inner q.2.2.1) false d q.1&&chk (C.inner q.2.2.1) true c w
 | .compA d tg it=>fun e=>(vm e).any fun q=>of1 q.2.1 fun g=>g.ifs.isEmpty&&g.is_async == 0&&scB q.2.2.1 C.sc&&nC C q.2.2.1 tg&&mH g.iter&&nU (C.inner q.2.2.1) tg g.target&&mG C q.2.2.1 tg&&vi C it g.target g.iter&&chk (C.inner q.2.2.1) false d q.1
 | .dk0=>fun e=>(vM e).any fun q=>q.1.isEmpty&&q.2.isEmpty
 | .dt0=>fun e=>(vM e).any fun q=>q.1.isEmpty&&q.2.isEmpty
noncomputable def nc(C:CC):RL.Es->List Expr->Bool
 | .nil=>fun xs=>xs.isEmpty
 | .cons e es=>fun xs=>match xs with
  | x::xs=>noStar x&&chk C false e x&&nc C es xs
  | []=>false
noncomputable def vi(C:CC):RL.It->Expr->Expr->Bool
 | .seq a=>fun _ e=>chk C false a e
 | .rng1 a=>fun _ e=>bj C e "range" fun ys=>of1 ys fun y=>chk C false a y
 | .rng2 a b=>fun _ e=>bj C e "range" fun ys=>of2 ys fun y z=>chk C false a y&&chk C false b z
 | .rng3 c a b=>fun _ e=>bj C e "range" fun ys=>of3 ys fun y z q=>gf c q&&chk C false a y&&chk C false b z
 | .chr a=>fun _ e=>chk C false a e
 | .key a=>fun _ e=>chk C false a e
 | .enm a=>fun tg e=>(jK tg).isSome&&bj C e "enumerate" fun ys=>of1 ys fun y=>chk C false a y
 | .zip a b=>fun tg e=>(jK tg).isSome&&bj C e "zip" fun ys=>of2 ys fun y z=>chk C false a y&&chk C false b z
end
abbrev sY(X:Cx)(cl:RL.Cl)(e:Expr)(e':RL.E)(b b':Bool):Prop:=(b=true->SE X cl e e')/\(b'=true->ST X cl e e'/\(tw e=true->SW X cl e e'))
section
variable{C:CC}{X:Cx}{cl:RL.Cl}{e:Expr}{e':RL.E}{b:Bool}
def wx{env:Env}(h:plainT e=true)(whole:Sem Value):isTrue e env whole=(do let v <- whole;standAt e.pos;holding [v] (truthy v)):=by
 cases e<;>first
  | rfl
  | (cases h;done)
  | (rename_i op _ _;cases op<;>first | rfl | (cases h;done))
def aH(h:b=true->SE X cl e e'/\plainT e=true):sY X cl e e' b b :=
 ⟨fun z=>(h z).1,fun z=>⟨zP (h z).1 (wx (h z).2),fun q=>by
  have:=(h z).2
  cases e<;>first | (cases q;done) | (cases this;done)⟩⟩
def jf(h:b=true->SE X cl e e'/\ST X cl e e'/\tw e=false):sY X cl e e' b b :=
 ⟨fun z=>(h z).1,fun z=>⟨(h z).2.1,fun q=>by rw[(h z).2.2]at q;cases q⟩⟩
def J9(h:b=false){b':Bool}(h':b'=false):sY X cl e e' b b':=⟨fun z=>(by rw[h]at z;cases z),fun z=>(by rw[h']at z;cases z)⟩
def G5{d:RL.D}{k:Const}{j:Nat}{pos:Pos}(h:vC d k=true):SE X cl (.Constant k j pos) (.cst d):=by
 cases d<;>cases k<;>simp only[vC]at h<;>first | (cases h;done) | skip
 case non.none=>exact ny EC (fun P H=>by rw[Rep]) rfl
 case bl.bool i j=>rw[beq_iff_eq]at h;subst h;exact ny Hc (fun P H=>rJ) rfl
 case int.int i j=>rw[beq_iff_eq]at h;subst h;exact ny qF (fun P H=>aX) rfl
 case str.str i j=>rw[beq_iff_eq]at h;subst h;exact ny FQ (fun P H=>dW) rfl
def wR(t:RL.Ty):bootBuiltins (qY t)=some (.type (tyN t))/\qY t ≠ "__name__" /\ (qY t == ("__debug__" : Str))=false:=by
 cases t<;>exact⟨by decide +kernel,by decide +kernel,by decide +kernel⟩
def fI(h:mH e=true)(env:Env)(x:Value):foldedSetIterable e env x=pure x:=by
 cases e<;>first | rfl | (cases h;done)
def GQ(hcalm:X.calm=true){o:RL.Bi}{x:Str}{p pos:Pos}{y:Expr}{a':RL.E}(hx:vY o=some x)(hb:Gl X x)(hb2:X.mg x=none)(ha:SE X cl y a')(hn:noStar y=true):SE X cl (.Call (.Name x p) [y] [] pos) (.bi o a'):=by
 cases o<;>simp only[vY]at hx<;>first | (cases hx;done) | skip
 case len=>cases hx;exact Ec hb hb2 ha hn
 case list=>cases hx;exact C7 hb hb2 ha hn
 case tuple=>cases hx;exact zc hb hb2 ha hn
 case int=>cases hx;exact Ey hb hb2 ha hn
 case all=>cases hx;exact Ee hcalm hb hb2 ha hn
 case sortedS=>cases hx;exact vU hb hb2 ha hn
def xO{r:Expr}(h:lF r=true):ve r:=by
 cases r<;>first | (cases h;done) | (intro a b;rfl) | skip
def eU{i:Nat}(h:XOk C X cl)(z:kF C i e=true):∃ x p,e=.Name x p/\X.N[i]?=some x/\Vis X.env.scope x/\(x == ("__debug__" : Str))=false/\(x == ("__classdict__" : Str))=false:=by
 obtain⟨x,z0,z⟩:=ay z;obtain⟨p,rfl⟩:=dk z0;obtain⟨z1,z2⟩:=af z;obtain⟨g1,g2⟩:=h.nm z1;exact⟨x,p,rfl,g1,h.vis z2,(du g2).1,(du g2).2⟩
def gH{i:Nat}(h:XOk C X cl)(z:gp C i e=true):∃ x p,e=.Name x p/\X.N[i]?=some x/\Loc X.env.scope x:=by
 obtain⟨x,z0,z⟩:=ay z;obtain⟨p,rfl⟩:=dk z0;obtain⟨z1,z2⟩:=af z;exact⟨x,p,rfl,(h.nm z1).1,h.loc z2⟩
def nW(h:XOk C X cl){T:List Nat}(hf:∀ i x,i∈T->X.N[i]?=some x->X.fn x=true\/X.env.scope.names.lookup x=some .local):∀ {is:List Nat} {es:List Expr},(∀ i∈is,i∈T)->kP C is es=true->PGs X es (gs is)/\(assignEach es X.env).length=is.length/\(assignEach es X.env).findIdx? (·.1)=none
 | [],es,_,z=>by
  rw[kP,List.isEmpty_iff]at z;subst z;exact⟨B7,rfl,rfl⟩
 | i::is,[],_,z=>by cases z
 | i::is,e::es,hs,z=>by
  rw[kP]at z;obtain⟨z1,z2⟩:=af z;obtain⟨x,p,rfl,g1,g2⟩:=gH h z1;obtain⟨h1,h2,h3⟩:=nW h hf (fun j hj=>hs j (List.mem_cons_of_mem _ hj)) z2;refine⟨zO (tG h.ndX g1 g2 (hf i x (hs i List.mem_cons_self) g1)) h1 rfl,?_,?_⟩
  ·show(assignEach es X.env).length+1=is.length+1;rw[h2]
  ·show List.findIdx? (·.1) ((false,assign (.Name x p) X.env)::assignEach es X.env)=none;rw[List.findIdx?_cons];simp only[Bool.false_eq_true,if_false,h3,Option.map_none]
def xD{tg:List Nat}{tgE:Expr}(h:XOk C X cl)(hf:∀ i x,i∈tg->X.N[i]?=some x->X.fn x=true\/X.env.scope.names.lookup x=some .local)(hc:nU C tg tgE=true):PG X tgE (gT X.K tg):=by
 unfold nU at hc;split at hc
 ·obtain⟨x,p,rfl,g1,g2⟩:=gH h hc;exact tG h.ndX g1 g2 (hf _ x (by simp) g1)
 ·rename_i hne;obtain⟨es,z0,z⟩:=ay hc;obtain⟨k,p,rfl⟩:=eZ z0;obtain⟨h1,h2,h3⟩:=nW h hf (fun i hi=>hi) z
  have e:gT X.K tg=fun v σ H Q=>nO X.K tg.length (gs tg) v σ H Q\/nR X.K tg.length (gs tg) v σ H Q:=by
   unfold gT;split
   ·rename_i i;exact absurd rfl (hne i)
   ·rfl
  rw[e];exact xI (xZ h.calm h1 h2 h3) (wC h.calm h1 h2 h3)
def Dn{x:Str}{i:Int}{pos:Pos}(h:XOk C X cl)(hg:glB C x=true)(hl:C.G.lookup x=some i):SE X cl (.Name x pos) (.glb x i):=by
 obtain⟨u,h1,h2⟩:=h.glb x i hl;obtain⟨g1,g2⟩:=h.gl hg;exact Ff (u:=u) (BQ g1 h1 h2 (du g2).1)
def BK{x:Str}{f:Nat}{p pos:Pos}{y:Expr}{ys:List Expr}{es:RL.Es}(h:XOk C X cl)(hg:glB C x=true)(hf:C.F[f]?=some (x,[]))(he:SEs X cl (y::ys) es)(hl:eJ es=ys.length+1)(hn:noStar y=true)(hns:ys.all noStar=true) :
  SE X cl (.Call (.Name x p) (y::ys) [] pos) (.call f es):=by
 obtain⟨k,fa,fd,ps,F,hr,hm,hk,hb⟩:=h.fns f x [] hf;obtain⟨g1,g2⟩:=h.gl hg;rw[if_pos rfl]at F
 cases es with
 | nil=>simp[eJ]at hl
 | cons e' es'=>exact Ci F hr g1 hm hk hb he (du g2).1 hn hns
def qo{scope sc:Scope}(h:scB scope sc=true):p6 scope sc:=by
 unfold scB at h;obtain⟨h1,h2⟩:=af h;rw[List.all_eq_true]at h2;refine⟨by simpa using h1,fun x hx z=>?_,fun x hx z=>?_,fun x hx z=>?_⟩
 ·have:=h2 x hx;rw[z]at this;simpa using this
 ·have:=h2 x hx;rw[z]at this;simpa using this
 ·have:=h2 x hx;rw[z]at this;simpa using this
def jr{scope:Scope}{tg:List Nat}(h:nC C scope tg=true)(i:Nat)(x:Str)(hx:C.N[i]?=some x)(hl:scope.names.lookup x=some .local\/scope.names.lookup x=some .cell):tg.contains i=true:=by
 unfold nC at h;rw[List.all_eq_true]at h;have:=h i (List.mem_range.mpr (List.getElem?_eq_some_iff.mp hx).1);rw[hx]at this;rcases hl with hl | hl
 ·simp only[hl,beq_self_eq_true,Bool.true_or,Bool.not_true,Bool.false_or]at this;exact this
 ·simp only[hl,beq_self_eq_true,Bool.or_true,Bool.not_true,Bool.false_or]at this;exact this
def pD{X:Cx}{cls:List (Str × Addr)}{scope:Scope}{Ca:Addr}{fp:List Addr}{s:Shared}{H:Hp}{pins:List (Addr × Obj)}{s':Shared}{σ:L2.St}{H':Hp}{Q:Bool->Hp->Prop}(I:Inv (L2.blk X scope cls Ca fp s H) pins σ H' s')(q:mY σ H' Q) :
  wpAny (model X.prog X.w) X.A (gG [] (compEnvC scope cls Ca X.env)) (TP (L2.blk X scope cls Ca fp s H) pins σ Q) (fun _ _=>False) s':=by
 unfold gG;exact wpAny_pure ⟨H',I,q⟩
def pS{X:Cx}{cls:List (Str × Addr)}{scope:Scope}{Ca:Addr}{fp:List Addr}{s:Shared}{H:Hp}{pins:List (Addr × Obj)}{s':Shared}{σ:L2.St}{H':Hp}{Q:Bool->Hp->Prop}{c:Expr}{t:TT}(hc:PT (L2.blk X scope cls Ca fp s H) c t)(I:Inv (L2.blk X scope cls Ca fp s H) pins σ H' s')(q:t σ H' Q) :
  wpAny (model X.prog X.w) X.A (gG [c] (compEnvC scope cls Ca X.env)) (TP (L2.blk X scope cls Ca fp s H) pins σ Q) (fun _ _=>False) s':=by
 have h:=hc pins s' σ H' Q I q;unfold gG;simp only[List.forIn_cons,List.forIn_nil,if_true];refine wpAny_bind (wpAny_bind (thn h fun b s1 hb=>wpAny_pure ?_));exact wpAny_pure hb
def mV(h:XOk C X cl){scope:Scope}{cls:List (Str × Addr)}{Ca:Addr}{fp:List Addr}{s:Shared}{H:Hp}{tg:List Nat}(ha:mG C scope tg=true){tgE:Expr}(hc:nU (C.inner scope) tg tgE=true):PG (L2.blk X scope cls Ca fp s H) tgE (gT X.K tg):=by
 have hb:=h.blk (scope:=scope) cls Ca fp s H;unfold mG at ha;rw[List.all_eq_true]at ha;refine xD hb (fun i x hi hx=>?_) hc;have:=ha i hi;have hx:X.N[i]?=some x:=hx;rw[h.names]at hx;rw[hx]at this;simp only[Bool.or_eq_true,beq_iff_eq]at this;rcases this with z | z
 ·exact .inr (lookup_relabel_local z)
 ·exact .inl (by show(scope.names.lookup x == some .cell)=true;rw[z];rfl)
def uE{α:Type}{o:Option α}(h:o.isNone=true):o=none:=by
 cases o with
 | none=>rfl
 | some _=>cases h
end
mutual
theorem ak{cl:RL.Cl}:∀ (e':RL.E) {C:CC} {X:Cx} (h:XOk C X cl) (e:Expr),sY X cl e e' (chk C false e' e) (chk C true e' e)
 | .var i,C,X,h,e=>aH (b:=chk C false (.var i) e) fun z=>by
  obtain⟨x,p,rfl,g1,g2,g3,g4⟩:=eU h z;exact⟨Dm g1 g2 g3 g4,rfl⟩
 | .cst d,C,X,h,e=>aH (b:=chk C false (.cst d) e) fun z=>by
  obtain⟨k,z0,z⟩:=ay z;obtain⟨j,p,rfl⟩:=De z0;exact⟨G5 z,rfl⟩
 | .glb y i,C,X,h,e=>aH (b:=chk C false (.glb y i) e) fun z=>by
  obtain⟨x,z0,z⟩:=ay z;obtain⟨p,rfl⟩:=dk z0;obtain⟨z,z3⟩:=af z;obtain⟨z1,z2⟩:=af z;rw[beq_iff_eq]at z1 z3;subst z1;exact⟨Dn h z2 z3,rfl⟩
 | .bin o a b,C,X,h,e=>aH (b:=chk C false (.bin o a b) e) fun z=>by
  obtain⟨⟨l,op,r⟩,z0,z⟩:=ay z;obtain⟨p,rfl⟩:=CT z0;obtain⟨z,z3⟩:=af z;obtain⟨z1,z2⟩:=af z;rw[beq_iff_eq]at z1;have z1:op=qX o:=z1;subst z1;exact⟨Fq ((ak a h l).1 z2) ((ak b h r).1 z3),rfl⟩
 | .neg a,C,X,h,e=>aH (b:=chk C false (.neg a) e) fun z=>by
  obtain⟨⟨op,x⟩,z0,z⟩:=ay z;obtain⟨p,rfl⟩:=rD z0;obtain⟨z1,z2⟩:=af z;rw[beq_iff_eq]at z1;have z1:op=.USub:=z1;subst z1;exact⟨FH ((ak a h x).1 z2),rfl⟩
 | .cmp c a b,C,X,h,e=>jf (b:=chk C false (.cmp c a b) e) fun z=>by
  obtain⟨⟨l,os,rs⟩,z0,z⟩:=ay z;obtain⟨p,rfl⟩:=iH z0;obtain⟨op,y1,z⟩:=aO z;obtain⟨r,y2,z⟩:=aO z;have y1:os=[op]:=y1;have y2:rs=[r]:=y2;subst y1 y2;obtain⟨z,z3⟩:=af z;obtain⟨z1,z2⟩:=af z;rw[beq_iff_eq]at z1;subst z1;exact⟨Gu h.hu ((ak a h l).1 z2) ((ak b h r).1 z3),FR h.hu ((ak a h l).1 z2) ((ak b h r).1 z3),rfl⟩
 | .chain c c' a b d,C,X,h,e=>jf (b:=chk C false (.chain c c' a b d) e) fun z=>by
  obtain⟨⟨l,os,rs⟩,z0,z⟩:=ay z;obtain⟨p,rfl⟩:=iH z0;obtain⟨op,op',y1,z⟩:=fS z;obtain⟨r,s,y2,z⟩:=fS z;have y1:os=[op,op']:=y1;have y2:rs=[r,s]:=y2;subst y1 y2;obtain⟨z,z5⟩:=af z;obtain⟨z,z4⟩:=af z;obtain⟨z,z3⟩:=af z;obtain⟨z1,z2⟩:=af z;rw[beq_iff_eq]at z1 z2;subst z1 z2;exact⟨AA h.hu ((ak a h l).1 z3) ((ak b h r).1 z4) ((ak d h s).1 z5),AD h.hu ((ak a h l).1 z3) ((ak b h r).1 z4) ((ak d h s).1 z5),rfl⟩
 | .inn neg a b,C,X,h,e=>jf (b:=chk C false (.inn neg a b) e) fun z=>by
  obtain⟨⟨l,os,rs⟩,z0,z⟩:=ay z;obtain⟨p,rfl⟩:=iH z0;obtain⟨op,y1,z⟩:=aO z;obtain⟨r,y2,z⟩:=aO z;have y1:os=[op]:=y1;have y2:rs=[r]:=y2;subst y1 y2;obtain⟨z,z4⟩:=af z;obtain⟨z,z3⟩:=af z;obtain⟨z1,z2⟩:=af z;rw[beq_iff_eq]at z1;subst z1;exact⟨Gs ((ak a h l).1 z3) ((ak b h r).1 z4) z2,Gi ((ak a h l).1 z3) ((ak b h r).1 z4) z2,rfl⟩
 | .inD neg a b,C,X,h,e=>jf (b:=chk C false (.inD neg a b) e) fun z=>by
  obtain⟨⟨l,os,rs⟩,z0,z⟩:=ay z;obtain⟨p,rfl⟩:=iH z0;obtain⟨op,y1,z⟩:=aO z;obtain⟨r,y2,z⟩:=aO z;have y1:os=[op]:=y1;have y2:rs=[r]:=y2;subst y1 y2;obtain⟨z,z4⟩:=af z;obtain⟨z,z3⟩:=af z;obtain⟨z1,z2⟩:=af z;rw[beq_iff_eq]at z1;subst z1;exact⟨EI h.hu ((ak a h l).1 z3) ((ak b h r).1 z4) z2,Ge h.hu ((ak a h l).1 z3) ((ak b h r).1 z4) z2,rfl⟩
 | .and a b,C,X,h,e=>⟨(fun z=>by
   obtain⟨⟨op,es,p⟩,z0,z⟩:=ay z;obtain⟨l,r,rest,y1,z⟩:=mB z;have e0:=iT z0;have y1:es=l::r::rest:=y1;obtain⟨z,z3⟩:=af z;obtain⟨z1,z2⟩:=af z;rw[beq_iff_eq]at z1;have z1:op=.And:=z1;subst y1 z1 e0;refine DU ((ak a h l).1 z2) ?_;split at z3
   ·rename_i hr;rw[List.isEmpty_iff]at hr;subst hr;exact wH ((ak b h r).1 z3)
   ·exact(ak b h _).1 z3),(fun z=>by
   obtain⟨⟨op,es,p⟩,z0,z⟩:=ay z;obtain⟨l,r,rest,y1,z⟩:=mB z;have e0:=iT z0;have y1:es=l::r::rest:=y1;obtain⟨z,z3⟩:=af z;obtain⟨z1,z2⟩:=af z;rw[beq_iff_eq]at z1;have z1:op=.And:=z1;subst y1 z1 e0
   have w:SW X cl (.BoolOp .And (l::r::rest) p) (.and a b):=by
    refine FT ((ak a h l).2 z2).1 ?_;split at z3
    ·rename_i hr;rw[List.isEmpty_iff]at hr;subst hr;exact yn ((ak b h r).2 z3).1
    ·exact((ak b h _).2 z3).2 rfl
   exact⟨w.pt,fun _=>w⟩)⟩
 | .or a b,C,X,h,e=>⟨(fun z=>by
   obtain⟨⟨op,es,p⟩,z0,z⟩:=ay z;obtain⟨l,r,rest,y1,z⟩:=mB z;have e0:=iT z0;have y1:es=l::r::rest:=y1;obtain⟨z,z3⟩:=af z;obtain⟨z1,z2⟩:=af z;rw[beq_iff_eq]at z1;have z1:op=.Or:=z1;subst y1 z1 e0;refine Hj ((ak a h l).1 z2) ?_;split at z3
   ·rename_i hr;rw[List.isEmpty_iff]at hr;subst hr;exact wH ((ak b h r).1 z3)
   ·exact(ak b h _).1 z3),(fun z=>by
   obtain⟨⟨op,es,p⟩,z0,z⟩:=ay z;obtain⟨l,r,rest,y1,z⟩:=mB z;have e0:=iT z0;have y1:es=l::r::rest:=y1;obtain⟨z,z3⟩:=af z;obtain⟨z1,z2⟩:=af z;rw[beq_iff_eq]at z1;have z1:op=.Or:=z1;subst y1 z1 e0
   have w:SW X cl (.BoolOp .Or (l::r::rest) p) (.or a b):=by
    refine GX ((ak a h l).2 z2).1 ?_;split at z3
    ·rename_i hr;rw[List.isEmpty_iff]at hr;subst hr;exact yn ((ak b h r).2 z3).1
    ·exact((ak b h _).2 z3).2 rfl
   exact⟨w.pt,fun _=>w⟩)⟩
 | .not a,C,X,h,e=>⟨(fun z=>by
   obtain⟨⟨op,x⟩,z0,z⟩:=ay z;obtain⟨p,rfl⟩:=rD z0;obtain⟨z1,z2⟩:=af z;rw[beq_iff_eq]at z1;have z1:op=.Not:=z1;subst z1
   exact D6 ((ak a h x).1 z2)),(fun z=>by
   obtain⟨⟨op,x⟩,z0,z⟩:=ay z;obtain⟨p,rfl⟩:=rD z0;obtain⟨z1,z2⟩:=af z;rw[beq_iff_eq]at z1;have z1:op=.Not:=z1;subst z1
   exact⟨Er ((ak a h x).2 z2).1,fun q=>by cases q⟩)⟩
 | .ifx c a b,C,X,h,e=>⟨(fun z=>by
   obtain⟨⟨q,l,r⟩,z0,z⟩:=ay z;obtain⟨p,rfl⟩:=BI z0;obtain⟨z,z4⟩:=af z;obtain⟨z,z3⟩:=af z;obtain⟨z1,z2⟩:=af z
   exact Gg ((ak c h q).2 z2).1 ((ak a h l).1 z3) ((ak b h r).1 z4)),(fun z=>by
   obtain⟨⟨q,l,r⟩,z0,z⟩:=ay z;obtain⟨z,z4⟩:=af z;obtain⟨z,z3⟩:=af z;obtain⟨z1,z2⟩:=af z
   cases z1)⟩
 | .tup es,C,X,h,e=>aH (b:=chk C false (.tup es) e) fun z=>by
  obtain⟨xs,z0,z⟩:=ay z;obtain⟨k,p,rfl⟩:=eZ z0;obtain⟨z1,z2⟩:=af z;exact⟨ET (j0 es h _ z1).1 (by simpa using z2),rfl⟩
 | .lst es,C,X,h,e=>aH (b:=chk C false (.lst es) e) fun z=>by
  obtain⟨xs,z0,z⟩:=ay z;obtain⟨p,rfl⟩:=BJ z0;obtain⟨z1,z2⟩:=af z;exact⟨GI (j0 es h _ z1).1 (by simpa using z2),rfl⟩
 | .ix a b,C,X,h,e=>aH (b:=chk C false (.ix a b) e) fun z=>by
  obtain⟨⟨l,r⟩,z0,z⟩:=ay z;obtain⟨p,rfl⟩:=kB z0;obtain⟨z,z3⟩:=af z;obtain⟨z1,z2⟩:=af z;exact⟨HK ((ak a h l).1 z2) ((ak b h r).1 z3) z1,rfl⟩
 | .ixD a b,C,X,h,e=>aH (b:=chk C false (.ixD a b) e) fun z=>by
  obtain⟨⟨l,r⟩,z0,z⟩:=ay z;obtain⟨p,rfl⟩:=kB z0;obtain⟨z,z3⟩:=af z;obtain⟨z1,z2⟩:=af z;exact⟨G3 h.hu ((ak a h l).1 z2) ((ak b h r).1 z3) (xO z1),rfl⟩
 | .slT a b,C,X,h,e=>aH (b:=chk C false (.slT a b) e) fun z=>by
  obtain⟨⟨l,s⟩,z0,z⟩:=ay z;obtain⟨p,rfl⟩:=kB z0;obtain⟨z1,z⟩:=af z;obtain⟨⟨s1,s2,s3⟩,z0,z⟩:=ay z;obtain⟨q,e0⟩:=Fv z0;have e0:s=.Slice s1 s2 s3 q:=e0;obtain⟨z,z4⟩:=af z;obtain⟨z2,z3⟩:=af z;have w2:s1=none:=uE z2;have w3:s3=none:=uE z3;obtain⟨r,y0,z4⟩:=ay z4;have y1:s2=some r:=y0;rw[w2,w3,y1]at e0;subst e0;exact⟨Ej ((ak a h l).1 z1) ((ak b h r).1 z4),rfl⟩
 | .call f es,C,X,h,e=>aH (b:=chk C false (.call f es) e) fun z=>by
  obtain⟨⟨g,as,ks,p⟩,z0,z⟩:=ay z;have z0:=gN z0;subst z0;obtain⟨z,z4⟩:=af z;obtain⟨z,z3⟩:=af z;obtain⟨z1,z2⟩:=af z;obtain⟨x,y0,z1⟩:=ay z1;obtain⟨q,e0⟩:=dk y0;have e0:g=.Name x q:=e0;obtain⟨y1,y2⟩:=af z1;rw[beq_iff_eq]at y2
  have w2:ks=[]:=by rw[List.isEmpty_iff]at z2;exact z2
  subst e0 w2;obtain⟨q1,q2,q3⟩:=j0 es h _ z4;dsimp only at z3 q1 q2 q3
  cases as with
  | nil=>cases z3
  |cons y ys=>
   rw[List.all_cons]at q3;exact⟨BK h y1 y2 q1 q2 (af q3).1 (af q3).2,rfl⟩
 | .bi o a,C,X,h,e=>by
  have gen:(∀ t,chk C t (.bi o a) e=((vY o).any fun x=>bj C e x fun ys=>of1 ys fun y=>chk C false a y))->sY X cl e (.bi o a) (chk C false (.bi o a) e) (chk C true (.bi o a) e):=fun heq=>by
   rw[heq,heq];refine aH fun z=>?_;obtain⟨x,y0,z⟩:=ay z;obtain⟨p,as,pos,rfl,b1,b2,z3,z4⟩:=bD h z;obtain⟨y,rfl,z4⟩:=aO z4;exact⟨GQ h.calm y0 b1 b2 ((ak a h y).1 z4) (all1 z3),rfl⟩
  cases o
  case lenSet =>
   refine aH (b:=chk C false (.bi .lenSet a) e) fun z=>?_;have z:(bj C e "len" fun ys=>of1 ys fun y=>bj C y "set" fun zs=>of1 zs fun z=>chk C false a z)=true:=z;obtain⟨p,as,pos,rfl,b1,b2,z3,z4⟩:=bD h z;obtain⟨y,rfl,z5⟩:=aO z4;obtain⟨p',as',pos',rfl,b1',b2',z3',z6⟩:=bD h z5;obtain⟨y,rfl,z7⟩:=aO z6;exact⟨wM h.calm b1 b2 b1' b2' ((ak a h y).1 z7) (all1 z3'),rfl⟩
  all_goals exact gen fun t=>rfl
 | .isi a ty,C,X,h,e=>aH (b:=chk C false (.isi a ty) e) fun z=>by
  have z:(bj C e "isinstance" fun ys=>of2 ys fun y z=>(f9 z).any (fun x=>x == qY ty&&qI C x)&&chk C false a y)=true:=z;obtain⟨p,as,pos,rfl,b1,b2,z3,z4⟩:=bD h z;obtain⟨y,u,rfl,z4⟩:=fS z4;obtain⟨z5,z6⟩:=af z4;obtain⟨x,w0,w⟩:=ay z5;obtain⟨q,rfl⟩:=dk w0;obtain⟨w1,w2⟩:=af w;rw[beq_iff_eq]at w1;subst w1;obtain⟨t1,t2,t3⟩:=wR ty;exact⟨Dq b1 b2 (h.bl w2).1 (h.bl w2).2 t1 t2 t3 ((ak a h y).1 z6) (all2 z3).1,rfl⟩
 | .rng1 a,C,X,h,e=>aH (b:=chk C false (.rng1 a) e) fun z=>by
  have z:(bj C e "list" fun ys=>of1 ys fun y=>bj C y "range" fun zs=>of1 zs fun z=>chk C false a z)=true:=z;obtain⟨p,as,pos,rfl,b1,b2,z3,z4⟩:=bD h z;obtain⟨y,rfl,z5⟩:=aO z4;obtain⟨p',as',pos',rfl,b1',b2',z3',z6⟩:=bD h z5;obtain⟨y,rfl,z7⟩:=aO z6;exact⟨B5 h.calm b1 b2 b1' b2' ((ak a h y).1 z7) (all1 z3'),rfl⟩
 | .rng2 a b,C,X,h,e=>aH (b:=chk C false (.rng2 a b) e) fun z=>by
  have z:(bj C e "list" fun ys=>of1 ys fun y=>bj C y "range" fun zs=>of2 zs fun z u=>chk C false a z&&chk C false b u)=true:=z;obtain⟨p,as,pos,rfl,b1,b2,z3,z4⟩:=bD h z;obtain⟨y,rfl,z5⟩:=aO z4;obtain⟨p',as',pos',rfl,b1',b2',z3',z6⟩:=bD h z5;obtain⟨y,u,rfl,z7⟩:=fS z6;exact⟨BM h.calm b1 b2 b1' b2' ((ak a h y).1 (af z7).1) ((ak b h u).1 (af z7).2) (all2 z3').1 (all2 z3').2,rfl⟩
 | .rng3 c a b,C,X,h,e=>aH (b:=chk C false (.rng3 c a b) e) fun z=>by
  have z:(bj C e "list" fun ys=>of1 ys fun y=>bj C y "range" fun zs=>of3 zs fun z u q=>gf c q&&chk C false a z&&chk C false b u)=true:=z;obtain⟨p,as,pos,rfl,b1,b2,z3,z4⟩:=bD h z;obtain⟨y,rfl,z5⟩:=aO z4;obtain⟨p',as',pos',rfl,b1',b2',z3',z6⟩:=bD h z5;obtain⟨y,u,q,rfl,z7⟩:=rK z6;obtain⟨z7,z9⟩:=af z7;obtain⟨z7,z8⟩:=af z7;exact⟨CH h.calm b1 b2 b1' b2' ((ak a h y).1 z8) ((ak b h u).1 z9) (oa z3').1 (oa z3').2.1 z7,rfl⟩
 | .comp d tg it c,C,X,h,e=>aH (b:=chk C false (.comp d tg it c) e) fun z=>by
  obtain⟨⟨elt,gens,scope,p⟩,z0,z⟩:=ay z;have z0:=r9 z0;subst z0;obtain⟨⟨tgE,iter,ifs,asy⟩,y1,z⟩:=aO z;have y1:gens=[⟨tgE,iter,ifs,asy⟩]:=y1;obtain⟨w,y2,z⟩:=aO z;have y2:ifs=[w]:=y2;obtain⟨z,z8⟩:=af z;obtain⟨z,z7⟩:=af z;obtain⟨z,z6⟩:=af z;obtain⟨z,z5⟩:=af z;obtain⟨z,z4⟩:=af z;obtain⟨z,z3⟩:=af z;obtain⟨z,z2⟩:=af z;obtain⟨z0,z1⟩:=af z;rw[beq_iff_eq]at z0;have w0:asy=0:=z0;subst y1 w0;subst y2;refine⟨Ac (fun _ _ _ _=>h.calm) (by rw[h.scope];exact qo z1) (iL it h _ _ z6) ?_ (fI z3 _),rfl⟩;exact⟨fun cls Ca fp s H=>mV h z5 z4,fun cls Ca fp s H pins s' σ H' Q I q=>pS ((ak c (h.blk cls Ca fp s H) _).2 z8).1 I q,fun cls Ca fp s H=>(ak d (h.blk cls Ca fp s H) _).1 z7,fun i x hx hl=>jr z2 i x (by rw[<-h.names];exact hx) hl⟩
 | .compA d tg it,C,X,h,e=>aH (b:=chk C false (.compA d tg it) e) fun z=>by
  obtain⟨⟨elt,gens,scope,p⟩,z0,z⟩:=ay z;have z0:=r9 z0;subst z0;obtain⟨⟨tgE,iter,ifs,asy⟩,y1,z⟩:=aO z;have y1:gens=[⟨tgE,iter,ifs,asy⟩]:=y1;obtain⟨z,z7⟩:=af z;obtain⟨z,z6⟩:=af z;obtain⟨z,z5⟩:=af z;obtain⟨z,z4⟩:=af z;obtain⟨z,z3⟩:=af z;obtain⟨z,z2⟩:=af z;obtain⟨z,z1⟩:=af z;obtain⟨y2,z0⟩:=af z;rw[beq_iff_eq]at z0;have w0:asy=0:=z0
  have w2:ifs=[]:=by rw[List.isEmpty_iff]at y2;exact y2
  subst y1 w0;subst w2;refine⟨zj h.calm (by rw[h.scope];exact qo z1) (iL it h _ _ z6) ?_ (fI z3 _),rfl⟩;exact⟨fun cls Ca fp s H=>mV h z5 z4,fun cls Ca fp s H pins s' σ H' Q I q=>pD I q,fun cls Ca fp s H=>(ak d (h.blk cls Ca fp s H) _).1 z7,fun i x hx hl=>jr z2 i x (by rw[<-h.names];exact hx) hl⟩
 | .dk0,C,X,h,e=>aH (b:=chk C false .dk0 e) fun z=>by
  obtain⟨⟨ks,vs⟩,z0,z⟩:=ay z;obtain⟨p,rfl⟩:=rz z0;obtain⟨z1,z2⟩:=af z;rw[List.isEmpty_iff]at z1 z2;have z1:ks=[]:=z1;have z2:vs=[]:=z2;subst z1 z2;exact⟨FG,rfl⟩
 | .dt0,C,X,h,e=>aH (b:=chk C false .dt0 e) fun z=>by
  obtain⟨⟨ks,vs⟩,z0,z⟩:=ay z;obtain⟨p,rfl⟩:=rz z0;obtain⟨z1,z2⟩:=af z;rw[List.isEmpty_iff]at z1 z2;have z1:ks=[]:=z1;have z2:vs=[]:=z2;subst z1 z2;exact⟨E9,rfl⟩
theorem j0{cl:RL.Cl}:∀ (es':RL.Es) {C:CC} {X:Cx} (h:XOk C X cl) (es:List Expr),nc C es' es=true->SEs X cl es es'/\eJ es'=es.length/\es.all noStar=true
 | .nil,C,X,h,es,z=>by
  have z:es=[]:=List.isEmpty_iff.mp z;subst z;exact⟨cV,rfl,rfl⟩
 | .cons e' es',C,X,h,es,z=>by
  cases es with
  | nil=>cases z
  |cons e es=>
   obtain⟨z,z3⟩:=af z;obtain⟨z1,z2⟩:=af z;obtain⟨q1,q2,q3⟩:=j0 es' h es z3;exact⟨bR ((ak e' h e).1 z2) q1 z1,by rw[eJ,q2,List.length_cons],by rw[List.all_cons,z1,q3];rfl⟩
theorem iL{cl:RL.Cl}:∀ (it:RL.It) {C:CC} {X:Cx} (h:XOk C X cl) (tg e:Expr),vi C it tg e=true->SI X cl tg e it
 | .seq a,C,X,h,tg,e,z=>Co ((ak a h e).1 z)
 | .rng1 a,C,X,h,tg,e,z=>by
  have z:(bj C e "range" fun ys=>of1 ys fun y=>chk C false a y)=true:=z;obtain⟨p,as,pos,rfl,b1,b2,z3,z4⟩:=bD h z;obtain⟨y,rfl,z4⟩:=aO z4;exact Cg b1 b2 ((ak a h y).1 z4) (all1 z3)
 | .rng2 a b,C,X,h,tg,e,z=>by
  have z:(bj C e "range" fun ys=>of2 ys fun y z=>chk C false a y&&chk C false b z)=true:=z;obtain⟨p,as,pos,rfl,b1,b2,z3,z4⟩:=bD h z;obtain⟨y,u,rfl,z4⟩:=fS z4;exact C5 b1 b2 ((ak a h y).1 (af z4).1) ((ak b h u).1 (af z4).2) (all2 z3).1 (all2 z3).2
 | .rng3 c a b,C,X,h,tg,e,z=>by
  have z:(bj C e "range" fun ys=>of3 ys fun y z q=>gf c q&&chk C false a y&&chk C false b z)=true:=z;obtain⟨p,as,pos,rfl,b1,b2,z3,z4⟩:=bD h z;obtain⟨y,u,q,rfl,z4⟩:=rK z4;obtain⟨z4,z6⟩:=af z4;obtain⟨z4,z5⟩:=af z4;exact BB b1 b2 ((ak a h y).1 z5) ((ak b h u).1 z6) (oa z3).1 (oa z3).2.1 z4
 | .chr a,C,X,h,tg,e,z=>DI ((ak a h e).1 z)
 | .key a,C,X,h,tg,e,z=>GJ ((ak a h e).1 z)
 | .enm a,C,X,h,tg,e,z=>by
  obtain⟨z0,zz⟩:=af z;obtain⟨ts,z0⟩:=Option.isSome_iff_exists.mp z0;obtain⟨k,tp,rfl⟩:=eZ z0;obtain⟨p,as,pos,rfl,b1,b2,z3,z4⟩:=bD h zz;obtain⟨y,rfl,z4⟩:=aO z4;exact CL b1 b2 ((ak a h y).1 z4) (all1 z3)
 | .zip a b,C,X,h,tg,e,z=>by
  obtain⟨z0,zz⟩:=af z;obtain⟨ts,z0⟩:=Option.isSome_iff_exists.mp z0;obtain⟨k,tp,rfl⟩:=eZ z0;obtain⟨p,as,pos,rfl,b1,b2,z3,z4⟩:=bD h zz;obtain⟨y,u,rfl,z4⟩:=fS z4;exact PI'.calm (E3 b1 b2 ((ak a h y).1 (af z4).1) ((ak b h u).1 (af z4).2) (all2 z3).1 (all2 z3).2)
end
abbrev iK:Expr->Bool
 | .ListComp _ _ _ _=>false
 | .SetComp _ _ _ _=>false
 | .DictComp _ _ _ _ _=>false
 | _=>true
abbrev yi:Expr->Bool
 | .Tuple _ _ _=>false
 | _=>true
abbrev we(e:Expr):Bool:=match e with
 | .SetComp _ _ _ _=>false
 | .DictComp _ _ _ _ _=>false
 | _=>true
abbrev Ax(C:CC)(x y:Str)(px py:Pos)(a b:Expr):Bool :=
 C.sc.kind == .function&&C.sc.names.lookup x == some .local&&C.sc.names.lookup y == some .local&&px.line == py.line && !(x == y)&&noStar a&&noStar b && !(foldedForSure 8 a&&foldedForSure 8 b) && !(constantsAlone 8 a&&constantsAlone 8 b)
abbrev uO(M:List Nat):RL.E->Bool
 | .var i=>M.contains i
 | _=>false
abbrev vd(C:CC):RL.Es->List Expr->Bool
 | .nil=>fun xs=>xs.isEmpty
 | .cons e es=>fun xs=>match xs with
  | x::xs=>noStar x&&chk C false e x&&vd C es xs
  | []=>false
abbrev Bh:RL.Bop->Operator->Bool
 | .add,.Add=>true
 | .sub,.Sub=>true
 | _,_=>false
abbrev sr:Expr->Option (Str × Pos)
 | .Name x p=>some (x,p)
 | _=>none
def pP{e:Expr}{x:Str}{p:Pos}(h:sr e=some (x,p)):e=.Name x p:=by
 cases e
 case Name=>cases h;rfl
 all_goals exact nos h
abbrev mF(C:CC)(i:Nat)(nm:Str)(e:Expr)(f:List Expr->Bool):Bool:=(kJ e).any fun q=>(AX q.1).any (fun a=>kF C i a.1&&a.2.1 == nm&&a.2.2.endLine == q.2.2.2.line)&&q.2.2.1.isEmpty&&f q.2.1
abbrev rm(C:CC)(M:List Nat)(f:Nat)(es:RL.Es)(ps ms:List Nat)(e:Expr):Bool:=(kJ e).any fun q=>(f9 q.1).any (fun x=>glB C x&&C.F[f]? == some (x,ps))&&q.2.2.1.isEmpty && !q.2.1.isEmpty && !ps.isEmpty&&vd C es q.2.1&&bW es ps ms&&ms.all (fun i=>M.contains i)&&decide ms.Nodup&&decide ps.Nodup
abbrev zG(C:CC)(i:Nat)(e':RL.E)(st:Stmt):Bool:=(lJ st).any fun q=>of1 q.1 fun t=>gp C i t&&we q.2&&chk C false e' q.2
mutual
noncomputable def Ak(C:CC)(M:List Nat):RL.S->Stmt->Bool
 | .asg i e'=>fun st=>(lJ st).any fun q=>of1 q.1 fun t=>gp C i t && !M.contains i&&we q.2&&chk C false e' q.2
 | .own i e'=>fun st=>(lJ st).any fun q=>of1 q.1 fun t=>gp C i t&&M.contains i&&decide (M.count i<2)&&we q.2&&chk C false e' q.2
 | .unp is e'=>fun st=>(lJ st).any fun q=>of1 q.1 fun t=>(jK t).any fun ts=>kP C is ts&&is.all (fun i=>!M.contains i)&&yi q.2&&chk C false e' q.2
 | .par i j a' b'=>fun st=>(lJ st).any fun q=>of1 q.1 fun t=>(jK t).any fun ts=>of2 ts fun s u=>(sr s).any fun x=>(sr u).any fun y=>(jK q.2).any fun vs=>of2 vs fun a b=>nmB C i x.1&&nmB C j y.1 && !(i == j) && !M.contains i && !M.contains j&&Ax C x.1 y.1 x.2 y.2 a b&&chk C false a' a&&chk C false b' b
 | .app i e'=>fun st=>(rL st).any fun e=>mF C i "append" e fun as=>of1 as fun y=>M.contains i&&noStar y&&chk C false e' y
 | .put i k' e'=>fun st=>(lJ st).any fun q=>of1 q.1 fun t=>(sL t).any fun u=>kF C i u.1&&M.contains i&&lF u.2&&iK q.2&&chk C false k' u.2&&chk C false e' q.2
 | .aug i o e'=>fun st=>(zh st).any fun q=>gp C i q.1 && !M.contains i&&Bh o q.2.1&&chk C false e' q.2.2
 | .augs i e'=>fun st=>(zh st).any fun q=>gp C i q.1 && !M.contains i&&q.2.1 == .Add&&chk C false e' q.2.2
 | .tie3 f r p w=>fun st=>(rL st).any fun e=>(kJ e).any fun q=>(f9 q.1).any (fun x=>glB C x&&C.F[f]? == some (x,[0]))&&q.2.2.1.isEmpty&&M.contains r && !M.contains p&&M.contains w && !(r == w)&&of3 q.2.1 fun a b c=>kF C r a&&kF C p b&&mF C w "pop" c fun as=>as.isEmpty
 | .ife c' a' b'=>fun st=>(wIf st).any fun q=>chk C true c' q.1&&et C M a' q.2.1&&et C M b' q.2.2
 | .forr tg it b'=>fun st=>(Ez st).any fun q=>q.2.2.2.isEmpty&&vi C it q.1 q.2.1&&nU C tg q.1&&mH q.2.1&&RL.wd M it&&tg.all (fun i=>!M.contains i)&&et C M b' q.2.2.1
 | .mexc f es ps ms=>fun st=>(rL st).any fun e=>rm C M f es ps ms e
 | .ret e'=>fun st=>(F3 st).any fun o=>o.any fun e=>chk C false e' e
 | .exc e'=>fun st=>(rL st).any fun e=>iK e&&chk C false e' e
 | .ifp i e' a' b'=>fun st=>(wIf st).any fun q=>(oO q.1).any fun u=>of1 u.2.1 fun op=>of1 u.2.2 fun e=>op == .NotEq&&M.contains i&&chk C false e' e&&et C M a' q.2.1&&et C M b' q.2.2&&mF C i "pop" u.1 fun as=>as.isEmpty
 | .whil c' b'=>fun st=>(Fe st).any fun q=>q.2.2.isEmpty&&chk C true c' q.1&&et C M b' q.2.1
 | .rais _ _=>fun _=>true
noncomputable def et(C:CC)(M:List Nat):RL.Ss->List Stmt->Bool
 | .nil=>fun xs=>xs.isEmpty
 | .cons s r=>fun xs=>match xs with
  | x::xs=>Ak C M s x&&et C M r xs
  | []=>false
 | .opn j e' r=>fun xs=>match xs with
  | x::xs=>zG C j e' x && !M.contains j&&qf C M (j::M) r xs
  | []=>false
noncomputable def qf(C:CC)(M:List Nat)(N:List Nat):RL.Sq->List Stmt->Bool
 | .cls r=>fun xs=>et C M r xs
 | .cons s r=>fun xs=>match xs with
  | x::xs=>Ak C N s x&&qf C M N r xs
  | []=>false
 | .opn j e' r=>fun xs=>match xs with
  | x::xs=>zG C j e' x&&decide (M.count j<2)&&qf C M (j::N) r xs
  | []=>false
 | .frz j r=>fun xs=>et C M r xs&&(!M.contains j&&decide (N=j::M))
end
structure YOk(C:CC)(X:Cx)(cl:RL.Cl):Prop extends XOk C X cl where
 fn:∀ x,X.fn x=true
section
variable{C:CC}{X:Cx}{cl:RL.Cl}{M:List Nat}{st:Stmt}{e:Expr}{e' k':RL.E}{i:Nat}
def eV{t:Option Expr}{l:Nat}{env:Env}(h:iK e=true):swapsWith e t l env=pure false:=by
 cases e<;>first | rfl | (cases h;done)
def vx{t:Expr}{spos:Pos}(h:YOk C X cl)(hn:gp C i t=true)(ha:we e=true)(hc:chk C false e' e=true):SA X cl (.Assign [t] e spos) i e':=by
 obtain⟨y,py,rfl,hN,hl⟩:=gH h.toXOk hn
 have plain:swapsWith e (some (.Name y py)) spos.line X.env=pure false->SA X cl (.Assign [.Name y py] e spos) i e':=fun z =>
  As h.ndX hN hl ((ak e' h.toXOk e).1 hc) (.inl (h.fn y)) z trivial
 by_cases hcomp:iK e=true
 ·exact plain (eV hcomp)
 ·have:∃ elt gens scope p,e=.ListComp elt gens scope p:=by
   cases e<;>first | exact absurd rfl hcomp | exact Bool.noConfusion ha | exact⟨_,_,_,_,rfl⟩
  obtain⟨elt,gens,scope,p,rfl⟩:=this;have hsw:swapsWith (.ListComp elt gens scope p) (some (.Name y py)) spos.line X.env=pure (X.env.blockKind == .function&&X.env.kindOf y == some .local&&py.line == p.line && !(scope.names.any fun(n,k)=>n == y&&(k == .local || k == .cell))):=rfl;by_cases hb:(X.env.blockKind == .function&&X.env.kindOf y == some .local&&py.line == p.line && !(scope.names.any fun(n,k)=>n == y&&(k == .local || k == .cell)))=true
  ·have hy:X.env.scope.names.lookup y=some .local:=by
    obtain⟨q,_⟩:=af (af hb).1;have q2:=(af q).2;rw[beq_iff_eq]at q2;exact q2
   rw[hb]at hsw;by_cases hk:∃ d tg it c,e'=.comp d tg it c
   ·obtain⟨d,tg,it,c,rfl⟩:=hk;obtain⟨⟨tgE,iter,ifs,asy⟩,y1,z⟩:=aO hc;have y1:gens=[⟨tgE,iter,ifs,asy⟩]:=y1;obtain⟨w,y2,z⟩:=aO z;have y2:ifs=[w]:=y2;obtain⟨z,z8⟩:=af z;obtain⟨z,z7⟩:=af z;obtain⟨z,z6⟩:=af z;obtain⟨z,z5⟩:=af z;obtain⟨z,z4⟩:=af z;obtain⟨z,z3⟩:=af z;obtain⟨z,z2⟩:=af z;obtain⟨z0,z1⟩:=af z;rw[beq_iff_eq]at z0;have w0:asy=0:=z0;subst y1 w0;subst y2;refine Ay h.calm h.ndX hN hy (by rw[h.scope];exact qo z1) (iL it h.toXOk _ _ z6) ?_ (fI z3 _) hsw;exact⟨fun cls Ca fp s H=>mV h.toXOk z5 z4,fun cls Ca fp s H pins s' σ H' Q I q=>pS ((ak c (h.toXOk.blk cls Ca fp s H) _).2 z8).1 I q,fun cls Ca fp s H=>(ak d (h.toXOk.blk cls Ca fp s H) _).1 z7,fun i x hx hl=>jr z2 i x (by rw[<-h.names];exact hx) hl⟩
   ·by_cases hk2:∃ d tg it,e'=.compA d tg it
    ·obtain⟨d,tg,it,rfl⟩:=hk2;obtain⟨⟨tgE,iter,ifs,asy⟩,y1,z⟩:=aO hc;have y1:gens=[⟨tgE,iter,ifs,asy⟩]:=y1;obtain⟨z,z7⟩:=af z;obtain⟨z,z6⟩:=af z;obtain⟨z,z5⟩:=af z;obtain⟨z,z4⟩:=af z;obtain⟨z,z3⟩:=af z;obtain⟨z,z2⟩:=af z;obtain⟨z,z1⟩:=af z;obtain⟨y2,z0⟩:=af z;rw[beq_iff_eq]at z0;have w0:asy=0:=z0
     have w2:ifs=[]:=by rw[List.isEmpty_iff]at y2;exact y2
     subst y1 w0;subst w2;refine zX h.calm h.ndX hN hy (by rw[h.scope];exact qo z1) (iL it h.toXOk _ _ z6) ?_ (fI z3 _) hsw;exact⟨fun cls Ca fp s H=>mV h.toXOk z5 z4,fun cls Ca fp s H pins s' σ H' Q I q=>pD I q,fun cls Ca fp s H=>(ak d (h.toXOk.blk cls Ca fp s H) _).1 z7,fun i x hx hl=>jr z2 i x (by rw[<-h.names];exact hx) hl⟩
    ·cases e'<;>first | exact Bool.noConfusion hc | exact absurd ⟨_,_,_,_,rfl⟩ hk | exact absurd ⟨_,_,_,rfl⟩ hk2 | (rename_i b a;cases b<;>exact Bool.noConfusion hc)
  ·have hb':=Bool.not_eq_true _▸hb;rw[hb']at hsw;exact plain hsw
def xA{st:Stmt}(h:YOk C X cl)(z:zG C i e' st=true):SA X cl st i e':=by
 obtain⟨⟨ts,e⟩,z0,z⟩:=ay z;obtain⟨p,rfl⟩:=gr z0;obtain⟨t,y1,z⟩:=aO z;have y1:ts=[t]:=y1;obtain⟨z,z3⟩:=af z;obtain⟨z1,z2⟩:=af z;subst y1;exact vx h z1 z2 z3
def qW(h:XOk C X cl):∀ {es':RL.Es} {es:List Expr},vd C es' es=true->PA X es (ju X.K cl es')/\es.all noStar=true
 | .nil,es,z=>by
  have z:es=[]:=List.isEmpty_iff.mp z;subst z;exact⟨dh,rfl⟩
 | .cons _ _,[],z=>by cases z
 | .cons e' es',e::es,z=>by
  obtain⟨z,z3⟩:=af z;obtain⟨z1,z2⟩:=af z;obtain⟨q1,q2⟩:=qW h z3;refine⟨?_,by rw[List.all_cons,z1,q2];rfl⟩;rw[ju];refine bE ?_ q1 (a9 es z1);by_cases hv:∃ j,e'=.var j
  ·obtain⟨j,rfl⟩:=hv;obtain⟨x,p,rfl,g1,g2,g3,g4⟩:=eU h z2;exact eh g1 g2 g3 g4
  ·have ht:sA X.K cl e'=tE X.K cl e':=by
    cases e'<;>first | rfl | exact absurd ⟨_,rfl⟩ hv
   rw[ht];exact(ak _ h e).1 z2
def tH{is:List Nat}(h:is.all (fun i=>!M.contains i)=true):∀ i∈is,M.contains i=false:=fun i hi=>by
 rw[List.all_eq_true]at h;simpa using h i hi
def DR{is:List Nat}(h:is.all (fun i=>M.contains i)=true):∀ i∈is,M.contains i=true:=fun i hi=>by
 rw[List.all_eq_true]at h;exact h i hi
def eu{b:Bool}(h:(!b)=true):b=false:=by simpa using h
def Aw{f:Nat}{ps ms:List Nat}{es:RL.Es}(h:XOk C X cl)(z:rm C M f es ps ms e=true):PE X e (m5 (spM X.K cl ps f) [] E0 (ju X.K cl es))/\bW es ps ms=true/\(∀ i∈ms,M.contains i=true)/\ms.Nodup/\ps.Nodup/\iK e=true:=by
 unfold rm at z;obtain⟨⟨g,as,ks,pos⟩,z0,z⟩:=ay z;have e0:=gN z0;obtain⟨z,z9⟩:=af z;obtain⟨z,z8⟩:=af z;obtain⟨z,z7⟩:=af z;obtain⟨z,z6⟩:=af z;obtain⟨z,z5⟩:=af z;obtain⟨z,z4⟩:=af z;obtain⟨z,z3⟩:=af z;obtain⟨z1,z2⟩:=af z;obtain⟨x,y0,z1⟩:=ay z1;obtain⟨p,e1⟩:=dk y0;have e1:g=.Name x p:=e1;obtain⟨y1,y2⟩:=af z1;rw[beq_iff_eq]at y2
 have w2:ks=[]:=by rw[List.isEmpty_iff]at z2;exact z2
 rw[e1,w2]at e0;subst e0;refine⟨?_,z6,DR z7,by simpa using z8,by simpa using z9,rfl⟩;obtain⟨k,fa,fd,pn,F,hr,hm,hk,hb⟩:=h.fns f x ps y2;rw[if_neg (fun z=>by subst z;cases z4)]at F;obtain⟨q1,q2⟩:=qW h z5;obtain⟨g1,g2⟩:=h.gl y1
 cases as with
 | nil=>cases z3
 |cons y ys=>
  rw[List.all_cons]at q2;exact oG F hr g1 hm hk hb .nil vt q1 (du g2).1 (a9 ys (af q2).1) (eR (af q2).2)
def oz{nm:Str}{f:List Expr->Bool}(h:XOk C X cl)(z:mF C i nm e f=true):∃ x p apos as pos,e=.Call (.Attribute (.Name x p) nm apos) as [] pos/\X.N[i]?=some x/\Vis X.env.scope x/\(x == ("__debug__" : Str))=false/\(x == ("__classdict__" : Str))=false/\(apos.endLine == pos.line)=true/\f as=true:=by
 unfold mF at z;obtain⟨⟨g,as,ks,pos⟩,z0,z⟩:=ay z;have e0:=gN z0;obtain⟨z,z3⟩:=af z;obtain⟨z1,z2⟩:=af z;obtain⟨⟨o,a,apos⟩,y0,z1⟩:=ay z1;have e1:=Aa y0;have e1:g=.Attribute o a apos:=e1;obtain⟨z1,y3⟩:=af z1;obtain⟨y1,y2⟩:=af z1;rw[beq_iff_eq]at y2;have y2:a=nm:=y2
 have w2:ks=[]:=by rw[List.isEmpty_iff]at z2;exact z2
 obtain⟨x,p,e2,g1,g2,g3,g4⟩:=eU h y1;have e2:o=.Name x p:=e2;rw[e1,w2,y2,e2]at e0;exact⟨x,p,apos,as,pos,e0,g1,g2,g3,g4,y3,z3⟩
def B1(h1:PS X st (sT (tE X.K cl e') (zK (gF i) (tE X.K cl k') vc)))(h2:PS X st (wc (gF i) (tE X.K cl k') (tE X.K cl e')))(hi:M.contains i=true):SS X cl M st (.put i k' e'):=by
 have a1:=GC h1 hi trivial;have a2:=CJ h2 hi;intro pins s σ H D I h;obtain⟨σD,o,σD',rv,e,k⟩:=h;obtain⟨d,e1,e⟩:=bind_some e;obtain⟨kk,e2,e⟩:=bind_some e;obtain⟨l,e3,e⟩:=bind_some e
 cases l with
 | lst ds=>exact a1 pins s σ H D I ⟨σD,o,σD',rv,by dsimp only;rw[e1];dsimp only[Option.bind_some];rw[e2];dsimp only[Option.bind_some];rw[e3];exact e,k⟩
 | _=>exact a2 pins s σ H D I ⟨σD,o,σD',rv,by dsimp only;rw[e1];dsimp only[Option.bind_some];rw[e2];dsimp only[Option.bind_some];rw[e3];exact e,k⟩
def vq{o k:Expr}{pos:Pos}{env:Env}(h:lF k=true)(v:Value):assign (.Subscript o k pos) env v=(do
   let ov <- holding [v] (eval o env)
   let iv <- holding [v,ov] (eval k env)
   standAt pos
   holding [v,ov,iv] (setItem ov iv v)
   release [v,ov,iv] []):=by
 cases k<;>first | rfl | (cases h;done)
def xT{us:List Expr}{kk:Nat}{tp:Pos}{env:Env}(h:yi e=true):swappedStores [.Tuple us kk tp] e env=pure none:=by
 cases e<;>first | rfl | (cases h;done)
def FW{x y:Str}{px py pt pt2:Pos}{kt k2:Nat}{a b:Expr}(h:XOk C X cl)(hp:Ax C x y px py a b=true):swappedStores [.Tuple [.Name x px,.Name y py] kt pt] (.Tuple [a,b] k2 pt2) X.env=pure (some [x,y]) /\
  X.env.scope.names.lookup x=some .local/\X.env.scope.names.lookup y=some .local/\noStar a=true/\noStar b=true:=by
 unfold Ax at hp;obtain⟨hp,h9⟩:=af hp;obtain⟨hp,h8⟩:=af hp;obtain⟨hp,h7⟩:=af hp;obtain⟨hp,h6⟩:=af hp;obtain⟨hp,h5⟩:=af hp;obtain⟨hp,h4⟩:=af hp;obtain⟨hp,h3⟩:=af hp;obtain⟨h1,h2⟩:=af hp;rw[beq_iff_eq]at h1 h2 h3 h4;rw[<-h.scope]at h1 h2 h3;refine⟨?_,h2,h3,h6,h7⟩
 have bk:X.env.blockKind=.function:=by
  unfold Env.blockKind;rw[h1];rfl
 have k1:X.env.kindOf x=some .local:=h2;have k2:X.env.kindOf y=some .local:=h3
 have hxy:x≠y:=by simpa using h5
 have fs':foldedForSure 8 a=true->foldedForSure 8 b=false:=fun z=>by simpa[z]using h8
 have ca':constantsAlone 8 a=true->constantsAlone 8 b=false:=fun z=>by simpa[z]using h9
 have ed:[x,y].eraseDups=[x,y]:=by
  rw[List.eraseDups_cons];simp[Ne.symm hxy];rfl
 unfold swappedStores;simp only[bk];simp[show ∀ (x:Str) (p:Pos),(Expr.Name x p).pos=p from fun _ _=>rfl,k1,k2,h4,ed];refine(if_neg ?_).trans ((if_neg ?_).trans (if_neg ?_))
 ·intro hh;rcases hh with hh | hh
  ·cases a<;>first | exact Bool.noConfusion (show false=true from hh) | exact Bool.noConfusion (show false=true from h6)
  ·cases b<;>first | exact Bool.noConfusion (show false=true from hh) | exact Bool.noConfusion (show false=true from h7)
 ·intro hh;have:=fs' hh.1;rw[hh.2]at this;cases this
 ·intro hh;have:=ca' hh.1;rw[hh.2]at this;cases this
end
section
variable{X:Cx}{cl:RL.Cl}
mutual
theorem tJ:∀ (s:RL.S) {C:CC} {M:List Nat} (h:YOk C X cl) (st:Stmt),Ak C M s st=true->SS X cl M st s
 | .asg i e',C,M,h,st,z=>by
  obtain⟨⟨ts,e⟩,z0,z⟩:=ay z;obtain⟨p,rfl⟩:=gr z0;obtain⟨t,y1,z⟩:=aO z;have y1:ts=[t]:=y1;obtain⟨z,z4⟩:=af z;obtain⟨z,z3⟩:=af z;obtain⟨z1,z2⟩:=af z;subst y1;exact F0 (vx h z1 z3 z4) (eu z2)
 | .own i e',C,M,h,st,z=>by
  obtain⟨⟨ts,e⟩,z0,z⟩:=ay z;obtain⟨p,rfl⟩:=gr z0;obtain⟨t,y1,z⟩:=aO z;have y1:ts=[t]:=y1;obtain⟨z,z5⟩:=af z;obtain⟨z,z4⟩:=af z;obtain⟨z,z3⟩:=af z;obtain⟨z1,z2⟩:=af z;subst y1;exact Ef (vx h z1 z4 z5) z2 (by simpa using z3)
 | .unp is e',C,M,h,st,z=>by
  obtain⟨⟨ts,e⟩,z0,z⟩:=ay z;obtain⟨p,rfl⟩:=gr z0;obtain⟨t,y1,z⟩:=aO z;have y1:ts=[t]:=y1;obtain⟨us,y2,z⟩:=ay z;obtain⟨k,tp,rfl⟩:=eZ y2;obtain⟨z,z4⟩:=af z;obtain⟨z,z3⟩:=af z;obtain⟨z1,z2⟩:=af z;subst y1;obtain⟨g1,g2,g3⟩:=nW h.toXOk (T:=is) (fun i x _ _=>.inl (h.fn x)) (fun _ h=>h) z1;refine Cb (yb ((ak e' h.toXOk e).1 z4) (xI (xZ h.calm g1 g2 g3) (wC h.calm g1 g2 g3)) ?_ (xT z3) rfl) (tH z2);cases e<;>rfl
 | .par i j a' b',C,M,h,st,z=>by
  obtain⟨⟨ts,e⟩,z0,z⟩:=ay z;obtain⟨p,rfl⟩:=gr z0;obtain⟨t,y1,z⟩:=aO z;have y1:ts=[t]:=y1;obtain⟨us,y2,z⟩:=ay z;obtain⟨k,tp,e2⟩:=eZ y2;obtain⟨s1,s2,y3,z⟩:=fS z;obtain⟨⟨x,px⟩,y4,z⟩:=ay z;obtain⟨⟨y,py⟩,y5,z⟩:=ay z;obtain⟨vs,y6,z⟩:=ay z;obtain⟨k',tp',e6⟩:=eZ y6;have e6:e=.Tuple vs k' tp':=e6;obtain⟨a,b,y7,w⟩:=fS z;rw[pP y4,pP y5]at y3;rw[y3]at e2
  have e7:e=.Tuple [a,b] k' tp':=by rw[<-y7];exact e6
  rw[e2]at y1;subst y1 e7;obtain⟨w,z8⟩:=af w;obtain⟨w,z7⟩:=af w;obtain⟨w,z6⟩:=af w;obtain⟨w,z5⟩:=af w;obtain⟨w,z4⟩:=af w;obtain⟨w,z3⟩:=af w;obtain⟨z1,z2⟩:=af w;obtain⟨g1,g2,g3,g4,g5⟩:=FW h.toXOk z6;exact DT (D5 h.calm h.ndX (h.nm z1).1 (h.nm z2).1 (by simpa using z3) g2 g3 (bR (cl:=cl) ((ak a' h.toXOk a).1 z7) (bR ((ak b' h.toXOk b).1 z8) cV g5) g4) g1 rfl) (eu z4) (eu z5)
 | .app i e',C,M,h,st,z=>by
  obtain⟨e,z0,z8⟩:=ay z;obtain⟨p0,rfl⟩:=k6 z0;obtain⟨x,p,apos,as,pos,rfl,g1,g2,g3,g4,z6,z7⟩:=oz h.toXOk z8;obtain⟨y,rfl,z9⟩:=aO z7;obtain⟨z9,z7⟩:=af z9;obtain⟨z4,z5⟩:=af z9;refine EN (kK (HE PySem.F.plainAttrs_list PySem.F.slot_list_append PySem.F.type_list_append pN (eh g1 g2 g3 g4) (bR (cl:=cl) ((ak e' h.toXOk y).1 z7) cV z5) rfl ?_ z6 (a9 [] z5) rfl) rfl) z4;rw[a9 [] z5];rfl
 | .put i k' e',C,M,h,st,z=>by
  obtain⟨⟨ts,e⟩,z0,z⟩:=ay z;obtain⟨p,rfl⟩:=gr z0;obtain⟨t,y1,z⟩:=aO z;have y1:ts=[t]:=y1;obtain⟨⟨o,k⟩,y2,z⟩:=ay z;obtain⟨sp,e2⟩:=kB y2;obtain⟨z,z7⟩:=af z;obtain⟨z,z6⟩:=af z;obtain⟨z,z5⟩:=af z;obtain⟨z,z4⟩:=af z;obtain⟨z1,z3⟩:=af z;obtain⟨x,px,e3,g1,g2,g3,g4⟩:=eU h.toXOk z1;have e3:o=.Name x px:=e3;rw[e3]at e2;rw[e2]at y1;subst y1;have pv:=fun pos=>eh (X:=X) (pos:=pos) g1 g2 g3 g4;refine B1 (yb ((ak e' h.toXOk e).1 z7) (Eu (pv _) ((ak k' h.toXOk k).1 z6) set_list (vq z4)) ?_ ?_ rfl) (Cr (Nat.lt_of_le_of_lt (by lia) h.hu) (pv _) ((ak k' h.toXOk k).1 z6) ((ak e' h.toXOk e).1 z7) (eV z5)) z3
  ·unfold swapsWithSole;exact eV z5
  ·rfl
 | .aug i o e',C,M,h,st,z=>by
  obtain⟨⟨t,op,e⟩,z0,z⟩:=ay z;obtain⟨p,rfl⟩:=uB z0;obtain⟨z,z4⟩:=af z;obtain⟨z,z3⟩:=af z;obtain⟨z1,z2⟩:=af z;obtain⟨x,px,e1,l1,l2⟩:=gH h.toXOk z1;have e1:t=.Name x px:=e1;subst e1;have z3:Bh o op=true:=z3;have z4:chk C false e' e=true:=z4;clear z0 z1 z
  cases o<;>cases op<;>first | (cases z3;done) | skip
  ·exact xw (f:=fun a b=>a+b) (fun a b=>rfl) (qC h.ndX l1 l2 ((ak e' h.toXOk e).1 z4) DE (.inl (h.fn x))) (eu z2)
  ·exact xw (f:=fun a b=>a-b) (fun a b=>rfl) (qC h.ndX l1 l2 ((ak e' h.toXOk e).1 z4) Dk (.inl (h.fn x))) (eu z2)
 | .augs i e',C,M,h,st,z=>by
  obtain⟨⟨t,op,e⟩,z0,z⟩:=ay z;obtain⟨p,rfl⟩:=uB z0;obtain⟨z,z4⟩:=af z;obtain⟨z,z3⟩:=af z;obtain⟨z1,z2⟩:=af z;obtain⟨x,px,e1,l1,l2⟩:=gH h.toXOk z1;have e1:t=.Name x px:=e1;subst e1;rw[beq_iff_eq]at z3;have z3:op=.Add:=z3;subst z3;exact Ct (qC h.ndX l1 l2 ((ak e' h.toXOk e).1 z4) BC (.inl (h.fn x))) (eu z2)
 | .tie3 f r p w,C,M,h,st,z=>by
  obtain⟨e,z0,z⟩:=ay z;obtain⟨p0,rfl⟩:=k6 z0;obtain⟨⟨g,as,ks,pos⟩,z0,z⟩:=ay z;have e0:=gN z0;obtain⟨z,z7⟩:=af z;obtain⟨z,z6⟩:=af z;obtain⟨z,z5⟩:=af z;obtain⟨z,z4⟩:=af z;obtain⟨z,z3⟩:=af z;obtain⟨z1,z2⟩:=af z;obtain⟨x,y0,z1⟩:=ay z1;obtain⟨q,e1⟩:=dk y0;have e1:g=.Name x q:=e1;obtain⟨y1,y2⟩:=af z1;rw[beq_iff_eq]at y2
  have w2:ks=[]:=by rw[List.isEmpty_iff]at z2;exact z2
  obtain⟨a,b,c,e3,z7⟩:=rK z7;have e3:as=[a,b,c]:=e3;obtain⟨z7,z10⟩:=af z7;obtain⟨z8,z9⟩:=af z7;obtain⟨xa,pa,ea,a1,a2,a3,a4⟩:=eU h.toXOk z8;obtain⟨xb,pb,eb,b1,b2,b3,b4⟩:=eU h.toXOk z9;obtain⟨xc,pc,apos,as',pos',ec,c1,c2,c3,c4,c5,c6⟩:=oz h.toXOk z10;have c6:as'=[]:=List.isEmpty_iff.mp c6;rw[c6]at ec;rw[e1,w2,e3,ea,eb,ec]at e0;subst e0;obtain⟨k,fa,fd,pn,F,hr,hm,hk,hb⟩:=h.toXOk.fns f x [0] y2;rw[if_neg (by decide)]at F;obtain⟨g1,g2⟩:=h.toXOk.gl y1;exact BP (kK (oG F hr g1 hm hk hb .nil vt (bE (eh a1 a2 a3 a4) (bE (eh b1 b2 b3 b4) (bE (wV PySem.F.plainAttrs_list PySem.F.slot_list_pop PySem.F.type_list_pop xk (eh c1 c2 c3 c4) rfl c5) dh rfl) rfl) rfl) (du g2).1 rfl rfl) (eV rfl)) z3 (eu z4) z5 (by simpa using z6)
 | .ife c' a' b',C,M,h,st,z=>by
  obtain⟨⟨c,a,b⟩,z0,z⟩:=ay z;obtain⟨p,rfl⟩:=yL z0;obtain⟨z,z3⟩:=af z;obtain⟨z1,z2⟩:=af z;exact Ik ((ak c' h.toXOk c).2 z1).1 (cB a' h a z2) (cB b' h b z3)
 | .forr tg it b',C,M,h,st,z=>by
  obtain⟨⟨t,it',b,o⟩,z0,z⟩:=ay z;obtain⟨p,rfl⟩:=Di z0;obtain⟨z,z7⟩:=af z;obtain⟨z,z6⟩:=af z;obtain⟨z,z5⟩:=af z;obtain⟨z,z4⟩:=af z;obtain⟨z,z3⟩:=af z;obtain⟨z1,z2⟩:=af z;have z1:o=[]:=List.isEmpty_iff.mp z1;subst z1;exact FA h.xe h.calm (iL it h.toXOk t it' z2) (xD h.toXOk (fun i x _ _=>.inl (h.fn x)) z3) (cB b' h b z7) (fI z4 _) z5 (tH z6)
 | .mexc f es ps ms,C,M,h,st,z=>by
  obtain⟨e,z0,z⟩:=ay z;obtain⟨p0,rfl⟩:=k6 z0;obtain⟨g1,g2,g3,g4,g5,g6⟩:=Aw h.toXOk z;exact Cp (kK g1 (eV g6)) g2 g3 g4 g5
 | .ret e',C,M,h,st,z=>by
  obtain⟨o,z0,z⟩:=ay z;obtain⟨p,rfl⟩:=BG z0;obtain⟨e,rfl,zz⟩:=ay z;by_cases hv:uO M e'=true
  ·have:∃ i,e'=.var i:=by
    cases e'<;>first | exact⟨_,rfl⟩ | exact Bool.noConfusion hv
   obtain⟨i,rfl⟩:=this;obtain⟨x,q,rfl,g1,g2,g3,g4⟩:=eU h.toXOk zz;exact Df g1 g2 g3 g4 hv
  ·exact Dl ((ak e' h.toXOk e).1 zz) fun i hi=>by
    subst hi;simpa[uO]using hv
 | .exc e',C,M,h,st,z=>by
  obtain⟨e,z0,z⟩:=ay z;obtain⟨p0,rfl⟩:=k6 z0;obtain⟨z1,z2⟩:=af z;exact EX (kK ((ak e' h.toXOk e).1 z2) (eV z1))
 | .ifp i e' a' b',C,M,h,st,z=>by
  obtain⟨⟨c,a,b⟩,z0,z⟩:=ay z;obtain⟨p,rfl⟩:=yL z0;obtain⟨⟨l,os,rs⟩,z0,z⟩:=ay z;obtain⟨cp,ec⟩:=iH z0;have ec:c=.Compare l os rs cp:=ec;obtain⟨op,y1,z⟩:=aO z;obtain⟨e,y2,z⟩:=aO z;have y1:os=[op]:=y1;have y2:rs=[e]:=y2;obtain⟨z,z6⟩:=af z;obtain⟨z,z5⟩:=af z;obtain⟨z,z4⟩:=af z;obtain⟨z,z3⟩:=af z;obtain⟨z1,z2⟩:=af z;rw[beq_iff_eq]at z1;obtain⟨x,px,apos,as,pos,e2,g1,g2,g3,g4,z7,z8⟩:=oz h.toXOk z6;have e2:l=.Call (.Attribute (.Name x px) "pop" apos) as [] pos:=e2;have z8:as=[]:=List.isEmpty_iff.mp z8;rw[z8]at e2;rw[y1,y2,z1,e2]at ec;subst ec;exact Fj (wV PySem.F.plainAttrs_list PySem.F.slot_list_pop PySem.F.type_list_pop xk (eh g1 g2 g3 g4) rfl z7) ((ak e' h.toXOk e).1 z3) (cB a' h a z4) (cB b' h b z5) z2
 | .whil c' b',C,M,h,st,z=>by
  obtain⟨⟨c,b,o⟩,z0,z⟩:=ay z;obtain⟨p,rfl⟩:=CQ z0;obtain⟨z,z3⟩:=af z;obtain⟨z1,z2⟩:=af z;have z1:o=[]:=List.isEmpty_iff.mp z1;subst z1;exact Ao h.xe ((ak c' h.toXOk c).2 z2).1 (cB b' h b z3)
 | .rais _ _,C,M,h,st,z=>fun pins s σ H D I ⟨σD,r,σD',_,e,_⟩=>by
  rw[RL.evS]at e;cases e
theorem cB:∀ (s:RL.Ss) {C:CC} {M:List Nat} (h:YOk C X cl) (st:List Stmt),et C M s st=true->SSs X cl M st s
 | .nil,C,M,h,st,z=>by
  have z:st=[]:=List.isEmpty_iff.mp z;subst z;exact BN
 | .cons s r,C,M,h,st,z=>by
  cases st with
  | nil=>cases z
  |cons x xs=>
   obtain⟨z1,z2⟩:=af z;exact zZ (tJ s h x z1) (cB r h xs z2)
 | .opn j e' r,C,M,h,st,z=>by
  cases st with
  | nil=>cases z
  |cons x xs=>
   obtain⟨z,z3⟩:=af z;obtain⟨z1,z2⟩:=af z;exact Cf (xA h z1) (eu z2) (lN r h xs z3 (fun _=>cL) fun k hk=>Nat.le_trans hk (List.count_le_count_cons ..))
theorem lN:∀ (s:RL.Sq) {C:CC} {M N:List Nat} (h:YOk C X cl) (st:List Stmt),qf C M N s st=true->(∀ i,M.contains i=true->N.contains i=true)->(∀ j,2<=M.count j->2<=N.count j)->SQ X cl M N st s
 | .cls r,C,M,N,h,st,z,hs,hc=>D7 (cB r h st z) hs
 | .cons s r,C,M,N,h,st,z,hs,hc=>by
  cases st with
  | nil=>cases z
  |cons x xs=>
   obtain⟨z1,z2⟩:=af z;exact CN (tJ s h x z1) (lN r h xs z2 hs hc) hc
 | .opn j e' r,C,M,N,h,st,z,hs,hc=>by
  cases st with
  | nil=>cases z
  |cons x xs=>
   obtain⟨z,z3⟩:=af z;obtain⟨z1,z2⟩:=af z;exact E2 (xA h z1) (by simpa using z2) (lN r h xs z3 (fun i hi=>cL (hs i hi)) fun k hk=>Nat.le_trans (hc k hk) (List.count_le_count_cons ..))
 | .frz j r,C,M,N,h,st,z,hs,hc=>by
  obtain⟨z1,z⟩:=af z;obtain⟨z2,z3⟩:=af z
  have e:N=j::M:=by simpa using z3
  subst e;exact E7 (cB r h st z1) (eu z2)
end
end
structure iy where
 name:Str
 st:Stmt
 ps:List Str
 N:List Str
structure PT' where
 B:List Str
 G:List (Str × Int)
 Ds:List iy
 T:List RL.Fn
abbrev PT'.F(p:PT'):List (Str × List Nat):=(p.Ds.zip p.T).map fun q=>(q.1.name,q.2.mp)
abbrev PT'.cc(p:PT')(d:iy):CC:=⟨d.N,bV d.st,p.B,p.G,p.F⟩
abbrev qB(N ps:List Str)(sc:Scope):Bool :=
 sc.kind == .function && !sc.isCoroutine && !sc.isGenerator&&decide N.Nodup&&N.take ps.length == ps&&ps.all (fun x=>sc.names.lookup x == some .local || sc.names.lookup x == some .cell)&&sc.names.all (fun y=>!(y.2 == .free))
abbrev fnB(p:PT')(d:iy)(fn:RL.Fn):Bool :=
 qB d.N d.ps (bV d.st)&&fn.ps == d.ps.length&&fn.nn == d.N.length&&decide (d.ps.length<=d.N.length)&&(List.range fn.ps).all (fun i=>!fn.M.contains i || fn.mp.contains i)&&fn.mp.all (fun i=>decide (i<fn.ps)&&decide (2<=fn.M.count i))&&et (p.cc d) fn.M fn.body (dU d.st)
abbrev PT'.ok(p:PT'):Bool:=p.Ds.length == p.T.length&&(p.Ds.zip p.T).all fun q=>fnB p q.1 q.2
def za{N ps:List Str}{sc:Scope}(h:qB N ps sc=true):kN N ps sc:=by
 unfold qB at h;obtain⟨h,h7⟩:=af h;obtain⟨h,h6⟩:=af h;obtain⟨h,h5⟩:=af h;obtain⟨h,h4⟩:=af h;obtain⟨h,h3⟩:=af h;obtain⟨h1,h2⟩:=af h;refine⟨by simpa using h1,by simpa using h2,by simpa using h3,by simpa using h4,by simpa using h5,fun x hx=>?_,fun y hy=>?_⟩
 ·rw[List.all_eq_true]at h6;have:=h6 x hx;rw[Bool.or_eq_true,beq_iff_eq,beq_iff_eq]at this;exact this
 ·rw[List.all_eq_true]at h7;have:=h7 y hy;intro z;rw[z]at this;simp at this
structure Bz(p:PT')(K:PySem.W.Frag)(mg:Str->Option Value):Prop where
 defs:∀ (f:Nat) (d:iy),p.Ds[f]?=some d->∃ fa fd,mg d.name=some (.ref fa)/\Fun K d.name d.name d.st fa fd/\PySem.W.keepIn K (.ref fa)=true/\Binds K fd d.ps []
 blt:∀ x∈p.B,mg x=none
 glb:∀ x i,p.G.lookup x=some i->∃ u,mg x=some u/\RelV (.int i) u
section
variable{p:PT'}{K:PySem.W.Frag}{mg:Str->Option Value}{base:Heap}{P:Program}{w:World}
abbrev qA(K:PySem.W.Frag)(cl:RL.Cl)(mp:List Nat)(f:Nat):Sp:=if mp=[]then spF K cl f else spM K cl mp f
def bo{α:Type}(vs:List α)(k:Nat)(i:Nat)(v:α):(vs.map some++List.replicate k none)[i]?=some (some v)↔vs[i]?=some v:=by
 by_cases h:i<vs.length
 ·rw[List.getElem?_append_left (by simpa using h)];simp[h]
 ·rw[List.getElem?_append_right (by simpa using h)];constructor
  ·intro e;rw[List.getElem?_replicate]at e;split at e<;>cases e
  ·intro e;have:=(List.getElem?_eq_some_iff.mp e).1;lia
def B9{ds:List RL.D}{vs:List V}{H:Hp}{M:List Nat}{k n:Nat}(r:ae nP K H ds vs)(hM:∀ i,i<n->M.contains i=false)(hn:ds.length=n):RVm K M (ds.map some++List.replicate k none) (vs.map some++List.replicate k none) H:=by
 have nA:∀ a,¬ aV M (vs.map some++List.replicate k none) a:=fun a ⟨i,hi,e⟩=>by
  rw[bo]at e;have:=(List.getElem?_eq_some_iff.mp e).1;rw[hM i (by rw[<-hn,r.length];exact this)]at hi;cases hi
 refine⟨by simp[r.length],fun i d e=>?_,fun i v e=>?_,fun i j a hi hj e1 e2=>(nA a ⟨i,hi,e1⟩).elim⟩
 ·rw[bo]at e;obtain⟨v,h1,h2⟩:=r.get e;have hl:=(List.getElem?_eq_some_iff.mp e).1;refine⟨v,(bo _ _ _ _).mpr h1,?_⟩;rw[if_neg (by rw[hM i (by lia)];decide)];exact h2.weak fun a ha=>nA a ha
 ·rw[bo]at e;have hl:=(List.getElem?_eq_some_iff.mp e).1;exact⟨ds[i]'(by rw[r.length];exact hl),(bo _ _ _ _).mpr (by simp)⟩
def CW{ds:List RL.D}{vs:List V}{H:Hp}{M mp:List Nat}{k n:Nat}(a:E5 K mp ds vs H)(hM:∀ i,i<n->M.contains i=true->i∈mp)(hp:∀ i∈mp,M.contains i=true)(hn:ds.length=n):RVm K M (ds.map some++List.replicate k none) (vs.map some++List.replicate k none) H:=by
 have r:=a.jW
 have inM:∀ i v,(vs.map some++List.replicate k none)[i]?=some (some v)->M.contains i=true->i∈mp/\vs[i]?=some v:=fun i v e hi=>by
  rw[bo]at e;have:=(List.getElem?_eq_some_iff.mp e).1;exact⟨hM i (by rw[<-hn,r.length];exact this) hi,e⟩
 refine⟨by simp[r.length],fun i d e=>?_,fun i v e=>?_,fun i j b hi hj e1 e2=>?_⟩
 ·rw[bo]at e;obtain⟨v,h1,h2⟩:=r.get e;have hl:=(List.getElem?_eq_some_iff.mp e).1;refine⟨v,(bo _ _ _ _).mpr h1,?_⟩;by_cases hm:M.contains i=true
  ·rw[if_pos hm];obtain⟨d',b,g1,g2,g3⟩:=a.own i (hM i (by lia) hm);rw[e]at g1;cases g1;rw[h1]at g2;cases g2;exact g3
  ·rw[if_neg hm];refine(a.oth i d v (fun z=>hm (hp i z)) e h1).weak fun b ⟨j,hj,ej⟩=>?_;obtain⟨q1,q2⟩:=inM j _ ej hj;exact⟨j,q1,q2⟩
 ·rw[bo]at e;have hl:=(List.getElem?_eq_some_iff.mp e).1;exact⟨ds[i]'(by rw[r.length];exact hl),(bo _ _ _ _).mpr (by simp)⟩
 ·obtain⟨q1,q2⟩:=inM i _ e1 hi;obtain⟨q3,q4⟩:=inM j _ e2 hj;exact a.sep i q1 j q3 b q2 q4
def sC{σ:RL.St}:∀ {mp:List Nat} {outs:List RL.D},RL.eI σ mp=some outs->outs.length=mp.length/\∀ (k i:Nat) o,mp[k]?=some i->outs[k]?=some o->σ[i]?=some (some o)
 | [],outs,h=>by
  rw[RL.eI]at h;cases h;exact⟨rfl,fun k i o e=>by simp at e⟩
 | m::mp,outs,h=>by
  rw[RL.eI]at h;obtain⟨d,h1,h⟩:=bind_some h;obtain⟨os,h2,h3⟩:=map_some h;subst h3;obtain⟨g1,g2⟩:=sC h2;refine⟨by simp[g1],fun k i o e1 e2=>?_⟩
  cases k with
  |zero=>
   simp at e1 e2;subst e1 e2;exact slot_get h1
  | succ k=>exact g2 k i o (by simpa using e1) (by simpa using e2)
def wU{fn:RL.Fn}{d r:RL.D}{σ:RL.St}(h:RL.aW fn d σ=some r)(hm:fn.mp=[]):r=d:=by
 unfold RL.aW at h;rw[hm]at h;simpa using h.symm
def EG{fn:RL.Fn}{d r:RL.D}{σ:RL.St}(h:RL.aW fn d σ=some r)(hm:fn.mp≠[]):d.imm=true/\∃ outs,RL.eI σ fn.mp=some outs/\r=.tup (d::outs):=by
 unfold RL.aW at h;rw[if_neg (by simpa using hm)]at h;split at h
 ·rename_i im;obtain⟨os,h1,h2⟩:=map_some h;exact⟨im,os,h1,h2.symm⟩
 ·cases h
def xN(hok:p.ok=true)(tp:Bz p K mg):∀ (n f:Nat) (d:iy) (fn:RL.Fn),p.Ds[f]?=some d->p.T[f]?=some fn->∀ fa fd,Fun K d.name d.name d.st fa fd->ip P w K mg base CX0 n fa fd d.ps (qA K (RL.aq p.T n) fn.mp f)
 | 0,f,d,fn,hd,hf,fa,fd,F=>by
  have no:∀ vs H Q E,¬ qA K (RL.aq p.T 0) fn.mp f vs H Q E:=fun vs H Q E h=>by
   unfold qA at h;split at h
   ·obtain⟨ds,r,_,e,_⟩:=h;cases e
   ·obtain⟨ds,r,o,e,_⟩:=h;cases e
  exact⟨fun vs H Q E h=>(no vs H Q E h).elim,fun A outer s H args us vs Q E _ _ _ _ h=>(no vs H Q E h).elim⟩
 | n+1,f,d,fn,hd,hf,fa,fd,F=>by
  have hok':=hok;unfold PT'.ok at hok';obtain⟨hl,hall⟩:=af hok';rw[beq_iff_eq]at hl;rw[List.all_eq_true]at hall
  have hz:(p.Ds.zip p.T)[f]?=some (d,fn):=by
   rw[List.getElem?_zip_eq_some];exact⟨hd,hf⟩
  have hB:=hall (d,fn) (List.mem_of_getElem? hz);unfold fnB at hB;dsimp only at hB;obtain⟨hB,b7⟩:=af hB;obtain⟨hB,b6⟩:=af hB;obtain⟨hB,b5⟩:=af hB;obtain⟨hB,b4⟩:=af hB;obtain⟨hB,b3⟩:=af hB;obtain⟨b1,b2⟩:=af hB;rw[beq_iff_eq]at b2 b3;rw[decide_eq_true_eq]at b4;rw[List.all_eq_true]at b5 b6;have S:=za b1
  have hM:∀ i,i<fn.ps->fn.M.contains i=true->i∈fn.mp:=fun i hi hm=>by
   have:=b5 i (List.mem_range.mpr hi);rw[hm]at this;simpa using this
  have hp2:∀ i∈fn.mp,i<fn.ps/\2<=fn.M.count i:=fun i hi=>by simpa using b6 i hi
  have unf:∀ ds r,RL.aq p.T (n+1) f ds=some r->ds.length=fn.ps/\∃ o σ',RL.ah (RL.aq p.T n) fn.M fn.body (ds.map some++List.replicate (fn.nn-fn.ps) none)=some (o,σ')/\(match o with | .nx=>RL.aW fn .non σ' | .rt d=>RL.aW fn d σ')=some r:=by
   intro ds r h;rw[RL.aq,hf]at h;dsimp only[Option.bind_some]at h;split at h
   ·rename_i hlen;obtain⟨⟨o,σ'⟩,h1,h2⟩:=bind_some h;exact⟨hlen,o,σ',h1,h2⟩
   ·cases h
  refine Fun.ok F S (fun vs H Q E h=>?_) fun cdv A outer s H vs Q E hr h=>?_
  ·unfold qA at h;split at h
   ·obtain⟨ds,r,r1,e,_⟩:=h;rw[<-r1.length,(unf ds r e).1,b2]
   ·obtain⟨ds,r,o,e,a,_⟩:=h;rw[<-a.jW.length,(unf ds _ e).1,b2]
  ·-- the body's context
   have Y:YOk (p.cc d) (lU CX0 P w K mg base d.N d.name (bV d.st) fa cdv A outer s H E).nox (RL.aq p.T n):={
    scope:=rfl
    names:=rfl
    nd:=S.nd
    calm:=rfl
    xe:=rfl
    hu:=by
     have:=hr.un;show(A.deeper _).units+100<cLine;lia
    blt:=tp.blt
    glb:=tp.glb
    fns:=fun g x mp hg=>by
     have hg':p.F[g]?=some (x,mp):=hg;unfold PT'.F at hg';rw[List.getElem?_map]at hg';obtain⟨⟨d',fn'⟩,q1,q2⟩:=map_some hg';cases q2;rw[List.getElem?_zip_eq_some]at q1;obtain⟨fa',fd',t1,t2,t3,t4⟩:=tp.defs g d' q1.1;exact⟨n,fa',fd',d'.ps,xN hok tp n g d' fn' q1.1 q1.2 fa' fd' t2,hr,t1,t3,t4⟩
    fn:=fun _=>rfl }
   have body:=cB fn.body Y (M:=fn.M) _ b7;refine⟨_,body,?_⟩;have hst:start d.N vs=vs.map some++List.replicate (d.N.length-vs.length) none:=rfl;unfold qA at h;split at h
   ·rename_i hmp;obtain⟨ds,r,r1,e,k⟩:=h;obtain⟨hlen,o,σ',e1,e2⟩:=unf ds r e
    have hvl:vs.length=fn.ps:=by rw[<-r1.length];exact hlen
    refine⟨_,o,σ',?_,e1,?_⟩
    ·rw[hst,hvl,<-b3]
     exact B9 r1 (fun i hi=>by
      cases hc:fn.M.contains i with
      | false=>rfl
      |true=>
       have:=hM i hi hc;rw[hmp]at this
       cases this) hlen
    ·have noA:∀ a,¬ aV fn.M (start d.N vs) a:=fun a ⟨i,hi,ei⟩=>by
      rw[hst,bo]at ei;have h3:=(List.getElem?_eq_some_iff.mp ei).1;have:=hM i (by lia) hi;rw[hmp]at this;cases this
     cases o with
     |nx=>
      have hr':=wU (d:=.non) e2 hmp;subst hr';intro σ1 H1 rv1 fr1;refine k .non H1 (fun b u eb=>(fr1.1 b u eb (noA b)).1) (by rw[Rep])
     |rt d0=>
      have hr':=wU (d:=d0) e2 hmp;subst hr';intro σ1 H1 v H' rv1 fr1 sm rp;refine k v H' (fun b u eb=>sm _ _ (fr1.1 b u eb (noA b)).1) (rp _ fun q hq=>?_);obtain⟨u,hu⟩:=Option.ne_none_iff_exists'.mp hq;have:=fr1.1 q u hu (noA q);exact⟨(by rw[this.1];exact fun z=>nomatch z),this.2⟩
   ·rename_i hmp;obtain⟨ds,r,outs,e,a,k⟩:=h;obtain⟨hlen,o,σ',e1,e2⟩:=unf ds _ e
    have hvl:vs.length=fn.ps:=by rw[<-a.jW.length];exact hlen
    refine⟨_,o,σ',?_,e1,?_⟩
    ·rw[hst,hvl,<-b3];exact CW a hM (fun i hi=>kE (hp2 i hi).2) hlen
    ·-- the lists behind it
     have fin:∀ (d0:RL.D) (σ1:L2.St) (H1 H':Hp) (v:V),RL.aW fn d0 σ'=some (.tup (r::outs))->RVm K fn.M σ' σ1 H1->Fr' fn.M (start d.N vs) H σ1 H1->a5 H1 H'->(d0.imm=true->Rep nP K H' d0 v)->Q v H':=by
      intro d0 σ1 H1 H' v ht rv1 fr1 sm rp;obtain⟨im,os,g1,g2⟩:=EG ht hmp;cases g2;obtain⟨l1,l2⟩:=sC g1;refine k v H' (fun b u nb eb=>sm _ _ (fr1.1 b u eb fun⟨i,hi,ei⟩=>?_).1) (rp im) im ⟨l1,fun kk pp oo hk ho=>?_⟩
      ·rw[hst,bo]at ei;have h3:=(List.getElem?_eq_some_iff.mp ei).1;exact nb ⟨i,hM i (by lia) hi,ei⟩
      ·have hpm:=List.mem_of_getElem? hk;obtain⟨dp,ap,g3,g4,g5⟩:=a.own pp hpm;have g6:=fr1.2 pp (hp2 pp hpm).2
       have g7:(start d.N vs)[pp]?=some (some (.ref ap)):=by rw[hst,bo];exact g4
       rw[g7]at g6;obtain⟨v',g8,g9⟩:=rv1.val pp oo (l2 kk pp oo hk ho);rw[g6]at g8;cases g8;rw[if_pos (kE (hp2 pp hpm).2)]at g9;exact⟨ap,g4,g9.same sm⟩
     cases o with
     |nx=>
      intro σ1 H1 rv1 fr1
      exact fin .non σ1 H1 H1 .non e2 rv1 fr1 (a5.refl _) fun _=>by rw[Rep]
     |rt d0=>
      intro σ1 H1 v H' rv1 fr1 sm rp;exact fin d0 σ1 H1 H' v e2 rv1 fr1 sm fun im=>rp nP fun _ z=>z.elim
end
abbrev spL(n:Nat)(p:PT')(f:Nat)(K:PySem.W.Frag):Sp:=spF K (RL.aq p.T n) f
def DX{n:Nat}{p:PT'}{f:Nat}{K:PySem.W.Frag}{H:Hp}{a:Addr}{ns:List Int}(hO:qS H)(hS:SqL K H a (ns.map V.int))(h:RL.aq p.T n f [.scr (ns.map RL.D.int)]=some (.bl true)):spL n p f K [.ref a] H (fun v _=>v=.bl true) fun _ _ _=>False:=by
 refine⟨_,_,?_,h,fun v H' _ r=>aZ r⟩;refine ae.cons ?_ ae.nil;rw[Rep];refine⟨a,ns.map V.int,rfl,?_,?_⟩
 ·rcases hS with(z | ⟨o,z⟩) | z
  ·rcases hO a with q | ⟨o,xs,q⟩
   ·rw[q]at z;cases z
   ·rw[q]at z;cases z
  ·exact .inl ⟨o,z⟩
  ·exact .inr (.inr z)
 ·clear hS h
  induction ns with
  | nil=>exact ae.nil
  | cons i r ih=>exact ae.cons aX ih
end RS
namespace K38
open PySem PySem.Spec PyProof.Rows L2
abbrev top(i:Nat):Stmt:=PySem.Challenge.pw_ribbonloft_k38_whole_bars_hold.main.body.getD i (.Pass ⟨0,0,0,0⟩)
abbrev mkD(x:Str)(i n:Nat)(N:List Str):RS.iy:=⟨x,top i,N.take n,N⟩
abbrev Ds:List RS.iy:=[
 mkD "is_number" 8 1 ["value"],
 mkD "is_peg_count" 9 1 ["value"],
 mkD "check_pegs" 10 1 ["pegs"],
 mkD "is_pairing" 12 1 ["row", "place"],
 mkD "names_back" 13 2 ["row", "place", "other"],
 mkD "is_uncrossed" 14 1 ["row", "waiting", "place", "other"],
 mkD "tie" 15 3 ["row", "one", "other"],
 mkD "run" 16 3 ["one", "other", "start", "places", "onward", "side"],
 mkD "rings_of" 17 2 ["one", "other", "seen", "start", "many"],
 mkD "mark" 18 2 ["seen", "places", "place"],
 mkD "is_frame" 20 1 ["frame", "pegs", "alone", "peg", "other"],
 mkD "check_frame" 21 1 ["frame"],
 mkD "check_two_frames" 22 2 ["one", "other"],
 mkD "pegs_of" 23 1 ["frame"],
 mkD "plain" 24 1 ["pegs"],
 mkD "over" 25 1 ["frame"],
 mkD "through" 26 1 ["frame", "pegs", "other"],
 mkD "ties" 27 1 ["frame", "peg", "other"],
 mkD "from_brackets" 28 1 ["text", "row", "waiting", "place", "sign"],
 mkD "is_brackets" 29 1 ["text", "depth", "sign"],
 mkD "round_place" 30 2 ["pegs", "peg"],
 mkD "in_round" 31 1 ["frame", "pegs", "peg"],
 mkD "moved" 32 2 ["frame", "to", "ends", "peg", "other"],
 mkD "is_half" 34 1 ["half"],
 mkD "check_half" 35 1 ["half"],
 mkD "check_two_halves" 36 2 ["one", "other"],
 mkD "upper" 37 1 ["frame", "pegs", "peg", "other"],
 mkD "lower" 38 1 ["frame"],
 mkD "joined" 39 2 ["one", "other", "leaving", "coming", "pegs", "frame", "above", "beneath", "peg"],
 mkD "going" 40 1 ["half", "peg", "other"],
 mkD "hung" 42 2 ["upper", "lower"],
 mkD "put_under" 43 2 ["upper", "lower", "pegs", "ribbons", "joints", "outer", "ends", "frame", "peg", "end"],
 mkD "joints_between" 44 1 ["pegs", "top", "above", "beneath", "bottom"],
 mkD "how_many" 47 1 ["pegs"],
 mkD "numbered" 48 2 ["pegs", "number", "text", "depth", "ahead", "left", "opened"],
 mkD "every" 49 1 ["pegs", "number"],
 mkD "ways" 50 2 ["steps", "height", "downward"],
 mkD "choices" 51 2 ["many", "chosen", "found", "at"],
 mkD "check_number" 52 2 ["number", "many"],
 mkD "below" 54 2 ["frame", "goal", "pegs", "missed", "peg", "other"],
 mkD "above" 55 2 ["frame", "goal", "told", "pegs"],
 mkD "between" 56 2 ["frame", "goal", "many", "less", "meeting_half", "under"],
 mkD "narrowed" 57 2 ["half", "fewer", "row", "loose", "at"],
 mkD "_law_mix" 59 1 ["_law_seed", "_law_one", "_law_two"],
 mkD "_law_raw" 60 2 ["_law_script", "_law_k", "_law_cell", "_law_found", "_law_turn"],
 mkD "_law_digits" 61 3 ["_law_script", "_law_k", "_law_sizes", "_law_rest", "_law_found", "_law_size"],
 mkD "_law_rings_by" 62 3 ["_law_high", "_law_low", "_law_inner", "_law_pegs", "_law_head", "_law_peg", "_law_other", "_law_one", "_law_keep", "_law_go"],
 mkD "_law_hung" 63 2 ["_law_high", "_law_low", "_law_pegs", "_law_near", "_law_peg", "_law_found", "_law_gone", "_law_here", "_law_turn"],
 mkD "law" 64 1 ["_law_script", "_law_pegs", "_law_frames", "_law_frame", "_law_low", "_law_high", "_law_one", "_law_both", "_law_goal", "_law_number", "_law_other", "_law_words"]]
abbrev p:RS.PT':=⟨["all", "bool", "enumerate", "int", "isinstance", "len", "list", "range", "set", "tuple", "zip"],[("MOST_PEGS",10),("MOST_PEGS_OF_EVERY",6)],Ds,T⟩
def Iz:p.ok=true:=by decide +kernel
def all1{P:List Value->Prop}(h:∀ a0,P [a0]):∀ us:List Value,us.length=1->P us
 | [a0],_=>h a0
def all2{P:List Value->Prop}(h:∀ a0 a1,P [a0,a1]):∀ us:List Value,us.length=2->P us
 | [a0,a1],_=>h a0 a1
def oa{P:List Value->Prop}(h:∀ a0 a1 a2,P [a0,a1,a2]):∀ us:List Value,us.length=3->P us
 | [a0,a1,a2],_=>h a0 a1 a2
section
variable{K:PySem.W.Frag}{h:Heap}{mg:Str->Option Value}{x:Str}{st:Stmt}{f:Addr}{oc kV dc pm cd ct:Value}{od an:Option Addr}{sl:Array (Option Value)}{ps:List Str}
abbrev At(K:PySem.W.Frag)(mg:Str->Option Value)(x:Str)(st:Stmt)(ps:List Str):Prop:=∃ f fd,mg x=some (.ref f)/\Fun K x x st f fd/\PySem.W.keepIn K (.ref f)=true/\Binds K fd ps []
def DO(X:K.In h)(G:h.Ns mainGlobals mg)(a:PySem.W.nsIn K mainGlobals x=some (some (.ref f)))(l:K.lookup f=some ⟨oc,od,.func (PySem.W.fnOf x x (gw st) (dU st) (bV st) .none kV dc pm an cd ct),sl⟩)(c:PySem.W.codeIn K cd x=true)(k:PySem.W.keepIn K (.ref f)=true)
 (b:∀ (kV doc pm:Value) (an:Option Addr) (cdv ct:Value) (us:List Value),us.length=ps.length->bindArgs (PySem.W.fnOf x x (gw st) (dU st) (bV st) .none kV doc pm an cdv ct) ⟨us,[]⟩=pure (ps.zip us)):At K mg x st ps :=
 ⟨f,_,PySem.W.mg_of X G a,yl (st:=st) l c k,k,(yl (st:=st) l c k).binds b⟩
abbrev nS(K:PySem.W.Frag)(mg:Str->Option Value):List RS.iy->Prop
 | []=>True
 | d::r=>At K mg d.name d.st d.ps/\nS K mg r
def nS.get:∀ {l:List RS.iy} {f:Nat} {d:RS.iy},nS K mg l->l[f]?=some d->At K mg d.name d.st d.ps
 | [],_,_,_,e=>by cases e
 | _::_,0,_,h,e=>by cases e;exact h.1
 | _::_,f+1,_,h,e=>nS.get (f:=f) h.2 e
abbrev AllP(P:Str->Prop):List Str->Prop
 | []=>True
 | x::r=>P x/\AllP P r
def AllP.get{P:Str->Prop}:∀ {l:List Str},AllP P l->x∈l->P x
 | _::_,h,e=>(List.mem_cons.mp e).elim (fun z=>z▸h.1) fun z=>AllP.get h.2 z
abbrev oP(K:PySem.W.Frag):List (Str × Int)->Prop
 | []=>True
 | q::r=>(∃ t,PySem.W.nsIn K mainGlobals q.1=some (some (.int q.2 t)))/\oP K r
def oP.get{i:Int}:∀ {l:List (Str × Int)},oP K l->l.lookup x=some i->∃ t,PySem.W.nsIn K mainGlobals x=some (some (.int i t))
 | [],_,e=>by cases e
 | q::_,h,e=>by
  rw[List.lookup_cons]at e
  cases hb:x == q.1 with
  | true=>rw[hb]at e;cases e;rw[eq_of_beq hb];exact h.1
  | false=>rw[hb]at e;exact oP.get h.2 e
structure Tp(K:PySem.W.Frag)(mg:Str->Option Value):Prop where
 t1:nS K mg Ds
 t2:AllP (fun x=>PySem.W.nsIn K mainGlobals x=some none) p.B
 t3:oP K p.G
def FV(X:K.In h)(G:h.Ns mainGlobals mg)(A:Tp K mg):RS.Bz p K mg where
 defs:=fun f d e=>A.t1.get e
 blt:=fun x hx=>PySem.W.mg_none_of X G (A.t2.get hx)
 glb:=fun x i hx=>let ⟨t,ht⟩:=A.t3.get hx;⟨_,PySem.W.mg_of X G ht,t,rfl⟩
end
end K38
end
namespace PySem.W.Fast
local macro_rules|`(universe $x*)=>do pure (Lean.mkNullNode (<-x.mapM fun x=>`(theorem $(Lean.mkIdent (.mkSimple s!"tw{x.getId.toString.foldl (fun a c=>52*a+c.toNat-if c.toNat<97 then 65 else 71) 0}")) :True:=trivial)))
universe BvQgwxyErfkA BSllMaolwAVc BzbhQVmCnOjk BwDrgJfVxrvk CTycvcFfgJoQ CAvxjSncNuDE BQnMZsZaTYmI eOtolwxFpNs BTjtqgmOGBs hkloJiSkXuY BAhTDJfepebE CLbTyUvBgHqo RNXkrZlltFs CWBoPsDWRzIw BffFypnaNFEA qPAKkOijdmY xkNXBSkelSp BgJIrAYFAlpd BIGKEExCsLQR EawhgFIotkB BsojUMbOiCkR sdWsAjDxzMB CHtjsIcuRZfF CBgfBEOrJZkh eyVgihuqKIh BxpaAqnlwcFd BywzRVZjKikx BtRCGDLrYtIx BpRSmbQIYBvl PiVvSdLwCzl BBvlZRUEaTcB CSnGsUSlybNN BJdYUvzSwteZ PlogfEoAFiJ wKxFuSRsRqK BpLOeBgViUuq OEcBeYTXlJe FuVjBgmDMBO cuAMGGZbNu SHvWxKxbXlO qpMmCXcwXMi CGDbAxAzhtxe BTiHDenMLSq BEwroBmwHcvW CQCICvrUdfMC boCiEEBDEjG bqlCkIXlyEy BnEeverCBwoC BSmPyXUzscqa BYdCFFUCMcIi BrpJBHFptksS CUBMKqwxCLNu BkhBvlQpeMS CIHYHjbyMoPW zaZmRHetQQi VzQFRAEUajG xnRSRzFlMrG BfzByUgVroIC BkqeiMhUucLm BYfQSIdgpGEy BMdJloYIEHsj BtvsFSsYyhFP hOHXwSrWtMD BpFvktQDgFqr dNrWzjJJZoz BNhFRlgaLjkj BdHYOzFuivnn crMfnIacXaL CGUyRZeWNlqL BQELWglyQRVP BUEvScOoNBir CHzukozzKWMT CUzQfcczNIOL HzEPvjrWodf BNxbaFPVuVPH CLvPFwClqzQz CJVQuwOovPPI EfUFuYNElVQ LVoedBiQNKM tBfdFQlVvwU QHLmvGBulWc IYtFAgqUIzo rzQRIJzXjYU ypLoyVSPTas BmlhgkTcnlDZ ufRGHPcHtVx vDGmyqsZiet BRhxiGidAHLZ CXOAAhpnfGAl ILCAcqrGmwF Buadsijcidud noDLUArHVqt yHnddhTnJmd BkzYHQyJXayd ykWJiBNMQwF BIlLmVDfAtCN hfJqpiQlXVy BhpsDYRxdMeu CSmgohmXCoNC BNAimQCxjsuu BwuVrgBLXEtC pSlWKBUeBlS gUElKRvMumO DIibfvgjEdC JQhzqYsQuLL SRcRifZjufb BgnZLiiQToNj BvltmewERBFz BEaGYmWmZztT CUtEelpORkwH BqzrxxGguWkX BIyAouSYgytj oCZkpfnyacX BLtKVklqEgGv DrTTBtGEdFz BZqgAwbuWVSP DAhXBkRwWzL COMoBisaxxPs RKQmdeqWjFU BaDLiVZOriJU BVMrkvJUYyOw lnSbSnQFbxk CFTQymlPHAyA CHShLdxXLUwo lPDoCIVpfNU zfpvXhgIxiQ BVqHttJirIzs MwnqFSvkINk BeytuSlYUiSg CqvmWxPVsxV BrCYTNuHQuQp CKKwXvgYEdIZ rYkIzGMtnuh YXKYJdtsvGh BtzXALBftrZF BKKlaWbUeRvt JbVqsvhfVcp BidhIuMPlyex jeNCtCKMvMJ CHtavcRAlQYK iycbworqhpG BqIwUFotXIfe ZhMAbCqdpvu BAoVzoRklseS CLNvBvOhWqFm wkUnXZohDpm OeXhECiVMMa VXuePTYWVCy hKjBubdNoyC BwqNfWyvzDBG BKycSOwVfYca CSSGhBbElyqi BkSJDHaVnoii BeDeNYvjidSy BMwxyIxIcADO NbLSJmgaefe WTNvnAeTZKS CWcguUCmpEFH ZbWSmNMdrej CXddlzuyrBgb SeSvbRoODmD BnWWOaqXuIor ZjjmsDDiqBX BQMBOCMuCOGT CMHrWWTCXrYb BJwKxBIetEHf CMlvykvXwPWj dXFhUdhssIL BHkUYYIRdJyT kwgBVyngGor BnrwMwwlcLhH BUZgcziExaPf RZkQkNXhXqz QwrcdSfjeCE CThxIALwMwLw CPZvTMowKBvQ BGMVMHswjfKU CSEIjLJKyDHQ COdGUzSeEErQ XgXohOQBGbw GZlAwIskEik BrnIUXmnHDkM BFOQybYDvBPQ BwAQQoHdDdpI BIKLfiUvltjg pzdDuGuPtTA TSuQaByqqfB CIvbOmfzPhfx BXGCubieOSqF CMsdbcLfgcRZ BXgFjzoNDrUt BhtVbMHICRGF CDhVjSCurBZp BTwUOtDfCeHB COzNpNlRDHcO bKpDfGgKwFK CXBggEHWHTJK CNCQPrMBTpGG XnNsTbCVBBq BWciBZnhRmSG CRNNIUzRXeZa BCLuBWPrDteH BuLszLCzcdun YLsELQWBxFb yvhJoClCSqH CSLLkmYjdAOX BtfnSELSsBhL BVgDJcjqyJhr CJiAKORxlPEP BHQuZUAhZfiX CHlIeyXcQCKn CWRvWLtApKzT BbwFWfgPVKrT BwsoPQTruzqX kczhlYdqBnU YylvHvVcovk CTXPCLCfCkzU XIkSTQeyHJs BdKHizZYuCyI CCRwQWGXucEg BxQGSZlNVYqI ObITjttyqgQ qKpwDlYlMgw nrpecaYVsrU KwyNXCSDlQA CDzGKXpasQcg BjbcmDcfDMQR CRXlmFLouMYR BBynQaypoaAx CFGgoitMZoCp CJUCOkQyqoap BcqymWrkxKlt BxKqjgfVzgDV IZxEaYjaRDl wTpkBjvXzIC BhmkuQQJjHIC BRtmdZQMJsXG BQjMoLClqLPW DpHCIxUPhvW KXNEFVNKGEi BqaOhGxNpjoC CEyjfPWdpBoC cgffXrALtJO BPiiQPFIency BLASjqMFaDzm BrshDynRMfpu pdpgqZYJAYT BqHiSvbYPter CBoiyNesKNhP BzxmGQmuOpoD CJxfxSfiHzQD BxEhhWvgComb BxFEwYthMRtf VOmvyeKacgz SLAcaQxDxSb pANynlFtWWb RVinDJZYASL DrcyhqYoJvX CQcGvkKDNcnn eRGhKJHrpab BuLpldPMpbQD BzWQBNiIKyBg BSzMDFASkgAU JrEkTfaINAE CXLNbDiDHYqM FwPPLuZhPtA BlSJLABbSApg CXcIYuENxjPY scTPbBBDvwk BEVBGDmPaJrI GhBuakGoMqs CEiQryfYfMKs vJoAsHtCjgk CPEgKraKCmxg CIAiHGTHFYHJ BAPNkZYAJyEl SahomZHknCd sgiHviNgPYl CDmkcixYeSFR CULiVKNtmOpB IYfNRAEYjIF SrBeYAzbMed kGrKMDhkisl COmtgNdiJnth BymJAdabdVIF BktcgTHbIiNR eUMRgMMXhet BjCYxiCzOasm CPBVNqXlVohi CKcVmnrhZVPa ccnPPCqhESO plqLDDTeXwG BCFoJsEYuxeu BTIFnQgDZdDq EIAcTAOYnxS BQOZqlvZuARC BTbHDDbbJxLq ZbYoYkHQbeO YZeuiWEXRxy ifAwOgrSidS XjOZqIkoELa CQbluKAWxUBC iDIGCdxegee dxowtdwtNZS KvPRrmyIFdi BTkiQnduJIG BVchRlfkRcyu CJZSOALzurbL fNNxBazgkFz CEVTccRdGdwH GpgljGoPoRD BMfJpiyCcnTL TpNdXHSeqJD ZpzHvDujOmf BjqCAHvESMCP CRBTKCCsyjIH BhjoVIQXlsnr CKDGSEOavgQX BxJkZtAjzqSv BHJDmDfKiaPr pdzUJXdXDtj BlsSeVKvDoLb ZcWzVNSTGgX EaMDnqNQSrb GrxJjggRbcY BoXgBqTTkHLs CCPsmmgXvFIo oLatyJsjMOg SJQFlgGPFCA BxHhslvnrLvc iqJevXgDBVk CJQWAsrpUXdE lpQalyoldmR CGzpghgiqzjt sIrNQDhgudV BhsnyUTOTbJV QWxkqjjCzrN BXUndpNgTgPt BPeyhwNpbCZl dmrgcQvlNOx BmudCRJHdTIp CLokrwXuKfop BgwJyIDsJTSh BvwylmfhlsTd CFnnEDOLBmMq MkOPOwJcKhm OphwDZXPooa BdSRcZjLSUEK CCyqqmuacFCC BWHGGjEpxtXe dgKbYRdyOPu VmZOlSNDCYa ijPrYXzeNZW whlWcgXzLCC BbJOTcILpsqy KztComSWIvu BUVsGmHMrdmS CObkxzBLRPaj ocXptpQOBUb buHtqrSUulX uwpEAIadNIL CWGuDYgpGFAL CRKzByTnInXf CPRikeMDtfjv BspIqFMIswqT HFgmBXPaoCz BStfQpYLoojf diyFMiiDtIL fbkncwWWDyD BDABYbwvkBrv IQsODQGadiD CIkKuGzMxkfP CFZJvYYLOGpI ZKSKglcRdXg hOUePLyEDeU BBlZgqunFgIc QUYqDArQbsc mNqwuWPTrCk BgOqKUiQLOmk UUjtiGSaXBY BPmLBbwZFMSU BTmgNeasbCOk CBjcNoWGjiFY BaafWKxmqGVY BufODneIXMOk stZiGVeqrwM jqPGurUqbEc gXrgQnmLFyE BDIkFvdNTdoM CCWxNwWjEkM BVOXkJdmakXQ PbUupSQXyho LiQinSdOVSE BUOPaAgRhBUd BOneRSySKsJp MtymkHMKDvB BRUXvwIlcOyV HwyODuHIohJ BsXhnAwreprR tiUiwzZnBeV BPjEEcFBgNWV qkUEZwSNLCF ITLKQqnPuRJ CVEFFNFJHiel BJqQnFzcBsvx CLPtLmaLbuHS BpoBeNPENwHS EzZHHtuOCpK zRMzBAYmlNK BJkrCyAeZWpq CMhHvbBAbCRK BmPHtUlVDkum TbIHYMAnUMu CSyIiQFKQe BnSxVTdCIsOm BhAuuucyOuzC ByswAiRyWRin BpTPvoejAumn CUtCxQTsAtxb yfyKZgLjZOX emsBjukGmFb BalBaSMxEtsf CMQkauyLKXWX EAELuwwnqOn bmzWATPXwWn BvkZfSOvCstb kZeeJjpzJnD VvDpceEDXaH BlFskbymBdri
end PySem.W.Fast
open PySem PySem.W PyProof.Rows
set_option maxRecDepth 100000 in
set_option maxHeartbeats 0 in
theorem PySem.Challenge.cw_ribbonloft_k38_whole_bars_hold_holds : PySem.Challenge.rw_ribbonloft_k38_whole_bars_hold.Holds := by
 w_on;o_law;k_head;(case hw=>w_witness2)
 k_fill
 refine L2.Aj (l:=PySem.Challenge.rw_ribbonloft_k38_whole_bars_hold) (n:=63) (k:=30) (x := "_law_script") (CX:=L2.CX0) (sp:=RS.spL 30 K38.p 48) rfl (by decide) rfl ⟨rfl,by decide,by decide⟩ (fun w h Y=>PySem.W.kIn_of Y) ?F ?S ?C
 case F =>
  intro w mg fa h KX G hmg
  have T:K38.Tp (L2.KOf KX) mg:=by
   dsimp only[L2.KOf];constructor
   ·dsimp only[K38.nS,K38.Ds,K38.mkD,List.take]
    iterate 49 (refine' ⟨K38.DO KX G ?a ?l ?c ?k ?b,?_⟩;(case a=>k_is);(case l=>k_is);(case c=>k_is);(case k=>k_is);(case b=>first | exact fun _ _ _ _ _ _=>K38.all1 fun _=>rfl | exact fun _ _ _ _ _ _=>K38.all2 fun _ _=>rfl | exact fun _ _ _ _ _ _=>K38.oa fun _ _ _=>rfl))
    exact True.intro
   ·dsimp only[K38.AllP,K38.p]
    iterate 11 (refine' ⟨?a,?_⟩;(case a=>k_is))
    exact True.intro
   ·dsimp only[K38.oP,K38.p]
    iterate 2 (refine⟨⟨_,by k_is⟩,?_⟩)
    exact True.intro
  have tp:=K38.FV KX G T;obtain⟨fa',fd,h1,h2,h3,h4⟩:=tp.defs 48 _ rfl;have e0:=hmg.symm.trans h1;cases e0;refine⟨fd,fun s u=>?_,fun base kb nb=>RS.xN K38.Iz tp 30 48 _ _ rfl rfl _ _ h2⟩;obtain⟨oc,od,kV,doc,pm,an,cdv,ct,osl,e9,_,_⟩:=h2.ex;subst e9;exact .of_eq rfl
 case S=>exact fun K H a ns hl hO hS=>RS.DX hO hS (K38.main ns hl)
 case C=>exact fun _ _ _ _ h=>h
