import PyProof.Rows.All
import Wide.All
import OpenK.AllK
import Wide.FinOn
import PyProof.EqAt
import PyProof.EqKinds
import PyProof.TupleCall
import PySem.Str
import PyProof.NeKinds
import PyProof.CompMap
import PyProof.CompFree
import PyProof.EnumMake
import PyProof.Draws
import PyProof.ListRange
import PyProof.ConsumeWalk
import PyProof.Rows.SetFrom
import PyProof.SetRoads
import PyProof.ZipIter
import PyProof.Rows.SumAny
import PyProof.Rows.SortWalk
import PyProof.Rows.SeqMore2
import PyProof.Rows.SeqMore
import PyProof.StrWalks
import PyProof.SliceStr2
import PyProof.StrBlockI
import PyProof.StrOps2
import PyProof.ExcAttrAll.ValueError
import PyProof.ExcBaseAll.ValueError
import PyProof.Rows.FStr
import PyProof.Rows.StrJoin2
import PySem.Challenge.RW_ribbonloft_k09_rows_of_frames_hung
set_option Elab.async false
set_option linter.all false
set_option maxRecDepth 100000
set_option maxHeartbeats 4000000
set_option autoImplicit true
set_option relaxedAutoImplicit true
set_option genSizeOf false
set_option genSizeOfSpec false
set_option genInjectivity false
section
local macro_rules
|`(def $d $s:optDeclSig $v:declVal)=>`(theorem $d $(Lean.TSyntax.mk (Lean.mkNode ``Lean.Parser.Command.declSig #[s.raw[0],s.raw[1][0]])):declSig $v:declVal)
|`(abbrev $d $s:optDeclSig $v:declVal)=>`(noncomputable def $d $s:optDeclSig $v:declVal)
set_option hygiene false
local macro_rules
|`(tactic|cbv)=>`(tactic|obtain⟨z1,z2⟩:=ae z)
|`(tactic|fin2)=>`(tactic|obtain⟨z,z3⟩:=ae z)
|`(tactic|kd_p)=>`(tactic|obtain⟨QP,d,rv,e,k⟩:=h)
|`(tactic|kt_k)=>`(tactic|intro pins s Y H Q I h)
|`(tactic|x_go)=>`(tactic|obtain⟨x,ea,e⟩:=bind_some e)
|`(tactic|z_go)=>`(tactic|obtain⟨z,z4⟩:=ae z)
|`(tactic|k_go)=>`(tactic|intro X hP hw hK hc i pins s Y H E I hf st hg)
|`(tactic|k_in)=>`(tactic|have e1:aE .mul (.int 2) (.int n)=some (.int (2*n)):=bT (by decide) (by decide))
|`(tactic|k_ne)=>`(tactic|all_goals exact nos h)
|`(tactic|f_are)=>`(tactic|apply wpAny_bind)
|`(tactic|f_int)=>`(tactic|obtain⟨p,as,pos,rfl,b1,b2,z3,z4⟩:=bE h z)
|`(tactic|f_len)=>`(tactic|rcases gH h with⟨i,j,rfl,rfl,rfl⟩ | ⟨i,j,rfl,rfl,rfl⟩ | ⟨i,j,rfl,rfl,rfl⟩ | ⟨m,i,j,hn,hx,hy,h⟩ | ⟨m,i,j,hn,hx,hy,h⟩)
|`(tactic|f_tup)=>`(tactic|obtain⟨QP,o,QT,rv,e,k⟩:=h)
|`(tactic|cb_eq)=>`(tactic|intro pins s Y H x y v u Q I rx ry h)
|`(tactic|by_in)=>`(tactic|intro pins s Y H xs us Q I r h)
|`(tactic|gn_on)=>`(tactic|obtain⟨y,eb,e⟩:=bind_some e)
|`(tactic|gp_on)=>`(tactic|obtain⟨d,e1,e2⟩:=bind_some e)
|`(tactic|k_all)=>`(tactic|have:=(List.getElem?_eq_some_iff.mp e).1)
|`(tactic|k_asm)=>`(tactic|rw[Rep]at h ⊢)
|`(tactic|k_cls)=>`(tactic|obtain⟨f0,f1,f2,f3,f4,f5⟩:=hf it (by simp))
|`(⋯)=>`(by lia)
|`(∅)=>`(by decide)
set_option hygiene true
local macro_rules|`(#[$x,*])=>`(⟨$x,*⟩)
abbrev Qa:=@PySem.Heap.get?_push_of_some
abbrev Qb:=@PySem.wpAny_bind
abbrev Qc:=@Nat.le_refl
abbrev Qd:=@PySem.wpAny_pure
abbrev Qe:=@PySem.Heap.get?_push_size
abbrev Qf:=@List.getElem?_set_ne
abbrev Qg:=@PySem.Heap.lt_size
abbrev Qh:=@Nat.lt_of_lt_of_le
abbrev Qi:=@Bool.false_ne_true
abbrev Qj:=@List.getElem?_set_self
abbrev Qk:=@decide_eq_false
abbrev Ql:=@List.mem_cons_of_mem
abbrev Qm:=@List.getElem?_append_left
abbrev Qn:=@Nat.ne_of_lt
abbrev Qo:=@List.getElem?_append_right
abbrev Qp:=@List.isEmpty_iff
abbrev Qq:=@List.mem_cons_self
abbrev Qr:=@Nat.le_trans
abbrev Qs:=@List.mem_append_right
abbrev Qt:=@PySem.Heap.get?_update_self
abbrev Qu:=@List.all_eq_true
abbrev Qv:=@List.nodup_iff_pairwise_ne
abbrev Qw:=@PySem.Heap.get?_update_other
abbrev Qx:=@List.all_cons
abbrev Qy:=@List.pairwise_map
abbrev Qz:=@List.mem_of_getElem?
abbrev QA:=@PySem.Heap.size_push
abbrev QB:=@List.take_of_length_le
abbrev QC:=@Nat.lt_irrefl
abbrev QD:=@List.append_nil
abbrev QE:=@List.pairwise_append
abbrev QF:=@List.filter_cons
abbrev QG:=@List.replicate_succ
abbrev QH:=@Nat.mod_eq_of_lt
abbrev QI:=@Nat.add_sub_cancel_left
abbrev QJ:=@Bool.eq_iff_iff
abbrev QK:=@List.map_congr_left
abbrev QL:=@List.map_append
abbrev QM:=@List.append_assoc
abbrev QN:=@List.flatten_cons
namespace RL
open PySem (Str)
@[reducible]noncomputable def Ky:=Sum Int Str
set_option genInjectivity true in
inductive D where
 | non
 | bl (b:Bool)
 | int (i:Int)
 | str (x:Str)
 | tup (xs:List D)
 | lst (xs:List D)
 | dK (ks:List Ky) (vs:List D)
 | dT (ks:List (List Ky)) (vs:List D)
 | scr (xs:List D)
 | exc (c:Str)
 deriving Inhabited
mutual
noncomputable def D.imm:D->Bool
 | .tup xs=>au xs
 | .lst _=>false
 | .dK _ _=>false
 | .dT _ _=>false
 | .scr xs=>au xs
 | _=>true
noncomputable def au:List D->Bool
 | []=>true
 | d::r=>d.imm&&au r
end
inductive Bop where | add | sub | mul | fdiv | mod | pow
 deriving DecidableEq
inductive Cop where | lt | le | gt | ge | eq | ne
 deriving DecidableEq
inductive Bi where | len | list | tuple | int | all | any | lenSet | sorted | sortedSet | abs | sum
 deriving DecidableEq
inductive Ty where | int | bool | list | tuple | str
 deriving DecidableEq
mutual
inductive E where
 | var (i:Nat)
 | cst (d:D)
 | glb (x:Str) (i:Int)
 | bin (o:Bop) (a b:E)
 | cmp (c:Cop) (a b:E)
 | chain (c c':Cop) (a b e:E)
 | isN (neg:Bool) (a:E)
 | inn (neg:Bool) (a b:E)
 | inD (neg:Bool) (a b:E)
 | and (a b:E)
 | or (a b:E)
 | not (a:E)
 | ifx (t a b:E)
 | tup (es:Es)
 | lst (es:Es)
 | ix (a b:E)
 | ixD (a b:E)
 | slT (a b:E)
 | slF (a b:E)
 | rev (a:E)
 | call (f:Nat) (es:Es)
 | bi (b:Bi) (a:E)
 | max (a b:E)
 | isi (a:E) (t:Ty)
 | rng1 (a:E)
 | rng2 (a b:E)
 | rng3 (c:Int) (a b:E)
 | neg (a:E)
 | comp (e:E) (tg:List Nat) (it:It) (c:E)
 | compA (e:E) (tg:List Nat) (it:It)
 | join (a:E)
 | isx (a:E) (c:Str)
 | dk0
 | dt0
inductive Es where
 | nil
 | cons (e:E) (es:Es)
inductive It where
 | seq (e:E)
 | rng1 (a:E)
 | rng2 (a b:E)
 | rng3 (c:Int) (a b:E)
 | enm (e:E)
 | zip (a b:E)
end
mutual
inductive S where
 | asg (i:Nat) (e:E)
 | own (i:Nat) (e:E)
 | unp (is:List Nat) (e:E)
 | par (i j:Nat) (a b:E)
 | app (i:Nat) (e:E)
 | put (i:Nat) (k e:E)
 | pop (i j:Nat)
 | aug (i:Nat) (o:Bop) (e:E)
 | ife (t:E) (a b:Ss)
 | ifp (i:Nat) (e:E) (a b:Ss)
 | forr (tg:List Nat) (it:It) (b:Ss)
 | whil (t:E) (b:Ss)
 | mexc (f:Nat) (es:Es) (ps ms:List Nat)
 | ret (e:E)
 | exc (e:E)
 | rais (c:Str) (ps:Es)
 | tryc (b:Ss) (c:Str) (i:Nat) (h:Ss)
inductive Ss where
 | nil
 | cons (s:S) (r:Ss)
end
@[reducible]noncomputable def St:=List (Option D)
@[reducible]noncomputable def Cl:=Nat->List D->Option D
abbrev most:Nat:=100000
abbrev cI{α:Type}(xs:List α)(i:Int):Option α :=
 if 0<=i then xs[i.toNat]? else if -(xs.length:Int)<=i then xs[(i+xs.length).toNat]? else none
abbrev mE(n:Nat)(i:Int):Option Nat :=
 if 0<=i then(if i<n then some i.toNat else none)else if -(n:Int)<=i then some (i+n).toNat else none
abbrev cutAt(n:Nat)(i:Int):Nat:=if 0<=i then min i.toNat n else(i+n).toNat
abbrev aE:Bop->D->D->Option D
 | .add,.int a,.int b=>some (.int (a+b))
 | .add,.str a,.str b=>if a.length+b.length<=most then some (.str (a++b))else none
 | .add,.lst a,.lst b=>if a.length+b.length<=most then some (.lst (a++b))else none
 | .add,.tup a,.tup b=>if a.length+b.length<=most/\0<a.length then some (.tup (a++b))else none
 | .sub,.int a,.int b=>some (.int (a-b))
 | .mul,.int a,.int b=>if(-(2 ^ 64)<a/\a<2 ^ 64)\/(-(2 ^ 64)<b/\b<2 ^ 64)then some (.int (a*b))else none
 | .mul,.lst a,.int b=>if 0<=b/\b<=most/\a.length*b.toNat<=most then some (.lst (List.replicate b.toNat a).flatten)else none
 | .fdiv,.int a,.int b=>if 0<b/\b<2 ^ 200 then some (.int (a / b))else none
 | .mod,.int a,.int b=>if 0<b then some (.int (a%b))else none
 | .pow,.int a,.int b=>if 0<=b/\b<=1000/\a.natAbs<2 ^ 64 then some (.int (a ^ b.toNat))else none
 | _,_,_=>none
abbrev eqs(f:D->D->Option Bool):List D->List D->Option Bool
 | a::r,b::s=>(f a b).bind fun e=>(eqs f r s).map fun k=>e&&k
 | _,_=>some true
abbrev eqD:Nat->D->D->Option Bool
 | _,.int a,.int b=>some (a == b)
 | _,.str a,.str b=>some (a == b)
 | _,.bl a,.bl b=>some (a == b)
 | n+1,.tup a,.tup b=>(eqs (eqD n) a b).map fun k=>k&&a.length == b.length
 | n+1,.lst a,.lst b=>(eqs (eqD n) a b).map fun k=>k&&a.length == b.length
 | _,_,_=>none
abbrev bz:Cop->D->D->Option Bool
 | .lt,.int a,.int b=>some (decide (a<b))
 | .le,.int a,.int b=>some (decide (a<=b))
 | .gt,.int a,.int b=>some (decide (b<a))
 | .ge,.int a,.int b=>some (decide (b<=a))
 | .eq,a,b=>eqD 8 a b
 | .ne,a,b=>(eqD 8 a b).map not
 | _,_,_=>none
abbrev truth:D->Option Bool
 | .bl b=>some b
 | .lst xs=>some (!xs.isEmpty)
 | .tup xs=>some (!xs.isEmpty)
 | .int i=>some (i != 0)
 | _=>none
abbrev fq:List D->Option (List Int)
 | []=>some []
 | .int i::r=>(fq r).map (i :: ·)
 | _=>none
abbrev dF:List D->Option (List Bool)
 | []=>some []
 | .bl i::r=>(dF r).map (i :: ·)
 | _=>none
abbrev strs?:List D->Option (List Str)
 | []=>some []
 | .str i::r=>(strs? r).map (i :: ·)
 | _=>none
abbrev ve(a:Int):List Int->List Int
 | []=>[a]
 | b::r=>if a<=b then a::b::r else b::ve a r
abbrev sortI:List Int->List Int
 | []=>[]
 | a::r=>ve a (sortI r)
abbrev il(xs:List Int):List Int:=xs.foldl (fun m k=>if m.any (· == k)then m else m++[k]) []
abbrev items:D->Option (List D)
 | .lst xs=>some xs
 | .tup xs=>some xs
 | _=>none
abbrev gE:D->Option (List D)
 | .lst xs=>some xs
 | .tup xs=>some xs
 | .str x=>some (x.cps.toList.map fun c=>.str ⟨(List.toArray [c])⟩)
 | _=>none
abbrev biV:Bi->D->Option D
 | .len,.str x=>if x.length<=most then some (.int x.length)else none
 | .len,.dK ks _=>some (.int ks.length)
 | .len,.dT ks _=>some (.int ks.length)
 | .len,d=>(items d).map fun xs=>.int xs.length
 | .list,d=>(items d).map .lst
 | .tuple,d=>(items d).map .tup
 | .int,.bl b=>some (.int (if b then 1 else 0))
 | .int,.int i=>some (.int i)
 | .int,_=>none
 | .all,.lst xs=>(dF xs).map fun bs=>.bl (bs.all id)
 | .any,.lst xs=>(dF xs).map fun bs=>.bl (bs.any id)
 | .all,_=>none
 | .any,_=>none
 | .lenSet,.lst xs=>if xs.length<=1000 then(fq xs).map fun is=>.int (il is).length else none
 | .lenSet,_=>none
 | .sorted,.lst xs=>if xs.length<64 then(fq xs).map fun is=>.lst ((sortI is).map .int)else none
 | .sorted,_=>none
 | .sortedSet,.lst xs=>(fq xs).map fun is=>.lst ((sortI (il is)).map .int)
 | .sortedSet,_=>none
 | .abs,.int i=>some (.int (if i<0 then -i else i))
 | .abs,_=>none
 | .sum,.lst xs=>(fq xs).map fun is=>.int is.sum
 | .sum,_=>none
abbrev fS:Ty->D->Option Bool
 | .int,.int _=>some true
 | .int,.bl _=>some true
 | .bool,.bl _=>some true
 | .list,.lst _=>some true
 | .tuple,.tup _=>some true
 | .str,.str _=>some true
 | _,.non=>some false
 | _,.bl _=>some false
 | _,.int _=>some false
 | _,.str _=>some false
 | _,.tup _=>some false
 | _,.lst _=>some false
 | _,_=>none
abbrev keyOf:D->Option Ky
 | .int i=>some (.inl i)
 | .str x=>some (.inr x)
 | _=>none
abbrev keysOf:List D->Option (List Ky)
 | []=>some []
 | d::r=>(keyOf d).bind fun k=>(keysOf r).map (k :: ·)
abbrev aL{κ:Type} [DecidableEq κ]:List κ->List D->κ->Option D
 | k::ks,v::vs,x=>if k=x then some v else aL ks vs x
 | _,_,_=>none
abbrev putD{κ:Type} [DecidableEq κ](ks:List κ)(vs:List D)(x:κ)(d:D):List κ × List D :=
 if x∈ks then(ks,List.zipWith (fun k v=>if k=x then d else v) ks vs)else(ks++[x],vs++[d])
abbrev ixV:D->D->Option D
 | .lst xs,.int i=>cI xs i
 | .tup xs,.int i=>cI xs i
 | .str x,.int i=>if x.length<=most then(cI x.cps.toList i).map fun c=>.str ⟨(List.toArray [c])⟩else none
 | _,_=>none
abbrev mH:D->D->Option D
 | .dK ks vs,k=>(keyOf k).bind (aL ks vs)
 | .dT ks vs,.tup k=>(keysOf k).bind (aL ks vs)
 | _,_=>none
abbrev Kz:D->D->D->Option D
 | .dK ks vs,k,z=>(keyOf k).map fun q=>(aL ks vs q).getD z
 | .dT ks vs,.tup k,z=>(keysOf k).map fun q=>(aL ks vs q).getD z
 | _,_,_=>none
abbrev xu:D->D->Option Bool
 | .dK ks vs,k=>(keyOf k).map fun k=>(aL ks vs k).isSome
 | .dT ks vs,.tup k=>(keysOf k).map fun k=>(aL ks vs k).isSome
 | _,_=>none
abbrev flat:D->Bool
 | .int _=>true
 | .str _=>true
 | _=>false
abbrev eqF:D->D->Bool
 | .int a,.int b=>a == b
 | .str a,.str b=>a == b
 | _,_=>false
abbrev inV(a b:D):Option Bool :=
 (items b).bind fun xs=>if flat a&&xs.all flat then some (xs.any fun x=>eqF x a)else none
abbrev mL:D->D->Option D
 | .scr xs,.int k=>some (.lst (xs.take (cutAt xs.length k)))
 | .lst xs,.int k=>some (.lst (xs.take (cutAt xs.length k)))
 | .tup xs,.int k=>if cutAt xs.length k<xs.length then some (.tup (xs.take (cutAt xs.length k)))else none
 | _,_=>none
abbrev tJ:D->D->Option D
 | .lst xs,.int k=>some (.lst (xs.drop (cutAt xs.length k)))
 | .tup xs,.int k=>if 0<cutAt xs.length k then some (.tup (xs.drop (cutAt xs.length k)))else none
 | _,_=>none
abbrev cO(lo:Int):Nat->List D
 | 0=>[]
 | n+1=>.int lo::cO (lo+1) n
abbrev cm(c lo:Int):Nat->List D
 | 0=>[]
 | n+1=>.int lo::cm c (lo+c) n
abbrev bN(c a b:Int):Nat:=(if c > 0 then(if a<b then(b-a-1) / c+1 else 0)else(if a > b then(a-b-1) / (-c)+1 else 0)).toNat
abbrev cW:D->D->Option (List D)
 | .int a,.int b=>if(b-a).toNat<=most/\-(2 ^ 60)<=a/\a<2 ^ 60/\-(2 ^ 60)<=b/\b<2 ^ 60 then some (cO a (b-a).toNat)else none
 | _,_=>none
abbrev gg(c:Int):D->D->Option (List D)
 | .int a,.int b=>if c≠0/\-(2 ^ 60)<c/\c<2 ^ 60/\bN c a b<=most/\-(2 ^ 60)<=a/\a<2 ^ 60/\-(2 ^ 60)<=b/\b<2 ^ 60 then some (cm c a (bN c a b))else none
 | _,_=>none
abbrev d5(i:Int):List D->List D
 | []=>[]
 | d::r=>.tup [.int i,d]::d5 (i+1) r
abbrev fL:List D->List D->List D
 | a::r,b::s=>.tup [a,b]::fL r s
 | _,_=>[]
abbrev bF:List Nat->List D->St->Option St
 | [],[],Y=>some Y
 | i::is,d::ds,Y=>bF is ds (Y.set i (some d))
 | _,_,_=>none
abbrev aX(tg:List Nat)(d:D)(Y:St):Option St :=
 match tg with
 | [i]=>some (Y.set i (some d))
 | tg=>match d with
  | .tup ds=>bF tg ds Y
  | .lst ds=>bF tg ds Y
  | _=>none
abbrev kY(y:Option D)(ys:List D):Option (List D) :=
 match y with
 | some e=>if e.imm then some (e::ys)else none
 | none=>some ys
abbrev bW(f:St->Option (Option D))(tg:List Nat)(Y:St):List D->Option (List D)
 | []=>some []
 | d::r=>(aX tg d Y).bind fun QR=>(f QR).bind fun y=>(bW f tg Y r).bind (kY y)
abbrev aK:D->Bool
 | .lst xs=>au xs
 | .dK _ vs=>au vs
 | .dT _ vs=>au vs
 | _=>false
abbrev JS(f:St->Option D)(fr:Bool)(tg:List Nat)(Y:St):List D->Option (List D)
 | []=>some []
 | d::r=>(aX tg d Y).bind fun QR=>(f QR).bind fun y=>if aK y&&fr then(JS f fr tg Y r).map (y :: ·)else none
abbrev fits(xs:List D):Option (List D):=if xs.length<=most then some xs else none
abbrev aM:E->Bool
 | .lst _=>true
 | .tup _=>true
 | .comp _ _ _ _=>true
 | .compA _ _ _=>true
 | .bin _ _ _=>true
 | .slT _ _=>true
 | .slF _ _=>true
 | .rev _=>true
 | .call _ _=>true
 | .bi _ _=>true
 | .rng1 _=>true
 | .rng2 _ _=>true
 | .rng3 _ _ _=>true
 | .dk0=>true
 | .dt0=>true
 | _=>false
abbrev c7(n c:Str):Bool:=n == c || c == "RibbonError" || c == "ValueError"
abbrev HJ(neg:Bool):D->Option D
 | .non=>some (.bl (!neg))
 | .dK _ _=>none
 | .dT _ _=>none
 | _=>some (.bl neg)
abbrev vX(y:Option D):D->Option D
 | .bl true=>y
 | .bl false=>some (.bl false)
 | _=>none
abbrev orV(y:Option D):D->Option D
 | .bl false=>y
 | .bl true=>some (.bl true)
 | _=>none
abbrev F9:D->Option D
 | .lst xs=>some (.lst xs.reverse)
 | .tup xs=>some (.tup xs.reverse)
 | _=>none
abbrev AH:D->Option D
 | .int i=>some (.int (-i))
 | _=>none
abbrev Bw:D->D->Option D
 | .int i,.int j=>some (.int (if j > i then j else i))
 | _,_=>none
abbrev K1:D->D->Option D
 | .str x,.int k=>if 0<=k/\x.length<=most then some (.str ⟨(x.cps.toList.take k.toNat).toArray⟩)else none
 | _,_=>none
abbrev K0:D->D->Option D
 | .str x,.int k=>if 0<=k/\x.length<=most then some (.str ⟨(x.cps.toList.drop k.toNat).toArray⟩)else none
 | _,_=>none
abbrev Kv:D->D->D->D->Option D
 | .str x,y,.str z,w=>if x≠z/\y.imm=true/\w.imm=true then some (.dK [.inr x,.inr z] [y,w])else none
 | _,_,_,_=>none
abbrev Kr:D->D->Option D
 | .str x,.int n=>if 1<n/\n<=1000/\0<x.length/\x.length<=100 then some (.str ⟨(List.replicate n.toNat x.cps.toList).flatten.toArray⟩)else none
 | _,_=>none
abbrev Jf:D->Option D
 | .lst xs=>(strs? xs).bind fun ss=>if ss.length<=most/\ss.all (fun s=>s.length<=100)then some (.str ⟨(ss.flatMap fun s=>s.cps.toList).toArray⟩)else none
 | _=>none
abbrev Jt(c:Str):D->Option D
 | .exc n=>some (.bl (c7 n c))
 | _=>none
@[simp] theorem sv_andt {y:Option D}:vX y (.bl true)=y:=rfl
@[simp] theorem sv_andf {y:Option D}:vX y (.bl false)=some (.bl false):=rfl
@[simp] theorem sv_ort {y:Option D}:orV y (.bl true)=some (.bl true):=rfl
@[simp] theorem sv_orf {y:Option D}:orV y (.bl false)=y:=rfl
@[simp] theorem sv_max {i j:Int}:Bw (.int i) (.int j)=some (.int (if j > i then j else i)):=rfl
@[simp] theorem sv_neg {i:Int}:AH (.int i)=some (.int (-i)):=rfl
mutual
noncomputable def ev(cl:Cl)(Y:St):E->Option D
 | .var i=>(Y[i]?).bind id
 | .cst d=>some d
 | .glb _ i=>some (.int i)
 | .bin o a b=>(ev cl Y a).bind fun x=>(ev cl Y b).bind fun y=>aE o x y
 | .cmp c a b=>(ev cl Y a).bind fun x=>(ev cl Y b).bind fun y=>(bz c x y).map .bl
 | .chain c c' a b e=>(ev cl Y a).bind fun x=>(ev cl Y b).bind fun y=>(bz c x y).bind fun k=>if k then(ev cl Y e).bind fun z=>(bz c' y z).map .bl else some (.bl false)
 | .isN neg a=>(ev cl Y a).bind (HJ neg)
 | .inn neg a b=>(ev cl Y a).bind fun x=>(ev cl Y b).bind fun y=>(inV x y).map fun k=>.bl (if neg then !k else k)
 | .inD neg a b=>(ev cl Y a).bind fun x=>(ev cl Y b).bind fun y=>(xu y x).map fun k=>.bl (if neg then !k else k)
 | .and a b=>(ev cl Y a).bind (vX (ev cl Y b))
 | .or a b=>(ev cl Y a).bind (orV (ev cl Y b))
 | .not a=>((ev cl Y a).bind truth).map fun k=>.bl (!k)
 | .ifx t a b=>((ev cl Y t).bind truth).bind fun k=>if k then ev cl Y a else ev cl Y b
 | .tup es=>(evs cl Y es).map .tup
 | .lst es=>(evs cl Y es).map .lst
 | .ix a b=>(ev cl Y a).bind fun x=>(ev cl Y b).bind fun y=>ixV x y
 | .ixD a b=>(ev cl Y a).bind fun x=>(ev cl Y b).bind fun y=>mH x y
 | .slT a b=>(ev cl Y a).bind fun x=>(ev cl Y b).bind fun y=>mL x y
 | .slF a b=>(ev cl Y a).bind fun x=>(ev cl Y b).bind fun y=>tJ x y
 | .rev a=>(ev cl Y a).bind F9
 | .call f es=>(evs cl Y es).bind fun ds=>cl f ds
 | .bi b a=>(ev cl Y a).bind fun x=>biV b x
 | .max a b=>(ev cl Y a).bind fun x=>(ev cl Y b).bind fun y=>Bw x y
 | .isi a t=>(ev cl Y a).bind fun x=>(fS t x).map .bl
 | .rng1 a=>(ev cl Y a).bind fun x=>(cW (.int 0) x).map .lst
 | .rng2 a b=>(ev cl Y a).bind fun x=>(ev cl Y b).bind fun y=>(cW x y).map .lst
 | .rng3 c a b=>(ev cl Y a).bind fun x=>(ev cl Y b).bind fun y=>(gg c x y).map .lst
 | .neg a=>(ev cl Y a).bind AH
 | .comp e tg it c=>(bG cl Y it).bind fun ds=>(fits ds).bind fun ds=>(bW (fun QR=>((ev cl QR c).bind truth).bind fun k=>if k then(ev cl QR e).map some else some none) tg Y ds).map .lst
 | .compA e tg it=>(bG cl Y it).bind fun ds=>(fits ds).bind fun ds=>(bW (fun QR=>(ev cl QR e).map some) tg Y ds).map .lst
 | .join a=>(ev cl Y a).bind Jf
 | .isx a c=>(ev cl Y a).bind (Jt c)
 | .dk0=>some (.dK [] [])
 | .dt0=>some (.dT [] [])
noncomputable def evs(cl:Cl)(Y:St):Es->Option (List D)
 | .nil=>some []
 | .cons e es=>(ev cl Y e).bind fun d=>(evs cl Y es).map (d :: ·)
noncomputable def bG(cl:Cl)(Y:St):It->Option (List D)
 | .seq e=>(ev cl Y e).bind items
 | .rng1 a=>(ev cl Y a).bind fun x=>cW (.int 0) x
 | .rng2 a b=>(ev cl Y a).bind fun x=>(ev cl Y b).bind fun y=>cW x y
 | .rng3 c a b=>(ev cl Y a).bind fun x=>(ev cl Y b).bind fun y=>gg c x y
 | .enm e=>(ev cl Y e).bind fun x=>(gE x).map (d5 0)
 | .zip a b=>(ev cl Y a).bind fun x=>(ev cl Y b).bind fun y=>(items x).bind fun xs=>(items y).bind fun ys=>if xs.length=ys.length then some (fL xs ys)else none
end
abbrev clX(cl:Cl)(f:Nat)(ds:List D):Option Str:=(cl (f+1000) ds).bind fun d=>match d with
 | .str x=>some x
 | _=>none
mutual
noncomputable def evX(cl:Cl)(Y:St):E->Option Str
 | .call f es=>match evs cl Y es with
  | some ds=>clX cl f ds
  | none=>pS cl Y es
 | .ix a _=>evX cl Y a
 | _=>none
noncomputable def pS(cl:Cl)(Y:St):Es->Option Str
 | .nil=>none
 | .cons e es=>match ev cl Y e with
  | some _=>pS cl Y es
  | none=>evX cl Y e
end
abbrev written:D->Bool
 | .int i=>decide (i.natAbs<2 ^ 1900)
 | _=>false
inductive Out where
 | nx
 | rt (d:D)
abbrev avE(M:List Nat):E->Bool
 | .var j=>!M.contains j
 | .ix a _=>avE M a
 | .call _ _=>true
 | .ifx _ a b=>avE M a&&avE M b
 | _=>false
abbrev tY(M:List Nat):It->Bool
 | .seq e=>avE M e || aM e
 | .enm e=>avE M e || aM e
 | .zip a b=>(avE M a || aM a)&&(avE M b || aM b)
 | _=>true
abbrev bB(M:List Nat)(e:E)(d:D):Bool :=
 d.imm || (aK d&&(aM e || match e with | .var i=>M.contains i | _=>false))
abbrev aV(M:List Nat)(e:E)(d:D):Bool:=d.imm || (aK d&&aM e) || avE M e
abbrev isVar:E->Bool
 | .var _=>true
 | _=>false
abbrev eL(M ps:List Nat):Nat->Es->List D->Bool
 | _,.nil,[]=>true
 | q,.cons e es,d::ds=>(if ps.contains q then isVar e else aV M e d)&&eL M ps (q+1) es ds
 | _,_,_=>false
abbrev fw:D->D->D->Option D
 | .lst xs,.int k,d=>(mE xs.length k).map fun j=>.lst (xs.set j d)
 | .dK ks vs,k,d=>(keyOf k).bind fun k=>if ks.length<most then some (.dK (putD ks vs k d).1 (putD ks vs k d).2)else none
 | .dT ks vs,.tup k,d=>(keysOf k).bind fun k=>if ks.length<most then some (.dT (putD ks vs k d).1 (putD ks vs k d).2)else none
 | _,_,_=>none
abbrev aS(f:St->Option (Out × St))(tg:List Nat):List D->St->Option (Out × St)
 | [],Y=>some (.nx,Y)
 | d::r,Y=>if d.imm then(aX tg d Y).bind fun QR=>(f QR).bind fun p=>match p.1 with
   | .nx=>aS f tg r p.2
   | .rt d=>some (.rt d,p.2)
  else none
abbrev whF(t:St->Option Bool)(f:St->Option (Out × St)):Nat->St->Option (Out × St)
 | 0,_=>none
 | n+1,Y=>(t Y).bind fun k=>if k then(f Y).bind fun p=>match p.1 with
   | .nx=>whF t f n p.2
   | .rt d=>some (.rt d,p.2)
  else some (.nx,Y)
abbrev dP(f:St->Option (Out × St))(fx:St->Option (Str × St))(tg:List Nat):List D->St->Option (Str × St)
 | [],_=>none
 | d::r,Y=>if d.imm then(aX tg d Y).bind fun QR=>match f QR with
   | some p=>match p.1 with
    | .nx=>dP f fx tg r p.2
    | .rt _=>none
   | none=>fx QR
  else none
abbrev Kx:D->Option (D × D)
 | .lst xs=>(xs[xs.length-1]?).map fun d=>(d,.lst xs.dropLast)
 | _=>none
abbrev Ks(Y:St)(r w:Nat)(l:D):D->Option (Out × St)
 | .tup [_,R]=>some (.nx,(Y.set w (some l)).set r (some R))
 | _=>none
abbrev Ku:D->D->Option D
 | .str a,.str b=>if a.length+b.length<=most then some (.str (a++b))else none
 | _,_=>none
mutual
noncomputable def evS(cl:Cl)(M:List Nat):S->St->Option (Out × St)
 | .asg i e,Y=>(ev cl Y e).bind fun d=>if aV M e d then some (.nx,Y.set i (some d))else none
 | .own i e,Y=>(ev cl Y e).bind fun d=>if aK d&&aM e then some (.nx,Y.set i (some d))else none
 | .unp is e,Y=>(ev cl Y e).bind fun d=>(items d).bind fun ds=>if au ds then(bF is ds Y).map fun QR=>(.nx,QR)else none
 | .par i j a b,Y=>(ev cl Y a).bind fun x=>(ev cl Y b).bind fun y=>if x.imm&&y.imm then some (.nx,(Y.set i (some x)).set j (some y))else none
 | .app i e,Y=>(ev cl Y e).bind fun d=>((Y[i]?).bind id).bind fun l=>match l with
  | .lst xs=>if d.imm&&decide (xs.length<most)then some (.nx,Y.set i (some (.lst (xs++[d]))))else none
  | _=>none
 | .put i k e,Y=>(ev cl Y e).bind fun d=>(ev cl Y k).bind fun kk=>((Y[i]?).bind id).bind fun l=>if d.imm then(fw l kk d).map fun l'=>(.nx,Y.set i (some l'))else none
 | .pop i j,Y=>((Y[i]?).bind id).bind fun l=>match l with
  | .lst xs=>(xs[xs.length-1]?).map fun d=>(.nx,(Y.set i (some (.lst xs.dropLast))).set j (some d))
  | _=>none
 | .aug i o e,Y=>((Y[i]?).bind id).bind fun x=>(ev cl Y e).bind fun y=>match x,y with
  | .int a,.int b=>(aE o (.int a) (.int b)).map fun z=>(.nx,Y.set i (some z))
  | _,_=>none
 | .ife t a b,Y=>((ev cl Y t).bind truth).bind fun k=>if k then ag cl M a Y else ag cl M b Y
 | .ifp i e a b,Y=>((Y[i]?).bind id).bind fun l=>match l with
  | .lst xs=>(xs[xs.length-1]?).bind fun d=>(ev cl (Y.set i (some (.lst xs.dropLast))) e).bind fun y=>match d,y with
   | .int p,.int q=>if decide (p=q)then ag cl M b (Y.set i (some (.lst xs.dropLast)))else ag cl M a (Y.set i (some (.lst xs.dropLast)))
   | _,_=>none
  | _=>none
 | .forr tg it b,Y=>(bG cl Y it).bind fun ds=>aS (ag cl M b) tg ds Y
 | .whil t b,Y=>whF (fun Y=>(ev cl Y t).bind truth) (ag cl M b) most Y
 | .mexc f es ps ms,Y=>(evs cl Y es).bind fun ds=>if eL M ps 0 es ds then(cl f ds).bind fun r=>match r with
  | .tup (_::outs)=>(bF ms outs Y).map fun QR=>(.nx,QR)
  | _=>none
  else none
 | .ret e,Y=>(ev cl Y e).bind fun d=>if bB M e d then some (.rt d,Y)else none
 | .exc e,Y=>(ev cl Y e).map fun _=>(.nx,Y)
 | .rais _ _,_=>none
 | .tryc b c i h,Y=>match ag cl M b Y with
  | some p=>some p
  | none=>(bP cl M b Y).bind fun q=>if c7 q.1 c then(ag cl M h (q.2.set i (some (.exc q.1)))).map fun r=>(r.1,r.2.set i none)else none
noncomputable def ag(cl:Cl)(M:List Nat):Ss->St->Option (Out × St)
 | .nil,Y=>some (.nx,Y)
 | .cons s r,Y=>(evS cl M s Y).bind fun p=>match p.1 with
  | .nx=>ag cl M r p.2
  | .rt d=>some (.rt d,p.2)
noncomputable def kW(cl:Cl)(M:List Nat):S->St->Option (Str × St)
 | .asg _ e,Y=>(evX cl Y e).map fun x=>(x,Y)
 | .own _ e,Y=>(evX cl Y e).map fun x=>(x,Y)
 | .unp _ e,Y=>(evX cl Y e).map fun x=>(x,Y)
 | .exc e,Y=>(evX cl Y e).map fun x=>(x,Y)
 | .ret e,Y=>(evX cl Y e).map fun x=>(x,Y)
 | .ife t a b,Y=>((ev cl Y t).bind truth).bind fun k=>if k then bP cl M a Y else bP cl M b Y
 | .forr tg it b,Y=>(bG cl Y it).bind fun ds=>dP (ag cl M b) (bP cl M b) tg ds Y
 | .rais c ps,Y=>(evs cl Y ps).bind fun ds=>if ds.all written then some (c,Y)else none
 | _,_=>none
noncomputable def bP(cl:Cl)(M:List Nat):Ss->St->Option (Str × St)
 | .nil,_=>none
 | .cons s r,Y=>match evS cl M s Y with
  | some p=>match p.1 with
   | .nx=>bP cl M r p.2
   | .rt _=>none
  | none=>kW cl M s Y
end
def bc:ev cl Y (.var i)=((Y[i]?).bind id):=rfl
def cH:ev cl Y (.cst d)=(some d):=rfl
def Ij:ev cl Y (.glb y1 i)=(some (.int i)):=rfl
def c9:ev cl Y (.bin o a b)=((ev cl Y a).bind fun x=>(ev cl Y b).bind fun y=>aE o x y):=rfl
def gS:ev cl Y (.cmp c a b)=((ev cl Y a).bind fun x=>(ev cl Y b).bind fun y=>(bz c x y).map .bl):=rfl
def oY:ev cl Y (.chain c c' a b e)=((ev cl Y a).bind fun x=>(ev cl Y b).bind fun y=>(bz c x y).bind fun k=>if k then(ev cl Y e).bind fun z=>(bz c' y z).map .bl else some (.bl false)):=rfl
def HY:ev cl Y (.isN neg a)=((ev cl Y a).bind (HJ neg)):=rfl
def HV:ev cl Y (.inn neg a b)=((ev cl Y a).bind fun x=>(ev cl Y b).bind fun y=>(inV x y).map fun k=>.bl (if neg then !k else k)):=rfl
def x6:ev cl Y (.inD neg a b)=((ev cl Y a).bind fun x=>(ev cl Y b).bind fun y=>(xu y x).map fun k=>.bl (if neg then !k else k)):=rfl
def nQ:ev cl Y (.and a b)=((ev cl Y a).bind (vX (ev cl Y b))):=rfl
def vV:ev cl Y (.or a b)=((ev cl Y a).bind (orV (ev cl Y b))):=rfl
def rf:ev cl Y (.not a)=(((ev cl Y a).bind truth).map fun k=>.bl (!k)):=rfl
def wZ:ev cl Y (.ifx t a b)=(((ev cl Y t).bind truth).bind fun k=>if k then ev cl Y a else ev cl Y b):=rfl
def lu:ev cl Y (.tup es)=((evs cl Y es).map .tup):=rfl
def lE:ev cl Y (.lst es)=((evs cl Y es).map .lst):=rfl
def jY:ev cl Y (.ix a b)=((ev cl Y a).bind fun x=>(ev cl Y b).bind fun y=>ixV x y):=rfl
def vW:ev cl Y (.ixD a b)=((ev cl Y a).bind fun x=>(ev cl Y b).bind fun y=>mH x y):=rfl
def Il:ev cl Y (.slT a b)=((ev cl Y a).bind fun x=>(ev cl Y b).bind fun y=>mL x y):=rfl
def Jh:ev cl Y (.slF a b)=((ev cl Y a).bind fun x=>(ev cl Y b).bind fun y=>tJ x y):=rfl
def IF:ev cl Y (.rev a)=((ev cl Y a).bind F9):=rfl
def dk:ev cl Y (.call f es)=((evs cl Y es).bind fun ds=>cl f ds):=rfl
def ij:ev cl Y (.bi b a)=((ev cl Y a).bind fun x=>biV b x):=rfl
def Jc:ev cl Y (.max a b)=((ev cl Y a).bind fun x=>(ev cl Y b).bind fun y=>Bw x y):=rfl
def II:ev cl Y (.isi a t)=((ev cl Y a).bind fun x=>(fS t x).map .bl):=rfl
def nE:ev cl Y (.rng1 a)=((ev cl Y a).bind fun x=>(cW (.int 0) x).map .lst):=rfl
def yN:ev cl Y (.rng2 a b)=((ev cl Y a).bind fun x=>(ev cl Y b).bind fun y=>(cW x y).map .lst):=rfl
def FJ:ev cl Y (.rng3 c a b)=((ev cl Y a).bind fun x=>(ev cl Y b).bind fun y=>(gg c x y).map .lst):=rfl
def IS:ev cl Y (.neg a)=((ev cl Y a).bind AH):=rfl
def xX:ev cl Y (.comp e tg it c)=((bG cl Y it).bind fun ds=>(fits ds).bind fun ds=>(bW (fun QR=>((ev cl QR c).bind truth).bind fun k=>if k then(ev cl QR e).map some else some none) tg Y ds).map .lst):=rfl
def lU:ev cl Y (.compA e tg it)=((bG cl Y it).bind fun ds=>(fits ds).bind fun ds=>(bW (fun QR=>(ev cl QR e).map some) tg Y ds).map .lst):=rfl
def HU:ev cl Y (.dk0)=(some (.dK [] [])):=rfl
def IE:ev cl Y (.dt0)=(some (.dT [] [])):=rfl
def gx:evS cl M (.asg i e) Y=((ev cl Y e).bind fun d=>if aV M e d then some (.nx,Y.set i (some d))else none):=rfl
def nB:evS cl M (.own i e) Y=((ev cl Y e).bind fun d=>if aK d&&aM e then some (.nx,Y.set i (some d))else none):=rfl
def Io:evS cl M (.unp is e) Y=((ev cl Y e).bind fun d=>(items d).bind fun ds=>if au ds then(bF is ds Y).map fun QR=>(.nx,QR)else none):=rfl
def IW:evS cl M (.par i j a b) Y=((ev cl Y a).bind fun x=>(ev cl Y b).bind fun y=>if x.imm&&y.imm then some (.nx,(Y.set i (some x)).set j (some y))else none):=rfl
def wL:evS cl M (.app i e) Y=((ev cl Y e).bind fun d=>((Y[i]?).bind id).bind fun l=>match l with
  | .lst xs=>if d.imm&&decide (xs.length<most)then some (.nx,Y.set i (some (.lst (xs++[d]))))else none
  | _=>none):=rfl
def l8:evS cl M (.put i k e) Y=((ev cl Y e).bind fun d=>(ev cl Y k).bind fun kk=>((Y[i]?).bind id).bind fun l=>if d.imm then(fw l kk d).map fun l'=>(.nx,Y.set i (some l'))else none):=rfl
def s_pop:evS cl M (.pop i j) Y=(((Y[i]?).bind id).bind fun l=>match l with
  | .lst xs=>(xs[xs.length-1]?).map fun d=>(.nx,(Y.set i (some (.lst xs.dropLast))).set j (some d))
  | _=>none):=rfl
def Ja:evS cl M (.aug i o e) Y=(((Y[i]?).bind id).bind fun x=>(ev cl Y e).bind fun y=>match x,y with
  | .int a,.int b=>(aE o (.int a) (.int b)).map fun z=>(.nx,Y.set i (some z))
  | _,_=>none):=rfl
def fC:evS cl M (.ife t a b) Y=(((ev cl Y t).bind truth).bind fun k=>if k then ag cl M a Y else ag cl M b Y):=rfl
def Ib:evS cl M (.ifp i e a b) Y=(((Y[i]?).bind id).bind fun l=>match l with
  | .lst xs=>(xs[xs.length-1]?).bind fun d=>(ev cl (Y.set i (some (.lst xs.dropLast))) e).bind fun y=>match d,y with
   | .int p,.int q=>if decide (p=q)then ag cl M b (Y.set i (some (.lst xs.dropLast)))else ag cl M a (Y.set i (some (.lst xs.dropLast)))
   | _,_=>none
  | _=>none):=rfl
def fk:evS cl M (.forr tg it b) Y=((bG cl Y it).bind fun ds=>aS (ag cl M b) tg ds Y):=rfl
def E9:evS cl M (.whil t b) Y=(whF (fun Y=>(ev cl Y t).bind truth) (ag cl M b) most Y):=rfl
def EU:evS cl M (.mexc f es ps ms) Y=((evs cl Y es).bind fun ds=>if eL M ps 0 es ds then(cl f ds).bind fun r=>match r with
  | .tup (_::outs)=>(bF ms outs Y).map fun QR=>(.nx,QR)
  | _=>none
  else none):=rfl
def dW:evS cl M (.ret e) Y=((ev cl Y e).bind fun d=>if bB M e d then some (.rt d,Y)else none):=rfl
def rC:evS cl M (.exc e) Y=((ev cl Y e).map fun _=>(.nx,Y)):=rfl
def tV:evS cl M (.rais y1 y2) Y=(none):=rfl
def yD:evS cl M (.tryc b c i h) Y=(match ag cl M b Y with
  | some p=>some p
  | none=>(bP cl M b Y).bind fun q=>if c7 q.1 c then(ag cl M h (q.2.set i (some (.exc q.1)))).map fun r=>(r.1,r.2.set i none)else none):=rfl
def JP:aE .add (.str a) (.str b)=(if a.length+b.length<=most then some (.str (a++b))else none):=rfl
def Ap:aE .add (.lst a) (.lst b)=(if a.length+b.length<=most then some (.lst (a++b))else none):=rfl
def Bt:aE .mul (.int a) (.int b)=(if(-(2 ^ 64)<a/\a<2 ^ 64)\/(-(2 ^ 64)<b/\b<2 ^ 64)then some (.int (a*b))else none):=rfl
def Em:aE .mul (.lst a) (.int b)=(if 0<=b/\b<=most/\a.length*b.toNat<=most then some (.lst (List.replicate b.toNat a).flatten)else none):=rfl
def Jw:aE .fdiv (.int a) (.int b)=(if 0<b/\b<2 ^ 200 then some (.int (a / b))else none):=rfl
def Kj:aE .mod (.int a) (.int b)=(if 0<b then some (.int (a%b))else none):=rfl
def Ez:bz .ge (.int a) (.int b)=(some (decide (b<=a))):=rfl
def Hj:bz .eq a b=(eqD 8 a b):=rfl
def JT:fw (.lst xs) (.int k) d=((mE xs.length k).map fun j=>.lst (xs.set j d)):=rfl
def Hx:fw (.dK ks vs) k d=((keyOf k).bind fun k=>if ks.length<most then some (.dK (putD ks vs k d).1 (putD ks vs k d).2)else none):=rfl
def Fh:fw (.dT ks vs) (.tup k) d=((keysOf k).bind fun k=>if ks.length<most then some (.dT (putD ks vs k d).1 (putD ks vs k d).2)else none):=rfl
def jf:aX [i] d Y=some (Y.set i (some d)):=rfl
def EH:aX (a::b::t) (.tup ds) Y=bF (a::b::t) ds Y:=rfl
def Fx:bF [] [] Y=some Y:=rfl
def GJ:bF (i::is) (d::ds) Y=bF is ds (Y.set i (some d)):=rfl
def xr:eqD n (.int a) (.int b)=some (a == b):=by cases n<;>rfl
def xy:eqD n (.str a) (.str b)=some (a == b):=by cases n<;>rfl
def xv:eqD n (.bl a) (.bl b)=some (a == b):=by cases n<;>rfl
def JN:eqD (n+1) (.tup a) (.tup b)=(eqs (eqD n) a b).map fun k=>k&&a.length == b.length:=rfl
def Jr:eqD (n+1) (.lst a) (.lst b)=(eqs (eqD n) a b).map fun k=>k&&a.length == b.length:=rfl
def ID:biV .len (.lst xs)=some (.int xs.length):=rfl
def Co:biV .len (.tup xs)=some (.int xs.length):=rfl
def FX:biV .list d=(items d).map .lst:=rfl
def p9:biV .tuple d=(items d).map .tup:=rfl
def HB:biV .int (.bl b)=some (.int (if b then 1 else 0)):=rfl
def Jy:biV .all (.lst xs)=(dF xs).map fun bs=>.bl (bs.all id):=rfl
def Cy:biV .lenSet (.lst xs)=if xs.length<=1000 then(fq xs).map fun is=>.int (il is).length else none:=rfl
def Ci:biV .len (.str x)=if x.length<=most then some (.int x.length)else none:=rfl
def Jl:avE M (.call f es)=true:=rfl
def Gs:avE M (.ifx t a b)=(avE M a&&avE M b):=rfl
def wa:avE M (.var j)=!M.contains j:=rfl
set_option autoImplicit false
structure Fn where
 ps:Nat
 nn:Nat
 M:List Nat
 mp:List Nat
 body:Ss
abbrev gG(Y:St):List Nat->Option (List D)
 | []=>some []
 | i::is=>((Y[i]?).bind id).bind fun d=>(gG Y is).map (d :: ·)
abbrev bf(fn:Fn)(d:D)(Y:St):Option D :=
 if fn.mp.isEmpty then some d else if d.imm then(gG Y fn.mp).map fun os=>.tup (d::os)else none
abbrev aq(T:List Fn):Nat->Cl
 | 0,_,_=>none
 | n+1,f,ds=>match T[f]? with
  | some fn=>if ds.length=fn.ps then(ag (aq T n) fn.M fn.body (ds.map some++List.replicate (fn.nn-fn.ps) none)).bind fun p=>match p.1 with
   | .nx=>bf fn .non p.2
   | .rt d=>bf fn d p.2
   else none
  | none=>(T[f-1000]?).bind fun fn=>if ds.length=fn.ps/\fn.mp=[]then(bP (aq T n) fn.M fn.body (ds.map some++List.replicate (fn.nn-fn.ps) none)).map fun p=>.str p.1 else none
end RL
namespace RT
open RL
abbrev jd:Fn :=
 ⟨1,1,[],[],(.cons (.ret (.and (.isi (.var 0) .int) (.not (.isi (.var 0) .bool)))) .nil)⟩
abbrev eh(f_is_number:Nat):Fn :=
 ⟨1,1,[],[],(.cons (.ret (.and (.call f_is_number (.cons (.var 0) .nil)) (.chain .le .le (.cst (.int 1)) (.var 0) (.glb "MOST_PEGS" 10)))) .nil)⟩
abbrev cZ(f_is_peg_count:Nat):Fn :=
 ⟨1,1,[],[],(.cons (.ife (.not (.call f_is_peg_count (.cons (.var 0) .nil))) (.cons (.rais "BadPegs" (.cons (.glb "MOST_PEGS" 10) .nil)) .nil) .nil) .nil)⟩
abbrev kE:Fn :=
 ⟨1,1,[],[],(.cons (.ret (.bin .fdiv (.bi .len (.var 0)) (.cst (.int 2)))) .nil)⟩
abbrev jk(f_check_pegs:Nat):Fn :=
 ⟨1,1,[],[],(.cons (.exc (.call f_check_pegs (.cons (.var 0) .nil))) (.cons (.ret (.bi .tuple (.bin .add (.rng2 (.var 0) (.bin .mul (.cst (.int 2)) (.var 0))) (.rng1 (.var 0))))) .nil))⟩
abbrev kP:Fn :=
 ⟨1,3,[],[],(.cons (.asg 1 (.bin .mod (.bin .add (.bin .mul (.var 0) (.cst (.int 48271))) (.cst (.int 11))) (.cst (.int 2147483647)))) (.cons (.asg 2 (.bin .mod (.bin .add (.bin .add (.bin .mul (.var 1) (.var 1)) (.bin .mul (.cst (.int 40692)) (.var 1))) (.var 0)) (.cst (.int 2147483399)))) (.cons (.ret (.bin .mod (.bin .add (.bin .add (.bin .mul (.var 2) (.var 2)) (.bin .mul (.cst (.int 69621)) (.var 2))) (.var 1)) (.cst (.int 2147483563)))) .nil)))⟩
abbrev ko(f_law_mix:Nat):Ss :=
 (.cons (.asg 3 (.bin .add (.bin .mul (.var 3) (.cst (.int 2147483563))) (.call f_law_mix (.cons (.bin .add (.bin .add (.var 2) (.bin .mul (.cst (.int 1009)) (.var 1))) (.bin .mul (.cst (.int 7919)) (.var 4))) .nil)))) .nil)
abbrev kZ(f_law_mix:Nat):Fn :=
 ⟨2,5,[],[],(.cons (.asg 2 (.bin .add (.bin .mul (.cst (.int 7)) (.var 1)) (.cst (.int 3)))) (.cons (.ife (.cmp .gt (.bi .len (.var 0)) (.cst (.int 0))) (.cons (.asg 2 (.bin .add (.ix (.var 0) (.bin .mod (.var 1) (.bi .len (.var 0)))) (.bin .mul (.cst (.int 9973)) (.bin .fdiv (.var 1) (.bi .len (.var 0)))))) .nil) .nil) (.cons (.ife (.and (.cmp .lt (.var 1) (.bi .len (.var 0))) (.cmp .ge (.var 2) (.bin .pow (.cst (.int 10)) (.cst (.int 18))))) (.cons (.ret (.bin .sub (.var 2) (.bin .pow (.cst (.int 10)) (.cst (.int 18))))) .nil) .nil) (.cons (.asg 3 (.cst (.int 0))) (.cons (.forr [4] (.rng1 (.cst (.int 40))) (ko f_law_mix)) (.cons (.ret (.var 3)) .nil))))))⟩
abbrev gJ(f_law_raw:Nat):Ss :=
 (.cons (.app 4 (.bin .mod (.var 3) (.var 5))) (.cons (.asg 3 (.bin .fdiv (.var 3) (.var 5))) .nil))
abbrev fE(f_law_raw:Nat):Fn :=
 ⟨3,6,[4],[],(.cons (.asg 3 (.call f_law_raw (.cons (.var 0) (.cons (.var 1) .nil)))) (.cons (.own 4 (.lst .nil)) (.cons (.forr [5] (.seq (.var 2)) (gJ f_law_raw)) (.cons (.ret (.var 4)) .nil))))⟩
abbrev i4(f_names_back:Nat):Fn :=
 ⟨1,2,[],[],(.cons (.ret (.and (.isi (.var 0) .tuple) (.bi .all (.compA (.call f_names_back (.cons (.var 0) (.cons (.var 1) .nil))) [1] (.rng1 (.bi .len (.var 0))))))) .nil)⟩
abbrev iE(f_is_number:Nat):Fn :=
 ⟨2,3,[],[],(.cons (.asg 2 (.ix (.var 0) (.var 1))) (.cons (.ret (.and (.call f_is_number (.cons (.var 2) .nil)) (.and (.chain .le .lt (.cst (.int 0)) (.var 2) (.bi .len (.var 0))) (.cmp .eq (.ix (.var 0) (.var 2)) (.var 1))))) .nil))⟩
abbrev bO:Ss :=
 (.cons (.ife (.cmp .gt (.var 3) (.var 2)) (.cons (.app 1 (.var 2)) .nil) (.cons (.ife (.cmp .eq (.var 3) (.var 2)) (.cons (.ife (.var 1) (.cons (.ret (.cst (.bl false))) .nil) .nil) .nil) (.cons (.ifp 1 (.var 3) (.cons (.ret (.cst (.bl false))) .nil) .nil) .nil)) .nil)) .nil)
abbrev fU:Fn :=
 ⟨1,4,[1],[],(.cons (.own 1 (.lst .nil)) (.cons (.forr [2,3] (.enm (.var 0)) (bO)) (.cons (.ret (.cst (.bl true))) .nil)))⟩
abbrev gU(f_is_uncrossed f_in_round f_is_pairing f_is_peg_count f_pegs_of:Nat):Fn :=
 ⟨1,5,[],[],(.cons (.asg 1 (.call f_pegs_of (.cons (.var 0) .nil))) (.cons (.ife (.or (.cmp .ne (.bi .len (.var 0)) (.bin .mul (.cst (.int 2)) (.var 1))) (.or (.not (.call f_is_peg_count (.cons (.var 1) .nil))) (.not (.call f_is_pairing (.cons (.var 0) .nil))))) (.cons (.ret (.cst (.bl false))) .nil) .nil) (.cons (.asg 2 (.comp (.var 3) [3,4] (.enm (.var 0)) (.cmp .eq (.var 3) (.var 4)))) (.cons (.ret (.and (.not (.var 2)) (.call f_is_uncrossed (.cons (.call f_in_round (.cons (.var 0) .nil)) .nil)))) .nil))))⟩
abbrev dC(f_is_frame:Nat):Fn :=
 ⟨1,1,[],[],(.cons (.ife (.not (.call f_is_frame (.cons (.var 0) .nil))) (.cons (.rais "BadFrame" .nil) .nil) .nil) .nil)⟩
abbrev dG:Fn :=
 ⟨2,2,[],[],(.cons (.ret (.ifx (.cmp .lt (.var 1) (.var 0)) (.var 1) (.bin .sub (.bin .sub (.bin .mul (.cst (.int 3)) (.var 0)) (.cst (.int 1))) (.var 1)))) .nil)⟩
abbrev fv(f_moved f_round_place f_pegs_of:Nat):Fn :=
 ⟨1,3,[],[],(.cons (.asg 1 (.call f_pegs_of (.cons (.var 0) .nil))) (.cons (.ret (.call f_moved (.cons (.var 0) (.cons (.compA (.call f_round_place (.cons (.var 1) (.cons (.var 2) .nil))) [2] (.rng1 (.bin .mul (.cst (.int 2)) (.var 1)))) .nil)))) .nil))⟩
abbrev mI:Ss :=
 (.cons (.put 2 (.ix (.var 1) (.var 3)) (.ix (.var 1) (.var 4))) .nil)
abbrev jq:Fn :=
 ⟨2,5,[2],[],(.cons (.own 2 (.bin .mul (.lst (.cons (.cst (.int 0)) .nil)) (.bi .len (.var 0)))) (.cons (.forr [3,4] (.enm (.var 0)) (mI)) (.cons (.ret (.bi .tuple (.var 2))) .nil)))⟩
abbrev dN:Fn :=
 ⟨1,2,[],[],(.cons (.ret (.bi .tuple (.bin .add (.compA (.bin .add (.var 0) (.var 1)) [1] (.rng1 (.var 0))) (.rng1 (.var 0))))) .nil)⟩
abbrev mh(f_law_plain:Nat):Ss :=
 (.cons (.put 2 (.var 3) (.bin .add (.var 3) (.cst (.int 1)))) (.cons (.put 2 (.bin .add (.var 3) (.cst (.int 1))) (.var 3)) .nil))
abbrev gQ(f_law_plain:Nat):Fn :=
 ⟨2,4,[2],[],(.cons (.own 2 (.bi .list (.call f_law_plain (.cons (.var 0) .nil)))) (.cons (.forr [3] (.seq (.tup (.cons (.var 1) (.cons (.bin .add (.var 0) (.var 1)) .nil)))) (mh f_law_plain)) (.cons (.ret (.bi .tuple (.var 2))) .nil)))⟩
abbrev fH:Fn :=
 ⟨1,1,[],[],(.cons (.ret (.bin .add (.rng1 (.var 0)) (.rng3 (-1) (.bin .sub (.bin .mul (.cst (.int 2)) (.var 0)) (.cst (.int 1))) (.bin .sub (.var 0) (.cst (.int 1)))))) .nil)⟩
abbrev dB(f_law_circle:Nat):Ss :=
 (.cons (.ife (.cmp .eq (.var 6) (.cst (.str "("))) (.cons (.app 4 (.ix (.var 2) (.var 5))) .nil) (.cons (.pop 4 8) (.cons (.put 3 (.var 8) (.ix (.var 2) (.var 5))) (.cons (.put 3 (.ix (.var 2) (.var 5)) (.var 8)) .nil)))) .nil)
abbrev dR(f_law_circle:Nat):Fn :=
 ⟨1,9,[3,4],[],(.cons (.asg 1 (.bin .fdiv (.bi .len (.var 0)) (.cst (.int 2)))) (.cons (.asg 2 (.call f_law_circle (.cons (.var 1) .nil))) (.cons (.own 3 (.compA (.cst (.int 0)) [7] (.seq (.var 2)))) (.cons (.own 4 (.lst .nil)) (.cons (.forr [5,6] (.enm (.var 0)) (dB f_law_circle)) (.cons (.ret (.bi .tuple (.var 3))) .nil))))))⟩
abbrev gm:Ss :=
 (.cons (.par 0 6 (.bin .fdiv (.var 0) (.cst (.int 2))) (.bin .mod (.var 0) (.cst (.int 2)))) (.cons (.asg 5 (.or (.cmp .eq (.var 3) (.cst (.int 0))) (.and (.cmp .lt (.var 3) (.var 4)) (.cmp .eq (.var 6) (.cst (.int 1)))))) (.cons (.asg 2 (.bin .add (.var 2) (.ix (.lst (.cons (.cst (.str ")")) (.cons (.cst (.str "(")) .nil))) (.bi .int (.var 5))))) (.cons (.asg 3 (.bin .add (.var 3) (.ix (.lst (.cons (.neg (.cst (.int 1))) (.cons (.cst (.int 1)) .nil))) (.bi .int (.var 5))))) .nil))))
abbrev jP:Fn :=
 ⟨2,7,[],[],(.cons (.asg 2 (.cst (.str ""))) (.cons (.asg 3 (.cst (.int 0))) (.cons (.forr [4] (.rng3 (-1) (.bin .mul (.cst (.int 2)) (.var 1)) (.cst (.int 0))) (gm)) (.cons (.ret (.var 2)) .nil))))⟩
abbrev dS:Ss :=
 (.cons (.ife (.cmp .eq (.ixD (.var 4) (.var 7)) (.var 9)) (.cons (.put 4 (.var 7) (.var 8)) .nil) .nil) .nil)
abbrev fN:Ss :=
 (.cons (.par 8 9 (.ixD (.var 4) (.var 5)) (.ixD (.var 4) (.var 6))) (.cons (.forr [7] (.seq (.var 2)) (dS)) .nil))
abbrev iN:Ss :=
 (.cons (.forr [6] (.seq (.tup (.cons (.ix (.var 1) (.var 5)) (.cons (.bin .sub (.ix (.var 0) (.bin .add (.var 3) (.var 5))) (.var 3)) .nil)))) (fN)) .nil)
abbrev iR:Ss :=
 (.cons (.put 4 (.var 5) (.var 5)) .nil)
abbrev di:Fn :=
 ⟨3,10,[4],[],(.cons (.asg 3 (.bin .fdiv (.bi .len (.var 0)) (.cst (.int 2)))) (.cons (.own 4 .dk0) (.cons (.forr [5] (.seq (.var 2)) (iR)) (.cons (.forr [5] (.seq (.var 2)) (iN)) (.cons (.ret (.bi .lenSet (.compA (.ixD (.var 4) (.var 5)) [5] (.seq (.var 2))))) .nil)))))⟩
abbrev dM(f_law_rings_by:Nat):Ss :=
 (.cons (.ife (.cmp .eq (.cmp .eq (.ix (.var 7) (.cst (.int 0))) (.cst (.str "high"))) (.cmp .ge (.ix (.var 7) (.cst (.int 1))) (.var 2))) (.cons (.put 6 (.bin .mod (.ix (.var 7) (.cst (.int 1))) (.var 2)) (.cst (.bl true))) (.cons (.asg 7 (.ixD (.var 3) (.tup (.cons (.ix (.lst (.cons (.cst (.str "high")) (.cons (.cst (.str "low")) .nil))) (.bi .int (.cmp .eq (.ix (.var 7) (.cst (.int 0))) (.cst (.str "high"))))) (.cons (.bin .mod (.bin .add (.ix (.var 7) (.cst (.int 1))) (.var 2)) (.bin .mul (.cst (.int 2)) (.var 2))) .nil))))) .nil)) .nil) .nil)
abbrev gq(f_law_rings_by:Nat):Ss :=
 (.cons (.asg 7 (.ixD (.var 3) (.tup (.cons (.ix (.lst (.cons (.cst (.str "high")) (.cons (.cst (.str "low")) .nil))) (.bi .int (.cmp .ge (.var 4) (.var 2)))) (.cons (.var 4) .nil))))) (.cons (.forr [8] (.rng1 (.bin .mul (.cst (.int 4)) (.var 2))) (dM f_law_rings_by)) (.cons (.app 5 (.ix (.var 7) (.cst (.int 1)))) .nil)))
abbrev gj(f_law_rings_by:Nat):Ss :=
 (.cons (.put 3 (.tup (.cons (.cst (.str "high")) (.cons (.var 4) .nil))) (.tup (.cons (.cst (.str "high")) (.cons (.ix (.var 0) (.var 4)) .nil)))) (.cons (.put 3 (.tup (.cons (.cst (.str "low")) (.cons (.var 4) .nil))) (.tup (.cons (.cst (.str "low")) (.cons (.ix (.var 1) (.var 4)) .nil)))) .nil))
abbrev eC(f_law_rings_by:Nat):Fn :=
 ⟨2,9,[3,5,6],[],(.cons (.asg 2 (.bin .fdiv (.bi .len (.var 0)) (.cst (.int 2)))) (.cons (.own 3 .dt0) (.cons (.forr [4] (.rng1 (.bin .mul (.cst (.int 2)) (.var 2))) (gj f_law_rings_by)) (.cons (.own 5 (.lst .nil)) (.cons (.own 6 .dk0) (.cons (.forr [4] (.rng1 (.bin .mul (.cst (.int 2)) (.var 2))) (gq f_law_rings_by)) (.cons (.ret (.tup (.cons (.bi .tuple (.var 5)) (.cons (.call f_law_rings_by (.cons (.var 0) (.cons (.var 1) (.cons (.comp (.var 4) [4] (.rng1 (.var 2)) (.inD true (.var 4) (.var 6))) .nil)))) .nil)))) .nil)))))))⟩
abbrev gO:Fn :=
 ⟨1,3,[],[],(.cons (.asg 1 (.bin .fdiv (.bi .len (.var 0)) (.cst (.int 2)))) (.cons (.ret (.bi .tuple (.compA (.bin .mod (.bin .add (.ix (.var 0) (.bin .mod (.bin .add (.var 2) (.var 1)) (.bin .mul (.cst (.int 2)) (.var 1)))) (.var 1)) (.bin .mul (.cst (.int 2)) (.var 1))) [2] (.rng1 (.bin .mul (.cst (.int 2)) (.var 1)))))) .nil))⟩
abbrev iY(f_law_hung f_law_over f_law_from_text f_law_text f_law_hook f_law_plain f_law_digits:Nat):Fn :=
 ⟨3,7,[],[],(.cons (.unp [4,5,6] (.call f_law_digits (.cons (.var 0) (.cons (.var 1) (.cons (.lst (.cons (.cst (.int 8)) (.cons (.bin .pow (.cst (.int 10)) (.cst (.int 12))) (.cons (.max (.cst (.int 1)) (.bin .sub (.var 2) (.cst (.int 1)))) .nil)))) .nil))))) (.cons (.ife (.cmp .eq (.var 4) (.cst (.int 0))) (.cons (.ret (.call f_law_plain (.cons (.var 2) .nil))) .nil) .nil) (.cons (.ife (.and (.cmp .eq (.var 4) (.cst (.int 1))) (.cmp .gt (.var 2) (.cst (.int 1)))) (.cons (.ret (.call f_law_hook (.cons (.var 2) (.cons (.var 6) .nil)))) .nil) .nil) (.cons (.asg 3 (.call f_law_from_text (.cons (.call f_law_text (.cons (.var 5) (.cons (.var 2) .nil))) .nil))) (.cons (.ife (.cmp .eq (.var 4) (.cst (.int 2))) (.cons (.ret (.ix (.call f_law_hung (.cons (.var 3) (.cons (.call f_law_over (.cons (.var 3) .nil)) .nil))) (.cst (.int 0)))) .nil) .nil) (.cons (.ret (.var 3)) .nil))))))⟩
abbrev dA(f_law_same:Nat):Fn :=
 ⟨2,4,[],[],(.cons (.ife (.isN false (.var 1)) (.cons (.ret (.isN false (.var 0))) .nil) .nil) (.cons (.ife (.or (.cmp .ne (.isi (.var 0) .bool) (.isi (.var 1) .bool)) (.cmp .ne (.isi (.var 0) .int) (.isi (.var 1) .int))) (.cons (.ret (.cst (.bl false))) .nil) .nil) (.cons (.ife (.or (.cmp .ne (.isi (.var 0) .list) (.isi (.var 1) .list)) (.cmp .ne (.isi (.var 0) .tuple) (.isi (.var 1) .tuple))) (.cons (.ret (.cst (.bl false))) .nil) .nil) (.cons (.ife (.and (.not (.isi (.var 1) .list)) (.not (.isi (.var 1) .tuple))) (.cons (.ret (.and (.cmp .eq (.isi (.var 0) .str) (.isi (.var 1) .str)) (.cmp .eq (.var 0) (.var 1)))) .nil) .nil) (.cons (.ret (.and (.cmp .eq (.bi .len (.var 0)) (.bi .len (.var 1))) (.bi .all (.compA (.call f_law_same (.cons (.var 2) (.cons (.var 3) .nil))) [2,3] (.zip (.var 0) (.var 1)))))) .nil)))))⟩
abbrev zD:Ss :=
 (.cons (.app 3 (.var 4)) (.cons (.asg 5 (.ifx (.cmp .eq (.bin .mod (.bi .len (.var 3)) (.cst (.int 2))) (.cst (.int 0))) (.var 0) (.var 1))) (.cons (.asg 4 (.ix (.var 5) (.var 4))) .nil)))
abbrev lP:Fn :=
 ⟨3,6,[3],[],(.cons (.own 3 (.lst (.cons (.var 2) .nil))) (.cons (.asg 4 (.ix (.var 1) (.var 2))) (.cons (.whil (.inn true (.var 4) (.tup (.cons (.ix (.var 3) (.neg (.cst (.int 1)))) (.cons (.var 2) .nil)))) (zD)) (.cons (.ret (.var 3)) .nil))))⟩
abbrev iZ(f_mark f_run:Nat):Ss :=
 (.cons (.ife (.not (.ix (.var 2) (.var 3))) (.cons (.aug 4 .add (.cst (.int 1))) (.cons (.mexc f_mark (.cons (.var 2) (.cons (.call f_run (.cons (.var 0) (.cons (.var 1) (.cons (.var 3) .nil)))) .nil)) [0] [2]) .nil)) .nil) .nil)
abbrev iW(f_mark f_run:Nat):Ss :=
 (.cons (.ife (.cmp .eq (.ix (.var 0) (.var 3)) (.var 3)) (.cons (.mexc f_mark (.cons (.var 2) (.cons (.call f_run (.cons (.var 0) (.cons (.var 1) (.cons (.var 3) .nil)))) .nil)) [0] [2]) .nil) .nil) (.cons (.ife (.cmp .eq (.ix (.var 1) (.var 3)) (.var 3)) (.cons (.mexc f_mark (.cons (.var 2) (.cons (.call f_run (.cons (.var 1) (.cons (.var 0) (.cons (.var 3) .nil)))) .nil)) [0] [2]) .nil) .nil) .nil))
abbrev fz(f_mark f_run:Nat):Fn :=
 ⟨2,5,[2],[],(.cons (.own 2 (.bin .mul (.lst (.cons (.cst (.bl false)) .nil)) (.bi .len (.var 0)))) (.cons (.forr [3] (.rng1 (.bi .len (.var 0))) (iW f_mark f_run)) (.cons (.asg 4 (.cst (.int 0))) (.cons (.forr [3] (.rng1 (.bi .len (.var 0))) (iZ f_mark f_run)) (.cons (.ret (.var 4)) .nil)))))⟩
abbrev vx:Ss :=
 (.cons (.put 0 (.var 2) (.cst (.bl true))) .nil)
abbrev kL:Fn :=
 ⟨2,3,[0,0],[0],(.cons (.forr [2] (.seq (.var 1)) (vx)) .nil)⟩
abbrev eM(f_rings_of f_run f_joints_between f_pegs_of:Nat):Fn :=
 ⟨2,10,[],[],(.cons (.asg 2 (.call f_pegs_of (.cons (.var 0) .nil))) (.cons (.asg 3 (.bin .add (.bi .list (.var 0)) (.compA (.bin .add (.bin .mul (.cst (.int 2)) (.var 2)) (.var 8)) [8] (.seq (.var 1))))) (.cons (.asg 4 (.call f_joints_between (.cons (.var 2) .nil))) (.cons (.asg 5 (.bin .add (.rng1 (.var 2)) (.rng2 (.bin .mul (.cst (.int 3)) (.var 2)) (.bin .mul (.cst (.int 4)) (.var 2))))) (.cons (.asg 6 (.compA (.ix (.call f_run (.cons (.var 4) (.cons (.var 3) (.cons (.var 8) .nil)))) (.neg (.cst (.int 1)))) [8] (.seq (.var 5)))) (.cons (.asg 7 (.bi .tuple (.compA (.ifx (.cmp .lt (.var 9) (.var 2)) (.var 9) (.bin .sub (.var 9) (.bin .mul (.cst (.int 2)) (.var 2)))) [9] (.seq (.var 6))))) (.cons (.ret (.tup (.cons (.var 7) (.cons (.call f_rings_of (.cons (.var 4) (.cons (.var 3) .nil))) .nil)))) .nil)))))))⟩
abbrev cF:Fn :=
 ⟨1,5,[],[],(.cons (.asg 1 (.rng1 (.var 0))) (.cons (.asg 2 (.rng2 (.var 0) (.bin .mul (.cst (.int 2)) (.var 0)))) (.cons (.asg 3 (.rng2 (.bin .mul (.cst (.int 2)) (.var 0)) (.bin .mul (.cst (.int 3)) (.var 0)))) (.cons (.asg 4 (.rng2 (.bin .mul (.cst (.int 3)) (.var 0)) (.bin .mul (.cst (.int 4)) (.var 0)))) (.cons (.ret (.bin .add (.bin .add (.bin .add (.var 1) (.var 3)) (.var 2)) (.var 4))) .nil)))))⟩
abbrev iH(f_law_frame:Nat):Fn :=
 ⟨4,5,[],[],(.cons (.ret (.compA (.call f_law_frame (.cons (.var 0) (.cons (.bin .add (.var 1) (.var 4)) (.cons (.var 2) .nil)))) [4] (.rng1 (.var 3)))) .nil)⟩
end RT
namespace M
abbrev hg(l r:Nat)(g:Nat->Nat):Nat->Nat:=fun x=>if g l=r then g x else if x=r then l else if x=l then r else if x=g r then g l else if x=g l then g r else g x
section
def Ft(e:g l=r):hg l r g=g:=by funext x;unfold hg;rw[if_pos e]
def Ep(hlr:l≠r)(h:∀ x,g (g x)=x)(n1:g l≠l)(n2:g r≠r)(x:Nat):hg l r g (hg l r g x)=x:=by
 by_cases e:g l=r
 ·rw[Ft e];exact h x
 ·have k:∀ y,hg l r g y=if y=r then l else if y=l then r else if y=g r then g l else if y=g l then g r else g y:=fun y=>by unfold hg;rw[if_neg e]
  rw[k x,k];grind
def zY(hlr:l≠r)(h:∀ x,g (g x)=x)(n1:g l≠l)(n2:g r≠r)(nx:g x≠x):hg l r g x≠x:=by
 unfold hg;grind
end
end M
namespace RL
abbrev evF(cl:Cl)(fn:Fn)(ds:List D):Option D:=if ds.length=fn.ps then(ag cl fn.M fn.body (ds.map some++List.replicate (fn.nn-fn.ps) none)).bind fun p=>match p.1 with
  | .nx=>bf fn .non p.2
  | .rt d=>bf fn d p.2
  else none
def az(h:T[f]?=some fn):aq T (n+1) f ds=evF (aq T n) fn ds:=by
 rw[aq,h];rfl
abbrev L(xs:List Nat):List D:=xs.map fun(i:Nat)=>.int (i:Int)
def vp(I:List D->St->Prop):∀ (ds done:List D) (Y:St),(∀ pre d post Y,done++ds=pre++d::post->I pre Y->d.imm=true/\∃ QS,(aX tg d Y).bind f=some (.nx,QS)/\I (pre++[d]) QS)->I done Y->∃ QQ,aS f tg ds Y=some (.nx,QQ)/\I (done++ds) QQ
 | [],done,Y,_,h=>#[Y,rfl,by simpa using h]
 | d::ds,done,Y,hs,h=>by
  obtain⟨im,QS,h1,h3⟩:=hs done d ds Y rfl h;obtain⟨QQ,h4,h5⟩:=vp I ds (done++[d]) QS (fun pre e post Y he=>hs pre e post Y (by simpa using he)) h3;refine#[QQ,?_,by simpa using h5];rw[aS,if_pos im]
  cases hb:aX tg d Y with
  | none=>rw[hb]at h1;cases h1
  |some QR=>
   rw[hb]at h1;simp only[Option.bind_some]at h1 ⊢;rw[h1];exact h4
def C9(I:List D->St->Prop)(h0:I [] Y)(hs:∀ pre d post Y,ds=pre++d::post->I pre Y->d.imm=true/\∃ QS,(aX tg d Y).bind f=some (.nx,QS)/\I (pre++[d]) QS):∃ QQ,aS f tg ds Y=some (.nx,QQ)/\I ds QQ :=
 vp I ds [] Y (by simpa using hs) h0
@[simp] theorem tf_lst:aM (.lst a)=true:=rfl
@[simp] theorem tf_tup:aM (.tup a)=true:=rfl
@[simp] theorem tf_comp:aM (.comp a b c d)=true:=rfl
@[simp] theorem tf_compA:aM (.compA a b c)=true:=rfl
@[simp] theorem tf_bin:aM (.bin a b c)=true:=rfl
@[simp] theorem tf_slT:aM (.slT a b)=true:=rfl
@[simp] theorem tf_slF:aM (.slF a b)=true:=rfl
@[simp] theorem tf_rev:aM (.rev a)=true:=rfl
@[simp] theorem tf_call:aM (.call a b)=true:=rfl
@[simp] theorem tf_bi:aM (.bi a b)=true:=rfl
@[simp] theorem tf_rng1:aM (.rng1 a)=true:=rfl
@[simp] theorem tf_rng2:aM (.rng2 a b)=true:=rfl
@[simp] theorem tf_rng3:aM (.rng3 a b c)=true:=rfl
@[simp] theorem tf_dk0:aM .dk0=true:=rfl
@[simp] theorem tf_dt0:aM .dt0=true:=rfl
end RL
namespace RM
open RL RT
section basics
def gL:bz .lt (.int a) (.int b)=some (decide (a<b)):=rfl
def xj:bz .le (.int a) (.int b)=some (decide (a<=b)):=rfl
def pf:bz .gt (.int a) (.int b)=some (decide (b<a)):=rfl
def Bk:bz .ge (.int a) (.int b)=some (decide (b<=a)):=rfl
def dO:bz .eq (.int a) (.int b)=some (a == b):=rfl
def x3:bz .ne (.int a) (.int b)=some (!(a == b)):=rfl
def cb:aE .add (.int a) (.int b)=some (.int (a+b)):=rfl
def lC:aE .sub (.int a) (.int b)=some (.int (a-b)):=rfl
def f9(h:0<b):aE .mod (.int a) (.int b)=some (.int (a%b)):=Kj.trans (if_pos h)
def nC(h:0<b)(h':b<2 ^ 200):aE .fdiv (.int a) (.int b)=some (.int (a / b)):=Jw.trans (if_pos ⟨h,h'⟩)
def bT(h1:-(2 ^ 64)<a)(h2:a<2 ^ 64):aE .mul (.int a) (.int b)=some (.int (a*b)):=Bt.trans (if_pos (.inl #[h1,h2]))
def yM(h1:-(2 ^ 64)<b)(h2:b<2 ^ 64):aE .mul (.int a) (.int b)=some (.int (a*b)):=Bt.trans (if_pos (.inr #[h1,h2]))
def Kw(k:Bool):truth (.bl k)=some k:=rfl
end basics
def CS(h:L xs=pre++d::post):∃ p x q,xs=p++x::q/\pre=L p/\d=.int (x:Nat)/\post=L q:=by
 unfold L at h;obtain⟨p,r,rfl,h1,h2⟩:=List.map_eq_append_iff.mp h;obtain⟨x,q,rfl,h3,h4⟩:=List.map_eq_cons_iff.mp h2;exact#[p,x,q,rfl,h1.symm,h3.symm,h4.symm]
def wD:∀ {a b:List Nat},L a=L b->a=b
 | [],[],_=>rfl
 | [],_::_,h=>by simp[L]at h
 | _::_,[],h=>by simp[L]at h
 | x::a,y::b,h=>by
  unfold L at h;rw[List.map_cons,List.map_cons,List.cons.injEq]at h
  have h1:(x:Int)=y:=by injection h.1
  rw[wD (a:=a) (b:=b) h.2,Int.ofNat_inj.mp h1]
def dH(I:List Nat->St->Prop)(h0:I [] Y)(hs:∀ p x q Y,xs=p++x::q->I p Y->∃ QS,(aX tg (.int (x:Nat)) Y).bind f=some (.nx,QS)/\I (p++[x]) QS):∃ QQ,aS f tg (L xs) Y=some (.nx,QQ)/\I xs QQ:=by
 obtain⟨QQ,e,p,hp,hi⟩:=C9 (f:=f) (tg:=tg) (ds:=L xs) (Y:=Y) (fun pre Y=>∃ p,pre=L p/\I p Y) ⟨[],rfl,h0⟩ (by
  rintro pre d post Y hd ⟨p',hp',hi⟩;obtain⟨p,x,q,rfl,rfl,rfl,rfl⟩:=CS hd;have:=wD hp';subst this;obtain⟨QS,h1,h2⟩:=hs p x q Y rfl hi
  exact#[rfl,QS,h1,p++[x],by simp[L],h2])
 have:=wD hp;subst this;exact#[QQ,e,hi]
def bH(xs:List Nat):(L xs).length=xs.length:=by simp[L]
def qY(xs:List Nat)(i:Nat):(L xs)[i]?=(xs[i]?).map fun(i:Nat)=>.int (i:Int):=by simp[L]
def Im(xs:List Nat)(i j:Nat):(L xs).set i (.int j)=L (xs.set i j):=by simp[L,List.map_set]
def bD:∀ xs:List Nat,au (L xs)=true
 | []=>rfl
 | x::xs=>by
  show((D.int x).imm&&au (L xs))=true;rw[bD xs];rfl
def dz(xs ys:List Nat):L (xs++ys)=L xs++L ys:=by simp[L]
def fR(xs:List α)(i:Nat):cI xs (i:Int)=xs[i]?:=by
 unfold cI;rw[if_pos (Int.natCast_nonneg i)];rfl
def sS(h:i<n):mE n (i:Int)=some i:=by
 unfold mE;rw[if_pos (Int.natCast_nonneg i),if_pos ⋯];rfl
def m5(a:Nat):∀ n:Nat,cO (a:Int) n=L (List.range' a n)
 | 0=>rfl
 | n+1=>by
  rw[cO,List.range'_succ];have:=m5 (a+1) n;rw[show((a+1:Nat):Int)=(a:Int)+1 by lia]at this;rw[this];rfl
def dm{a b:Nat}(h1:a<=1000)(h2:b<=1000):cW (.int a) (.int b)=some (L (List.range' a (b-a))):=by
 dsimp only[cW]
 have:((b:Int)-a).toNat=b-a:=by lia
 rw[if_pos ⟨by unfold most;lia,by lia,by lia,by lia,by lia⟩,this,m5]
section
def qO(i:Int):evF cl jd [.int i]=some (.bl true):=rfl
def mM(h:∀ i:Int,cl f [.int i]=some (.bl true))(i:Int):evF cl (eh f) [.int i]=some (.bl (decide (1<=i/\i<=10))):=by
 simp[evF,eh,ag,dW,nQ,dk,oY,cH,Ij,bc,evs,h,xj,bB,D.imm,bf];by_cases h1:1<=i<;>simp[h1,bB,D.imm,bf]
def oW(h:cl f [.int i]=some (.bl true)):evF cl (cZ f) [.int i]=some .non:=by
 simp[evF,cZ,ag,fC,tV,dk,rf,bc,evs,h,truth,bf]
def rR(xs:List D):evF cl kE [.tup xs]=some (.int (xs.length / 2)):=rfl
abbrev aD(n:Nat):List Nat:=List.range' n n++List.range' 0 n
def run_plain{f:Nat}{n:Nat}(hn:n<=10)(h:cl f [.int n]=some .non):evF cl (jk f) [.int n]=some (.tup (L (aD n))):=by
 have e1:=dm (a:=n) (b:=2*n) ⋯ ⋯;rw[show 2*n-n=n by lia,show((2*n:Nat):Int)=2*(n:Int) by lia]at e1;have e2:=dm (a:=0) (b:=n) ⋯ ⋯;rw[Nat.sub_zero]at e2
 have e3:aE .mul (.int 2) (.int n)=some (.int (2*n)):=by
  rw[Bt];rw[if_pos ⋯]
 have e4:aE .add (.lst (L (List.range' n n))) (.lst (L (List.range' 0 n)))=some (.lst (L (aD n))):=by
  rw[Ap];rw[if_pos (by simp[bH,most];lia),aD,dz]
 simp only[Int.natCast_zero]at e2;simp[evF,jk,ag,rC,dW,ij,c9,cH,nE,yN,bc,dk,evs,h,e1,e2,e3,e4,FX,p9,items,bB,D.imm,bD,bf]
abbrev at'(f:List Nat)(x:Nat):Nat:=(f[x]?).getD x
abbrev kh(f:List Nat)(l:Nat):List Nat:=if at' f l=l+1 then f else(((f.set (at' f l) (at' f (l+1))).set (at' f (l+1)) (at' f l)).set l (l+1)).set (l+1) l
structure Frm(n:Nat)(f:List Nat):Prop where
 len:f.length=2*n
 lt:∀ x,x<2*n->at' f x<2*n
 inv:∀ x,at' f (at' f x)=x
 no:∀ x,x<2*n->at' f x≠x
def lO(h:x<f.length):f[x]?=some (at' f x):=by simp[at',h]
def lh(h:f.length<=x):at' f x=x:=by simp[at',h]
def eZ(h:i<f.length):at' (f.set i j) x=if x=i then j else at' f x:=by
 unfold at';rw[List.getElem?_set];by_cases e:i=x
 ·subst e;simp[h]
 ·simp[e,Ne.symm e]
def pV(F:Frm n f)(hl:l+1<2*n):at' (kh f l)=M.hg l (l+1) (at' f):=by
 funext x;unfold kh M.hg;have a1:=F.lt l ⋯;have a2:=F.lt (l+1) hl;have hlen:=F.len;by_cases e:at' f l=l+1
 ·rw[if_pos e,if_pos e]
 ·rw[if_neg e,if_neg e,eZ (by simp;lia),eZ (by simp;lia),eZ (by simp;lia),eZ ⋯]
def AO:(kh f l).length=f.length:=by
 unfold kh;split
 ·rfl
 ·simp
def Bp(F:Frm n f)(hl:l+1<2*n):Frm n (kh f l):=by
 have n1:=F.no l ⋯;have n2:=F.no (l+1) hl;refine#[by rw[AO];exact F.len,fun x hx=>?_,fun x=>?_,fun x hx=>?_]
 ·rw[pV F hl];unfold M.hg;have a1:=F.lt l ⋯;have a2:=F.lt (l+1) hl;have a3:=F.lt x hx
  repeat' split
  all_goals lia
 ·rw[pV F hl];exact M.Ep ⋯ F.inv n1 n2 x
 ·rw[pV F hl];exact M.zY ⋯ F.inv n1 n2 (F.no x hx)
end
end RM
namespace RL
section
def aI:ag cl M .nil Y=some (.nx,Y):=by rw[ag]
def d6(h:evS cl M s Y=some (.nx,QQ))(k:ag cl M r QQ=res):ag cl M (.cons s r) Y=res:=by
 rw[ag,h];exact k
def qW(h:evS cl M s Y=some (.rt d,QQ)):ag cl M (.cons s r) Y=some (.rt d,QQ):=by
 rw[ag,h];rfl
def aF(h:ev cl Y e=some d)(ok:aV M e d=true)(k:ag cl M r (Y.set i (some d))=res):ag cl M (.cons (.asg i e) r) Y=res :=
 d6 (by rw[gx,h];show(if aV M e d=true then _ else _)=_;rw[if_pos ok]) k
def iz(h:ev cl Y e=some d)(ok:(aK d&&aM e)=true)(k:ag cl M r (Y.set i (some d))=res):ag cl M (.cons (.own i e) r) Y=res :=
 d6 (by rw[nB,h];show(if(aK d&&aM e)=true then _ else _)=_;rw[if_pos ok]) k
def nK(h:ev cl Y e=some d)(k:ag cl M r Y=res):ag cl M (.cons (.exc e) r) Y=res :=
 d6 (by rw[rC,h];rfl) k
def aZ(h:ev cl Y e=some d)(ok:bB M e d=true):ag cl M (.cons (.ret e) r) Y=some (.rt d,Y) :=
 qW (by rw[dW,h];show(if bB M e d=true then _ else _)=_;rw[if_pos ok])
def fB(h:(ev cl Y t).bind truth=some true)(h1:ag cl M a Y=some (.nx,QQ))(k:ag cl M r QQ=res):ag cl M (.cons (.ife t a b) r) Y=res :=
 d6 (by rw[fC,h];exact h1) k
def gb(h:(ev cl Y t).bind truth=some true)(h1:ag cl M a Y=some (.rt d,QQ)):ag cl M (.cons (.ife t a b) r) Y=some (.rt d,QQ) :=
 qW (by rw[fC,h];exact h1)
def kU(h:(ev cl Y t).bind truth=some false)(h1:ag cl M b Y=some (.nx,QQ))(k:ag cl M r QQ=res):ag cl M (.cons (.ife t a b) r) Y=res :=
 d6 (by rw[fC,h];exact h1) k
def lM(h:(ev cl Y t).bind truth=some false)(h1:ag cl M b Y=some (.rt d,QQ)):ag cl M (.cons (.ife t a b) r) Y=some (.rt d,QQ) :=
 qW (by rw[fC,h];exact h1)
def bR(h:(ev cl Y t).bind truth=some false)(k:ag cl M r Y=res):ag cl M (.cons (.ife t a .nil) r) Y=res:=kU h aI k
def ot(h:ev cl Y e=some d)(hd:items d=some ds)(im:au ds=true)(hs:bF is ds Y=some QQ)(k:ag cl M r QQ=res):ag cl M (.cons (.unp is e) r) Y=res :=
 d6 (by rw[Io,h,Option.bind_some,hd];show(if au ds=true then _ else _)=_;rw[if_pos im,hs];rfl) k
def kR(h:ev cl Y e=some x)(h':ev cl Y e'=some y)(im:(x.imm&&y.imm)=true)(k:ag cl M r ((Y.set i (some x)).set j (some y))=res):ag cl M (.cons (.par i j e e') r) Y=res :=
 d6 (by rw[IW,h,Option.bind_some,h'];show(if(x.imm&&y.imm)=true then _ else _)=_;rw[if_pos im]) k
def uw(h:ev cl Y e=some d)(hi:(Y[i]?).bind id=some (.lst xs))(im:d.imm=true)(hl:xs.length<most)(k:ag cl M r (Y.set i (some (.lst (xs++[d]))))=res):ag cl M (.cons (.app i e) r) Y=res :=
 d6 (by rw[wL,h,Option.bind_some,hi];show(if(d.imm&&decide (xs.length<most))=true then _ else _)=_;rw[if_pos (by rw[im,decide_eq_true hl];rfl)]) k
def kz(h:ev cl Y e'=some x)(h':ev cl Y e=some kk)(hi:(Y[i]?).bind id=some l)(im:x.imm=true)(hp:fw l kk x=some l')(k:ag cl M r (Y.set i (some l'))=res):ag cl M (.cons (.put i e e') r) Y=res :=
 d6 (by rw[l8,h,Option.bind_some,h',Option.bind_some,hi,Option.bind_some,if_pos im,hp];rfl) k
def zQ(hi:(Y[i]?).bind id=some (.int x))(h:ev cl Y e=some (.int y))(hb:aE o (.int x) (.int y)=some (.int z))(k:ag cl M r (Y.set i (some (.int z)))=res):ag cl M (.cons (.aug i o e) r) Y=res :=
 d6 (by rw[Ja,hi,Option.bind_some,h];show Option.map _ (aE o (.int x) (.int y))=_;rw[hb];rfl) k
def Et(hi:(Y[i]?).bind id=some (.lst (xs++[d])))(k:ag cl M r ((Y.set i (some (.lst xs))).set j (some d))=res):ag cl M (.cons (.pop i j) r) Y=res :=
 d6 (by rw[s_pop,hi];simp) k
def c6(h:bG cl Y it=some ds)(h1:aS (ag cl M b) tg ds Y=some (.nx,QQ))(k:ag cl M r QQ=res):ag cl M (.cons (.forr tg it b) r) Y=res :=
 d6 (by rw[fk,h];exact h1) k
def D6(h:bG cl Y it=some ds)(h1:aS (ag cl M b) tg ds Y=some (.rt d,QQ)):ag cl M (.cons (.forr tg it b) r) Y=some (.rt d,QQ) :=
 qW (by rw[fk,h];exact h1)
def Ge(h1:whF (fun Y=>(ev cl Y t).bind truth) (ag cl M b) most Y=some (.nx,QQ))(k:ag cl M r QQ=res):ag cl M (.cons (.whil t b) r) Y=res :=
 d6 (by rw[E9];exact h1) k
def qa(h:evs cl Y es=some ds)(ok:eL M ps 0 es ds=true)(hc:cl f ds=some (.tup (d::outs)))(hs:bF ms outs Y=some QQ)(k:ag cl M r QQ=res):ag cl M (.cons (.mexc f es ps ms) r) Y=res :=
 d6 (by rw[EU,h,Option.bind_some,if_pos ok,hc,Option.bind_some];show Option.map _ (bF ms outs Y)=_;rw[hs];rfl) k
def aa(h:(Y[i]?).bind id=some d):ev cl Y (.var i)=some d:=by rw[bc];exact h
def ao:ev cl Y (.cst d)=some d:=by rw[cH]
def x_call(h:evs cl Y es=some ds)(hc:cl f ds=some d):ev cl Y (.call f es)=some d:=by rw[dk,h];exact hc
def bA:evs cl Y .nil=some []:=by rw[evs]
def aC(h:ev cl Y e=some d)(hr:evs cl Y es=some ds):evs cl Y (.cons e es)=some (d::ds):=by rw[evs,h,Option.bind_some,hr];rfl
def cK(h:ev cl Y e=some d)(hc:cl f [d]=some x):ev cl Y (.call f (.cons e .nil))=some x:=x_call (aC h bA) hc
def gd(h:ev cl Y e=some d)(h':ev cl Y e'=some d')(hc:cl f [d,d']=some x):ev cl Y (.call f (.cons e (.cons e' .nil)))=some x:=x_call (aC h (aC h' bA)) hc
def my(h:ev cl Y e=some d)(h':ev cl Y e'=some d')(h'':ev cl Y e''=some d'')(hc:cl f [d,d',d'']=some x):ev cl Y (.call f (.cons e (.cons e' (.cons e'' .nil))))=some x:=x_call (aC h (aC h' (aC h'' bA))) hc
def aA(h:ev cl Y e=some x)(h':ev cl Y e'=some y)(hb:aE o x y=some d):ev cl Y (.bin o e e')=some d:=by rw[c9,h,Option.bind_some,h'];exact hb
def aJ(h:ev cl Y e=some x)(h':ev cl Y e'=some y)(hb:bz o x y=some k):ev cl Y (.cmp o e e')=some (.bl k):=by rw[gS,h,Option.bind_some,h',Option.bind_some,hb];rfl
def cw(h:ev cl Y e=some x)(h':ev cl Y e'=some y)(hb:ixV x y=some d):ev cl Y (.ix e e')=some d:=by rw[jY,h,Option.bind_some,h'];exact hb
def bJ(h:ev cl Y e=some x)(hb:biV o x=some d):ev cl Y (.bi o e)=some d:=by rw[ij,h];exact hb
def wI(h:ev cl Y e=some x)(h':ev cl Y e'=some y)(hb:mL x y=some d):ev cl Y (.slT e e')=some d:=by rw[Il,h,Option.bind_some,h'];exact hb
def IB(h:ev cl Y e=some x)(h':ev cl Y e'=some y)(hb:tJ x y=some d):ev cl Y (.slF e e')=some d:=by rw[Jh,h,Option.bind_some,h'];exact hb
def Ji(h:ev cl Y e=some (.lst xs)):ev cl Y (.rev e)=some (.lst xs.reverse):=by rw[IF,h];rfl
def ka(h:ev cl Y e=some x)(h':ev cl Y e'=some y)(hb:mH x y=some d):ev cl Y (.ixD e e')=some d:=by rw[vW,h,Option.bind_some,h'];exact hb
def Iq(h:ev cl Y e=some x)(h':ev cl Y e'=some y)(hb:inV x y=some k):ev cl Y (.inn n e e')=some (.bl (if n then !k else k)):=by rw[HV,h,Option.bind_some,h',Option.bind_some,hb];rfl
def cV{t:Ty}(h:ev cl Y e=some x)(hb:fS t x=some k):ev cl Y (.isi e t)=some (.bl k):=by rw[II,h,Option.bind_some,hb];rfl
def wO(h:ev cl Y e=some (.int k)):ev cl Y (.neg e)=some (.int (-k)):=by rw[IS,h];rfl
def IZ(h:ev cl Y e=some (.int x))(h':ev cl Y e'=some (.int y)):ev cl Y (.max e e')=some (.int (if y > x then y else x)):=by rw[Jc,h,Option.bind_some,h'];rfl
def vN(h:ev cl Y e=some x)(h':ev cl Y e'=some y)(h'':ev cl Y e''=some z)(b1:bz c x y=some true)(b2:bz c' y z=some k):ev cl Y (.chain c c' e e' e'')=some (.bl k):=by rw[oY,h,Option.bind_some,h',Option.bind_some,b1,Option.bind_some,if_pos rfl,h'',Option.bind_some,b2];rfl
def Ah(h:ev cl Y e=some x)(h':ev cl Y e'=some y)(b1:bz c x y=some false):ev cl Y (.chain c c' e e' e'')=some (.bl false):=by rw[oY,h,Option.bind_some,h',Option.bind_some,b1];rfl
def vO(h:ev cl Y e=some x)(hr:cW (.int 0) x=some ds):ev cl Y (.rng1 e)=some (.lst ds):=by rw[nE,h,Option.bind_some,hr];rfl
def lJ(h:ev cl Y e=some x)(h':ev cl Y e'=some y)(hr:cW x y=some ds):ev cl Y (.rng2 e e')=some (.lst ds):=by rw[yN,h,Option.bind_some,h',Option.bind_some,hr];rfl
def dU(h:evs cl Y es=some ds):ev cl Y (.lst es)=some (.lst ds):=by rw[lE,h];rfl
def lr(h:evs cl Y es=some ds):ev cl Y (.tup es)=some (.tup ds):=by rw[lu,h];rfl
def d7(h:ev cl Y e=some (.bl true))(h':ev cl Y e'=some d):ev cl Y (.and e e')=some d:=by rw[nQ,h];exact h'
def i6(h:ev cl Y e=some (.bl false)):ev cl Y (.and e e')=some (.bl false):=by rw[nQ,h];rfl
def tN(h:ev cl Y e=some (.bl false))(h':ev cl Y e'=some d):ev cl Y (.or e e')=some d:=by rw[vV,h];exact h'
def Iv(h:ev cl Y e=some (.bl true)):ev cl Y (.or e e')=some (.bl true):=by rw[vV,h];rfl
def IL(h:(ev cl Y e).bind truth=some k):ev cl Y (.not e)=some (.bl (!k)):=by rw[rf,h];rfl
def f7(h:ev cl Y e=some (.bl k)):ev cl Y (.not e)=some (.bl (!k)):=IL (by rw[h];rfl)
def r8(h:(ev cl Y t).bind truth=some k)(h':ev cl Y (if k then e else e')=some d):ev cl Y (.ifx t e e')=some d:=by
 rw[wZ,h];cases k<;>exact h'
def aW(h:ev cl Y e=some (.bl k)):(ev cl Y e).bind truth=some k:=by rw[h];rfl
def eY(h:bG cl Y it=some ds)(hf:ds.length<=most)(hm:bW (fun QR=>(ev cl QR e).map some) tg Y ds=some ys):ev cl Y (.compA e tg it)=some (.lst ys):=by
 rw[lU,h,Option.bind_some,fits,if_pos hf,Option.bind_some,hm];rfl
def ky(h:ev cl Y e=some x)(hr:cW (.int 0) x=some ds):bG cl Y (.rng1 e)=some ds:=by rw[bG,h];exact hr
def GO(h:ev cl Y e=some x)(h':ev cl Y e'=some y)(hr:gg c x y=some ds):bG cl Y (.rng3 c e e')=some ds:=by rw[bG,h,Option.bind_some,h'];exact hr
def cG(h:ev cl Y e=some x)(hr:items x=some ds):bG cl Y (.seq e)=some ds:=by rw[bG,h];exact hr
def Jg(h:ev cl Y e=some x)(h':ev cl Y e'=some y)(hx:items x=some xs)(hy:items y=some ys)(hl:xs.length=ys.length):bG cl Y (.zip e e')=some (fL xs ys):=by rw[bG,h,Option.bind_some,h',Option.bind_some,hx,Option.bind_some,hy,Option.bind_some,if_pos hl]
def Jb(hk:(match x with | .non=>some (D.bl (!n)) | .dK _ _=>none | .dT _ _=>none | _=>some (.bl n))=some (D.bl k))(h:ev cl Y e=some x):ev cl Y (.isN n e)=some (.bl k):=by rw[HY,h];exact hk
def wb(h:ev cl Y e=some x)(hr:gE x=some ds):bG cl Y (.enm e)=some (d5 0 ds):=by rw[bG,h,Option.bind_some,hr];rfl
end
def Hg:aS f tg [] Y=some (.nx,Y):=rfl
def pH(im:d.imm=true)(hb:aX tg d Y=some QR)(h:f QR=some (.nx,QS))(k:aS f tg r QS=res):aS f tg (d::r) Y=res:=by
 rw[aS,if_pos im,hb,Option.bind_some,h];exact k
def bg(hl:ds.length=fn.ps)(hm:fn.mp=[])(h:ag cl fn.M fn.body (ds.map some++List.replicate (fn.nn-fn.ps) none)=some (.rt d,QQ)):evF cl fn ds=some d:=by
 unfold evF;rw[if_pos hl,h];show bf fn d QQ=_;unfold bf;rw[hm];rfl
end RL
set_option maxHeartbeats 1000000
namespace RL
open PySem (Str)
abbrev Rx(cl:Cl)(Y:St)(e:E)(c:Str):Prop:=ev cl Y e=none/\evX cl Y e=some c
abbrev Rr(cl:Cl)(M:List Nat)(b:Ss)(Y:St)(c:Str)(QQ:St):Prop:=ag cl M b Y=none/\bP cl M b Y=some (c,QQ)
abbrev Rc(cl:Cl)(f:Nat)(ds:List D)(c:Str):Prop:=cl f ds=none/\cl (f+1000) ds=some (.str c)
section
def HN(h:evS cl M s Y=some (.nx,QR))(k:Rr cl M r QR c QQ):Rr cl M (.cons s r) Y c QQ:=by
 refine#[?_,?_]
 ·rw[ag,h];exact k.1
 ·rw[bP,h];exact k.2
def nZ(h:evS cl M s Y=none)(k:kW cl M s Y=some (c,QQ)):Rr cl M (.cons s r) Y c QQ:=by
 refine#[?_,?_]
 ·rw[ag,h];rfl
 ·rw[bP,h];exact k
def xW(h:evs cl Y ps=some ds)(w:ds.all written=true):Rr cl M (.cons (.rais c ps) r) Y c Y:=nZ (by rw[tV]) (by show(evs cl Y ps).bind _=_;rw[h,Option.bind_some,if_pos w])
def BH(h:Rx cl Y e c):Rr cl M (.cons (.exc e) r) Y c Y:=nZ (by rw[rC,h.1];rfl) (by show(evX cl Y e).map _=_;rw[h.2];rfl)
def C0(h:(ev cl Y t).bind truth=some true)(k:Rr cl M a Y c QQ):Rr cl M (.cons (.ife t a b) r) Y c QQ:=nZ (by rw[fC,h];exact k.1) (by show((ev cl Y t).bind truth).bind _=_;rw[h];exact k.2)
def GR(h:ev cl Y e=some d)(k:Rr cl M r Y c QQ):Rr cl M (.cons (.exc e) r) Y c QQ:=HN (by rw[rC,h];rfl) k
def Cp(h:bG cl Y it=some ds)(k1:aS (ag cl M b) tg ds Y=none)(k2:dP (ag cl M b) (bP cl M b) tg ds Y=some (c,QQ)):Rr cl M (.cons (.forr tg it b) r) Y c QQ:=nZ (by rw[fk,h];exact k1) (by show(bG cl Y it).bind _=_;rw[h];exact k2)
def zg(h:evs cl Y es=some ds)(k:Rc cl f ds c):Rx cl Y (.call f es) c:=by
 refine#[?_,?_]
 ·rw[dk,h];exact k.1
 ·show(match evs cl Y es with | some ds=>clX cl f ds | none=>pS cl Y es)=_;rw[h];show clX cl f ds=_;unfold clX;rw[k.2];rfl
def Ke(h:ev cl Y e=some d)(k:Rc cl f [d] c):Rx cl Y (.call f (.cons e .nil)) c:=zg (aC h bA) k
def Kq(h:ev cl Y e=some d)(h':ev cl Y e'=some d')(k:Rc cl f [d,d'] c):Rx cl Y (.call f (.cons e (.cons e' .nil))) c:=zg (aC h (aC h' bA)) k
def DD(h1:Rr cl M b Y n QR)(hs:c7 n c=true)(h2:ag cl M h (QR.set i (some (.exc n)))=some (.nx,QS))(k:ag cl M r (QS.set i none)=res):ag cl M (.cons (.tryc b c i h) r) Y=res:=d6 (by
 rw[yD,h1.1];show(bP cl M b Y).bind _=_;rw[h1.2,Option.bind_some,if_pos hs,h2]
 rfl) k
end
def sG(I:St->Prop):∀ (pre:List D) (Y:St),I Y->(∀ x∈pre,x.imm=true)->d.imm=true ->
  (∀ x∈pre,∀ Y,I Y->∃ QR QS,aX tg x Y=some QR/\f QR=some (.nx,QS)/\I QS) ->
  (∀ Y,I Y->∃ QR,aX tg d Y=some QR/\f QR=none/\∃ QS,fx QR=some (c,QS)/\I QS) ->
  aS f tg (pre++d::post) Y=none/\∃ QQ,dP f fx tg (pre++d::post) Y=some (c,QQ)/\I QQ
 | [],Y,hI,_,him,_,hd=>by
  obtain⟨QR,e1,e2,QS,e3,i2⟩:=hd Y hI;refine#[?_,QS,?_,i2]
  ·show aS f tg (d::post) Y=none;rw[aS,if_pos him,e1,Option.bind_some,e2];rfl
  ·show dP f fx tg (d::post) Y=_;rw[dP,if_pos him,e1,Option.bind_some,e2];exact e3
 | x::pre,Y,hI,hp,him,ht,hd=>by
  obtain⟨QR,QS,e1,e2,i2⟩:=ht x (.head _) Y hI;obtain⟨k1,QQ,k2,i3⟩:=sG I pre QS i2 (fun y hy=>hp y (.tail _ hy)) him (fun y hy=>ht y (.tail _ hy)) hd;refine#[?_,QQ,?_,i3]
  ·show aS f tg (x::(pre++d::post)) Y=none;rw[aS,if_pos (hp x (.head _)),e1,Option.bind_some,e2];exact k1
  ·show dP f fx tg (x::(pre++d::post)) Y=_;rw[dP,if_pos (hp x (.head _)),e1,Option.bind_some,e2];exact k2
def wK(h:T[f]?=some fn)(hT:T.length<=1000)(hl:ds.length=fn.ps)(hm:fn.mp=[])(k:Rr (aq T n) fn.M fn.body (ds.map some++List.replicate (fn.nn-fn.ps) none) c QQ):Rc (aq T (n+1)) f ds c:=by
 refine#[?_,?_]
 ·rw[aq,h];show(if ds.length=fn.ps then _ else none)=none;rw[if_pos hl,k.1];rfl
 ·rw[aq,List.getElem?_eq_none (by omega)];show(T[f+1000-1000]?).bind _=_;rw[Nat.add_sub_cancel,h,Option.bind_some,if_pos ⟨hl,hm⟩,k.2];rfl
end RL
namespace RT
open RL
abbrev kG:Fn :=
 ⟨1,5,[1],[],(.cons (.own 1 (.lst (.cons (.isx (.var 0) "BadPegs") (.cons (.isx (.var 0) "BadFrame") (.cons (.isx (.var 0) "BadHalf") (.cons (.isx (.var 0) "BadHook") .nil)))))) (.cons (.own 1 (.bin .add (.var 1) (.lst (.cons (.isx (.var 0) "BadName") (.cons (.isx (.var 0) "NoNumber") (.cons (.isx (.var 0) "NoFrame") (.cons (.isx (.var 0) "NoStack") .nil))))))) (.cons (.own 1 (.bin .add (.var 1) (.lst (.cons (.isx (.var 0) "NoPlace") (.cons (.isx (.var 0) "Taken") (.cons (.isx (.var 0) "Full") (.cons (.isx (.var 0) "NothingThere") .nil))))))) (.cons (.own 1 (.bin .add (.var 1) (.lst (.cons (.isx (.var 0) "BadTrade") (.cons (.isx (.var 0) "Hangs") (.cons (.isx (.var 0) "BadPage") .nil)))))) (.cons (.app 1 (.not (.isx (.var 0) "ValueError"))) (.cons (.asg 2 (.lst (.cons (.cst (.str "BadPegs")) (.cons (.cst (.str "BadFrame")) (.cons (.cst (.str "BadHalf")) (.cons (.cst (.str "BadHook")) (.cons (.cst (.str "BadName")) (.cons (.cst (.str "NoNumber")) (.cons (.cst (.str "NoFrame")) (.cons (.cst (.str "NoStack")) (.cons (.cst (.str "NoPlace")) .nil))))))))))) (.cons (.asg 2 (.bin .add (.var 2) (.lst (.cons (.cst (.str "Taken")) (.cons (.cst (.str "Full")) (.cons (.cst (.str "NothingThere")) (.cons (.cst (.str "BadTrade")) (.cons (.cst (.str "Hangs")) (.cons (.cst (.str "BadPage")) (.cons (.cst (.str "odd")) .nil)))))))))) (.cons (.ret (.join (.comp (.var 3) [3,4] (.zip (.var 2) (.var 1)) (.var 4)))) .nil))))))))⟩
end RT
namespace RM
open RL RT
def Ha(h:c∈(["BadPegs", "BadFrame", "BadHalf", "BadHook", "BadName", "NoNumber", "NoFrame", "NoStack"]:List PySem.Str)):evF cl kG [.exc c]=some (.str c):=by
 simp only[List.mem_cons,List.not_mem_nil,or_false]at h;rcases h with rfl | rfl | rfl | rfl | rfl | rfl | rfl | rfl<;>rfl
section
def plain_at(n x:Nat):at' (aD n) x=if x<n then n+x else if x<2*n then x-n else x:=by
 unfold at' aD;by_cases h1:x<n
 ·rw[Qm (by simpa using h1),if_pos h1];simp[h1]
 ·rw[Qo (by simpa using h1),if_neg h1];by_cases h2:x<2*n
  ·rw[if_pos h2];simp[show x-n<n by lia]
  ·rw[if_neg h2];simp[show ¬ x-n<n by lia]
def cq(n:Nat):Frm n (aD n):=by
 refine#[by simp[aD];lia,fun x hx=>?_,fun x=>?_,fun x hx=>?_]
 ·rw[plain_at];repeat' split
  all_goals lia
 ·rw[plain_at,plain_at];repeat' split
  all_goals lia
 ·rw[plain_at];repeat' split
  all_goals lia
end
abbrev LI(xs:List Int):List D:=xs.map D.int
def yt(xs:List Int):(LI xs).length=xs.length:=by simp[LI]
def yj:∀ xs:List Int,au (LI xs)=true
 | []=>rfl
 | x::xs=>by
  show((D.int x).imm&&au (LI xs))=true;rw[yj xs];rfl
section
def mod_lt{a b:Int}(h:0<b):0<=a%b/\a%b<b:=#[Int.emod_nonneg _ ⋯,Int.emod_lt_of_pos _ h]
def Dw(s:Int):∃ m:Int,evF cl kP [.int s]=some (.int m):=by
 have a1:=mod_lt (a:=s*48271+11) (b:=2147483647) ∅;generalize h1:(s*48271+11)%2147483647=one at a1;have a2:=mod_lt (a:=one*one+40692*one+s) (b:=2147483399) ∅;generalize h2:(one*one+40692*one+s)%2147483399=two at a2
 exact⟨_,bg rfl rfl (aF (d:=.int one) (aA (aA (aA (aa rfl) ao (yM ∅ ∅)) ao cb) ao (by rw[f9 ∅,h1])) rfl
  (aF (d:=.int two) (aA (aA (aA (aA (aa rfl) (aa rfl) (bT ⋯ ⋯)) (aA ao (aa rfl) (bT ∅ ∅)) cb) (aa rfl) cb) ao (by rw[f9 ∅,h2])) rfl
  (aZ (aA (aA (aA (aA (aa rfl) (aa rfl) (bT (by omega) (by omega))) (aA ao (aa rfl) (bT ∅ ∅)) cb) (aa rfl) cb) ao (f9 ∅)) rfl)))⟩
def Dl{f:Nat}(h:∀ s:Int,∃ m:Int,cl f [.int s]=some (.int m)){ns:List Int}(hl:ns.length<=63){k:Nat}(hk:k<=1000):∃ r:Int,evF cl (kZ f) [.lst (LI ns),.int k]=some (.int r):=by
 have pw:aE .pow (.int 10) (.int 18)=some (.int 1000000000000000000):=rfl
 have rest:∀ c:Int,∃ r QQ,ag cl [] (.cons (.asg 3 (.cst (.int 0))) (.cons (.forr [4] (.rng1 (.cst (.int 40))) (ko f)) (.cons (.ret (.var 3)) .nil))) [some (.lst (LI ns)),some (.int k),some (.int c),none,none]=some (.rt (.int r),QQ):=by
  intro c;have hr:cW (.int 0) (.int 40)=some (L (List.range' 0 40)):=congrArg some (m5 0 40)
  obtain⟨QQ,e,r,o,rfl⟩:=dH (f:=ag cl [] (ko f)) (tg:=[4]) (xs:=List.range' 0 40) (Y:=[some (.lst (LI ns)),some (.int k),some (.int c),some (.int 0),none])
   (fun p Y=>∃ (r:Int) (o:Option D),Y=[some (.lst (LI ns)),some (.int k),some (.int c),some (.int r),o]) ⟨0,none,rfl⟩ (by
    rintro p x q Y hx ⟨r,o,rfl⟩;obtain⟨m,hm⟩:=h (c+1009*k+7919*x)
    exact#[_,aF (aA (aA (aa rfl) ao (yM ∅ ∅)) (cK (aA (aA (aa rfl) (aA ao (aa rfl) (bT ∅ ∅)) cb) (aA ao (aa rfl) (bT ∅ ∅)) cb) hm) cb) rfl aI,_,_,rfl])
  exact#[r,_,aF ao rfl (c6 (ky ao hr) e (aZ (aa rfl) rfl))]
 have len:biV .len (.lst (LI ns))=some (.int ns.length):=congrArg (fun n:Nat=>some (D.int n)) (yt ns)
 have first:ev cl [some (.lst (LI ns)),some (.int k),none,none,none] (.bin .add (.bin .mul (.cst (.int 7)) (.var 1)) (.cst (.int 3)))=some (.int (7*k+3)):=aA (aA ao (aa rfl) (bT ∅ ∅)) ao cb
 by_cases h0:0<ns.length
 ·have hmod:=mod_lt (a:=(k:Int)) (b:=(ns.length:Int)) ⋯;obtain⟨j,hj⟩:=Int.eq_ofNat_of_zero_le hmod.1
  have hjl:j<ns.length:=by lia
  have ix:ixV (.lst (LI ns)) (.int ((k:Int)%ns.length))=some (.int ns[j]):=by
   show cI (LI ns) _=_;rw[hj,fR];simp[LI,hjl]
  obtain⟨r,QQ,hr⟩:=rest (ns[j]+9973*((k:Int) / ns.length));generalize hc:ns[j]+9973*((k:Int) / ns.length)=cell at hr
  have cel:∀ {r':Ss} {res:Option (Out × St)},ag cl [] r' [some (.lst (LI ns)),some (.int k),some (.int cell),none,none]=res->ag cl [] (.cons (.asg 2 (.bin .add (.bin .mul (.cst (.int 7)) (.var 1)) (.cst (.int 3)))) (.cons (.ife (.cmp .gt (.bi .len (.var 0)) (.cst (.int 0))) (.cons (.asg 2 (.bin .add (.ix (.var 0) (.bin .mod (.var 1) (.bi .len (.var 0)))) (.bin .mul (.cst (.int 9973)) (.bin .fdiv (.var 1) (.bi .len (.var 0)))))) .nil) .nil) r')) [some (.lst (LI ns)),some (.int k),none,none,none]=res:=fun z =>
   aF first rfl (fB (aW (aJ (bJ (aa rfl) len) ao (by rw[pf,decide_eq_true ⋯]))) (aF (d:=.int cell) (aA (cw (aa rfl) (aA (aa rfl) (bJ (aa rfl) len) (f9 ⋯)) ix) (aA ao (aA (aa rfl) (bJ (aa rfl) len) (nC ⋯ ⋯)) (bT ∅ ∅)) (by rw[cb,hc])) rfl aI) z)
  by_cases h1:k<ns.length
  ·have c1:bz .lt (.int (k:Nat)) (.int (ns.length:Nat))=some true:=by rw[gL,decide_eq_true ⋯]
   by_cases h2:(1000000000000000000:Int)<=cell
   ·exact#[_,bg rfl rfl (cel (gb (aW (d7 (aJ (aa rfl) (bJ (aa rfl) len) c1) (aJ (aa rfl) (aA ao ao pw) (by rw[Bk,decide_eq_true h2])))) (aZ (aA (aa rfl) (aA ao ao pw) lC) rfl)))]
   ·exact#[r,bg rfl rfl (cel (bR (aW (d7 (aJ (aa rfl) (bJ (aa rfl) len) c1) (aJ (aa rfl) (aA ao ao pw) (by rw[Bk,Qk h2])))) hr))]
  ·exact#[r,bg rfl rfl (cel (bR (aW (i6 (aJ (aa rfl) (bJ (aa rfl) len) (by rw[gL,Qk ⋯])))) hr))]
 ·obtain⟨r,QQ,hr⟩:=rest (7*k+3);exact#[r,bg rfl rfl (aF first rfl (bR (aW (aJ (bJ (aa rfl) len) ao (by rw[pf,Qk ⋯]))) (bR (aW (i6 (aJ (aa rfl) (bJ (aa rfl) len) (by rw[gL,Qk ⋯])))) hr)))]
end
section
abbrev kC(ds sizes:List Nat):Prop:=ds.length=sizes.length/\∀ (i d s:Nat),ds[i]?=some d->sizes[i]?=some s->d<s
def kC.snoc(h:kC ds sizes)(hd:d<s):kC (ds++[d]) (sizes++[s]):=by
 refine#[by simp[h.1],fun i x y h1 h2=>?_];by_cases hi:i<ds.length
 ·rw[Qm hi]at h1;rw[Qm (by rw[<-h.1];exact hi)]at h2;exact h.2 i x y h1 h2
 ·rw[Qo ⋯]at h1;rw[Qo (by rw[<-h.1];lia)]at h2;rw[h.1]at h1
  cases hk:i-sizes.length with
  | zero=>rw[hk]at h1 h2;simp at h1 h2;lia
  | succ k=>rw[hk]at h1;simp at h1
def xC(h:cl f [scr,.int k]=some (.int r))(hp:∀ s∈sizes,0<s/\s<2 ^ 200)(hlen:sizes.length<=1000):∃ ds:List Nat,kC ds sizes/\evF cl (fE f) [scr,.int k,.lst (L sizes)]=some (.lst (L ds)):=by
 obtain⟨QQ,e,r',ds,o,hds,rfl⟩:=dH (f:=ag cl [4] (gJ f)) (tg:=[5]) (xs:=sizes) (Y:=[some scr,some (.int k),some (.lst (L sizes)),some (.int r),some (.lst []),none])
  (fun p Y=>∃ (r:Int) (ds:List Nat) (o:Option D),kC ds p/\Y=[some scr,some (.int k),some (.lst (L sizes)),some (.int r),some (.lst (L ds)),o]) ⟨r,[],none,⟨rfl,by simp⟩,rfl⟩ (by
   rintro p x q Y hx ⟨r,ds,o,hds,rfl⟩;have hx0:=hp x (by rw[hx];simp)
   have hpl:p.length<1000:=by
    have:=congrArg List.length hx;simp at this;lia
   have hx1:(0:Int)<x:=by lia
   have hx2:(x:Int)<2 ^ 200:=by
    have:=hx0.2;lia
   obtain⟨d,hd⟩:=Int.eq_ofNat_of_zero_le (Int.emod_nonneg r (show(x:Int)≠0 by lia))
   have hdx:d<x:=by
    have:=Int.emod_lt_of_pos r hx1;lia
   refine#[[some scr,some (.int k),some (.lst (L sizes)),some (.int (r / x)),some (.lst (L (ds++[d]))),some (.int x)],?_,_,_,_,hds.snoc hdx,rfl]
   have hl:(L ds).length<most:=by
    rw[bH,hds.1];unfold most;lia
   simp[jf,gJ,ag,wL,gx,c9,bc,f9 hx1,nC hx1 hx2,hd,D.imm,hl,aV,dz]
   rfl)
 refine#[ds,hds,?_];simp[evF,fE,ag,gx,fk,nB,dW,lE,bc,dk,evs,bG,items,h,aV,D.imm,aK,au];simp[e,bB,aK,bD,bf]
end
section
end
section
end
abbrev dpf:Nat->List Bool->Option Nat
 | d,[]=>some d
 | d,true::r=>dpf (d+1) r
 | 0,false::_=>none
 | d+1,false::r=>dpf d r
def fT(b:Bool):∀ (w:List Bool) (d:Nat),dpf d (w++[b])=(dpf d w).bind fun e=>dpf e [b]
 | [],d=>rfl
 | true::r,d=>by simpa[dpf]using fT b r (d+1)
 | false::r,0=>rfl
 | false::r,d+1=>by simpa[dpf]using fT b r d
abbrev sg(b:Bool):Nat:=if b then 40 else 41
abbrev tx(w:List Bool):PySem.Str:=#[(w.map sg).toArray]
def uB(w:List Bool):(tx w).length=w.length:=by simp[tx,PySem.Str.length]
def FT(w v:List Bool):tx w++tx v=tx (w++v):=by
 show PySem.Str.mk _=_;simp[tx]
def HE:(PySem.Str.ofString "")=tx []:=by decide +kernel
def x5:(PySem.Str.ofString "(")=tx [true]:=by decide +kernel
def IX:(PySem.Str.ofString ")")=tx [false]:=by decide +kernel
def k7:∀ (k a:Nat),k<=a->cm (-1) (a:Int) k=L ((List.range k).map fun i=>a-i)
 | 0,_,_=>rfl
 | k+1,a,h=>by
  rw[cm,List.range_succ_eq_map];have:=k7 k (a-1) ⋯
  have e:(a:Int)+-1=((a-1:Nat):Int):=by lia
  rw[e,this];simp[L];intro i hi;lia
def eK(h:(List.range k).map g=p++x::q):p.length<k/\x=g p.length:=by
 have l:((List.range k).map g).length=(p++x::q).length:=by rw[h]
 have e:((List.range k).map g)[p.length]?=(p++x::q)[p.length]?:=by rw[h]
 simp at l e;obtain⟨y,hy,e⟩:=e;refine#[by lia,?_];rw[List.getElem?_range ⋯]at hy;cases hy;exact e.symm
def xS(h:w.length+v.length<=most):aE .add (.str (tx w)) (.str (tx v))=some (.str (tx (w++v))):=by
 rw[JP];rw[uB,uB,if_pos h,FT]
def AA(hn:n<=10):∃ w:List Bool,w.length=2*n/\dpf 0 w=some 0/\evF cl jP [.int r,.int n]=some (.str (tx w)):=by
 k_in
 have e2:gg (-1) (.int (2*(n:Int))) (.int 0)=some (L ((List.range (2*n)).map fun i=>2*n-i)):=by
  have hN:bN (-1) (2*(n:Int)) 0=2*n:=by
   unfold bN;rw[show(- -1:Int)=1 from rfl,Int.ediv_one,if_neg ∅];split<;>lia
  dsimp only[gg];rw[hN];rw[if_pos ⟨by decide,by decide,by decide,by unfold most;lia,by lia,by lia,by lia,by lia⟩];have:=k7 (2*n) (2*n) (Qc _);rw[<-this];rfl
 obtain⟨QQ,e,I⟩:=dH (f:=ag cl [] gm) (tg:=[4]) (xs:=(List.range (2*n)).map fun i=>2*n-i) (Y:=[some (.int r),some (.int n),some (.str (tx [])),some (.int 0),none,none,none])
  (fun p Y=>∃ (r:Int) (w:List Bool) (d:Nat) (o4 o5 o6:Option D),Y=[some (.int r),some (.int n),some (.str (tx w)),some (.int d),o4,o5,o6]/\w.length=p.length/\dpf 0 w=some d/\d+p.length<=2*n/\(d+p.length)%2=0) ⟨r,[],0,none,none,none,rfl,rfl,rfl,by simp,rfl⟩ (by
   rintro p x q Y hx ⟨r,w,d,o4,o5,o6,rfl,hw,hd,hl,hp⟩;obtain⟨h1,h2⟩:=eK hx;have m1:aE .fdiv (.int r) (.int 2)=some (.int (r / 2)):=nC ∅ ∅;have m2:aE .mod (.int r) (.int 2)=some (.int (r%2)):=f9 ∅;generalize hr:r%2=st at m2
   have tx1:ixV (.lst [.str (PySem.Str.ofString ")"),.str (PySem.Str.ofString "(")]) (.int 1)=some (.str (tx [true])):=by rw[x5];rfl
   have tx0:ixV (.lst [.str (PySem.Str.ofString ")"),.str (PySem.Str.ofString "(")]) (.int 0)=some (.str (tx [false])):=by rw[IX];rfl
   by_cases up:d=0\/(d<x/\st=1)
   ·have ee:ev cl [some (.int (r / 2)),some (.int n),some (.str (tx w)),some (.int d),some (.int x),o5,some (.int st)] (.or (.cmp .eq (.var 3) (.cst (.int 0))) (.and (.cmp .lt (.var 3) (.var 4)) (.cmp .eq (.var 6) (.cst (.int 1)))))=some (.bl true):=by
     by_cases h0:d=0
     ·subst h0;exact Iv (aJ (aa rfl) ao rfl)
     ·have g:d<x/\st=1:=by lia
      have hb:((d:Int) == 0)=false:=beq_eq_false_iff_ne.mpr ⋯;exact tN (aJ (aa rfl) ao (by rw[dO,hb])) (d7 (aJ (aa rfl) (aa rfl) (by rw[gL,decide_eq_true ⋯])) (aJ (aa rfl) ao (by rw[dO,g.2];rfl)))
    exact⟨_,show ag cl [] gm [some (.int r),some (.int n),some (.str (tx w)),some (.int d),some (.int x),o5,o6]=some (.nx,_)from kR (aA (aa rfl) ao m1) (aA (aa rfl) ao m2) rfl (aF ee rfl (aF (aA (aa rfl) (cw (dU (aC ao (aC ao bA))) (bJ (aa rfl) rfl) tx1) (xS (by simp[most];lia))) rfl (aF (d:=.int ((d+1:Nat):Int)) (aA (aa rfl) (cw (dU (aC (wO ao) (aC ao bA))) (bJ (aa rfl) rfl) rfl) rfl) rfl aI))),
     r / 2,w++[true],d+1,_,_,_,rfl,by simp[hw],by rw[fT,hd];rfl,by simp;omega,by simp;lia⟩
   ·have hd0:0<d:=by lia
    have ee:ev cl [some (.int (r / 2)),some (.int n),some (.str (tx w)),some (.int d),some (.int x),o5,some (.int st)] (.or (.cmp .eq (.var 3) (.cst (.int 0))) (.and (.cmp .lt (.var 3) (.var 4)) (.cmp .eq (.var 6) (.cst (.int 1)))))=some (.bl false):=by
     have hb:((d:Int) == 0)=false:=beq_eq_false_iff_ne.mpr ⋯;refine tN (aJ (aa rfl) ao (by rw[dO,hb])) ?_;by_cases hx:d<x
     ·have h1:(st == 1)=false:=beq_eq_false_iff_ne.mpr ⋯;exact d7 (aJ (aa rfl) (aa rfl) (by rw[gL,decide_eq_true ⋯])) (aJ (aa rfl) ao (by rw[dO,h1]))
     ·exact i6 (aJ (aa rfl) (aa rfl) (by rw[gL,Qk ⋯]))
    have es:aE .add (.int (d:Nat)) (.int (-1))=some (.int ((d-1:Nat):Int)):=by rw[cb];congr 2;lia
    exact⟨_,show ag cl [] gm [some (.int r),some (.int n),some (.str (tx w)),some (.int d),some (.int x),o5,o6]=some (.nx,_)from kR (aA (aa rfl) ao m1) (aA (aa rfl) ao m2) rfl (aF ee rfl (aF (aA (aa rfl) (cw (dU (aC ao (aC ao bA))) (bJ (aa rfl) rfl) tx0) (xS (by simp[most];lia))) rfl (aF (aA (aa rfl) (cw (dU (aC (wO ao) (aC ao bA))) (bJ (aa rfl) rfl) rfl) es) rfl aI))),
     r / 2,w++[false],d-1,_,_,_,rfl,by simp[hw],by rw[fT,hd];obtain⟨e,rfl⟩:∃ e,d=e+1:=#[d-1,by lia];rfl,by simp;lia,by simp;lia⟩)
 obtain⟨r',w,d,o4,o5,o6,rfl,hw,hd,hl,hp⟩:=I;simp at hw hl
 have:d=0:=by lia
 subst this;refine#[w,hw,hd,?_];rw[<-HE]at e;exact bg rfl rfl (aF ao rfl (aF ao rfl (c6 (GO (aA ao (aa rfl) e1) ao e2) e (aZ (aa rfl) rfl))))
abbrev rd(n q:Nat):Nat:=if q<n then q else 3*n-1-q
def bj(h:q<2*n):rd n q<2*n:=by unfold rd;split<;>omega
def bY(h:q<2*n):rd n (rd n q)=q:=by
 unfold rd;by_cases e:q<n
 ·rw[if_pos e,if_pos e]
 ·rw[if_neg e,if_neg (by omega)];lia
def ju(hp:p<2*n)(hq:q<2*n)(h:rd n p=rd n q):p=q:=by rw[<-bY hp,h,bY hq]
abbrev rnd(n:Nat)(f:List Nat)(q:Nat):Nat:=rd n (at' f (rd n q))
structure Val(n:Nat)(f:List Nat):Prop where
 frm:Frm n f
 nox:∀ q q',q<2*n->q'<2*n->¬ (q<q'/\q'<rnd n f q/\rnd n f q<rnd n f q')
structure Mt(n k:Nat)(f S:List Nat):Prop where
 len:f.length=2*n
 kn:k<=2*n
 up:S.Pairwise (·<·)
 lt:∀ s∈S,s<k
 ok:∀ q,q<k->q∉S->rnd n f q<k/\rnd n f q∉S/\rnd n f q≠q/\rnd n f (rnd n f q)=q
 bt:∀ q s,q<k->q∉S->s∈S->¬ (q<s/\s<rnd n f q)
 nox:∀ q q',q<k->q'<k->q∉S->q'∉S->¬ (q<q'/\q'<rnd n f q/\rnd n f q<rnd n f q')
def Mt.push{n k:Nat}{f S:List Nat}(m:Mt n k f S)(hk:k<2*n):Mt n (k+1) f (S++[k]):=by
 have nk:∀ q,q<k+1->q∉S++[k]->q<k/\q∉S:=by
  intro q h1 h2;simp at h2;exact#[by lia,h2.1]
 refine#[m.len,by lia,?_,?_,?_,?_,?_]
 ·rw[QE];exact⟨m.up,by simp,fun a ha b hb=>by simp at hb;have:=m.lt a ha;lia⟩
 ·intro s hs;simp at hs;rcases hs with h | h
  ·have:=m.lt s h;lia
  ·lia
 ·intro q h1 h2;obtain⟨a,b⟩:=nk q h1 h2;obtain⟨c1,c2,c3,c4⟩:=m.ok q a b;exact#[by lia,by simp;exact#[c2,by lia],c3,c4]
 ·intro q s h1 h2 hs;obtain⟨a,b⟩:=nk q h1 h2;simp at hs;rcases hs with h | h
  ·exact m.bt q s a b h
  ·have:=(m.ok q a b).1;lia
 ·intro q q' h1 h2 h3 h4;obtain⟨a,b⟩:=nk q h1 h3;obtain⟨a',b'⟩:=nk q' h2 h4;exact m.nox q q' a a' b b'
def uX(hl:f.length=2*n)(hk:k<2*n)(hm:m<2*n)(hq:q<2*n):rnd n ((f.set (rd n m) (rd n k)).set (rd n k) (rd n m)) q=if q=k then m else if q=m then k else rnd n f q:=by
 have l1:=bj hk;have l2:=bj hm;unfold rnd;rw[eZ (by simp;lia),eZ ⋯];by_cases h1:q=k
 ·subst h1;rw[if_pos rfl,if_pos rfl,bY hm]
 ·rw[if_neg (fun h=>h1 (ju hq hk h)),if_neg h1];by_cases h2:q=m
  ·subst h2;rw[if_pos rfl,if_pos rfl,bY hk]
  ·rw[if_neg (fun h=>h2 (ju hq hm h)),if_neg h2]
def Mt.pop{n k m:Nat}{f S:List Nat}(h:Mt n k f (S++[m]))(hk:k<2*n):Mt n (k+1) ((f.set (rd n m) (rd n k)).set (rd n k) (rd n m)) S:=by
 have hmk:m<k:=h.lt m (by simp)
 have hm:m<2*n:=by lia
 have P:=fun q hq=>uX (f:=f) h.len hk hm (q:=q) hq;have up:=QE.mp h.up;have hmS:∀ s∈S,s<m:=fun s hs=>up.2.2 s hs m (by simp)
 have kS:k∉S:=fun c=>by have:=hmS k c;lia
 have mS:m∉S:=fun c=>by have:=hmS m c;lia
 have cs:∀ q,q<k+1->q∉S->q=k\/q=m\/(q≠k/\q≠m/\q<k/\q∉S++[m]):=by
  intro q h1 h2;by_cases e1:q=k
  ·exact .inl e1
  ·by_cases e2:q=m
   ·exact .inr (.inl e2)
   ·exact .inr (.inr #[e1,e2,by lia,by simp;exact#[h2,e2]])
 have old:∀ q,q<k->q∉S++[m]->rnd n f q<k/\rnd n f q∉S/\rnd n f q≠m/\rnd n f q≠q/\rnd n f (rnd n f q)=q:=by
  intro q h1 h2;obtain⟨c1,c2,c3,c4⟩:=h.ok q h1 h2;simp at c2;exact#[c1,c2.1,c2.2,c3,c4]
 refine⟨by simp[h.len],by lia,up.1,fun s hs=>by have:=hmS s hs;lia,?_,?_,?_⟩
 ·intro q h1 h2
  rcases cs q h1 h2 with rfl | rfl | ⟨e1,e2,e3,e4⟩
  ·rw[P q hk,if_pos rfl,P m hm,if_neg ⋯,if_pos rfl];exact#[by lia,mS,by lia,rfl]
  ·rw[P q hm,if_neg ⋯,if_pos rfl,P k hk,if_pos rfl];exact#[by lia,kS,by lia,rfl]
  ·obtain⟨c1,c2,c3,c4,c5⟩:=old q e3 e4;rw[P q ⋯,if_neg e1,if_neg e2,P _ ⋯,if_neg ⋯,if_neg c3];exact#[by lia,c2,c4,c5]
 ·intro q s h1 h2 hs;have:=hmS s hs
  rcases cs q h1 h2 with rfl | rfl | ⟨e1,e2,e3,e4⟩
  ·lia
  ·lia
  ·rw[P q ⋯,if_neg e1,if_neg e2];exact h.bt q s e3 e4 (by simp[hs])
 ·intro q q' h1 h2 h3 h4
  rcases cs q h1 h3 with rfl | rfl | ⟨e1,e2,e3,e4⟩
  ·lia
  ·rw[P q hm,if_neg ⋯,if_pos rfl]
   rcases cs q' h2 h4 with rfl | rfl | ⟨d1,d2,d3,d4⟩
   ·lia
   ·lia
   ·rw[P q' ⋯,if_neg d1,if_neg d2];have:=(old q' d3 d4).1;lia
  ·rw[P q ⋯,if_neg e1,if_neg e2];have a:=(old q e3 e4).1
   rcases cs q' h2 h4 with rfl | rfl | ⟨d1,d2,d3,d4⟩
   ·lia
   ·have:=h.bt q q' e3 e4 (by simp);lia
   ·rw[P q' ⋯,if_neg d1,if_neg d2];exact h.nox q q' e3 d3 e4 d4
def Mt.val(h:Mt n (2*n) f [])(hlt:∀ x,x<2*n->at' f x<2*n):Val n f:=by
 refine#[#[h.len,hlt,?_,?_],fun q q' h1 h2=>h.nox q q' h1 h2 (by simp) (by simp)]
 ·intro x;by_cases hx:x<2*n
  ·have a:=(h.ok (rd n x) (bj hx) (by simp)).2.2.2;unfold rnd at a;rw[bY hx,bY (hlt x hx)]at a;exact ju (hlt _ (hlt x hx)) hx a
  ·have e:at' f x=x:=lh (by rw[h.len];lia);rw[e,e]
 ·intro x hx e;have a:=(h.ok (rd n x) (bj hx) (by simp)).2.2.1;unfold rnd at a;rw[bY hx,e]at a;exact a rfl
def xI(g:β->D)(im:∀ b,(g b).imm=true)(I:List β->St->Prop):∀ (w done:List β) (Y:St),(∀ u b v Y,done++w=u++b::v->I u Y->∃ QS,(aX tg (.tup [.int u.length,g b]) Y).bind f=some (.nx,QS)/\I (u++[b]) QS)->I done Y->∃ QQ,aS f tg (d5 done.length (w.map g)) Y=some (.nx,QQ)/\I (done++w) QQ
 | [],done,Y,_,h=>#[Y,rfl,by simpa using h]
 | b::w,done,Y,hs,h=>by
  obtain⟨QS,h1,h3⟩:=hs done b w Y rfl h;obtain⟨QQ,h4,h5⟩:=xI g im I w (done++[b]) QS (fun pre e post Y he=>hs pre e post Y (by simpa using he)) h3;refine#[QQ,?_,by simpa using h5];rw[List.map_cons,d5,aS,if_pos (by simp[D.imm,au,im])];rw[show((done++[b]).length:Int)=(done.length:Int)+1 by simp]at h4
  cases hb:aX tg (.tup [.int done.length,g b]) Y with
  | none=>rw[hb]at h1;cases h1
  |some QR=>
   rw[hb]at h1;simp only[Option.bind_some]at h1 ⊢;rw[h1];exact h4
abbrev c8(n:Nat):List Nat:=(List.range (2*n)).map (rd n)
def si(n:Nat):(c8 n).length=2*n:=by simp[c8]
def CO(h:1<=n):c8 n=List.range' 0 n++(List.range n).map (fun i=>(2*n-1)-i):=by
 unfold c8;rw[show 2*n=n+n by lia,List.range_add,QL,<-List.range_eq_range',List.map_map];congr 1
 ·conv=>rhs;rw[<-List.map_id (List.range n)]
  apply QK;intro i hi;simp at hi;simp[rd,hi]
 ·apply QK;intro i hi;simp at hi;show rd n (n+i)=_;unfold rd;rw[if_neg ⋯];lia
def C5{a b:Nat}(h:b<=a)(ha:a<=1000):gg (-1) (.int (a:Int)) (.int ((a:Int)-b))=some (L ((List.range b).map fun i=>a-i)):=by
 have hN:bN (-1) (a:Int) ((a:Int)-b)=b:=by
  unfold bN;rw[show(- -1:Int)=1 from rfl,Int.ediv_one,if_neg ∅];split<;>lia
 dsimp only[gg];rw[hN];rw[if_pos ⟨by decide,by decide,by decide,by unfold most;lia,by lia,by lia,by lia,by lia⟩];rw[k7 b a h]
def xh{n:Nat}(h1:1<=n)(hn:n<=10):evF cl fH [.int n]=some (.lst (L (c8 n))):=by
 k_in;have e2:=dm (a:=0) (b:=n) ⋯ ⋯;rw[Nat.sub_zero]at e2;simp only[Int.natCast_zero]at e2;have e3:=C5 (a:=2*n-1) (b:=n) ⋯ ⋯;rw[show((2*n-1:Nat):Int)=2*n-1 by lia,show 2*(n:Int)-1-n=n-1 by lia]at e3
 have e4:aE .add (.lst (L (List.range' 0 n))) (.lst (L ((List.range n).map fun i=>2*n-1-i)))=some (.lst (L (c8 n))):=by
  rw[Ap];rw[if_pos (by simp[bH,most];lia),CO h1,dz]
 simp[evF,fH,ag,dW,c9,cH,nE,FJ,bc,evs,e1,e2,e3,e4,lC,bB,D.imm,aK,bD,bf]
def p7{n q:Nat}(h:q<2*n):ixV (.lst (L (c8 n))) (.int (q:Int))=some (.int ((rd n q:Nat):Int)):=by
 show cI _ _=_;rw[fR,qY];simp[c8,h]
def iB{f:List Nat}{i j:Nat}(h:i<f.length):fw (.lst (L f)) (.int (i:Int)) (.int (j:Int))=some (.lst (L (f.set i j))):=by
 rw[JT];rw[bH,sS h];simp[Im]
def kc(v:List Bool):∀ (w:List Bool) (d:Nat),dpf d (w++v)=(dpf d w).bind fun e=>dpf e v
 | [],d=>rfl
 | true::r,d=>by simpa[dpf]using kc v r (d+1)
 | false::r,0=>rfl
 | false::r,d+1=>by simpa[dpf]using kc v r d
def tK:∀ (w:List Bool) (d:Nat) {e:Nat},dpf d w=some e->e<=d+w.length
 | [],d,e,h=>by cases h;simp
 | true::r,d,e,h=>by have:=tK r (d+1) h;simp;lia
 | false::r,0,e,h=>nomatch h
 | false::r,d+1,e,h=>by have:=tK r d h;simp;lia
def zeros(cl:Cl)(Y:St):∀ xs:List Nat,bW (fun QR=>(ev cl QR (.cst (.int 0))).map some) [7] Y (L xs)=some (L (List.replicate xs.length 0))
 | []=>rfl
 | x::r=>by
  rw[show L (x::r)=.int x::L r from rfl,bW,zeros cl Y r];rfl
abbrev Wd(n:Nat)(u:List Bool)(f S:List Nat):Prop:=∀ q,q<u.length->u[q]?=some (decide (q∈S\/q<rnd n f q))
def Wd.push{S:List Nat}(h:Wd n u f S)(m:Mt n u.length f S):Wd n (u++[true]) f (S++[u.length]):=by
 intro q hq;simp at hq;by_cases c:q=u.length
 ·subst c;simp
 ·have hq':q<u.length:=by lia
  rw[Qm hq',h q hq'];simp[c]
def Wd.pop{S:List Nat}{m0:Nat}(h:Wd n u f (S++[m0]))(m:Mt n u.length f (S++[m0]))(hk:u.length<2*n):Wd n (u++[false]) ((f.set (rd n m0) (rd n u.length)).set (rd n u.length) (rd n m0)) S:=by
 have hmk:m0<u.length:=m.lt m0 (by simp);have up:=QE.mp m.up;have hmS:∀ s∈S,s<m0:=fun s hs=>up.2.2 s hs m0 (by simp);intro q hq;simp at hq;rw[uX m.len hk ⋯ ⋯];by_cases c:q=u.length
 ·subst c
  have:¬ (u.length∈S):=fun a=>by have:=hmS _ a;lia
  simp[this];lia
 ·have hq':q<u.length:=by lia
  rw[Qm hq',h q hq',if_neg c];by_cases c':q=m0
  ·subst c';simp[hmk]
  ·simp[c']
def nX{fc:Nat}(h1:1<=n)(hn:n<=10)(hc:cl fc [.int n]=some (.lst (L (c8 n))))(hw:w.length=2*n)(hd:dpf 0 w=some 0):∃ f:List Nat,(Val n f/\Wd n w f [])/\evF cl (dR fc) [.str (tx w)]=some (.tup (L f)):=by
 obtain⟨QQ,e,I⟩:=xI (f:=ag cl [3,4] (dB fc)) (tg:=[5,6]) (fun b:Bool=>D.str (tx [b])) (fun _=>rfl)
  (fun u Y=>∃ (f S:List Nat) (o5 o6 o8:Option D),Y=[some (.str (tx w)),some (.int n),some (.lst (L (c8 n))),some (.lst (L f)),some (.lst (L (S.map (rd n)))),o5,o6,none,o8]/\dpf 0 u=some S.length/\Mt n u.length f S/\(∀ x,x<2*n->at' f x<2*n)/\Wd n u f S)
  w [] [some (.str (tx w)),some (.int n),some (.lst (L (c8 n))),some (.lst (L (List.replicate (2*n) 0))),some (.lst (L [])),none,none,none,none] (by
   rintro u b v Y hu ⟨f,S,o5,o6,o8,rfl,hS,m,hlt,wd⟩
   have hk:u.length<2*n:=by
    rw[<-hw];have:=congrArg List.length hu;simp at this;lia
   have hdb:∃ d,dpf S.length [b]=some d:=by
    have:dpf 0 (u++b::v)=some 0:=by rw[<-hu];exact hd
    rw[kc,hS]at this
    revert this
    cases b with
    | true=>exact fun _=>#[_,rfl]
    |false=>
     cases S.length with
     | zero=>exact fun h=>nomatch h
     | succ d=>exact fun _=>#[_,rfl]
   cases b with
   |true=>
    refine#[[some (.str (tx w)),some (.int n),some (.lst (L (c8 n))),some (.lst (L f)),some (.lst (L ((S++[u.length]).map (rd n)))),some (.int u.length),some (.str (tx [true])),none,o8],?_,f,S++[u.length],_,_,_,rfl,?_,by simpa using m.push hk,hlt,wd.push m]
    ·have hl:S.length<most:=by have:=tK u 0 hS;unfold most;lia
     have ap:L ((S++[u.length]).map (rd n))=L (S.map (rd n))++[.int ((rd n u.length:Nat):Int)]:=by simp[L]
     rw[ap];exact show ag cl [3,4] (dB fc) [some (.str (tx w)),some (.int n),some (.lst (L (c8 n))),some (.lst (L f)),some (.lst (L (S.map (rd n)))),some (.int u.length),some (.str (tx [true])),none,o8]=some (.nx,_)from fB (aW (aJ (k:=true) (aa rfl) ao (by rw[x5];decide))) (uw (cw (aa rfl) (aa rfl) (p7 hk)) rfl rfl (by rw[bH,List.length_map];exact hl) aI) aI
    ·rw[fT,hS];simp[dpf]
   |false=>
    obtain⟨d,hdb⟩:=hdb
    have hS0:S≠[]:=by
     rintro rfl;simp[dpf]at hdb
    obtain⟨S0,m0,rfl⟩:∃ S0 m0,S=S0++[m0]:=#[S.dropLast,S.getLast hS0,(List.dropLast_concat_getLast hS0).symm]
    have hm0:m0<u.length:=m.lt m0 (by simp);have c:=p7 hk;have p1:=iB (f:=f) (i:=rd n m0) (j:=rd n u.length) (by rw[m.len];exact bj ⋯);have p2:=iB (f:=f.set (rd n m0) (rd n u.length)) (i:=rd n u.length) (j:=rd n m0) (by rw[List.length_set,m.len];exact bj ⋯);refine#[[some (.str (tx w)),some (.int n),some (.lst (L (c8 n))),some (.lst (L ((f.set (rd n m0) (rd n u.length)).set (rd n u.length) (rd n m0)))),some (.lst (L (S0.map (rd n)))),some (.int u.length),some (.str (tx [false])),none,some (.int ((rd n m0:Nat):Int))],?_,_,S0,_,_,_,rfl,?_,by simpa using m.pop hk,?_,wd.pop m hk]
    ·have ap:L ((S0++[m0]).map (rd n))=L (S0.map (rd n))++[.int ((rd n m0:Nat):Int)]:=by simp[L]
     rw[ap];exact show ag cl [3,4] (dB fc) [some (.str (tx w)),some (.int n),some (.lst (L (c8 n))),some (.lst (L f)),some (.lst (L (S0.map (rd n))++[.int ((rd n m0:Nat):Int)])),some (.int u.length),some (.str (tx [false])),none,o8]=some (.nx,_)from kU (aW (aJ (k:=false) (aa rfl) ao (by rw[x5];decide))) (Et rfl (kz (cw (aa rfl) (aa rfl) c) (aa rfl) rfl rfl p1 (kz (aa rfl) (cw (aa rfl) (aa rfl) c) rfl rfl p2 aI))) aI
    ·rw[fT,hS];simp[dpf]
    ·intro x hx;rw[eZ (by simp[m.len];exact bj ⋯),eZ (by rw[m.len];exact bj ⋯)];have:=bj (n:=n) (q:=m0) ⋯;have:=bj (n:=n) (q:=u.length) ⋯;have:=hlt x hx
     repeat' split
     all_goals lia)
  ⟨List.replicate (2*n) 0,[],none,none,none,rfl,rfl,⟨by simp,by simp,by simp,by simp,by simp,by simp,by simp⟩,fun x hx=>by simp[at',hx];lia,fun q hq=>by simp at hq⟩
 obtain⟨f,S,o5,o6,o8,rfl,hS,m,hlt,wd⟩:=I;simp only[List.nil_append]at hS m wd;rw[hd]at hS;have hS0:S=[]:=List.eq_nil_of_length_eq_zero (by simpa using hS.symm);subst hS0;rw[hw]at m;refine#[f,#[m.val hlt,wd],?_]
 have len:biV .len (.str (tx w))=some (.int ((2*n:Nat):Int)):=by
  rw[Ci];rw[uB,hw,if_pos (by unfold most;lia)]
 have dv:aE .fdiv (.int ((2*n:Nat):Int)) (.int 2)=some (.int (n:Nat)):=by
  rw[nC ∅ ∅];congr 2;lia
 have it:gE (.str (tx w))=some (w.map fun b=>D.str (tx [b])):=by
  simp[gE,tx,Function.comp_def]
 have z:=zeros cl [some (.str (tx w)),some (.int n),some (.lst (L (c8 n))),none,none,none,none,none,none] (c8 n);rw[si]at z
 exact bg rfl rfl (aF (aA (bJ (aa rfl) len) ao dv) rfl (aF (cK (aa rfl) hc) (by unfold aV;rw[show aK (.lst (L (c8 n)))=true from bD _];rfl) (iz (eY (cG (aa rfl) rfl) (by rw[bH,si];unfold most;lia) z) (by rw[show aK (.lst (L (List.replicate (2*n) 0)))=true from bD _];rfl) (iz (dU bA) rfl
  (c6 (wb (aa rfl) it) e (aZ (bJ (aa rfl) rfl) (by unfold bB;rw[show(D.tup (L f)).imm=true from bD _];rfl)))))))
def qQ{fc:Nat}(h1:1<=n)(hn:n<=10)(hc:cl fc [.int n]=some (.lst (L (c8 n))))(hw:w.length=2*n)(hd:dpf 0 w=some 0):∃ f:List Nat,Val n f/\evF cl (dR fc) [.str (tx w)]=some (.tup (L f)):=by
 obtain⟨f,⟨V,_⟩,e⟩:=nX h1 hn hc hw hd;exact#[f,V,e]
def oq(im:∀ x,(g x).imm=true):∀ xs:List Nat,(∀ x∈xs,(aX tg (.int (x:Nat)) Y).bind F=some (some (g x)))->bW F tg Y (L xs)=some (xs.map g)
 | [],_=>rfl
 | x::r,h=>by
  have a:=h x (by simp);have b:=oq im r (fun y hy=>h y (by simp[hy]));rw[show L (x::r)=.int x::L r from rfl,bW]
  cases hb:aX tg (.int (x:Nat)) Y with
  | none=>rw[hb]at a;cases a
  |some QR=>
   rw[hb]at a;simp only[Option.bind_some]at a ⊢;rw[a,b];simp[kY,im]
def yz(im:∀ x,(g x).imm=true):∀ xs:List Nat,(∀ x∈xs,(aX tg (.int (x:Nat)) Y).bind F=some (if c x then some (g x)else none))->bW F tg Y (L xs)=some ((xs.filter c).map g)
 | [],_=>rfl
 | x::r,h=>by
  have a:=h x (by simp);have b:=yz im r (fun y hy=>h y (by simp[hy]));rw[show L (x::r)=.int x::L r from rfl,bW]
  cases hb:aX tg (.int (x:Nat)) Y with
  | none=>rw[hb]at a;cases a
  |some QR=>
   rw[hb]at a;simp only[Option.bind_some]at a ⊢;rw[a,b];cases hc:c x<;>simp[kY,im,hc]
def xo(xs:List Nat)(g:Nat->Nat):(xs.map fun x=>D.int (g x:Nat))=L (xs.map g):=by simp[L]
def nJ(h:xs.length<=1000):fits (L xs)=some (L xs):=by
 unfold fits;rw[if_pos (by rw[bH];unfold most;lia)]
def cD{n:Nat}(h:n<=1000):cW (.int 0) (.int n)=some (L (List.range n)):=by
 have e2:=dm (a:=0) (b:=n) ⋯ h;rw[Nat.sub_zero,<-List.range_eq_range']at e2;exact e2
def qb{n:Nat}(hn:n<=100):evF cl dN [.int n]=some (.tup (L (aD n))):=by
 have e2:=cD (n:=n) ⋯
 have e3:=oq (F:=fun QR=>(ev cl QR (.bin .add (.var 0) (.var 1))).map some) (tg:=[1]) (Y:=[some (.int n),none]) (g:=fun x=>.int ((n+x:Nat):Int)) (fun _=>rfl) (List.range n) (by
  intro x _
  simp[jf,c9,bc,cb])
 rw[xo]at e3
 have e4:aE .add (.lst (L ((List.range n).map fun x=>n+x))) (.lst (L (List.range n)))=some (.lst (L (aD n))):=by
  rw[Ap];rw[if_pos (by simp[bH,most];lia),aD,dz];congr 3
  ·rw[List.range'_eq_map_range]
  ·rw[List.range_eq_range']
 have e5:=nJ (xs:=List.range n) (by simp;lia);simp only[evF,dN,ag,dW,ij,c9,lU,nE,bc,bG];simp[e2,e5];simp[c9,bc]at e3;rw[e3];simp[e4,p9,items,bB,D.imm,bD,bf]
def ku{n:Nat}(hn:n<=10):evF cl dN [.int n]=some (.tup (L (aD n))):=qb ⋯
def qk(h:q<2*n):rnd n (aD n) q=2*n-1-q:=by
 unfold rnd rd;by_cases c:q<n
 ·rw[if_pos c,plain_at,if_pos c,if_neg ⋯];lia
 ·have e:at' (aD n) (3*n-1-q)=2*n-1-q:=by rw[plain_at,if_neg (by omega),if_pos (by omega)];lia
  rw[if_neg c,e,if_pos (by omega)]
def gB(n:Nat):Val n (aD n):=by
 refine#[cq n,fun q q' h1 h2=>?_];rw[qk h1,qk h2];omega
abbrev gi(n i:Nat):List Nat:=kh (aD n) (n+i)
set_option synthInstance.maxSize 10000 in
set_option synthInstance.maxHeartbeats 0 in
def AI:∀ n,n<11->∀ i,i<n->i+1<n->∀ q,q<2*n->∀ q',q'<2*n->¬ (q<q'/\q'<rnd n (gi n i) q/\rnd n (gi n i) q<rnd n (gi n i) q'):=by decide +kernel
def A1(hn:n<=10)(h:i+1<n):Val n (gi n i):=#[Bp (cq n) ⋯,fun q q' h1 h2=>AI n ⋯ i ⋯ h q h1 q' h2]
def rD{fp:Nat}{n i:Nat}(hn:n<=10)(hi:i+1<n)(hp:cl fp [.int n]=some (.tup (L (aD n)))):evF cl (gQ fp) [.int n,.int i]=some (.tup (L (gi n i))):=by
 have hl:=(cq n).len
 have e:gi n i=((((aD n).set i (i+1)).set (i+1) i).set (n+i) (n+i+1)).set (n+i+1) (n+i):=by
  unfold gi kh
  have a1:at' (aD n) (n+i)=i:=by rw[plain_at,if_neg ⋯,if_pos ⋯];lia
  have a2:at' (aD n) (n+i+1)=i+1:=by rw[plain_at,if_neg ⋯,if_pos ⋯];lia
  rw[a1,a2,if_neg ⋯]
 have p1:=iB (f:=aD n) (i:=i) (j:=i+1) ⋯;have p2:=iB (f:=(aD n).set i (i+1)) (i:=i+1) (j:=i) (by simp;lia);have p3:=iB (f:=((aD n).set i (i+1)).set (i+1) i) (i:=n+i) (j:=n+i+1) (by simp;lia);have p4:=iB (f:=(((aD n).set i (i+1)).set (i+1) i).set (n+i) (n+i+1)) (i:=n+i+1) (j:=n+i) (by simp;lia);rw[<-e]at p4;simp only[Int.natCast_add,Int.natCast_one]at p1 p2 p3 p4;simp[evF,gQ,ag,fk,nB,l8,dW,ij,c9,cH,lu,bc,dk,evs,hp,FX,p9,items,aK,bD,bG,cb,aS,D.imm,jf,mh,p1,p2,p3,p4,bB,bf]
abbrev fG(n:Nat)(f:List Nat):List Nat:=(List.range (2*n)).map fun p=>(at' f ((p+n)%(2*n))+n)%(2*n)
def Dp(h:p<2*n):at' (fG n f) p=(at' f ((p+n)%(2*n))+n)%(2*n):=by
 simp[at',fG,h]
def half{xs:List D}(h:xs.length=2*n):biV .len (.tup xs)=some (.int (2*n)):=by
 simp[Co,h]
def Be(n:Nat):aE .fdiv (.int (2*(n:Int))) (.int 2)=some (.int n):=by
 rw[nC ∅ ∅];congr 2;lia
def iF(h:x<f.length):ixV (.tup (L f)) (.int (x:Nat))=some (.int (at' f x:Nat)):=by
 show cI _ _=_;rw[fR,qY,lO h];rfl
def uq(h1:1<=n)(hn:n<=10)(hf:f.length=2*n):evF cl gO [.tup (L f)]=some (.tup (L (fG n f))):=by
 k_in;have e2:=cD (n:=2*n) ⋯;rw[show((2*n:Nat):Int)=2*(n:Int) by lia]at e2
 have e3:=oq (F:=fun QR=>(ev cl QR (.bin .mod (.bin .add (.ix (.var 0) (.bin .mod (.bin .add (.var 2) (.var 1)) (.bin .mul (.cst (.int 2)) (.var 1)))) (.var 1)) (.bin .mul (.cst (.int 2)) (.var 1)))).map some) (tg:=[2]) (Y:=[some (.tup (L f)),some (.int n),none]) (g:=fun p=>.int (((at' f ((p+n)%(2*n))+n)%(2*n):Nat):Int)) (fun _=>rfl) (List.range (2*n)) (by
  intro x _
  have m1:aE .mod (.int ((x:Int)+n)) (.int (2*(n:Int)))=some (.int (((x+n)%(2*n):Nat):Int)):=by
   rw[f9 ⋯];simp
  have m2:=iF (f:=f) (x:=(x+n)%(2*n)) (by rw[hf];exact Nat.mod_lt _ ⋯)
  have m3:aE .mod (.int ((at' f ((x+n)%(2*n)):Nat)+(n:Int))) (.int (2*(n:Int)))=some (.int (((at' f ((x+n)%(2*n))+n)%(2*n):Nat):Int)):=by
   rw[f9 ⋯];simp
  simp only[jf,c9,cH,jY,bc,List.set,Option.bind_some,List.getElem?_cons_zero,List.getElem?_cons_succ,id,e1,cb,m1,m2,m3,Option.map_some])
 rw[xo]at e3;have e5:=nJ (xs:=List.range (2*n)) (by simp;lia);have e6:=half (xs:=L f) (n:=n) (by rw[bH,hf]);have e7:=Be n;simp only[evF,gO,ag,gx,dW,ij,c9,cH,bc,lU,jY,bG];simp[e2,e5,e1,e6,e7,aV,D.imm];simp[c9,cH,jY,bc]at e3;rw[e3];simp[p9,items,bB,D.imm,bD,bf,fG]
section dicts
variable [DecidableEq κ]
def ue:∀ {ks:List κ} {vs:List D} {x:κ} {d:D} {y:κ},ks.length=vs.length->x∉ks->aL (ks++[x]) (vs++[d]) y=if x=y then some d else aL ks vs y
 | [],[],x,d,y,_,_=>by simp[aL]
 | k::ks,v::vs,x,d,y,h,hn=>by
  simp at h hn;have:=ue (ks:=ks) (vs:=vs) (x:=x) (d:=d) (y:=y) h hn.2;simp only[List.cons_append,aL];by_cases e:k=y
  ·rw[if_pos e,if_pos e,if_neg (fun c=>hn.1 (c.trans e.symm))]
  ·rw[if_neg e,if_neg e,this]
def sY:∀ {ks:List κ} {vs:List D} {x:κ} {d:D} {y:κ},ks.length=vs.length->x∈ks->aL ks (List.zipWith (fun k v=>if k=x then d else v) ks vs) y=if x=y then some d else aL ks vs y
 | k::ks,v::vs,x,d,y,h,hm=>by
  simp at h;simp only[List.zipWith_cons_cons,aL];by_cases e:k=y
  ·rw[if_pos e,if_pos e];by_cases e':k=x
   ·rw[if_pos e',if_pos (e'.symm.trans e)]
   ·rw[if_neg e',if_neg (fun c=>e' (e.trans c.symm))]
  ·rw[if_neg e,if_neg e];by_cases hx:x∈ks
   ·exact sY h hx
   ·have kx:x=k:=by simpa[hx]using hm
    rw[if_neg (fun c=>e (kx.symm.trans c))]
    have:List.zipWith (fun k v=>if k=x then d else v) ks vs=vs:=by
     clear e hm kx
     induction ks generalizing vs with
     | nil=>cases vs with | nil=>rfl | cons _ _=>simp at h
     | cons a ks ih=>cases vs with
      | nil=>simp at h
      |cons b vs=>
       simp at h hx;simp only[List.zipWith_cons_cons];rw[if_neg (fun c=>hx.1 c.symm),ih (vs:=vs) (h:=h) (hx:=hx.2)]
    rw[this]
def fQ{ks:List κ}(h:ks.length=vs.length):aL (putD ks vs x d).1 (putD ks vs x d).2 y=if x=y then some d else aL ks vs y:=by
 unfold putD;split
 ·exact sY h ‹_›
 ·exact ue h ‹_›
def hZ{ks:List κ}(h:ks.length=vs.length):(putD ks vs x d).1.length=(putD ks vs x d).2.length/\(putD ks vs x d).1.length<=ks.length+1:=by
 unfold putD;split<;>simp[h]
end dicts
abbrev sd(b:Bool):PySem.Str:=if b then PySem.Str.ofString "high" else PySem.Str.ofString "low"
def qS(b:Bool):(sd b == PySem.Str.ofString "high")=b:=by cases b<;>decide +kernel
def EO(h:sd a=sd b):a=b:=by
 have:=qS a;rw[h,qS]at this;exact this.symm
abbrev nk(b:Bool)(p:Nat):List Ky:=[.inr (sd b),.inl (p:Int)]
def rW(h:nk a p=nk b q):a=b/\p=q:=by
 unfold nk at h;injection h with h1 h2;injection h1 with h1;injection h2 with h2;injection h2 with h2;exact#[EO h1,by lia]
abbrev bw(b:Bool)(x:Nat):D:=.tup [.str (sd b),.int x]
abbrev pick(h l:List Nat)(b:Bool):List Nat:=if b then h else l
abbrev kI(h l:List Nat)(k:Nat)(ks:List (List Ky))(vs:List D):Prop:=ks.length=vs.length/\ks.length<=2*k/\∀ b p,p<k->aL ks vs (nk b p)=some (bw b (at' (pick h l b) p))
def kI.next{h l:List Nat}(N:kI h l k ks vs):kI h l (k+1) (putD (putD ks vs (nk true k) (bw true (at' h k))).1 (putD ks vs (nk true k) (bw true (at' h k))).2 (nk false k) (bw false (at' l k))).1 (putD (putD ks vs (nk true k) (bw true (at' h k))).1 (putD ks vs (nk true k) (bw true (at' h k))).2 (nk false k) (bw false (at' l k))).2:=by
 obtain⟨n1,n2,n3⟩:=N;obtain⟨a1,a2⟩:=hZ (x:=nk true k) (d:=bw true (at' h k)) n1;obtain⟨b1,b2⟩:=hZ (x:=nk false k) (d:=bw false (at' l k)) a1;refine#[b1,by lia,fun b p hp=>?_];rw[fQ a1,fQ n1];by_cases e:p=k
 ·subst e;cases b
  ·rw[if_pos rfl];rfl
  ·rw[if_neg (fun c=>by have:=(rW c).1;cases this),if_pos rfl];rfl
 ·rw[if_neg (fun c=>e (rW c).2.symm),if_neg (fun c=>e (rW c).2.symm)];exact n3 b p ⋯
def zi{fr:Nat}(hn:n<=10)(hh:h.length=2*n)(hl:l.length=2*n):∃ ks vs o,kI h l (2*n) ks vs/\aS (ag cl [3,5,6] (gj fr)) [4] (L (List.range (2*n))) [some (.tup (L h)),some (.tup (L l)),some (.int n),some (.dT [] []),none,none,none,none,none]=some (.nx,[some (.tup (L h)),some (.tup (L l)),some (.int n),some (.dT ks vs),o,none,none,none,none]):=by
 obtain⟨QQ,e,ks,vs,o,rfl,N⟩:=dH (f:=ag cl [3,5,6] (gj fr)) (tg:=[4]) (xs:=List.range (2*n)) (Y:=[some (.tup (L h)),some (.tup (L l)),some (.int n),some (.dT [] []),none,none,none,none,none])
  (fun p Y=>∃ ks vs o,Y=[some (.tup (L h)),some (.tup (L l)),some (.int n),some (.dT ks vs),o,none,none,none,none]/\kI h l p.length ks vs) ⟨[],[],none,rfl,rfl,by simp,by simp⟩ (by
   rintro p x q Y hx ⟨ks,vs,o,rfl,N⟩;obtain⟨h1,h2⟩:=eK (g:=id) (by simpa using hx);simp only[id]at h2;subst h2;have i1:=iF (f:=h) (x:=p.length) ⋯;have i2:=iF (f:=l) (x:=p.length) ⋯;have a:=hZ (x:=nk true p.length) (d:=bw true (at' h p.length)) N.1
   have m1:ks.length<most:=by have:=N.2.1;unfold most;lia
   have m2:(putD ks vs (nk true p.length) (bw true (at' h p.length))).1.length<most:=by have:=N.2.1;unfold most;lia
   refine#[_,?_,_,_,some (.int (p.length:Int)),rfl,by simpa using N.next];have k1:keysOf [.str (PySem.Str.ofString "high"),.int (p.length:Int)]=some (nk true p.length):=rfl;have k2:keysOf [.str (PySem.Str.ofString "low"),.int (p.length:Int)]=some (nk false p.length):=rfl
   have u1:fw (.dT ks vs) (.tup [.str (PySem.Str.ofString "high"),.int (p.length:Int)]) (.tup [.str (PySem.Str.ofString "high"),.int (at' h p.length:Nat)])=some (.dT (putD ks vs (nk true p.length) (bw true (at' h p.length))).1 (putD ks vs (nk true p.length) (bw true (at' h p.length))).2):=by
    rw[Fh];rw[k1,Option.bind_some,if_pos m1];rfl
   have u2:∀ ks vs,ks.length<most->fw (.dT ks vs) (.tup [.str (PySem.Str.ofString "low"),.int (p.length:Int)]) (.tup [.str (PySem.Str.ofString "low"),.int (at' l p.length:Nat)])=some (.dT (putD ks vs (nk false p.length) (bw false (at' l p.length))).1 (putD ks vs (nk false p.length) (bw false (at' l p.length))).2):=by
    intro ks vs m;rw[Fh];rw[k2,Option.bind_some,if_pos m];rfl
   simp only[jf,gj,ag,l8,cH,jY,lu,bc,evs,List.set,Option.bind_some,List.getElem?_cons_zero,List.getElem?_cons_succ,id,i1,i2,Option.map_some,D.imm,au,Bool.and_self,if_true,u1,u2 _ _ m2])
 simp only[List.length_range]at N;exact#[ks,vs,o,N,e]
abbrev stp(n:Nat)(h l:List Nat)(s:Bool × Nat):Bool × Nat:=if s.1=decide (n<=s.2)then(!s.1,at' (pick h l (!s.1)) ((s.2+n)%(2*n)))else s
abbrev itr(n:Nat)(h l:List Nat):Nat->Bool × Nat->Bool × Nat
 | 0,s=>s
 | i+1,s=>stp n h l (itr n h l i s)
abbrev Tr(n:Nat)(s:Bool × Nat)(m:Nat):Prop:=s.1=decide (n<=s.2)/\s.2%n=m
abbrev GD(gk:List Ky)(gv:List D)(k:Nat)(P:Nat->Prop):Prop:=gk.length=gv.length/\gk.length<=k/\∀ m:Nat,(aL gk gv (.inl (m:Int))).isSome=true↔P m
def GD.put(G:GD gk gv k P)(m0:Nat)(d:D):GD (putD gk gv (.inl (m0:Int)) d).1 (putD gk gv (.inl (m0:Int)) d).2 (k+1) (fun m=>P m\/m0=m):=by
 obtain⟨g1,g2,g3⟩:=G;obtain⟨a1,a2⟩:=hZ (x:=(.inl (m0:Int):Ky)) (d:=d) g1;refine#[a1,by lia,fun m=>?_];rw[fQ g1];by_cases e:m0=m
 ·subst e;simp
 ·rw[if_neg (fun c=>e (by injection c;lia)),g3];simp[e]
def GD.mono(G:GD gk gv k P)(hk:k<=k')(h:∀ m,P m↔Q m):GD gk gv k' Q :=
 ⟨G.1,by have:=G.2.1;lia,fun m=>(G.2.2 m).trans (h m)⟩
abbrev hst(n:Nat)(h l:List Nat)(ks:List (List Ky))(vs:List D)(o4:Option D)(fnd:List Nat)(gk:List Ky)(gv:List D)(o7 o8:Option D):St :=
 [some (.tup (L h)),some (.tup (L l)),some (.int n),some (.dT ks vs),o4,some (.lst (L fnd)),some (.dK gk gv),o7,o8]
section
def sq(b:Bool)(x:Nat):ixV (bw b x) (.int 0)=some (.str (sd b)):=rfl
def mQ(b:Bool)(x:Nat):ixV (bw b x) (.int 1)=some (.int (x:Nat)):=rfl
def mF(b:Bool):ixV (.lst [.str (PySem.Str.ofString "high"),.str (PySem.Str.ofString "low")]) (.int (if b=true then 1 else 0))=some (.str (sd !b)):=by cases b<;>rfl
def DT(h1:1<=n)(hn:n<=10)(N:kI h l (2*n) ks vs)(hx:x<2*n)(G:GD gk gv k P)(hk:k<=2000)(o4 o8:Option D)(t:D) :
  ∃ gk' gv',GD gk' gv' (k+1) (fun m=>P m\/Tr n (b,x) m)/\(aX [8] t (hst n h l ks vs o4 fnd gk gv (some (bw b x)) o8)).bind (ag cl [3,5,6] (dM fr))=some (.nx,hst n h l ks vs o4 fnd gk' gv' (some (bw (stp n h l (b,x)).1 (stp n h l (b,x)).2)) (some t)):=by
 k_in
 have cnd:ev cl (hst n h l ks vs o4 fnd gk gv (some (bw b x)) (some t)) (.cmp .eq (.cmp .eq (.ix (.var 7) (.cst (.int 0))) (.cst (.str "high"))) (.cmp .ge (.ix (.var 7) (.cst (.int 1))) (.var 2)))=some (.bl (b == decide (n<=x))):=by
  simp only[hst,gS,jY,bc,cH,Option.bind_some,List.getElem?_cons_zero,List.getElem?_cons_succ,id,sq,mQ,Ez,Hj,xy,xv,xr,qS,Option.map_some];simp
 by_cases e:b=decide (n<=x)
 ·refine#[_,_,(G.put (x%n) (.bl true)).mono (Qc _) (fun m=>by simp[Tr,e]),?_]
  have m1:aE .mod (.int (x:Nat)) (.int n)=some (.int ((x%n:Nat):Int)):=by rw[f9 ⋯];simp
  have m2:aE .mod (.int ((x:Nat)+(n:Int))) (.int (2*(n:Int)))=some (.int (((x+n)%(2*n):Nat):Int)):=by rw[f9 ⋯];simp
  have u:fw (.dK gk gv) (.int ((x%n:Nat):Int)) (.bl true)=some (.dK (putD gk gv (.inl ((x%n:Nat):Int)) (.bl true)).1 (putD gk gv (.inl ((x%n:Nat):Int)) (.bl true)).2):=by
   rw[Hx];dsimp only[keyOf];rw[Option.bind_some,if_pos (by have:=G.2.1;unfold most;lia)]
  have lk:mH (.dT ks vs) (.tup [.str (sd !b),.int (((x+n)%(2*n):Nat):Int)])=some (bw (!b) (at' (pick h l !b) ((x+n)%(2*n)))):=by
   have:=N.2.2 (!b) ((x+n)%(2*n)) (Nat.mod_lt _ ⋯);rw[<-this];rfl
  have s1:stp n h l (b,x)=(!b,at' (pick h l !b) ((x+n)%(2*n))):=by unfold stp;rw[if_pos e]
  rw[s1]
  have eb:(b == decide (n<=x))=true:=by simp[e]
  rw[eb]at cnd;simp only[jf,hst,List.set,Option.bind_some,dM,ag,gx,fC,l8]at cnd ⊢;rw[cnd];simp only[Option.bind_some,truth,if_true,ag,ij,c9,gS,cH,jY,vW,lE,lu,bc,evs,List.getElem?_cons_zero,List.getElem?_cons_succ,id,sq,mQ,m1,u,D.imm,Option.map_some,List.set,Ez,Hj,xy,xv,xr,qS,HB,mF,cb,e1,m2,lk];have ok:aV [3,5,6] (.ixD (.var 3) (.tup (.cons (.ix (.lst (.cons (.cst (.str "high")) (.cons (.cst (.str "low")) .nil))) (.bi .int (.cmp .eq (.ix (.var 7) (.cst (.int 0))) (.cst (.str "high"))))) (.cons (.bin .mod (.bin .add (.ix (.var 7) (.cst (.int 1))) (.var 2)) (.bin .mul (.cst (.int 2)) (.var 2))) .nil)))) (bw (!b) (at' (pick h l !b) ((x+n)%(2*n))))=true:=rfl;rw[if_pos ok];rfl
 ·refine#[gk,gv,G.mono ⋯ (fun m=>by simp[Tr,e]),?_]
  have s1:stp n h l (b,x)=(b,x):=by unfold stp;rw[if_neg e]
  rw[s1]
  have eb:(b == decide (n<=x))=false:=by simp[e]
  rw[eb]at cnd;simp only[jf,hst,List.set,Option.bind_some,dM,ag,gx,fC,l8]at cnd ⊢;rw[cnd];simp[truth,ag]
def EL(hh:∀ x,x<2*n->at' h x<2*n)(hl:∀ x,x<2*n->at' l x<2*n)(hs:s.2<2*n):(stp n h l s).2<2*n:=by
 unfold stp;split
 ·have m:(s.2+n)%(2*n)<2*n:=Nat.mod_lt _ ⋯;cases s.1
  ·exact hh _ m
  ·exact hl _ m
 ·exact hs
def ig(hh:∀ x,x<2*n->at' h x<2*n)(hl:∀ x,x<2*n->at' l x<2*n)(hs:s.2<2*n):∀ i,(itr n h l i s).2<2*n
 | 0=>hs
 | i+1=>EL hh hl (ig hh hl hs i)
abbrev Met(n:Nat)(h l:List Nat)(s:Bool × Nat)(i:Nat)(m:Nat):Prop:=∃ j,j<i/\Tr n (itr n h l j s) m
def C7(h1:1<=n)(hn:n<=10)(N:kI h l (2*n) ks vs)(hh:∀ x,x<2*n->at' h x<2*n)(hl:∀ x,x<2*n->at' l x<2*n)(hs:s.2<2*n)(G:GD gk gv k P)(hk:k<=1000)(o4 o8:Option D) :
  ∃ gk' gv' o8',GD gk' gv' (k+4*n) (fun m=>P m\/Met n h l s (4*n) m)/\aS (ag cl [3,5,6] (dM fr)) [8] (L (List.range (4*n))) (hst n h l ks vs o4 fnd gk gv (some (bw s.1 s.2)) o8)=some (.nx,hst n h l ks vs o4 fnd gk' gv' (some (bw (itr n h l (4*n) s).1 (itr n h l (4*n) s).2)) o8'):=by
 obtain⟨QQ,e,gk',gv',o8',rfl,G'⟩:=dH (f:=ag cl [3,5,6] (dM fr)) (tg:=[8]) (xs:=List.range (4*n)) (Y:=hst n h l ks vs o4 fnd gk gv (some (bw s.1 s.2)) o8)
  (fun p Y=>∃ gk' gv' o8',Y=hst n h l ks vs o4 fnd gk' gv' (some (bw (itr n h l p.length s).1 (itr n h l p.length s).2)) o8'/\GD gk' gv' (k+p.length) (fun m=>P m\/Met n h l s p.length m))
  ⟨gk,gv,o8,rfl,G.mono (by simp) (fun m=>by simp[Met])⟩ (by
   rintro p x q Y hx ⟨gk',gv',o8',rfl,G'⟩;obtain⟨a1,a2⟩:=eK (g:=id) (by simpa using hx);obtain⟨gk2,gv2,G2,e2⟩:=DT (cl:=cl) (fr:=fr) (fnd:=fnd) h1 hn N (ig hh hl hs p.length) G' ⋯ o4 o8' (.int (x:Nat)) (b:=(itr n h l p.length s).1);refine#[_,e2,gk2,gv2,_,by rw[List.length_append];rfl,G2.mono (by simp;lia) (fun m=>?_)];simp only[Met,List.length_append,List.length_singleton];constructor
   ·rintro((hp | ⟨j,h1,h2⟩) | h2)
    ·exact .inl hp
    ·exact .inr #[j,by lia,h2]
    ·exact .inr #[p.length,by lia,h2]
   ·rintro(hp | ⟨j,h1,h2⟩)
    ·exact .inl (.inl hp)
    ·by_cases hj:j=p.length
     ·subst hj;exact .inr h2
     ·exact .inl (.inr #[j,by lia,h2]))
 simp only[List.length_range]at G' e;exact#[gk',gv',o8',G',e]
abbrev beg(n:Nat)(h l:List Nat)(p:Nat):Bool × Nat:=(decide (p<n),at' (pick h l (decide (p<n))) p)
abbrev aB(n:Nat)(h l:List Nat):List Nat:=(List.range (2*n)).map fun p=>(itr n h l (4*n) (beg n h l p)).2
abbrev Gn(n:Nat)(h l:List Nat)(k m:Nat):Prop:=∃ p,p<k/\Met n h l (beg n h l p) (4*n) m
def Jk(b:Bool):ixV (.lst [.str (PySem.Str.ofString "high"),.str (PySem.Str.ofString "low")]) (.int (if b=true then 1 else 0))=some (.str (sd !b)):=mF b
def DR(h1:1<=n)(hn:n<=10)(N:kI h l (2*n) ks vs)(hh:∀ x,x<2*n->at' h x<2*n)(hl:∀ x,x<2*n->at' l x<2*n)(o4 o7 o8:Option D) :
  ∃ gk gv o4' o7' o8',GD gk gv 1000 (Gn n h l (2*n))/\aS (ag cl [3,5,6] (gq fr)) [4] (L (List.range (2*n))) (hst n h l ks vs o4 [] [] [] o7 o8)=some (.nx,hst n h l ks vs o4' (aB n h l) gk gv o7' o8'):=by
 have e4:aE .mul (.int 4) (.int n)=some (.int (4*n)):=bT ∅ ∅;have r4:=cD (n:=4*n) ⋯;rw[show((4*n:Nat):Int)=4*(n:Int) by lia]at r4
 obtain⟨QQ,e,gk,gv,o4',o7',o8',rfl,G⟩:=dH (f:=ag cl [3,5,6] (gq fr)) (tg:=[4]) (xs:=List.range (2*n)) (Y:=hst n h l ks vs o4 [] [] [] o7 o8)
  (fun p Y=>∃ gk gv o4' o7' o8',Y=hst n h l ks vs o4' ((List.range p.length).map fun p=>(itr n h l (4*n) (beg n h l p)).2) gk gv o7' o8'/\GD gk gv (40*p.length) (Gn n h l p.length))
  ⟨[],[],o4,o7,o8,rfl,rfl,by simp,fun m=>by simp[aL,Gn]⟩ (by
   rintro p x q Y hx ⟨gk,gv,o4',o7',o8',rfl,G⟩;obtain⟨a1,a2⟩:=eK (g:=id) (by simpa using hx);simp only[id]at a2;subst a2
   have hb:(beg n h l p.length).2<2*n:=by
    unfold beg pick;cases decide (p.length<n)
    ·exact hl _ a1
    ·exact hh _ a1
   obtain⟨gk2,gv2,o82,G2,e2⟩:=C7 (cl:=cl) (fr:=fr) (fnd:=(List.range p.length).map fun p=>(itr n h l (4*n) (beg n h l p)).2) h1 hn N hh hl hb G ⋯ (some (.int (p.length:Nat))) o8'
   have c1:bz .ge (.int (p.length:Nat)) (.int n)=some (!decide (p.length<n)):=by
    rw[Bk];congr 1;by_cases c:p.length<n
    ·simp[c]
    ·simp[c];lia
   have lk:mH (.dT ks vs) (.tup [.str (sd (decide (p.length<n))),.int (p.length:Nat)])=some (bw (beg n h l p.length).1 (beg n h l p.length).2):=by
    have:=N.2.2 (decide (p.length<n)) p.length a1;rw[show bw (beg n h l p.length).1 (beg n h l p.length).2=bw (decide (p.length<n)) (at' (pick h l (decide (p.length<n))) p.length)from rfl,<-this];rfl
   have sx:=mF (!decide (p.length<n));rw[Bool.not_not]at sx;refine#[hst n h l ks vs (some (.int (p.length:Nat))) ((List.range (p++[p.length]).length).map fun p=>(itr n h l (4*n) (beg n h l p)).2) gk2 gv2 (some (bw (itr n h l (4*n) (beg n h l p.length)).1 (itr n h l (4*n) (beg n h l p.length)).2)) o82,?_,gk2,gv2,_,_,_,rfl,G2.mono (by simp;lia) (fun m=>?_)]
   ·have ok:aV [3,5,6] (.ixD (.var 3) (.tup (.cons (.ix (.lst (.cons (.cst (.str "high")) (.cons (.cst (.str "low")) .nil))) (.bi .int (.cmp .ge (.var 4) (.var 2)))) (.cons (.var 4) .nil)))) (bw (beg n h l p.length).1 (beg n h l p.length).2)=true:=rfl;simp only[jf,hst,List.set,Option.bind_some,gq,ag,wL,gx,fk,c9,cH,jY,bc,vW,lE,lu,ij,gS,evs,bG,List.getElem?_cons_zero,List.getElem?_cons_succ,id,c1,Option.map_some,HB,sx,lk,e4,r4]at e2 ⊢;rw[if_pos ok];simp only[Option.bind_some,e4,r4,List.getElem?_cons_zero,List.getElem?_cons_succ,id,e2,mQ]
    have ml:((D.int (((itr n h l (4*n) (beg n h l p.length)).2:Nat):Int)).imm&&decide ((L (List.map (fun p=>(itr n h l (4*n) (beg n h l p)).snd) (List.range p.length))).length<most))=true:=by
     simp[D.imm,bH,most];lia
    rw[if_pos ml];simp[L,List.range_succ]
   ·simp only[Gn,List.length_append,List.length_singleton];constructor
    ·rintro(⟨j,h1,h2⟩ | h2)
     ·exact#[j,by lia,h2]
     ·exact#[p.length,by lia,h2]
    ·rintro⟨j,h1,h2⟩;by_cases hj:j=p.length
     ·subst hj;exact .inr h2
     ·exact .inl #[j,by lia,h2])
 simp only[List.length_range]at G e;exact#[gk,gv,o4',o7',o8',G.mono ⋯ (fun _=>Iff.rfl),e]
def sW(h1:1<=n)(hn:n<=10)(h2:h.length=2*n)(l2:l.length=2*n)(hh:∀ x,x<2*n->at' h x<2*n)(hl:∀ x,x<2*n->at' l x<2*n) :
  ∃ inner:List Nat,(∀ m,m∈inner↔m<n/\¬ Gn n h l (2*n) m)/\inner.length<=n/\∀ r:Int,cl fr [.tup (L h),.tup (L l),.lst (L inner)]=some (.int r)->evF cl (eC fr) [.tup (L h),.tup (L l)]=some (.tup [.tup (L (aB n h l)),.int r]):=by
 k_in;have r2:=cD (n:=2*n) ⋯;rw[show((2*n:Nat):Int)=2*(n:Int) by lia]at r2;have r1:=cD (n:=n) ⋯;obtain⟨ks,vs,o,N,en⟩:=zi (cl:=cl) (fr:=fr) hn h2 l2;obtain⟨gk,gv,o4,o7,o8,G,eb⟩:=DR (cl:=cl) (fr:=fr) h1 hn N hh hl o none none;refine#[(List.range n).filter fun m:Nat=>!(aL gk gv (.inl (m:Int))).isSome,fun m=>?_,?_,?_]
 ·have:=G.2.2 m;simp[<-this]
 ·have:=List.length_filter_le (fun m:Nat=>!(aL gk gv (.inl (m:Int))).isSome) (List.range n);simpa using this
 ·intro r hr;have e6:=half (xs:=L h) (n:=n) (by rw[bH,h2]);have e7:=Be n;have ft:=nJ (xs:=List.range n) (by simp;lia)
  have mc:=yz (F:=fun QR=>((ev cl QR (.inD true (.var 4) (.var 6))).bind truth).bind fun k=>if k then(ev cl QR (.var 4)).map some else some none) (tg:=[4]) (Y:=hst n h l ks vs o4 (aB n h l) gk gv o7 o8) (g:=fun m=>.int (m:Nat)) (c:=fun m=>!(aL gk gv (.inl (m:Int))).isSome) (fun _=>rfl) (List.range n) (by
   intro x _;simp only[jf,hst,List.set,Option.bind_some,x6,bc,List.getElem?_cons_zero,List.getElem?_cons_succ,id,xu,keyOf,Option.map_some,truth,if_true]
   cases(aL gk gv (.inl (x:Int))).isSome<;>rfl)
  simp only[evF,eC,ag,gx,fk,nB,dW,ij,c9,cH,bc,lE,lu,HU,IE,bG];simp[e6,e7,aV,D.imm,aK,au,e1,r2];rw[en];simp[ag,ij,dk,xX,bc,x6,evs,bG,e1,r2,aK,au,D.imm];simp[hst]at eb;rw[show L []=[]from rfl]at eb;rw[eb];simp[ag,evs,bG,r1,ft,p9,items];simp[x6,bc,hst]at mc;rw[mc];rw[show(List.map (fun m:Nat=>D.int (m:Int)) (List.filter (fun m:Nat=>(aL gk gv (Sum.inl (m:Int))).isNone) (List.range n)))=L (List.filter (fun m:Nat=>(aL gk gv (Sum.inl (m:Int))).isNone) (List.range n))from rfl];simp at hr;simp[hr,bB,D.imm,au,bD,bf]
end
def ug [DecidableEq κ]:∀ {ks:List κ} {vs:List D} {x:κ} {d:D},aL ks vs x=some d->x∈ks
 | k::ks,v::vs,x,d,h=>by
  rw[aL]at h;by_cases e:k=x
  ·simp[e]
  ·rw[if_neg e]at h;simp[ug h]
def A5{κ:Type} [DecidableEq κ]{ks:List κ}{vs:List D}{x:κ}(h:aL ks vs x=some d):(putD ks vs x e).1=ks:=by
 unfold putD;rw[if_pos (ug h)]
abbrev HI(inner:List Nat)(hk:List Ky)(hv:List D):Prop:=hk.length=hv.length/\hk.length<=10/\∀ m∈inner,∃ v:Int,aL hk hv (.inl (m:Int))=some (.int v)
def HI.put{inner:List Nat}{hk:List Ky}{hv:List D}(H:HI inner hk hv){m:Nat}(hm:m∈inner)(v:Int):HI inner (putD hk hv (.inl (m:Int)) (.int v)).1 (putD hk hv (.inl (m:Int)) (.int v)).2:=by
 obtain⟨a,b,c⟩:=H;obtain⟨v0,h0⟩:=c m hm;refine#[(hZ a).1,by rw[A5 h0];exact b,fun i hi=>?_];rw[fQ a];by_cases e:(.inl (m:Int):Ky)=.inl (i:Int)
 ·rw[if_pos e];exact#[v,rfl]
 ·rw[if_neg e];exact c i hi
abbrev rst(n:Nat)(h l inner:List Nat)(hk:List Ky)(hv:List D)(o5 o6 o7 o8 o9:Option D):St :=
 [some (.tup (L h)),some (.tup (L l)),some (.lst (L inner)),some (.int n),some (.dK hk hv),o5,o6,o7,o8,o9]
section
def lB(e:aL hk hv (.inl (m:Int))=some (.int v)):mH (.dK hk hv) (.int (m:Nat))=some (.int v):=e
def ints_map(v:Nat->Int):∀ xs:List Nat,fq (xs.map fun m=>.int (v m))=some (xs.map v)
 | []=>rfl
 | x::r=>by simp[fq,ints_map v r]
end
section
end
def yU(h1:1<=n)(hn:n<=10)
 (hd:∃ ds:List Nat,kC ds [8,10 ^ 12,max 1 (n-1)]/\cl fdi [scr,.int k,.lst (L [8,10 ^ 12,max 1 (n-1)])]=some (.lst (L ds)))
 (hpl:cl fpl [.int n]=some (.tup (L (aD n))))
 (hho:∀ i:Nat,i+1<n->cl fho [.int n,.int i]=some (.tup (L (gi n i))))
 (htx:∀ r:Int,∃ w:List Bool,w.length=2*n/\dpf 0 w=some 0/\cl ftx [.int r,.int n]=some (.str (tx w)))
 (hfr:∀ w:List Bool,w.length=2*n->dpf 0 w=some 0->∃ f:List Nat,Val n f/\cl ffr [.str (tx w)]=some (.tup (L f)))
 (hov:∀ f:List Nat,f.length=2*n->cl fov [.tup (L f)]=some (.tup (L (fG n f))))
 (hhu:∀ f:List Nat,Val n f->∃ (g:List Nat) (r:Int),Val n g/\cl fhu [.tup (L f),.tup (L (fG n f))]=some (.tup [.tup (L g),.int r])) :
  ∃ f:List Nat,Val n f/\evF cl (iY fhu fov ffr ftx fho fpl fdi) [scr,.int k,.int n]=some (.tup (L f)):=by
 obtain⟨ds,⟨dl,dd⟩,hd⟩:=hd
 match ds,dl with
 |[a,b,c],_=>
  have hc:c<max 1 (n-1):=dd 2 c _ rfl rfl
  have mx:(if(n:Int)-1 > 1 then(n:Int)-1 else 1)=((max 1 (n-1):Nat):Int):=by
   split<;>lia
  have pw:aE .pow (.int 10) (.int 12)=some (.int ((10 ^ 12:Nat):Int)):=rfl;obtain⟨w,w1,w2,w3⟩:=htx b;obtain⟨f,V,f3⟩:=hfr w w1 w2;obtain⟨g,r,V',hu⟩:=hhu f V;have ho:=hov f V.frm.len
  have tl:∀ g:List Nat,bB [] (.cst .non) (.tup (L g))=true/\(D.tup (L g)).imm=true:=fun g=>by simp[bB,D.imm,bD]
  have ret:∀ (e:E) (g:List Nat),bB [] e (.tup (L g))=true:=fun e g=>by unfold bB;rw[(tl g).2];rfl
  have start:∀ {rest:Ss} {d:D},(∃ Y,ag cl [] rest [some scr,some (.int k),some (.int n),none,some (.int (a:Nat)),some (.int (b:Nat)),some (.int (c:Nat))]=some (.rt d,Y))->evF cl ⟨3,7,[],[],.cons (.unp [4,5,6] (.call fdi (.cons (.var 0) (.cons (.var 1) (.cons (.lst (.cons (.cst (.int 8)) (.cons (.bin .pow (.cst (.int 10)) (.cst (.int 12))) (.cons (.max (.cst (.int 1)) (.bin .sub (.var 2) (.cst (.int 1)))) .nil)))) .nil))))) rest⟩ [scr,.int k,.int n]=some d:=fun {rest d} ⟨Y,h⟩ =>
   bg rfl rfl (ot (my (aa rfl) (aa rfl) (dU (aC ao (aC (aA ao ao pw) (aC ((IZ ao (aA (aa rfl) ao lC)).trans (by rw[mx])) bA)))) hd) rfl rfl rfl h)
  have no:∀ {j:Nat},a≠j->∀ o,(ev cl [some scr,some (.int k),some (.int n),o,some (.int (a:Nat)),some (.int (b:Nat)),some (.int (c:Nat))] (.cmp .eq (.var 4) (.cst (.int (j:Nat)))))=some (.bl false):=fun {j} h o=>aJ (aa rfl) ao (by rw[dO,beq_eq_false_iff_ne.mpr ⋯]);have yes:∀ {j:Nat},a=j->∀ o,(ev cl [some scr,some (.int k),some (.int n),o,some (.int (a:Nat)),some (.int (b:Nat)),some (.int (c:Nat))] (.cmp .eq (.var 4) (.cst (.int (j:Nat)))))=some (.bl true):=fun {j} h o=>aJ (aa rfl) ao (by rw[dO,h,beq_self_eq_true]);by_cases a0:a=0
  ·exact#[aD n,gB n,start #[_,gb (aW (yes a0 _)) (aZ (cK (aa rfl) hpl) (ret ..))]]
  ·by_cases a1:a=1/\1<n
   ·exact#[gi n c,A1 hn ⋯,start #[_,bR (aW (no a0 _)) (gb (aW (d7 (yes a1.1 _) (aJ (aa rfl) ao (by rw[pf,decide_eq_true ⋯])))) (aZ (gd (aa rfl) (aa rfl) (hho c ⋯)) (ret ..)))]]
   ·have cnd:ev cl [some scr,some (.int k),some (.int n),none,some (.int (a:Nat)),some (.int (b:Nat)),some (.int (c:Nat))] (.and (.cmp .eq (.var 4) (.cst (.int 1))) (.cmp .gt (.var 2) (.cst (.int 1))))=some (.bl false):=by
     by_cases e1:a=1
     ·exact d7 (yes e1 _) (aJ (aa rfl) ao (by rw[pf,Qk ⋯]))
     ·exact i6 (no e1 _)
    have on:∀ {rest:Ss} {d:D},(∃ Y,ag cl [] rest [some scr,some (.int k),some (.int n),some (.tup (L f)),some (.int (a:Nat)),some (.int (b:Nat)),some (.int (c:Nat))]=some (.rt d,Y))->∃ Y,ag cl [] (.cons (.ife (.cmp .eq (.var 4) (.cst (.int 0))) (.cons (.ret (.call fpl (.cons (.var 2) .nil))) .nil) .nil) (.cons (.ife (.and (.cmp .eq (.var 4) (.cst (.int 1))) (.cmp .gt (.var 2) (.cst (.int 1)))) (.cons (.ret (.call fho (.cons (.var 2) (.cons (.var 6) .nil)))) .nil) .nil) (.cons (.asg 3 (.call ffr (.cons (.call ftx (.cons (.var 5) (.cons (.var 2) .nil))) .nil))) rest))) [some scr,some (.int k),some (.int n),none,some (.int (a:Nat)),some (.int (b:Nat)),some (.int (c:Nat))]=some (.rt d,Y):=fun⟨Y,h⟩ =>
     ⟨Y,bR (aW (no a0 _)) (bR (aW cnd) (aF (cK (gd (aa rfl) (aa rfl) w3) f3) (by unfold aV;rw[(tl f).2];rfl) h))⟩
    by_cases a2:a=2
    ·exact#[g,V',start (on #[_,gb (aW (yes a2 _)) (aZ (cw (gd (aa rfl) (cK (aa rfl) ho) hu) ao rfl) (ret ..))])]
    ·exact#[f,V,start (on #[_,bR (aW (no a2 _)) (aZ (aa rfl) (ret ..))])]
def yY(im:∀ x,(g x).imm=true):∀ xs:List Nat,(∀ x∈xs,(aX tg (h x) Y).bind F=some (if c x then some (g x)else none))->bW F tg Y (xs.map h)=some ((xs.filter c).map g)
 | [],_=>rfl
 | x::r,hh=>by
  have a:=hh x (by simp);have b:=yY im r (fun y hy=>hh y (by simp[hy]));rw[List.map_cons,bW]
  cases hb:aX tg (h x) Y with
  | none=>rw[hb]at a;cases a
  |some QR=>
   rw[hb]at a;simp only[Option.bind_some]at a ⊢;rw[a,b];cases hc:c x<;>simp[kY,im,hc]
abbrev pr(f:List Nat)(p:Nat):D:=.tup [.int (p:Nat),.int (at' f p:Nat)]
def uQ:∀ (f:List Nat) (k:Nat),d5 (k:Int) (L f)=(List.range f.length).map fun p=>.tup [.int ((k+p:Nat):Int),.int (at' f p:Nat)]
 | [],k=>rfl
 | x::r,k=>by
  rw[show L (x::r)=.int x::L r from rfl,d5,show(k:Int)+1=((k+1:Nat):Int) by lia,uQ r (k+1),List.length_cons,List.range_succ_eq_map,List.map_cons,List.map_map];congr 1;apply QK;intro p hp;simp at hp
  have e:at' (x::r) (p+1)=at' r p:=by simp[at',hp]
  simp[e];lia
def so(h:f.length=m):d5 0 (L f)=(List.range m).map (pr f):=by
 have:=uQ f 0;rw[h]at this;simp only[Nat.zero_add]at this;exact this
def yf(g:β->D)(im:∀ b,(g b).imm=true)(I:List β->St->Prop):∀ (w done:List β) (Y:St),(∀ u b v Y,done++w=u++b::v->I u Y->∃ QS,(aX tg (g b) Y).bind f=some (.nx,QS)/\I (u++[b]) QS)->I done Y->∃ QQ,aS f tg (w.map g) Y=some (.nx,QQ)/\I (done++w) QQ
 | [],done,Y,_,h=>#[Y,rfl,by simpa using h]
 | b::w,done,Y,hs,h=>by
  obtain⟨QS,h1,h3⟩:=hs done b w Y rfl h;obtain⟨QQ,h4,h5⟩:=yf g im I w (done++[b]) QS (fun pre e post Y he=>hs pre e post Y (by simpa using he)) h3;refine#[QQ,?_,by simpa using h5];rw[List.map_cons,aS,if_pos (im b)]
  cases hb:aX tg (g b) Y with
  | none=>rw[hb]at h1;cases h1
  |some QR=>
   rw[hb]at h1;simp only[Option.bind_some]at h1 ⊢;rw[h1];exact h4
section
variable{n:Nat}
def nV(hp:p<2*n):evF cl dG [.int n,.int (p:Nat)]=some (.int (rd n p:Nat)):=by
 have e1:aE .mul (.int 3) (.int n)=some (.int (3*n)):=bT ∅ ∅;by_cases c:p<n
 ·have c1:decide ((p:Int)<n)=true:=by simp;lia
  simp[evF,dG,ag,dW,c9,gS,cH,wZ,bc,gL,c1,truth,bB,D.imm,bf,rd,c]
 ·have c1:decide ((p:Int)<n)=false:=by simp;lia
  simp[evF,dG,ag,dW,c9,gS,cH,wZ,bc,gL,c1,truth,e1,lC,bB,D.imm,bf,rd,c];lia
def xp{T:D}{c:List D->D}{to:Nat->Nat}(hc:c=.tup\/c=.lst)(hn:n<=10)(F:Frm n f)(hT:∀ p:Nat,p<2*n->ixV T (.int (p:Nat))=some (.int (to p:Nat)))(hlt:∀ p,p<2*n->to p<2*n)(inj:∀ p q,p<2*n->q<2*n->to p=to q->p=q) :
  ∃ E:List Nat,E.length=2*n/\(∀ p,p<2*n->at' E (to p)=to (at' f p))/\evF cl jq [c (L f),T]=some (.tup (L E)):=by
 have ln:biV .len (c (L f))=some (.int (2*n)):=by rcases hc with rfl | rfl<;>simp[ID,Co,bH,F.len]
 have it:gE (c (L f))=some (L f):=by rcases hc with rfl | rfl<;>rfl
 have en:=so F.len
 have e0:aE .mul (.lst [.int 0]) (.int (2*(n:Int)))=some (.lst (L (List.replicate (2*n) 0))):=by
  rw[Em];rw[if_pos ⟨by lia,by unfold most;lia,by simp[most];lia⟩]
  have:(2*(n:Int)).toNat=2*n:=by lia
  rw[this];simp[L]
 obtain⟨QQ,e,E,o3,o4,rfl,El,EE⟩:=yf (f:=ag cl [2] mI) (tg:=[3,4]) (pr f) (fun _=>rfl)
  (fun u Y=>∃ (E:List Nat) (o3 o4:Option D),Y=[some (c (L f)),some T,some (.lst (L E)),o3,o4]/\E.length=2*n/\∀ p∈u,at' E (to p)=to (at' f p))
  (List.range (2*n)) [] [some (c (L f)),some T,some (.lst (L (List.replicate (2*n) 0))),none,none] (by
   rintro u p v Y hu ⟨E,o3,o4,rfl,El,EE⟩
   have hp:p<2*n:=by
    have:p∈List.range (2*n):=by
     simp only[List.nil_append]at hu;rw[hu];simp
    simpa using this
   have hpu:∀ x∈u,x<2*n/\x≠p:=by
    intro x hx;simp only[List.nil_append]at hu;have nd:(List.range (2*n)).Nodup:=List.nodup_range
    have m:x∈List.range (2*n):=by rw[hu];simp[hx]
    rw[hu,List.nodup_append]at nd;exact#[by simpa using m,nd.2.2 x hx p (by simp)]
   have t1:=hT p hp;have t2:=hT (at' f p) (F.lt p hp);have pt:=iB (f:=E) (i:=to p) (j:=to (at' f p)) (by have:=hlt p hp;lia);refine#[_,?_,E.set (to p) (to (at' f p)),some (.int (p:Nat)),some (.int (at' f p:Nat)),rfl,by simp[El],fun x hx=>?_]
   ·simp[EH,Fx,GJ,pr,mI,ag,l8,jY,bc,t1,t2,D.imm,pt]
   ·rw[eZ (by have:=hlt p hp;lia)];simp at hx;rcases hx with hx | rfl
    ·rw[if_neg (fun c=>(hpu x hx).2 (inj x p (hpu x hx).1 hp c))];exact EE x hx
    ·rw[if_pos rfl])
  ⟨_,none,none,rfl,by simp,by simp⟩
 refine#[E,El,fun p hp=>EE p (by simp[hp]),?_];simp only[evF,jq,ag,fk,nB,dW,ij,c9,cH,lE,bc,evs,bG];simp[evs,ln,e0,aK,bD,it,en];rw[e];simp[ag,p9,items,bB,D.imm,bD,bf]
def zd{T:D}{to:Nat->Nat}(hn:n<=10)(F:Frm n f)(hT:∀ p:Nat,p<2*n->ixV T (.int (p:Nat))=some (.int (to p:Nat)))(hlt:∀ p,p<2*n->to p<2*n)(inj:∀ p q,p<2*n->q<2*n->to p=to q->p=q) :
  ∃ E:List Nat,E.length=2*n/\(∀ p,p<2*n->at' E (to p)=to (at' f p))/\evF cl jq [.tup (L f),T]=some (.tup (L E)):=xp (.inl rfl) hn F hT hlt inj
def qM{c:List D->D}(hc:c=.tup\/c=.lst)(hn:n<=10)(F:Frm n f)(hpo:∀ xs:List D,cl fpo [c xs]=some (.int (xs.length / 2)))(hrp:∀ p:Nat,p<2*n->cl frp [.int n,.int (p:Nat)]=some (.int (rd n p:Nat)))
 (hm:∃ E:List Nat,E.length=2*n/\(∀ p,p<2*n->at' E (rd n p)=rd n (at' f p))/\cl fm [c (L f),.lst (L (c8 n))]=some (.tup (L E))) :
  ∃ E:List Nat,E.length=2*n/\(∀ q,q<2*n->at' E q=rnd n f q)/\evF cl (fv fm frp fpo) [c (L f)]=some (.tup (L E)):=by
 obtain⟨E,El,EE,hm⟩:=hm;refine#[E,El,fun q hq=>?_,?_]
 ·have:=EE (rd n q) (bj hq);rw[bY hq]at this;exact this
 ·k_in;have r2:=cD (n:=2*n) ⋯;rw[show((2*n:Nat):Int)=2*(n:Int) by lia]at r2;have ft:=nJ (xs:=List.range (2*n)) (by simp;lia);have po:=hpo (L f);rw[bH,F.len,show(((2*n:Nat):Int) / 2)=(n:Int) by lia]at po
  have mc:=oq (F:=fun QR=>(ev cl QR (.call frp (.cons (.var 1) (.cons (.var 2) .nil)))).map some) (tg:=[2]) (Y:=[some (c (L f)),some (.int n),none]) (g:=fun p=>.int (rd n p:Nat)) (fun _=>rfl) (List.range (2*n)) (by
   intro x hx;simp at hx;have:=hrp x hx
   simp[jf,dk,bc,evs,this])
  rw[xo,show(List.range (2*n)).map (fun p=>rd n p)=c8 n from rfl]at mc;simp only[evF,fv,ag,gx,dW,dk,bc,c9,lU,cH,evs,bG];simp[evs,po,aV,D.imm,e1,r2,ft];simp[dk,bc,evs]at mc;rw[mc];simp[hm,bB,D.imm,bD,bf]
def rZ(hn:n<=10)(F:Frm n f)(hpo:∀ xs:List D,cl fpo [.tup xs]=some (.int (xs.length / 2)))(hrp:∀ p:Nat,p<2*n->cl frp [.int n,.int (p:Nat)]=some (.int (rd n p:Nat)))
 (hm:∃ E:List Nat,E.length=2*n/\(∀ p,p<2*n->at' E (rd n p)=rd n (at' f p))/\cl fm [.tup (L f),.lst (L (c8 n))]=some (.tup (L E))) :
  ∃ E:List Nat,E.length=2*n/\(∀ q,q<2*n->at' E q=rnd n f q)/\evF cl (fv fm frp fpo) [.tup (L f)]=some (.tup (L E)):=qM (.inl rfl) hn F hpo hrp hm
end
structure Op(r:Nat->Nat)(k:Nat)(W:List Nat):Prop where
 up:W.Pairwise (·<·)
 mem:∀ p,p∈W↔p<k/\k<=r p
section
def Op.push(O:Op r k W)(inv:∀ q,q<m->r (r q)=q)(hk:k<m)(h:k<r k):Op r (k+1) (W++[k]):=by
 refine#[?_,fun p=>?_]
 ·rw[QE];exact⟨O.up,by simp,fun a ha b hb=>by simp at hb;have:=(O.mem a).mp ha;lia⟩
 ·simp only[List.mem_append,List.mem_singleton,O.mem];constructor
  ·rintro(⟨a,b⟩ | rfl)
   ·refine#[by lia,?_];by_cases c:r p=k
    ·have:=inv p ⋯;rw[c]at this;lia
    ·lia
   ·lia
  ·rintro⟨a,b⟩;by_cases c:p=k
   ·exact .inr c
   ·exact .inl #[by lia,by lia]
end
section
def rP(h1:1<=n)(hn:n<=10)(V:Val n f)(hpo:∀ xs:List D,cl fo [.tup xs]=some (.int (xs.length / 2)))(hc:cl fc [.int n]=some (.bl true))(hp:cl fp [.tup (L f)]=some (.bl true))
 (hi:∃ E:List Nat,E.length=2*n/\(∀ q,q<2*n->at' E q=rnd n f q)/\cl fi [.tup (L f)]=some (.tup (L E)))
 (hu:∀ E:List Nat,E.length=2*n->(∀ q,q<2*n->at' E (at' E q)=q)->(∀ q,q<2*n->at' E q≠q)->(∀ q q',q<2*n->q'<2*n->¬ (q<q'/\q'<at' E q/\at' E q<at' E q'))->(∀ q,q<2*n->at' E q<2*n)->cl fu [.tup (L E)]=some (.bl true)) :
  evF cl (gU fu fi fp fc fo) [.tup (L f)]=some (.bl true):=by
 have F:=V.frm;obtain⟨E,El,Ea,hi⟩:=hi;have rl:∀ q,q<2*n->rnd n f q<2*n:=fun q hq=>bj (F.lt _ (bj hq))
 have hu:=hu E El (fun q hq=>by
   rw[Ea q hq,Ea _ (rl q hq)];unfold rnd
   rw[bY (F.lt _ (bj hq)),F.inv,bY hq]) (fun q hq e=>by
   rw[Ea q hq]at e;unfold rnd at e;have:=congrArg (rd n) e;rw[bY (F.lt _ (bj hq))]at this
   exact F.no _ (bj hq) this) (fun q q' h h'=>by
   rw[Ea q h,Ea q' h']
   exact V.nox q q' h h') (fun q hq=>by rw[Ea q hq];exact rl q hq)
 k_in;have ln:=half (xs:=L f) (n:=n) (by rw[bH,F.len]);have po:=hpo (L f);rw[bH,F.len,show(((2*n:Nat):Int) / 2)=(n:Int) by lia]at po;have en:=so F.len
 have ft:fits ((List.range (2*n)).map (pr f))=some ((List.range (2*n)).map (pr f)):=by
  unfold fits;rw[if_pos (by simp[most];lia)]
 have mc:=yY (F:=fun QR=>((ev cl QR (.cmp .eq (.var 3) (.var 4))).bind truth).bind fun k=>if k then(ev cl QR (.var 3)).map some else some none) (tg:=[3,4]) (Y:=[some (.tup (L f)),some (.int n),none,none,none]) (h:=pr f) (g:=fun p=>.int (p:Nat)) (c:=fun _=>false) (fun _=>rfl) (List.range (2*n)) (by
  intro x hx;simp at hx;have c2:((x:Int) == (at' f x:Nat))=false:=beq_eq_false_iff_ne.mpr (by have:=F.no x hx;lia)
  simp[EH,Fx,GJ,pr,gS,bc,dO,c2,truth])
 rw[show(List.range (2*n)).filter (fun _=>false)=[]from List.filter_eq_nil_iff.mpr (by simp),List.map_nil]at mc
 have ne0:bz .ne (.int (2*(n:Int))) (.int (2*(n:Int)))=some false:=by
  rw[x3];simp
 simp only[evF,gU,ag,gx,fC,dW,dk,bc,nQ,ij,c9,gS,xX,cH,rf,vV,evs,bG];simp[evs,po,aV,D.imm,ln,e1,ne0,hc,hp,truth,ag,bG,gE,en,ft];simp[gS,bc]at mc;rw[mc];simp[ag,evs,aK,au,hi,hu,truth,bB,D.imm,bf,Jl]
def og(h:cl fi [x]=some (.bl true)):evF cl (dC fi) [x]=some .non:=by
 simp[evF,dC,ag,fC,tV,dk,rf,bc,evs,h,truth,bf]
end
def nh{β:Type}{F:St->Option (Option D)}{tg:List Nat}{Y:St}{h g:β->D}(im:∀ x,(g x).imm=true):∀ xs:List β,(∀ x∈xs,(aX tg (h x) Y).bind F=some (some (g x)))->bW F tg Y (xs.map h)=some (xs.map g)
 | [],_=>rfl
 | x::r,hh=>by
  have a:=hh x (by simp);have b:=nh im r (fun y hy=>hh y (by simp[hy]));rw[List.map_cons,bW]
  cases hb:aX tg (h x) Y with
  | none=>rw[hb]at a;cases a
  |some QR=>
   rw[hb]at a;simp only[Option.bind_some]at a ⊢;rw[a,b];simp[kY,im]
def qX(x:Bool):bz .ne (.bl x) (.bl x)=some false:=by cases x<;>rfl
def Cg(x:Bool):bz .eq (.bl x) (.bl x)=some true:=by cases x<;>rfl
section
def pE(hN:(match d with | .non=>some (D.bl (!false)) | .dK _ _=>none | .dT _ _=>none | _=>some (.bl false))=some (D.bl false))(hb:fS .bool d=some kb)(hi:fS .int d=some ki)(hl:fS .list d=some kl)(ht:fS .tuple d=some kt)
 (k:ag cl [] r [some d,some d,none,none]=res):ag cl [] (.cons (.ife (.isN false (.var 1)) (.cons (.ret (.isN false (.var 0))) .nil) .nil) (.cons (.ife (.or (.cmp .ne (.isi (.var 0) .bool) (.isi (.var 1) .bool)) (.cmp .ne (.isi (.var 0) .int) (.isi (.var 1) .int))) (.cons (.ret (.cst (.bl false))) .nil) .nil) (.cons (.ife (.or (.cmp .ne (.isi (.var 0) .list) (.isi (.var 1) .list)) (.cmp .ne (.isi (.var 0) .tuple) (.isi (.var 1) .tuple))) (.cons (.ret (.cst (.bl false))) .nil) .nil) r))) [some d,some d,none,none]=res :=
 bR (aW (Jb hN (aa rfl))) (bR (aW (tN (aJ (cV (aa rfl) hb) (cV (aa rfl) hb) (qX _)) (aJ (cV (aa rfl) hi) (cV (aa rfl) hi) (qX _)))) (bR (aW (tN (aJ (cV (aa rfl) hl) (cV (aa rfl) hl) (qX _)) (aJ (cV (aa rfl) ht) (cV (aa rfl) ht) (qX _)))) k))
def kA(hN:(match d with | .non=>some (D.bl (!false)) | .dK _ _=>none | .dT _ _=>none | _=>some (.bl false))=some (D.bl false))(hb:fS .bool d=some kb)(hi:fS .int d=some ki)(hl:fS .list d=some false)(ht:fS .tuple d=some false)(hs:fS .str d=some ks)(he:bz .eq d d=some true):evF cl (dA fs) [d,d]=some (.bl true) :=
 bg rfl rfl (pE hN hb hi hl ht (gb (aW (d7 (f7 (cV (aa rfl) hl)) (f7 (cV (aa rfl) ht)))) (aZ (d7 (aJ (cV (aa rfl) hs) (cV (aa rfl) hs) (Cg _)) (aJ (aa rfl) (aa rfl) he)) rfl)))
end
def same_int(a:Int):evF cl (dA fs) [.int a,.int a]=some (.bl true):=kA rfl rfl rfl rfl rfl rfl (by rw[dO,beq_self_eq_true])
def m4:∀ xs:List D,fL xs xs=xs.map fun x=>.tup [x,x]
 | []=>rfl
 | x::r=>by simp[fL,m4 r]
def zu:∀ xs:List β,dF (xs.map fun _=>D.bl true)=some (xs.map fun _=>true)
 | []=>rfl
 | x::r=>by simp[dF,zu r]
def tD{fs:Nat}{d:D}{xs:List D}(hd:d=.tup xs\/d=.lst xs)(hl:xs.length<=1000)(h:∀ x∈xs,cl fs [x,x]=some (.bl true)):evF cl (dA fs) [d,d]=some (.bl true):=by
 have al:biV .all (.lst (xs.map fun _=>.bl true))=some (.bl true):=by
  simp only[Jy,zu];simp
 have mc:=nh (F:=fun QR=>(ev cl QR (.call fs (.cons (.var 2) (.cons (.var 3) .nil)))).map some) (tg:=[2,3]) (Y:=[some d,some d,none,none]) (h:=fun x=>.tup [x,x]) (g:=fun _=>.bl true) (fun _=>rfl) xs (by
  intro x hx;show(ev cl [some d,some d,some x,some x] (.call fs (.cons (.var 2) (.cons (.var 3) .nil)))).map some=_;rw[gd (aa rfl) (aa rfl) (h x hx)]
  rfl)
 have it:items d=some xs:=by rcases hd with rfl | rfl<;>rfl
 have ln:biV .len d=some (.int xs.length):=by rcases hd with rfl | rfl<;>rfl
 have lq:bz .eq (.int (xs.length:Int)) (.int (xs.length:Int))=some true:=by simp[dO]
 have lz:(fL xs xs).length<=most:=by rw[m4,List.length_map];unfold most;lia
 rw[<-m4]at mc;have tl:∀ {res:Option (Out × St)},some (Out.rt (.bl true),[some d,some d,none,none])=res->ag cl [] (.cons (.ret (.and (.cmp .eq (.bi .len (.var 0)) (.bi .len (.var 1))) (.bi .all (.compA (.call fs (.cons (.var 2) (.cons (.var 3) .nil))) [2,3] (.zip (.var 0) (.var 1)))))) .nil) [some d,some d,none,none]=res:=fun e=>(aZ (d7 (aJ (bJ (aa rfl) ln) (bJ (aa rfl) ln) lq) (bJ (eY (Jg (aa rfl) (aa rfl) it it rfl) lz mc) al)) rfl).trans e;rcases hd with rfl | rfl
 ·exact bg rfl rfl (pE rfl rfl rfl rfl rfl (bR (aW (d7 (f7 (k:=false) (cV (aa rfl) rfl)) (f7 (k:=true) (cV (aa rfl) rfl)))) (tl rfl)))
 ·exact bg rfl rfl (pE rfl rfl rfl rfl rfl (bR (aW (i6 (f7 (k:=true) (cV (aa rfl) rfl)))) (tl rfl)))
end RM
set_option maxHeartbeats 1000000
namespace RM
open RL RT
def zP(g:β->D)(im:∀ b,(g b).imm=true)(I:List β->St->Prop):∀ (w done:List β) (Y:St),(∀ u b v Y,done++w=u++b::v->I u Y->(∃ QS,(aX tg (g b) Y).bind f=some (.nx,QS)/\I (u++[b]) QS)\/(B/\∃ QS,(aX tg (g b) Y).bind f=some (.rt d,QS)))->I done Y->(∃ QQ,aS f tg (w.map g) Y=some (.nx,QQ)/\I (done++w) QQ)\/(B/\∃ QQ,aS f tg (w.map g) Y=some (.rt d,QQ))
 | [],done,Y,_,h=>.inl #[Y,rfl,by simpa using h]
 | b::w,done,Y,hs,h=>by
  rcases hs done b w Y rfl h with⟨QS,h1,h3⟩ | ⟨hB,QS,h1⟩
  ·have go:∀ {r:Option (Out × St)},aS f tg (w.map g) QS=r->aS f tg ((b::w).map g) Y=r:=fun {r} e=>by
    rw[List.map_cons,aS,if_pos (im b)]
    cases hb:aX tg (g b) Y with
    | none=>rw[hb]at h1;cases h1
    |some QR=>
     rw[hb]at h1;simp only[Option.bind_some]at h1 ⊢;rw[h1];exact e
   rcases zP (d:=d) (B:=B) g im I w (done++[b]) QS (fun pre e post Y he=>hs pre e post Y (by simpa using he)) h3 with⟨QQ,h4,h5⟩ | ⟨hB,QQ,h4⟩
   ·exact .inl #[QQ,go h4,by simpa using h5]
   ·exact .inr #[hB,QQ,go h4]
  ·refine .inr #[hB,QS,?_];rw[List.map_cons,aS,if_pos (im b)]
   cases hb:aX tg (g b) Y with
   | none=>rw[hb]at h1;cases h1
   |some QR=>
    rw[hb]at h1;simp only[Option.bind_some]at h1 ⊢;rw[h1];rfl
def ya(hi:(Y[i]?).bind id=some (.lst (xs++[.int p])))(h:ev cl (Y.set i (some (.lst xs))) e=some (.int q))(k:ag cl M (.cons (.ife (.cst (.bl (decide (p=q)))) b a) r) (Y.set i (some (.lst xs)))=res):ag cl M (.cons (.ifp i e a b) r) Y=res:=by
 have l:evS cl M (.ifp i e a b) Y=if decide (p=q)=true then ag cl M b (Y.set i (some (.lst xs)))else ag cl M a (Y.set i (some (.lst xs))):=by
  rw[Ib,hi,Option.bind_some];show((xs++[D.int p])[(xs++[D.int p]).length-1]?).bind _=_;rw[show(xs++[D.int p])[(xs++[D.int p]).length-1]?=some (.int p) by simp,Option.bind_some,List.dropLast_concat,h];rfl
 have r':evS cl M (.ife (.cst (.bl (decide (p=q)))) b a) (Y.set i (some (.lst xs)))=if decide (p=q)=true then ag cl M b (Y.set i (some (.lst xs)))else ag cl M a (Y.set i (some (.lst xs))):=by
  rw[fC,ao];rfl
 rw[ag,r',<-l,<-ag]at k;exact k
abbrev Nx(r:Nat->Nat)(m:Nat):Prop:=∀ q q',q<q'->q'<r q->r q<m->¬ (r q<r q'\/r q'=q')
structure Oq(r:Nat->Nat)(k:Nat)(W:List Nat):Prop extends Op r k W where
 nx:Nx r k
 al:∀ q q',q<q'->q'<k->k<=r q->r q'≠q'
section
def Oq.push(O:Oq r k W)(inv:∀ q,q<m->r (r q)=q)(hk:k<m)(h:k<r k):Oq r (k+1) (W++[k]) where
 toOp:=O.toOp.push inv hk h
 nx:=fun q q' h1 h2 h3=>by
  by_cases c:r q=k
  ·exfalso;have:=inv q ⋯;rw[c]at this;lia
  ·exact O.nx q q' h1 h2 ⋯
 al:=fun q q' h1 h2 h3=>by
  by_cases c:q'=k
  ·subst c;lia
  ·exact O.al q q' h1 ⋯ ⋯
def Oq.alone(O:Oq r k [])(inv:∀ q,q<m->r (r q)=q)(hk:k<m)(h:r k=k):Oq r (k+1) []:=by
 have no:∀ q,q<k->k<=r q->False:=fun q h1 h2=>by
  have:=(O.mem q).mpr ⟨h1,h2⟩;cases this
 refine⟨⟨.nil,fun p=>⟨fun h=>(by cases h),fun⟨a,b⟩=>?_⟩⟩,fun q q' h1 h2 h3=>?_,fun q q' h1 h2 h3=>?_⟩
 ·by_cases c:p=k
  ·subst c;lia
  ·exact(no p ⋯ ⋯).elim
 ·by_cases c:r q=k
  ·exfalso;have:=inv q ⋯;rw[c,h]at this;lia
  ·exact O.nx q q' h1 h2 ⋯
 ·exact(no q ⋯ ⋯).elim
def Oq.pop(O:Oq r k (W0++[r k]))(inv:∀ q,q<m->r (r q)=q)(hk:k<m)(h:r k<k):Oq r (k+1) W0:=by
 have up:=O.up;rw[QE]at up;refine#[#[up.1,fun p=>?_],fun q q' h1 h2 h3=>?_,fun q q' h1 h2 h3=>?_]
 ·constructor
  ·intro hp;have lt:=up.2.2 p hp (r k) (by simp);have:=(O.mem p).mp (by simp[hp]);refine#[by lia,?_];by_cases c:r p=k
   ·have i:=inv p ⋯;rw[c]at i;lia
   ·lia
  ·rintro⟨a,b⟩
   have pk:p≠k:=by rintro rfl;lia
   have:=(O.mem p).mpr ⟨by lia,by lia⟩;simp at this;rcases this with h | h
   ·exact h
   ·rw[h,inv k hk]at b;lia
 ·by_cases c:r q=k
  ·have i:=inv q ⋯;rw[c]at i;subst i;rintro(z | z)
   ·have mq:=(O.mem q').mpr ⟨by lia,by lia⟩;simp at mq;rcases mq with mq | mq
    ·have:=up.2.2 q' mq (r k) (by simp);lia
    ·lia
   ·exact O.al (r k) q' h1 ⋯ ⋯ z
  ·exact O.nx q q' h1 h2 ⋯
 ·by_cases c:q'=k
  ·subst c;lia
  ·exact O.al q q' h1 ⋯ ⋯
end
def DZ{cl:Cl}{m:Nat}{E:List Nat}(hm:m<=1000)(El:E.length=m)(inv:∀ q,q<m->at' E (at' E q)=q)(lt:∀ q,q<m->at' E q<m):∃ b:Bool,evF cl fU [.tup (L E)]=some (.bl b)/\(b=true->Nx (at' E) m)/\(Nx (at' E) m->b=true):=by
 have en:=so El
 have st:=zP (B:=¬ Nx (at' E) m) (f:=ag cl [1] bO) (tg:=[2,3]) (d:=.bl false) (pr E) (fun _=>rfl)
  (fun u Y=>∃ (W:List Nat) (o2 o3:Option D),Y=[some (.tup (L E)),some (.lst (L W)),o2,o3]/\Oq (at' E) u.length W/\W.length<=u.length)
  (List.range m) [] [some (.tup (L E)),some (.lst (L [])),none,none] (by
   rintro u p v Y hu ⟨W,o2,o3,rfl,O,Wl⟩;obtain⟨hk,hp⟩:=eK (g:=id) (by simpa using hu);simp only[id]at hp;subst hp
   have ml:(L W).length<most:=by rw[bH];unfold most;lia
   by_cases c:u.length<at' E u.length
   ·refine .inl #[_,show ag cl [1] bO [some (.tup (L E)),some (.lst (L W)),some (.int (u.length:Nat)),some (.int (at' E u.length:Nat))]=some (.nx,_)from fB (aW (aJ (k:=true) (aa rfl) (aa rfl) (by rw[pf,decide_eq_true ⋯]))) (uw (aa rfl) rfl rfl ml aI) aI,W++[u.length],some (.int (u.length:Nat)),some (.int (at' E u.length:Nat)),?_,?_,?_]
    ·rw[dz];rfl
    ·rw[List.length_append];exact O.push inv hk c
    ·simp;lia
   ·have cg:(ev cl [some (.tup (L E)),some (.lst (L W)),some (.int (u.length:Nat)),some (.int (at' E u.length:Nat))] (.cmp .gt (.var 3) (.var 2))).bind truth=some false:=aW (aJ (k:=false) (aa rfl) (aa rfl) (by rw[pf,Qk ⋯]));by_cases c2:at' E u.length=u.length
    ·have ce:(ev cl [some (.tup (L E)),some (.lst (L W)),some (.int (u.length:Nat)),some (.int (at' E u.length:Nat))] (.cmp .eq (.var 3) (.var 2))).bind truth=some true:=aW (aJ (k:=true) (aa rfl) (aa rfl) (by rw[dO,c2,beq_self_eq_true]))
     cases W with
     |nil=>
      exact .inl #[_,show ag cl [1] bO [some (.tup (L E)),some (.lst (L [])),some (.int (u.length:Nat)),some (.int (at' E u.length:Nat))]=some (.nx,_)from kU cg (fB ce (bR (by rw[aa rfl];rfl) aI) aI) aI,[],_,_,rfl,by rw[List.length_append];exact O.alone inv hk c2,by simp]
     |cons w W=>
      exact .inr ⟨fun N=>by
       obtain⟨w1,w2⟩:=(O.mem w).mp (Qq ..)
       have wk:at' E w≠u.length:=fun z=>by
        have:=inv w ⋯;rw[z,c2]at this;lia
       exact N w u.length w1 ⋯ (lt w ⋯) (.inr c2),_,show ag cl [1] bO [some (.tup (L E)),some (.lst (L (w::W))),some (.int (u.length:Nat)),some (.int (at' E u.length:Nat))]=some (.rt (.bl false),_)from lM cg (gb ce (gb (by rw[aa rfl];rfl) (aZ ao rfl)))⟩
    ·have ce:(ev cl [some (.tup (L E)),some (.lst (L W)),some (.int (u.length:Nat)),some (.int (at' E u.length:Nat))] (.cmp .eq (.var 3) (.var 2))).bind truth=some false:=aW (aJ (k:=false) (aa rfl) (aa rfl) (by rw[dO,beq_eq_false_iff_ne.mpr ⋯]));have m1:at' E u.length∈W:=(O.mem _).mpr ⟨by lia,by rw[inv _ hk];exact Qc _⟩;have ne:W≠[]:=List.ne_nil_of_mem m1;have dl:=List.dropLast_concat_getLast ne;generalize W.getLast ne=z at dl;generalize W.dropLast=W0 at dl;subst dl
     have hi:(([some (D.tup (L E)),some (.lst (L (W0++[z]))),some (.int (u.length:Nat)),some (.int (at' E u.length:Nat))]:St)[1]?).bind id=some (.lst (L W0++[.int (z:Nat)])):=by rw[dz];rfl
     by_cases c3:z=at' E u.length
     ·refine .inl #[_,show ag cl [1] bO [some (.tup (L E)),some (.lst (L (W0++[z]))),some (.int (u.length:Nat)),some (.int (at' E u.length:Nat))]=some (.nx,_)from kU cg (kU ce (ya hi (aa rfl) (fB (by rw[ao,decide_eq_true ⋯];rfl) aI aI)) aI) aI,W0,_,_,rfl,?_,?_]
      ·rw[List.length_append];subst c3;exact O.pop inv hk ⋯
      ·simp at Wl ⊢;lia
     ·exact .inr ⟨fun N=>by
       have up:=O.up;rw[QE]at up
       have m0:at' E u.length∈W0:=by
        rcases List.mem_append.mp m1 with h | h
        ·exact h
        ·exact absurd (List.mem_singleton.mp h).symm c3
       have lz:=up.2.2 _ m0 z (by simp);have zz:=(O.mem z).mp (by simp)
       have zk:at' E z≠u.length:=fun q=>by
        have:=inv z ⋯;rw[q]at this;exact c3 this.symm
       have i:=inv u.length hk
       exact N (at' E u.length) z lz (by rw[i];exact zz.1) (by rw[i];exact hk) (.inl (by rw[i];lia)),_,show ag cl [1] bO [some (.tup (L E)),some (.lst (L (W0++[z]))),some (.int (u.length:Nat)),some (.int (at' E u.length:Nat))]=some (.rt (.bl false),_)from lM cg (lM ce (ya hi (aa rfl) (lM (by rw[ao,Qk ⋯];rfl) (aZ ao rfl))))⟩)
  ⟨[],none,none,rfl,⟨⟨by simp,by simp⟩,fun q q' _ _ h=>absurd h (Nat.not_lt_zero _),fun q q' _ h=>absurd h (Nat.not_lt_zero _)⟩,by simp⟩
 rw[<-en]at st
 rcases st with⟨QQ,e,W,o2,o3,rfl,O,_⟩ | ⟨nN,QQ,e⟩
 ·refine#[true,bg rfl rfl (iz (dU bA) rfl (c6 (wb (aa rfl) rfl) e (aZ ao rfl))),fun _=>?_,fun _=>rfl];have:=O.nx;rw[List.nil_append,List.length_range]at this;exact this
 ·exact⟨false,bg rfl rfl (iz (dU bA) rfl (D6 (wb (aa rfl) rfl) e)),(fun h=>by cases h),fun N=>absurd N nN⟩
end RM
set_option maxHeartbeats 1000000
namespace RM
open RL RT
abbrev xi(xs:List Int)(p:Nat):Int:=(xs[p]?).getD 0
abbrev nb(xs:List Int)(p:Nat):Bool:=decide (0<=xi xs p/\xi xs p<xs.length)&&decide (xi xs (xi xs p).toNat=p)
def Cf(h:p<xs.length):ixV (.tup (LI xs)) (.int (p:Nat))=some (.int (xi xs p)):=by
 show cI _ _=_;rw[fR];simp[LI,xi,h]
def rJ(xs:List Int):biV .len (.tup (LI xs))=some (.int (xs.length:Nat)):=congrArg (fun n:Nat=>some (D.int n)) (yt xs)
def bls(g:β->Bool):∀ xs:List β,dF (xs.map fun x=>D.bl (g x))=some (xs.map g)
 | []=>rfl
 | x::r=>by rw[List.map_cons,dF,bls g r];rfl
def Dt(g:β->Bool)(xs:List β):biV .all (.lst (xs.map fun x=>D.bl (g x)))=some (.bl (xs.all g)):=by
 show(dF (xs.map fun x=>D.bl (g x))).map _=_;rw[bls,Option.map_some,List.all_map];rfl
section
def HH(hnum:∀ i:Int,cl fn [.int i]=some (.bl true))(hp:p<xs.length):evF cl (iE fn) [.tup (LI xs),.int (p:Nat)]=some (.bl (nb xs p)):=by
 unfold nb;have a1:ev cl [some (.tup (LI xs)),some (.int (p:Nat)),some (.int (xi xs p))] (.call fn (.cons (.var 2) .nil))=some (.bl true):=cK (aa rfl) (hnum _);have as:∀ {res:Option (Out × St)} {r:Ss},ag cl [] r [some (.tup (LI xs)),some (.int (p:Nat)),some (.int (xi xs p))]=res->ag cl [] (.cons (.asg 2 (.ix (.var 0) (.var 1))) r) [some (.tup (LI xs)),some (.int (p:Nat)),none]=res:=fun h=>aF (cw (aa rfl) (aa rfl) (Cf hp)) rfl h;by_cases c:0<=xi xs p/\xi xs p<xs.length
 ·rw[decide_eq_true c,Bool.true_and];obtain⟨j,hj⟩:=Int.eq_ofNat_of_zero_le c.1;rw[hj]at c as a1 ⊢;have i2:=Cf (xs:=xs) (p:=j) ⋯
  exact bg rfl rfl (as (aZ (d7 a1 (d7 (vN (k:=true) ao (aa rfl) (bJ (aa rfl) (rJ xs)) (by rw[xj,decide_eq_true c.1]) (by rw[gL,decide_eq_true c.2])) (aJ (cw (aa rfl) (aa rfl) i2) (aa rfl) (by
   rw[dO,Int.toNat_natCast]
   congr 1)))) rfl))
 ·rw[Qk c,Bool.false_and];by_cases c1:0<=xi xs p
  ·exact bg rfl rfl (as (aZ (d7 a1 (i6 (vN (k:=false) ao (aa rfl) (bJ (aa rfl) (rJ xs)) (by rw[xj,decide_eq_true c1]) (by rw[gL,Qk (fun z=>c ⟨c1,z⟩)])))) rfl))
  ·exact bg rfl rfl (as (aZ (d7 a1 (i6 (Ah ao (aa rfl) (by rw[xj,Qk c1])))) rfl))
def uG(hm:xs.length<=1000)(hb:∀ p:Nat,p<xs.length->cl fb [.tup (LI xs),.int (p:Nat)]=some (.bl (nb xs p))):evF cl (i4 fb) [.tup (LI xs)]=some (.bl ((List.range xs.length).all (nb xs))):=by
 have mc:=nh (F:=fun QR=>(ev cl QR (.call fb (.cons (.var 0) (.cons (.var 1) .nil)))).map some) (tg:=[1]) (Y:=[some (.tup (LI xs)),none]) (h:=fun p=>.int (p:Nat)) (g:=fun p=>.bl (nb xs p)) (fun _=>rfl) (List.range xs.length) (by
  intro p hp;show(ev cl [some (.tup (LI xs)),some (.int (p:Nat))] (.call fb (.cons (.var 0) (.cons (.var 1) .nil)))).map some=_;rw[gd (aa rfl) (aa rfl) (hb p (List.mem_range.mp hp))]
  rfl)
 exact bg rfl rfl (aZ (d7 (cV (aa rfl) rfl) (bJ (eY (ky (bJ (aa rfl) (rJ xs)) (cD hm)) (by rw[bH,List.length_range];unfold most;lia) mc) (Dt _ _))) rfl)
def Kh(f:List Nat):L f=LI (f.map Int.ofNat):=by unfold L LI;rw[List.map_map];rfl
def wC(len:h.length=m)(lt:∀ q,q<m->at' h q<m)(inv:∀ q,q<m->at' h (at' h q)=q):(List.range (h.map Int.ofNat).length).all (nb (h.map Int.ofNat))=true:=by
 have x1:∀ q,q<m->xi (h.map Int.ofNat) q=(at' h q:Nat):=fun q hq=>by simp[xi,at',show q<h.length by lia]
 rw[Qu,List.length_map,len];intro q hq;have hq:=List.mem_range.mp hq;have l:=lt q hq;unfold nb;rw[x1 q hq,Int.toNat_natCast,x1 _ l,inv q hq,List.length_map,len];rw[decide_eq_true ⟨by lia,by lia⟩];simp
end
structure Dg(T:List Fn)(mx rw dg:Nat):Prop where
 JO:T[mx]?=some kP
 Kg:T[rw]?=some (kZ mx)
 J0:T[dg]?=some (fE rw)
def Dg.digits{T:List Fn}{mx rw dg:Nat}(h:Dg T mx rw dg){ns:List Int}(hl:ns.length<=63)(n:Nat){k:Nat}{sizes:List Nat}(hk:k<=1000)(hp:∀ s∈sizes,0<s/\s<2 ^ 200)(hz:sizes.length<=1000) :
  ∃ ds:List Nat,kC ds sizes/\aq T (n+3) dg [.lst (LI ns),.int k,.lst (L sizes)]=some (.lst (L ds)):=by
 obtain⟨r,hr⟩:=Dl (cl:=aq T (n+1)) (f:=mx) (fun s=>by
  obtain⟨m,hm⟩:=Dw (cl:=aq T n) s
  exact#[m,(az h.JO).trans hm]) hl hk
 obtain⟨ds,h1,h2⟩:=xC (cl:=aq T (n+2)) (f:=rw) ((az h.Kg).trans hr) hp hz;exact#[ds,h1,(az h.J0).trans h2]
structure Dr(T:List Fn)(mx rw dg pl hk ci ft tx rg hu ov fr:Nat):Prop extends Dg T mx rw dg where
 A0:T[pl]?=some dN
 Kb:T[hk]?=some (gQ pl)
 J7:T[ci]?=some fH
 Ka:T[ft]?=some (dR ci)
 Jq:T[tx]?=some jP
 iG:T[rg]?=some di
 t8:T[hu]?=some (eC rg)
 Km:T[ov]?=some gO
 J9:T[fr]?=some (iY hu ov ft tx hk pl dg)
section
variable{T:List Fn}{mx rw dg pl hk ci ft tx rg hu ov fr:Nat}
def Dr.plain(h:Dr T mx rw dg pl hk ci ft tx rg hu ov fr)(n:Nat){k:Nat}(hk:k<=10):aq T (n+1) pl [.int k]=some (.tup (L (aD k))):=(az h.A0).trans (ku hk)
def Dr.hook(h:Dr T mx rw dg pl hk ci ft tx rg hu ov fr)(n:Nat){k i:Nat}(hk':k<=10)(hi:i+1<k):aq T (n+2) hk [.int k,.int i]=some (.tup (L (gi k i))):=(az h.Kb).trans (rD hk' hi (h.plain n hk'))
def Dr.Fv(h:Dr T mx rw dg pl hk ci ft tx rg hu ov fr)(n:Nat){k:Nat}(h1:1<=k)(hk':k<=10):aq T (n+1) ci [.int k]=some (.lst (L (c8 k))):=(az h.J7).trans (xh h1 hk')
def Dr.over(h:Dr T mx rw dg pl hk ci ft tx rg hu ov fr)(n:Nat){k:Nat}{f:List Nat}(h1:1<=k)(hk':k<=10)(hf:f.length=2*k):aq T (n+1) ov [.tup (L f)]=some (.tup (L (fG k f))):=(az h.Km).trans (uq h1 hk' hf)
def Dr.GY(h:Dr T mx rw dg pl hk ci ft tx rg hu ov fr){ns:List Int}(hl:ns.length<=63)(n:Nat){k m:Nat}(hk':k<=1000)(h1:1<=m)(hm:m<=10)
 (hh:∀ f:List Nat,Val m f->∃ (g:List Nat) (r:Int),Val m g/\aq T (n+3) hu [.tup (L f),.tup (L (fG m f))]=some (.tup [.tup (L g),.int r])):∃ f:List Nat,Val m f/\aq T (n+4) fr [.lst (LI ns),.int k,.int m]=some (.tup (L f)):=by
 obtain⟨f,V,e⟩:=yU (cl:=aq T (n+3)) (fhu:=hu) (fov:=ov) (ffr:=ft) (ftx:=tx) (fho:=hk) (fpl:=pl) (fdi:=dg) (scr:=.lst (LI ns)) (k:=k) h1 hm
  (h.digits hl n hk' (by
   intro s hs;simp only[List.mem_cons,List.not_mem_nil,or_false]at hs;rcases hs with rfl | rfl | rfl
   ·decide
   ·decide
   ·exact#[by omega,Nat.lt_of_le_of_lt (show max 1 (m-1)<=10 by lia) ∅]) (by simp))
  (h.plain (n+2) hm) (fun i hi=>h.hook (n+1) hm hi)
  (fun r=>by
   obtain⟨w,h1,h2,h3⟩:=AA (cl:=aq T (n+2)) (r:=r) hm
   exact#[w,h1,h2,(az h.Jq).trans h3])
  (fun w a b=>by
   obtain⟨f,V,e⟩:=qQ (cl:=aq T (n+2)) (fc:=ci) h1 hm (h.Fv (n+1) h1 hm) a b
   exact#[f,V,(az h.Ka).trans e])
  (fun f hf=>h.over (n+2) h1 hm hf) hh
 exact#[f,V,(az h.J9).trans e]
end
structure Ck(T:List Fn)(nu pc pa nb un if' cf po rp ir mv:Nat):Prop where
 JM:T[nu]?=some jd
 JE:T[pc]?=some (eh nu)
 JI:T[pa]?=some (i4 nb)
 Ju:T[nb]?=some (iE nu)
 Ko:T[un]?=some fU
 Ie:T[if']?=some (gU un ir pa pc po)
 JW:T[cf]?=some (dC if')
 JB:T[po]?=some kE
 JV:T[rp]?=some dG
 Jm:T[ir]?=some (fv mv rp po)
 JC:T[mv]?=some jq
section
variable{T:List Fn}{nu pc pa nb un if' cf po rp ir mv:Nat}
def Ck.num(h:Ck T nu pc pa nb un if' cf po rp ir mv)(n:Nat)(i:Int):aq T (n+1) nu [.int i]=some (.bl true):=(az h.JM).trans (qO i)
def Ck.Er(h:Ck T nu pc pa nb un if' cf po rp ir mv)(n:Nat)(i:Int):aq T (n+2) pc [.int i]=some (.bl (decide (1<=i/\i<=10))):=(az h.JE).trans (mM (h.num n) i)
def Ck.of(h:Ck T nu pc pa nb un if' cf po rp ir mv)(n:Nat)(xs:List D):aq T (n+1) po [.tup xs]=some (.int (xs.length / 2)):=(az h.JB).trans (rR xs)
def Ck.half(h:Ck T nu pc pa nb un if' cf po rp ir mv)(n:Nat){k:Nat}{f:List Nat}(hf:f.length=2*k):aq T (n+1) po [.tup (L f)]=some (.int k):=by
 rw[h.of,bH,hf];congr 2;lia
def Ck.place(h:Ck T nu pc pa nb un if' cf po rp ir mv)(n:Nat){k p:Nat}(hp:p<2*k):aq T (n+1) rp [.int k,.int (p:Nat)]=some (.int (rd k p:Nat)):=(az h.JV).trans (nV hp)
def Ck.move(h:Ck T nu pc pa nb un if' cf po rp ir mv)(n:Nat){k:Nat}{f:List Nat}{U:D}{to:Nat->Nat}(hk:k<=10)(F:Frm k f)(hT:∀ p:Nat,p<2*k->ixV U (.int (p:Nat))=some (.int (to p:Nat)))(hlt:∀ p,p<2*k->to p<2*k)(inj:∀ p q,p<2*k->q<2*k->to p=to q->p=q) :
  ∃ E:List Nat,E.length=2*k/\(∀ p,p<2*k->at' E (to p)=to (at' f p))/\aq T (n+1) mv [.tup (L f),U]=some (.tup (L E)):=by
 obtain⟨E,h1,h2,h3⟩:=zd (cl:=aq T n) (T:=U) (to:=to) hk F hT hlt inj;exact#[E,h1,h2,(az h.JC).trans h3]
def Ck.round(h:Ck T nu pc pa nb un if' cf po rp ir mv)(n:Nat){k:Nat}{f:List Nat}(hk:k<=10)(F:Frm k f):∃ E:List Nat,E.length=2*k/\(∀ q,q<2*k->at' E q=rnd k f q)/\aq T (n+2) ir [.tup (L f)]=some (.tup (L E)):=by
 obtain⟨E,h1,h2,h3⟩:=rZ (cl:=aq T (n+1)) (fm:=mv) (frp:=rp) (fpo:=po) hk F (h.of n) (fun p hp=>h.place n hp) (h.move n (U:=.lst (L (c8 k))) (to:=rd k) hk F (fun p hp=>p7 hp) (fun p hp=>bj hp) (fun p q hp hq h=>ju hp hq h));exact#[E,h1,h2,(az h.Jm).trans h3]
def Ck.frame(h:Ck T nu pc pa nb un if' cf po rp ir mv)(n:Nat){k:Nat}{f:List Nat}(h1:1<=k)(hk:k<=10)(V:Val k f):aq T (n+4) if' [.tup (L f)]=some (.bl true) :=
 (az h.Ie).trans (rP h1 hk V (h.of (n+2)) (by rw[h.Er (n+1),decide_eq_true ⋯])
  (by
   have F:=V.frm;have p:=(az (n:=n+2) h.JI).trans (uG (xs:=f.map Int.ofNat) (by rw[List.length_map,F.len];lia) fun q hq=>(az h.Ju).trans (HH (h.num n) hq));rw[wC F.len F.lt (fun q _=>F.inv q),<-Kh]at p
   exact p)
  (h.round (n+1) hk V.frm) (fun E a b c d l=>(az h.Ko).trans (by
   obtain⟨w,e,_,hb⟩:=DZ (cl:=aq T (n+2)) (m:=2*k) ⋯ a b l
   rw[hb fun q q' x y z w=>by
    have:=d q q' ⋯ ⋯;have:=c q' ⋯
    lia]at e
   exact e)))
def Ck.check(h:Ck T nu pc pa nb un if' cf po rp ir mv)(n:Nat){k:Nat}{f:List Nat}(h1:1<=k)(hk:k<=10)(V:Val k f):aq T (n+5) cf [.tup (L f)]=some .non:=(az h.JW).trans (og (h.frame n h1 hk V))
def Ck.rm(h:Ck T nu pc pa nb un if' cf po rp ir mv){cp:Nat}(hcp:T[cp]?=some (cZ pc))(n:Nat){k:Nat}(h1:1<=k)(hk:k<=10):aq T (n+3) cp [.int k]=some .non:=(az hcp).trans (oW (by rw[h.Er,decide_eq_true ⋯]))
def Ck.plain(h:Ck T nu pc pa nb un if' cf po rp ir mv){cp pl:Nat}(hcp:T[cp]?=some (cZ pc))(hpl:T[pl]?=some (jk cp))(n:Nat){k:Nat}(h1:1<=k)(hk:k<=10):aq T (n+4) pl [.int k]=some (.tup (L (aD k))):=(az hpl).trans (run_plain hk (h.rm hcp n h1 hk))
end
inductive Pl:Nat->D->Prop
 | int (n:Nat) (i:Int):Pl n (.int i)
 | bl (n:Nat) (b:Bool):Pl n (.bl b)
 | str (n:Nat) (x:PySem.Str):Pl n (.str x)
 | tup (n:Nat) (xs:List D) (hl:xs.length<=1000) (h:∀ x∈xs,Pl n x):Pl (n+1) (.tup xs)
 | lst (n:Nat) (xs:List D) (hl:xs.length<=1000) (h:∀ x∈xs,Pl n x):Pl (n+1) (.lst xs)
def v5{cl:Cl}{fs:Nat}(a:Bool):evF cl (dA fs) [.bl a,.bl a]=some (.bl true):=kA rfl rfl rfl rfl rfl rfl (Cg a)
def same_str{cl:Cl}{fs:Nat}(x:PySem.Str):evF cl (dA fs) [.str x,.str x]=some (.bl true):=kA rfl rfl rfl rfl rfl rfl (show some (x == x)=some true by rw[beq_self_eq_true])
def sameAll{T:List Fn}{sm:Nat}(h:T[sm]?=some (dA sm)):∀ (k n:Nat) (d:D),Pl k d->k<=n->aq T (n+1) sm [d,d]=some (.bl true):=by
 intro k
 induction k with
 |zero=>
  intro n d p _
  cases p with
  | int=>exact(az h).trans (same_int _)
  | bl=>exact(az h).trans (v5 _)
  | str=>exact(az h).trans (same_str _)
 |succ k ih=>
  intro n d p hn
  cases p with
  | int=>exact(az h).trans (same_int _)
  | bl=>exact(az h).trans (v5 _)
  | str=>exact(az h).trans (same_str _)
  |tup _ xs hl hx=>
   obtain⟨m,rfl⟩:∃ m,n=m+1:=#[n-1,by lia]
   exact(az h).trans (tD (.inl rfl) hl fun x hd=>ih m x (hx x hd) ⋯)
  |lst _ xs hl hx=>
   obtain⟨m,rfl⟩:∃ m,n=m+1:=#[n-1,by lia]
   exact(az h).trans (tD (.inr rfl) hl fun x hd=>ih m x (hx x hd) ⋯)
def Pl.L{n:Nat}{xs:List Nat}(h:xs.length<=1000):Pl (n+1) (.tup (L xs)):=.tup _ _ (by rw[bH];exact h) fun x hx=>by
 obtain⟨a,_,rfl⟩:=List.mem_map.mp hx;exact .int _ _
abbrev Cyc(a b c d:Nat):Prop:=(a<b/\b<c/\c<d)\/(b<c/\c<d/\d<a)\/(c<d/\d<a/\a<b)\/(d<a/\a<b/\b<c)
def uP{m:Nat}{r:Nat->Nat}(inv:∀ q,q<m->r (r q)=q)(nox:∀ q q',q<m->q'<m->¬ (q<q'/\q'<r q/\r q<r q'))(ha:a<m)(hb:b<m)(hc:c<m)(hd:d<m)(e1:r a=c)(e2:r b=d):¬ Cyc a b c d:=by
 have e3:r c=a:=by rw[<-e1];exact inv a ha
 have e4:r d=b:=by rw[<-e2];exact inv b hb
 rintro(h | h | h | h)
 ·exact nox a b ha hb ⟨h.1,by lia,by lia⟩
 ·exact nox b c hb hc ⟨h.1,by lia,by lia⟩
 ·exact nox c d hc hd ⟨h.1,by lia,by lia⟩
 ·exact nox d a hd ha ⟨h.1,by lia,by lia⟩
def kX(hf:f.length=n)(hg:g.length=n)(h:∀ x,x<n->at' f x=at' g x):f=g:=by
 refine List.ext_getElem? fun x=>?_;by_cases hx:x<n
 ·rw[lO ⋯,lO ⋯,h x hx]
 ·rw[List.getElem?_eq_none ⋯,List.getElem?_eq_none ⋯]
structure Way(n:Nat)(to ba:Nat->Nat):Prop where
 lt:∀ p,p<2*n->to p<2*n
 blt:∀ p,p<2*n->ba p<2*n
 tb:∀ p,p<2*n->to (ba p)=p
 bt:∀ p,p<2*n->ba (to p)=p
 cyc:∀ a b c d,a<2*n->b<2*n->c<2*n->d<2*n->a<b->b<c->c<d->Cyc (rd n (ba (rd n a))) (rd n (ba (rd n b))) (rd n (ba (rd n c))) (rd n (ba (rd n d)))\/Cyc (rd n (ba (rd n d))) (rd n (ba (rd n c))) (rd n (ba (rd n b))) (rd n (ba (rd n a)))
abbrev jJ(n:Nat)(to ba:Nat->Nat)(f:List Nat):List Nat:=(List.range (2*n)).map fun p=>to (at' f (ba p))
def sj(n:Nat)(to ba:Nat->Nat)(f:List Nat):(jJ n to ba f).length=2*n:=by simp[jJ]
def hW(h:p<2*n):at' (jJ n to ba f) p=to (at' f (ba p)):=by
 simp[jJ,at',h]
def Way.val{n:Nat}{to ba:Nat->Nat}(W:Way n to ba)(V:Val n f):Val n (jJ n to ba f):=by
 have F:=V.frm;have hl:=sj n to ba f;refine#[#[hl,fun x hx=>?_,fun x=>?_,fun x hx e=>?_],fun q q' hq hq' h=>?_]
 ·rw[hW hx];exact W.lt _ (F.lt _ (W.blt _ hx))
 ·by_cases hx:x<2*n
  ·have h1:=F.lt _ (W.blt _ hx);rw[hW hx,hW (W.lt _ h1),W.bt _ h1,F.inv,W.tb _ hx]
  ·rw[lh (f:=jJ n to ba f) (x:=x) ⋯,lh ⋯]
 ·rw[hW hx]at e;have h1:=F.lt _ (W.blt _ hx)
  have:at' f (ba x)=ba x:=by rw[<-W.bt _ h1,e]
  exact F.no _ (W.blt _ hx) this
 ·obtain⟨h1,h2,h3⟩:=h;have rl:∀ q,q<2*n->rnd n f q<2*n:=fun q hq=>bj (F.lt _ (bj hq))
  have rr:∀ q,q<2*n->rnd n f (rnd n f q)=q:=fun q hq=>by
   unfold rnd;rw[bY (F.lt _ (bj hq)),F.inv,bY hq]
  have key:∀ q,q<2*n->rnd n (jJ n to ba f) q<2*n/\rnd n f (rd n (ba (rd n q)))=rd n (ba (rd n (rnd n (jJ n to ba f) q))):=fun q hq=>by
   have a1:=bj hq;have a2:=W.blt _ a1;have a3:=F.lt _ a2;unfold rnd;rw[hW a1];refine#[bj (W.lt _ a3),?_];rw[bY a2,bY (W.lt _ a3),W.bt _ a3]
  obtain⟨k1,k2⟩:=key q hq;obtain⟨k3,k4⟩:=key q' hq';have bl:∀ q,q<2*n->rd n (ba (rd n q))<2*n:=fun q hq=>bj (W.blt _ (bj hq));rcases W.cyc q q' _ _ hq hq' k1 k3 h1 h2 h3 with c | c
  ·exact uP rr V.nox (bl _ hq) (bl _ hq') (bl _ k1) (bl _ k3) k2 k4 c
  ·refine uP rr V.nox (bl _ k3) (bl _ k1) (bl _ hq') (bl _ hq) ?_ ?_ c
   ·rw[<-k4,rr _ (bl _ hq')]
   ·rw[<-k2,rr _ (bl _ hq)]
abbrev ovr(n p:Nat):Nat:=if p<n then p+n else p-n
def BK(c:q<n):rd n q=q:=by unfold rd;rw[if_pos c]
def BW(c:¬ q<n):rd n q=3*n-1-q:=by unfold rd;rw[if_neg c]
def uA(c:q<n):ovr n q=q+n:=by unfold ovr;rw[if_pos c]
def tU(c:¬ q<n):ovr n q=q-n:=by unfold ovr;rw[if_neg c]
def ny(hp:p<2*n):ovr n p<2*n/\ovr n (ovr n p)=p:=by
 by_cases c:p<n
 ·rw[uA c,tU ⋯];exact#[by lia,by lia]
 ·rw[tU c,uA (by omega)];exact#[by lia,by lia]
def nM(hq:q<2*n):rd n (ovr n (rd n q))=2*n-1-q:=by
 by_cases c:q<n
 ·rw[BK c,uA c,BW ⋯];lia
 ·rw[BW c,tU (by omega),BK (by omega)];lia
def rV(n:Nat):Way n (ovr n) (ovr n) :=
 ⟨fun p hp=>(ny hp).1,fun p hp=>(ny hp).1,fun p hp=>(ny hp).2,fun p hp=>(ny hp).2,fun a b c d ha hb hc hd h1 h2 h3=>.inr (.inl (by
  rw[nM ha,nM hb,nM hc,nM hd]
  exact#[by lia,by lia,by omega]))⟩
def Av(F:Frm n f):fG n f=jJ n (ovr n) (ovr n) f:=by
 refine kX (n:=2*n) (by simp[fG]) (sj ..) fun p hp=>?_;rw[Dp hp,hW hp]
 have e:∀ p,p<2*n->(p+n)%(2*n)=ovr n p:=fun p hp=>by
  unfold ovr;split
  ·rw[QH ⋯]
  ·rw[Nat.mod_eq_sub_mod ⋯,QH ⋯];lia
 rw[e p hp,e _ (F.lt _ ((rV n).lt p hp))]
def d9:∀ {a b:List Nat},a.Nodup->(∀ x∈a,x∈b)->a.length<=b.length
 | [],_,_,_=>Nat.zero_le _
 | x::r,b,hn,h=>by
  rw[List.nodup_cons]at hn;have hx:=h x Qq;have:=d9 (a:=r) (b:=b.erase x) hn.2 fun y hy=>(List.mem_erase_of_ne (fun e=>hn.1 (by rw[<-e];exact hy))).mpr (h y (Ql _ hy));rw[List.length_erase_of_mem hx]at this;have:0<b.length:=List.length_pos_of_mem hx;simp only[List.length_cons];lia
def mG:∀ xs:List D,(∀ x∈xs,f x x=some true)->eqs f xs xs=some true
 | [],_=>rfl
 | x::r,h=>by
  rw[eqs,h x Qq,Option.bind_some,mG r fun y hy=>h y (Ql _ hy)];rfl
def BM:∀ (k n:Nat) (d:D),Pl k d->k<=n->eqD n d d=some true:=by
 intro k
 induction k with
 |zero=>
  intro n d p _
  cases p with
  | int i=>simp[xr]
  | bl i=>simp[xv]
  | str i=>simp[xy]
 |succ k ih=>
  intro n d p hn
  obtain⟨m,rfl⟩:∃ m,n=m+1:=#[n-1,by lia]
  cases p with
  | int i=>simp[xr]
  | bl i=>simp[xv]
  | str i=>simp[xy]
  | tup _ xs hl h=>rw[JN,mG xs fun x hx=>ih m x (h x hx) ⋯];simp
  | lst _ xs hl h=>rw[Jr,mG xs fun x hx=>ih m x (h x hx) ⋯];simp
def BX(p:Pl k d)(h:k<=8):bz .ne d d=some false:=by
 show(eqD 8 d d).map not=some false;rw[BM k 8 d p h];rfl
def Ig(p:Pl k d)(h:k<=8):bz .eq d d=some true:=BM k 8 d p h
def Iz(hl:ns.length<=63):mL (.scr (LI ns)) (.int 63)=some (.lst (LI ns)):=by
 show some (D.lst ((LI ns).take (cutAt (LI ns).length 63)))=_;rw[QB]
 have:(LI ns).length=ns.length:=by simp[LI]
 rw[this];unfold cutAt;rw[if_pos ∅];have:(63:Int).toNat=63:=rfl;lia
section
end
section
variable{nu pc pa nb un if' cf po rp ir mv:Nat}
end
end RM
set_option maxHeartbeats 1000000
namespace RT
open RL
end RT
namespace RM
open RL RT
section
end
structure Two(m:Nat)(a b:Nat->Nat):Prop where
 al:∀ x,x<m->a x<m
 bl:∀ x,x<m->b x<m
 ai:∀ x,x<m->a (a x)=x
 bi:∀ x,x<m->b (b x)=x
def Two.swap(T:Two m a b):Two m b a:=#[T.bl,T.al,T.bi,T.ai]
abbrev wk(a b:Nat->Nat)(x:Nat):Nat->Nat
 | 0=>x
 | k+1=>if k%2=0 then b (wk a b x k)else a (wk a b x k)
abbrev Stp(a b:Nat->Nat)(x k:Nat):Prop:=wk a b x (k+1)=wk a b x k\/wk a b x (k+1)=x
noncomputable instance{a b:Nat->Nat}{x k:Nat}:Decidable (Stp a b x k):=inferInstanceAs (Decidable (_\/_))
section
def dQ(h:k%2=0):wk a b x (k+1)=b (wk a b x k):=by rw[wk,if_pos h]
def gu(h:k%2=1):wk a b x (k+1)=a (wk a b x k):=by rw[wk,if_neg ⋯]
def gr(T:Two m a b)(hx:x<m):∀ k,wk a b x k<m
 | 0=>hx
 | k+1=>by
  rw[wk];split
  ·exact T.bl _ (gr T hx k)
  ·exact T.al _ (gr T hx k)
def j7(T:Two m a b)(hx:x<m)(k:Nat):(if k%2=0 then b (wk a b x (k+1))else a (wk a b x (k+1)))=wk a b x k:=by
 have h:=gr T hx k;rw[wk];split
 ·exact T.bi _ h
 ·exact T.ai _ h
def Gd(T:Two m a b)(hx:x<m)(hp:i%2=j%2)(h:wk a b x (i+1)=wk a b x (j+1)):wk a b x i=wk a b x j:=by
 rw[<-j7 T hx i,<-j7 T hx j,h,hp]
def vE(T:Two m a b)(hx:x<m)(hs:∀ j,j<k->¬ Stp a b x j)(hd:d%2=1):∀ i,i+(d+1)<=k->wk a b x i≠wk a b x (i+(d+1))
 | 0,hk,h=>hs d ⋯ (.inr (by rw[Nat.zero_add]at h;exact h.symm))
 | i+1,hk,h=>vE T hx hs hd i ⋯ (Gd T hx (i:=i) (j:=i+(d+1)) ⋯ (by rw[h];congr 1;lia))
def zr(T:Two m a b)(hx:x<m)(hs:∀ j,j<k->¬ Stp a b x j):∀ (c i:Nat),i+(2*c+1)<=k->wk a b x i≠wk a b x (i+(2*c+1))
 | 0,i,hk,h=>hs i ⋯ (.inl h.symm)
 | c+1,i,hk,h=>by
  refine zr T hx hs c (i+1) ⋯ ?_;have h1:=j7 T hx (i+(2*c+2));rw[show i+(2*c+2)+1=i+(2*(c+1)+1) by lia,<-h]at h1
  have h2:wk a b x (i+1)=if(i+(2*c+2))%2=0 then b (wk a b x i)else a (wk a b x i):=by
   rw[wk]
   have:(i+(2*c+2))%2=i%2:=by lia
   rw[this]
  rw[h2,h1];congr 1;lia
def l9(T:Two m a b)(hx:x<m)(hs:∀ j,j<k->¬ Stp a b x j)(hij:i<j)(hj:j<=k):wk a b x i≠wk a b x j:=by
 obtain⟨d,rfl⟩:∃ d,j=i+(d+1):=#[j-i-1,by lia]
 by_cases c:d%2=1
 ·exact vE T hx hs c i hj
 ·obtain⟨e,rfl⟩:∃ e,d=2*e:=#[d / 2,by lia]
  exact zr T hx hs e i hj
def least{P:Nat->Prop} [DecidablePred P]:∀ n,P n->∃ k,k<=n/\P k/\∀ j,j<k->¬ P j:=by
 intro n
 induction n using Nat.strongRecOn with
 |_ n ih=>
  intro h;by_cases c:∃ j,j<n/\P j
  ·obtain⟨j,hj,hp⟩:=c;obtain⟨k,h1,h2,h3⟩:=ih j hj hp;exact#[k,by lia,h2,h3]
  ·exact#[n,Qc _,h,fun j hj hp=>c #[j,hj,hp]]
def fW(T:Two m a b)(hx:x<m):∃ k,k<m/\Stp a b x k/\∀ j,j<k->¬ Stp a b x j:=by
 by_cases c:∃ k,k<m/\Stp a b x k
 ·obtain⟨k,h1,h2⟩:=c;obtain⟨j,h3,h4,h5⟩:=least k h2;exact#[j,by lia,h4,h5]
 ·exfalso;have hs:∀ j,j<m->¬ Stp a b x j:=fun j hj h=>c ⟨j,hj,h⟩
  have nd:((List.range (m+1)).map (wk a b x)).Nodup:=by
   rw[Qv,Qy];refine List.Pairwise.imp_of_mem ?_ (List.pairwise_lt_range (n:=m+1));intro i j hi hj hlt;exact l9 T hx hs hlt (by have:=List.mem_range.mp hj;lia)
  have:=d9 nd (b:=List.range m) fun y hy=>by
   obtain⟨i,_,rfl⟩:=List.mem_map.mp hy;exact List.mem_range.mpr (gr T hx i)
  simp at this;lia
inductive Cn (a b:Nat->Nat) (x:Nat):Nat->Prop
 | refl:Cn a b x x
 | sa {y:Nat}:Cn a b x y->Cn a b x (a y)
 | sb {y:Nat}:Cn a b x y->Cn a b x (b y)
def Cn.lt(T:Two m a b)(hx:x<m)(h:Cn a b x y):y<m:=by
 induction h with
 | refl=>exact hx
 | sa _ ih=>exact T.al _ ih
 | sb _ ih=>exact T.bl _ ih
def Cn.trans(h:Cn a b x y)(h':Cn a b y z):Cn a b x z:=by
 induction h' with
 | refl=>exact h
 | sa _ ih=>exact .sa ih
 | sb _ ih=>exact .sb ih
def Cn.symm(T:Two m a b)(hx:x<m)(h:Cn a b x y):Cn a b y x:=by
 induction h with
 | refl=>exact .refl
 |@sa y h ih=>
  have:=Cn.sa (a:=a) (b:=b) (Cn.refl (x:=a y));rw[T.ai _ (h.lt T hx)]at this;exact this.trans ih
 |@sb y h ih=>
  have:=Cn.sb (a:=a) (b:=b) (Cn.refl (x:=b y));rw[T.bi _ (h.lt T hx)]at this;exact this.trans ih
def Cn.flip(h:Cn a b x y):Cn b a x y:=by
 induction h with
 | refl=>exact .refl
 | sa _ ih=>exact .sb ih
 | sb _ ih=>exact .sa ih
def jI:∀ k,Cn a b x (wk a b x k)
 | 0=>.refl
 | k+1=>by
  rw[wk];split
  ·exact .sb (jI k)
  ·exact .sa (jI k)
def l3(T:Two m a b)(hx:x<m)(st:Stp a b x k)(hs:∀ j,j<k->¬ Stp a b x j)(h:a x=x\/∀ y,Cn a b x y->a y≠y/\b y≠y)(hy:Cn a b x y):∃ i,i<=k/\wk a b x i=y:=by
 have bx:∃ i,i<=k/\wk a b x i=b x:=by
  by_cases c:k=0
  ·subst c;refine#[0,Qc _,?_];rcases st with st | st
   ·rw[dQ rfl]at st;exact st.symm
   ·rw[dQ rfl]at st;exact st.symm
  ·exact#[1,by lia,dQ rfl]
 have key:∀ j,0<j->j<=k->(∃ i,i<=k/\wk a b x i=a (wk a b x j))/\∃ i,i<=k/\wk a b x i=b (wk a b x j):=by
  intro j h0 hj;have prev:=j7 T hx (j-1);rw[show j-1+1=j by omega]at prev
  have next:∃ i,i<=k/\wk a b x i=wk a b x (j+1):=by
   by_cases c:j<k
   ·exact#[j+1,by lia,rfl]
   ·have:j=k:=by lia
    subst this;rcases st with st | st
    ·exact#[j,Qc _,st.symm]
    ·exact#[0,by lia,st.symm]
  by_cases c:j%2=0
  ·rw[if_neg ⋯]at prev
   rw[dQ c]at next
   exact#[#[j-1,by lia,prev.symm],next]
  ·rw[if_pos ⋯]at prev
   rw[gu ⋯]at next
   exact#[next,#[j-1,by omega,prev.symm]]
 have ax:∃ i,i<=k/\wk a b x i=a x:=by
  rcases h with h | h
  ·exact#[0,by lia,h.symm]
  ·rcases st with st | st
   ·exfalso;have hc:=h _ (jI k);by_cases c:k%2=0
    ·rw[dQ c]at st;exact hc.2 st
    ·rw[gu ⋯]at st;exact hc.1 st
   ·by_cases c:k%2=0
    ·exfalso;rw[dQ c]at st
     have e:wk a b x k=b x:=by
      have:=congrArg b st;rw[T.bi _ (gr T hx k)]at this;exact this
     by_cases k0:k=0
     ·subst k0;exact(h x .refl).2 e.symm
     ·have:wk a b x 1=b x:=dQ rfl;exact l9 T hx hs (i:=1) (j:=k) ⋯ (Qc _) (by rw[this,e])
    ·rw[gu ⋯]at st
     exact⟨k,Qc _,by
      have:=congrArg a st;rw[T.ai _ (gr T hx k)]at this
      exact this⟩
 induction hy with
 | refl=>exact#[0,by lia,rfl]
 |sa _ ih=>
  obtain⟨i,hi,rfl⟩:=ih;by_cases c:i=0
  ·subst c;exact ax
  ·exact(key i ⋯ hi).1
 |sb _ ih=>
  obtain⟨i,hi,rfl⟩:=ih;by_cases c:i=0
  ·subst c;exact bx
  ·exact(key i ⋯ hi).2
def l7(T:Two m a b)(hx:x<m)(st:Stp a b x k)(hs:∀ j,j<k->¬ Stp a b x j)(hb:∀ y,y<m->b y≠y)(ha:a x=x):k%2=1/\a (wk a b x k)=wk a b x k:=by
 have lk:=gr T hx k;by_cases c:k%2=0
 ·exfalso;rcases st with st | st
  ·rw[dQ c]at st;exact hb _ lk st
  ·rw[dQ c]at st
   have e:wk a b x k=b x:=by
    have:=congrArg b st;rw[T.bi _ lk]at this;exact this
   by_cases k0:k=0
   ·subst k0;exact hb x hx e.symm
   ·have:wk a b x 1=b x:=dQ rfl;exact l9 T hx hs (i:=1) (j:=k) ⋯ (Qc _) (by rw[this,e])
 ·refine#[by lia,?_];rcases st with st | st
  ·rw[gu ⋯]at st;exact st
  ·exfalso;rw[gu ⋯]at st
   have e:wk a b x k=x:=by rw[<-T.ai _ lk,st,ha]
   exact l9 T hx hs (i:=0) (j:=k) ⋯ (Qc _) e.symm
end
structure bI(m:Nat)(a b:Nat->Nat)(S:List Nat):Prop where
 lt:∀ s∈S,s<m
 nd:S.Pairwise fun s t=>¬ Cn a b s t
 ring:∀ s∈S,∀ y,Cn a b s y->a y≠y/\b y≠y
 all:∀ x,x<m->(∃ s,s<m/\(a s=s\/b s=s)/\Cn a b s x)\/∃ s∈S,Cn a b s x
def bI.le{m:Nat}{a b:Nat->Nat}(T:Two m a b){S S':List Nat}(R:bI m a b S)(R':bI m a b S'):S.length<=S'.length:=by
 have pick:∀ s∈S,∃ t∈S',Cn a b t s:=fun s hs=>by
  rcases R'.all s (R.lt s hs)with⟨q,h1,h2,h3⟩ | h
  ·exfalso;have:=R.ring s hs q (h3.symm T h1);rcases h2 with h2 | h2
   ·exact this.1 h2
   ·exact this.2 h2
  ·exact h
 have:∀ s,∃ t,s∈S->t∈S'/\Cn a b t s:=fun s=>by
  by_cases hs:s∈S
  ·obtain⟨t,h1,h2⟩:=pick s hs;exact#[t,fun _=>#[h1,h2]]
  ·exact#[0,fun z=>absurd z hs]
 obtain⟨g,hg⟩:=Classical.axiomOfChoice this
 have nd:(S.map g).Nodup:=by
  rw[Qv,Qy];refine List.Pairwise.imp_of_mem ?_ R.nd;intro s t hs ht hn e;obtain⟨h1,h2⟩:=hg s hs;obtain⟨h3,h4⟩:=hg t ht;rw[<-e]at h4;exact hn ((h2.symm T (R'.lt _ h1)).trans h4)
 have:=d9 nd (b:=S') fun y hy=>by
  obtain⟨s,hs,rfl⟩:=List.mem_map.mp hy;exact(hg s hs).1
 simpa using this
def bI.one{m:Nat}{a b:Nat->Nat}(T:Two m a b){S S':List Nat}(R:bI m a b S)(R':bI m a b S'):S.length=S'.length:=Nat.le_antisymm (R.le T R') (R'.le T R)
def Cd{t:St->Option Bool}{f:St->Option (Out × St)}{Y:Nat->St}(h1:∀ i,i<k->t (Y i)=some true/\f (Y i)=some (.nx,Y (i+1)))(h2:t (Y k)=some false):∀ (d i fuel:Nat),i+d=k->d<fuel->whF t f fuel (Y i)=some (.nx,Y k)
 | 0,i,0,_,h=>by lia
 | 0,i,fuel+1,hi,_=>by
  have:i=k:=by lia
  subst this;rw[whF,h2];rfl
 | d+1,i,0,_,h=>by lia
 | d+1,i,fuel+1,hi,hf=>by
  obtain⟨e1,e2⟩:=h1 i ⋯;rw[whF,e1,Option.bind_some,if_pos rfl,e2,Option.bind_some];exact Cd h1 h2 d (i+1) fuel ⋯ ⋯
section
abbrev BE(A B:D):Nat->Option D
 | 0=>none
 | t+1=>some (if t%2=0 then A else B)
abbrev wks(a b:Nat->Nat)(x k:Nat):List Nat:=(List.range (k+1)).map (wk a b x)
def Ac(k:Nat):wks a b x (k+1)=wks a b x k++[wk a b x (k+1)]:=by
 unfold wks;rw[List.range_succ,QL];rfl
def ur(k:Nat):ixV (.lst (L (wks a b x k))) (.int (-1))=some (.int (wk a b x k:Nat)):=by
 show cI (L (wks a b x k)) (-1)=_;unfold cI
 have hl:(L (wks a b x k)).length=k+1:=by simp[L,wks]
 rw[if_neg ∅,if_pos (by rw[hl];lia),hl,show((-1:Int)+((k+1:Nat):Int)).toNat=k by lia,qY];simp[wks]
def GP:ev cl Y (.neg (.cst (.int 1)))=some (.int (-1)):=wO ao
def vw(T:Two m a b)(hm:m<=1000)(hA:∀ x:Nat,x<m->ixV A (.int (x:Nat))=some (.int (a x:Nat)))(hB:∀ x:Nat,x<m->ixV B (.int (x:Nat))=some (.int (b x:Nat)))(hx:x<m) :
  ∃ k,k<m/\Stp a b x k/\(∀ j,j<k->¬ Stp a b x j)/\evF cl lP [A,B,.int (x:Nat)]=some (.lst (L (wks a b x k))):=by
 obtain⟨k,hk,st,hs⟩:=fW T hx;refine#[k,hk,st,hs,?_]
 have cond:∀ (i:Nat) (o:Option D),(ev cl [some A,some B,some (.int (x:Nat)),some (.lst (L (wks a b x i))),some (.int (wk a b x (i+1):Nat)),o] (.inn true (.var 4) (.tup (.cons (.ix (.var 3) (.neg (.cst (.int 1)))) (.cons (.var 2) .nil))))).bind truth=some (!decide (Stp a b x i)):=fun i o=>by
  have hv:inV (.int (wk a b x (i+1):Nat)) (.tup [.int (wk a b x i:Nat),.int (x:Nat)])=some (decide (Stp a b x i)):=by
   show(if(flat (.int (wk a b x (i+1):Nat))&&[D.int (wk a b x i:Nat),.int (x:Nat)].all flat)=true then some ([D.int (wk a b x i:Nat),.int (x:Nat)].any fun y=>eqF y (.int (wk a b x (i+1):Nat)))else none)=_;rw[if_pos (by simp[flat])];congr 1;simp only[List.any_cons,List.any_nil,eqF,Bool.or_false];unfold Stp;rw[QJ];simp only[Bool.or_eq_true,beq_iff_eq,decide_eq_true_eq,Int.ofNat_inj];exact#[fun h=>decide_eq_true (h.imp Eq.symm Eq.symm),fun h=>(of_decide_eq_true h).imp Eq.symm Eq.symm]
  exact aW (Iq (n:=true) (aa rfl) (lr (aC (cw (aa rfl) GP (ur i)) (aC (aa rfl) bA))) hv)
 have wh:=Cd (t:=fun Y=>(ev cl Y (.inn true (.var 4) (.tup (.cons (.ix (.var 3) (.neg (.cst (.int 1)))) (.cons (.var 2) .nil))))).bind truth) (f:=ag cl [3] zD) (Y:=fun i=>[some A,some B,some (.int (x:Nat)),some (.lst (L (wks a b x i))),some (.int (wk a b x (i+1):Nat)),BE A B i]) (k:=k) (fun i hi=>by
  refine#[by rw[cond];simp[hs i hi],?_]
  have hl:(L (wks a b x i)).length<most:=by simp[L,wks,most];lia
  have ha:L (wks a b x i)++[D.int (wk a b x (i+1):Nat)]=L (wks a b x (i+1)):=by rw[Ac,dz];rfl
  have ln:biV .len (.lst (L (wks a b x (i+1))))=some (.int ((i+2:Nat):Int)):=by
   show some (D.int ((L (wks a b x (i+1))).length:Nat))=_;simp[L,wks];lia
  have md:aE .mod (.int ((i+2:Nat):Int)) (.int 2)=some (.int (((i+2)%2:Nat):Int)):=by rw[f9 ∅];simp
  have lt:=gr T hx (i+1);refine uw (aa rfl) rfl rfl hl ?_;rw[ha];by_cases c:i%2=0
  ·have h0:bz .eq (.int (((i+2)%2:Nat):Int)) (.int 0)=some true:=by
    rw[show(i+2)%2=0 by lia];rfl
   refine aF (d:=A) (r8 (k:=true) (aW (aJ (aA (bJ (aa rfl) ln) ao md) ao h0)) (aa rfl)) (by simp[aV,Gs,wa]) (aF (cw (aa rfl) (aa rfl) (hA _ lt)) rfl ?_);rw[aI];show some (Out.nx,[some A,some B,some (D.int (x:Nat)),some (.lst (L (wks a b x (i+1)))),some (.int (a (wk a b x (i+1)):Nat)),some A])=_;rw[<-gu (a:=a) (b:=b) (x:=x) (k:=i+1) ⋯];simp[BE,c]
  ·have h0:bz .eq (.int (((i+2)%2:Nat):Int)) (.int 0)=some false:=by
    rw[show(i+2)%2=1 by lia];rfl
   refine aF (d:=B) (r8 (k:=false) (aW (aJ (aA (bJ (aa rfl) ln) ao md) ao h0)) (aa rfl)) (by simp[aV,Gs,wa]) (aF (cw (aa rfl) (aa rfl) (hB _ lt)) rfl ?_);rw[aI];show some (Out.nx,[some A,some B,some (D.int (x:Nat)),some (.lst (L (wks a b x (i+1)))),some (.int (b (wk a b x (i+1)):Nat)),some B])=_;rw[<-dQ (a:=a) (b:=b) (x:=x) (k:=i+1) ⋯]
   simp[BE,c]) (by rw[cond];simp[st]) k 0 most ⋯ (by unfold most;lia)
 have w1:wk a b x (0+1)=b x:=dQ rfl;rw[w1]at wh;exact bg rfl rfl (iz (d:=.lst (L (wks a b x 0))) (dU (aC (aa rfl) bA)) rfl (aF (cw (aa rfl) (aa rfl) (hB x hx)) rfl (Ge wh (aZ (aa rfl) (by simp[bB,aK,bD,lP])))))
end
def E7(hl:ds.length=fn.ps)(hm:fn.mp=[0])(h:ag cl fn.M fn.body (ds.map some++List.replicate (fn.nn-fn.ps) none)=some (.nx,QQ))(ho:(QQ[0]?).bind id=some o):evF cl fn ds=some (.tup [.non,o]):=by
 unfold evF;rw[if_pos hl,h];show bf fn .non QQ=_;unfold bf;rw[hm];show(if D.non.imm=true then Option.map _ (gG QQ [0])else none)=_;rw[if_pos (show D.non.imm=true from rfl),gG,ho];rfl
abbrev BL(s:List Bool):List D:=s.map D.bl
def zt:∀ s:List Bool,au (BL s)=true
 | []=>rfl
 | x::r=>by
  show((D.bl x).imm&&au (BL r))=true;rw[zt r];rfl
abbrev Sn(m:Nat)(s:List Bool)(P:Nat->Prop):Prop:=s.length=m/\∀ y,y<m->(s[y]?=some true↔P y)
def Sn.set(h:Sn m s P)(hp:p<m):Sn m (s.set p true) (fun y=>P y\/y=p):=by
 obtain⟨h1,h2⟩:=h;refine#[by simp[h1],fun y hy=>?_];rw[List.getElem?_set];by_cases c:p=y
 ·subst c;rw[if_pos rfl,if_pos ⋯];exact#[fun _=>.inr rfl,fun _=>rfl]
 ·rw[if_neg c,h2 y hy];exact#[.inl,fun z=>z.resolve_right fun e=>c e.symm]
def Sn.congr(h:Sn m s P)(e:∀ y,y<m->(P y↔Q y)):Sn m s Q:=#[h.1,fun y hy=>(h.2 y hy).trans (e y hy)]
section
variable{cl:Cl}
def AX(h:Sn m s P)(hp:∀ p∈ps,p<m):∃ s',Sn m s' (fun y=>P y\/y∈ps)/\evF cl kL [.lst (BL s),.lst (L ps)]=some (.tup [.non,.lst (BL s')]):=by
 obtain⟨QQ,e,s',o,rfl,hs⟩:=dH (f:=ag cl [0,0] vx) (tg:=[2]) (xs:=ps) (Y:=[some (.lst (BL s)),some (.lst (L ps)),none]) (fun u Y=>∃ (s':List Bool) (o:Option D),Y=[some (.lst (BL s')),some (.lst (L ps)),o]/\Sn m s' fun y=>P y\/y∈u) ⟨s,none,rfl,h.congr fun y _=>by simp⟩ (by
  rintro u p v Y hu ⟨s',o,rfl,hs⟩;have hpm:=hp p (by rw[hu];simp)
  have hl:(BL s').length=m:=by simp[BL,hs.1]
  have hput:fw (.lst (BL s')) (.int (p:Nat)) (.bl true)=some (.lst (BL (s'.set p true))):=by
   show Option.map (fun j=>D.lst ((BL s').set j (.bl true))) (mE (BL s').length (p:Int))=_;rw[hl,sS hpm];simp[BL,List.map_set]
  refine#[_,kz (cl:=cl) (M:=[0,0]) (r:=.nil) ao (aa rfl) rfl rfl hput aI,s'.set p true,_,rfl,(hs.set hpm).congr fun y _=>by simp[or_assoc]])
 exact#[s',hs,E7 rfl rfl (c6 (cG (aa rfl) rfl) e aI) rfl]
def DM(h:Sn m s P)(hp:p<m):∃ v:Bool,ixV (.lst (BL s)) (.int (p:Nat))=some (.bl v)/\(v=true↔P p):=by
 have hl:p<s.length:=by rw[h.1];exact hp
 refine#[s[p],?_,?_]
 ·show cI (BL s) (p:Int)=_;rw[fR];simp[BL,hl]
 ·rw[<-h.2 p hp,List.getElem?_eq_getElem hl];simp
abbrev Pth(m:Nat)(a b:Nat->Nat)(y:Nat):Prop:=∃ s,s<m/\(a s=s\/b s=s)/\Cn a b s y
def oQ:y∈wks a b x k↔∃ i,i<=k/\wk a b x i=y:=by
 unfold wks;rw[List.mem_map];constructor
 ·rintro⟨i,hi,e⟩;exact⟨i,by have:=List.mem_range.mp hi;lia,e⟩
 ·rintro⟨i,hi,e⟩;exact#[i,List.mem_range.mpr ⋯,e]
def pU(T:Two m a b)(hr:∀ x:Nat,x<m->∃ k,k<m/\Stp a b x k/\(∀ j,j<k->¬ Stp a b x j)/\cl fr [A,B,.int (x:Nat)]=some (.lst (L (wks a b x k))))(hx:x<m)(h:a x=x\/∀ y,Cn a b x y->a y≠y/\b y≠y) :
  ∃ ps:List Nat,(∀ p∈ps,p<m)/\(∀ y,y∈ps↔Cn a b x y)/\cl fr [A,B,.int (x:Nat)]=some (.lst (L ps)):=by
 obtain⟨k,_,st,hs,e⟩:=hr x hx;refine#[_,fun p hp=>?_,fun y=>?_,e]
 ·obtain⟨i,_,rfl⟩:=oQ.mp hp;exact gr T hx i
 ·rw[oQ];exact#[fun#[i,_,e]=>e▸jI i,fun hy=>l3 T hx st hs h hy]
def sJ(T:Two m a b)(hm:m<=1000)(lA:biV .len A=some (.int (m:Nat)))
 (hA:∀ x:Nat,x<m->ixV A (.int (x:Nat))=some (.int (a x:Nat)))(hB:∀ x:Nat,x<m->ixV B (.int (x:Nat))=some (.int (b x:Nat)))
 (hr:∀ x:Nat,x<m->∃ k,k<m/\Stp a b x k/\(∀ j,j<k->¬ Stp a b x j)/\cl fr [A,B,.int (x:Nat)]=some (.lst (L (wks a b x k))))
 (hr':∀ x:Nat,x<m->∃ k,k<m/\Stp b a x k/\(∀ j,j<k->¬ Stp b a x j)/\cl fr [B,A,.int (x:Nat)]=some (.lst (L (wks b a x k))))
 (hk:∀ (s:List Bool) (P:Nat->Prop) (ps:List Nat),Sn m s P->(∀ p∈ps,p<m)->∃ s',Sn m s' (fun y=>P y\/y∈ps)/\cl fm [.lst (BL s),.lst (L ps)]=some (.tup [.non,.lst (BL s')])) :
  ∃ S:List Nat,bI m a b S/\evF cl (fz fm fr) [A,B]=some (.int (S.length:Nat)):=by
 have e1:=cD (n:=m) hm
 obtain⟨QR,l1,s1,o1,rfl,hs1⟩:=dH (f:=ag cl [2] (iW fm fr)) (tg:=[3]) (xs:=List.range m) (Y:=[some A,some B,some (.lst (BL (List.replicate m false))),none,none]) (fun u Y=>∃ (s:List Bool) (o:Option D),Y=[some A,some B,some (.lst (BL s)),o,none]/\Sn m s fun y=>∃ x,x∈u/\(a x=x\/b x=x)/\Cn a b x y)
  ⟨_,none,rfl,by simp,fun y hy=>by
   simp[List.getElem?_replicate,hy]⟩ (by
  rintro u x v Y hu ⟨s,o,rfl,hs⟩
  have hx:x<m:=by
   have:x∈List.range m:=by rw[hu];simp
   simpa using this
  show ∃ QS,ag cl [2] (iW fm fr) [some A,some B,some (.lst (BL s)),some (.int (x:Nat)),none]=some (.nx,QS)/\_
  obtain⟨s2,hs2,k2⟩:∃ s2,Sn m s2 (fun y=>(∃ x,x∈u/\(a x=x\/b x=x)/\Cn a b x y)\/(a x=x/\Cn a b x y))/\∀ (r:Ss) (res:Option (Out × St)),ag cl [2] r [some A,some B,some (.lst (BL s2)),some (.int (x:Nat)),none]=res->ag cl [2] (.cons (.ife (.cmp .eq (.ix (.var 0) (.var 3)) (.var 3)) (.cons (.mexc fm (.cons (.var 2) (.cons (.call fr (.cons (.var 0) (.cons (.var 1) (.cons (.var 3) .nil)))) .nil)) [0] [2]) .nil) .nil) r) [some A,some B,some (.lst (BL s)),some (.int (x:Nat)),none]=res:=by
   by_cases c:a x=x
   ·obtain⟨ps,p1,p2,p3⟩:=pU T hr hx (.inl c);obtain⟨s',hs',e⟩:=hk s _ ps hs p1;refine#[s',hs'.congr fun y _=>by rw[p2];simp[c],fun r res k=>fB (aW (aJ (cw (aa rfl) (aa rfl) (hA x hx)) (aa rfl) (by rw[dO,c];simp))) (qa (aC (aa rfl) (aC (my (aa rfl) (aa rfl) (aa rfl) p3) bA)) (by simp[eL,isVar,aV,D.imm,aK,bD]) e rfl aI) k]
   ·refine#[s,hs.congr fun y _=>by simp[c],fun r res k=>bR (aW (aJ (cw (aa rfl) (aa rfl) (hA x hx)) (aa rfl) (by rw[dO];congr 1;simp;lia))) k]
  obtain⟨s3,hs3,k3⟩:∃ s3,Sn m s3 (fun y=>((∃ x,x∈u/\(a x=x\/b x=x)/\Cn a b x y)\/(a x=x/\Cn a b x y))\/(b x=x/\Cn a b x y))/\ag cl [2] (.cons (.ife (.cmp .eq (.ix (.var 1) (.var 3)) (.var 3)) (.cons (.mexc fm (.cons (.var 2) (.cons (.call fr (.cons (.var 1) (.cons (.var 0) (.cons (.var 3) .nil)))) .nil)) [0] [2]) .nil) .nil) .nil) [some A,some B,some (.lst (BL s2)),some (.int (x:Nat)),none]=some (.nx,[some A,some B,some (.lst (BL s3)),some (.int (x:Nat)),none]):=by
   by_cases c:b x=x
   ·obtain⟨ps,p1,p2,p3⟩:=pU T.swap hr' hx (.inl c);obtain⟨s',hs',e⟩:=hk s2 _ ps hs2 p1;refine#[s',hs'.congr fun y _=>?_,fB (aW (aJ (cw (aa rfl) (aa rfl) (hB x hx)) (aa rfl) (by rw[dO,c];simp))) (qa (aC (aa rfl) (aC (my (aa rfl) (aa rfl) (aa rfl) p3) bA)) (by simp[eL,isVar,aV,D.imm,aK,bD]) e rfl aI) aI];rw[p2]
    have:Cn b a x y↔Cn a b x y:=#[Cn.flip,Cn.flip]
    simp[c,this]
   ·exact#[s2,hs2.congr fun y _=>by simp[c],bR (aW (aJ (cw (aa rfl) (aa rfl) (hB x hx)) (aa rfl) (by rw[dO];congr 1;simp;lia))) aI]
  refine#[_,k2 _ _ k3,s3,_,rfl,hs3.congr fun y _=>?_];constructor
  ·rintro((⟨z,h1,h2,h3⟩ | ⟨h1,h2⟩) | ⟨h1,h2⟩)
   ·exact#[z,by simp[h1],h2,h3]
   ·exact#[x,by simp,.inl h1,h2]
   ·exact#[x,by simp,.inr h1,h2]
  ·rintro⟨z,h1,h2,h3⟩;rcases List.mem_append.mp h1 with h1 | h1
   ·exact .inl (.inl #[z,h1,h2,h3])
   ·have:z=x:=by simpa using h1
    subst this;rcases h2 with h2 | h2
    ·exact .inl (.inr #[h2,h3])
    ·exact .inr #[h2,h3])
 have hs1':Sn m s1 (Pth m a b):=hs1.congr fun y _=>#[fun#[x,h1,h2,h3]=>#[x,by simpa using h1,h2,h3],fun#[x,h1,h2,h3]=>#[x,by simpa using h1,h2,h3]]
 obtain⟨QS,l2,s2,o2,S,rfl,hs2,c1,c2,c3,c4⟩:=dH (f:=ag cl [2] (iZ fm fr)) (tg:=[3]) (xs:=List.range m) (Y:=[some A,some B,some (.lst (BL s1)),o1,some (.int ((([]:List Nat).length:Nat):Int))]) (fun u Y=>∃ (s:List Bool) (o:Option D) (S:List Nat),Y=[some A,some B,some (.lst (BL s)),o,some (.int (S.length:Nat))]/\Sn m s (fun y=>Pth m a b y\/∃ t∈S,Cn a b t y)/\(∀ t∈S,t<m)/\(S.Pairwise fun t t'=>¬ Cn a b t t')/\(∀ t∈S,¬ Pth m a b t)/\∀ y∈u,Pth m a b y\/∃ t∈S,Cn a b t y)
  ⟨s1,o1,[],rfl,hs1'.congr fun y _=>by simp,by simp,.nil,by simp,by simp⟩ (by
  rintro u x v Y hu ⟨s,o,S,rfl,hs,c1,c2,c3,c4⟩
  have hx:x<m:=by
   have:x∈List.range m:=by rw[hu];simp
   simpa using this
  show ∃ QS,ag cl [2] (iZ fm fr) [some A,some B,some (.lst (BL s)),some (.int (x:Nat)),some (.int (S.length:Nat))]=some (.nx,QS)/\_;obtain⟨w,w1,w2⟩:=DM hs hx
  cases w with
  |true=>
   refine#[_,bR (aW (f7 (cw (aa rfl) (aa rfl) w1))) aI,s,_,S,rfl,hs,c1,c2,c3,fun y hy=>?_];rcases List.mem_append.mp hy with hy | hy
   ·exact c4 y hy
   ·have:y=x:=by simpa using hy
    subst this;exact w2.mp rfl
  |false=>
   have hn:¬ (Pth m a b x\/∃ t∈S,Cn a b t x):=fun z=>Bool.noConfusion (w2.mpr z);have np:¬ Pth m a b x:=fun z=>hn (.inl z)
   have ring:∀ y,Cn a b x y->a y≠y/\b y≠y:=fun y hy=>#[fun e=>np #[y,hy.lt T hx,.inl e,hy.symm T hx],fun e=>np #[y,hy.lt T hx,.inr e,hy.symm T hx]]
   obtain⟨ps,p1,p2,p3⟩:=pU T hr hx (.inr ring);obtain⟨s',hs',e⟩:=hk s _ ps hs p1;refine#[_,fB (aW (f7 (cw (aa rfl) (aa rfl) w1))) (zQ rfl ao cb (qa (aC (aa rfl) (aC (my (aa rfl) (aa rfl) (aa rfl) p3) bA)) (by simp[eL,isVar,aV,D.imm,aK,bD]) e rfl aI)) aI,s',_,S++[x],by simp;rfl,hs'.congr fun y _=>?_,fun t ht=>?_,?_,fun t ht=>?_,fun y hy=>?_]
   ·rw[p2];constructor
    ·rintro((h | ⟨t,h1,h2⟩) | h)
     ·exact .inl h
     ·exact .inr #[t,by simp[h1],h2]
     ·exact .inr #[x,by simp,h]
    ·rintro(h | ⟨t,h1,h2⟩)
     ·exact .inl (.inl h)
     ·rcases List.mem_append.mp h1 with h1 | h1
      ·exact .inl (.inr #[t,h1,h2])
      ·have:t=x:=by simpa using h1
       subst this;exact .inr h2
   ·rcases List.mem_append.mp ht with ht | ht
    ·exact c1 t ht
    ·have:t=x:=by simpa using ht
     subst this;exact hx
   ·rw[QE];refine#[c2,by simp,fun t ht t' ht' z=>?_]
    have:t'=x:=by simpa using ht'
    subst this;exact hn (.inr #[t,ht,z])
   ·rcases List.mem_append.mp ht with ht | ht
    ·exact c3 t ht
    ·have:t=x:=by simpa using ht
     subst this;exact np
   ·rcases List.mem_append.mp hy with hy | hy
    ·rcases c4 y hy with h | ⟨t,h1,h2⟩
     ·exact .inl h
     ·exact .inr #[t,by simp[h1],h2]
    ·have:y=x:=by simpa using hy
     subst this
     exact .inr #[y,by simp,.refl])
 refine#[S,#[c1,c2,fun t ht y hy=>#[fun e=>c3 t ht #[y,hy.lt T (c1 t ht),.inl e,hy.symm T (c1 t ht)],fun e=>c3 t ht #[y,hy.lt T (c1 t ht),.inr e,hy.symm T (c1 t ht)]],fun x hx=>c4 x (by simpa using hx)],?_]
 have e0:aE .mul (.lst [.bl false]) (.int (m:Nat))=some (.lst (BL (List.replicate m false))):=by
  rw[Em];rw[if_pos ⟨by lia,by unfold most;lia,by simp[most];lia⟩];simp[BL]
 exact bg rfl rfl (iz (aA (dU (aC ao bA)) (bJ (aa rfl) lA) e0) (by simp[aK,zt]) (c6 (ky (bJ (aa rfl) lA) e1) l1 (aF ao rfl (c6 (ky (bJ (aa rfl) lA) e1) l2 (aZ (aa rfl) rfl)))))
end
abbrev jn(n x:Nat):Nat:=if x<n then x else if x<2*n then x+n else if x<3*n then x-n else x
abbrev rb(n:Nat)(h l:List Nat)(x:Nat):Nat:=if x<2*n then at' h x else 2*n+at' l (x-2*n)
abbrev out(n p:Nat):Nat:=if p<n then p else p+2*n
section
def two(F:Frm n h)(G:Frm n l):Two (4*n) (jn n) (rb n h l):=by
 refine#[fun x hx=>?_,fun x hx=>?_,fun x hx=>?_,fun x hx=>?_]
 ·unfold jn;(repeat' split)<;>lia
 ·unfold rb;split
  ·have:=F.lt x ⋯;lia
  ·have:=G.lt (x-2*n) (by omega);lia
 ·unfold jn;(repeat' split)<;>lia
 ·unfold rb;by_cases c:x<2*n
  ·rw[if_pos c,if_pos (F.lt x c),F.inv]
  ·rw[if_neg c,if_neg ⋯,QI,G.inv];omega
def eN(F:Frm n h)(G:Frm n l)(hx:x<4*n):rb n h l x≠x:=by
 unfold rb;split
 ·rename_i c;exact F.no x c
 ·have:=G.no (x-2*n) (by omega);lia
def aU(hp:p<2*n):out n p<4*n:=by unfold out;split<;>lia
def dD(hp:p<2*n):jn n (out n p)=out n p:=by unfold out jn;(repeat' split)<;>lia
def pG(e:out n p=out n q)(hp:p<2*n)(hq:q<2*n):p=q:=by unfold out at e;(repeat' split at e)<;>lia
def xD(hx:x<4*n)(e:jn n x=x):∃ p,p<2*n/\x=out n p:=by
 by_cases c:x<n
 ·exact#[x,by lia,by unfold out;rw[if_pos c]]
 ·have:3*n<=x:=by
   unfold jn at e
   (repeat' split at e)<;>lia
  exact#[x-2*n,by lia,by unfold out;rw[if_neg ⋯];lia]
abbrev en2(n:Nat)(s:Bool × Nat):Nat:=if s.1 then s.2 else 2*n+s.2
def Hy(hs:s.2<2*n)(c:s.1=decide (n<=s.2)):en2 n (stp n h l s)=rb n h l (jn n (en2 n s)):=by
 obtain⟨b,q⟩:=s;unfold stp;rw[if_pos c];dsimp only at c hs ⊢;rw[c];clear c;by_cases c:n<=q
 ·have e:(q+n)%(2*n)=q-n:=by rw[Nat.mod_eq_sub_mod ⋯,QH (by omega)];lia
  have e2:jn n q=q+n:=by unfold jn;rw[if_neg ⋯,if_pos hs]
  simp only[c,decide_true,Bool.not_true,en2,pick,if_true,Bool.false_eq_true,if_false,e,e2,rb];rw[if_neg ⋯,show q+n-2*n=q-n by lia]
 ·have e:(q+n)%(2*n)=q+n:=QH ⋯
  have e2:jn n (2*n+q)=n+q:=by unfold jn;rw[if_neg ⋯,if_neg ⋯,if_pos ⋯];lia
  simp only[c,decide_false,Bool.not_false,en2,pick,if_true,Bool.false_eq_true,if_false,e,e2,rb];rw[if_pos ⋯,Nat.add_comm]
def xl(hs:s.2<2*n):s.1=decide (n<=s.2)↔jn n (en2 n s)≠en2 n s:=by
 obtain⟨b,q⟩:=s;dsimp only at hs;cases b
 ·simp only[en2,Bool.false_eq_true,if_false];by_cases c:n<=q
  ·simp only[c,decide_true,Bool.false_eq_true,false_iff,Classical.not_not];unfold jn;rw[if_neg ⋯,if_neg ⋯,if_neg ⋯]
  ·simp only[c,decide_false,true_iff];unfold jn;rw[if_neg ⋯,if_neg ⋯,if_pos ⋯];lia
 ·simp only[en2,if_true];by_cases c:n<=q
  ·simp only[c,decide_true,true_iff];unfold jn;rw[if_neg ⋯,if_pos hs];lia
  ·simp only[c,decide_false,Bool.true_eq_false,false_iff,Classical.not_not];unfold jn;rw[if_pos ⋯]
def CW(c:¬ s.1=decide (n<=s.2)):stp n h l s=s:=by
 unfold stp;rw[if_neg c]
def Ff(hp:p<2*n):en2 n (beg n h l p)=rb n h l (out n p):=by
 unfold beg en2 rb out pick;by_cases c:p<n
 ·simp only[c,decide_true,if_true];rw[if_pos ⋯]
 ·simp only[c,decide_false,Bool.false_eq_true,if_false];rw[if_neg ⋯,show p+2*n-2*n=p by lia]
def jV(F:Frm n h)(G:Frm n l)(hp:p<2*n)(st:Stp (jn n) (rb n h l) (out n p) k)(hs:∀ j,j<k->¬ Stp (jn n) (rb n h l) (out n p) j) :
  ∀ j,en2 n (itr n h l j (beg n h l p))=wk (jn n) (rb n h l) (out n p) (if 2*j+1<=k then 2*j+1 else k):=by
 have T:=two F G;obtain⟨k1,k2⟩:=l7 T (aU hp) st hs (fun y hy=>eN F G hy) (dD hp)
 have blt:(beg n h l p).2<2*n:=by
  unfold beg pick;dsimp only;split
  ·exact F.lt p hp
  ·exact G.lt p hp
 intro j
 induction j with
 |zero=>
  rw[if_pos ⋯];show en2 n (beg n h l p)=_;rw[Ff hp];exact(dQ (k:=0) rfl).symm
 |succ j ih=>
  have hl:=ig (fun x hx=>F.lt x hx) (fun x hx=>G.lt x hx) (h:=h) (l:=l) blt j;show en2 n (stp n h l (itr n h l j (beg n h l p)))=_;by_cases c:2*(j+1)+1<=k
  ·rw[if_pos ⋯]at ih;rw[if_pos c]
   have ne:jn n (en2 n (itr n h l j (beg n h l p)))≠en2 n (itr n h l j (beg n h l p)):=by
    rw[ih];intro e;exact hs (2*j+1) ⋯ (.inl (by rw[gu ⋯];exact e))
   rw[Hy hl ((xl hl).mpr ne),ih,<-gu (a:=jn n) (b:=rb n h l) (x:=out n p) (k:=2*j+1) ⋯,<-dQ (a:=jn n) (b:=rb n h l) (x:=out n p) (k:=2*j+1+1) ⋯];congr 1
  ·rw[if_neg c]
   have e:(if 2*j+1<=k then 2*j+1 else k)=k:=by split<;>lia
   rw[e]at ih;rw[CW (fun z=>(xl hl).mp z (by rw[ih];exact k2)),ih]
def dn:(aB n h l).length=2*n:=by simp[aB]
def zZ(hp:p<2*n):at' (aB n h l) p=(itr n h l (4*n) (beg n h l p)).2:=by simp[aB,at',hp]
def kH(F:Frm n h)(G:Frm n l)(hp:p<2*n)(hk:k<4*n)(st:Stp (jn n) (rb n h l) (out n p) k)(hs:∀ j,j<k->¬ Stp (jn n) (rb n h l) (out n p) j) :
  at' (aB n h l) p<2*n/\wk (jn n) (rb n h l) (out n p) k=out n (at' (aB n h l) p):=by
 have T:=two F G;obtain⟨k1,k2⟩:=l7 T (aU hp) st hs (fun y hy=>eN F G hy) (dD hp);have w:=jV F G hp st hs (4*n);rw[show(if 2*(4*n)+1<=k then 2*(4*n)+1 else k)=k by split<;>lia]at w;rw[zZ hp]
 have blt:(beg n h l p).2<2*n:=by
  unfold beg pick;dsimp only;split
  ·exact F.lt p hp
  ·exact G.lt p hp
 have hl:=ig (fun x hx=>F.lt x hx) (fun x hx=>G.lt x hx) (h:=h) (l:=l) blt (4*n);refine#[hl,?_];rw[<-w];have no:¬ (itr n h l (4*n) (beg n h l p)).1=decide (n<=(itr n h l (4*n) (beg n h l p)).2):=fun z=>(xl hl).mp z (by rw[w];exact k2);generalize itr n h l (4*n) (beg n h l p)=s at *;obtain⟨b,q⟩:=s;unfold en2 out;dsimp only at no hl ⊢;cases b
 ·rw[if_neg ∅];have:¬ q<n:=fun c=>no (by simp[show ¬ n<=q by lia]);rw[if_neg this];lia
 ·rw[if_pos rfl]
  have:q<n:=by
   apply Classical.byContradiction;intro c;exact no (by simp[show n<=q by lia])
  rw[if_pos this]
def found_iff(F:Frm n h)(G:Frm n l)(hp:p<2*n)(hq:q<2*n)(ne:p≠q):at' (aB n h l) p=q↔Cn (jn n) (rb n h l) (out n p) (out n q):=by
 have T:=two F G;obtain⟨k,hk,st,hs⟩:=fW T (aU hp);obtain⟨e1,e2⟩:=kH F G hp hk st hs;constructor
 ·intro e;rw[<-e,<-e2];exact jI k
 ·intro c;obtain⟨i,hi,e⟩:=l3 T (aU hp) st hs (.inl (dD hp)) c
  have fx:jn n (wk (jn n) (rb n h l) (out n p) i)=wk (jn n) (rb n h l) (out n p) i:=by rw[e];exact dD hq
  have ik:i=k:=by
   apply Classical.byContradiction;intro z
   have i0:i≠0:=fun z=>by
    subst z;exact ne (pG e hp hq)
   by_cases c:i%2=1
   ·exact hs i ⋯ (.inl (by rw[gu c];exact fx))
   ·have:=j7 T (aU hp) (i-1);rw[show i-1+1=i by lia,if_neg ⋯,fx]at this;exact hs (i-1) ⋯ (.inl (by rw[show i-1+1=i by lia];exact this))
  subst ik;rw[e2]at e;exact(pG e e1 hq)
def cR(F:Frm n h)(G:Frm n l):Frm n (aB n h l):=by
 have T:=two F G
 have lt:∀ p,p<2*n->at' (aB n h l) p<2*n/\at' (aB n h l) p≠p:=fun p hp=>by
  obtain⟨k,hk,st,hs⟩:=fW T (aU hp);obtain⟨e1,e2⟩:=kH F G hp hk st hs;obtain⟨k1,k2⟩:=l7 T (aU hp) st hs (fun y hy=>eN F G hy) (dD hp);refine#[e1,fun e=>?_];rw[e]at e2;exact l9 T (aU hp) hs (i:=0) (j:=k) ⋯ (Qc _) e2.symm
 refine#[dn,fun p hp=>(lt p hp).1,fun p=>?_,fun p hp=>(lt p hp).2];by_cases hp:p<2*n
 ·obtain⟨l1,l2⟩:=lt p hp;have c:=(found_iff F G hp l1 (Ne.symm l2)).mp rfl;exact(found_iff F G l1 hp l2).mpr (c.symm T (aU hp))
 ·rw[lh (f:=aB n h l) (x:=p) (by rw[dn];lia),lh (by rw[dn];lia)]
end
section
def oJ{β:Type}{Y:St}{e:E}{i:Nat}{u g:β->D}(im:∀ x,(g x).imm=true)(xs:List β)(h:∀ x∈xs,ev cl (Y.set i (some (u x))) e=some (g x)):bW (fun QR=>(ev cl QR e).map some) [i] Y (xs.map u)=some (xs.map g) :=
 nh im xs fun x hx=>by
  show Option.map some (ev cl (Y.set i (some (u x))) e)=_;rw[h x hx];rfl
def pI{Y:St}{e:E}{i:Nat}{g:Nat->D}(im:∀ x,(g x).imm=true)(xs:List Nat)(h:∀ x∈xs,ev cl (Y.set i (some (.int (x:Nat)))) e=some (g x)):bW (fun QR=>(ev cl QR e).map some) [i] Y (L xs)=some (xs.map g) :=
 oJ im xs h
abbrev jL(n:Nat):List Nat:=List.range n++List.range' (2*n) n++List.range' n n++List.range' (3*n) n
abbrev rbL(n:Nat)(h l:List Nat):List Nat:=h++l.map fun x=>2*n+x
def ym:(jL n).length=4*n:=by simp[jL];lia
def FA(hx:x<4*n):(jL n)[x]?=some (jn n x):=by
 unfold jL jn;by_cases c1:x<n
 ·rw[if_pos c1,QM,QM,Qm (by simpa using c1),List.getElem?_range c1]
 ·rw[if_neg c1];by_cases c2:x<2*n
  ·rw[if_pos c2,QM,QM,Qo (by simp;lia),List.length_range,Qm (by simp;omega),List.getElem?_range' (by omega)];congr 1;lia
  ·rw[if_neg c2];by_cases c3:x<3*n
   ·rw[if_pos c3,Qm (by simp;lia),Qo (by simp;lia)];simp only[List.length_append,List.length_range,List.length_range'];rw[List.getElem?_range' (by omega)];congr 1;lia
   ·rw[if_neg c3,Qo (by simp;lia)];simp only[List.length_append,List.length_range,List.length_range'];rw[List.getElem?_range' (by omega)];congr 1;lia
def Ih(hx:x<4*n):at' (jL n) x=jn n x:=by
 unfold at';rw[FA hx];rfl
def vv(F:Frm n h)(G:Frm n l):(rbL n h l).length=4*n:=by simp[rbL,F.len,G.len];lia
def EJ(F:Frm n h)(G:Frm n l)(hx:x<4*n):at' (rbL n h l) x=rb n h l x:=by
 unfold rb rbL;by_cases c:x<2*n
 ·rw[if_pos c];unfold at';rw[Qm (by rw[F.len];exact c)]
 ·rw[if_neg c];unfold at';rw[Qo (by rw[F.len];lia),F.len,List.getElem?_map]
  have:x-2*n<l.length:=by rw[G.len];omega
  simp[this]
def xQ(hx:x<f.length):ixV (.lst (L f)) (.int (x:Nat))=some (.int (at' f x:Nat)):=by
 show cI (L f) (x:Int)=_;rw[fR,qY,lO hx];rfl
def gP(hk:k<100)(n:Nat):aE .mul (.int (k:Nat)) (.int (n:Nat))=some (.int ((k*n:Nat):Int)):=by
 rw[bT ⋯ ⋯];simp
def xb(hn:n<=10):evF cl cF [.int (n:Nat)]=some (.lst (L (jL n))):=by
 have a1:=cD (n:=n) ⋯;have a2:=dm (a:=n) (b:=2*n) ⋯ ⋯;have a3:=dm (a:=2*n) (b:=3*n) ⋯ ⋯;have a4:=dm (a:=3*n) (b:=4*n) ⋯ ⋯;rw[show 2*n-n=n by lia]at a2;rw[show 3*n-2*n=n by lia]at a3;rw[show 4*n-3*n=n by lia]at a4
 have ad:∀ xs ys:List Nat,xs.length+ys.length<=1000->aE .add (.lst (L xs)) (.lst (L ys))=some (.lst (L (xs++ys))):=fun xs ys hl=>by
  show(if(L xs).length+(L ys).length<=most then some (D.lst (L xs++L ys))else none)=_;rw[if_pos (by rw[bH,bH];unfold most;lia),dz]
 have im:∀ (e:E) (xs:List Nat),aM e=true->aV [] e (.lst (L xs))=true:=fun e xs ht=>by simp[aV,D.imm,aK,bD,ht]
 refine bg rfl rfl (aF (vO (aa rfl) a1) (im _ _ rfl) (aF (lJ (aa rfl) (aA ao (aa rfl) (gP (k:=2) ∅ n)) a2) (im _ _ rfl) (aF (lJ (aA ao (aa rfl) (gP (k:=2) ∅ n)) (aA ao (aa rfl) (gP (k:=3) ∅ n)) a3) (im _ _ rfl) (aF (lJ (aA ao (aa rfl) (gP (k:=3) ∅ n)) (aA ao (aa rfl) (gP (k:=4) ∅ n)) a4) (im _ _ rfl) (aZ (d:=.lst (L (jL n))) (aA (aA (aA (aa rfl) (aa rfl) (ad _ _ ?_)) (aa rfl) (ad _ _ ?_)) (aa rfl) (ad _ _ ?_)) ?_)))))
 ·simp;lia
 ·simp;lia
 ·simp;lia
 ·simp[bB,aK,bD]
def qN{fg fr fj fo:Nat}{r:Nat}(h1:1<=n)(hn:n<=10)(F:Frm n h)(G:Frm n l)(ho:cl fo [.tup (L h)]=some (.int (n:Nat)))(hj:cl fj [.int (n:Nat)]=some (.lst (L (jL n))))
 (hr:∀ x:Nat,x<4*n->∃ k,k<4*n/\Stp (jn n) (rb n h l) x k/\(∀ j,j<k->¬ Stp (jn n) (rb n h l) x j)/\cl fr [.lst (L (jL n)),.lst (L (rbL n h l)),.int (x:Nat)]=some (.lst (L (wks (jn n) (rb n h l) x k))))
 (hg:cl fg [.lst (L (jL n)),.lst (L (rbL n h l))]=some (.int (r:Nat))):evF cl (eM fg fr fj fo) [.tup (L h),.tup (L l)]=some (.tup [.tup (L (aB n h l)),.int (r:Nat)]):=by
 have lm:∀ xs:List Nat,xs.length<=1000->(L xs).length<=most:=fun xs hl=>by rw[bH];unfold most;lia
 have ad:∀ xs ys:List Nat,xs.length+ys.length<=1000->aE .add (.lst (L xs)) (.lst (L ys))=some (.lst (L (xs++ys))):=fun xs ys hl=>by
  show(if(L xs).length+(L ys).length<=most then some (D.lst (L xs++L ys))else none)=_;rw[if_pos (by rw[bH,bH];unfold most;lia),dz]
 have im:∀ (e:E) (xs:List Nat),aM e=true->aV [] e (.lst (L xs))=true:=fun e xs ht=>by simp[aV,D.imm,aK,bD,ht]
 have a1:=cD (n:=n) ⋯;have a4:=dm (a:=3*n) (b:=4*n) ⋯ ⋯;rw[show 4*n-3*n=n by lia]at a4
 have oL:List.range n++List.range' (3*n) n=(List.range (2*n)).map (out n):=by
  rw[show 2*n=n+n by lia,List.range_add,QL];congr 1
  ·rw[<-List.map_id (List.range n),List.map_map];refine QK fun p hp=>?_;unfold out;rw[Function.comp,id,if_pos (List.mem_range.mp hp)]
  ·rw[List.range'_eq_map_range,List.map_map];refine QK fun p hp=>?_;unfold out;simp only[Function.comp];rw[if_neg ⋯];lia
 have l4:(rbL n h l).length<=1000:=by rw[vv F G];lia
 have c1:bW (fun QR=>(ev cl QR (.bin .add (.bin .mul (.cst (.int 2)) (.var 2)) (.var 8))).map some) [8] [some (.tup (L h)),some (.tup (L l)),some (.int (n:Nat)),none,none,none,none,none,none,none] (L l)=some (L (l.map fun x=>2*n+x)):=by
  rw[pI (g:=fun x=>.int ((2*n+x:Nat):Int)) (fun _=>rfl),xo];exact fun x _=>aA (aA ao (aa rfl) (gP (k:=2) ∅ n)) (aa rfl) (show aE .add (.int ((2*n:Nat):Int)) (.int (x:Nat))=some (.int ((2*n+x:Nat):Int)) by rw[cb];simp)
 have c2:bW (fun QR=>(ev cl QR (.ix (.call fr (.cons (.var 4) (.cons (.var 3) (.cons (.var 8) .nil)))) (.neg (.cst (.int 1))))).map some) [8] [some (.tup (L h)),some (.tup (L l)),some (.int (n:Nat)),some (.lst (L (rbL n h l))),some (.lst (L (jL n))),some (.lst (L ((List.range (2*n)).map (out n)))),none,none,none,none] (L ((List.range (2*n)).map (out n)))=some (L ((List.range (2*n)).map fun p=>out n (at' (aB n h l) p))):=by
  have e:L ((List.range (2*n)).map (out n))=(List.range (2*n)).map fun p=>D.int (out n p:Nat):=by simp[L]
  rw[e,oJ (g:=fun p=>.int ((out n (at' (aB n h l) p):Nat):Int)) (fun _=>rfl)]
  ·simp[L]
  ·intro p hp;rw[List.mem_range]at hp;obtain⟨k,k1,k2,k3,k4⟩:=hr (out n p) (aU hp);obtain⟨e1,e2⟩:=kH F G hp k1 k2 k3;rw[<-e2];exact cw (my (aa rfl) (aa rfl) (aa rfl) k4) GP (ur k)
 have c3:bW (fun QR=>(ev cl QR (.ifx (.cmp .lt (.var 9) (.var 2)) (.var 9) (.bin .sub (.var 9) (.bin .mul (.cst (.int 2)) (.var 2))))).map some) [9] [some (.tup (L h)),some (.tup (L l)),some (.int (n:Nat)),some (.lst (L (rbL n h l))),some (.lst (L (jL n))),some (.lst (L ((List.range (2*n)).map (out n)))),some (.lst (L ((List.range (2*n)).map fun p=>out n (at' (aB n h l) p)))),none,none,none] (L ((List.range (2*n)).map fun p=>out n (at' (aB n h l) p)))=some (L (aB n h l)):=by
  have e:L ((List.range (2*n)).map fun p=>out n (at' (aB n h l) p))=(List.range (2*n)).map fun p=>D.int (out n (at' (aB n h l) p):Nat):=by simp[L]
  have e':aB n h l=(List.range (2*n)).map (at' (aB n h l)):=kX dn (by simp) fun x hx=>by simp[at',hx]
  have FF:=cR F G;rw[e,oJ (g:=fun p=>.int ((at' (aB n h l) p:Nat):Int)) (fun _=>rfl)]
  ·conv=>rhs;rw[e']
   simp[L]
  ·intro p hp;rw[List.mem_range]at hp;have hl:=FF.lt p hp;by_cases c:at' (aB n h l) p<n
   ·have eo:out n (at' (aB n h l) p)=at' (aB n h l) p:=by unfold out;rw[if_pos c]
    have v:∀ {Y:St},(Y[9]?).bind id=some (D.int (out n (at' (aB n h l) p):Nat))->ev cl Y (.var 9)=some (.int (at' (aB n h l) p:Nat)):=fun h=>by rw[aa h,eo]
    exact r8 (k:=true) (aW (aJ (aa rfl) (aa rfl) (by rw[gL,decide_eq_true ⋯]))) (v rfl)
   ·have eo:out n (at' (aB n h l) p)=at' (aB n h l) p+2*n:=by unfold out;rw[if_neg c]
    exact r8 (k:=false) (aW (aJ (aa rfl) (aa rfl) (by rw[gL,Qk ⋯]))) (aA (aa rfl) (aA ao (aa rfl) (gP (k:=2) ∅ n)) (by rw[lC,eo];congr 2;lia))
 have ll:(L l).length<=most:=lm l (by rw[G.len];lia);exact bg rfl rfl (aF (cK (aa rfl) ho) rfl (aF (d:=.lst (L (rbL n h l))) (aA (bJ (aa rfl) rfl) (eY (cG (aa rfl) rfl) ll c1) (ad _ _ (by simp[F.len,G.len];lia))) (im _ _ rfl) (aF (cK (aa rfl) hj) (im _ _ rfl) (aF (d:=.lst (L ((List.range (2*n)).map (out n)))) (aA (vO (aa rfl) a1) (lJ (aA ao (aa rfl) (gP (k:=3) ∅ n)) (aA ao (aa rfl) (gP (k:=4) ∅ n)) a4) (by rw[ad _ _ (by simp;lia),oL])) (im _ _ rfl) (aF (eY (cG (aa rfl) rfl) (lm _ (by simp;lia)) c2) (im _ _ rfl) (aF (bJ (eY (cG (aa rfl) rfl) (lm _ (by simp;lia)) c3) rfl) (by simp[aV,D.imm,bD]) (aZ (lr (aC (aa rfl) (aC (gd (aa rfl) (aa rfl) hg) bA))) (by simp[bB,D.imm,au,bD]))))))))
end
section
def Pth.step{m:Nat}{a b:Nat->Nat}{x y:Nat}(h:Pth m a b x)(c:Cn a b x y):Pth m a b y:=by
 obtain⟨s,h1,h2,h3⟩:=h;exact#[s,h1,h2,h3.trans c]
def kJ(hm:m<n):jn n (n+m)=2*n+m:=by unfold jn;rw[if_neg ⋯,if_pos ⋯];lia
def mP(hm:m<n):jn n (2*n+m)=n+m:=by unfold jn;rw[if_neg ⋯,if_neg ⋯,if_pos ⋯];lia
def nU(e:a x=y):Cn a b x y:=by rw[<-e];exact .sa .refl
def lK(e:b x=y):Cn a b x y:=by rw[<-e];exact .sb .refl
def ke(F:Frm n h)(G:Frm n l)(hm:m<n):Gn n h l (2*n) m↔Pth (4*n) (jn n) (rb n h l) (n+m):=by
 have T:=two F G;constructor
 ·rintro⟨p,hp,j,hj,t1,t2⟩;obtain⟨k,hk,st,hs⟩:=fW T (aU hp);have w:=jV F G hp st hs j;refine#[out n p,aU hp,.inl (dD hp),?_]
  have c:Cn (jn n) (rb n h l) (out n p) (en2 n (itr n h l j (beg n h l p))):=by rw[w];exact jI _
  have blt:(beg n h l p).2<2*n:=by
   unfold beg pick;dsimp only;split
   ·exact F.lt p hp
   ·exact G.lt p hp
  have hl:=ig (fun x hx=>F.lt x hx) (fun x hx=>G.lt x hx) (h:=h) (l:=l) blt j;generalize itr n h l j (beg n h l p)=s at *;obtain⟨b,q⟩:=s;dsimp only at t1 t2 hl;unfold en2 at c;cases b
  ·simp only[Bool.false_eq_true,if_false]at c
   have:q<n:=by
    apply Classical.byContradiction;intro z;rw[decide_eq_true ⋯]at t1;cases t1
   rw[QH this]at t2;subst t2;have:=Cn.sa c;rw[mP hm]at this;exact this
  ·rw[if_pos rfl]at c;have:n<=q:=of_decide_eq_true t1.symm;rw[Nat.mod_eq_sub_mod this,QH ⋯]at t2;rw[show n+m=q by lia];exact c
 ·rintro⟨s,h1,h2,h3⟩;have h2:jn n s=s:=h2.resolve_right (eN F G h1);obtain⟨p,hp,rfl⟩:=xD h1 h2;obtain⟨k,hk,st,hs⟩:=fW T (aU hp);obtain⟨k1,k2⟩:=l7 T (aU hp) st hs (fun y hy=>eN F G hy) (dD hp);obtain⟨i,hi,e⟩:=l3 T (aU hp) st hs (.inl (dD hp)) h3;have na:=kJ hm
  have i0:i≠0:=fun z=>by
   subst z;have:=dD hp;rw[show out n p=n+m from e,na]at this;lia
  have ik:i≠k:=fun z=>by
   subst z;rw[e,na]at k2;lia
  have blt:(beg n h l p).2<2*n:=by
   unfold beg pick;dsimp only;split
   ·exact F.lt p hp
   ·exact G.lt p hp
  by_cases c:i%2=1
  ·obtain⟨j,rfl⟩:∃ j,i=2*j+1:=#[i / 2,by lia]
   have w:=jV F G hp st hs j;rw[if_pos hi,e]at w;have hl:=ig (fun x hx=>F.lt x hx) (fun x hx=>G.lt x hx) (h:=h) (l:=l) blt j;refine#[p,hp,j,by lia,?_];unfold Tr;generalize itr n h l j (beg n h l p)=s at *;obtain⟨b,q⟩:=s;unfold en2 at w;dsimp only at w hl ⊢;cases b
   ·rw[if_neg ∅]at w;lia
   ·rw[if_pos rfl]at w;subst w;exact#[(decide_eq_true ⋯).symm,by rw[Nat.mod_eq_sub_mod ⋯,QH ⋯];lia]
  ·obtain⟨j,rfl⟩:∃ j,i=2*j+1+1:=#[i / 2-1,by lia]
   have w:=jV F G hp st hs j;rw[gu ⋯]at e
   have e':wk (jn n) (rb n h l) (out n p) (2*j+1)=2*n+m:=by
    have:=congrArg (jn n) e;rw[T.ai _ (gr T (aU hp) _),na]at this;exact this
   rw[if_pos ⋯,e']at w;have hl:=ig (fun x hx=>F.lt x hx) (fun x hx=>G.lt x hx) (h:=h) (l:=l) blt j;refine#[p,hp,j,by lia,?_];unfold Tr;generalize itr n h l j (beg n h l p)=s at *;obtain⟨b,q⟩:=s;unfold en2 at w;dsimp only at w hl ⊢;cases b
   ·rw[if_neg ∅]at w
    have:q=m:=by lia
    subst this;exact#[(Qk ⋯).symm,QH hm]
   ·rw[if_pos rfl]at w;lia
def iC(F:Frm n h)(G:Frm n l)(hx:x<4*n)(np:¬ Pth (4*n) (jn n) (rb n h l) x):∃ m,m<n/\(x=n+m\/x=2*n+m)/\¬ Pth (4*n) (jn n) (rb n h l) (n+m):=by
 have no:jn n x≠x:=fun e=>np ⟨x,hx,.inl e,.refl⟩;by_cases c:x<2*n
 ·have:n<=x:=by
   apply Classical.byContradiction;intro z;exact no (by unfold jn;rw[if_pos ⋯])
  exact#[x-n,by omega,.inl ⋯,by rw[show n+(x-n)=x by lia];exact np]
 ·have:x<3*n:=by
   apply Classical.byContradiction;intro z;exact no (by unfold jn;rw[if_neg ⋯,if_neg ⋯,if_neg ⋯])
  refine#[x-2*n,by omega,.inr ⋯,fun z=>np (z.step ?_)];have:=kJ (n:=n) (m:=x-2*n) (by omega);rw[show 2*n+(x-2*n)=x by lia]at this;exact nU this
def sT(F:Frm n h)(G:Frm n l)(hm:m<n)(np:¬ Pth (4*n) (jn n) (rb n h l) (n+m)):at' l m<n/\¬ Pth (4*n) (jn n) (rb n h l) (n+at' l m)/\Cn (jn n) (rb n h l) (n+m) (n+at' l m):=by
 have T:=two F G;have hl:=G.lt m ⋯
 have e:rb n h l (2*n+m)=2*n+at' l m:=by unfold rb;rw[if_neg ⋯,show 2*n+m-2*n=m by lia]
 have c:Cn (jn n) (rb n h l) (n+m) (2*n+at' l m):=(nU (kJ hm)).trans (lK e);have np':¬ Pth (4*n) (jn n) (rb n h l) (2*n+at' l m):=fun z=>np (z.step (c.symm T ⋯));obtain⟨j,hj,e1 | e1,e2⟩:=iC F G ⋯ np'
 ·lia
 ·have:at' l m=j:=by lia
  rw[this];refine#[hj,e2,?_];rw[this]at c;have:=Cn.sa c;rw[mP hj]at this;exact this
def qi(F:Frm n h)(G:Frm n l)(hm:m<n)(np:¬ Pth (4*n) (jn n) (rb n h l) (n+m)):∃ j,j<n/\at' h (n+m)=n+j/\¬ Pth (4*n) (jn n) (rb n h l) (n+j)/\Cn (jn n) (rb n h l) (n+m) (n+j):=by
 have T:=two F G;have hl:=F.lt (n+m) ⋯
 have e:rb n h l (n+m)=at' h (n+m):=by unfold rb;rw[if_pos ⋯]
 have c:Cn (jn n) (rb n h l) (n+m) (at' h (n+m)):=lK e;have np':¬ Pth (4*n) (jn n) (rb n h l) (at' h (n+m)):=fun z=>np (z.step (c.symm T ⋯));obtain⟨j,hj,e1 | e1,e2⟩:=iC F G ⋯ np'
 ·exact#[j,hj,e1,e2,by rw[<-e1];exact c]
 ·lia
def B5(F:Frm n h)(G:Frm n l){inner:List Nat}(hin:∀ m,m∈inner↔m<n/\¬ Pth (4*n) (jn n) (rb n h l) (n+m))
 (f1:∀ x∈inner,∀ y∈inner,f x=f y->Cn (jn n) (rb n h l) (n+x) (n+y))(f2:∀ m∈inner,f (at' l m)=f m)(f3:∀ m∈inner,∀ j,at' h (n+m)=n+j->f j=f m) :
  ∃ S,bI (4*n) (jn n) (rb n h l) S/\(il (inner.map f)).length=S.length:=by
 have T:=two F G
 have f4:∀ x∈inner,∀ z,Cn (jn n) (rb n h l) (n+x) z->∃ m∈inner,(z=n+m\/z=2*n+m)/\f m=f x:=by
  intro x hx z c
  induction c with
  | refl=>exact#[x,hx,.inl rfl,rfl]
  |sa _ ih=>
   obtain⟨m,hm,e | e,ef⟩:=ih
   ·exact#[m,hm,.inr (by rw[e,kJ ((hin m).mp hm).1]),ef]
   ·exact#[m,hm,.inl (by rw[e,mP ((hin m).mp hm).1]),ef]
  |sb _ ih=>
   obtain⟨m,hm,e | e,ef⟩:=ih
   ·have mn:=((hin m).mp hm).1;obtain⟨j,h1,h2,h3,_⟩:=qi F G ((hin m).mp hm).1 ((hin m).mp hm).2;exact#[j,(hin j).mpr #[h1,h3],.inl (by rw[e];unfold rb;rw[if_pos ⋯,h2]),by rw[f3 m hm j h2,ef]]
   ·obtain⟨h1,h2,_⟩:=sT F G ((hin m).mp hm).1 ((hin m).mp hm).2;exact#[at' l m,(hin _).mpr #[h1,h2],.inr (by rw[e];unfold rb;rw[if_neg ⋯,show 2*n+m-2*n=m by lia]),by rw[f2 m hm,ef]]
 have kD:∀ xs:List Nat,∃ R:List Nat,(∀ r∈R,r∈xs)/\R.map f=il (xs.map f)/\(R.Pairwise fun r t=>f r≠f t)/\∀ x∈xs,∃ r∈R,f r=f x:=by
  intro xs
  suffices H:∀ (ys:List Nat) (R:List Nat) (done:List Nat),(∀ r∈R,r∈done)->(R.Pairwise fun r t=>f r≠f t)->(∀ x∈done,∃ r∈R,f r=f x)->∃ R':List Nat,(∀ r∈R',r∈done++ys)/\R'.map f=(ys.map f).foldl (fun m k=>if m.any (· == k)then m else m++[k]) (R.map f)/\(R'.Pairwise fun r t=>f r≠f t)/\∀ x∈done++ys,∃ r∈R',f r=f x by
   obtain⟨R,h1,h2,h3,h4⟩:=H xs [] [] (by simp) .nil (by simp);exact#[R,by simpa using h1,h2,h3,by simpa using h4]
  intro ys
  induction ys with
  | nil=>intro R done h1 h2 h3;exact#[R,by simpa using h1,rfl,h2,by simpa using h3]
  |cons y ys ih=>
   intro R done h1 h2 h3;by_cases c:(R.map f).any (· == f y)=true
   ·obtain⟨R',g1,g2,g3,g4⟩:=ih R (done++[y]) (fun r hr=>by simp[h1 r hr]) h2 (fun x hx=>by
     rcases List.mem_append.mp hx with hx | hx
     ·exact h3 x hx
     ·have:x=y:=by simpa using hx
      subst this
      simpa using c)
    exact#[R',by simpa using g1,by rw[List.map_cons,List.foldl_cons,if_pos c];exact g2,g3,by simpa using g4]
   ·obtain⟨R',g1,g2,g3,g4⟩:=ih (R++[y]) (done++[y]) (fun r hr=>by
     rcases List.mem_append.mp hr with hr | hr
     ·simp[h1 r hr]
     ·simp at hr;simp[hr]) (by
     rw[QE];refine#[h2,by simp,fun r hr t ht e=>c ?_]
     have:t=y:=by simpa using ht
     subst this
     simpa using⟨r,hr,e⟩) (fun x hx=>by
     rcases List.mem_append.mp hx with hx | hx
     ·obtain⟨r,a1,a2⟩:=h3 x hx;exact#[r,by simp[a1],a2]
     ·have:x=y:=by simpa using hx
      subst this
      exact#[x,by simp,rfl])
    exact#[R',by simpa using g1,by rw[List.map_cons,List.foldl_cons,if_neg c];simpa using g2,g3,by simpa using g4]
 obtain⟨R,r1,r2,r3,r4⟩:=kD inner;refine#[R.map fun m=>n+m,#[fun s hs=>?_,?_,fun s hs y hy=>?_,fun x hx=>?_],by rw[<-r2];simp]
 ·obtain⟨m,hm,rfl⟩:=List.mem_map.mp hs;have:=((hin m).mp (r1 m hm)).1;lia
 ·rw[Qy];refine List.Pairwise.imp_of_mem ?_ r3;intro a b ha hb ne c;obtain⟨m,hm,e | e,ef⟩:=f4 a (r1 a ha) _ c
  ·have:m=b:=by lia
   subst this;exact ne ef.symm
  ·have:=((hin m).mp hm).1;have:=((hin b).mp (r1 b hb)).1;lia
 ·obtain⟨m,hm,rfl⟩:=List.mem_map.mp hs;obtain⟨j,hj,e,_⟩:=f4 m (r1 m hm) y hy;have jn':=((hin j).mp hj).1;refine⟨?_,eN F G (by rcases e with rfl | rfl<;>lia)⟩;rcases e with rfl | rfl
  ·rw[kJ jn'];lia
  ·rw[mP jn'];lia
 ·by_cases np:Pth (4*n) (jn n) (rb n h l) x
  ·exact .inl np
  ·obtain⟨m,hm,e,nm⟩:=iC F G hx np;have mi:=(hin m).mpr ⟨hm,nm⟩;obtain⟨r,hr,er⟩:=r4 m mi;refine .inr #[n+r,List.mem_map.mpr #[r,hr,rfl],?_];have c:=f1 r (r1 r hr) m mi er;rcases e with rfl | rfl
   ·exact c
   ·exact c.trans (nU (kJ hm))
end
section
abbrev HF(inner:List Nat)(hk:List Ky)(hv:List D)(f:Nat->Int):Prop:=hk.length=hv.length/\hk.length<=10/\∀ m∈inner,aL hk hv (.inl (m:Int))=some (.int (f m))
def HF.hi(H:HF inner hk hv f):HI inner hk hv:=#[H.1,H.2.1,fun m hm=>#[f m,H.2.2 m hm]]
def HF.put(H:HF inner hk hv f)(hm:m∈inner)(v:Int):HF inner (putD hk hv (.inl (m:Int)) (.int v)).1 (putD hk hv (.inl (m:Int)) (.int v)).2 (fun x=>if x=m then v else f x):=by
 obtain⟨p1,p2,_⟩:=H.hi.put hm v;refine#[p1,p2,fun x hx=>?_];rw[fQ H.1];dsimp only;by_cases c:x=m
 ·subst c;rw[if_pos rfl,if_pos rfl]
 ·rw[if_neg (fun e=>c (by injection e with e;lia)),if_neg c];exact H.2.2 x hx
def zx(hl:hk.length<=10)(x:Nat)(d:D):fw (.dK hk hv) (.int (x:Nat)) d=some (.dK (putD hk hv (.inl (x:Int)) d).1 (putD hk hv (.inl (x:Int)) d).2):=by
 rw[Hx];dsimp only[keyOf];rw[Option.bind_some,if_pos (by unfold most;lia)]
def ui(H:HF inner hk hv f)(o5 o6 o7:Option D)(keep go:Int):∃ hk' hv' o7',HF inner hk' hv' (fun x=>if f x=go then keep else f x)/\aS (ag cl [4] dS) [7] (L inner) (rst n h l inner hk hv o5 o6 o7 (some (.int keep)) (some (.int go)))=some (.nx,rst n h l inner hk' hv' o5 o6 o7' (some (.int keep)) (some (.int go))):=by
 obtain⟨QQ,e,hk',hv',o7',g,rfl,H',hg⟩:=dH (f:=ag cl [4] dS) (tg:=[7]) (xs:=inner) (Y:=rst n h l inner hk hv o5 o6 o7 (some (.int keep)) (some (.int go)))
  (fun p Y=>∃ (hk':List Ky) (hv':List D) (o7':Option D) (g:Nat->Int),Y=rst n h l inner hk' hv' o5 o6 o7' (some (.int keep)) (some (.int go))/\HF inner hk' hv' g/\∀ x,g x=if x∈p then(if f x=go then keep else f x)else f x) ⟨hk,hv,o7,f,rfl,H,fun x=>by simp⟩ (by
   rintro p x q Y hx ⟨hk',hv',o7',g,rfl,H',hg⟩
   have hm:x∈inner:=by rw[hx];simp
   have lk:=lB (H'.2.2 x hm);show ∃ QS,ag cl [4] dS (rst n h l inner hk' hv' o5 o6 (some (.int (x:Nat))) (some (.int keep)) (some (.int go)))=some (.nx,QS)/\_;by_cases c:g x=go
   ·refine#[rst n h l inner (putD hk' hv' (.inl (x:Int)) (.int keep)).1 (putD hk' hv' (.inl (x:Int)) (.int keep)).2 o5 o6 (some (.int (x:Nat))) (some (.int keep)) (some (.int go)),fB (aW (aJ (ka (aa rfl) (aa rfl) lk) (aa rfl) (by rw[dO];congr 1;simp[c]))) (kz (aa rfl) (aa rfl) rfl rfl (zx H'.2.1 x _) aI) aI,_,_,_,_,rfl,H'.put hm keep,fun y=>?_];by_cases e:y=x
    ·subst e;rw[if_pos rfl,if_pos (by simp)];rw[hg]at c;split at c
     ·split
      ·rfl
      ·rename_i z1 z2;rw[if_neg z2]at c;exact absurd c z2
     ·rw[if_pos c]
    ·rw[if_neg e,hg y];simp[e]
   ·refine#[rst n h l inner hk' hv' o5 o6 (some (.int (x:Nat))) (some (.int keep)) (some (.int go)),bR (aW (aJ (ka (aa rfl) (aa rfl) lk) (aa rfl) (by rw[dO];congr 1;simp[c]))) aI,_,_,_,_,rfl,H',fun y=>?_];by_cases e:y=x
    ·subst e;rw[if_pos (by simp)];rw[hg]at c ⊢;split at c
     ·rename_i z;rw[if_pos z]
     ·rename_i z;rw[if_neg z,if_neg c]
    ·rw[hg y]
     simp[e])
 refine#[hk',hv',o7',#[H'.1,H'.2.1,fun m hm=>?_],e];rw[H'.2.2 m hm,hg m,if_pos hm]
abbrev Tog(n:Nat)(h l inner:List Nat)(f:Nat->Int):Prop:=∀ x∈inner,∀ y∈inner,f x=f y->Cn (jn n) (rb n h l) (n+x) (n+y)
abbrev mg(f:Nat->Int)(m o x:Nat):Int:=if f x=f o then f m else f x
def oD(e:f a=f b):mg f m o a=mg f m o b:=by unfold mg;rw[e]
def BS:mg f m o o=mg f m o m:=by
 unfold mg;rw[if_pos rfl];split<;>rfl
def Tog.merge(F:Frm n h)(G:Frm n l)(t:Tog n h l inner f)(hlt:∀ m∈inner,m<n)(hm:m∈inner)(ho:o∈inner)(c:Cn (jn n) (rb n h l) (n+m) (n+o)):Tog n h l inner (mg f m o):=by
 have T:=two F G;intro x hx y hy e;have lx:=hlt x hx;have ly:=hlt y hy;have lm:=hlt m hm;have lo:=hlt o ho;unfold mg at e;split at e
 ·rename_i e1;split at e
  ·rename_i e2;exact t x hx y hy (e1.trans e2.symm)
  ·exact(t x hx o ho e1).trans ((c.symm T ⋯).trans (t m hm y hy e))
 ·split at e
  ·rename_i e2;exact(t x hx m hm e).trans (c.trans (t o ho y hy e2.symm))
  ·exact t x hx y hy e
def nO(h1:1<=n)(hn:n<=10)(F:Frm n h)(G:Frm n l)(hil:inner.length<=n)(hin:∀ m,m∈inner↔m<n/\¬ Pth (4*n) (jn n) (rb n h l) (n+m)):∃ S:List Nat,bI (4*n) (jn n) (rb n h l) S/\evF cl di [.tup (L h),.tup (L l),.lst (L inner)]=some (.int (S.length:Nat)):=by
 have e6:=half (xs:=L h) (n:=n) (by rw[bH,F.len])
 obtain⟨QR,l1,hk,hv,o5,rfl,H0,H1,H2⟩:=dH (f:=ag cl [4] iR) (tg:=[5]) (xs:=inner) (Y:=rst n h l inner [] [] none none none none none)
  (fun p Y=>∃ hk hv o5,Y=rst n h l inner hk hv o5 none none none none/\hk.length=hv.length/\hk.length<=p.length/\∀ m∈p,aL hk hv (.inl (m:Int))=some (.int (m:Nat))) ⟨[],[],none,rfl,rfl,by simp,by simp⟩ (by
   rintro p x q Y hx ⟨hk,hv,o5,rfl,H0,H1,H2⟩
   have hp:p.length<10:=by
    have:=congrArg List.length hx;simp at this;lia
   have pl:=hZ (x:=(.inl (x:Int):Ky)) (d:=.int (x:Nat)) H0;refine⟨rst n h l inner (putD hk hv (.inl (x:Int)) (.int (x:Nat))).1 (putD hk hv (.inl (x:Int)) (.int (x:Nat))).2 (some (.int (x:Nat))) none none none none,kz (cl:=cl) (M:=[4]) (Y:=rst n h l inner hk hv (some (.int (x:Nat))) none none none none) (r:=.nil) (aa rfl) (aa rfl) rfl rfl (zx ⋯ x _) aI,_,_,_,rfl,pl.1,by have:=pl.2;simp;lia,fun m hm=>?_⟩;rw[fQ H0];by_cases e:(.inl (x:Int):Ky)=.inl (m:Int)
   ·rw[if_pos e];injection e with e
    have:x=m:=by lia
    rw[this]
   ·rw[if_neg e];simp at hm;rcases hm with hm | hm
    ·exact H2 m hm
    ·exact absurd (by rw[hm]) e)
 have H:HF inner hk hv (fun m=>(m:Int)):=#[H0,by lia,H2]
 obtain⟨QS,l2',hk',hv',o5',o6',o7',o8',o9',f,rfl,H',t,pr⟩:=dH (f:=ag cl [4] iN) (tg:=[5]) (xs:=inner) (Y:=rst n h l inner hk hv o5 none none none none)
  (fun p Y=>∃ (hk:List Ky) (hv:List D) (o5 o6 o7 o8 o9:Option D) (f:Nat->Int),Y=rst n h l inner hk hv o5 o6 o7 o8 o9/\HF inner hk hv f/\Tog n h l inner f/\∀ m∈p,f (at' l m)=f m/\∀ j,at' h (n+m)=n+j->f j=f m) ⟨hk,hv,o5,none,none,none,none,_,rfl,H,fun x _ y _ e=>by
   have e:(x:Int)=(y:Int):=e
   have:x=y:=by lia
   subst this
   exact .refl,by simp⟩ (by
   rintro p x q Y hx ⟨hk',hv',o5',o6',o7',o8',o9',f,rfl,H',t,pr⟩
   have hm:x∈inner:=by rw[hx];simp
   have hsub:∀ m∈p,m∈inner:=fun m hm=>by rw[hx];simp[hm]
   have hlt:∀ m∈inner,m<n:=fun m hm=>((hin m).mp hm).1;have xn:=hlt x hm;obtain⟨ln,lp,lc⟩:=sT F G xn ((hin x).mp hm).2;obtain⟨j,jn',hjj,jp,jc⟩:=qi F G xn ((hin x).mp hm).2;have li:=(hin _).mpr ⟨ln,lp⟩;have ji:=(hin _).mpr ⟨jn',jp⟩;obtain⟨hk2,hv2,o72,H2,e2⟩:=ui (cl:=cl) (n:=n) (h:=h) (l:=l) H' (some (.int (x:Nat))) (some (.int (at' l x:Nat))) o7' (f x) (f (at' l x));have t2:=t.merge F G hlt hm li lc;have H2:HF inner hk2 hv2 (mg f x (at' l x)):=H2;obtain⟨hk3,hv3,o73,H3,e3⟩:=ui (cl:=cl) (n:=n) (h:=h) (l:=l) H2 (some (.int (x:Nat))) (some (.int (j:Nat))) o72 (mg f x (at' l x) x) (mg f x (at' l x) j);have H3:HF inner hk3 hv3 (mg (mg f x (at' l x)) x j):=H3;have t3:=t2.merge F G hlt hm ji jc
   have s1:ag cl [4] fN (rst n h l inner hk' hv' (some (.int (x:Nat))) (some (.int (at' l x:Nat))) o7' o8' o9')=some (.nx,rst n h l inner hk2 hv2 (some (.int (x:Nat))) (some (.int (at' l x:Nat))) o72 (some (.int (f x))) (some (.int (f (at' l x))))) :=
    kR (ka (aa rfl) (aa rfl) (lB (H'.2.2 x hm))) (ka (aa rfl) (aa rfl) (lB (H'.2.2 _ li))) rfl (c6 (cG (aa rfl) rfl) e2 aI)
   have s2:ag cl [4] fN (rst n h l inner hk2 hv2 (some (.int (x:Nat))) (some (.int (j:Nat))) o72 (some (.int (f x))) (some (.int (f (at' l x)))))=some (.nx,rst n h l inner hk3 hv3 (some (.int (x:Nat))) (some (.int (j:Nat))) o73 (some (.int (mg f x (at' l x) x))) (some (.int (mg f x (at' l x) j)))) :=
    kR (ka (aa rfl) (aa rfl) (lB (H2.2.2 x hm))) (ka (aa rfl) (aa rfl) (lB (H2.2.2 _ ji))) rfl (c6 (cG (aa rfl) rfl) e3 aI)
   have i1:=iF (f:=l) (x:=x) (by rw[G.len];lia);have i2:=iF (f:=h) (x:=n+x) (by rw[F.len];lia);rw[hjj]at i2;refine#[rst n h l inner hk3 hv3 (some (.int (x:Nat))) (some (.int (j:Nat))) o73 (some (.int (mg f x (at' l x) x))) (some (.int (mg f x (at' l x) j))),c6 (cl:=cl) (M:=[4]) (Y:=rst n h l inner hk' hv' (some (.int (x:Nat))) o6' o7' o8' o9') (cG (x:=.tup [.int (at' l x:Nat),.int (j:Nat)]) (lr (aC (cw (aa rfl) (aa rfl) i1) (aC (aA (cw (aa rfl) (aA (aa rfl) (aa rfl) (by rw[cb];rfl)) i2) (aa rfl) (by rw[lC];congr 2;lia)) bA))) rfl) ?_ aI,_,_,_,_,_,_,_,_,rfl,H3,t3,fun m hm'=>?_]
   ·exact pH rfl rfl s1 (pH rfl rfl s2 Hg)
   ·rcases List.mem_append.mp hm' with hp | hp
    ·obtain⟨q1,q2⟩:=pr m hp;exact#[oD (oD q1),fun j' hj'=>oD (oD (q2 j' hj'))]
    ·have:m=x:=by simpa using hp
     subst this;refine#[oD BS,fun j' hj'=>?_]
     have:j'=j:=by lia
     subst this
     exact BS)
 obtain⟨S,R,hS⟩:=B5 F G hin t (fun m hm=>(pr m hm).1) (fun m hm=>(pr m hm).2);refine#[S,R,?_];have mc:=pI (cl:=cl) (Y:=rst n h l inner hk' hv' o5' o6' o7' o8' o9') (e:=.ixD (.var 4) (.var 5)) (i:=5) (g:=fun m=>.int (f m)) (fun _=>rfl) inner (fun x hx=>ka (aa rfl) (aa rfl) (lB (H'.2.2 x hx)))
 have ls:biV .lenSet (.lst (inner.map fun m=>.int (f m)))=some (.int (S.length:Nat)):=by
  rw[Cy];rw[if_pos (by simp;lia),ints_map,<-hS];rfl
 exact bg rfl rfl (aF (aA (bJ (aa rfl) e6) ao (Be n)) rfl (iz (d:=.dK [] []) rfl rfl (c6 (cG (aa rfl) rfl) l1 (c6 (cG (aa rfl) rfl) l2' (aZ (bJ (eY (cG (aa rfl) rfl) (by rw[bH];unfold most;lia) mc) ls) rfl)))))
end
section
variable{nu pc pa nb un if' cf po rp ir mv rn mk rg jb pu c2 hu:Nat}
end
section
variable{mx rw dg pl hk ci ft tx rg hu ov fr:Nat}
def Dr.JY(D0:Dr T mx rw dg pl hk ci ft tx rg hu ov fr)(n:Nat)(h1:1<=k)(hk':k<=10)(F:Frm k f)(G:Frm k g) :
  ∃ S:List Nat,bI (4*k) (jn k) (rb k f g) S/\aq T (n+2) hu [.tup (L f),.tup (L g)]=some (.tup [.tup (L (aB k f g)),.int (S.length:Nat)]):=by
 obtain⟨inner,i1,i2,i3⟩:=sW (cl:=aq T (n+1)) (fr:=rg) h1 hk' F.len G.len F.lt G.lt
 obtain⟨S,R,e⟩:=nO (cl:=aq T n) h1 hk' F G i2 (fun m=>by
  rw[i1 m]
  exact#[fun#[a,b]=>#[a,fun z=>b ((ke F G a).mpr z)],fun#[a,b]=>#[a,fun z=>b ((ke F G a).mp z)]])
 exact#[S,R,(az D0.t8).trans (i3 _ ((az D0.iG).trans e))]
def HS(hfs:T[fs]?=some (iH fr))(n:Nat)(hq:q<=100)(one:∀ i:Nat,i<=100->∃ f:List Nat,Val m f/\aq T (n+4) fr [.lst (LI ns),.int ((k+i:Nat):Int),.int m]=some (.tup (L f))) :
  ∃ fs':List (List Nat),fs'.length=q/\(∀ f∈fs',Val m f)/\aq T (n+5) fs [.lst (LI ns),.int k,.int m,.int q]=some (.lst (fs'.map fun f=>.tup (L f))):=by
 have:∀ i,∃ f:List Nat,i<=100->Val m f/\aq T (n+4) fr [.lst (LI ns),.int ((k+i:Nat):Int),.int m]=some (.tup (L f)):=fun i=>by
  by_cases c:i<=100
  ·obtain⟨f,V,e⟩:=one i c;exact#[f,fun _=>#[V,e]]
  ·exact#[[],fun z=>absurd z c]
 obtain⟨g,hg⟩:=Classical.axiomOfChoice this;refine#[(List.range q).map g,by simp,fun f hf=>?_,?_]
 ·obtain⟨i,hi,rfl⟩:=List.mem_map.mp hf;exact(hg i (by have:=List.mem_range.mp hi;lia)).1
 ·refine(az hfs).trans (bg rfl rfl (aZ (eY (ky (aa rfl) (cD ⋯)) (by simp[L,most];lia) (pI (g:=fun i=>.tup (L (g i))) (fun x=>by simp[D.imm,bD]) _ fun i hi=>?_)) ?_)) |>.trans (by rw[List.map_map];rfl)
  ·have hi:=List.mem_range.mp hi;exact my (aa rfl) (aA (aa rfl) (aa rfl) (by rw[cb];rfl)) (aa rfl) (hg i ⋯).2
  ·have:∀ xs:List Nat,au (xs.map fun i=>D.tup (L (g i)))=true:=fun xs=>by
    induction xs with
    | nil=>rfl
    | cons x r ih=>rw[List.map_cons,au,ih];simp[D.imm,bD]
   simp[bB,aK,this]
end
section
def mw(hp:p<2*n):Cn (jn n) (rb n (aD n) f) (out n p) (2*n+p):=by
 unfold out;split
 ·rename_i c
  have e:rb n (aD n) f p=n+p:=by unfold rb;rw[if_pos ⋯,plain_at,if_pos c]
  exact(lK e).trans (nU (kJ c))
 ·rw[Nat.add_comm];exact .refl
def mT(hp:p<2*n):Cn (jn n) (rb n f (aD n)) (out n p) p:=by
 unfold out;split
 ·exact .refl
 ·rename_i c
  have e:rb n f (aD n) (p+2*n)=2*n+(p-n):=by unfold rb;rw[if_neg ⋯,show p+2*n-2*n=p by lia,plain_at,if_neg c,if_pos hp]
  have:=mP (n:=n) (m:=p-n) ⋯;rw[show n+(p-n)=p by lia]at this;exact(lK e).trans (nU this)
def oZ(F:Frm n f):aB n (aD n) f=f:=by
 have T:=two (cq n) F;refine kX dn F.len fun p hp=>?_;have hl:=F.lt p hp;refine(found_iff (cq n) F hp hl (Ne.symm (F.no p hp))).mpr ?_
 have e:rb n (aD n) f (2*n+p)=2*n+at' f p:=by unfold rb;rw[if_neg ⋯,show 2*n+p-2*n=p by lia]
 exact(mw hp).trans ((lK e).trans ((mw hl).symm T (aU hl)))
def pO(F:Frm n f):aB n f (aD n)=f:=by
 have T:=two F (cq n);refine kX dn F.len fun p hp=>?_;have hl:=F.lt p hp;refine(found_iff F (cq n) hp hl (Ne.symm (F.no p hp))).mpr ?_
 have e:rb n f (aD n) p=at' f p:=by unfold rb;rw[if_pos hp]
 exact(mT hp).trans ((lK e).trans ((mT hl).symm T (aU hl)))
def pT(F:Frm n f):bI (4*n) (jn n) (rb n (aD n) f) []:=by
 refine#[by simp,.nil,by simp,fun x hx=>.inl ?_];apply Classical.byContradiction;intro np;obtain⟨m,hm,_,nm⟩:=iC (cq n) F hx np;refine nm ⟨out n m,aU ⋯,.inl (dD ⋯),?_⟩;have:=Cn.sa (mw (n:=n) (f:=f) (p:=m) ⋯);rw[mP hm]at this;exact this
def pd(F:Frm n f):bI (4*n) (jn n) (rb n f (aD n)) []:=by
 refine#[by simp,.nil,by simp,fun x hx=>.inl ?_];apply Classical.byContradiction;intro np;obtain⟨m,hm,_,nm⟩:=iC F (cq n) hx np;exact nm ⟨out n (n+m),aU ⋯,.inl (dD ⋯),mT ⋯⟩
end
def tF{xs:List Nat}{b:Nat->Nat}(nd:xs.Nodup)(cl:∀ x∈xs,b x∈xs)(bi:∀ x∈xs,b (b x)=x)(no:∀ x∈xs,b x≠x):xs.length%2=0:=by
 have h1:(xs.filter fun x=>decide (x<b x)).length<=(xs.filter fun x=>decide (b x<x)).length:=by
  have:(xs.filter fun x=>decide (x<b x)).length=((xs.filter fun x=>decide (x<b x)).map b).length:=by simp
  rw[this];refine d9 ?_ fun y hy=>?_
  ·rw[Qv,Qy];refine List.Pairwise.imp_of_mem ?_ (Qv.mp (nd.filter _));intro x y hx hy hne e;rw[List.mem_filter]at hx hy;exact hne (by rw[<-bi x hx.1,e,bi y hy.1])
  ·obtain⟨x,hx,rfl⟩:=List.mem_map.mp hy;rw[List.mem_filter,decide_eq_true_eq]at hx ⊢;exact#[cl x hx.1,by rw[bi x hx.1];exact hx.2]
 have h2:(xs.filter fun x=>decide (b x<x)).length<=(xs.filter fun x=>decide (x<b x)).length:=by
  have:(xs.filter fun x=>decide (b x<x)).length=((xs.filter fun x=>decide (b x<x)).map b).length:=by simp
  rw[this];refine d9 ?_ fun y hy=>?_
  ·rw[Qv,Qy];refine List.Pairwise.imp_of_mem ?_ (Qv.mp (nd.filter _));intro x y hx hy hne e;rw[List.mem_filter]at hx hy;exact hne (by rw[<-bi x hx.1,e,bi y hy.1])
  ·obtain⟨x,hx,rfl⟩:=List.mem_map.mp hy;rw[List.mem_filter,decide_eq_true_eq]at hx ⊢;exact#[cl x hx.1,by rw[bi x hx.1];exact hx.2]
 have h3:∀ ys:List Nat,(∀ x∈ys,b x≠x)->ys.length=(ys.filter fun x=>decide (x<b x)).length+(ys.filter fun x=>decide (b x<x)).length:=by
  intro ys
  induction ys with
  | nil=>intro _;rfl
  |cons y ys ih=>
   intro h;have i:=ih fun x hx=>h x (Ql _ hx);have hy:=h y Qq;rw[QF,QF];by_cases c:y<b y
   ·rw[if_pos (decide_eq_true c),if_neg (by rw[decide_eq_true_eq];lia)];simp only[List.length_cons];lia
   ·rw[if_neg (by rw[decide_eq_true_eq];exact c),if_pos (decide_eq_true ⋯)];simp only[List.length_cons];lia
 have:=h3 xs no;lia
section
abbrev rp(n x:Nat):Nat:=if x<2*n then rd n x else 2*n+rd n (x-2*n)
abbrev phi(n:Nat)(Q:List Nat)(x:Nat):Nat:=(Q.filter fun y=>decide (y<2*n↔x<2*n)&&decide (rp n y<rp n x)).length
def gz(Q:List Nat)(P R:Nat->Bool):(Q.filter P).length=(Q.filter fun y=>P y&&R y).length+(Q.filter fun y=>P y && !R y).length:=by
 induction Q with
 | nil=>rfl
 |cons y Q ih=>
  rw[QF,QF,QF];cases P y<;>cases R y<;>simp[ih]<;>lia
def bQ{Q:List Nat}(e:∀ y∈Q,P y=R y):(Q.filter P).length=(Q.filter R).length:=by rw[List.filter_congr e]
def om(hx:x<4*n)(hy:y<4*n)(e:rp n x=rp n y):x=y:=by
 unfold rp at e;have:∀ q,q<2*n->rd n q<2*n:=fun q hq=>bj hq;split at e<;>split at e
 ·exact ju ⋯ ⋯ e
 ·have:=this x ⋯;lia
 ·have:=this y ⋯;lia
 ·have:=ju (n:=n) (p:=x-2*n) (q:=y-2*n) (by omega) (by omega) ⋯;omega
def zV(V:Val n h)(W:Val n l)(hx:x<4*n)(hy:y<4*n):¬ (rp n x<rp n y/\rp n y<rp n (rb n h l x)/\rp n (rb n h l x)<rp n (rb n h l y)):=by
 have F:=V.frm;have G:=W.frm;have T:=two F G;rintro⟨h1,h2,h3⟩;have r2:∀ q,q<2*n->rd n q<2*n:=fun q hq=>bj hq;by_cases cx:x<2*n
 ·have ex:rb n h l x=at' h x:=by unfold rb;rw[if_pos cx]
  have lx:=F.lt x cx;by_cases cy:y<2*n
  ·have ey:rb n h l y=at' h y:=by unfold rb;rw[if_pos cy]
   have ly:=F.lt y cy;rw[ex]at h2 h3;rw[ey]at h3;unfold rp at h1 h2 h3;rw[if_pos cx,if_pos cy]at h1;rw[if_pos cy,if_pos lx]at h2;rw[if_pos lx,if_pos ly]at h3;refine V.nox (rd n x) (rd n y) (bj cx) (bj cy) ?_;unfold rnd;rw[bY cx,bY cy];exact#[h1,h2,h3]
  ·rw[ex]at h2;unfold rp at h2;rw[if_neg cy,if_pos lx]at h2;have:=r2 _ lx;lia
 ·have ex:rb n h l x=2*n+at' l (x-2*n):=by unfold rb;rw[if_neg cx]
  have lx:=G.lt (x-2*n) (by omega);by_cases cy:y<2*n
  ·unfold rp at h1;rw[if_neg cx,if_pos cy]at h1;have:=r2 _ cy;lia
  ·have ey:rb n h l y=2*n+at' l (y-2*n):=by unfold rb;rw[if_neg cy]
   have ly:=G.lt (y-2*n) (by omega);rw[ex]at h2 h3;rw[ey]at h3;unfold rp at h1 h2 h3;rw[if_neg cx,if_neg cy]at h1;rw[if_neg cy,if_neg ⋯,QI]at h2;rw[if_neg ⋯,if_neg ⋯,QI,QI]at h3;refine W.nox (rd n (x-2*n)) (rd n (y-2*n)) (bj (by omega)) (bj (by omega)) ?_;unfold rnd;rw[bY (by omega),bY (by omega)];exact#[by lia,by lia,by lia]
structure Cls(n:Nat)(h l Q:List Nat):Prop where
 nd:Q.Nodup
 lt:∀ y∈Q,y<4*n
 b:∀ y∈Q,rb n h l y∈Q
 a:∀ y∈Q,jn n y∈Q
def oI(F:Frm n h)(G:Frm n l)(hx:x<4*n):rb n h l x<2*n↔x<2*n:=by
 unfold rb;split
 ·rename_i c;have:=F.lt x c;lia
 ·lia
def Ik(V:Val n h)(W:Val n l){Q:List Nat}(C:Cls n h l Q)(hx:x<4*n)(hq:x∉Q):phi n Q (rb n h l x)%2=phi n Q x%2:=by
 have F:=V.frm;have G:=W.frm;have T:=two F G
 have key:∀ x,x<4*n->x∉Q->rp n x<rp n (rb n h l x)->phi n Q (rb n h l x)%2=phi n Q x%2:=by
  intro x hx hq lt;have bl:=T.bl x hx;have bq:rb n h l x∉Q:=fun z=>hq (by have:=C.b _ z;rw[T.bi x hx]at this;exact this);have sd:=oI F G (h:=h) (l:=l) hx
  have e:phi n Q (rb n h l x)=phi n Q x+(Q.filter fun y=>decide (y<2*n↔x<2*n)&&(decide (rp n x<rp n y)&&decide (rp n y<rp n (rb n h l x)))).length:=by
   unfold phi;rw[gz Q (fun y=>decide (y<2*n↔rb n h l x<2*n)&&decide (rp n y<rp n (rb n h l x))) (fun y=>decide (rp n y<rp n x))];congr 1
   ·refine bQ fun y hy=>?_;rw[QJ];simp only[Bool.and_eq_true,decide_eq_true_eq];rw[sd];lia
   ·refine bQ fun y hy=>?_;have ne:rp n y≠rp n x:=fun e=>hq (om (C.lt y hy) hx e▸hy);rw[QJ];simp only[Bool.and_eq_true,decide_eq_true_eq,Bool.not_eq_true',decide_eq_false_iff_not];rw[sd];lia
  have ev:=tF (b:=rb n h l) (xs:=Q.filter fun y=>decide (y<2*n↔x<2*n)&&(decide (rp n x<rp n y)&&decide (rp n y<rp n (rb n h l x)))) (C.nd.filter _) (fun y hy=>by
   simp only[List.mem_filter,Bool.and_eq_true,decide_eq_true_eq]at hy ⊢;obtain⟨y1,y2,y3,y4⟩:=hy;have ly:=C.lt y y1;have lb:=T.bl y ly;refine#[C.b y y1,by rw[oI F G ly];exact y2,?_];have n1:=zV V W hx ly;have n2:=zV V W lb hx;rw[T.bi y ly]at n2;have ne1:rp n (rb n h l y)≠rp n x:=fun e=>hq (om lb hx e▸C.b y y1);have ne2:rp n (rb n h l y)≠rp n (rb n h l x):=fun e=>bq (om lb bl e▸C.b y y1)
   lia) (fun y hy=>by
   simp only[List.mem_filter]at hy
   exact T.bi y (C.lt y hy.1)) (fun y hy=>by
   simp only[List.mem_filter]at hy
   exact eN F G (C.lt y hy.1))
  lia
 by_cases c:rp n x<rp n (rb n h l x)
 ·exact key x hx hq c
 ·have bl:=T.bl x hx;have bq:rb n h l x∉Q:=fun z=>hq (by have:=C.b _ z;rw[T.bi x hx]at this;exact this);have ne:rp n (rb n h l x)≠rp n x:=fun e=>eN F G hx (om bl hx e);have:=key (rb n h l x) bl bq (by rw[T.bi x hx];lia);rw[T.bi x hx]at this;exact this.symm
def vo(F:Frm n h)(G:Frm n l){Q:List Nat}(C:Cls n h l Q):(Q.filter fun y=>decide (y<2*n)).length%2=0:=by
 have T:=two F G;refine tF (b:=rb n h l) (C.nd.filter _) (fun y hy=>?_) (fun y hy=>?_) (fun y hy=>?_)
 ·simp only[List.mem_filter,decide_eq_true_eq]at hy ⊢;exact#[C.b y hy.1,(oI F G (C.lt y hy.1)).mpr hy.2]
 ·simp only[List.mem_filter]at hy;exact T.bi y (C.lt y hy.1)
 ·simp only[List.mem_filter]at hy;exact eN F G (C.lt y hy.1)
set_option synthInstance.maxSize 10000 in
set_option synthInstance.maxHeartbeats 0 in
def j0:∀ n,n<11->∀ m,m<n->∀ y,y<4*n->(decide (y<2*n↔2*n+m<2*n)&&decide (rp n y<rp n (2*n+m)))=decide (2*n<=y/\y<2*n+m) /\
  (y≠n+m->(decide (y<2*n) && !decide (rp n y<rp n (n+m)))=decide (n<=y/\y<n+m))/\(decide (y<2*n↔n+m<2*n)&&decide (rp n y<rp n (n+m)))=(decide (y<2*n)&&decide (rp n y<rp n (n+m))) /\
  (2*n<=y->y<2*n+m->n<=jn n y/\jn n y<n+m)/\(n<=y->y<n+m->2*n<=jn n y/\jn n y<2*n+m):=by decide +kernel
def vb(hn:n<11)(F:Frm n h)(G:Frm n l){Q:List Nat}(C:Cls n h l Q)(hm:m<n)(hq:n+m∉Q):phi n Q (2*n+m)%2=phi n Q (n+m)%2:=by
 have T:=two F G
 have swap:(Q.filter fun y=>decide (2*n<=y/\y<2*n+m)).length=(Q.filter fun y=>decide (n<=y/\y<n+m)).length:=by
  have go:∀ (P R:Nat->Bool),(∀ y,y<4*n->P y=true->R (jn n y)=true)->(Q.filter P).length<=(Q.filter R).length:=fun P R hPR=>by
   have:(Q.filter P).length=((Q.filter P).map (jn n)).length:=by simp
   rw[this];refine d9 ?_ fun y hy=>?_
   ·rw[Qv,Qy];refine List.Pairwise.imp_of_mem ?_ (Qv.mp (C.nd.filter _));intro x y hx hy hne e;rw[List.mem_filter]at hx hy;exact hne (by rw[<-T.ai x (C.lt x hx.1),e,T.ai y (C.lt y hy.1)])
   ·obtain⟨x,hx,rfl⟩:=List.mem_map.mp hy;rw[List.mem_filter]at hx ⊢;exact#[C.a x hx.1,hPR x (C.lt x hx.1) hx.2]
  refine Nat.le_antisymm (go _ _ fun y hy e=>?_) (go _ _ fun y hy e=>?_)
  ·rw[decide_eq_true_eq]at e ⊢;exact(j0 n hn m hm y hy).2.2.2.1 e.1 e.2
  ·rw[decide_eq_true_eq]at e ⊢;exact(j0 n hn m hm y hy).2.2.2.2 e.1 e.2
 have e1:phi n Q (2*n+m)=(Q.filter fun y=>decide (2*n<=y/\y<2*n+m)).length:=bQ fun y hy=>(j0 n hn m hm y (C.lt y hy)).1
 have e2:phi n Q (n+m)+(Q.filter fun y=>decide (n<=y/\y<n+m)).length=(Q.filter fun y=>decide (y<2*n)).length:=by
  rw[gz Q (fun y=>decide (y<2*n)) (fun y=>decide (rp n y<rp n (n+m)))];congr 1
  ·exact bQ fun y hy=>(j0 n hn m hm y (C.lt y hy)).2.2.1
  ·exact(bQ fun y hy=>(j0 n hn m hm y (C.lt y hy)).2.1 fun e=>hq (e▸hy)).symm
 have e3:=vo F G C;lia
def GZ(hn:n<11)(V:Val n h)(W:Val n l)(C:Cls n h l Q)(hx:x<4*n)(hq:x∉Q)(c:Cn (jn n) (rb n h l) x z):z∉Q/\phi n Q z%2=phi n Q x%2:=by
 have F:=V.frm;have G:=W.frm;have T:=two F G
 induction c with
 | refl=>exact#[hq,rfl]
 |@sa y hy ih=>
  obtain⟨i1,i2⟩:=ih;have ly:=hy.lt T hx;have nq:jn n y∉Q:=fun z=>i1 (by have:=C.a _ z;rw[T.ai y ly]at this;exact this);refine#[nq,?_];rw[<-i2];by_cases c1:y<n
  ·have:jn n y=y:=by unfold jn;rw[if_pos c1]
   rw[this]
  ·by_cases c2:y<2*n
   ·have e:y=n+(y-n):=by lia
    have:jn n y=2*n+(y-n):=by rw[e,kJ ⋯];lia
    rw[this];have:=vb hn F G C (m:=y-n) ⋯ (by rw[<-e];exact i1);rw[<-e]at this;exact this
   ·by_cases c3:y<3*n
    ·have e:y=2*n+(y-2*n):=by lia
     have ej:jn n y=n+(y-2*n):=by rw[e,mP ⋯];lia
     have:=vb hn F G C (m:=y-2*n) ⋯ (by rw[<-ej];exact nq);rw[<-e,<-ej]at this;exact this.symm
    ·have:jn n y=y:=by unfold jn;rw[if_neg c1,if_neg c2,if_neg c3]
     rw[this]
 |@sb y hy ih=>
  obtain⟨i1,i2⟩:=ih;have ly:=hy.lt T hx;exact⟨fun z=>i1 (by have:=C.b _ z;rw[T.bi y ly]at this;exact this),by rw[Ik V W C ly i1,i2]⟩
end
section
def CB{Q:List Nat}(nd:Q.Nodup)(hu:u∈Q)(hv:v∈Q)(ne:u≠v)(only:∀ y∈Q,P y=true->y=u\/y=v):(Q.filter P).length=([u,v].filter P).length:=by
 have nz:[u,v].Nodup:=by simp[ne]
 refine Nat.le_antisymm (d9 (nd.filter _) fun y hy=>?_) (d9 (nz.filter _) fun y hy=>?_)
 ·rw[List.mem_filter]at hy ⊢;exact⟨by rcases only y hy.1 hy.2 with e | e<;>simp[e],hy.2⟩
 ·rw[List.mem_filter]at hy ⊢;refine#[?_,hy.2];have:=hy.1;simp only[List.mem_cons,List.not_mem_nil,or_false]at this;rcases this with rfl | rfl<;>assumption
abbrev psi(n p y:Nat):Bool:=(decide (y<n)&&decide (y<rd n p)) || (decide (3*n<=y)&&decide (rd n (y-2*n)<rd n p))
set_option synthInstance.maxSize 10000 in
set_option synthInstance.maxHeartbeats 0 in
def v7:∀ n,n<11->∀ p,p<2*n->∀ y,y<4*n->(p<n->(decide (y<2*n↔p<2*n)&&decide (rp n y<rp n p))=psi n p y) /\
  (¬ p<n->(decide (y<2*n↔p+2*n<2*n)&&decide (rp n y<rp n (p+2*n))&&decide (y<3*n))=decide (2*n<=y/\y<3*n) /\
   (decide (y<2*n↔p+2*n<2*n)&&decide (rp n y<rp n (p+2*n)) && !decide (y<3*n))=(decide (3*n<=y)&&decide (rd n (y-2*n)<rd n p)) /\
   (psi n p y&&decide (y<n))=decide (y<n)/\(psi n p y && !decide (y<n))=(decide (3*n<=y)&&decide (rd n (y-2*n)<rd n p))) /\
  (decide (y<2*n)&&decide (y<n))=decide (y<n)/\(decide (y<2*n) && !decide (y<n))=decide (n<=y/\y<2*n) /\
  (2*n<=y->y<3*n->n<=jn n y/\jn n y<2*n)/\(n<=y->y<2*n->2*n<=jn n y/\jn n y<3*n)/\(psi n p y=true->jn n y=y):=by decide +kernel
def vz(hn:n<11)(F:Frm n h)(G:Frm n l)(C:Cls n h l Q)(hp:p<2*n):phi n Q (out n p)%2=(Q.filter (psi n p)).length%2:=by
 have T:=two F G;have fin:=fun y (hy:y∈Q)=>v7 n hn p hp y (C.lt y hy);by_cases c:p<n
 ·have eo:out n p=p:=by unfold out;rw[if_pos c]
  rw[eo];congr 1;exact bQ fun y hy=>(fin y hy).1 c
 ·have eo:out n p=p+2*n:=by unfold out;rw[if_neg c]
  rw[eo]
  have go:∀ (P R:Nat->Bool),(∀ y,y∈Q->P y=true->R (jn n y)=true)->(Q.filter P).length<=(Q.filter R).length:=fun P R hPR=>by
   have:(Q.filter P).length=((Q.filter P).map (jn n)).length:=by simp
   rw[this];refine d9 ?_ fun y hy=>?_
   ·rw[Qv,Qy];refine List.Pairwise.imp_of_mem ?_ (Qv.mp (C.nd.filter _));intro x y hx hy hne e;rw[List.mem_filter]at hx hy;exact hne (by rw[<-T.ai x (C.lt x hx.1),e,T.ai y (C.lt y hy.1)])
   ·obtain⟨x,hx,rfl⟩:=List.mem_map.mp hy;rw[List.mem_filter]at hx ⊢;exact#[C.a x hx.1,hPR x hx.1 hx.2]
  have swap:(Q.filter fun y=>decide (2*n<=y/\y<3*n)).length=(Q.filter fun y=>decide (n<=y/\y<2*n)).length:=by
   refine Nat.le_antisymm (go _ _ fun y hy e=>?_) (go _ _ fun y hy e=>?_)
   ·rw[decide_eq_true_eq]at e ⊢;exact(fin y hy).2.2.2.2.1 e.1 e.2
   ·rw[decide_eq_true_eq]at e ⊢;exact(fin y hy).2.2.2.2.2.1 e.1 e.2
  have e1:phi n Q (p+2*n)=(Q.filter fun y=>decide (2*n<=y/\y<3*n)).length+(Q.filter fun y=>decide (3*n<=y)&&decide (rd n (y-2*n)<rd n p)).length:=by
   unfold phi;rw[gz Q (fun y=>decide (y<2*n↔p+2*n<2*n)&&decide (rp n y<rp n (p+2*n))) (fun y=>decide (y<3*n)),bQ fun y hy=>((fin y hy).2.1 c).1,bQ fun y hy=>((fin y hy).2.1 c).2.1]
  have e2:(Q.filter (psi n p)).length=(Q.filter fun y=>decide (y<n)).length+(Q.filter fun y=>decide (3*n<=y)&&decide (rd n (y-2*n)<rd n p)).length:=by
   rw[gz Q (psi n p) (fun y=>decide (y<n)),bQ fun y hy=>((fin y hy).2.1 c).2.2.1,bQ fun y hy=>((fin y hy).2.1 c).2.2.2]
  have e3:(Q.filter fun y=>decide (y<2*n)).length=(Q.filter fun y=>decide (y<n)).length+(Q.filter fun y=>decide (n<=y/\y<2*n)).length:=by
   rw[gz Q (fun y=>decide (y<2*n)) (fun y=>decide (y<n)),bQ fun y hy=>(fin y hy).2.2.1,bQ fun y hy=>(fin y hy).2.2.2.1]
  have e4:=vo F G C;rw[e1,e2,swap];rw[e3]at e4;clear e1 e2 e3 swap go fin;lia
def G4(F:Frm n h)(G:Frm n l)(hs:s<2*n):∃ Q,Cls n h l Q/\∀ y,y∈Q↔Cn (jn n) (rb n h l) (out n s) y:=by
 have T:=two F G;obtain⟨k,hk,st,hn⟩:=fW T (aU hs)
 have mem:∀ y,y∈wks (jn n) (rb n h l) (out n s) k↔Cn (jn n) (rb n h l) (out n s) y:=fun y=>by
  rw[oQ];exact#[fun#[i,_,e]=>e▸jI i,fun c=>l3 T (aU hs) st hn (.inl (dD hs)) c]
 refine#[_,#[?_,fun y hy=>((mem y).mp hy).lt T (aU hs),fun y hy=>(mem _).mpr (.sb ((mem y).mp hy)),fun y hy=>(mem _).mpr (.sa ((mem y).mp hy))],mem];unfold wks;rw[Qv,Qy];refine List.Pairwise.imp_of_mem ?_ (List.pairwise_lt_range (n:=k+1));intro i j hi hj hlt;exact l9 T (aU hs) hn hlt (by have:=List.mem_range.mp hj;lia)
def lW(hp:p<2*n)(hq:q<2*n):psi n p (out n q)=decide (rd n q<rd n p):=by
 rw[QJ];unfold psi out;simp only[Bool.and_eq_true,Bool.or_eq_true,decide_eq_true_eq];split
 ·rename_i c
  have:rd n q=q:=by unfold rd;rw[if_pos c]
  rw[this];lia
 ·rename_i c;rw[show q+2*n-2*n=q by lia];lia
def gD(hn:n<=10)(V:Val n h)(W:Val n l):Val n (aB n h l):=by
 have F:=V.frm;have G:=W.frm;have T:=two F G;have FF:=cR F G;refine#[FF,fun q q' hq hq' hc=>?_];obtain⟨c1,c2,c3⟩:=hc;have p1:=bj hq;have s1:=bj hq';unfold rnd at c2 c3;have ep:rd n (rd n q)=q:=bY hq;have es:rd n (rd n q')=q':=bY hq';generalize rd n q=p at *;generalize rd n q'=s at *;have lp:=FF.lt p p1;have ls:=FF.lt s s1;obtain⟨Q,C,mem⟩:=G4 F G s1;have su:out n s∈Q:=(mem _).mpr .refl;have sv:out n (at' (aB n h l) s)∈Q:=(mem _).mpr ((found_iff F G s1 ls (Ne.symm (FF.no s s1))).mp rfl);have suv:out n s≠out n (at' (aB n h l) s):=fun e=>FF.no s s1 (pG e s1 ls).symm
 have only:∀ t,t<2*n->out n t∈Q->t=s\/t=at' (aB n h l) s:=fun t ht hm=>by
  by_cases c:s=t
  ·exact .inl c.symm
  ·exact .inr ((found_iff F G s1 ht c).mpr ((mem _).mp hm)).symm
 have pq:out n p∉Q:=fun z=>by
  rcases only p p1 z with e | e
  ·subst e;lia
  ·subst e;lia
 have pc:=(found_iff F G p1 lp (Ne.symm (FF.no p p1))).mp rfl;obtain⟨_,ph⟩:=GZ ⋯ V W C (aU p1) pq pc;rw[vz ⋯ F G C lp,vz ⋯ F G C p1]at ph
 have cnt2:∀ t,t<2*n->(Q.filter (psi n t)).length=([out n s,out n (at' (aB n h l) s)].filter (psi n t)).length:=fun t ht=>by
  refine CB C.nd su sv suv fun y hy e=>?_;have ly:=C.lt y hy;have:jn n y=y:=(v7 n ⋯ t ht y ly).2.2.2.2.2.2 e;obtain⟨u,hu,rfl⟩:=xD ly this;rcases only u hu hy with e | e
  ·exact .inl (by rw[e])
  ·exact .inr (by rw[e])
 rw[cnt2 p p1,cnt2 _ lp,QF,QF,QF,QF,lW lp s1,lW lp ls,lW p1 s1,lW p1 ls]at ph;rw[if_pos (by rw[decide_eq_true_eq];lia),if_neg (by rw[decide_eq_true_eq];lia),if_neg (by rw[decide_eq_true_eq];lia),if_neg (by rw[decide_eq_true_eq];lia)]at ph;simp at ph
end
section
variable{mx rw dg pl hk ci ft tx rg hu ov fr:Nat}
def Dr.G9(h:Dr T mx rw dg pl hk ci ft tx rg hu ov fr){ns:List Int}(hl:ns.length<=63)(n:Nat){k m:Nat}(hk':k<=1000)(h1:1<=m)(hm:m<=10):∃ f:List Nat,Val m f/\aq T (n+4) fr [.lst (LI ns),.int k,.int m]=some (.tup (L f)) :=
 h.GY hl n hk' h1 hm fun f V=>by
  have W:Val m (fG m f):=by rw[Av V.frm];exact(rV m).val V
  obtain⟨S,_,e⟩:=h.JY (n+1) h1 hm V.frm W.frm;exact#[_,_,gD hm V W,e]
def Dr.rows(D0:Dr T mx rw dg pl hk ci ft tx rg hu ov fr){fs:Nat}(hfs:T[fs]?=some (iH fr)){ns:List Int}(hl:ns.length<=63)(n:Nat){k m q:Nat}(hk':k<=500)(h1:1<=m)(hm:m<=10)(hq:q<=100) :
  ∃ fs':List (List Nat),fs'.length=q/\(∀ f∈fs',Val m f)/\aq T (n+5) fs [.lst (LI ns),.int k,.int m,.int q]=some (.lst (fs'.map fun f=>.tup (L f))) :=
 HS hfs n hq fun i hi=>D0.G9 hl n (k:=k+i) ⋯ h1 hm
end
structure Fld(M:Nat)(a a' b:Nat->Nat)(N:Nat)(c f o:Nat->Nat):Prop where
 T:Two M a b
 T':Two M a' b
 T2:Two N c f
 ol:∀ p,p<N->o p<M
 oi:∀ p q,p<N->q<N->o p=o q->p=q
 fx:∀ x,x<M->a x=x->∃ p,p<N/\x=o p
 fo:∀ p,p<N->a (o p)=o p
 jo:∀ p,p<N->a' (o p)=o (c p)
 jj:∀ x,x<M->a x≠x->a' x=a x
 ff:∀ p q,p<N->q<N->p≠q->(f p=q↔Cn a b (o p) (o q))
 nb:∀ x,x<M->b x≠x
 nf:∀ p,p<N->f p≠p
section
def Fld.up(D:Fld M a a' b N c f o)(hx:x<M)(h:Cn a b x y):Cn a' b x y:=by
 induction h with
 | refl=>exact .refl
 |@sa y hy ih=>
  by_cases e:a y=y
  ·rw[e];exact ih
  ·rw[<-D.jj y (hy.lt D.T hx) e];exact .sa ih
 | @sb y hy ih=>exact .sb ih
def Fld.to(D:Fld M a a' b N c f o)(hp:p<N)(h:Cn c f p q):Cn a' b (o p) (o q):=by
 induction h with
 | refl=>exact .refl
 | @sa y hy ih=>rw[<-D.jo y (hy.lt D.T2 hp)];exact .sa ih
 |@sb y hy ih=>
  have ly:=hy.lt D.T2 hp;exact ih.trans (D.up (D.ol y ly) ((D.ff y _ ly (D.T2.bl y ly) (Ne.symm (D.nf y ly))).mp rfl))
def Fld.one(D:Fld M a a' b N c f o)(hq:q<N)(ht:t<N)(h2:Cn c f p q)(h3:Cn a b (o q) (o t)):Cn c f p t:=by
 by_cases z:q=t
 ·rw[<-z];exact h2
 ·have:=(D.ff q t hq ht z).mpr h3;rw[<-this];exact .sb h2
def Fld.back(D:Fld M a a' b N c f o)(hp:p<N)(h:Cn a' b (o p) y):∃ q,q<N/\Cn c f p q/\Cn a b (o q) y:=by
 induction h with
 | refl=>exact#[p,hp,.refl,.refl]
 |@sa y hy ih=>
  obtain⟨q,h1,h2,h3⟩:=ih;have ly:=h3.lt D.T (D.ol q h1);by_cases e:a y=y
  ·obtain⟨t,ht,rfl⟩:=D.fx y ly e;exact#[c t,D.T2.al t ht,.sa (D.one h1 ht h2 h3),by rw[D.jo t ht];exact .refl]
  ·exact#[q,h1,h2,by rw[D.jj y ly e];exact .sa h3]
 |@sb y hy ih=>
  obtain⟨q,h1,h2,h3⟩:=ih;exact#[q,h1,h2,.sb h3]
def Fld.iff(D:Fld M a a' b N c f o)(hp:p<N)(hq:q<N):Cn c f p q↔Cn a' b (o p) (o q) :=
 ⟨D.to hp,fun h=>by
  obtain⟨t,h1,h2,h3⟩:=D.back hp h
  exact D.one h1 hq h2 h3⟩
def Fld.ring(D:Fld M a a' b N c f o)(hx:x<M)(np:¬ Pth M a b x)(h:Cn a' b x y):Cn a b x y:=by
 induction h with
 | refl=>exact .refl
 |@sa y hy ih=>
  have ly:=ih.lt D.T hx;rw[D.jj y ly fun e=>np ⟨y,ly,.inl e,ih.symm D.T hx⟩];exact .sa ih
 | @sb y hy ih=>exact .sb ih
def Fld.rings(D:Fld M a a' b N c f o){S C:List Nat}(R:bI M a b S)(R':bI N c f C):bI M a' b (S++C.map o):=by
 have np:∀ s∈S,¬ Pth M a b s:=fun s hs ⟨q,h1,h2,h3⟩=>by
  have:=R.ring s hs q (h3.symm D.T h1);rcases h2 with h2 | h2
  ·exact this.1 h2
  ·exact this.2 h2
 refine#[fun s hs=>?_,?_,fun s hs y h=>?_,fun x hx=>?_]
 ·rcases List.mem_append.mp hs with hs | hs
  ·exact R.lt s hs
  ·obtain⟨p,hp,rfl⟩:=List.mem_map.mp hs;exact D.ol p (R'.lt p hp)
 ·rw[QE,Qy];refine#[List.Pairwise.imp_of_mem (fun {s t} hs ht hn h=>hn (D.ring (R.lt s hs) (np s hs) h)) R.nd,List.Pairwise.imp_of_mem (fun {p q} hp hq hn h=>hn ((D.iff (R'.lt p hp) (R'.lt q hq)).mpr h)) R'.nd,fun s hs t ht h=>?_];obtain⟨p,hp,rfl⟩:=List.mem_map.mp ht;have lp:=R'.lt p hp;exact np s hs ⟨o p,D.ol p lp,.inl (D.fo p lp),(D.ring (R.lt s hs) (np s hs) h).symm D.T (R.lt s hs)⟩
 ·rcases List.mem_append.mp hs with hs | hs
  ·have c1:=D.ring (R.lt s hs) (np s hs) h;have g:=R.ring s hs y c1;exact#[by rw[D.jj y (c1.lt D.T (R.lt s hs)) g.1];exact g.1,g.2]
  ·obtain⟨p,hp,rfl⟩:=List.mem_map.mp hs;obtain⟨q,h1,h2,h3⟩:=D.back (R'.lt p hp) h;have ly:=h3.lt D.T (D.ol q h1);refine#[fun e=>?_,D.nb y ly];by_cases z:a y=y
   ·obtain⟨t,ht,rfl⟩:=D.fx y ly z;rw[D.jo t ht]at e;exact(R'.ring p hp t (D.one h1 ht h2 h3)).1 (D.oi _ _ (D.T2.al t ht) ht e)
   ·exact z ((D.jj y ly z).symm.trans e)
 ·by_cases z:Pth M a b x
  ·obtain⟨s,h1,h2,h3⟩:=z;have h2:a s=s:=h2.resolve_right (D.nb s h1);obtain⟨p,hp,rfl⟩:=D.fx s h1 h2;have u:=D.up h1 h3
   rcases R'.all p hp with⟨q,g1,g2,g3⟩ | ⟨q,g1,g2⟩
   ·have g2:=g2.resolve_right (D.nf q g1);exact .inl #[o q,D.ol q g1,.inl (by rw[D.jo q g1,g2]),(D.to g1 g3).trans u]
   ·exact .inr #[o q,List.mem_append.mpr (.inr (List.mem_map.mpr #[q,g1,rfl])),(D.to (R'.lt q g1) g2).trans u]
  ·rcases R.all x hx with h | ⟨s,h1,h2⟩
   ·exact absurd h z
   ·exact .inr #[s,List.mem_append.mpr (.inl h1),D.up (R.lt s h1) h2]
end
def jA(T:Two m a b):∃ S,bI m a b S:=by
 classical
 refine#[(List.range m).filter fun x=>decide ((∀ y,Cn a b x y->a y≠y/\b y≠y)/\∀ y,Cn a b x y->x<=y),fun s hs=>?_,?_,fun s hs y c=>?_,fun x hx=>?_]
 ·exact List.mem_range.mp (List.mem_filter.mp hs).1
 ·refine List.Pairwise.imp_of_mem ?_ (List.pairwise_lt_range.filter _);intro x y hx hy lt c;have hy:=List.mem_filter.mp hy;have lx:=List.mem_range.mp (List.mem_filter.mp hx).1;have:=(of_decide_eq_true hy.2).2 x (c.symm T lx);lia
 ·exact(of_decide_eq_true (List.mem_filter.mp hs).2).1 y c
 ·by_cases p:Pth m a b x
  ·exact .inl p
  ·refine .inr ?_;obtain⟨k,_,hk,hm⟩:=least (P:=fun k=>Cn a b x k) x .refl;have lk:=hk.lt T hx;refine#[k,List.mem_filter.mpr #[List.mem_range.mpr lk,decide_eq_true #[fun y c=>?_,fun y c=>Nat.le_of_not_lt fun z=>hm y z (hk.trans c)]],hk.symm T hx];have cy:=hk.trans c;have ly:=cy.lt T hx;exact#[fun e=>p #[y,ly,.inl e,cy.symm T hx],fun e=>p #[y,ly,.inr e,cy.symm T hx]]
section
def Cn.map{t:Nat->Nat}(T:Two m a b)(ha:∀ x,x<m->t (a x)=a' (t x))(hb:∀ x,x<m->t (b x)=b' (t x))(hx:x<m)(c:Cn a b x y):Cn a' b' (t x) (t y):=by
 induction c with
 | refl=>exact .refl
 | @sa y hy ih=>rw[ha y (hy.lt T hx)];exact .sa ih
 | @sb y hy ih=>rw[hb y (hy.lt T hx)];exact .sb ih
end
section
end
abbrev j3(n x:Nat):Nat:=if x<n then x else if x<2*n then x+n else if x<3*n then x-n else if x<4*n then x+n else if x<5*n then x-n else x
abbrev jB(n x:Nat):Nat:=if x<3*n then x else if x<4*n then x+n else if x<5*n then x-n else x
abbrev r3(n:Nat)(h m l:List Nat)(x:Nat):Nat:=if x<2*n then at' h x else 2*n+rb n m l (x-2*n)
abbrev oB(n p:Nat):Nat:=if p<3*n then p else p+2*n
def bI.part{m M:Nat}{a b a' b' t:Nat->Nat}(T':Two m a' b')(tl:∀ x,x<m->t x<M)(ti:∀ x y,x<m->y<m->t x=t y->x=y)(ha:∀ x,x<m->t (a' x)=a (t x))(hb:∀ x,x<m->t (b' x)=b (t x))(rest:∀ z,z<M->(∃ x,x<m/\z=t x)\/a z=z){S:List Nat}(R:bI m a' b' S):bI M a b (S.map t):=by
 have back:∀ {x w:Nat},x<m->Cn a b (t x) w->∃ v,v<m/\w=t v/\Cn a' b' x v:=fun {x w} hx c=>by
  induction c with
  | refl=>exact#[x,hx,rfl,.refl]
  |sa _ ih=>
   obtain⟨v,h1,rfl,h2⟩:=ih;exact#[_,T'.al v h1,(ha v h1).symm,.sa h2]
  |sb _ ih=>
   obtain⟨v,h1,rfl,h2⟩:=ih;exact#[_,T'.bl v h1,(hb v h1).symm,.sb h2]
 refine#[fun s hs=>?_,?_,fun s hs y c=>?_,fun z hz=>?_]
 ·obtain⟨x,hx,rfl⟩:=List.mem_map.mp hs;exact tl x (R.lt x hx)
 ·rw[Qy];refine List.Pairwise.imp_of_mem (fun {x y} hx hy hn c=>?_) R.nd;obtain⟨v,h1,h2,h3⟩:=back (R.lt x hx) c;exact hn (by rw[ti y v (R.lt y hy) h1 h2];exact h3)
 ·obtain⟨x,hx,rfl⟩:=List.mem_map.mp hs;obtain⟨v,h1,rfl,h3⟩:=back (R.lt x hx) c;have g:=R.ring x hx v h3;exact#[fun e=>g.1 (ti _ _ (T'.al v h1) h1 ((ha v h1).trans e)),fun e=>g.2 (ti _ _ (T'.bl v h1) h1 ((hb v h1).trans e))]
 ·rcases rest z hz with⟨x,hx,rfl⟩ | e
  ·rcases R.all x hx with⟨s,h1,h2,h3⟩ | ⟨s,h1,h2⟩
   ·refine .inl #[t s,tl s h1,?_,h3.map T' ha hb h1];rcases h2 with h2 | h2
    ·exact .inl (by rw[<-ha s h1,h2])
    ·exact .inr (by rw[<-hb s h1,h2])
   ·exact .inr #[t s,List.mem_map.mpr #[s,h1,rfl],h2.map T' ha hb (R.lt s h1)]
  ·exact .inl #[z,hz,.inl e,.refl]
section
def lX(F:Frm n h)(hx:x<4*n):r3 n h m l x=rb n h m x:=by
 unfold r3 rb;by_cases c:x<2*n
 ·rw[if_pos c,if_pos c]
 ·rw[if_neg c,if_neg c,if_pos (by omega)]
def IJ(hx:4*n<=x):r3 n h m l x=4*n+at' l (x-4*n):=by
 unfold r3 rb;rw[if_neg ⋯,if_neg ⋯,show x-2*n-2*n=x-4*n by lia];lia
def oy:r3 n h m l (2*n+x)=2*n+rb n m l x:=by
 unfold r3;rw[if_neg ⋯,show 2*n+x-2*n=x by lia]
def lL(F:Frm n h)(G:Frm n m)(H:Frm n l)(hx:x<6*n):r3 n h m l x<6*n/\r3 n h m l (r3 n h m l x)=x/\r3 n h m l x≠x:=by
 by_cases c:x<2*n
 ·have e:r3 n h m l x=at' h x:=by unfold r3;rw[if_pos c]
  have lt:=F.lt x c;rw[e];refine#[by lia,?_,F.no x c];unfold r3;rw[if_pos lt];exact F.inv x
 ·obtain⟨y,rfl⟩:∃ y,x=2*n+y:=#[x-2*n,by omega]
  have T:=two G H
  have ly:y<4*n:=by lia
  have lt:=T.bl y ly;rw[oy];refine#[by lia,by rw[oy,T.bi y ly],?_];have:=eN G H ly;lia
def rq(F:Frm n h)(G:Frm n m)(H:Frm n l)(jl:∀ x,x<6*n->j x<6*n)(jj:∀ x,x<6*n->j (j x)=x):Two (6*n) j (r3 n h m l):=#[jl,fun x hx=>(lL F G H hx).1,jj,fun x hx=>(lL F G H hx).2.1]
def BR(hp:p<2*n):rb n f g p=at' f p:=by unfold rb;rw[if_pos hp]
def BG:rb n f g (2*n+p)=2*n+at' g p:=by unfold rb;rw[if_neg ⋯,show 2*n+p-2*n=p by lia]
def yw(h1:a x=x)(h2:a (b x)=b x)(h3:b (b x)=x)(c:Cn a b x y):y=x\/y=b x:=by
 induction c with
 | refl=>exact .inl rfl
 |sa _ ih=>
  rcases ih with rfl | rfl
  ·exact .inl h1
  ·exact .inr h2
 |sb _ ih=>
  rcases ih with rfl | rfl
  ·exact .inr rfl
  ·exact .inl h3
set_option synthInstance.maxSize 10000 in
set_option synthInstance.maxHeartbeats 0 in
def BY:∀ n,n<11->∀ x,x<6*n->(jn n x<6*n/\jn n (jn n x)=x)/\(j3 n x<6*n/\j3 n (j3 n x)=x)/\(jB n x<6*n/\jB n (jB n x)=x)/\(jn n x=x->x<n\/3*n<=x)/\(jn n x≠x->j3 n x=jn n x)/\(jB n x=x->x<3*n\/5*n<=x)/\(jB n x≠x->j3 n x=jB n x):=by decide +kernel
set_option synthInstance.maxSize 10000 in
set_option synthInstance.maxHeartbeats 0 in
def BQ:∀ n,n<11->∀ p,p<4*n->(out n p<6*n/\jn n (out n p)=out n p/\j3 n (out n p)=out n (jn n p))/\(oB n p<6*n/\jB n (oB n p)=oB n p/\j3 n (oB n p)=oB n (jn n p)):=by decide +kernel
def fJ(c:¬ p<n):out n p=p+2*n:=by unfold out;rw[if_neg c]
def i7(c:p<n):out n p=p:=by unfold out;rw[if_pos c]
def iO(c:p<3*n):oB n p=p:=by unfold oB;rw[if_pos c]
def lN(c:¬ p<3*n):oB n p=p+2*n:=by unfold oB;rw[if_neg c]
def wz(e:out n p=out n q):p=q:=by
 by_cases c:p<n
 ·rw[i7 c]at e;by_cases d:q<n
  ·rw[i7 d]at e;exact e
  ·rw[fJ d]at e;lia
 ·rw[fJ c]at e;by_cases d:q<n
  ·rw[i7 d]at e;lia
  ·rw[fJ d]at e;lia
def B6(e:oB n p=oB n q):p=q:=by
 by_cases c:p<3*n
 ·rw[iO c]at e;by_cases d:q<3*n
  ·rw[iO d]at e;exact e
  ·rw[lN d]at e;lia
 ·rw[lN c]at e;by_cases d:q<3*n
  ·rw[iO d]at e;lia
  ·rw[lN d]at e;lia
def yV(hn:n<11)(F:Frm n h)(G:Frm n m)(H:Frm n l):Fld (6*n) (jn n) (j3 n) (r3 n h m l) (4*n) (jn n) (rb n (aB n h m) l) (out n):=by
 have FF:=cR F G;have f3:=BY n hn;have f4:=BQ n hn;have T4:Two (4*n) (jn n) (rb n h m):=two F G
 have T4':Two (4*n) (jn n) (r3 n h m l):=#[T4.al,fun x hx=>by rw[lX F hx];exact T4.bl x hx,T4.ai,fun x hx=>by rw[lX F hx,lX F (T4.bl x hx)];exact T4.bi x hx]
 refine⟨rq F G H (fun x hx=>(f3 x hx).1.1) (fun x hx=>(f3 x hx).1.2),rq F G H (fun x hx=>(f3 x hx).2.1.1) (fun x hx=>(f3 x hx).2.1.2),two FF H,
  fun p hp=>(f4 p hp).1.1,fun p q _ _ e=>wz e,fun x hx e=>?_,fun p hp=>(f4 p hp).1.2.1,fun p hp=>(f4 p hp).1.2.2,fun x hx e=>(f3 x hx).2.2.2.2.1 e,fun p q hp hq ne=>?_,fun x hx=>(lL F G H hx).2.2,fun p hp=>eN FF H hp⟩
 ·rcases(f3 x hx).2.2.2.1 e with c | c
  ·exact#[x,by lia,(i7 c).symm]
  ·exact#[x-2*n,by lia,by rw[fJ ⋯];lia]
 ·by_cases c:p<2*n
  ·have lo:=aU c;rw[BR c];constructor
   ·rintro rfl;have lf:=FF.lt p c;exact((found_iff F G c lf ne).mp rfl).map T4 (t:=fun x=>x) (fun x hx=>rfl) (fun x hx=>(lX F hx).symm) lo
   ·intro z;have z:=z.map T4' (t:=fun x=>x) (a':=jn n) (b':=rb n h m) (fun x hx=>rfl) (fun x hx=>lX F hx) lo;have lz:=z.lt T4 lo
    have lq:q<2*n:=by
     by_cases d:q<n
     ·lia
     ·rw[fJ d]at lz;lia
    exact(found_iff F G c lq ne).mpr z
  ·obtain⟨y,rfl⟩:∃ y,p=2*n+y:=#[p-2*n,by lia]
   have ly:y<2*n:=by lia
   have la:=H.lt y ly
   have eo:∀ y,out n (2*n+y)=4*n+y:=fun y=>by rw[fJ ⋯];lia
   have er:∀ y,r3 n h m l (4*n+y)=4*n+at' l y:=fun y=>by rw[IJ ⋯,QI]
   have ej:∀ y,jn n (4*n+y)=4*n+y:=fun y=>by unfold jn;rw[if_neg ⋯,if_neg ⋯,if_neg ⋯]
   rw[BG,eo];constructor
   ·rintro rfl;rw[eo,<-er];exact .sb .refl
   ·intro z;have e2:=(lL (l:=l) F G H (x:=4*n+y) ⋯).2.1;rcases yw (ej y) (by rw[er,ej]) e2 z with w | w
    ·exact absurd (wz ((eo y).trans w.symm)) ne
    ·rw[er,<-eo]at w;exact wz w.symm
def Cu(y:Nat):jB n (2*n+y)=2*n+jn n y:=by
 unfold jB jn;by_cases c:y<n
 ·rw[if_pos c,if_pos ⋯]
 ·rw[if_neg c,if_neg ⋯];by_cases d:y<2*n
  ·rw[if_pos d,if_pos ⋯];lia
  ·rw[if_neg d,if_neg ⋯];by_cases e:y<3*n
   ·rw[if_pos e,if_pos ⋯];lia
   ·rw[if_neg e,if_neg ⋯]
def yI(hn:n<11)(F:Frm n h)(G:Frm n m)(H:Frm n l):Fld (6*n) (jB n) (j3 n) (r3 n h m l) (4*n) (jn n) (rb n h (aB n m l)) (oB n):=by
 have FF:=cR G H;have f3:=BY n hn;have f4:=BQ n hn;have T4:Two (4*n) (jn n) (rb n m l):=two G H
 have eo:∀ y,oB n (2*n+y)=2*n+out n y:=fun y=>by
  by_cases c:y<n
  ·rw[iO ⋯,i7 c]
  ·rw[lN ⋯,fJ c];lia
 have ej:=Cu (n:=n)
 refine⟨rq F G H (fun x hx=>(f3 x hx).2.2.1.1) (fun x hx=>(f3 x hx).2.2.1.2),rq F G H (fun x hx=>(f3 x hx).2.1.1) (fun x hx=>(f3 x hx).2.1.2),two F FF,
  fun p hp=>(f4 p hp).2.1,fun p q _ _ e=>B6 e,fun x hx e=>?_,fun p hp=>(f4 p hp).2.2.1,fun p hp=>(f4 p hp).2.2.2,fun x hx e=>(f3 x hx).2.2.2.2.2.2 e,fun p q hp hq ne=>?_,fun x hx=>(lL F G H hx).2.2,fun p hp=>eN F FF hp⟩
 ·rcases(f3 x hx).2.2.2.2.2.1 e with c | c
  ·exact#[x,by lia,(iO c).symm]
  ·exact#[x-2*n,by lia,by rw[lN ⋯];lia]
 ·by_cases c:p<2*n
  ·have la:=F.lt p c;have eb:∀ {y:Nat},y<2*n->oB n y=y:=fun {y} hy=>iO ⋯
   have er:∀ {y:Nat},y<2*n->r3 n h m l y=at' h y:=fun {y} hy=>by unfold r3;rw[if_pos hy]
   have ejj:∀ {y:Nat},y<2*n->jB n y=y:=fun {y} hy=>by unfold jB;rw[if_pos ⋯]
   rw[BR c,eb c];constructor
   ·rintro rfl;rw[eb la,<-er c];exact .sb .refl
   ·intro z;have e2:=(lL (l:=l) F G H (x:=p) ⋯).2.1;rcases yw (ejj c) (by rw[er c,ejj la]) e2 z with w | w
    ·exact absurd (B6 ((eb c).trans w.symm)) ne
    ·rw[er c,<-eb la]at w;exact B6 w.symm
  ·obtain⟨y,rfl⟩:∃ y,p=2*n+y:=#[p-2*n,by lia]
   have ly:y<2*n:=by lia
   have lo:=aU ly;rw[BG,eo];constructor
   ·rintro rfl;have lf:=FF.lt y ly;rw[eo];exact((found_iff G H ly lf ⋯).mp rfl).map T4 (t:=fun x=>2*n+x) (fun x hx=>(ej x).symm) (fun x hx=>oy.symm) lo
   ·intro z
    have back:∀ {x w:Nat},x<4*n->Cn (jB n) (r3 n h m l) (2*n+x) w->∃ v,w=2*n+v/\Cn (jn n) (rb n m l) x v:=fun {x w} hx cc=>by
     induction cc with
     | refl=>exact#[x,rfl,.refl]
     |sa _ ih=>
      obtain⟨v,rfl,hv⟩:=ih;exact#[_,ej v,.sa hv]
     |sb _ ih=>
      obtain⟨v,rfl,hv⟩:=ih;exact#[_,oy,.sb hv]
    obtain⟨v,hv,cv⟩:=back lo z
    obtain⟨u,rfl⟩:∃ u,q=2*n+u:=⟨q-2*n,by
     by_cases d:q<3*n
     ·rw[iO d]at hv;lia
     ·lia⟩
    rw[eo]at hv;have:v=out n u:=Nat.add_left_cancel hv.symm;subst this;rw[(found_iff G H ly (show u<2*n by lia) ⋯).mpr cv]
def uN(hn:n<11)(F:Frm n h)(G:Frm n m)(H:Frm n l):aB n (aB n h m) l=aB n h (aB n m l):=by
 have A:=cR F G;have B:=cR G H;have C:=cR A H;refine kX dn dn fun p hp=>?_;have lq:=C.lt p hp;have ne:=Ne.symm (C.no p hp);have c1:=((yV hn F G H).iff (aU hp) (aU lq)).mp ((found_iff A H hp lq ne).mp rfl)
 have e:∀ {p:Nat},p<2*n->out n (out n p)=oB n (out n p):=fun {p} hp=>by
  by_cases c:p<n
  ·rw[i7 c,i7 c,iO ⋯]
  ·rw[fJ c,fJ ⋯,lN ⋯]
 rw[e hp,e lq]at c1;exact((found_iff F B hp lq ne).mpr (((yI hn F G H).iff (aU hp) (aU lq)).mpr c1)).symm
def uL(hn:n<11)(F:Frm n h)(G:Frm n m)(H:Frm n l){S1 S2 S3 S4:List Nat}(R1:bI (4*n) (jn n) (rb n h m) S1)(R2:bI (4*n) (jn n) (rb n (aB n h m) l) S2)(R3:bI (4*n) (jn n) (rb n m l) S3)(R4:bI (4*n) (jn n) (rb n h (aB n m l)) S4):S1.length+S2.length=S3.length+S4.length:=by
 have a1:=R1.part (M:=6*n) (a:=jn n) (b:=r3 n h m l) (t:=fun x=>x) (two F G) (fun x hx=>by lia) (fun _ _ _ _ e=>e) (fun _ _=>rfl) (fun x hx=>(lX F hx).symm) (fun z hz=>by
  by_cases c:z<4*n
  ·exact .inl #[z,c,rfl]
  ·exact .inr (by unfold jn;rw[if_neg ⋯,if_neg ⋯,if_neg ⋯]))
 have a3:=R3.part (M:=6*n) (a:=jB n) (b:=r3 n h m l) (t:=fun x=>2*n+x) (two G H) (fun x hx=>by lia) (fun _ _ _ _ e=>by lia) (fun x hx=>(Cu x).symm) (fun x hx=>oy.symm) (fun z hz=>by
  by_cases c:z<2*n
  ·exact .inr (by unfold jB;rw[if_pos ⋯])
  ·exact .inl #[z-2*n,by omega,by lia])
 have f1:=yV hn F G H;have b1:=f1.rings a1 R2;have b2:=(yI hn F G H).rings a3 R4;have:=b1.one f1.T' b2;simpa using this
end
end RM
set_option maxHeartbeats 1000000
namespace RM
open RL RT
section
end
end RM
set_option maxHeartbeats 1000000
namespace RT
open RL
end RT
namespace RM
open RL RT
section
variable{nu pc pa nb un if' cf po rp ir mv rn mk rg jb pu c2 hu:Nat}
end
end RM
set_option maxHeartbeats 1000000
namespace RM
open RL RT
abbrev rgN(n:Nat)(h l:List Nat):Nat:=Classical.epsilon fun r=>∃ S,bI (4*n) (jn n) (rb n h l) S/\S.length=r
section
def iS(F:Frm n h)(G:Frm n l){S:List Nat}(R:bI (4*n) (jn n) (rb n h l) S):rgN n h l=S.length:=by
 have:=Classical.epsilon_spec (p:=fun r=>∃ S,bI (4*n) (jn n) (rb n h l) S/\S.length=r) ⟨_,S,R,rfl⟩;obtain⟨S',R',e⟩:=this;exact e.symm.trans (R'.one (two F G) R)
abbrev de(n:Nat)(a b:List Nat × Nat):List Nat × Nat:=(aB n a.1 b.1,rgN n a.1 b.1+a.2+b.2)
def xm(hn:n<=10){a b c:List Nat × Nat}(A:Frm n a.1)(B:Frm n b.1)(C:Frm n c.1):de n (de n a b) c=de n a (de n b c):=by
 have AB:=cR A B;have BC:=cR B C;obtain⟨S1,R1⟩:=jA (two A B);obtain⟨S2,R2⟩:=jA (two AB C);obtain⟨S3,R3⟩:=jA (two B C);obtain⟨S4,R4⟩:=jA (two A BC);have e:=uL ⋯ A B C R1 R2 R3 R4;rw[<-iS A B R1,<-iS AB C R2,<-iS B C R3,<-iS A BC R4]at e;unfold de;refine Prod.ext (uN ⋯ A B C) ?_;dsimp only;lia
def BF{a:List Nat × Nat}(A:Frm n a.1):de n a (aD n,0)=a:=by
 unfold de;refine Prod.ext (pO A) ?_;dsimp only;rw[iS A (cq n) (pd A)];simp
def mB{a:List Nat × Nat}(A:Frm n a.1):de n (aD n,0) a=a:=by
 unfold de;refine Prod.ext (oZ A) ?_;dsimp only;rw[iS (cq n) A (pT A)];simp
abbrev kQ(n:Nat)(a:List Nat × Nat)(fs:List (List Nat)):List Nat × Nat:=fs.foldl (fun a f=>de n a (f,0)) a
abbrev stk(n:Nat)(fs:List (List Nat)):List Nat × Nat:=kQ n (aD n,0) fs
def Ay(hn:n<=10)(V:∀ f∈fs,Val n f):∀ {a:List Nat × Nat},Val n a.1->Val n (kQ n a fs).1:=by
 induction fs with
 | nil=>exact fun A=>A
 | cons f r ih=>exact fun {a} A=>ih (fun g hg=>V g (by simp[hg])) (a:=de n a (f,0)) (gD hn A (V f (by simp)))
def pX(hn:n<=10)(V:∀ f∈fs,Val n f):Val n (stk n fs).1:=Ay hn V (gB n)
def Ak(hn:n<=10)(V:∀ f∈fs,Val n f):∀ {a:List Nat × Nat},Val n a.1->kQ n a fs=de n a (stk n fs):=by
 induction fs with
 | nil=>exact fun A=>(BF A.frm).symm
 |cons f r ih=>
  intro a A;have Vf:=V f (by simp);have Vr:∀ g∈r,Val n g:=fun g hg=>V g (by simp[hg]);have i1:=ih Vr (a:=de n a (f,0)) (gD hn A Vf);have i2:=ih Vr (a:=de n (aD n,0) (f,0)) (gD hn (gB n) Vf);rw[mB (a:=(f,0)) Vf.frm]at i2;have e1:kQ n a (f::r)=kQ n (de n a (f,0)) r:=rfl;have e2:stk n (f::r)=kQ n (de n (aD n,0) (f,0)) r:=rfl;rw[e1,i1,e2,mB (a:=(f,0)) Vf.frm,i2,xm hn (b:=(f,0)) A.frm Vf.frm (pX hn Vr).frm]
def AY(hn:n<=10)(Vf:Val n f)(Vr:∀ g∈r,Val n g):stk n (f::r)=de n (f,0) (stk n r):=by
 have e2:stk n (f::r)=kQ n (de n (aD n,0) (f,0)) r:=rfl;rw[e2,mB (a:=(f,0)) Vf.frm,Ak hn Vr (a:=(f,0)) Vf]
set_option synthInstance.maxSize 10000 in
set_option synthInstance.maxHeartbeats 0 in
end
end RM
set_option maxHeartbeats 1000000
namespace RT
open RL
end RT
namespace RM
open RL RT
section
end
section
variable{nu pc pa nb un if' cf po rp ir mv:Nat}
end
section
end
section
end
end RM
set_option maxHeartbeats 1000000
namespace RM
open RL RT
section
end
section
variable{nu pc pa nb un if' cf po rp ir mv:Nat}
end
end RM
set_option maxHeartbeats 1000000
namespace RM
open RL RT
section
variable{cl:Cl}
def zU{n:Nat}(h:n<=100):written (.int (n:Nat))=true:=by
 show decide (_<_)=true;rw[decide_eq_true_eq];refine Nat.lt_of_le_of_lt (show((n:Int)).natAbs<=100 by omega) (Qh (show 100<2 ^ 7 by decide) (Nat.pow_le_pow_right ∅ ∅))
end
section
variable{T:List Fn}{nu pc:Nat}
end
end RM
namespace RT
open RL
abbrev oE(f_put_under f_plain f_pegs_of f_check_frame f_check_pegs:Nat):Ss :=
 (.cons (.unp [3,5] (.call f_put_under (.cons (.var 3) (.cons (.var 2) .nil)))) (.cons (.aug 4 .add (.var 5)) .nil))
abbrev fM(f_put_under f_plain f_pegs_of f_check_frame f_check_pegs:Nat):Ss :=
 (.cons (.ife (.cmp .ne (.call f_pegs_of (.cons (.var 2) .nil)) (.var 0)) (.cons (.rais "BadPegs" (.cons (.var 0) .nil)) .nil) .nil) .nil)
abbrev eu(f_put_under f_plain f_pegs_of f_check_frame f_check_pegs:Nat):Ss :=
 (.cons (.exc (.call f_check_frame (.cons (.var 2) .nil))) .nil)
abbrev iQ(f_put_under f_plain f_pegs_of f_check_frame f_check_pegs:Nat):Fn :=
 ⟨2,6,[],[],(.cons (.exc (.call f_check_pegs (.cons (.var 0) .nil))) (.cons (.forr [2] (.seq (.var 1)) (eu f_put_under f_plain f_pegs_of f_check_frame f_check_pegs)) (.cons (.forr [2] (.seq (.var 1)) (fM f_put_under f_plain f_pegs_of f_check_frame f_check_pegs)) (.cons (.asg 3 (.call f_plain (.cons (.var 0) .nil))) (.cons (.asg 4 (.cst (.int 0))) (.cons (.forr [2] (.seq (.var 1)) (oE f_put_under f_plain f_pegs_of f_check_frame f_check_pegs)) (.cons (.ret (.tup (.cons (.var 3) (.cons (.var 4) .nil)))) .nil)))))))⟩
end RT
namespace RM
open RL RT
abbrev fsD(fs:List (List Nat)):List D:=fs.map fun f=>.tup (L f)
abbrev prD(a:List Nat × Nat):D:=.tup [.tup (L a.1),.int (a.2:Nat)]
def eB(f:List Nat):(D.tup (L f)).imm=true:=by simp[D.imm,bD]
def tG:∀ fs:List (List Nat),au (fsD fs)=true
 | []=>rfl
 | f::r=>by
  show((D.tup (L f)).imm&&au (fsD r))=true;rw[eB,tG r];rfl
def yp(a:List Nat × Nat):(prD a).imm=true:=by
 show((D.tup (L a.1)).imm&&((D.int (a.2:Nat)).imm&&true))=true;rw[eB];rfl
def lV(I:List (List Nat)->St->Prop):∀ (xs done:List (List Nat)) (Y:St),(∀ x∈xs,∀ (d:List (List Nat)) (Y:St),I d Y->∃ QS,f (Y.set i (some (.tup (L x))))=some (.nx,QS)/\I (d++[x]) QS)->I done Y->∃ QQ,aS f [i] (fsD xs) Y=some (.nx,QQ)/\I (done++xs) QQ
 | [],done,Y,_,h0=>#[Y,rfl,by simpa using h0]
 | x::r,done,Y,hs,h0=>by
  obtain⟨QS,h1,h2⟩:=hs x (by simp) done Y h0;obtain⟨QQ,h3,h4⟩:=lV I r (done++[x]) QS (fun y hy=>hs y (by simp[hy])) h2;exact#[QQ,pH (eB x) rfl h1 h3,by simpa using h4]
section
variable{nu pc pa nb un if' cf po rp ir mv rn mk rg jb pu c2 hu:Nat}
end
end RM
set_option maxHeartbeats 1000000
namespace RT
open RL
abbrev jr(f_law_hung f_law_plain:Nat):Ss :=
 (.cons (.unp [3,5] (.call f_law_hung (.cons (.var 2) (.cons (.var 3) .nil)))) (.cons (.asg 4 (.bin .add (.var 4) (.var 5))) .nil))
abbrev kr(f_law_hung f_law_plain:Nat):Fn :=
 ⟨2,6,[],[],(.cons (.par 3 4 (.call f_law_plain (.cons (.var 0) .nil)) (.cst (.int 0))) (.cons (.forr [2] (.seq (.rev (.var 1))) (jr f_law_hung f_law_plain)) (.cons (.ret (.tup (.cons (.var 3) (.cons (.var 4) .nil)))) .nil)))⟩
end RT
namespace RM
open RL RT
section
def zb(t8:T[hu]?=some (eC rg))(iG:T[rg]?=some di)(n:Nat)(h1:1<=k)(hk':k<=10)(F:Frm k f)(G:Frm k g) :
  aq T (n+2) hu [.tup (L f),.tup (L g)]=some (prD (aB k f g,rgN k f g)):=by
 obtain⟨inner,i1,i2,i3⟩:=sW (cl:=aq T (n+1)) (fr:=rg) h1 hk' F.len G.len F.lt G.lt
 obtain⟨S,R,e⟩:=nO (cl:=aq T n) h1 hk' F G i2 (fun m=>by
  rw[i1 m]
  exact#[fun#[a,b]=>#[a,fun z=>b ((ke F G a).mpr z)],fun#[a,b]=>#[a,fun z=>b ((ke F G a).mp z)]])
 rw[prD,iS F G R];exact(az t8).trans (i3 _ ((az iG).trans e))
def rF(t8:T[hu]?=some (eC rg))(iG:T[rg]?=some di)(A0:T[pl]?=some dN)(t_st:T[st]?=some (kr hu pl))(n:Nat)(h1:1<=k)(hk:k<=10)(V:∀ f∈fs,Val k f) :
  aq T (n+3) st [.int (k:Nat),.lst (fsD fs)]=some (prD (stk k fs)):=by
 obtain⟨QU,e3,⟨o3,o5,rfl⟩,W3⟩:=lV (f:=ag (aq T (n+2)) [] (jr hu pl)) (i:=2) (fun d Y=>(∃ o o5,Y=[some (.int (k:Nat)),some (.lst (fsD fs)),o,some (.tup (L (stk k d.reverse).1)),some (.int ((stk k d.reverse).2:Nat)),o5])/\∀ f∈d,Val k f) fs.reverse [] [some (.int (k:Nat)),some (.lst (fsD fs)),none,some (.tup (L (aD k))),some (.int ((0:Nat):Int)),none] (fun x hx d Y ⟨⟨o,o5,e⟩,W⟩=>by
  subst e;have Vx:=V x (by simpa using hx);have W':∀ f∈d.reverse,Val k f:=fun f hf=>W f (by simpa using hf)
  have hs:stk k (d++[x]).reverse=de k (x,0) (stk k d.reverse):=by rw[List.reverse_append,List.reverse_singleton,List.singleton_append,AY hk Vx W']
  rw[hs];refine#[_,ot (gd (aa rfl) (aa rfl) (zb t8 iG n h1 hk Vx.frm (pX hk W').frm)) rfl (by simp[au,D.imm,bD]) rfl (aF (aA (aa rfl) (aa rfl) cb) rfl aI),#[some (.tup (L x)),some (.int (rgN k x (stk k d.reverse).1:Nat)),?_],fun f hf=>?_]
  ·show _=[some (D.int (k:Nat)),some (.lst (fsD fs)),some (.tup (L x)),some (.tup (L (aB k x (stk k d.reverse).1))),some (.int ((rgN k x (stk k d.reverse).1+0+(stk k d.reverse).2:Nat):Int)),some (.int (rgN k x (stk k d.reverse).1:Nat))];rw[show((rgN k x (stk k d.reverse).1+0+(stk k d.reverse).2:Nat):Int)=((stk k d.reverse).2:Int)+(rgN k x (stk k d.reverse).1:Nat) by omega];rfl
  ·rcases List.mem_append.mp hf with h | h
   ·exact W f h
   ·rw[List.mem_singleton.mp h];exact Vx) ⟨⟨none,none,rfl⟩,fun f hf=>nomatch hf⟩
 have er:(fsD fs).reverse=fsD fs.reverse:=by unfold fsD;rw[List.map_reverse]
 have es:stk k ([]++fs.reverse).reverse=stk k fs:=by rw[List.nil_append,List.reverse_reverse]
 rw[es]at e3;exact(az t_st).trans (bg rfl rfl (kR (cK (aa rfl) ((az A0).trans (ku hk))) ao (by rw[eB];rfl) (c6 (cG (Ji (aa rfl)) (by rw[er];rfl)) e3 (aZ (d:=prD (stk k fs)) (lr (aC (aa rfl) (aC (aa rfl) bA))) (by unfold bB;rw[yp];rfl)))))
end
def EC{T:List Fn}{nu pc pa nb un if' cf po rp ir mv rn mk rg jb pu:Nat}(t_rn:T[rn]?=some lP)(t_mk:T[mk]?=some kL)(iG:T[rg]?=some (fz mk rn))(t_jb:T[jb]?=some cF)(t_pu:T[pu]?=some (eM rg rn jb po))(C:Ck T nu pc pa nb un if' cf po rp ir mv)(n:Nat)(h1:1<=k)(hk:k<=10)(F:Frm k f)(G:Frm k g) :
  ∃ S:List Nat,bI (4*k) (jn k) (rb k f g) S/\aq T (n+3) pu [.tup (L f),.tup (L g)]=some (.tup [.tup (L (aB k f g)),.int (S.length:Nat)]):=by
 have T2:=two F G
 have hj:∀ x:Nat,x<4*k->ixV (.lst (L (jL k))) (.int (x:Nat))=some (.int (jn k x:Nat)):=fun x hx=>by rw[xQ (by rw[ym];exact hx),Ih hx]
 have hb:∀ x:Nat,x<4*k->ixV (.lst (L (rbL k f g))) (.int (x:Nat))=some (.int (rb k f g x:Nat)):=fun x hx=>by rw[xQ (by rw[vv F G];exact hx),EJ F G hx]
 have r1:∀ (n x:Nat),x<4*k->∃ i,i<4*k/\Stp (jn k) (rb k f g) x i/\(∀ j,j<i->¬ Stp (jn k) (rb k f g) x j)/\aq T (n+1) rn [.lst (L (jL k)),.lst (L (rbL k f g)),.int (x:Nat)]=some (.lst (L (wks (jn k) (rb k f g) x i))):=fun n x hx=>by
  obtain⟨i,a1,a2,a3,a4⟩:=vw (cl:=aq T n) T2 ⋯ hj hb hx;exact#[i,a1,a2,a3,(az t_rn).trans a4]
 have r2:∀ (n x:Nat),x<4*k->∃ i,i<4*k/\Stp (rb k f g) (jn k) x i/\(∀ j,j<i->¬ Stp (rb k f g) (jn k) x j)/\aq T (n+1) rn [.lst (L (rbL k f g)),.lst (L (jL k)),.int (x:Nat)]=some (.lst (L (wks (rb k f g) (jn k) x i))):=fun n x hx=>by
  obtain⟨i,a1,a2,a3,a4⟩:=vw (cl:=aq T n) T2.swap ⋯ hb hj hx;exact#[i,a1,a2,a3,(az t_rn).trans a4]
 obtain⟨S,R,e⟩:=sJ (cl:=aq T (n+1)) (fm:=mk) (fr:=rn) T2 ⋯ (A:=.lst (L (jL k))) (B:=.lst (L (rbL k f g))) (by
  show some (D.int ((L (jL k)).length:Nat))=_
  rw[bH,ym]) hj hb (r1 n) (r2 n) (fun s P ps hs hp=>by
  obtain⟨s',b1,b2⟩:=AX (cl:=aq T n) hs hp
  exact#[s',b1,(az t_mk).trans b2])
 exact#[S,R,(az t_pu).trans (qN h1 hk F G (C.half (n+1) F.len) ((az t_jb).trans (xb hk)) (r1 (n+1)) ((az iG).trans e))]
def CF{T:List Fn}{nu pc pa nb un if' cf po rp ir mv rn mk rg jb pu:Nat}(t_rn:T[rn]?=some lP)(t_mk:T[mk]?=some kL)(iG:T[rg]?=some (fz mk rn))(t_jb:T[jb]?=some cF)(t_pu:T[pu]?=some (eM rg rn jb po))(C:Ck T nu pc pa nb un if' cf po rp ir mv)(n:Nat)(h1:1<=k)(hk:k<=10)(F:Frm k f)(G:Frm k g):aq T (n+3) pu [.tup (L f),.tup (L g)]=some (prD (aB k f g,rgN k f g)):=by
 obtain⟨S,R,e⟩:=EC t_rn t_mk iG t_jb t_pu C n h1 hk F G;rw[e,prD,iS F G R]
def A4{T:List Fn}{nu pc pa nb un if' cf po rp ir mv rn mk rg jb pu:Nat}(t_rn:T[rn]?=some lP)(t_mk:T[mk]?=some kL)(iG:T[rg]?=some (fz mk rn))(t_jb:T[jb]?=some cF)(t_pu:T[pu]?=some (eM rg rn jb po))(C:Ck T nu pc pa nb un if' cf po rp ir mv)(hcp:T[cp]?=some (cZ pc))(hpl:T[pl]?=some (jk cp))(hst:T[st]?=some (iQ pu pl po cf cp))(n:Nat)(h1:1<=k)(hk:k<=10)(V:∀ f∈fs,Val k f) :
  aq T (n+6) st [.int (k:Nat),.lst (fsD fs)]=some (prD (stk k fs)):=by
 obtain⟨QR,e1,o1,rfl⟩:=lV (f:=ag (aq T (n+5)) [] (eu pu pl po cf cp)) (i:=2) (fun _ Y=>∃ o,Y=[some (.int (k:Nat)),some (.lst (fsD fs)),o,none,none,none]) fs [] _ (fun x hx d Y ⟨o,e⟩=>by
  subst e
  exact#[_,nK (cK (aa rfl) (C.check n h1 hk (V x hx))) aI,_,rfl]) ⟨none,rfl⟩
 obtain⟨QS,e2,o2,rfl⟩:=lV (f:=ag (aq T (n+5)) [] (fM pu pl po cf cp)) (i:=2) (fun _ Y=>∃ o,Y=[some (.int (k:Nat)),some (.lst (fsD fs)),o,none,none,none]) fs [] _ (fun x hx d Y ⟨o,e⟩=>by
  subst e
  exact#[_,bR (aW (aJ (cK (aa rfl) (C.half (n+4) (V x hx).frm.len)) (aa rfl) (show bz .ne (.int (k:Nat)) (.int (k:Nat))=some false by rw[x3];simp))) aI,_,rfl]) ⟨o1,rfl⟩
 obtain⟨QU,e3,o3,o5,rfl,W3⟩:=lV (f:=ag (aq T (n+5)) [] (oE pu pl po cf cp)) (i:=2) (fun d Y=>∃ o o5,Y=[some (.int (k:Nat)),some (.lst (fsD fs)),o,some (.tup (L (stk k d).1)),some (.int ((stk k d).2:Nat)),o5]/\Val k (stk k d).1) fs [] [some (.int (k:Nat)),some (.lst (fsD fs)),o2,some (.tup (L (aD k))),some (.int ((0:Nat):Int)),none] (fun x hx d Y ⟨o,o5,e,W⟩=>by
  subst e
  have hs:stk k (d++[x])=de k (stk k d) (x,0):=by unfold stk kQ;rw[List.foldl_append];rfl
  rw[hs]
  exact⟨_,ot (gd (aa rfl) (aa rfl) (CF t_rn t_mk iG t_jb t_pu C (n+2) h1 hk W.frm (V x hx).frm)) rfl (by simp[au,D.imm,bD]) rfl (zQ rfl (aa rfl) cb aI),_,_,by
   show _=[some (D.int (k:Nat)),some (.lst (fsD fs)),some (.tup (L x)),some (.tup (L (aB k (stk k d).1 x))),some (.int ((rgN k (stk k d).1 x+(stk k d).2+0:Nat):Int)),some (.int (rgN k (stk k d).1 x:Nat))];rw[show((rgN k (stk k d).1 x+(stk k d).2+0:Nat):Int)=((stk k d).2:Int)+(rgN k (stk k d).1 x:Nat) by omega]
   rfl,gD hk W (V x hx)⟩) ⟨o2,none,rfl,gB k⟩
 exact(az hst).trans (bg rfl rfl (nK (cK (aa rfl) (C.rm hcp (n+2) h1 hk)) (c6 (cG (aa rfl) rfl) e1 (c6 (cG (aa rfl) rfl) e2 (aF (cK (aa rfl) (C.plain hcp hpl (n+1) h1 hk)) (by simp[aV,D.imm,bD]) (aF ao rfl (c6 (cG (aa rfl) rfl) e3 (aZ (d:=prD (stk k fs)) (lr (aC (aa rfl) (aC (aa rfl) bA))) (by unfold bB;rw[yp];rfl)))))))))
end RM
set_option maxHeartbeats 1000000
namespace K09
open RL RT
abbrev me(f_stacked f_law_kin:Nat):Fn :=
 ⟨2,4,[],[],(.cons (.asg 2 (.cst (.str "told"))) (.cons (.tryc (.cons (.exc (.call f_stacked (.cons (.var 0) (.cons (.var 1) .nil)))) .nil) "RibbonError" 3 (.cons (.asg 2 (.call f_law_kin (.cons (.var 3) .nil))) .nil)) (.cons (.ret (.var 2)) .nil)))⟩
abbrev BZ(f_law_tried f_law_plain f_law_same f_stacked f_law_stacked f_law_frames f_law_digits:Nat):Fn :=
 ⟨1,8,[],[],(.cons (.asg 0 (.slT (.var 0) (.cst (.int 63)))) (.cons (.unp [1,6,7] (.call f_law_digits (.cons (.var 0) (.cons (.cst (.int 62)) (.cons (.lst (.cons (.cst (.int 10)) (.cons (.cst (.int 9)) (.cons (.cst (.int 61)) .nil)))) .nil))))) (.cons (.asg 1 (.bin .add (.cst (.int 1)) (.var 1))) (.cons (.asg 2 (.call f_law_frames (.cons (.var 0) (.cons (.cst (.int 0)) (.cons (.var 1) (.cons (.ix (.lst (.cons (.var 6) (.cons (.var 6) (.cons (.var 7) .nil)))) (.bin .mod (.var 7) (.cst (.int 3)))) .nil)))))) (.cons (.asg 3 (.bi .list (.var 2))) (.cons (.ife (.or (.not (.call f_law_same (.cons (.call f_stacked (.cons (.var 1) (.cons (.var 3) .nil))) (.cons (.call f_law_stacked (.cons (.var 1) (.cons (.var 2) .nil))) .nil)))) (.cmp .ne (.var 3) (.var 2))) (.cons (.ret (.cst (.bl false))) .nil) .nil) (.cons (.asg 2 (.slT (.var 2) (.cst (.int 58)))) (.cons (.asg 4 (.bin .mod (.var 6) (.bin .add (.bi .len (.var 2)) (.cst (.int 1))))) (.cons (.asg 5 (.call f_law_plain (.cons (.bin .add (.cst (.int 1)) (.bin .mod (.var 1) (.cst (.int 10)))) .nil))) (.cons (.ife (.cmp .ne (.call f_law_tried (.cons (.var 1) (.cons (.bin .add (.bin .add (.slT (.var 2) (.var 4)) (.lst (.cons (.var 5) .nil))) (.slF (.var 2) (.var 4))) .nil))) (.cst (.str "BadPegs"))) (.cons (.ret (.cst (.bl false))) .nil) .nil) (.cons (.ret (.cmp .eq (.call f_law_tried (.cons (.var 1) (.cons (.bin .add (.bin .add (.bin .add (.slT (.var 2) (.var 4)) (.lst (.cons (.var 5) .nil))) (.slF (.var 2) (.var 4))) (.lst (.cons (.tup (.cons (.cst (.int 0)) (.cons (.cst (.int 1)) .nil))) .nil))) .nil))) (.cst (.str "BadFrame")))) .nil)))))))))))⟩
abbrev T:List Fn:=[jd,eh 0,cZ 1,i4 4,iE 0,fU,lP,fz 8 6,kL,gU 5 14 3 1 11,dC 9,kE,jk 2,dG,fv 15 13 11,jq,iQ 17 12 11 10 2,eM 7 6 18 11,cF,kG,kP,kZ 20,fE 21,dN,gQ 23,fH,dR 25,jP,di,eC 28,gO,iY 29 30 26 27 24 23 22,iH 31,dA 33,kr 29 23,me 16 19,BZ 35 23 33 16 34 32 22]
open RM
def IH(h:kC ds [a,b,c]):∃ x y z,ds=[x,y,z]/\x<a/\y<b/\z<c:=by
 obtain⟨h1,h2⟩:=h
 match ds,h1 with
 | [x,y,z],_=>exact#[x,y,z,rfl,h2 0 x a rfl rfl,h2 1 y b rfl rfl,h2 2 z c rfl rfl]
def ck:Ck T 0 1 3 4 5 9 10 11 13 14 15:=#[rfl,rfl,rfl,rfl,rfl,rfl,rfl,rfl,rfl,rfl,rfl]
def dr:Dr T 20 21 22 23 24 25 26 27 28 29 30 31:=#[#[rfl,rfl,rfl],rfl,rfl,rfl,rfl,rfl,rfl,rfl,rfl,rfl]
def t6(h1:1<=n)(hn:n<=10)(h1':1<=n')(hn':n'<=10)(ne:n'≠n)(P:∀ x∈pre,Val n x)(Q:∀ x∈post,Val n x)(F:Val n' f) :
  Rc (aq T 28) 16 [.int (n:Nat),.lst (fsD (pre++f::post))] "BadPegs" := by
 obtain⟨QR,e1,o1,rfl⟩:=lV (f:=ag (aq T 27) [] (eu 17 12 11 10 2)) (i:=2) (fun _ Y=>∃ o,Y=[some (.int (n:Nat)),some (.lst (fsD (pre++f::post))),o,none,none,none]) (pre++f::post) [] _ (fun x hx d Y ⟨o,e⟩=>by
  subst e
  have c:aq T 27 10 [.tup (L x)]=some .non:=by
   rcases List.mem_append.mp hx with h | h
   ·exact ck.check 22 h1 hn (P x h)
   ·cases h with
    | head=>exact ck.check 22 h1' hn' F
    | tail _ h=>exact ck.check 22 h1 hn (Q x h)
  exact#[_,nK (cK (aa rfl) c) aI,_,rfl]) ⟨none,rfl⟩
 have ap:fsD (pre++f::post)=fsD pre ++ .tup (L f)::fsD post:=by unfold fsD;rw[QL,List.map_cons]
 obtain⟨k1,QQ,k2,_⟩:=sG (f:=ag (aq T 27) [] (fM 17 12 11 10 2)) (fx:=bP (aq T 27) [] (fM 17 12 11 10 2)) (tg:=[2]) (c := "BadPegs") (post:=fsD post) (d:=.tup (L f)) (fun Y=>∃ o,Y=[some (.int (n:Nat)),some (.lst (fsD (pre++f::post))),o,none,none,none]) (fsD pre) [some (.int (n:Nat)),some (.lst (fsD (pre++f::post))),o1,none,none,none] ⟨o1,rfl⟩ (fun x hx=>by
  obtain⟨a,_,rfl⟩:=List.mem_map.mp hx
  exact eB a) (eB f) (by
  rintro x hx Y ⟨o,rfl⟩;obtain⟨a,ha,rfl⟩:=List.mem_map.mp hx
  exact#[_,_,rfl,bR (aW (aJ (cK (aa rfl) (ck.half 26 (P a ha).frm.len)) (aa rfl) (show bz .ne (.int (n:Nat)) (.int (n:Nat))=some false by rw[x3];simp))) aI,#[_,rfl]]) (by
  rintro Y ⟨o,rfl⟩
  have r:Rr (aq T 27) [] (fM 17 12 11 10 2) [some (.int (n:Nat)),some (.lst (fsD (pre++f::post))),some (.tup (L f)),none,none,none] "BadPegs" _:=C0 (aW (aJ (cK (aa rfl) (ck.half 26 F.frm.len)) (aa rfl) (show bz .ne (.int (n':Nat)) (.int (n:Nat))=some true by rw[x3];simp;omega))) (xW (aC (aa rfl) bA) (by
   rw[Qx,zU (by omega)];rfl))
  exact#[_,rfl,r.1,_,r.2,#[_,rfl]])
 rw[<-ap]at k1 k2;exact wK (fn:=iQ 17 12 11 10 2) rfl ∅ rfl rfl (GR (cK (aa rfl) (ck.rm (cp:=2) rfl 24 h1 hn)) (HN (by rw[fk,cG (aa rfl) rfl];exact e1) (Cp (cG (aa rfl) rfl) k1 k2)))
def AL:aq T 26 9 [.tup (L [0,1])]=some (.bl false):=rfl
def uH(h1:1<=n)(hn:n<=10)(P:∀ x∈pre,∃ k,1<=k/\k<=10/\Val k x) :
  Rc (aq T 28) 16 [.int (n:Nat),.lst (fsD (pre++[[0,1]]))] "BadFrame" := by
 have ap:fsD (pre++[[0,1]])=fsD pre ++ .tup (L [0,1])::[]:=by unfold fsD;rw[QL];rfl
 have r0:Rc (aq T 27) 10 [.tup (L [0,1])] "BadFrame" := wK (fn:=dC 9) rfl ∅ rfl rfl (C0 (aW (f7 (cK (aa rfl) AL))) (xW bA rfl))
 obtain⟨k1,QQ,k2,_⟩:=sG (f:=ag (aq T 27) [] (eu 17 12 11 10 2)) (fx:=bP (aq T 27) [] (eu 17 12 11 10 2)) (tg:=[2]) (c := "BadFrame") (post:=[]) (d:=.tup (L [0,1])) (fun Y=>∃ o,Y=[some (.int (n:Nat)),some (.lst (fsD (pre++[[0,1]]))),o,none,none,none]) (fsD pre) [some (.int (n:Nat)),some (.lst (fsD (pre++[[0,1]]))),none,none,none,none] ⟨none,rfl⟩ (fun x hx=>by
  obtain⟨a,_,rfl⟩:=List.mem_map.mp hx
  exact eB a) (eB _) (by
  rintro x hx Y ⟨o,rfl⟩;obtain⟨a,ha,rfl⟩:=List.mem_map.mp hx;obtain⟨k,a1,a2,A⟩:=P a ha
  exact#[_,_,rfl,nK (cK (aa rfl) (ck.check 22 a1 a2 A)) aI,#[_,rfl]]) (by
  rintro Y ⟨o,rfl⟩;have r:Rr (aq T 27) [] (eu 17 12 11 10 2) [some (.int (n:Nat)),some (.lst (fsD (pre++[[0,1]]))),some (.tup (L [0,1])),none,none,none] "BadFrame" _:=BH (Ke (aa rfl) r0)
  exact#[_,rfl,r.1,_,r.2,#[_,rfl]])
 rw[<-ap]at k1 k2;exact wK (fn:=iQ 17 12 11 10 2) rfl ∅ rfl rfl (GR (cK (aa rfl) (ck.rm (cp:=2) rfl 24 h1 hn)) (Cp (cG (aa rfl) rfl) k1 k2))
def Cr(hc:c∈(["BadPegs", "BadFrame"]:List PySem.Str))(r:Rc (aq T 28) 16 [a,b] c):aq T 29 35 [a,b]=some (.str c):=by
 have k:aq T 28 19 [.exc c]=some (.str c):=(az (fn:=kG) rfl).trans (Ha (by
  simp only[List.mem_cons,List.not_mem_nil,or_false]at hc ⊢;rcases hc with h | h
  ·exact .inl h
  ·exact .inr (.inl h)))
 have s:c7 c "RibbonError" = true:=by unfold c7;simp
 exact(az (fn:=me 16 19) rfl).trans (bg rfl rfl (aF ao rfl (DD (BH (Kq (aa rfl) (aa rfl) r)) s (aF (cK (aa rfl) k) rfl aI) (aZ (aa rfl) rfl))))
def plP(h:a.1.length<=1000):Pl 2 (prD a):=.tup _ _ (show 2<=1000 by decide) fun x hx=>by
 cases hx with
 | head=>exact Pl.L h
 | tail _ hx=>cases hx with
  | head=>exact .int _ _
  | tail _ hx=>cases hx
def IT(hn:n<=10)(hq:fs.length<=1000)(V:∀ f∈fs,Val n f):Pl 2 (.lst (fsD fs)):=.lst _ _ (by unfold fsD;rw[List.length_map];exact hq) fun x hx=>by
 obtain⟨a,ha,rfl⟩:=List.mem_map.mp hx;exact Pl.L (by rw[(V a ha).frm.len];omega)
def GN(a b:List (List Nat)):fsD (a++b)=fsD a++fsD b:=by unfold fsD;rw[QL]
def gF(a:List (List Nat)):(fsD a).length=a.length:=by unfold fsD;rw[List.length_map]
def uW(a:List (List Nat))(k:Nat):fsD (a.take k)=(fsD a).take k:=by unfold fsD;rw[List.map_take]
def CL(a:List (List Nat))(k:Nat):fsD (a.drop k)=(fsD a).drop k:=by unfold fsD;rw[List.map_drop]
def C1(h:k<=n):cutAt n (k:Nat)=k:=by
 unfold cutAt;rw[if_pos (by omega)];omega
def main(ns:List Int)(hl:ns.length<=63):aq T 30 36 [.scr (ns.map D.int)]=some (.bl true):=by
 obtain⟨ds,hd,e1⟩:=dr.digits hl 26 (k:=62) (sizes:=[10,9,61]) (by omega) (by simp) (by simp);obtain⟨p,few,mo,rfl,hp,hw,hm⟩:=IH hd
 have n1:1<=1+p:=by omega
 have n2:1+p<=10:=by omega
 have e0:aE .add (.int 1) (.int (p:Nat))=some (.int ((1+p:Nat):Int)):=rfl;generalize 1+p=n at *
 obtain⟨q,hq,eq⟩:∃ q:Nat,q<=60/\ixV (.lst [.int (few:Nat),.int (few:Nat),.int (mo:Nat)]) (.int ((mo%3:Nat):Int))=some (.int (q:Nat)):=by
  have:mo%3<3:=Nat.mod_lt _ ∅;generalize mo%3=w at *
  match w,this with
  | 0,_=>exact#[few,by omega,rfl]
  | 1,_=>exact#[few,by omega,rfl]
  | 2,_=>exact#[mo,by omega,rfl]
 have em:aE .mod (.int (mo:Nat)) (.int 3)=some (.int ((mo%3:Nat):Int)):=rfl;obtain⟨fs,fl,V,e2⟩:=dr.rows (fs:=32) rfl hl 24 (k:=0) (m:=n) (q:=q) (by omega) n1 n2 (by omega);have e2:aq T 29 32 [.lst (LI ns),.int 0,.int (n:Nat),.int (q:Nat)]=some (.lst (fsD fs)):=e2;have s1:aq T 29 16 [.int (n:Nat),.lst (fsD fs)]=some (prD (stk n fs)):=A4 (rn:=6) (mk:=8) (rg:=7) (jb:=18) (pu:=17) rfl rfl rfl rfl rfl ck (cp:=2) (pl:=12) (st:=16) rfl rfl rfl 23 n1 n2 V;have s2:aq T 29 34 [.int (n:Nat),.lst (fsD fs)]=some (prD (stk n fs)):=rF (rg:=28) (hu:=29) (pl:=23) rfl rfl rfl rfl 26 n1 n2 V;have sm:=sameAll (T:=T) (sm:=33) rfl _ 28 _ (plP (a:=stk n fs) (by rw[(pX n2 V).frm.len];omega)) ∅
 have c58:mL (.lst (fsD fs)) (.int 58)=some (.lst (fsD (fs.take 58))):=by
  show some (D.lst ((fsD fs).take (cutAt (fsD fs).length 58)))=_;rw[uW,gF];congr 2;unfold cutAt;rw[if_pos ∅,show(58:Int).toNat=58 from rfl];by_cases c:fs.length<=58
  ·rw[Nat.min_eq_right c,QB (by rw[gF];exact Qc _),QB (by rw[gF];exact c)]
  ·rw[Nat.min_eq_left (by omega)]
 have V':∀ f∈fs.take 58,Val n f:=fun f hf=>V f (List.mem_of_mem_take hf)
 have gl:(fs.take 58).length<=58:=by rw[List.length_take];omega
 generalize fs.take 58=gs at *
 have ea:aE .mod (.int (few:Nat)) (.int ((gs.length+1:Nat):Int))=some (.int ((few%(gs.length+1):Nat):Int)):=by
  show(if(0:Int)<((gs.length+1:Nat):Int)then _ else none)=_;rw[if_pos (by omega)];rfl
 have ha:few%(gs.length+1)<=gs.length:=by have:=Nat.mod_lt few (show 0<gs.length+1 by omega);omega
 generalize few%(gs.length+1)=a at *;have eo:aE .mod (.int (n:Nat)) (.int 10)=some (.int ((n%10:Nat):Int)):=rfl;have eo':aE .add (.int 1) (.int ((n%10:Nat):Int))=some (.int ((1+n%10:Nat):Int)):=rfl
 have o1:1<=1+n%10:=by omega
 have o2:1+n%10<=10:=by omega
 have on:1+n%10≠n:=by omega
 have ep:=dr.plain 28 (k:=1+n%10) o2;generalize 1+n%10=n' at *;have W:=gB n';have r1:=Cr ∅ (t6 (pre:=gs.take a) (post:=gs.drop a) n1 n2 o1 o2 on (fun x hx=>V' x (List.mem_of_mem_take hx)) (fun x hx=>V' x (List.mem_of_mem_drop hx)) W)
 have r2:=Cr ∅ (uH (pre:=gs.take a++aD n'::gs.drop a) n1 n2 (fun x hx=>by
  rcases List.mem_append.mp hx with h | h
  ·exact#[n,n1,n2,V' x (List.mem_of_mem_take h)]
  ·cases h with
   | head=>exact#[n',o1,o2,W]
   | tail _ h=>exact#[n,n1,n2,V' x (List.mem_of_mem_drop h)]))
 have t1:mL (.lst (fsD gs)) (.int (a:Nat))=some (.lst (fsD (gs.take a))):=by
  show some (D.lst ((fsD gs).take (cutAt (fsD gs).length (a:Nat))))=_;rw[C1 (by rw[gF];exact ha),uW]
 have t2:tJ (.lst (fsD gs)) (.int (a:Nat))=some (.lst (fsD (gs.drop a))):=by
  show some (D.lst ((fsD gs).drop (cutAt (fsD gs).length (a:Nat))))=_;rw[C1 (by rw[gF];exact ha),CL]
 have ad:∀ x y:List (List Nat),x.length<=200->y.length<=200->aE .add (.lst (fsD x)) (.lst (fsD y))=some (.lst (fsD (x++y))):=fun x y hx hy=>by
  show(if(fsD x).length+(fsD y).length<=most then _ else none)=_;rw[if_pos (by rw[gF,gF];unfold most;omega),GN]
 have lt:(gs.take a).length<=58:=by rw[List.length_take];omega
 have ld:(gs.drop a).length<=58:=by rw[List.length_drop];omega
 have im:aK (.lst (fsD fs))=true:=tG fs;have im':aK (.lst (fsD gs))=true:=tG gs
 have row:∀ Y:St,(Y[2]?).bind id=some (.lst (fsD gs))->(Y[4]?).bind id=some (.int (a:Nat))->(Y[5]?).bind id=some (.tup (L (aD n')))->ev (aq T 29) Y (.bin .add (.bin .add (.slT (.var 2) (.var 4)) (.lst (.cons (.var 5) .nil))) (.slF (.var 2) (.var 4)))=some (.lst (fsD (gs.take a++aD n'::gs.drop a))):=fun Y h2 h4 h5=>by
  rw[show gs.take a++aD n'::gs.drop a=(gs.take a++[aD n'])++gs.drop a by simp];exact aA (aA (wI (aa h2) (aa h4) t1) (dU (aC (aa h5) bA)) (ad _ [aD n'] (by omega) (show 1<=200 by decide))) (IB (aa h2) (aa h4) t2) (ad _ _ (by rw[List.length_append,List.length_singleton];omega) (by omega))
 refine(az (fn:=BZ 35 23 33 16 34 32 22) rfl).trans (bg rfl rfl (aF (wI (aa rfl) ao (Iz hl)) (by unfold aV;rw[show aK (.lst (LI ns))=true from yj ns];rfl)
  (ot (my (aa rfl) ao (dU (aC ao (aC ao (aC ao bA)))) e1) rfl rfl rfl
  (aF (aA ao (aa rfl) e0) rfl
  (aF (x_call (aC (aa rfl) (aC ao (aC (aa rfl) (aC (cw (dU (aC (aa rfl) (aC (aa rfl) (aC (aa rfl) bA)))) (aA (aa rfl) ao em) eq) bA)))) e2) (by unfold aV;rw[im];rfl)
  (aF (bJ (aa rfl) rfl) (by unfold aV;rw[im];rfl)
  (bR (aW (tN (f7 (gd (gd (aa rfl) (aa rfl) s1) (gd (aa rfl) (aa rfl) s2) sm)) (aJ (aa rfl) (aa rfl) (BX (IT n2 (by omega) V) ∅))))
  (aF (wI (aa rfl) ao c58) (by unfold aV;rw[im'];rfl)
  (aF (aA (aa rfl) (aA (bJ (aa rfl) rfl) ao (show aE .add (.int ((fsD gs).length:Nat)) (.int 1)=some (.int ((gs.length+1:Nat):Int)) by rw[gF];rfl)) ea) rfl
  (aF (cK (aA ao (aA (aa rfl) ao eo) eo') ep) (by unfold aV;rw[eB];rfl)
  (bR (aW (aJ (gd (aa rfl) (row _ rfl rfl rfl) r1) ao (BX (.str 0 _) ∅)))
  (aZ (aJ (gd (aa rfl) (aA (row _ rfl rfl rfl) (dU (aC (lr (aC ao (aC ao bA))) bA)) (ad _ [[0,1]] (by rw[List.length_append,List.length_cons];omega) ∅)) r2) ao (Ig (.str 0 _) ∅)) rfl))))))))))))
end K09
namespace L2
open PySem PySem.Spec PyProof.Rows
@[reducible]noncomputable def Key:=Sum Int Str
abbrev lH:Key->Value->Bool
 | .inl k,v=>Value.isInt k v
 | .inr x,v=>Value.isStrOf x v
abbrev Jz(w:World):Key->Int
 | .inl k=>hashInt k
 | .inr x=>hashStr w x
def cj:∀ {k:Key} {v:Value},lH k v=true->(∃ i t,k=Sum.inl i/\v=Value.int i t)\/(∃ x t,k=Sum.inr x/\v=Value.str x t)
 | .inl i,v,h=>by
  obtain⟨t,e⟩:=Value.isInt_shape (k:=i) (v:=v) h;exact .inl #[i,t,rfl,e]
 | .inr x,v,h=>by
  obtain⟨t,e⟩:=Value.isStrOf_shape (x:=x) (v:=v) h;exact .inr #[x,t,rfl,e]
def yH(i:Int)(t:Tok):lH (.inl i) (.int i t)=true:=by simp[lH,Value.isInt]
def yn(x:Str)(t:Tok):lH (.inr x) (.str x t)=true:=by simp[lH,Value.isStrOf]
def Ei(a b:Int):decide ((Sum.inl a:Key)=Sum.inl b)=(a == b):=by
 by_cases e:a=b
 ·subst e;simp
 ·have h:¬ (Sum.inl a:Key)=Sum.inl b:=fun q=>e (Sum.inl.inj q);rw[Qk h];exact(beq_eq_false_iff_ne.mpr e).symm
def Fj(a b:Str):decide ((Sum.inr a:Key)=Sum.inr b)=decide (a=b):=by
 by_cases e:a=b
 ·subst e;simp
 ·have h:¬ (Sum.inr a:Key)=Sum.inr b:=fun q=>e (Sum.inr.inj q);rw[Qk h,Qk e]
def F2(a:Int)(b:Str):decide ((Sum.inl a:Key)=Sum.inr b)=false:=Qk (fun q=>nomatch q)
def GA(a:Str)(b:Int):decide ((Sum.inr a:Key)=Sum.inl b)=false:=Qk (fun q=>nomatch q)
abbrev cu(prog:Program)(w:World):PySem.KeyKind prog w Key where
 is:=lH
 hash:=Jz w
 inj:=fun v a b ha hb=>by
  rcases cj ha with⟨i,t,rfl,rfl⟩ | ⟨x,t,rfl,rfl⟩
  ·rcases cj hb with⟨j,u,rfl,e⟩ | ⟨y,u,rfl,e⟩
   ·injection e with e1 _;rw[e1]
   ·exact nomatch e
  ·rcases cj hb with⟨j,u,rfl,e⟩ | ⟨y,u,rfl,e⟩
   ·exact nomatch e
   ·injection e with e1 _;rw[e1]
 byValue:=fun k v h=>by
  rcases cj h with⟨i,t,rfl,rfl⟩ | ⟨x,t,rfl,rfl⟩<;>rfl
 pyHash:=fun hv h=>by
  rcases cj hv with⟨i,t,rfl,rfl⟩ | ⟨x,t,rfl,rfl⟩
  ·exact wpAny_pyHash_int h
  ·exact wpAny_pyHash_str h
 eqBool:=fun hu hv h=>by
  rcases cj hu with⟨i,t,rfl,rfl⟩ | ⟨x,t,rfl,rfl⟩
  ·rcases cj hv with⟨j,u,rfl,rfl⟩ | ⟨y,u,rfl,rfl⟩
   ·rw[Ei]at h;exact wpAny_eqBool_int h
   ·rw[F2]at h;exact SeqAt.EqAt.int_str i t y u _ _ _ _ h
  ·rcases cj hv with⟨j,u,rfl,rfl⟩ | ⟨y,u,rfl,rfl⟩
   ·rw[GA]at h;exact SeqAt.EqAt.str_int x t j u _ _ _ _ h
   ·rw[Fj]at h;exact wpAny_eqBool_str h
 «strs»:=fun k x t v h=>by
  rcases cj h with⟨i,u,rfl,e⟩ | ⟨y,u,rfl,e⟩
  ·exact nomatch e
  ·injection e with e1 _;subst e1;cases v<;>rfl
def uK(prog:Program)(w:World)(i:Int)(t:Tok):(cu prog w).is (.inl i) (.int i t)=true:=yH i t
def uM(prog:Program)(w:World)(x:Str)(t:Tok):(cu prog w).is (.inr x) (.str x t)=true:=yn x t
set_option genInjectivity true in
inductive V where
 | non | bl (b:Bool) | int (i:Int) | str (x:Str) | byt (b:Array UInt8) | flt (b:UInt64) | ref (a:Addr) | ty (n:String)
 deriving DecidableEq
abbrev RelV:V->Value->Prop
 | .non,u=>u=Value.none
 | .bl b,u=>u=Value.bool b
 | .int i,u=>∃ t,u=Value.int i t
 | .str x,u=>∃ t,u=Value.str x t
 | .byt b,u=>∃ t,u=Value.bytes b t
 | .flt b,u=>∃ t,u=Value.float b t
 | .ref a,u=>u=Value.ref a
 | .ty n,u=>u=Value.type n
@[reducible]noncomputable def Vals:List V->List Value->Prop:=Paired RelV
def Vals.length(r:Vals xs us):xs.length=us.length:=Paired.length r
def Vals.get:∀ {xs:List V} {us:List Value} {i:Nat} {x:V},Vals xs us->xs[i]?=some x->∃ u,us[i]?=some u/\RelV x u
 | _,_,_,_,.nil,e=>by simp at e
 | _,_,0,_,.cons r _,e=>by simp at e;subst e;exact#[_,rfl,r]
 | _,_,i+1,x,.cons _ t,e=>by
  obtain⟨u,h1,h2⟩:=Vals.get (i:=i) (x:=x) t (by simpa using e);exact#[u,by simpa using h1,h2]
def Vals.set(r:RelV x u):∀ {xs:List V} {us:List Value} (i:Nat),Vals xs us->Vals (xs.set i x) (us.set i u)
 | _,_,_,.nil=>.nil
 | _,_,0,.cons _ t=>.cons r t
 | _,_,i+1,.cons q t=>.cons q (Vals.set r i t)
def Vals.append:∀ {xs ys:List V} {us ws:List Value},Vals xs us->Vals ys ws->Vals (xs++ys) (us++ws)
 | _,_,_,_,.nil,s=>s
 | _,_,_,_,.cons r t,s=>.cons r (Vals.append t s)
def Vals.take:∀ {xs:List V} {us:List Value} (n:Nat),Vals xs us->Vals (xs.take n) (us.take n)
 | _,_,0,_=>.nil
 | _,_,_+1,.nil=>.nil
 | _,_,n+1,.cons r t=>.cons r (Vals.take n t)
def Vals.drop:∀ {xs:List V} {us:List Value} (n:Nat),Vals xs us->Vals (xs.drop n) (us.drop n)
 | _,_,0,r=>r
 | _,_,_+1,.nil=>.nil
 | _,_,n+1,.cons _ t=>Vals.drop n t
abbrev iu:Option V->Option Value->Prop
 | some v,some u=>RelV v u
 | none,none=>True
 | _,_=>False
abbrev KV:List (κ × V)->List (κ × Value)->Prop:=Paired fun(p:κ × V) (q:κ × Value)=>p.1=q.1/\RelV p.2 q.2
abbrev kV:Key->V
 | .inl i=>.int i
 | .inr x=>.str x
inductive HO where
  | lst (xs:List V)
  | tup (xs:List V)
  | dK (kvs:List (Key × V)) | dT (kvs:List (List Key × V))
  | set (S:Int->Bool) (n:Nat)
  | ins (C dx:Addr) (fs:List (Str × V))
  | own (x:Addr)
  | xd (fs:List (Str × V))
  | met (f x:Addr)
  | rng (lo hi:Int)
  | frz (o:Obj) (u:HO)
  | tbl (ps:Array Value)
  | ext (φ:Heap->Prop)
@[reducible]noncomputable def Hp:=Addr->Option HO
abbrev upd(H:Hp)(a:Addr)(o:HO):Hp:=fun b=>if b=a then some o else H b
def aT:upd H a o a=some o:=by unfold upd;rw[if_pos rfl]
def aO(h:b≠a):upd H a o b=H b:=by unfold upd;rw[if_neg h]
def r9{H:Hp}(h:H a=some o)(h':H b=some u)(d:o≠u):a≠b:=by
 intro e;subst e;rw[h]at h';exact d (Option.some.inj h')
def aR{H:Hp}(h:H a=some o)(h':H b=none):a≠b:=by
 intro e;subst e;rw[h]at h';cases h'
section
variable(P:Program)(w:World)
abbrev bC(H:Hp)(h:Heap)(a:Addr):HO->Prop
 | .lst xs=>xs.length<=sizeLine/\∃ (its:List Value) (n:Nat),Vals xs its/\h.get? a=some { cls:=.type "list",data:=.seq its.toArray n }
 | .tup xs=>xs.length<=sizeLine/\∃ its:List Value,Vals xs its/\IsTup h a its.toArray
 | .dK kvs=>kvs.length<=sizeLine/\(a == sysModules)=false/\∃ vs,KV kvs vs/\h.DictOf (cu P w) a vs
 | .dT kvs=>kvs.length<=sizeLine/\(a == sysModules)=false/\∃ xs:List (List Key × Addr × Value),
   Paired (fun(p:List Key × V) (q:List Key × Addr × Value)=>p.1=q.1/\H q.2.1=some (.tup (p.1.map kV))/\RelV p.2 q.2.2) kvs xs /\
   ∃ o es ep,h.get? a=some o/\o.ExactDict/\o.data=.dict es ep/\es.toList=xs.map (entryOfKey (tupleKind (cu P w)))/\(xs.map (·.1)).Nodup
 | .set S n=>h.SetOf (intKind P w) a S n
 | .ins C dx fs=>H dx=some (.own a)/\fs.length<=1000/\dx≠a/\h.get? a=some (W.instObj C dx) /\
   ∃ mA,h.Ns1 dx mA/\(∀ f,iu (fs.lookup f) (mA f))/\PySem.Within mA (fs.map (·.1))
 | .own _=>∃ o,h.get? a=some o
 | .xd fs=>∃ mA,h.Ns1 a mA/\∀ f,iu (fs.lookup f) (mA f)
 | .rng lo hi=>∃ t u v,h.get? a=some { cls:=.type "range",data:=.fields (List.toArray [.int lo t,.int hi u,.int 1 v]) }
 | .frz o u=>h.get? a=some o/\bC H h a u
 | .tbl ps=>h.get? a=some { cls:=.none,data:=.fields ps }
 | .met f x=>h.get? a=some (W.methodObj (.ref f) (.ref x))
 | .ext φ=>φ h/\(∃ o,h.get? a=some o)/\∀ h1 h2:Heap,φ h1->(∀ o,h1.get? a=some o->h2.get? a=some o)->φ h2
abbrev HOk(H:Hp)(h:Heap):Prop:=∀ a o,H a=some o->bC P w H h a o
end
section
variable{P:Program}{w:World}{H H':Hp}{h h':Heap}{a:Addr}{o:HO}
def bC.lt(x:bC P w H h a o):a<h.objs.size:=by
 cases o with
 | lst xs=>obtain⟨_,_,_,_,e⟩:=x;exact Qg e
 | tup xs=>obtain⟨_,_,_,p⟩:=x;exact p.lt
 | dK kvs=>obtain⟨_,_,_,_,o,_,_,e,_⟩:=x;exact Qg e
 | dT kvs=>obtain⟨_,_,_,_,o,_,_,e,_⟩:=x;exact Qg e
 | set S n=>obtain⟨o,_,_,_,e,_⟩:=x;exact Qg e
 | ins C dx fs=>obtain⟨_,_,_,e,_⟩:=x;exact Qg e
 | own y=>obtain⟨_,e⟩:=x;exact Qg e
 | xd fs=>obtain⟨_,⟨_,_,_,e,_⟩,_⟩:=x;exact Qg e
 | rng lo hi=>obtain⟨_,_,_,e⟩:=x;exact Qg e
 | frz ob u=>obtain⟨e,_⟩:=x;exact Qg e
 | tbl ps=>exact Qg (show h.get? a=some _ from x)
 | met f y=>exact Qg (show h.get? a=some _ from x)
 | ext φ=>obtain⟨_,⟨_,e⟩,_⟩:=x;exact Qg e
def Paired.Aa:∀ {l₁:List α} {l₂:List β},Paired F l₁ l₂->(∀ a b,F a b->G a b)->Paired G l₁ l₂
 | _,_,.nil,_=>.nil
 | _,_,.cons r t,f=>.cons (f _ _ r) (Paired.Aa t f)
def bC.jE(x:bC P w H h a o)(k:∀ b u,(b=a\/H b=some (.own a))->h.get? b=some u->h'.get? b=some u)
 (ho:∀ b,H b=some (.own a)->H' b=some (.own a))(ht:∀ b xs,H b=some (.tup xs)->H' b=some (.tup xs)):bC P w H' h' a o:=by
 induction o with
 | lst xs=>obtain⟨z,its,n,r,e⟩:=x;exact#[z,its,n,r,k _ _ (.inl rfl) e]
 | tup xs=>obtain⟨z,its,r,ob,e,c⟩:=x;exact#[z,its,r,ob,k _ _ (.inl rfl) e,c]
 | dK kvs=>obtain⟨z,y,vs,r,ob,es,ep,e,c⟩:=x;exact#[z,y,vs,r,ob,es,ep,k _ _ (.inl rfl) e,c]
 |dT kvs=>
  obtain⟨z,y,xs,r,ob,es,ep,e,c⟩:=x;exact#[z,y,xs,Paired.Aa r fun p q z=>#[z.1,ht _ _ z.2.1,z.2.2],ob,es,ep,k _ _ (.inl rfl) e,c]
 | set S n=>obtain⟨ob,es,ep,t,e,c⟩:=x;exact#[ob,es,ep,t,k _ _ (.inl rfl) e,c]
 |ins C dx fs=>
  obtain⟨d,z,ne,e,mA,⟨od,es,ep,e2,c⟩,r⟩:=x;exact#[ho _ d,z,ne,k _ _ (.inl rfl) e,mA,#[od,es,ep,k _ _ (.inr d) e2,c],r]
 | own y=>obtain⟨ob,e⟩:=x;exact#[ob,k _ _ (.inl rfl) e]
 | xd fs=>obtain⟨mA,⟨od,es,ep,e,c⟩,r⟩:=x;exact#[mA,#[od,es,ep,k _ _ (.inl rfl) e,c],r]
 | rng lo hi=>obtain⟨t,u,v,e⟩:=x;exact#[t,u,v,k _ _ (.inl rfl) e]
 | frz ob u ih=>obtain⟨e,q⟩:=x;exact#[k _ _ (.inl rfl) e,ih q]
 |tbl ps=>
  have e:h.get? a=some { cls:=.none,data:=.fields ps }:=x;show h'.get? a=some { cls:=.none,data:=.fields ps };exact k a _ (.inl rfl) e
 |met f y=>
  have e:h.get? a=some (W.methodObj (.ref f) (.ref y)):=x;show h'.get? a=some (W.methodObj (.ref f) (.ref y));exact k a _ (.inl rfl) e
 | ext φ=>obtain⟨p,⟨o,e⟩,st⟩:=x;exact#[st _ _ p fun o q=>k _ _ (.inl rfl) q,#[o,k _ _ (.inl rfl) e],st]
def HOk.lt(x:HOk P w H h)(e:H a=some o):a<h.objs.size:=(x a o e).lt
def HOk.fresh(x:HOk P w H h)(e:h.objs.size<=a):H a=none:=by
 cases q:H a with
 | none=>rfl
 | some u=>exact absurd (Qh (x.lt q) e) (QC _)
def HOk.kept(x:HOk P w H h)(k:∀ b u,h.get? b=some u->h'.get? b=some u):HOk P w H h':=fun a o e =>
 (x a o e).jE (fun b u _ q=>k b u q) (fun _ q=>q) fun _ _ q=>q
def HOk.laid(x:HOk P w H h)(k:∀ b u,h.get? b=some u->h'.get? b=some u)(hp:h.objs.size<=a)(new:bC P w (upd H a o) h' a o):HOk P w (upd H a o) h':=fun b u e=>by
 have hn:=x.fresh hp;by_cases hb:b=a
 ·subst hb;rw[aT]at e;cases e;exact new
 ·rw[aO hb]at e
  exact(x b u e).jE (fun c v _ q=>k c v q) (fun c q=>by rw[aO (aR q hn)];exact q) fun c xs q=>by rw[aO (aR q hn)];exact q
end
abbrev Rd(H:Hp)(a:Addr)(u:HO):Prop:=H a=some u\/∃ o,H a=some (.frz o u)
def Rd.ok(r:Rd H a u)(x:HOk P w H h):bC P w H h a u:=by
 rcases r with r | ⟨o,r⟩
 ·exact x a u r
 ·obtain⟨_,q⟩:=x a _ r;exact q
abbrev Mut:Option HO->Prop
 | some (.lst _)=>True
 | some (.dK _)=>True
 | some (.dT _)=>True
 | some (.set _ _)=>True
 | some (.ins _ _ _)=>True
 | some (.ext _)=>True
 | _=>False
section
variable{P:Program}{w:World}{H:Hp}{h h':Heap}{x e:Addr}{o':HO}
def HOk.write(ok:HOk P w H h)(mu:Mut (H x))(he:e=x\/H e=some (.own x))(k:∀ b u,b≠e->h.get? b=some u->h'.get? b=some u)(heo:∃ u,h'.get? e=some u)
 (new:bC P w (upd H x o') h' x o'):HOk P w (upd H x o') h':=fun b u q=>by
 have nown:∀ c y,H c=some (.own y)->c≠x:=fun c y r z=>by subst z;rw[r]at mu;exact mu
 have ntup:∀ c xs,H c=some (.tup xs)->c≠x:=fun c xs r z=>by subst z;rw[r]at mu;exact mu
 by_cases hb:b=x
 ·subst hb;rw[aT]at q;cases q;exact new
 ·rw[aO hb]at q;by_cases hbe:b=e
  ·have q':H b=some (.own x):=by
    rcases he with z | z
    ·exact absurd (hbe.trans z) hb
    ·rw[hbe];exact z
   rw[q]at q';cases q';obtain⟨v,hv⟩:=heo;exact#[v,by rw[hbe];exact hv]
  ·refine(ok b u q).jE (fun c v hc r=>k c v ?_ r) (fun c r=>by rw[aO (nown c b r)];exact r) fun c xs r=>by rw[aO (ntup c xs r)];exact r
   rcases hc with rfl | hc
   ·exact hbe
   ·rintro rfl;rcases he with z | z
    ·exact nown c b hc z
    ·rw[hc]at z;cases z;exact hb rfl
end
structure Un(fs ex:List Addr)(H H':Hp)(h h':Heap):Prop where
 keep:∀ b o,h.get? b=some o->H b=none->b∉fs->b∉ex->h'.get? b=some o
 slot:∀ b o,h.get? b=some o->H b=none->b∈fs->b∉ex->∃ sl,h'.get? b=some { o with slots:=sl }
 free:∀ b o,h.get? b=some o->H b=none->b∉ex->H' b=none
 there:∀ b o,h.get? b=some o->b∉ex->∃ o',h'.get? b=some o'
 eV:∀ b xs,H b=some (.tup xs)->H' b=some (.tup xs)
 da:∀ b o u,H b=some (.frz o u)->H' b=some (.frz o u)
 eQ:∀ b ps,H b=some (.tbl ps)->∃ more,H' b=some (.tbl (ps++more))
section
variable{fs fs' ex ex':List Addr}{H H1 H2:Hp}{h h1 h2 h':Heap}{a x e:Addr}{o:HO}
def Un.any(u:Un fs ex H H1 h h1)(q:h.get? b=some ob)(n:H b=none)(hx:b∉ex):∃ sl,h1.get? b=some { ob with slots:=sl }:=by
 by_cases hb:b∈fs
 ·exact u.slot b ob q n hb hx
 ·exact#[ob.slots,u.keep b ob q n hb hx]
def Un.kept(k:∀ b u,h.get? b=some u->h'.get? b=some u):Un fs ex H H h h' :=
 ⟨fun b ob q _ _ _=>k b ob q,fun b ob q _ _ _=>#[ob.slots,k b ob q],fun _ _ _ n _=>n,fun b ob q _=>#[ob,k b ob q],fun _ _ q=>q,fun _ _ _ q=>q,fun _ ps q=>#[(List.toArray []),by rw[q];simp]⟩
def Un.refl:Un fs ex H H h h:=Un.kept fun _ _ q=>q
def Un.laid(k:∀ b u,h.get? b=some u->h'.get? b=some u)(hp:h.objs.size<=a)(hn:H a=none):Un fs ex H (upd H a o) h h' where
 keep:=fun b u q _ _ _=>k b u q
 slot:=fun b u q _ _ _=>#[u.slots,k b u q]
 free:=fun b u q n _=>by rw[aO (Qn (Qh (Qg q) hp))];exact n
 there:=fun b u q _=>#[u,k b u q]
 eV:=fun b xs q=>by rw[aO (aR q hn)];exact q
 da:=fun b u xs q=>by rw[aO (aR q hn)];exact q
 eQ:=fun b ps q=>#[(List.toArray []),by rw[aO (aR q hn),q];simp]
def Un.write(mu:Mut (H x))(he:e=x\/H e=some (.own x))(k:∀ b u,b≠e->h.get? b=some u->h'.get? b=some u)(heo:∃ u,h'.get? e=some u):Un fs ex H (upd H x o) h h':=by
 have hx:∀ b,H b=none->b≠x:=fun b n z=>by subst z;rw[n]at mu;exact mu
 have hb:∀ b,H b=none->b≠e:=fun b n z=>by
  subst z;rcases he with r | r
  ·exact hx b n r
  ·rw[n]at r;cases r
 have hm:∀ b u,H b=some u->¬ Mut (some u)->b≠x:=fun b u q nm z=>by subst z;rw[q]at mu;exact nm mu
 refine⟨fun b u q n _ _=>k b u (hb b n) q,fun b u q n _ _=>#[u.slots,k b u (hb b n) q],fun b u q n _=>by rw[aO (hx b n)];exact n,fun b u q _=>?_,
  fun b xs q=>by rw[aO (hm b _ q fun z=>z)];exact q,fun b u xs q=>by rw[aO (hm b _ q fun z=>z)];exact q,fun b ps q=>#[(List.toArray []),by rw[aO (hm b _ q fun z=>z),q];simp]⟩
 by_cases hbe:b=e
 ·subst hbe;exact heo
 ·exact#[u,k b u hbe q]
end
abbrev trk(h:Heap)(H:Hp):List Addr:=(List.range h.objs.size).filter fun a=>(H a).isSome
abbrev jN(h:Heap)(H:Hp):Heap:=W.hideAll h (trk h H)
def yy(h:Heap)(H:Hp):(jN h H).objs.size=h.objs.size:=W.hideAll_size _ _
def As(e:h.get? b=some o)(n:H b=none):(jN h H).get? b=some o :=
 W.hideAll_get _ e fun hm=>by
  have q:(H b).isSome=true:=(List.mem_filter.mp hm).2;rw[n]at q;simp at q
def Dm(e:(jN h H).get? b=some o):h.get? b=some o/\H b=none:=by
 have e':h.get? b=some o:=W.of_hideAll (trk h H) e;refine#[e',?_]
 cases q:H b with
 | none=>rfl
 |some x=>
  have hm:b∈trk h H:=List.mem_filter.mpr ⟨List.mem_range.mpr (Qg e'),by simp[q]⟩;have z:(jN h H).get? b=none:=W.hideAll_none (trk h H) hm;rw[z]at e;cases e
structure Mod(K:W.Frag)(mg:Str->Option Value)(base:Heap):Prop where
 kin:K.In base
 glob:base.Ns mainGlobals mg
 blt:∃ mb,base.Ns builtinsNs mb/\∀ x:Str,x ≠ "__name__" -> mb x=bootBuiltins x
 nolimit:base.NoLimit
structure Cx where
 prog:Program
 w:World
 K:W.Frag
 mg:Str->Option Value
 base:Heap
 A:Around
 N:List Str
 s₀:Shared
 H₀:Hp
 env:Env
 outer:List Env
 stack:List Env
 ex:List Addr
 fn:Str->Bool
 calm:Bool
 pn:List (Addr × Obj)
 xe:Value->Shared->Prop
abbrev frs(l:List Env):List Addr:=l.filterMap (·.frame)
@[reducible]noncomputable def Cx.fs(X:Cx):List Addr:=frs X.outer
abbrev Vis(sc:Scope)(x:Str):Prop:=sc.names.lookup x=some .local\/sc.names.lookup x=some .cell\/sc.names.lookup x=some .free
abbrev Loc(sc:Scope)(x:Str):Prop:=sc.names.lookup x=some .local\/sc.names.lookup x=some .cell
abbrev Look(env:Env)(h:Heap)(m:Str->Option Value)(x:Str)(u:Value):Prop :=
 (env.kindOf x=some .local/\m x=some u)\/((env.kindOf x=some .cell\/env.kindOf x=some .free)/\∃ c,env.cells.lookup x=some c/\h.IsCell c (some u))
abbrev HX(X:Cx):Prop:=X.A.handled=none\/∃ h o u vs,X.A.handled=some (.ref h)/\X.H₀ h=some (.frz o u)/\o.data=.fields vs/\vs[2]?=some .none
structure Cx.Ok(X:Cx):Prop where
 mod:Mod X.K X.mg X.base
 kind:X.env.scope.kind=.function
 glob:X.env.globals=mainGlobals
 blt:X.env.builtins=builtinsNs
 above:X.s₀.heap.objs.size<=X.env.locals
 inj:∀ x y c,X.env.cells.lookup x=some c->X.env.cells.lookup y=some c->x=y
 has:∀ x,(X.env.kindOf x=some .cell\/X.env.kindOf x=some .free)->∃ c,X.env.cells.lookup x=some c
 cab:∀ x c,X.fn x=true->X.env.cells.lookup x=some c->X.s₀.heap.objs.size<=c
 hd:(X.calm=true->X.A.handled=none)/\HX X
 frames:X.A.frames=some X.stack
 stk:X.stack=X.outer\/(X.stack=X.env::X.outer/\X.env.frame=some X.env.locals)
 exf:∀ b∈X.ex,b≠X.env.locals/\∀ x c,X.env.cells.lookup x=some c->c≠b
 bs:∀ b o,X.base.get? b=some o->X.s₀.heap.get? b=some o/\X.H₀ b=none
 bsz:X.base.objs.size<=X.s₀.heap.objs.size
 jS:∀ b o,X.base.get? b=some o->b∉X.ex
 jD:∀ b∈X.ex,b∉X.fs
 dZ:X.s₀.heap.FunFrames X.base X.outer
 frf:∀ b∈X.fs,X.H₀ b=none
structure Inv(X:Cx)(pins:List (Addr × Obj))(Y:List (Option V))(H:Hp)(s:Shared):Prop where
 ok:X.Ok
 os:s.os=X.s₀.os
 bare:AllBare s.gens
 base:Un X.fs X.ex X.H₀ H X.s₀.heap s.heap
 loc:∃ m,s.heap.Ns X.env.locals m/\∀ (i:Nat) (x:Str) (v:V),X.N[i]?=some x->Y[i]?=some (some v)->Vis X.env.scope x->∃ u,RelV v u/\Look X.env s.heap m x u
 cell:∀ x c,X.env.cells.lookup x=some c->∃ v,s.heap.IsCell c v
 free:H X.env.locals=none
 cQ:∀ x c,X.env.cells.lookup x=some c->H c=none
 pin:∀ p∈X.pn++pins,s.heap.get? p.1=some p.2/\H p.1=none/\p.1≠X.env.locals/\p.1∉X.fs/\∀ v,p.2.data≠.cell v
 hok:HOk X.prog X.w H s.heap
 len:Y.length=X.N.length
section
variable{X:Cx}{pins:List (Addr × Obj)}{Y:List (Option V)}{H H':Hp}{s:Shared}{h':Heap}
def Cx.Ok.Jn(ok:X.Ok)(e:X.base.get? b=some o):b∉X.fs:=fun hb=>by
 have:=(ok.dZ.mem hb).1;rw[e]at this;cases this
def Inv.bs(I:Inv X pins Y H s):∀ b o,X.base.get? b=some o->s.heap.get? b=some o/\H b=none:=fun b o e =>
 ⟨I.base.keep b o (I.ok.bs b o e).1 (I.ok.bs b o e).2 (I.ok.Jn e) (I.ok.jS b o e),I.base.free b o (I.ok.bs b o e).1 (I.ok.bs b o e).2 (I.ok.jS b o e)⟩
def Inv.bk(I:Inv X pins Y H s):∀ b o,X.base.get? b=some o->s.heap.get? b=some o:=fun b o e=>(I.bs b o e).1
def Inv.mod(I:Inv X pins Y H s):Mod X.K X.mg X.base:=I.ok.mod
def Inv.kIn(I:Inv X pins Y H s):X.K.In s.heap:=I.ok.mod.kin.keeps I.bk
def Inv.lt(I:Inv X pins Y H s):X.env.locals<s.heap.objs.size:=let ⟨_,hn,_⟩:=I.loc;hn.lt
def Inv.sz(I:Inv X pins Y H s):X.s₀.heap.objs.size<=s.heap.objs.size:=Qr I.ok.above (Nat.le_of_lt I.lt)
def Inv.JJ(I:Inv X pins Y H s)(h:s.heap.objs.size<=a):a∉X.fs:=fun hb=>by
 obtain⟨_,o,ho,_⟩:=I.ok.dZ.mem hb;exact absurd (Qh (Qg ho) (Qr I.sz h)) (QC _)
def Inv.cne(I:Inv X pins Y H s):∀ x c,X.env.cells.lookup x=some c->c≠X.env.locals:=fun x c e z=>by
 obtain⟨v,o,ho,hd⟩:=I.cell x c e;obtain⟨m,⟨o',es,ep,ho',hd',_⟩,_⟩:=I.loc;rw[z,ho']at ho;cases ho;rw[hd']at hd;cases hd
def Inv.dZ(I:Inv X pins Y H s):s.heap.FunFrames X.base X.outer:=by
 have all:∀ (l:List Env),(∀ b∈frs l,b∈X.fs)->X.s₀.heap.FunFrames X.base l->s.heap.FunFrames X.base l:=by
  intro l
  induction l with
  | nil=>intro _ _;trivial
  |cons env r ih=>
   intro hs hl;obtain⟨hk,⟨L,o,hf,hn,ho,hd⟩,hr⟩:=hl;have hL:L∈X.fs:=hs L (by unfold frs;rw[List.filterMap_cons,hf];exact Qq);obtain⟨sl,e⟩:=I.base.slot L o ho (I.ok.frf L hL) hL fun z=>I.ok.jD L z hL;exact#[hk,#[L,_,hf,hn,e,hd],ih (fun b hb=>hs b (by unfold frs;rw[List.filterMap_cons,hf];exact Ql _ hb)) hr]
 exact all X.outer (fun _ hb=>hb) I.ok.dZ
def Inv.stack(I:Inv X pins Y H s):s.heap.FunFrames X.base X.stack:=by
 rcases I.ok.stk with e | ⟨e,hf⟩
 ·rw[e];exact I.dZ
 ·rw[e];obtain⟨m,hn,_⟩:=I.loc;refine .cons (by rw[I.ok.kind];decide) hf hn ?_ I.dZ;exact Heap.get?_none_of_le (Qr I.ok.bsz I.ok.above)
def Inv.sE(I:Inv X pins Y H s):∀ b∈frs X.stack,b∈X.env.locals::X.fs:=fun b hb=>by
 rcases I.ok.stk with e | ⟨e,hf⟩
 ·rw[e]at hb;exact Ql _ hb
 ·rw[e]at hb;unfold frs at hb;rw[List.filterMap_cons,hf]at hb;exact hb
def Inv.lj(I:Inv X pins Y H s):∀ b∈frs X.stack,H b=none:=fun b hb=>by
 rcases List.mem_cons.mp (I.sE b hb)with e | hb
 ·rw[e];exact I.free
 ·obtain⟨_,o,ho,_⟩:=I.ok.dZ.mem hb;exact I.base.free b o ho (I.ok.frf b hb) fun z=>I.ok.jD b z hb
def Inv.step{g':Array GenState}{t':Nat}{d':Drawn}{ch:List Addr}(I:Inv X pins Y H s)
 (hch:∀ b∈ch,(b∈X.ex\/X.s₀.heap.objs.size<=b)/\b≠X.env.locals/\(∀ x c,X.env.cells.lookup x=some c->c≠b)/\∀ p∈X.pn++pins,p.1≠b)
 (keep:∀ b o,b≠X.env.locals->b∉X.fs->b∉ch->s.heap.get? b=some o->H b=none->h'.get? b=some o)
 (slot:∀ b o,b≠X.env.locals->b∈X.fs->b∉ch->s.heap.get? b=some o->H b=none->∃ sl,h'.get? b=some { o with slots:=sl })(free:∀ b o,b∉ch->s.heap.get? b=some o->H b=none->H' b=none)
 (there:∀ b o,b∉ch->s.heap.get? b=some o->∃ o',h'.get? b=some o')
 (eV:∀ b xs,H b=some (.tup xs)->H' b=some (.tup xs))(da:∀ b o u,H b=some (.frz o u)->H' b=some (.frz o u))(eQ:∀ b ps,H b=some (.tbl ps)->∃ more,H' b=some (.tbl (ps++more)))
 (ns:∀ m,s.heap.Ns X.env.locals m->h'.Ns X.env.locals m)(hok:HOk X.prog X.w H' h')(hg:AllBare g') :
  Inv X pins Y H' { s with heap:=h',gens:=g',drawn:=d',toks:=t' }:=by
 have neL:∀ b o,X.s₀.heap.get? b=some o->b≠X.env.locals:=fun b o e=>Qn (Qh (Qg e) I.ok.above)
 have neC:∀ b o,X.s₀.heap.get? b=some o->b∉X.ex->b∉ch:=fun b o e hx hb=>by
  rcases(hch b hb).1 with z | z
  ·exact hx z
  ·exact absurd (Qh (Qg e) z) (QC _)
 have cellK:∀ x c,X.env.cells.lookup x=some c->∀ v,s.heap.IsCell c v->h'.IsCell c v:=fun x c e v ⟨o,ho,hd⟩=>by
  have nch:c∉ch:=fun z=>(hch c z).2.2.1 x c e rfl;by_cases hc:c∈X.fs
  ·obtain⟨sl,q⟩:=slot c o (I.cne x c e) hc nch ho (I.cQ x c e);exact#[_,q,hd]
  ·exact#[o,keep c o (I.cne x c e) hc nch ho (I.cQ x c e),hd]
 refine#[I.ok,I.os,hg,#[fun b o e n hb hx=>?_,fun b o e n hb hx=>?_,fun b o e n hx=>?_,fun b o e hx=>?_,fun b xs e=>eV b xs (I.base.eV b xs e),fun b o xs e=>da b o xs (I.base.da b o xs e),fun b ps e=>?_],?_,fun x c e=>?_,?_,fun x c e=>?_,fun p hp=>?_,hok,I.len]
 ·exact keep b o (neL b o e) hb (neC b o e hx) (I.base.keep b o e n hb hx) (I.base.free b o e n hx)
 ·obtain⟨sl,e1⟩:=I.base.slot b o e n hb hx;obtain⟨sl',e2⟩:=slot b _ (neL b o e) hb (neC b o e hx) e1 (I.base.free b o e n hx);exact#[sl',e2]
 ·obtain⟨o',e1⟩:=I.base.there b o e hx;exact free b o' (neC b o e hx) e1 (I.base.free b o e n hx)
 ·obtain⟨o',e1⟩:=I.base.there b o e hx;exact there b o' (neC b o e hx) e1
 ·obtain⟨m1,e1⟩:=I.base.eQ b ps e;obtain⟨m2,e2⟩:=eQ b _ e1;exact#[m1++m2,by rw[e2,Array.append_assoc]]
 ·obtain⟨m,hn,hl⟩:=I.loc;refine#[m,ns m hn,fun i x v e1 e2 e3=>?_];obtain⟨u,r,l⟩:=hl i x v e1 e2 e3;refine#[u,r,?_]
  rcases l with l | ⟨k,c,e,z⟩
  ·exact .inl l
  ·exact .inr #[k,c,e,cellK x c e _ z]
 ·obtain⟨v,z⟩:=I.cell x c e;exact#[v,cellK x c e v z]
 ·obtain⟨m,⟨o,_,_,ho,_⟩,_⟩:=I.loc;exact free _ o (fun z=>(hch _ z).2.1 rfl) ho I.free
 ·obtain⟨v,o,ho,hd⟩:=I.cell x c e;exact free c o (fun z=>(hch c z).2.2.1 x c e rfl) ho (I.cQ x c e)
 ·obtain⟨e,n,ne,nf,d⟩:=I.pin p hp;have nch:p.1∉ch:=fun z=>(hch p.1 z).2.2.2 p hp rfl;exact#[keep p.1 p.2 ne nf nch e n,free p.1 p.2 nch e n,ne,nf,d]
def Inv.un(I:Inv X pins Y H s)(u:Un X.fs [] H H' s.heap h')(hok:HOk X.prog X.w H' h'):Inv X pins Y H' { s with heap:=h',toks:=t' }:=by
 obtain⟨m,⟨o,es,ep,ho,r⟩,_⟩:=id I.loc;obtain⟨sl,hL⟩:=u.any ho I.free (by simp)
 exact I.step (g':=s.gens) (d':=s.drawn) (ch:=[]) (fun _ z=>nomatch z) (fun b o _ hb _ e n=>u.keep b o e n hb (by simp)) (fun b o _ hb _ e n=>u.slot b o e n hb (by simp)) (fun b o _ e n=>u.free b o e n (by simp)) (fun b o _ e=>u.there b o e (by simp)) u.eV u.da u.eQ (fun m' hm=>by
  obtain⟨o',es',ep',ho',r'⟩:=hm;rw[ho]at ho';cases ho'
  exact#[_,es',ep',hL,r']) hok I.bare
def Inv.call(I:Inv X pins Y H s)(u:Un (frs X.stack) ch H H' s.heap h')(hok:HOk X.prog X.w H' h')(hg:AllBare g')
 (hch:∀ b∈ch,(b∈X.ex\/X.s₀.heap.objs.size<=b)/\b≠X.env.locals/\(∀ x c,X.env.cells.lookup x=some c->c≠b)/\∀ p∈X.pn++pins,p.1≠b) :
  Inv X pins Y H' { s with heap:=h',gens:=g',drawn:=d',toks:=t' }:=by
 obtain⟨m,⟨o,es,ep,ho,r⟩,_⟩:=id I.loc;obtain⟨sl,hL⟩:=u.any ho I.free fun z=>(hch _ z).2.1 rfl
 exact I.step (ch:=ch) hch (fun b o hL hb hc e n=>u.keep b o e n (fun z=>(List.mem_cons.mp (I.sE b z)).elim hL hb) hc) (fun b o _ _ hc e n=>u.any e n hc) (fun b o hc e n=>u.free b o e n hc) (fun b o hc e=>u.there b o e hc) u.eV u.da u.eQ (fun m' hm=>by
  obtain⟨o',es',ep',ho',r'⟩:=hm;rw[ho]at ho';cases ho'
  exact#[_,es',ep',hL,r']) hok hg
def Inv.turned(I:Inv X pins Y H s)(k:∀ b o,b≠it->s.heap.get? b=some o->h'.get? b=some o)(hn:H it=none)(hL:it≠X.env.locals)
 (h1:it∈X.ex\/X.s₀.heap.objs.size<=it)(h2:∀ x c,X.env.cells.lookup x=some c->c≠it)(h3:∀ p∈X.pn++pins,p.1≠it):Inv X pins Y H { s with heap:=h',toks:=t' }:=by
 have nit:∀ b u,H b=some u->b≠it:=fun b u e z=>by rw[z,hn]at e;cases e
 refine I.step (g':=s.gens) (d':=s.drawn) (ch:=[it]) (fun b hb=>?_) (fun b o _ _ hc e _=>k b o (fun z=>hc (by simp[z])) e) (fun b o _ _ hc e _=>#[o.slots,k b o (fun z=>hc (by simp[z])) e]) (fun _ _ _ _ n=>n)
  (fun b o hc e=>#[o,k b o (fun z=>hc (by simp[z])) e]) (fun _ _ e=>e) (fun _ _ _ e=>e) (fun b ps e=>#[(List.toArray []),by rw[e];simp]) (fun m hm=>?_) (fun b u e=>?_) I.bare
 ·have e:b=it:=by simpa using hb
  subst e;exact#[h1,hL,h2,h3]
 ·obtain⟨o,es,ep,ho,r⟩:=hm;exact#[o,es,ep,k _ o (Ne.symm hL) ho,r]
 ·refine(I.hok b u e).jE (fun c v hc q=>k c v ?_ q) (fun _ q=>q) fun _ _ q=>q;rcases hc with z | z
  ·rw[z];exact nit b u e
  ·exact nit c _ z
def Inv.tok(I:Inv X pins Y H s)(t:Nat):Inv X pins Y H { s with toks:=t }:=I.un (h':=s.heap) (t':=t) Un.refl I.hok
def Inv.kept(I:Inv X pins Y H s)(k:∀ b u,s.heap.get? b=some u->h'.get? b=some u):Inv X pins Y H { s with heap:=h',toks:=t' }:=I.un (Un.kept k) (I.hok.kept k)
def Inv.laid(I:Inv X pins Y H s)(k:∀ b u,s.heap.get? b=some u->h'.get? b=some u)(hp:s.heap.objs.size<=a)(new:bC X.prog X.w (upd H a o) h' a o) :
  Inv X pins Y (upd H a o) { s with heap:=h',toks:=t' }:=I.un (Un.laid k hp (I.hok.fresh hp)) (I.hok.laid k hp new)
def Inv.write(I:Inv X pins Y H s)(mu:Mut (H x))(he:e=x\/H e=some (.own x))(k:∀ b u,b≠e->s.heap.get? b=some u->h'.get? b=some u)(heo:∃ u,h'.get? e=some u)
 (new:bC X.prog X.w (upd H x o) h' x o):Inv X pins Y (upd H x o) { s with heap:=h',toks:=t' }:=I.un (Un.write mu he k heo) (I.hok.write mu he k heo new)
def Inv.weak(I:Inv X pins Y H s)(hl:QQ.length=Y.length)(w:∀ (i:Nat) v,QQ[i]?=some (some v)->Y[i]?=some (some v)):Inv X pins QQ H s :=
 ⟨I.ok,I.os,I.bare,I.base,let ⟨m,hn,hl'⟩:=I.loc;⟨m,hn,fun i x v e1 e2 e3=>hl' i x v e1 (w i v e2) e3⟩,I.cell,I.free,I.cQ,I.pin,I.hok,hl.trans I.len⟩
def Inv.vn(I:Inv X pins Y H s)(h:∀ p∈pins',s.heap.get? p.1=some p.2/\H p.1=none/\p.1≠X.env.locals/\p.1∉X.fs/\∀ v,p.2.data≠.cell v):Inv X pins' Y H s :=
 ⟨I.ok,I.os,I.bare,I.base,I.loc,I.cell,I.free,I.cQ,fun p hp=>(List.mem_append.mp hp).elim (fun z=>I.pin p (List.mem_append_left _ z)) (h p),I.hok,I.len⟩
def mZ{N:List Str}(hN:N.Nodup){i j:Nat}(a:N[i]?=some x)(b:N[j]?=some x):i=j:=by
 obtain⟨h1,e1⟩:=List.getElem?_eq_some_iff.mp a;obtain⟨h2,e2⟩:=List.getElem?_eq_some_iff.mp b;exact(List.getElem_inj hN).mp (e1.trans e2.symm)
def qB{M:Model}{A:Around}(I:Inv X pins Y H s)(hN:X.N.Nodup)(hi:X.N[i]?=some x)(hx:Loc X.env.scope x)(r:RelV v u)
 (h:∀ s',Inv X pins (Y.set i (some v)) H s'->(∃ a,Heap.SameBut a s.heap s'.heap/\(a=X.env.locals\/X.env.cells.lookup x=some a))->Q () s')(hf:X.fn x=true\/X.env.scope.names.lookup x=some .local):wpAny M A (storeName X.env x u) Q E s:=by
 obtain⟨m,hn,hl⟩:=id I.loc
 have hcls:(X.env.scope.kind == .class || (X.env.scope.kind == .module&&X.env.locals != X.env.globals))=false:=by rw[I.ok.kind];rfl
 have Q2:i<Y.length:=by rw[I.len];exact(List.getElem?_eq_some_iff.mp hi).1
 have cne:=I.cne
 have tracked:∀ {a:Addr} {h':Heap},(∃ o,s.heap.get? a=some o/\H a=none)->Heap.SameBut a s.heap h'->HOk X.prog X.w H h':=fun {a h'} ha hs b ob e=>by
  obtain⟨_,_,hfree⟩:=ha;refine(I.hok b ob e).jE (fun c w' hc q=>(hs.2 c ?_).trans q) (fun _ q=>q) fun _ _ q=>q;rintro rfl;rcases hc with rfl | hc
  ·rw[hfree]at e;cases e
  ·rw[hfree]at hc;cases hc
 rcases hx with hk | hk
 ·refine wpAny_storeName_local hk hn (fun h' hn' hs=>?_) hcls;obtain⟨oL,_,_,hoL,_⟩:=id hn;refine h _ ⟨I.ok,I.os,I.bare,⟨fun b o e n hb hx=>?_,fun b o e n hb hx=>?_,I.base.free,fun b o e hx=>?_,I.base.eV,I.base.da,I.base.eQ⟩,⟨_,hn',fun j y v' e1 e2 e3=>?_⟩,fun y c e=>?_,I.free,I.cQ,fun p hp=>?_,tracked ⟨oL,hoL,I.free⟩ hs,by simpa using I.len⟩ ⟨_,hs,.inl rfl⟩
  ·exact(hs.2 b (Qn (Qh (Qg e) I.ok.above))).trans (I.base.keep b o e n hb hx)
  ·obtain⟨sl,e1⟩:=I.base.slot b o e n hb hx;exact#[sl,(hs.2 b (Qn (Qh (Qg e) I.ok.above))).trans e1]
  ·obtain⟨o',e1⟩:=I.base.there b o e hx;exact#[o',(hs.2 b (Qn (Qh (Qg e) I.ok.above))).trans e1]
  ·by_cases hj:j=i
   ·subst hj;rw[hi]at e1;cases e1;rw[Qj Q2]at e2;cases e2;exact#[u,r,.inl #[hk,by simp]]
   ·rw[Qf (Ne.symm hj)]at e2;obtain⟨u',r',q⟩:=hl j y v' e1 e2 e3;refine#[u',r',?_]
    rcases q with⟨k,e⟩ | ⟨k,c,e,z⟩
    ·refine .inl #[k,?_];have:y≠x:=fun e=>hj (mZ hN e1 (e▸hi));simp[this,e]
    ·exact .inr #[k,c,e,z.sameBut hs (cne y c e)]
  ·obtain⟨w',z⟩:=I.cell y c e;exact#[w',z.sameBut hs (cne y c e)]
  ·obtain⟨e,n,ne,nf,d⟩:=I.pin p hp;exact#[(hs.2 p.1 ne).trans e,n,ne,nf,d]
 ·have hfn:X.fn x=true:=by
   rcases hf with z | z
   ·exact z
   ·rw[z]at hk;cases hk
  obtain⟨c,hc⟩:=I.ok.has x (.inl hk);obtain⟨w',z⟩:=I.cell x c hc;refine wpAny_storeName_cell I.ok.kind hk hc z (fun h' hc' hs=>?_);obtain⟨oc,hoc,hocd⟩:=id z;refine h { s with heap:=h' } ⟨I.ok,I.os,I.bare,⟨fun b o e n hb hx=>?_,fun b o e n hb hx=>?_,I.base.free,fun b o e hx=>?_,I.base.eV,I.base.da,I.base.eQ⟩,⟨m,hn.sameBut hs (Ne.symm (cne x c hc)),fun j y v' e1 e2 e3=>?_⟩,fun y c' e=>?_,I.free,I.cQ,fun p hp=>?_,tracked ⟨oc,hoc,I.cQ x c hc⟩ hs,by simpa using I.len⟩ ⟨c,hs,.inr hc⟩
  ·exact(hs.2 b (Qn (Qh (Qg e) (I.ok.cab x c hfn hc)))).trans (I.base.keep b o e n hb hx)
  ·obtain⟨sl,e1⟩:=I.base.slot b o e n hb hx;exact#[sl,(hs.2 b (Qn (Qh (Qg e) (I.ok.cab x c hfn hc)))).trans e1]
  ·obtain⟨o',e1⟩:=I.base.there b o e hx;exact#[o',(hs.2 b (Qn (Qh (Qg e) (I.ok.cab x c hfn hc)))).trans e1]
  ·by_cases hj:j=i
   ·subst hj;rw[hi]at e1;cases e1;rw[Qj Q2]at e2;cases e2;exact#[u,r,.inr #[.inl hk,c,hc,hc']]
   ·rw[Qf (Ne.symm hj)]at e2;obtain⟨u',r',q⟩:=hl j y v' e1 e2 e3;refine#[u',r',?_]
    rcases q with q | ⟨k,c',e,z'⟩
    ·exact .inl q
    ·refine .inr #[k,c',e,z'.sameBut hs ?_];rintro rfl;exact hj (mZ hN e1 (I.ok.inj _ _ _ e hc▸hi))
  ·by_cases hcc:c'=c
   ·subst hcc;exact#[_,hc']
   ·obtain⟨w2,z2⟩:=I.cell y c' e;exact#[w2,z2.sameBut hs hcc]
  ·obtain⟨e,n,ne,nf,d⟩:=I.pin p hp;refine#[(hs.2 p.1 ?_).trans e,n,ne,nf,d];intro q;rw[q,hoc]at e;have q':oc=p.2:=Option.some.inj e;exact d w' (by rw[<-q'];exact hocd)
def fV(I:Inv X pins Y H s)(hN:X.N.Nodup)(hi:X.N[i]?=some x)(hx:Loc X.env.scope x)(r:RelV v u)
 (h:∀ s',Inv X pins (Y.set i (some v)) H s'->Q () s')(hf:X.fn x=true\/X.env.scope.names.lookup x=some .local):wpAny M A (storeName X.env x u) Q E s :=
 qB I hN hi hx r (fun s' I' _=>h s' I') hf
def Inv.wj(I:Inv X pins Y H s)(ho:s'.os=s.os)(u:Un (frs X.stack) ch H H' s.heap s'.heap)(hok:HOk X.prog X.w H' s'.heap)(hg:AllBare s'.gens)
 (hch:∀ b∈ch,(b∈X.ex\/X.s₀.heap.objs.size<=b)/\b≠X.env.locals/\(∀ x c,X.env.cells.lookup x=some c->c≠b)/\∀ p∈X.pn++pins,p.1≠b):Inv X pins Y H' s':=by
 obtain⟨h',g',d',t',o'⟩:=s';have e:o'=s.os:=ho;subst e;exact I.call (g':=g') (t':=t') (d':=d') u hok hg hch
end
@[reducible]noncomputable def XK:=Value->Option Addr->Hp->Prop
@[reducible]noncomputable def St:=List (Option V)
@[reducible]noncomputable def VK:=V->Hp->Prop
@[reducible]noncomputable def TE:=St->Hp->VK->Prop
@[reducible]noncomputable def TT:=St->Hp->(Bool->Hp->Prop)->Prop
@[reducible]noncomputable def TA:=St->Hp->(List V->Hp->Prop)->Prop
structure Ends where
 nx:St->Hp->Prop
 rt:VK
 bk:St->Hp->Prop:=fun _ _=>False
 ct:St->Hp->Prop:=fun _ _=>False
@[reducible]noncomputable def TS:=Ends->St->Hp->Prop
abbrev EP(X:Cx)(pins:List (Addr × Obj))(Y:St)(Q:VK)(u:Value)(s':Shared):Prop:=∃ v H',Inv X pins Y H' s'/\RelV v u/\Q v H'
abbrev TP(X:Cx)(pins:List (Addr × Obj))(Y:St)(Q:Bool->Hp->Prop)(b:Bool)(s':Shared):Prop:=∃ H',Inv X pins Y H' s'/\Q b H'
abbrev AP(X:Cx)(pins:List (Addr × Obj))(Y:St)(Q:List V->Hp->Prop)(us:List Value)(s':Shared):Prop:=∃ vs H',Inv X pins Y H' s'/\Vals vs us/\Q vs H'
abbrev SP(X:Cx)(pins:List (Addr × Obj))(D:Ends)(f:Flow)(s':Shared):Prop :=
 match f with
 | .next=>∃ QQ H',Inv X pins QQ H' s'/\D.nx QQ H'
 | .brk=>∃ QQ H',Inv X pins QQ H' s'/\D.bk QQ H'
 | .cont=>∃ QQ H',Inv X pins QQ H' s'/\D.ct QQ H'
 | .ret u=>∃ v QQ H',Inv X pins QQ H' s'/\RelV v u/\D.rt v H'
abbrev PE(X:Cx)(e:Expr)(t:TE):Prop :=
 ∀ (pins:List (Addr × Obj)) (s:Shared) (Y:St) (H:Hp) (Q:VK),Inv X pins Y H s->t Y H Q->wpAny (model X.prog X.w) X.A (eval e X.env) (EP X pins Y Q) X.xe s
abbrev PT(X:Cx)(e:Expr)(t:TT):Prop :=
 ∀ (pins:List (Addr × Obj)) (s:Shared) (Y:St) (H:Hp) (Q:Bool->Hp->Prop),Inv X pins Y H s->t Y H Q->wpAny (model X.prog X.w) X.A (isTrue e X.env (eval e X.env)) (TP X pins Y Q) X.xe s
abbrev PW(X:Cx)(e:Expr)(t:TT):Prop :=
 ∀ (whole:Sem Value) (pins:List (Addr × Obj)) (s:Shared) (Y:St) (H:Hp) (Q:Bool->Hp->Prop),Inv X pins Y H s->t Y H Q->wpAny (model X.prog X.w) X.A (isTrue e X.env whole) (TP X pins Y Q) X.xe s
def PW.pt(h:PW X e t):PT X e t:=h _
abbrev PA(X:Cx)(es:List Expr)(t:TA):Prop :=
 ∀ (pos:Pos) (pins:List (Addr × Obj)) (s:Shared) (Y:St) (H:Hp) (Q:List V->Hp->Prop),Inv X pins Y H s->t Y H Q->wpAny (model X.prog X.w) X.A (spliced (backTo pos (starEach es X.env))) (AP X pins Y Q) X.xe s
abbrev PS(X:Cx)(st:Stmt)(t:TS):Prop :=
 ∀ (pins:List (Addr × Obj)) (s:Shared) (Y:St) (H:Hp) (D:Ends),Inv X pins Y H s->t D Y H->wpAny (model X.prog X.w) X.A (exec st X.env) (SP X pins D) X.xe s
abbrev PSs(X:Cx)(st:List Stmt)(t:TS):Prop :=
 ∀ (pins:List (Addr × Obj)) (s:Shared) (Y:St) (H:Hp) (D:Ends),Inv X pins Y H s->t D Y H->wpAny (model X.prog X.w) X.A (execs st X.env) (SP X pins D) X.xe s
def thn(h:wpAny M A t Q E s)(hQ:∀ a s,Q a s->Q' a s):wpAny M A t Q' E s:=wpAny_mono h hQ fun _ _ x=>x
section
variable{X:Cx}
abbrev j8(i:Nat):TE:=fun Y H Q=>∃ v,Y[i]?=some (some v)/\Q v H
abbrev tC(v:V):TE:=fun _ H Q=>Q v H
def i5(hN:X.N[i]?=some x)(hv:Vis X.env.scope x)(hd:(x == ("__debug__" : Str))=false)(hcd:(x == ("__classdict__" : Str))=false):PE X (.Name x pos) (j8 i):=by
 kt_k;obtain⟨v,e,h⟩:=h;obtain⟨m,hn,hl⟩:=I.loc;obtain⟨u,r,l⟩:=hl i x v hN e hv
 have fin:EP X pins Y Q u s:=#[v,H,I,r,h]
 rcases l with⟨hk,hm⟩ | ⟨hk,c,hc,hcell⟩
 ·exact wpAny_Name (wpAny_loadName_local I.ok.kind hk hn hm fin) hd
 ·rcases hk with hk | hk
  ·exact wpAny_Name (wpAny_loadName_cell I.ok.kind hk hc hcell fin) hd
  ·exact wpAny_Name (wpAny_loadName_free I.ok.kind hk hc hcell fin hcd) hd
def sA:PE X (.Constant (.int i) j pos) (tC (.int i)):=fun _ _ _ H _ I h=>wpAny_Constant_int ⟨.int i,H,I.tok _,⟨_,rfl⟩,h⟩
def Ic:PE X (.Constant (.bool b) j pos) (tC (.bl b)):=fun _ _ _ H _ I h=>Constant_bool ⟨.bl b,H,I,rfl,h⟩
def u9:PE X (.Constant .none j pos) (tC .non):=fun _ _ _ H _ I h=>Constant_none ⟨.non,H,I,rfl,h⟩
def uv:PE X (.Constant (.str x) j pos) (tC (.str x)):=fun _ _ _ H _ I h=>Calls.Constant_str ⟨.str x,H,I.tok _,⟨_,rfl⟩,h⟩
abbrev Gl(X:Cx)(x:Str):Prop:=X.env.kindOf x=some .globalImplicit
def hV(I:Inv X pins Y H s)(hg:Gl X x)(hm:X.mg x=some u)(h:Q u s)
 (hd:(x == ("__debug__" : Str))=false):wpAny (model X.prog X.w) X.A (eval (.Name x pos) X.env) Q E s :=
 Calls.Name_function_global I.ok.kind hg (Calls.loadGlobal_global (by rw[I.ok.glob];exact I.mod.glob.keeps I.bk) hm h) hd
def iA(I:Inv X pins Y H s)(hg:Gl X x)(hm:X.mg x=none)(hv:bootBuiltins x=some u)(h:Q u s)
 (hn:x ≠ "__name__")(hd:(x == ("__debug__" : Str))=false):wpAny (model X.prog X.w) X.A (eval (.Name x pos) X.env) Q E s:=by
 obtain⟨mb,h1,h2⟩:=I.mod.blt;exact Calls.Name_function_global I.ok.kind hg (Calls.loadGlobal_builtin (by rw[I.ok.glob];exact I.mod.glob.keeps I.bk) hm (by rw[I.ok.blt];exact h1.keeps I.bk) ((h2 x hn).trans hv) h) hd
def vG(hg:Gl X x)(hm:X.mg x=some u)(r:RelV v u)(hd:(x == ("__debug__" : Str))=false):PE X (.Name x pos) (tC v) :=
 fun _ _ _ H _ I h=>hV I hg hm ⟨v,H,I,r,h⟩ hd
def vy(hg:Gl X x)(hm:X.mg x=none)(hv:bootBuiltins x=some u)(r:RelV v u)(hn:x ≠ "__name__")(hd:(x == ("__debug__" : Str))=false):PE X (.Name x pos) (tC v) :=
 fun _ _ _ H _ I h=>iA I hg hm hv ⟨v,H,I,r,h⟩ hn hd
variable{a b:Expr}{ta tb:TE}{pos:Pos}
abbrev PC(X:Cx)(op:CmpOp)(a b:Expr)(t:TE):Prop :=
 ∀ (pins:List (Addr × Obj)) (s:Shared) (Y:St) (H:Hp) (Q:VK),Inv X pins Y H s->t Y H Q ->
  wpAny (model X.prog X.w) X.A (eval a X.env) (fun v s₁=>wpAny (model X.prog X.w) X.A (eval b X.env) (fun u s₂=>wpAny (model X.prog X.w) X.A (compareOp op v u) (EP X pins Y Q) X.xe s₂) X.xe s₁) X.xe s
abbrev tB(t:TE):TT:=fun Y H Q=>t Y H fun x H1=>∃ c,x=.bl c/\Q c H1
def Gv(h:PC X op a b t)(h1:behindInMarks op b=false):PE X (.Compare a [op] [b] pos) t:=fun pins s Y H Q I hw=>wpAny_Compare1 (h pins s Y H Q I hw) h1
def Fl(h:PC X op a b t)(h1:behindInMarks op b=false):PT X (.Compare a [op] [b] pos) (tB t):=by
 intro pins s Y H Q I hw;refine wpAny_isTrue_Compare1 (thn (h pins s Y H _ I hw) fun v s1 h1=>thn h1 fun u s2 h2=>thn h2 fun c s3 ⟨x,H1,I1,r1,q1⟩=>?_) h1;obtain⟨d,rfl,q⟩:=q1;cases r1;exact wpAny_truthy_bool ⟨H1,I1,q⟩
variable{tA tB':TT}{rest:List Expr}
abbrev JZ(t u:TT):TT:=fun Y H Q=>t Y H fun c H1=>if c=true then u Y H1 Q else Q false H1
abbrev tOr(t u:TT):TT:=fun Y H Q=>t Y H fun c H1=>if c=true then Q true H1 else u Y H1 Q
abbrev Ki(t:TT):TT:=fun Y H Q=>t Y H fun c H1=>Q (!c) H1
def D9(ha:PT X a tA):PW X (.BoolOp .And [a] pos) tA:=by
 intro wh pins s Y H Q I h;refine isTrue_and (thn (ha pins s Y H Q I h) fun c s1 e=>?_)
 cases c with
 | true=>exact isTrue_and_nil e
 | false=>exact e
def HR(ha:PT X a tA):PW X (.BoolOp .Or [a] pos) tA:=by
 intro wh pins s Y H Q I h;refine isTrue_or (thn (ha pins s Y H Q I h) fun c s1 e=>?_)
 cases c with
 | false=>exact isTrue_or_nil e
 | true=>exact e
def En(ha:PT X a tA)(hb:PW X (.BoolOp .And (b::rest) pos) tB'):PW X (.BoolOp .And (a::b::rest) pos) (JZ tA tB'):=by
 intro wh pins s Y H Q I h;refine isTrue_and (thn (ha pins s Y H _ I h) fun c s1 ⟨H1,I1,q1⟩=>?_)
 cases c with
 | true=>exact hb wh pins s1 Y H1 Q I1 q1
 | false=>exact#[H1,I1,q1]
def Jj(ha:PT X a tA)(hb:PW X (.BoolOp .Or (b::rest) pos) tB'):PW X (.BoolOp .Or (a::b::rest) pos) (tOr tA tB'):=by
 intro wh pins s Y H Q I h;refine isTrue_or (thn (ha pins s Y H _ I h) fun c s1 ⟨H1,I1,q1⟩=>?_)
 cases c with
 | true=>exact#[H1,I1,q1]
 | false=>exact hb wh pins s1 Y H1 Q I1 q1
def Gu(ha:PT X a tA):PT X (.UnaryOp .Not a pos) (Ki tA):=by
 kt_k;exact isTrue_not (ha pins s Y H (fun c H1=>Q (!c) H1) I h)
abbrev Ir(ta tb:TE):TE:=fun Y H Q=>ta Y H fun x H1=>∃ c,x=.bl c/\if c=true then tb Y H1 Q else Q (.bl false) H1
abbrev Kl(ta tb:TE):TE:=fun Y H Q=>ta Y H fun x H1=>∃ c,x=.bl c/\if c=true then Q (.bl true) H1 else tb Y H1 Q
def GG(h:PE X a t):PE X (.BoolOp op [a] pos) t:=fun pins s Y H Q I hw=>BoolOp_one (h pins s Y H Q I hw)
def FQ(ha:PE X a ta)(hb:PE X (.BoolOp .And (b::rest) pos) tb):PE X (.BoolOp .And (a::b::rest) pos) (Ir ta tb):=by
 kt_k;refine BoolOp_and (thn (ha pins s Y H _ I h) fun v s1 ⟨x,H1,I1,r1,q1⟩=>?_);obtain⟨c,rfl,q1⟩:=q1;cases r1;refine wpAny_truthy_bool ?_
 cases c with
 | true=>exact hb pins s1 Y H1 Q I1 q1
 | false=>exact#[.bl false,H1,I1,rfl,q1]
def IC(ha:PE X a ta)(hb:PE X (.BoolOp .Or (b::rest) pos) tb):PE X (.BoolOp .Or (a::b::rest) pos) (Kl ta tb):=by
 kt_k;refine BoolOp_or (thn (ha pins s Y H _ I h) fun v s1 ⟨x,H1,I1,r1,q1⟩=>?_);obtain⟨c,rfl,q1⟩:=q1;cases r1;refine wpAny_truthy_bool ?_
 cases c with
 | false=>exact hb pins s1 Y H1 Q I1 q1
 | true=>exact#[.bl true,H1,I1,rfl,q1]
abbrev tIf(t:TT)(ta tb:TE):TE:=fun Y H Q=>t Y H fun c H1=>if c=true then ta Y H1 Q else tb Y H1 Q
def Bl(hc:PT X c tA)(ha:PE X a ta)(hb:PE X b tb):PE X (.IfExp c a b pos) (tIf tA ta tb):=by
 kt_k;refine wpAny_IfExp (thn (hc pins s Y H _ I h) fun d s1 ⟨H1,I1,q1⟩=>?_)
 cases d with
 | true=>exact ha pins s1 Y H1 Q I1 q1
 | false=>exact hb pins s1 Y H1 Q I1 q1
end
abbrev SqL(K:W.Frag)(H:Hp)(a:Addr)(xs:List V):Prop :=
 Rd H a (.lst xs) \/
  ∃ (o:Obj) (its:Array Value) (n:Nat),K.lookup a=some o/\o.cls=.type "list" /\ o.dict=none/\o.data=.seq its n/\its.size<=sizeLine/\Vals xs its.toList
abbrev SqT(K:W.Frag)(H:Hp)(a:Addr)(xs:List V):Prop :=
 Rd H a (.tup xs) \/
  ∃ (o:Obj) (its:Array Value) (n:Nat),K.lookup a=some o/\o.cls=.type "tuple" /\ o.data=.seq its n/\its.size<=sizeLine/\Vals xs its.toList
abbrev Kk:Value->Option V
 | .none=>some .non
 | .bool b=>some (.bl b)
 | .int i _=>some (.int i)
 | .str x _=>some (.str x)
 | .bytes b _=>some (.byt b)
 | .float b _=>some (.flt b)
 | .ref a=>some (.ref a)
 | .type n=>some (.ty n)
 | _=>none
def RelV.abs(r:RelV x u):Kk u=some x:=by
 cases x with
 | non=>cases r;rfl
 | bl _=>cases r;rfl
 | int _=>obtain⟨t,rfl⟩:=r;rfl
 | str _=>obtain⟨t,rfl⟩:=r;rfl
 | byt _=>obtain⟨t,rfl⟩:=r;rfl
 | flt _=>obtain⟨t,rfl⟩:=r;rfl
 | ref _=>cases r;rfl
 | ty _=>cases r;rfl
def RelV.inj(r:RelV x u)(q:RelV y u):x=y:=Option.some.inj (r.abs.symm.trans q.abs)
def Vals.inj:∀ {xs ys:List V} {us:List Value},Vals xs us->Vals ys us->xs=ys
 | _,_,_,.nil,.nil=>rfl
 | _,_,_,.cons r t,.cons r' t'=>by rw[r.inj r',Vals.inj t t']
section
variable{X:Cx}{pins:List (Addr × Obj)}{Y:St}{H:Hp}{s:Shared}{a:Addr}{xs ys:List V}
def SqL.of{K:W.Frag}(h:H a=some (.lst xs)):SqL K H a xs:=.inl (.inl h)
def SqT.of{K:W.Frag}(h:H a=some (.tup xs)):SqT K H a xs:=.inl (.inl h)
def Inv.list(I:Inv X pins Y H s)(h:SqL X.K H a xs):∃ its:List Value,Vals xs its/\PlainL s.heap a its.toArray/\xs.length<=sizeLine:=by
 rcases h with h | ⟨o,its,n,hk,hc,hd,hs,hz,r⟩
 ·obtain⟨z,its,n,r,e⟩:=h.ok I.hok;exact#[its,r,#[_,n,e,rfl,rfl,rfl],z]
 ·refine#[its.toList,r,#[o,n,I.kIn a o hk,hc,hd,by simpa using hs],?_];have e:=r.length;simp only[Array.length_toList]at e;omega
def Inv.tuple(I:Inv X pins Y H s)(h:SqT X.K H a xs):∃ its:List Value,Vals xs its/\IsTup s.heap a its.toArray/\xs.length<=sizeLine:=by
 rcases h with h | ⟨o,its,n,hk,hc,hs,hz,r⟩
 ·obtain⟨z,its,r,p⟩:=h.ok I.hok;exact#[its,r,p,z]
 ·refine#[its.toList,r,#[o,I.kIn a o hk,hc,n,by simpa using hs],?_];have e:=r.length;simp only[Array.length_toList]at e;omega
def Inv.AM(I:Inv X pins Y H s)(h:SqL X.K H a xs)(h':SqL X.K H a ys):xs=ys:=by
 obtain⟨its,r,⟨o,n,e,_,_,d⟩,_⟩:=I.list h;obtain⟨its',r',⟨o',n',e',_,_,d'⟩,_⟩:=I.list h';rw[e]at e';cases e';rw[d]at d';injection d' with d1 _
 have:its=its':=by simpa using congrArg Array.toList d1
 subst this;exact r.inj r'
def Inv.zK(I:Inv X pins Y H s)(h:SqT X.K H a xs)(h':SqT X.K H a ys):xs=ys:=by
 obtain⟨its,r,⟨o,e,_,n,d⟩,_⟩:=I.tuple h;obtain⟨its',r',⟨o',e',_,n',d'⟩,_⟩:=I.tuple h';rw[e]at e';cases e';rw[d]at d';injection d' with d1 _
 have:its=its':=by simpa using congrArg Array.toList d1
 subst this;exact r.inj r'
end
@[reducible]noncomputable def Cx.eG(X:Cx)(E:Value->Shared->Prop):Cx:={ X with xe:=E }
@[reducible]noncomputable def Cx.nox(X:Cx):Cx:=X.eG fun _ _=>False
def Cx.Ok.eG{X:Cx}(ok:X.Ok)(E:Value->Shared->Prop):(X.eG E).Ok :=
 ⟨ok.mod,ok.kind,ok.glob,ok.blt,ok.above,ok.inj,ok.has,ok.cab,ok.hd,ok.frames,ok.stk,ok.exf,ok.bs,ok.bsz,ok.jS,ok.jD,ok.dZ,ok.frf⟩
def Cx.Ok.cP{X:Cx}(ok:(X.eG E).Ok):X.Ok :=
 ⟨ok.mod,ok.kind,ok.glob,ok.blt,ok.above,ok.inj,ok.has,ok.cab,ok.hd,ok.frames,ok.stk,ok.exf,ok.bs,ok.bsz,ok.jS,ok.jD,ok.dZ,ok.frf⟩
section
variable{X:Cx}{pins:List (Addr × Obj)}{Y:St}{H:Hp}{s:Shared}{E:Value->Shared->Prop}
def Inv.eG(I:Inv X pins Y H s)(E:Value->Shared->Prop):Inv (X.eG E) pins Y H s:=#[I.ok.eG E,I.os,I.bare,I.base,I.loc,I.cell,I.free,I.cQ,I.pin,I.hok,I.len]
def Inv.cP(I:Inv (X.eG E) pins Y H s):Inv X pins Y H s:=#[I.ok.cP,I.os,I.bare,I.base,I.loc,I.cell,I.free,I.cQ,I.pin,I.hok,I.len]
def SP.cP(h:SP (X.eG E) pins D f s'):SP X pins D f s':=by
 cases f with
 | next=>obtain⟨QQ,H',I,q⟩:=h;exact#[QQ,H',I.cP,q]
 | brk=>obtain⟨QQ,H',I,q⟩:=h;exact#[QQ,H',I.cP,q]
 | cont=>obtain⟨QQ,H',I,q⟩:=h;exact#[QQ,H',I.cP,q]
 | ret u=>obtain⟨v,QQ,H',I,r,q⟩:=h;exact#[v,QQ,H',I.cP,r,q]
def PE.nox(h:PE X.nox e t):PE X e t:=fun pins s Y H Q I hw =>
 wpAny_mono (h pins s Y H Q (I.eG _) hw) (fun _ _ ⟨v,H',I',r,q⟩=>#[v,H',I'.cP,r,q]) fun _ _ z=>False.elim z
def PT.nox(h:PT X.nox e t):PT X e t:=fun pins s Y H Q I hw =>
 wpAny_mono (h pins s Y H Q (I.eG _) hw) (fun _ _ ⟨H',I',q⟩=>#[H',I'.cP,q]) fun _ _ z=>False.elim z
def PSs.nox{st:List Stmt}(h:PSs X.nox st t):PSs X st t:=fun pins s Y H D I hw =>
 wpAny_mono (h pins s Y H D (I.eG _) hw) (fun _ _ q=>q.cP) fun _ _ z=>False.elim z
end
section
variable{X:Cx}{st:Stmt}{rest:List Stmt}{t u:TS}{e:Expr}{te:TE}{pos:Pos}
abbrev Iu:TS:=fun D Y H=>D.nx Y H
abbrev Jp(t u:TS):TS:=fun D Y H=>t { D with nx:=u D } Y H
def DC:PSs X [] Iu:=fun _ _ Y H _ I h=>wpAny_execs_nil ⟨Y,H,I,h⟩
def mz(h1:PS X st t)(h2:PSs X rest u):PSs X (st::rest) (Jp t u):=by
 intro pins s Y H D I h;refine wpAny_execs_cons (thn (h1 pins s Y H { D with nx:=u D } I h) fun f s1 q=>?_)
 cases f with
 |next=>
  obtain⟨QQ,H',I',q⟩:=q;exact h2 pins s1 QQ H' D I' q
 | ret v=>exact q
 | brk=>exact q
 | cont=>exact q
def Inv.quiet(I:Inv X pins Y H s):interactive X.env=false:=by simp[interactive,I.ok.kind]
abbrev qT(te:TE):TS:=fun D Y H=>te Y H fun _ H1=>D.nx Y H1
def lD(he:PE X e te)(hs:swapsWith e none pos.line X.env=pure false):PS X (.Expr e pos) (qT te):=by
 intro pins s Y H D I h;exact wpAny_Expr_any (thn (he pins s Y H _ I h) fun v s1 ⟨x,H1,I1,r1,q1⟩=>#[Y,H1,I1,q1]) I.quiet hs
abbrev Jv(te:TE):TS:=fun D Y H=>te Y H D.rt
def tR(he:PE X e te):PS X (.Return (some e) pos) (Jv te):=by
 intro pins s Y H D I h;exact wpAny_Return_some (thn (he pins s Y H _ I h) fun v s1 ⟨x,H1,I1,r1,q1⟩=>#[x,Y,H1,I1,r1,q1])
abbrev JX(c:TT)(t u:TS):TS:=fun D Y H=>c Y H fun b H1=>if b=true then t D Y H1 else u D Y H1
def wX(hc:PT X c tc)(ha:PSs X a t)(hb:PSs X b u):PS X (.If c a b pos) (JX tc t u):=by
 intro pins s Y H D I h;refine wpAny_If (thn (hc pins s Y H _ I h) fun d s1 ⟨H1,I1,q1⟩=>?_)
 cases d with
 | true=>exact ha pins s1 Y H1 D I1 q1
 | false=>exact hb pins s1 Y H1 D I1 q1
end
@[reducible]noncomputable def TG:=V->St->Hp->(St->Hp->Prop)->Prop
@[reducible]noncomputable def TGs:=List V->St->Hp->(St->Hp->Prop)->Prop
abbrev PG(X:Cx)(target:Expr)(t:TG):Prop :=
 ∀ (pins:List (Addr × Obj)) (s:Shared) (Y:St) (H:Hp) (v:V) (u:Value) (Q:St->Hp->Prop),Inv X pins Y H s->RelV v u->t v Y H Q ->
  wpAny (model X.prog X.w) X.A (assign target X.env u) (fun _ s'=>∃ QQ H',Inv X pins QQ H' s'/\Q QQ H') X.xe s
abbrev PGs(X:Cx)(ts:List Expr)(t:TGs):Prop :=
 ∀ (pins:List (Addr × Obj)) (s:Shared) (Y:St) (H:Hp) (vs:List V) (us:List Value) (Q:St->Hp->Prop),Inv X pins Y H s->Vals vs us->t vs Y H Q ->
  wpAny (model X.prog X.w) X.A (assignInOrder ((assignEach ts X.env).map (·.2)) us) (fun _ s'=>∃ QQ H',Inv X pins QQ H' s'/\Q QQ H') X.xe s
@[reducible]noncomputable def EW:=V->V->V->Hp->(Hp->Prop)->Prop
abbrev Hb(X:Cx)(t:EW):Prop :=
 ∀ (pins:List (Addr × Obj)) (s:Shared) (Y:St) (H:Hp) (o i v:V) (ov iv u:Value) (Q:Hp->Prop),Inv X pins Y H s->RelV o ov->RelV i iv->RelV v u->t o i v H Q ->
  wpAny (model X.prog X.w) X.A (setItem ov iv u) (fun _ s'=>∃ H',Inv X pins Y H' s'/\Q H') X.xe s
@[reducible]noncomputable def TIp:=V->V->Hp->VK->Prop
abbrev PIp(X:Cx)(op:Operator)(t:TIp):Prop :=
 ∀ (pins:List (Addr × Obj)) (s:Shared) (Y:St) (H:Hp) (x y:V) (v u:Value) (Q:VK),Inv X pins Y H s->RelV x v->RelV y u->t x y H Q ->
  wpAny (model X.prog X.w) X.A (inplaceOp op v u) (EP X pins Y Q) X.xe s
section
variable{X:Cx}{pos:Pos}
abbrev oC(i:Nat):TG:=fun v Y H Q=>Q (Y.set i (some v)) H
def vK(hN:X.N.Nodup)(hi:X.N[i]?=some x)(hx:Loc X.env.scope x)(hf:X.fn x=true\/X.env.scope.names.lookup x=some .local):PG X (.Name x pos) (oC i):=by
 intro pins s Y H v u Q I r h;exact wpAny_assign_Name (fV I hN hi hx r (fun s' I'=>#[_,H,I',h]) hf)
abbrev GU:TGs:=fun vs Y H Q=>vs=[]/\Q Y H
abbrev Cc(t:TG)(u:TGs):TGs:=fun vs Y H Q=>∃ v r,vs=v::r/\t v Y H fun QQ H'=>u r QQ H' Q
def Ef:PGs X [] GU:=by
 intro pins s Y H vs us Q I r h;obtain⟨e,h⟩:=h;subst e;cases r;exact assignInOrder_nil ⟨Y,H,I,h⟩
def Bc(h1:PG X e t)(h2:PGs X es u)
 (hs:(assignEach (e::es) X.env).map (·.2)=assign e X.env::(assignEach es X.env).map (·.2)):PGs X (e::es) (Cc t u):=by
 intro pins s Y H vs us Q I r h;obtain⟨v,vr,e1,h⟩:=h;subst e1
 cases r with
 |cons r rr=>
  rw[hs];refine assignInOrder_cons (thn (h1 pins s Y H _ _ _ I r h) fun _ s1 ⟨QR,H1,I1,q1⟩=>?_);exact h2 pins s1 QR H1 _ _ Q I1 rr q1
abbrev pR(K:W.Frag)(n:Nat)(t:TGs):TG:=fun v Y H Q=>∃ a xs,v=.ref a/\SqT K H a xs/\xs.length=n/\t xs Y H Q
abbrev Ba(to ti:TE)(t:EW):TG:=fun v Y H Q=>to Y H fun o H1=>ti Y H1 fun i H2=>t o i v H2 fun H3=>Q Y H3
def Hq(ho:PE X o to)(hi:PE X i ti)(hs:Hb X t)
 (ha:∀ v,assign (.Subscript o i pos) X.env v=(do
   let ov <- holding [v] (eval o X.env)
   let iv <- holding [v,ov] (eval i X.env)
   standAt pos
   holding [v,ov,iv] (setItem ov iv v)
   release [v,ov,iv] []):=by intro _;rfl):PG X (.Subscript o i pos) (Ba to ti t):=by
 intro pins s Y H v u Q I r h;rw[ha];refine Qb (wpAny_holding (thn (ho pins s Y H _ I h) fun ov s1 ⟨x,H1,I1,r1,q1⟩=>?_));refine Qb (wpAny_holding (thn (hi pins s1 Y H1 _ I1 q1) fun iv s2 ⟨y,H2,I2,r2,q2⟩=>?_));refine Qb (wpAny_standAt (Qb (wpAny_holding (thn (hs pins s2 Y H2 x y v ov iv u _ I2 r1 r2 r q2) fun _ s3 ⟨H3,I3,q3⟩=>?_))));exact wpAny_release ⟨Y,H3,I3,q3⟩
abbrev p8(te:TE)(g:TG):TS:=fun D Y H=>te Y H fun x H1=>g x Y H1 D.nx
def tM(he:PE X e te)(hg:PG X tg g)(hs:swapsWithSole [tg] e pos.line X.env=pure false)(hw:swappedStores [tg] e X.env=pure none)
 (h1:(assignEach [tg] X.env).map (·.2)=[assign tg X.env]):PS X (.Assign [tg] e pos) (p8 te g):=by
 intro pins s Y H D I h;refine wpAny_Assign_stores (thn (he pins s Y H _ I h) fun v s1 ⟨x,H1,I1,r1,q1⟩=>?_) hs hw;rw[h1];exact thn (hg pins s1 Y H1 x v _ I1 r1 q1) fun _ s2 q=>q
def se(hN:X.N.Nodup)(hi:X.N[i]?=some x)(hx:Loc X.env.scope x)(he:PE X e te)(hs:swapsWith e (some (.Name x pos')) pos.line X.env=pure false)(hf:X.fn x=true\/X.env.scope.names.lookup x=some .local) :
  PS X (.Assign [.Name x pos'] e pos) (p8 te (oC i)):=by
 intro pins s Y H D I h;refine wpAny_Assign_Name (thn (he pins s Y H _ I h) fun v s1 ⟨y,H1,I1,r1,q1⟩=>?_) hs;exact fV I1 hN hi hx r1 (fun s2 I2=>#[_,H1,I2,q1]) hf
abbrev E6(i j:Nat)(ta:TA):TS:=fun D Y H=>ta Y H fun vs H1=>∃ v w,vs=[v,w]/\D.nx ((Y.set i (some v)).set j (some w)) H1
def G7(hc:X.calm=true)(hN:X.N.Nodup)(hi:X.N[i]?=some x)(hj:X.N[j]?=some y)(hij:i≠j)
 (hx:X.env.scope.names.lookup x=some .local)(hy:X.env.scope.names.lookup y=some .local)(ha:PA X [a,b] ta)
 (hw:swappedStores [.Tuple [.Name x px,.Name y py] kt pt] (.Tuple [a,b] k2 pt2) X.env=pure (some [x,y]))
 (hs:swapsWithSole [.Tuple [.Name x px,.Name y py] kt pt] (.Tuple [a,b] k2 pt2) pos.line X.env=pure false) :
  PS X (.Assign [.Tuple [.Name x px,.Name y py] kt pt] (.Tuple [a,b] k2 pt2) pos) (E6 i j ta):=by
 intro pins s Y H D I h;rw[exec_Assign_arm];refine Qb (wpAny_standAt ?_);rw[hs];refine Qb (Qd ?_);rw[if_neg ∅];refine Qb (Tuple_ (thn (ha _ pins s Y H _ I h) fun us s1 ⟨vs,H1,I1,r1,q1⟩=>?_));obtain⟨v,w,e1,q1⟩:=q1;subst e1
 obtain⟨u1,u2,rfl,rv,rw'⟩:∃ u1 u2,us=[u1,u2]/\RelV v u1/\RelV w u2:=by
  cases r1 with
  |cons p q=>
   cases q with
   |cons p' q'=>
    cases q';exact#[_,_,rfl,p,p']
 refine wpAny_newObj_type ?_ (by show 2<=sizeLine;decide);have I2:Inv X pins Y H1 { s1 with heap:=s1.heap.push { cls:=.type "tuple",data:=.seq [u1,u2].toArray } }:=I1.kept (t':=s1.toks) fun b o e=>Qa _ e;rw[hw];refine Qb (Qd ?_);show wpAny (model X.prog X.w) X.A (do rule "assign.swapped-stores";let items <- unpackItems (.ref s1.heap.objs.size) 2 none;assignInOrder [fun v=>bindName X.env y v,fun v=>bindName X.env x v] items.reverse;pure Flow.next) _ _ _;refine Qb (wpAny_rule (Qb (unpackItems_tuple (items:=(List.toArray [u1,u2])) (I.ok.hd.1 hc) (IsTup.new s1.heap _) fun h' hx'=>?_)));have I3:=I2.kept (h':=h') (t':=s1.toks) fun b o e=>hx' b o (Qn (Qg e)) e;show wpAny _ _ (assignInOrder [fun v=>bindName X.env y v,fun v=>bindName X.env x v] [u2,u1] >>= fun _=>pure Flow.next) _ _ _;refine Qb (assignInOrder_cons (wpAny_bindName (fV I3 hN hj (.inl hy) rw' (fun s2 I4=>?_) (.inr hy))));refine assignInOrder_cons (wpAny_bindName (fV I4 hN hi (.inl hx) rv (fun s3 I5=>assignInOrder_nil (Qd ?_)) (.inr hx)));rw[List.set_comm _ _ (Ne.symm hij)]at I5;exact#[_,H1,I5,q1]
abbrev GQ(i:Nat)(te:TE)(ti:TIp):TS:=fun D Y H=>∃ x,Y[i]?=some (some x)/\te Y H fun y H1=>ti x y H1 fun z H2=>D.nx (Y.set i (some z)) H2
def yS(hN:X.N.Nodup)(hi:X.N[i]?=some x)(hx:Loc X.env.scope x)(he:PE X e te)(ho:PIp X op ti)(hf:X.fn x=true\/X.env.scope.names.lookup x=some .local) :
  PS X (.AugAssign (.Name x pos') op e pos) (GQ i te ti):=by
 intro pins s Y H D I h;obtain⟨v,e1,h⟩:=h;obtain⟨m,hn,hl⟩:=I.loc
 have vis:Vis X.env.scope x:=by rcases hx with k | k;exact .inl k;exact .inr (.inl k)
 obtain⟨u,r,l⟩:=hl i x v hi e1 vis;refine wpAny_AugAssign_Name ?_
 have go:wpAny (model X.prog X.w) X.A (eval e X.env) (fun w s₂=>wpAny (model X.prog X.w) X.A (inplaceOp op u w) (fun r s₃=>wpAny (model X.prog X.w) X.A (storeName X.env x r) (fun _=>SP X pins D .next) X.xe s₃) X.xe s₂) X.xe s:=by
  refine thn (he pins s Y H _ I h) fun w s1 ⟨y,H1,I1,r1,q1⟩=>?_;refine thn (ho pins s1 Y H1 v y u w _ I1 r r1 q1) fun z s2 ⟨zv,H2,I2,r2,q2⟩=>?_;exact fV I2 hN hi hx r2 (fun s3 I3=>#[_,H2,I3,q2]) hf
 rcases l with⟨hk,hm⟩ | ⟨hk,c,hc,hcell⟩
 ·exact wpAny_loadName_local I.ok.kind hk hn hm go
 ·rcases hk with hk | hk
  ·exact wpAny_loadName_cell I.ok.kind hk hc hcell go
  ·rcases hx with k | k
   ·have:X.env.scope.names.lookup x=some .free:=hk;rw[k]at this;cases this
   ·have:X.env.scope.names.lookup x=some .free:=hk;rw[k]at this;cases this
abbrev ipI(f:Int->Int->Int):TIp:=fun x y H Q=>∃ i j,x=.int i/\y=.int j/\Q (.int (f i j)) H
def F3:PIp X .Add (ipI fun i j=>i+j):=by
 intro pins s Y H x y v u Q I r1 r2 h;obtain⟨i,j,e1,e2,q⟩:=h;subst e1;subst e2;obtain⟨t,rfl⟩:=r1;obtain⟨t',rfl⟩:=r2;exact iadd_int ⟨.int _,H,I.tok _,⟨_,rfl⟩,q⟩
def EK:PIp X .Sub (ipI fun i j=>i-j):=by
 intro pins s Y H x y v u Q I r1 r2 h;obtain⟨i,j,e1,e2,q⟩:=h;subst e1;subst e2;obtain⟨t,rfl⟩:=r1;obtain⟨t',rfl⟩:=r2;exact isub_int ⟨.int _,H,I.tok _,⟨_,rfl⟩,q⟩
end
section
variable{X:Cx}{pos:Pos}
abbrev HD(c:TT)(tb:TS):TS:=fun D Y H=>∃ W:Nat->St->Hp->Prop,(∃ m,W m Y H)/\∀ m Y H,W m Y H ->
 c Y H fun b H1=>if b=true then ∃ N:St->Hp->Prop,(∀ QQ H',N QQ H'->∃ m',m'<m/\W m' QQ H')/\tb { D with nx:=N,ct:=N,bk:=D.nx } Y H1 else D.nx Y H1
def A9(hp:PassesOwn (model X.prog X.w) X.A X.env X.xe)(hc:PT X c tc)(hb:PSs X body tb):PS X (.While c body [] pos) (HD tc tb):=by
 intro pins s Y H D I h;obtain⟨W,⟨m0,w0⟩,turn⟩:=h;refine wpAny_While (codeAny_whileLoop (fun n s'=>∃ QQ H',Inv X pins QQ H' s'/\W n QQ H') ?_ m0 ⟨Y,H,I,w0⟩);rintro n s1 ⟨QR,H1,I1,w1⟩;refine wpAny_passesOwn hp (thn (hc pins s1 QR H1 _ I1 (turn n QR H1 w1)) fun b s2 ⟨H2,I2,q2⟩=>?_)
 cases b with
 |true=>
  obtain⟨N,hN,q2⟩:=q2;rw[if_pos rfl];refine wpAny_passesOwn hp (thn (hb pins s2 QR H2 _ I2 q2) fun f s3 q3=>?_)
  cases f with
  |next=>
   obtain⟨QU,H3,I3,n3⟩:=q3;obtain⟨m',hm,w3⟩:=hN QU H3 n3;exact#[m',hm,QU,H3,I3,w3]
  |cont=>
   obtain⟨QU,H3,I3,n3⟩:=q3;obtain⟨m',hm,w3⟩:=hN QU H3 n3;exact#[m',hm,QU,H3,I3,w3]
  | brk=>exact q3
  | ret v=>exact q3
 |false=>
  rw[if_neg Qi];exact wpAny_execs_nil ⟨QR,H2,I2,q2⟩
end
structure It where
 go:Nat->Hp->Prop
 yld:Nat->Hp->V->Hp->Prop
 stop:Nat->Hp->Prop
abbrev jQ(X:Cx)(pins:List (Addr × Obj))(H:Hp)(b:Addr):Prop :=
 H b=none/\b≠X.env.locals/\b∉X.fs/\(b∈X.ex\/X.s₀.heap.objs.size<=b)/\(∀ x c,X.env.cells.lookup x=some c->c≠b)/\∀ p∈X.pn++pins,p.1≠b
def Inv.oM(I:Inv X pins Y H s)(hb:s.heap.objs.size<=b)(hn:H' b=none):jQ X pins H' b:=by
 refine#[hn,Nat.ne_of_gt (Qh I.lt hb),I.JJ hb,.inr (Qr I.sz hb),fun x c e z=>?_,fun p hp z=>?_]
 ·obtain⟨v,q⟩:=I.cell x c e;exact absurd (Qh q.lt (by rw[z];exact hb)) (QC _)
 ·exact absurd (Qh (Qg (I.pin p hp).1) (by rw[z];exact hb)) (QC _)
structure oF(CM:Cx->Prop)(P:Program)(w:World)(K:W.Frag)(tg:Expr)(J:It)(fp:List Addr)(it:Addr)(tn:Nat->Heap->Prop):Prop where
 mem:it∈fp
 obj:∀ i h,tn i h->∀ b∈fp,∃ o,h.get? b=some o/\∀ v,o.data≠.cell v
 keep:∀ i h h',tn i h->(∀ b∈fp,∀ o,h.get? b=some o->h'.get? b=some o)->tn i h'
 item:∀ (X:Cx),X.prog=P->X.w=w->X.K=K->CM X->∀ (i:Nat) (pins:List (Addr × Obj)) (s:Shared) (Y:St) (H:Hp) (E:Value->Shared->Prop),Inv X pins Y H s->(∀ b∈fp,jQ X pins H b)->tn i s.heap->J.go i H ->
  wpAny (model P w) X.A (pyNext (.ref it)) (fun r s1=>∃ u,r=some u /\
   wpAny (model P w) X.A (letOwnedTupleGo tg (.ref it) u) (fun _ s2=>∃ x H',Inv X pins Y H' s2/\RelV x u/\J.yld i H x H'/\tn (i+1) s2.heap/\∀ b∈fp,H' b=none) E s1) E s
 done:∀ (X:Cx),X.prog=P->X.w=w->X.K=K->CM X->∀ (i:Nat) (pins:List (Addr × Obj)) (s:Shared) (Y:St) (H:Hp) (E:Value->Shared->Prop),Inv X pins Y H s->(∀ b∈fp,jQ X pins H b)->tn i s.heap->J.stop i H ->
  wpAny (model P w) X.A (pyNext (.ref it)) (fun r s1=>r=none/\Inv X pins Y H s1) E s
 self:∀ (A:Around) (i:Nat) (s:Shared) (Q:Value->Shared->Prop) (E:Value->Shared->Prop),tn i s.heap->Q (.ref it) s->wpAny (model P w) A (pyIter (.ref it)) Q E s
@[reducible]noncomputable def Calm:Cx->Prop:=fun X=>X.calm=true
@[reducible]noncomputable def Turn:=oF Calm
@[reducible]noncomputable def TI:=St->Hp->(It->Hp->Prop)->Prop
abbrev Gx(CM:Cx->Prop)(X:Cx)(pins:List (Addr × Obj))(Y:St)(tg:Expr)(R:It->Hp->Prop)(itv:Value)(s2:Shared):Prop :=
 ∃ (it:Addr) (fp:List Addr) (tn:Nat->Heap->Prop) (J:It) (H':Hp),itv=.ref it/\Inv X pins Y H' s2/\oF CM X.prog X.w X.K tg J fp it tn/\tn 0 s2.heap/\(∀ b∈fp,jQ X pins H' b)/\R J H'
@[reducible]noncomputable def PIE:=Gx Calm
abbrev PI'(CM:Cx->Prop)(X:Cx)(tg iter:Expr)(wi:TI):Prop :=
 ∀ (pins:List (Addr × Obj)) (s:Shared) (Y:St) (H:Hp) (R:It->Hp->Prop),Inv X pins Y H s->wi Y H R ->
  wpAny (model X.prog X.w) X.A (eval iter X.env) (fun v s1=>wpAny (model X.prog X.w) X.A (pyIter v) (Gx CM X pins Y tg R) X.xe s1) X.xe s
@[reducible]noncomputable def PI:=PI' Calm
def rA(ho:s.heap.get? it=some o)(hc:o.cls=.type n)(hd:o.data=.fields vs)
 (hn:["enumerate", "zip", "dict_itemiterator", "dict_reverseitemiterator", "odict_iterator", "itertools.zip_longest", "itertools.pairwise"].contains n=false)(hQ:Q () s):wpAny M A (letOwnedTupleGo tg (.ref it) u) Q E s:=by
 unfold letOwnedTupleGo
 cases tg<;>first
  | exact Qd hQ
  | (cases u<;>first
    | exact Qd hQ
    | (refine Qb (wpAny_load ho ?_)
       rw[hc,hd];show wpAny M A (if(["enumerate", "zip", "dict_itemiterator", "dict_reverseitemiterator", "odict_iterator", "itertools.zip_longest", "itertools.pairwise"].contains n&&vs[0]? == some (rawInt _))=true then _ else _) Q E s;rw[if_neg (by intro h;rw[hn,Bool.false_and]at h;cases h)]
       exact Qd hQ))
abbrev Itl(K:W.Frag)(a:Addr):It :=
 ⟨fun i H=>∃ xs x,SqL K H a xs/\xs[i]?=some x,fun i H x H'=>H'=H/\∀ xs,SqL K H a xs->xs[i]?=some x,fun i H=>∃ xs,SqL K H a xs/\xs.length<=i⟩
abbrev Itt(K:W.Frag)(a:Addr):It :=
 ⟨fun i H=>∃ xs x,SqT K H a xs/\xs[i]?=some x,fun i H x H'=>H'=H/\∀ xs,SqT K H a xs->xs[i]?=some x,fun i H=>∃ xs,SqT K H a xs/\xs.length<=i⟩
abbrev Itr(lo:Int)(n:Nat):It:=#[fun i _=>i<n,fun i H x H'=>H'=H/\x=.int (lo+i),fun i _=>n<=i]
def yv{P:Program}{w:World}{K:W.Frag}(a it:Addr):Turn P w K tg (Itl K a) [it] it (fun i h=>h.IsListIter it a i) where
 mem:=by simp
 obj:=fun i h st b hb=>by
  have e:b=it:=by simpa using hb
  subst e;obtain⟨o,e,c,d⟩:=st;exact⟨o,e,fun v z=>by rw[d]at z;cases z⟩
 keep:=fun i h h' st k=>st.at fun o e=>k it (by simp) o e
 item:=by
  k_go;subst hP hw hK;obtain⟨xs,x,hq,hx⟩:=hg;obtain⟨its,rv,p,hz⟩:=I.list hq;obtain⟨u,hu,ru⟩:=rv.get hx;k_cls;refine wpAny_pyNext_list_item st p.isList (x:=u) (by simpa using hu) fun h' st' sb=>?_;have I1:Inv X pins Y H { s with heap:=h' }:=I.turned (t':=s.toks) (fun b o hb e=>(sb.2 b hb).trans e) f0 f1 f3 f4 f5;obtain⟨o,e,c,d⟩:=id st';exact#[u,rfl,rA (s:={ s with heap:=h' }) e c d ∅ #[x,H,I1,ru,#[rfl,fun ys hy=>by rw[I.AM hy hq];exact hx],st',fun b hb=>(hf b hb).1]]
 done:=by
  k_go;subst hP hw hK;obtain⟨xs,hq,hx⟩:=hg;obtain⟨its,rv,p,hz⟩:=I.list hq;k_cls;have hl:=rv.length
  exact wpAny_pyNext_list_end (I.ok.hd.1 hc) st p.isList (by simp;omega) fun h' eb=>#[rfl,I.turned (t':=s.toks) (fun b o hb e=>eb b o hb e) f0 f1 f3 f4 f5]
 self:=fun _ _ _ _ _ st h=>wpAny_pyIter_listiter st h
def wo{P:Program}{w:World}{K:W.Frag}(a it:Addr):Turn P w K tg (Itt K a) [it] it (fun i h=>h.IsTupleIter it a i) where
 mem:=by simp
 obj:=fun i h st b hb=>by
  have e:b=it:=by simpa using hb
  subst e;obtain⟨o,e,c,d⟩:=st;exact⟨o,e,fun v z=>by rw[d]at z;cases z⟩
 keep:=fun i h h' st k=>st.at fun o e=>k it (by simp) o e
 item:=by
  k_go;subst hP hw hK;obtain⟨xs,x,hq,hx⟩:=hg;obtain⟨its,rv,p,hz⟩:=I.tuple hq;obtain⟨u,hu,ru⟩:=rv.get hx;k_cls;refine wpAny_pyNext_tuple_item st (show s.heap.IsTuple a its.toArray from p) (x:=u) (by simpa using hu) fun h' st' sb=>?_;have I1:Inv X pins Y H { s with heap:=h' }:=I.turned (t':=s.toks) (fun b o hb e=>(sb.2 b hb).trans e) f0 f1 f3 f4 f5;obtain⟨o,e,c,d⟩:=id st';exact#[u,rfl,rA (s:={ s with heap:=h' }) e c d ∅ #[x,H,I1,ru,#[rfl,fun ys hy=>by rw[I.zK hy hq];exact hx],st',fun b hb=>(hf b hb).1]]
 done:=by
  k_go;subst hP hw hK;obtain⟨xs,hq,hx⟩:=hg;obtain⟨its,rv,p,hz⟩:=I.tuple hq;k_cls;have hl:=rv.length
  exact wpAny_pyNext_tuple_end (I.ok.hd.1 hc) st (show s.heap.IsTuple a its.toArray from p) (by simp;omega) fun h' eb=>#[rfl,I.turned (t':=s.toks) (fun b o hb e=>eb b o hb e) f0 f1 f3 f4 f5]
 self:=fun _ _ _ _ _ st h=>wpAny_pyIter_tupleiter st h
def wA{P:Program}{w:World}{K:PySem.W.Frag}(it:Addr)(lo:Int)(n:Nat):Turn P w K tg (Itr lo n) [it] it (fun i h=>IsRangeIter h it (lo+(i:Nat)*1) ((n:Int)-(i:Nat)) 1) where
 mem:=by simp
 obj:=fun i h st b hb=>by
  have e:b=it:=by simpa using hb
  subst e
  exact⟨_,st,fun v z=>by
   have z':Data.fields _=Data.cell v:=z
   cases z'⟩
 keep:=fun i h h' st k=>k it (by simp) _ st
 item:=by
  k_go;subst hP hw hK;k_cls;have W:=Walks.range (prog:=X.prog) (w:=X.w) (I.ok.hd.1 hc) it lo 1 n;refine W.item i s _ _ hg st fun v h' tk hv st' kk=>?_;obtain⟨t,rfl⟩:=hv;have I1:Inv X pins Y H { s with heap:=h',toks:=tk }:=I.turned (fun b o hb e=>kk b o (by simpa using hb) e) f0 f1 f3 f4 f5;refine#[_,rfl,rA (s:={ s with heap:=h',toks:=tk }) (n := "range_iterator") st' rfl rfl ∅ #[.int (lo+i),H,I1,#[t,?_],#[rfl,rfl],st',fun b hb=>(hf b hb).1]];rw[Int.mul_one]
 done:=by
  k_go;subst hP hw hK;k_cls
  exact wpAny_pyNext_range_end (I.ok.hd.1 hc) st (by have:n<=i:=hg;omega) fun h' eb=>#[rfl,I.turned (t':=s.toks) (fun b o hb e=>eb b o hb e) f0 f1 f3 f4 f5]
 self:=fun _ _ _ _ _ st h=>wpAny_pyIter_rangeiter st h
section
variable{X:Cx}{tg:Expr}
def sF{pins:List (Addr × Obj)}{Y:St}{H:Hp}{s:Shared}{R:It->Hp->Prop}{E:Value->Shared->Prop}{lo hi:Int}{t u v:Tok}{tk:Nat}(I:Inv X pins Y H s)(h1:-(2 ^ 62)<=lo)(h2:lo<2 ^ 62)(h3:-(2 ^ 62)<=hi)(h4:hi<2 ^ 62)
 (q:R (Itr lo (hi-lo).toNat) H):wpAny (model X.prog X.w) X.A (pyIter (.ref s.heap.objs.size)) (PIE X pins Y tg R) E { s with heap:=s.heap.push { cls:=.type "range",data:=.fields (List.toArray [.int lo t,.int hi u,.int 1 v]) },toks:=tk }:=by
 refine wpAny_pyIter_range (IsRange.new ..) (small_one h1 h2 h3 h4) ?_;have I1:Inv X pins Y H { s with heap:=s.heap.push { cls:=.type "range",data:=.fields (List.toArray [.int lo t,.int hi u,.int 1 v]) },toks:=tk }:=I.kept fun b o e=>Qa _ e
 refine⟨(s.heap.push { cls:=.type "range",data:=.fields (List.toArray [.int lo t,.int hi u,.int 1 v]) }).objs.size,[(s.heap.push { cls:=.type "range",data:=.fields (List.toArray [.int lo t,.int hi u,.int 1 v]) }).objs.size],_,_,H,rfl,
  I1.kept (t':=tk) fun b o e=>Qa _ e,wA _ lo (hi-lo).toNat,?_,fun b hb=>?_,q⟩
 ·have e1:lo+((0:Nat):Int)*1=lo:=by simp
  have e2:(((hi-lo).toNat:Nat):Int)-((0:Nat):Int)=Builtin.Range.rangeSize lo hi 1:=by rw[rangeSize_one];split<;>omega
  show IsRangeIter _ _ (lo+((0:Nat):Int)*1) ((((hi-lo).toNat:Nat):Int)-((0:Nat):Int)) 1;rw[e1,e2];exact Qe _ rfl
 ·have e:b=(s.heap.push { cls:=.type "range",data:=.fields (List.toArray [.int lo t,.int hi u,.int 1 v]) }).objs.size:=by simpa using hb
  subst e;exact I1.oM (Qc _) (I1.hok.fresh (Qc _))
abbrev IV(ta:TA):TI:=fun Y H R=>ta Y H fun vs H1=>∃ j:Int,vs=[.int j]/\-(2 ^ 62)<=j/\j<2 ^ 62/\R (Itr 0 j.toNat) H1
abbrev IM(ta:TA):TI:=fun Y H R=>ta Y H fun vs H1=>∃ i j:Int,vs=[.int i,.int j]/\(-(2 ^ 62)<=i/\i<2 ^ 62/\-(2 ^ 62)<=j/\j<2 ^ 62)/\R (Itr i (j-i).toNat) H1
def zT{a:Expr}{ta:TA}{p pos:Pos}(hg:Gl X "range")(hm:X.mg "range" = none)(ha:PA X [a] ta)(hs:starEach [a] X.env=[(false,eval a X.env)]):PI X tg (.Call (.Name "range" p) [a] [] pos) (IV ta):=by
 intro pins s Y H R I h;refine Call_ (iA I hg hm boot_range (PyProof.Rows.callWith_type1 (thn (ha pos pins s Y H _ I h) fun us s1 ⟨vs,H1,I1,r1,q1⟩=>?_) hs rfl) ∅ ∅);obtain⟨j,e,q1,q2,q⟩:=q1;subst e
 cases r1 with
 |cons r rr=>
  cases rr;obtain⟨t,rfl⟩:=r;exact call_range_1 (sF I1 (by omega) (by omega) q1 q2 (by simpa using q))
def zM(hg:Gl X "range")(hm:X.mg "range" = none)(ha:PA X [a,b] ta)(hs:starEach [a,b] X.env=[(false,eval a X.env),(false,eval b X.env)])(hs2:starEach [b] X.env=[(false,eval b X.env)]) :
  PI X tg (.Call (.Name "range" p) [a,b] [] pos) (IM ta):=by
 intro pins s Y H R I h;refine Call_ (iA I hg hm boot_range (PyProof.Rows.callWith_type1 (thn (ha pos pins s Y H _ I h) fun us s1 ⟨vs,H1,I1,r1,q1⟩=>?_) (by rw[hs,hs2]) (by rw[hs2];rfl)) ∅ ∅);obtain⟨i,j,e,⟨q1,q2,q3,q4⟩,q⟩:=q1;subst e
 cases r1 with
 |cons r rr=>
  cases rr with
  |cons r' rr=>
   cases rr;obtain⟨t,rfl⟩:=r;obtain⟨t',rfl⟩:=r';exact call_range_2 (sF I1 q1 q2 q3 q4 q)
abbrev JH(wi:TI)(g:TG)(tb:TS):TS:=fun D Y H=>wi Y H fun J H1=>∃ W:Nat->Nat->St->Hp->Prop,(∃ m,W 0 m Y H1)/\∀ i m Y H,W i m Y H ->
 (J.stop i H/\D.nx Y H)\/(J.go i H/\∃ N:St->Hp->Prop,(∀ QQ H',N QQ H'->∃ m',m'<m/\W (i+1) m' QQ H')/\∀ x H',J.yld i H x H'->g x Y H' fun QS H2=>tb { D with nx:=N,ct:=N,bk:=D.nx } QS H2)
abbrev k6(fp:List Addr)(h:Heap):List (Addr × Obj):=fp.filterMap fun b=>(h.get? b).map fun o=>(b,o)
def gN(hb:b∈fp)(e:h.get? b=some o):(b,o)∈k6 fp h:=List.mem_filterMap.mpr ⟨b,hb,by rw[e];rfl⟩
def xK(hp:p∈k6 fp h):p.1∈fp/\h.get? p.1=some p.2:=by
 obtain⟨b,hb,e⟩:=List.mem_filterMap.mp hp
 cases q:h.get? b with
 | none=>rw[q]at e;cases e
 |some o=>
  rw[q]at e;have e':(b,o)=p:=Option.some.inj e;subst e';exact#[hb,q]
def Inv.pinned(I:Inv X pins Y H s)(hf:∀ b∈fp,jQ X pins H b)(ho:∀ b∈fp,∃ o,s.heap.get? b=some o/\∀ v,o.data≠.cell v):Inv X (pins++k6 fp s.heap) Y H s :=
 I.vn fun p hp=>(List.mem_append.mp hp).elim (fun z=>I.pin p (Qs _ z)) fun z=>by
  obtain⟨hb,e⟩:=xK z;obtain⟨f0,f1,f2,_⟩:=hf p.1 hb;obtain⟨o,e',d⟩:=ho p.1 hb;rw[e]at e';cases e';exact#[e,f0,f1,f2,d]
def Inv.jH(I:Inv X (pins++pl) Y H s):Inv X pins Y H s:=I.vn fun p hp=>I.pin p (Qs _ (List.mem_append_left _ hp))
def yA(hp:PassesOwn (model X.prog X.w) X.A X.env X.xe)(hc:X.calm=true)(hi:PI X tg iter wi)(hg:PG X tg g)(hb:PSs X body tb)
 (hs:∀ x,foldedSetIterable iter X.env x=pure x):PS X (.For tg iter body [] pos) (JH wi g tb):=by
 intro pins s Y H D I h;refine wpAny_For (thn (hi pins s Y H _ I h) fun v s1 h1=>thn h1 fun itv s2 h2=>?_) hs;obtain⟨it,fp,tn,J,H2,e,I2,T,st2,f2,W,⟨m0,w0⟩,turn⟩:=h2;subst e
 have stat:∀ {H':Hp},(∀ b∈fp,H' b=none)->∀ b∈fp,jQ X pins H' b:=fun hn b hb=>#[hn b hb,(f2 b hb).2]
 refine codeAny_forLoop_any (fun n s'=>∃ i QQ H',Inv X pins QQ H' s'/\tn i s'.heap/\(∀ b∈fp,H' b=none)/\W i n QQ H') ?_ m0 ⟨0,Y,H2,I2,st2,fun b hb=>(f2 b hb).1,w0⟩;rintro n s3 ⟨i,QU,H3,I3,st3,fr3,w3⟩
 rcases turn i n QU H3 w3 with⟨stop,qn⟩ | ⟨go,N,hN,step⟩
 ·refine wpAny_passesOwn hp (thn (T.done X rfl rfl rfl hc i pins s3 QU H3 X.xe I3 (stat fr3) st3 stop) fun r s4 ⟨hr,I4⟩=>?_);subst hr;exact wpAny_execs_nil ⟨QU,H3,I4,qn⟩
 ·refine wpAny_passesOwn hp (thn (T.item X rfl rfl rfl hc i pins s3 QU H3 X.xe I3 (stat fr3) st3 go) fun r s4 ⟨u,hr,h4⟩=>?_);subst hr;refine wpAny_passesOwn hp (thn h4 fun _ s5 ⟨x,H5,I5,r5,y5,st5,fr5⟩=>?_);have I5':=I5.pinned (stat fr5) (T.obj _ _ st5);refine wpAny_passesOwn hp (thn (hg _ s5 QU H5 x u _ I5' r5 (step x H5 y5)) fun _ s6 ⟨Q6,H6,I6,q6⟩=>?_);refine wpAny_passesOwn hp (thn (hb _ s6 Q6 H6 _ I6 q6) fun f s7 q7=>?_)
  have again:∀ {QW:St} {H7:Hp},Inv X (pins++k6 fp s5.heap) QW H7 s7->N QW H7->∃ m,m<n/\∃ i QQ H',Inv X pins QQ H' s7/\tn i s7.heap/\(∀ b∈fp,H' b=none)/\W i m QQ H':=fun {QW H7} I7 n7=>by
   obtain⟨m',hm,w7⟩:=hN QW H7 n7;refine#[m',hm,i+1,QW,H7,I7.jH,T.keep _ _ _ st5 fun b hb o e=>(I7.pin (b,o) (Qs _ (Qs _ (gN hb e)))).1,fun b hb=>?_,w7];obtain⟨o,e,d⟩:=T.obj _ _ st5 b hb;exact(I7.pin (b,o) (Qs _ (Qs _ (gN hb e)))).2.1
  cases f with
  | next=>obtain⟨QW,H7,I7,n7⟩:=q7;exact again I7 n7
  | cont=>obtain⟨QW,H7,I7,n7⟩:=q7;exact again I7 n7
  | brk=>obtain⟨QW,H7,I7,q7⟩:=q7;exact#[QW,H7,I7.jH,q7]
  | ret v=>obtain⟨x7,QW,H7,I7,r7,q7⟩:=q7;exact#[x7,QW,H7,I7.jH,r7,q7]
end
@[reducible]noncomputable def R2:=V->V->Hp->VK->Prop
abbrev OpR(X:Cx)(f:Value->Value->Sem Value)(r:R2):Prop :=
 ∀ (pins:List (Addr × Obj)) (s:Shared) (Y:St) (H:Hp) (x y:V) (v u:Value) (Q:VK),Inv X pins Y H s->RelV x v->RelV y u->r x y H Q ->
  wpAny (model X.prog X.w) X.A (f v u) (EP X pins Y Q) X.xe s
abbrev UnR(X:Cx)(f:Value->Sem Value)(r:V->Hp->VK->Prop):Prop :=
 ∀ (pins:List (Addr × Obj)) (s:Shared) (Y:St) (H:Hp) (x:V) (v:Value) (Q:VK),Inv X pins Y H s->RelV x v->r x H Q ->
  wpAny (model X.prog X.w) X.A (f v) (EP X pins Y Q) X.xe s
abbrev bK(X:Cx)(f:Value)(r:List V->Hp->VK->Prop):Prop :=
 ∀ (pins:List (Addr × Obj)) (s:Shared) (Y:St) (H:Hp) (xs:List V) (us:List Value) (Q:VK),Inv X pins Y H s->Vals xs us->r xs H Q ->
  wpAny (model X.prog X.w) X.A (call f us) (EP X pins Y Q) X.xe s
abbrev J8(X:Cx)(r:V->Hp->(Bool->Hp->Prop)->Prop):Prop :=
 ∀ (pins:List (Addr × Obj)) (s:Shared) (Y:St) (H:Hp) (x:V) (v:Value) (Q:Bool->Hp->Prop),Inv X pins Y H s->RelV x v->r x H Q ->
  wpAny (model X.prog X.w) X.A (truthy v) (TP X pins Y Q) X.xe s
abbrev tOp(r:R2)(ta tb:TE):TE:=fun Y H Q=>ta Y H fun x H1=>tb Y H1 fun y H2=>r x y H2 Q
abbrev tUn(r:V->Hp->VK->Prop)(ta:TE):TE:=fun Y H Q=>ta Y H fun x H1=>r x H1 Q
abbrev rI(C:Int->Int->Prop)(g:Int->Int->V):R2:=fun x y H Q=>∃ i j,x=.int i/\y=.int j/\C i j/\Q (g i j) H
abbrev rI0(g:Int->Int->V):R2:=fun x y H Q=>∃ i j,x=.int i/\y=.int j/\Q (g i j) H
abbrev rU(g:Int->V):V->Hp->VK->Prop:=fun x H Q=>∃ i,x=.int i/\Q (g i) H
section
variable{X:Cx}{a b c:Expr}{ta tb tc:TE}{pos:Pos}
def Ao(ha:PE X a ta)(hb:PE X b tb){pins:List (Addr × Obj)}{s:Shared}{Y:St}{H:Hp}{R:V->V->Hp->Prop}(I:Inv X pins Y H s)
 (h:ta Y H fun x H1=>tb Y H1 fun y H2=>R x y H2){Q:Value->Shared->Prop}{f:Value->Value->Sem Value}
 (hf:∀ v u s2 x y H2,Inv X pins Y H2 s2->RelV x v->RelV y u->R x y H2->wpAny (model X.prog X.w) X.A (f v u) Q X.xe s2) :
  wpAny (model X.prog X.w) X.A (eval a X.env) (fun v s₁=>wpAny (model X.prog X.w) X.A (eval b X.env) (fun u s₂=>wpAny (model X.prog X.w) X.A (f v u) Q X.xe s₂) X.xe s₁) X.xe s:=by
 refine thn (ha pins s Y H _ I h) fun v s1 ⟨x,H1,I1,r1,q1⟩=>?_;refine thn (hb pins s1 Y H1 _ I1 q1) fun u s2 ⟨y,H2,I2,r2,q2⟩=>?_;exact hf v u s2 x y H2 I2 r1 r2 q2
def Jd{op:Operator}{r:R2}(ho:OpR X (binaryOp op) r)(ha:PE X a ta)(hb:PE X b tb):PE X (.BinOp a op b pos) (tOp r ta tb):=by
 kt_k;exact wpAny_BinOp (Ao ha hb I h fun v u s2 x y H2 I2 rx ry q=>ho pins s2 Y H2 x y v u Q I2 rx ry q)
def Cq(ho:UnR X (unaryOp op) r)(ha:PE X a ta):PE X (.UnaryOp op a pos) (tUn r ta):=by
 kt_k;exact UnaryOp_ (thn (ha pins s Y H _ I h) fun v s1 ⟨x,H1,I1,r1,q1⟩=>ho pins s1 Y H1 x v Q I1 r1 q1)
def opI{f:Value->Value->Sem Value}{C:Int->Int->Prop}{g:Int->Int->Int}
 (rule:∀ (i j:Int) (t u:Tok) (s:Shared) (Q:Value->Shared->Prop) (E:Value->Shared->Prop),C i j->Q (.int (g i j) s.toks) { s with toks:=s.toks+1 }->wpAny (model X.prog X.w) X.A (f (.int i t) (.int j u)) Q E s) :
  OpR X f (rI C fun i j=>.int (g i j)):=by
 cb_eq;obtain⟨i,j,rfl,rfl,hc,q⟩:=h;obtain⟨t,rfl⟩:=rx;obtain⟨t',rfl⟩:=ry;exact rule i j t t' s _ _ hc ⟨.int (g i j),H,I.tok _,⟨_,rfl⟩,q⟩
def Eu{f:Value->Value->Sem Value}{g:Int->Int->Int}
 (rule:∀ (i j:Int) (t u:Tok) (s:Shared) (Q:Value->Shared->Prop) (E:Value->Shared->Prop),Q (.int (g i j) s.toks) { s with toks:=s.toks+1 }->wpAny (model X.prog X.w) X.A (f (.int i t) (.int j u)) Q E s) :
  OpR X f (rI0 fun i j=>.int (g i j)):=by
 cb_eq;obtain⟨i,j,rfl,rfl,q⟩:=h;obtain⟨t,rfl⟩:=rx;obtain⟨t',rfl⟩:=ry;exact rule i j t t' s _ _ ⟨.int (g i j),H,I.tok _,⟨_,rfl⟩,q⟩
abbrev Ht(i j:Int):Prop:=0<=j/\j<=1000000/\i.natAbs<2 ^ 64
abbrev wM(i j:Int):Prop:=(-(2 ^ 64)<i/\i<2 ^ 64)\/(-(2 ^ 64)<j/\j<2 ^ 64)
def wM.ok(h:wM i j):IntMulOk i j:=by
 rcases h with⟨h1,h2⟩ | ⟨h1,h2⟩
 ·exact .of_left (intBits_le_64 h1 h2)
 ·exact .of_right (intBits_le_64 h1 h2)
def Hr:OpR X (binaryOp .Add) (rI0 fun i j=>.int (i+j)):=Eu fun _ _ _ _ _ _ _ q=>add_int q
def FC:OpR X (binaryOp .Sub) (rI0 fun i j=>.int (i-j)):=Eu fun _ _ _ _ _ _ _ q=>sub_int q
def FV:OpR X (binaryOp .Mult) (rI wM fun i j=>.int (i*j)):=opI fun _ _ _ _ _ _ _ hc q=>mul_int q hc.ok
def EI:OpR X (binaryOp .Mod) (rI (fun _ j=>0<j) fun i j=>.int (i%j)):=opI fun i j _ _ _ _ _ hc q=>by
 have h1:(0:Int)<j:=hc;exact mod_int' (by omega) (by rw[Int.fmod_eq_emod_of_nonneg i (by omega)];exact q)
def Gm:OpR X (binaryOp .Pow) (rI Ht fun i j=>.int (i ^ j.toNat)):=opI fun _ _ _ _ _ _ _ hc q=>pow_int_small hc.1 hc.2.1 hc.2.2 q
def unI{f:Value->Sem Value}{g:Int->Int}
 (rule:∀ (i:Int) (t:Tok) (s:Shared) (Q:Value->Shared->Prop) (E:Value->Shared->Prop),Q (.int (g i) s.toks) { s with toks:=s.toks+1 }->wpAny (model X.prog X.w) X.A (f (.int i t)) Q E s) :
  UnR X f (rU fun i=>.int (g i)):=by
 intro pins s Y H x v Q I rx h;obtain⟨i,rfl,q⟩:=h;obtain⟨t,rfl⟩:=rx;exact rule i t s _ _ ⟨.int (g i),H,I.tok _,⟨_,rfl⟩,q⟩
def yX:UnR X (unaryOp .USub) (rU fun i=>.int (-i)):=unI fun _ _ _ _ _ q=>neg_int q
end
abbrev JF:V->V->Bool
 | .non,.non=>true | .non,.int _=>true | .int _,.non=>true | .non,.bl _=>true | .bl _,.non=>true | .non,.str _=>true | .str _,.non=>true
 | .int _,.int _=>true | .bl _,.bl _=>true | .str _,.str _=>true | .byt _,.byt _=>true
 | .int _,.str _=>true | .str _,.int _=>true | .bl _,.str _=>true | .str _,.bl _=>true
 | _,_=>false
abbrev rNe:R2:=fun x y H Q=>JF x y=true/\Q (.bl (!decide (x=y))) H
def Eb:decide (V.int i=V.int j)=(i == j):=by
 rw[QJ];simp
def F7:decide (V.bl i=V.bl j)=(i == j):=by
 rw[QJ];simp
def DA:decide (V.str i=V.str j)=(i == j):=by
 rw[QJ];simp
def D7:decide (V.byt i=V.byt j)=(i.toList == j.toList):=by
 rw[QJ];cases i;cases j;simp
section
variable{X:Cx}{a b c:Expr}{ta tb tc:TE}{pos:Pos}
def cn(I:Inv X pins Y H s)(q:Q (.bl k) H)(e:k=k'):EP X pins Y Q (.bool k') s:=by
 subst e;exact#[.bl k,H,I,rfl,q]
def Ii:OpR X (compareOp .NotEq) rNe:=by
 cb_eq;obtain⟨hs,q⟩:=h
 cases x with
 |non=>
  cases rx
  cases y with
  | non=>cases ry;exact PySem.EqNone.ne_none_none (cn I q (by simp))
  | bl j=>cases ry;exact PySem.EqNone.ne_none_bool (cn I q (by simp))
  | int j=>obtain⟨t',rfl⟩:=ry;exact PySem.EqNone.ne_none_int (cn I q (by simp))
  | str j=>obtain⟨t',rfl⟩:=ry;exact PySem.EqNone.ne_none_str (cn I q (by simp))
  | _=>exact absurd (show false=true from hs) Qi
 |bl i=>
  cases rx
  cases y with
  | non=>cases ry;exact PySem.EqNone.ne_bool_none (cn I q (by simp))
  | bl j=>cases ry;exact ne_bool (cn I q (congrArg not F7))
  | str j=>obtain⟨t',rfl⟩:=ry;exact PySem.EqMixed.ne_bool_str (cn I q (by simp))
  | _=>exact absurd (show false=true from hs) Qi
 |int i=>
  obtain⟨t,rfl⟩:=rx
  cases y with
  | non=>cases ry;exact PySem.EqNone.ne_int_none (cn I q (by simp))
  | int j=>obtain⟨t',rfl⟩:=ry;exact ne_int (cn I q (congrArg not Eb))
  | str j=>obtain⟨t',rfl⟩:=ry;exact PySem.EqMixed.ne_int_str (cn I q (by simp))
  | _=>exact absurd (show false=true from hs) Qi
 |str i=>
  obtain⟨t,rfl⟩:=rx
  cases y with
  | non=>cases ry;exact PySem.EqNone.ne_str_none (cn I q (by simp))
  | bl j=>cases ry;exact PySem.EqMixed.ne_str_bool (cn I q (by simp))
  | int j=>obtain⟨t',rfl⟩:=ry;exact PySem.EqMixed.ne_str_int (cn I q (by simp))
  | str j=>obtain⟨t',rfl⟩:=ry;exact ne_str (cn I q (congrArg not DA))
  | _=>exact absurd (show false=true from hs) Qi
 |byt i=>
  obtain⟨t,rfl⟩:=rx
  cases y with
  | byt j=>obtain⟨t',rfl⟩:=ry;exact W.ne_bytes (cn I q (congrArg not D7))
  | _=>exact absurd (show false=true from hs) Qi
 | _=>cases y<;>exact absurd (show false=true from hs) Qi
def Ga:OpR X (compareOp .Is) (fun x y H Q=>y=.non/\Q (.bl (decide (x=.non))) H):=by
 cb_eq;obtain⟨rfl,q⟩:=h;cases ry;refine is_none_gen (cn I q ?_)
 cases x<;>first
  | (cases rx;rfl)
  | (obtain⟨t,rfl⟩:=rx;rfl)
def Dc:OpR X (compareOp .IsNot) (fun x y H Q=>y=.non/\Q (.bl (!decide (x=.non))) H):=by
 cb_eq;obtain⟨rfl,q⟩:=h;cases ry;refine isnot_none_gen (cn I q ?_)
 cases x<;>first
  | (cases rx;rfl)
  | (obtain⟨t,rfl⟩:=rx;rfl)
def OpR.or(h:OpR X f r)(h':OpR X f r'):OpR X f (fun x y H Q=>r x y H Q\/r' x y H Q):=by
 intro pins s Y H x y v u Q I rx ry q;rcases q with q | q
 ·exact h pins s Y H x y v u Q I rx ry q
 ·exact h' pins s Y H x y v u Q I rx ry q
def rH(b:Expr)(h:op≠.In)(h2:op≠.NotIn):behindInMarks op b=false:=by
 have e1:(op == CmpOp.In)=false:=by cases op<;>first | rfl | exact absurd rfl h
 have e2:(op == CmpOp.NotIn)=false:=by cases op<;>first | rfl | exact absurd rfl h2
 cases b<;>simp[behindInMarks,e1,e2]
def pQ{op:CmpOp}{r:R2}(ho:OpR X (compareOp op) r)(ha:PE X a ta)(hb:PE X b tb)(hm:behindInMarks op b=false):PE X (.Compare a [op] [b] pos) (tOp r ta tb):=by
 kt_k;exact wpAny_Compare1 (Ao ha hb I h fun v u s2 x y H2 I2 rx ry q=>ho pins s2 Y H2 x y v u Q I2 rx ry q) hm
abbrev Cz(t:TE):TT:=fun Y H Q=>t Y H fun x H'=>∃ k,x=.bl k/\Q k H'
def l6(ho:OpR X (compareOp op) r)(ha:PE X a ta)(hb:PE X b tb)(hm:behindInMarks op b=false):PT X (.Compare a [op] [b] pos) (Cz (tOp r ta tb)):=by
 kt_k
 refine wpAny_isTrue_Compare1 (thn (ha pins s Y H _ I h) fun v s1 ⟨x,H1,I1,r1,q1⟩=>thn (hb pins s1 Y H1 _ I1 q1) fun u s2 ⟨y,H2,I2,r2,q2⟩ =>
  thn (ho pins s2 Y H2 x y v u _ I2 r1 r2 q2) fun c s3 ⟨z,H3,I3,r3,k,e,q3⟩=>?_) hm
 subst e;cases r3;exact wpAny_truthy_bool ⟨H3,I3,q3⟩
abbrev tQ(r r':R2)(ta tb tc:TE):TE:=fun Y H Q=>ta Y H fun x H1=>tb Y H1 fun y H2=>r x y H2 fun z H3=>∃ k,z=.bl k /\
 (if k=true then tc Y H3 fun w' H4=>r' y w' H4 Q else Q (.bl false) H3)
def Bj(ho:OpR X (compareOp op) r)(ho':OpR X (compareOp op') r')(ha:PE X a ta)(hb:PE X b tb)(hc:PE X c tc)
 (hm:lastMarks [op,op'] [b,c]=false):PE X (.Compare a [op,op'] [b,c] pos) (tQ r r' ta tb tc):=by
 kt_k
 refine Compare_chain (thn (ha pins s Y H _ I h) fun v s1 ⟨x,H1,I1,r1,q1⟩=>chain_link (thn (hb pins s1 Y H1 _ I1 q1) fun u s2 ⟨y,H2,I2,r2,q2⟩ =>
  thn (ho pins s2 Y H2 x y v u _ I2 r1 r2 q2) fun d s3 ⟨z,H3,I3,r3,k,e,q3⟩=>?_)) hm
 subst e;cases r3;refine wpAny_truthy_bool ?_
 cases k with
 | false=>exact ite_ff ⟨.bl false,H3,I3,rfl,q3⟩
 | true=>exact ite_tt (chain_last (thn (hc pins s3 Y H3 _ I3 q3) fun w' s4 ⟨z',H4,I4,r4,q4⟩=>ho' pins s4 Y H4 y z' u w' Q I4 r2 r4 q4))
def AV(ho:OpR X (compareOp op) r)(ho':OpR X (compareOp op') r')(ha:PE X a ta)(hb:PE X b tb)(hc:PE X c tc)
 (hm:lastMarks [op,op'] [b,c]=false):PT X (.Compare a [op,op'] [b,c] pos) (Cz (tQ r r' ta tb tc)):=by
 kt_k
 refine isTrue_chain (thn (ha pins s Y H _ I h) fun v s1 ⟨x,H1,I1,r1,q1⟩=>test_link (thn (hb pins s1 Y H1 _ I1 q1) fun u s2 ⟨y,H2,I2,r2,q2⟩ =>
  thn (ho pins s2 Y H2 x y v u _ I2 r1 r2 q2) fun d s3 ⟨z,H3,I3,r3,k,e,q3⟩=>?_)) hm
 subst e;cases r3;refine wpAny_truthy_bool ?_
 cases k with
 |false=>
  obtain⟨k',e',q'⟩:=q3;cases e';exact ite_ff ⟨H3,I3,q'⟩
 |true=>
  refine ite_tt (test_last (thn (hc pins s3 Y H3 _ I3 q3) fun w' s4 ⟨z',H4,I4,r4,q4⟩=>thn (ho' pins s4 Y H4 y z' u w' _ I4 r2 r4 q4) fun d' s5 ⟨z2,H5,I5,r5,k2,e2,q5⟩=>?_));subst e2;cases r5;exact wpAny_truthy_bool ⟨H5,I5,q5⟩
abbrev x9(K:W.Frag)(x:V)(H:Hp)(k:Bool):Prop :=
 match x with
 | .non=>k=false
 | .bl b=>k=b
 | .int i=>k=(i != 0)
 | .str y=>y.length<=sizeLine/\k=((y.length:Int) != 0)
 | .byt y=>y.size<=sizeLine/\k=((y.size:Int) != 0)
 | .ref p=>(∃ xs,SqL K H p xs/\k=!xs.isEmpty)\/(∃ xs,SqT K H p xs/\k=!xs.isEmpty)\/∃ kvs,H p=some (.dK kvs)/\k=!kvs.isEmpty
 | _=>False
def wJ(r:KV kvs vs):(!vs.isEmpty)=!kvs.isEmpty:=by
 cases r<;>rfl
def oz(r:Vals xs its):(!its.toArray.isEmpty)=!xs.isEmpty:=by
 cases r<;>simp
def j5:(sizeLine:Nat)<2 ^ 63:=by rw[sizeLine_eq];decide
def yx:J8 X (fun x H Q=>∃ k,x9 X.K x H k/\Q k H):=by
 intro pins s Y H x v Q I rx h;obtain⟨k,e,q⟩:=h;have hl:=j5;have hs:sizeLine=16777216:=sizeLine_eq
 cases x with
 |non=>
  cases rx;have e':k=false:=e;subst e';exact truthy_none ⟨H,I,q⟩
 |bl b=>
  cases rx;have e':k=b:=e;subst e';exact wpAny_truthy_bool ⟨H,I,q⟩
 |int i=>
  obtain⟨t,rfl⟩:=rx;have e':k=(i != 0):=e;subst e';exact PySem.P.truthy_int ⟨H,I,q⟩
 |str y=>
  obtain⟨t,rfl⟩:=rx;obtain⟨hy,e'⟩:y.length<=sizeLine/\k=((y.length:Int) != 0):=e;subst e';exact PySem.P.truthy_str (by omega) ⟨H,I.tok _,q⟩
 |byt y=>
  obtain⟨t,rfl⟩:=rx;obtain⟨hy,e'⟩:y.size<=sizeLine/\k=((y.size:Int) != 0):=e;subst e';exact W.truthy_bytes (by omega) ⟨H,I.tok _,q⟩
 |ref p=>
  cases rx;have e':(∃ xs,SqL X.K H p xs/\k=!xs.isEmpty)\/(∃ xs,SqT X.K H p xs/\k=!xs.isEmpty)\/∃ kvs,H p=some (.dK kvs)/\k=!kvs.isEmpty:=e
  rcases e' with⟨xs,hx,e'⟩ | ⟨xs,hx,e'⟩ | ⟨kvs,hx,e'⟩
  ·subst e';obtain⟨its,r,pl,hz⟩:=I.list hx;have hlen:=r.length;exact wpAny_truthy_list pl.isList (by simp only[List.size_toArray];omega) ⟨H,I.tok _,by rw[oz r];exact q⟩
  ·subst e';obtain⟨its,r,pl,hz⟩:=I.tuple hx;have hlen:=r.length;exact truthy_tuple pl (by simp only[List.size_toArray];omega) ⟨H,I.tok _,by rw[oz r];exact q⟩
  ·subst e';obtain⟨hz,hS,vs,r,m⟩:kvs.length<=sizeLine/\(p == sysModules)=false/\∃ vs,KV kvs vs/\s.heap.DictOf (cu X.prog X.w) p vs:=I.hok p _ hx;have hlen:kvs.length=vs.length:=Paired.length r;exact wpAny_truthy_dict hS m (by omega) ⟨H,I.tok _,by rw[wJ r];exact q⟩
 | _=>exact(show False from e).elim
def Bb(ha:PE X a ta)(he:∀ whole,isTrue a X.env whole=(do let v <- whole;standAt a.pos;holding [v] (truthy v))) :
  PT X a (fun Y H Q=>ta Y H fun x H'=>∃ k,x9 X.K x H' k/\Q k H'):=by
 kt_k;exact isTrue_plain (thn (ha pins s Y H _ I h) fun v s1 ⟨x,H1,I1,r1,q1⟩=>yx pins s1 Y H1 x v Q I1 r1 q1) (he _)
def xc:OpR X (binaryOp .Add) (fun x y H Q=>∃ i j,x=.str i/\y=.str j/\i.length+j.length<=sizeLine/\Q (.str (i++j)) H):=by
 cb_eq;obtain⟨i,j,rfl,rfl,hz,q⟩:=h;obtain⟨t,rfl⟩:=rx;obtain⟨t',rfl⟩:=ry;exact add_str (fun t' tk=>#[.str (i++j),H,I.tok _,#[_,rfl],q]) hz
def vals1(r:Vals [x] us):∃ u,us=[u]/\RelV x u:=by
 cases r with
 | cons r1 r2=>cases r2;exact#[_,rfl,r1]
def vals2(r:Vals [x,y] us):∃ u w',us=[u,w']/\RelV x u/\RelV y w':=by
 cases r with
 |cons r1 r2=>
  cases r2 with
  | cons r3 r4=>cases r4;exact#[_,_,rfl,r1,r3]
def xT(hc:X.calm=true):bK X (.builtin "max") (fun xs H Q=>∃ i j,xs=[.int i,.int j]/\Q (.int (if j > i then j else i)) H):=by
 by_in;obtain⟨i,j,rfl,q⟩:=h;obtain⟨u,w',rfl,⟨t,rfl⟩,⟨t',rfl⟩⟩:=vals2 r
 refine max_two_ints (I.ok.hd.1 hc) fun h' tk k=>#[_,H,I.kept k,?_,q]
 by_cases hj:j > i
 ·rw[if_pos hj,if_pos hj];exact#[_,rfl]
 ·rw[if_neg hj,if_neg hj];exact#[_,rfl]
def xH:bK X (.type "int") (fun xs H Q=>(∃ i,xs=[.int i]/\Q (.int i) H)\/∃ k,xs=[.bl k]/\Q (.int (if k then 1 else 0)) H):=by
 by_in
 rcases h with⟨i,rfl,q⟩ | ⟨k,rfl,q⟩
 ·obtain⟨u,rfl,t,rfl⟩:=vals1 r;exact call_int_int ⟨.int i,H,I,⟨_,rfl⟩,q⟩
 ·obtain⟨u,rfl,r1⟩:=vals1 r;cases r1;exact call_int_bool ⟨.int (if k then 1 else 0),H,I.tok _,⟨_,rfl⟩,q⟩
abbrev G5(K:W.Frag)(x:V)(H:Hp)(n:Nat):Prop :=
 match x with
 | .str y=>y.length<=sizeLine/\n=y.length
 | .byt y=>y.size<=sizeLine/\n=y.size
 | .ref p=>(∃ xs,SqL K H p xs/\n=xs.length)\/∃ xs,SqT K H p xs/\n=xs.length
 | _=>False
def Br:bK X (.builtin "len") (fun xs H Q=>∃ x n,xs=[x]/\G5 X.K x H n/\Q (.int n) H):=by
 by_in;obtain⟨x,n,rfl,e,q⟩:=h;obtain⟨u,rfl,rx⟩:=vals1 r;have hl:=j5;have hs:sizeLine=16777216:=sizeLine_eq
 cases x with
 |str y=>
  obtain⟨t,rfl⟩:=rx;obtain⟨hy,e'⟩:y.length<=sizeLine/\n=y.length:=e;subst e';exact len_str (by omega) ⟨.int _,H,I.tok _,⟨_,rfl⟩,q⟩
 |byt y=>
  obtain⟨t,rfl⟩:=rx;obtain⟨hy,e'⟩:y.size<=sizeLine/\n=y.size:=e;subst e';exact W.len_bytes (by omega) ⟨.int _,H,I.tok _,⟨_,rfl⟩,q⟩
 |ref p=>
  cases rx;have e':(∃ xs,SqL X.K H p xs/\n=xs.length)\/∃ xs,SqT X.K H p xs/\n=xs.length:=e
  rcases e' with⟨xs,hx,e'⟩ | ⟨xs,hx,e'⟩
  ·subst e';obtain⟨its,r',pl,hz⟩:=I.list hx;have hlen:=r'.length;exact Calls.call_len_list pl.isList (by simp only[List.size_toArray];omega) ⟨.int xs.length,H,I.tok _,⟨_,by simp only[List.size_toArray];rw[hlen]⟩,q⟩
  ·subst e';obtain⟨its,r',pl,hz⟩:=I.tuple hx;have hlen:=r'.length;exact len_tuple pl (by simp only[List.size_toArray];omega) ⟨.int xs.length,H,I.tok _,⟨_,by simp only[List.size_toArray];rw[hlen]⟩,q⟩
 | _=>exact(show False from e).elim
end
structure Bx(h:Heap)(x dx C:Addr)(mA:Str->Option Value):Prop where
 obj:h.get? x=some (W.instObj C dx)
 ns:h.Ns1 dx mA
 ne:dx≠x
def zq{h:Heap}(n:h.Ns1 dx mA):∃ od,h.get? dx=some od/\∀ name,W.lookIn name od=some (mA name):=by
 obtain⟨o,es,ep,ho,hd,hk,_,hm⟩:=n;refine#[o,ho,fun name=>?_];have e:=hm name;unfold nsFind findBy at e;rw[<-Array.find?_toList]at e;unfold W.lookIn;rw[hd];dsimp only;split
 ·rename_i y q;rw[q]at e;exact congrArg some e
 ·rename_i q;rw[q]at e
  have a:es.toList.any (·.refKey)=false:=by
   rw[List.any_eq_false];intro y hy;obtain⟨z,t,hkey⟩:=hk y (Array.mem_toList_iff.mp hy);simp[DictEntry.refKey,hkey]
  have a':¬ es.toList.any (·.refKey)=true:=by rw[a];exact Qi
  rw[if_neg a'];exact congrArg some e
def Bx.look(I:Bx h x dx C mA):∃ od,W.InstAt h x (W.instObj C dx) C (some od)/\∀ name,W.lookIn name od=some (mA name) :=
 let ⟨od,ho,hl⟩:=zq I.ns
 ⟨od,⟨I.obj,rfl,rfl,ho⟩,hl⟩
section
variable{prog:Program}{w:World}{A:Around}{E:Value->Shared->Prop}{s:Shared}{K:W.Frag}{x dx C f:Addr}{mA:Str->Option Value}{name:Str}{v:Value}
end
def iu.some_of(r:iu (some v) o):∃ u,o=some u/\RelV v u:=by
 cases o with
 | none=>exact(show False from r).elim
 | some u=>exact#[u,rfl,r]
section
variable{P:Program}{w:World}{H H':Hp}{h h':Heap}{a C dx:Addr}{fs fs':List (Str × V)}
def Dj(hok:HOk P w H h)(e:H a=some (.ins C dx fs)):∃ mA,Bx h a dx C mA/\(∀ f,iu (fs.lookup f) (mA f))/\PySem.Within mA (fs.map (·.1))/\fs.length<=1000/\H dx=some (.own a):=by
 obtain⟨d,z,ne,ob,mA,n,r,q⟩:=(show bC P w H h a (.ins C dx fs)from hok a _ e)
 exact#[mA,#[ob,n,ne],r,q,z,d]
end
structure Cls(K:W.Frag)(C:Addr):Prop where
 pg:W.plainGet K C Str.empty=true
 hd:W.hasDictIn K C=true
 po:W.plainOver K C=true
 sa:W.findIn K (.ref C) "__setattr__" = some (some (.builtin "object.__setattr__"))
def Cls.get{K:W.Frag}(c:Cls K C)(f:Str):W.plainGet K C f=true:=c.pg
section
variable{X:Cx}{pins:List (Addr × Obj)}{Y:St}{H:Hp}{s:Shared}{a C dx:Addr}{fs:List (Str × V)}{f:Str}{v:V}{A:Around}{E:Value->Shared->Prop}
end
section
variable{X:Cx}{o e value:Expr}{f:Str}{pos pos' tpos:Pos}{ta tv:TE}
end
section
variable{X:Cx}{pins:List (Addr × Obj)}{Y:St}{H:Hp}{s:Shared}{A:Around}{E:Value->Shared->Prop}{Q:Value->Shared->Prop}{c:Value}{b:Bool}
inductive fD (K:W.Frag) (H:Hp):V->Value->Prop where
 | non:fD K H .non (.type "NoneType")
 | bl (x:Bool):fD K H (.bl x) (.type "bool")
 | int (i:Int):fD K H (.int i) (.type "int")
 | str (x:Str):fD K H (.str x) (.type "str")
 | flt (x:UInt64):fD K H (.flt x) (.type "float")
 | lst {a:Addr} {xs:List V} (e:H a=some (.lst xs)):fD K H (.ref a) (.type "list")
 | frz {a:Addr} {o:Obj} {xs:List V} (e:H a=some (.frz o (.lst xs))):fD K H (.ref a) (.type "list")
 | tup {a:Addr} {xs:List V} (e:H a=some (.tup xs)):fD K H (.ref a) (.type "tuple")
 | dK {a:Addr} {kvs:List (Key × V)} (e:H a=some (.dK kvs)):fD K H (.ref a) (.type "dict")
 | dT {a:Addr} {kvs:List (List Key × V)} (e:H a=some (.dT kvs)):fD K H (.ref a) (.type "dict")
 | ins {a C dx:Addr} {fs:List (Str × V)} (e:H a=some (.ins C dx fs)) (cl:Cls K C) (ha:W.findIn K (.ref C) "__class__" = some (some (.builtin "object.__class__")))
   (hn:W.specialIn K (.builtin "object.__class__") "__get__" = some (some (.builtin "getset_descriptor.__get__"))) (htk:W.takesIn K (.builtin "object.__class__")=some true)
   (hm:W.mroIn K C (.type "object")=some true):fD K H (.ref a) (.ref C)
def yc(I:Inv X pins Y H s)(rx:RelV x u)(ty:fD X.K H x t)(e:W.kitOne X.K t c=some b)(h:∀ tk,Q (.bool b) { s with toks:=tk }) :
  wpAny (model X.prog X.w) A (call (.builtin "isinstance") [u,c]) Q E s:=by
 cases ty with
 | non=>cases(show u=Value.none from rx);exact W.kia_one W.kitx_none I.kIn True.intro e (fun z=>nomatch z) h
 | bl y=>cases(show u=Value.bool y from rx);exact W.kia_one W.kitx_bool I.kIn True.intro e (fun z=>nomatch z) h
 | int i=>obtain⟨t,q⟩:=(show ∃ t,u=Value.int i t from rx);cases q;exact W.kia_one W.kitx_int I.kIn True.intro e (fun z=>nomatch z) h
 | str y=>obtain⟨t,q⟩:=(show ∃ t,u=Value.str y t from rx);cases q;exact W.kia_one W.kitx_str I.kIn True.intro e (fun z=>nomatch z) h
 | flt y=>obtain⟨t,q⟩:=(show ∃ t,u=Value.float y t from rx);cases q;exact W.kia_one W.kitx_float I.kIn True.intro e (fun z=>nomatch z) h
 |@lst a xs ea=>
  cases(show u=Value.ref a from rx)
  obtain⟨_,_,n,_,h1⟩:=(show bC X.prog X.w H s.heap a (.lst xs)from I.hok a _ ea)
  exact W.kia_one W.kitx_list I.kIn ⟨_,h1,rfl⟩ e (fun z=>nomatch z) h
 |@frz a ob xs ea=>
  cases(show u=Value.ref a from rx)
  obtain⟨_,_,_,n,_,h1⟩:=(show bC X.prog X.w H s.heap a (.frz ob (.lst xs))from I.hok a _ ea)
  exact W.kia_one W.kitx_list I.kIn ⟨_,h1,rfl⟩ e (fun z=>nomatch z) h
 |@tup a xs ea=>
  cases(show u=Value.ref a from rx)
  obtain⟨_,_,_,p⟩:=(show bC X.prog X.w H s.heap a (.tup xs)from I.hok a _ ea)
  obtain⟨o,h1,h2,_⟩:=p;exact W.kia_one W.kitx_tuple I.kIn ⟨o,h1,h2⟩ e (fun z=>nomatch z) h
 |@dK a kvs ea=>
  cases(show u=Value.ref a from rx)
  obtain⟨_,_,vs,_,p⟩:=(show bC X.prog X.w H s.heap a (.dK kvs)from I.hok a _ ea)
  obtain⟨o,es,ep,h1,h2,_⟩:=p;exact W.kia_one W.kitx_dict I.kIn ⟨o,h1,h2.1⟩ e (fun z=>nomatch z) h
 |@dT a kvs ea=>
  cases(show u=Value.ref a from rx)
  obtain⟨_,_,xs,_,o,es,ep,h1,h2,_⟩:=(show bC X.prog X.w H s.heap a (.dT kvs)from I.hok a _ ea)
  exact W.kia_one W.kitx_dict I.kIn ⟨o,h1,h2.1⟩ e (fun z=>nomatch z) h
 |@ins a C dx fs ea cl ha hn htk hm=>
  cases(show u=Value.ref a from rx);obtain⟨mA,O,_⟩:=Dj I.hok ea;obtain⟨od,J,_⟩:=O.look;exact W.kia_one (W.kitx_own (cl.get _) cl.hd ha hn htk hm) I.kIn J e (fun z=>nomatch z) h
end
structure cJ(k:Nat)(A:Around):Prop where
 hd:A.handled=none
 dp:A.depth+3*k+5<recursionLimit
 un:A.units+16*k+200<cLine
def cJ.deeper(r:cJ (k+1) A)(env:Env):cJ k (A.deeper env) :=
 ⟨r.hd,by have:=r.dp;show A.depth+1+3*k+5<_;omega,by have:=r.un;show A.units+3+16*k+200<_;omega⟩
def cJ.depth(r:cJ k A):A.depth<recursionLimit:=by have:=r.dp;omega
abbrev lg:TA:=fun _ H Q=>Q [] H
abbrev iP(ta:TE)(tr:TA):TA:=fun Y H Q=>ta Y H fun x H1=>tr Y H1 fun xs H2=>Q (x::xs) H2
section
variable{X:Cx}{e:Expr}{es:List Expr}{te:TE}{t:TA}{pos:Pos}
def cL:PA X [] lg:=fun _ _ _ _ H Q I h=>Calls.spliced_nil ⟨[],H,I,.nil,h⟩
def bu(ha:PE X e te)(hr:PA X es t)(hs:starEach (e::es) X.env=(false,eval e X.env)::starEach es X.env):PA X (e::es) (iP te t):=by
 intro pos pins s Y H Q I h;rw[hs];show wpAny _ _ (spliced ((false,eval e X.env)::backTo pos (starEach es X.env))) _ _ s;refine Calls.spliced_cons (thn (ha pins s Y H _ I h) fun u s1 ⟨x,H1,I1,r1,q1⟩=>?_)
 exact thn (hr pos pins s1 Y H1 _ I1 q1) fun us s2 ⟨xs,H2,I2,r2,q2⟩=>#[x::xs,H2,I2,.cons r1 r2,q2]
abbrev Kf(t:TA):TE:=fun Y H Q=>t Y H fun xs H1=>xs.length<=sizeLine/\∀ p,H1 p=none->Q (.ref p) (upd H1 p (.tup xs))
abbrev JR(t:TA):TE:=fun Y H Q=>t Y H fun xs H1=>xs.length<=sizeLine/\∀ p,H1 p=none->Q (.ref p) (upd H1 p (.lst xs))
def GX(h:PA X es t):PE X (.Tuple es x1 pos) (Kf t):=by
 intro pins s Y H Q I hq;refine wpAny_Tuple_spliced (thn (h pos pins s Y H _ I hq) fun us s1 ⟨xs,H1,I1,r,z,q⟩=>#[by rw[<-r.length];exact z,?_]);have hf:H1 s1.heap.objs.size=none:=I1.hok.fresh (Qc _);refine#[.ref s1.heap.objs.size,upd H1 s1.heap.objs.size (.tup xs),I1.laid (t':=s1.toks) (fun b u e=>Qa _ e) (Qc _) ?_,rfl,q _ hf];exact#[z,us,r,#[_,Qe _ rfl,rfl,_,rfl]]
def FU(h:PA X es t):PE X (.List es pos) (JR t):=by
 intro pins s Y H Q I hq;refine wpAny_List_spliced (thn (h pos pins s Y H _ I hq) fun us s1 ⟨xs,H1,I1,r,z,q⟩=>#[by rw[<-r.length];exact z,?_]);have hf:H1 s1.heap.objs.size=none:=I1.hok.fresh (Qc _);refine#[.ref s1.heap.objs.size,upd H1 s1.heap.objs.size (.lst xs),I1.laid (t':=s1.toks) (fun b u e=>Qa _ e) (Qc _) ?_,rfl,q _ hf];exact#[z,us,0,r,Qe _ rfl]
end
@[reducible]noncomputable def Sp:=List V->Hp->VK->XK->Prop
@[reducible]noncomputable def CXT:=List Env->Hp->Shared->XK->Value->Shared->Prop
structure rM(P:Program)(w:World)(K:W.Frag)(mg:Str->Option Value)(base:Heap)(A:Around)(outer:List Env)(s:Shared)(H:Hp):Prop where
 frames:A.frames=some outer
 mod:Mod K mg base
 bs:∀ b o,base.get? b=some o->s.heap.get? b=some o/\H b=none
 bsz:base.objs.size<=s.heap.objs.size
 dZ:s.heap.FunFrames base outer
 frf:∀ b∈frs outer,H b=none
 hok:HOk P w H s.heap
 bare:AllBare s.gens
abbrev CE(outer:List Env)(P:Program)(w:World)(H:Hp)(s:Shared)(Q:VK)(u:Value)(s':Shared):Prop :=
 ∃ v H',s'.os=s.os/\AllBare s'.gens/\Un (frs outer) [] H H' s.heap s'.heap/\HOk P w H' s'.heap/\RelV v u/\Q v H'
abbrev CR(CX:CXT)(outer:List Env)(P:Program)(w:World)(H:Hp)(s:Shared)(Q:VK)(E:XK)(r:Result)(s':Shared):Prop :=
 match r with
 | .ok (.ret u)=>CE outer P w H s Q u s'
 | .ok _=>False
 | .error e=>CX outer H s E e s'
structure eJ(P:Program)(w:World)(K:W.Frag)(mg:Str->Option Value)(base:Heap)(CX:CXT)(k:Nat)(f:Addr)(fd:FuncData)(ps:List Str)(sp:Sp):Prop where
 len:∀ vs H Q E,sp vs H Q E->vs.length=ps.length
 run:∀ (A:Around) (outer:List Env) (s:Shared) (H:Hp) (args:Args) (us:List Value) (vs:List V) (Q:VK) (E:XK),cJ k A->rM P w K mg base A outer s H->BindsTo s fd args (ps.zip us)->Vals vs us->sp vs H Q E ->
  codeAny (model P w) A (.call (.ref f) args) (CR CX outer P w H s Q E) s
section
variable{X:Cx}{pins:List (Addr × Obj)}{Y:St}{H:Hp}{s s':Shared}
def Inv.BD(I:Inv X pins Y H s):rM X.prog X.w X.K X.mg X.base X.A X.stack s H :=
 ⟨I.ok.frames,I.ok.mod,I.bs,Qr I.ok.bsz I.sz,I.stack,I.lj,I.hok,I.bare⟩
def Inv.after(I:Inv X pins Y H s)(h:CE X.stack X.prog X.w H s Q u s'):EP X pins Y Q u s':=by
 obtain⟨v,H',os,bare,un,hok,r,q⟩:=h;obtain⟨hh,g,d,t,os'⟩:=s';obtain rfl:os'=s.os:=os;exact#[v,H',I.call (h':=hh) (g':=g) (d':=d) (t':=t) (ch:=[]) un hok bare (fun b z=>absurd z (by simp)),r,q]
end
abbrev rj(sp:Sp)(dvs:List V)(E:XK)(t:TA):TE:=fun Y H Q=>t Y H fun vs H1=>sp (vs++dvs) H1 Q E
abbrev Binds(K:W.Frag)(fd:FuncData)(ps:List Str)(ds:List Value):Prop :=
 ∀ (s:Shared) (us:List Value),K.In s.heap->(us++ds).length=ps.length->BindsTo s fd ⟨us,[]⟩ (ps.zip (us++ds))
def Binds.all{K:W.Frag}(h:∀ us:List Value,us.length=ps.length->bindArgs fd ⟨us,[]⟩=pure (ps.zip us)):Binds K fd ps []:=fun s us _ hl=>by
 rw[QD]at hl ⊢;exact .of_eq (h us hl)
abbrev Passes(CX:CXT)(X:Cx)(E:XK):Prop:=∀ (pins:List (Addr × Obj)) (Y:St) (H:Hp) (s:Shared) (e:Value) (s':Shared),Inv X pins Y H s->CX X.stack H s E e s'->X.xe e s'
section
variable{X:Cx}{CX:CXT}{k:Nat}{f C:Addr}{fd:FuncData}{ps:List Str}{sp:Sp}{dvs:List V}{ds:List Value}{E:XK}{x m:Str}{p pos apos:Pos}{e o:Expr}{es:List Expr}{ta:TE}{t:TA}
def Ej(F:eJ X.prog X.w X.K X.mg X.base CX k f fd ps sp)(hr:cJ k X.A)(hb:Binds X.K fd ps ds)(hd:Vals dvs ds)(hx:Passes CX X E)
 (I:Inv X pins Y H s)(r:Vals vs us)(h:sp (vs++dvs) H Q E):wpAny (model X.prog X.w) X.A (call (.ref f) us) (EP X pins Y Q) X.xe s:=by
 have r2:Vals (vs++dvs) (us++ds):=r.append hd
 have hl:(us++ds).length=ps.length:=by rw[<-r2.length];exact F.len _ _ _ _ h
 refine wpAny_call (codeAny_mono (F.run X.A X.stack s H ⟨us,[]⟩ (us++ds) (vs++dvs) Q E hr I.BD (hb s us I.kIn hl) r2 h) fun r s' hq=>?_)
 cases r with
 | error e=>exact hx pins Y H s e s' I hq
 |ok fl=>
  cases fl with
  | ret u=>exact I.after hq
  | next=>exact False.elim hq
  | brk=>exact False.elim hq
  | cont=>exact False.elim hq
def vA(F:eJ X.prog X.w X.K X.mg X.base CX k f fd ps sp)(hr:cJ k X.A)(hg:Gl X x)(hm:X.mg x=some (.ref f))(hk:W.keepIn X.K (.ref f)=true)(hb:Binds X.K fd ps ds)(hd:Vals dvs ds)(hx:Passes CX X E)
 (ha:PA X (e::es) t)(hdb:(x == ("__debug__" : Str))=false)(he:starEach (e::es) X.env=(false,eval e X.env)::starEach es X.env)(hpl:(backTo pos (starEach es X.env)).any (·.1)=false) :
  PE X (.Call (.Name x p) (e::es) [] pos) (rj sp dvs E t):=by
 kt_k;refine wpAny_Call_Name_kw (hV I hg hm ?_ hdb);refine W.callWith_K (h₀:=X.base) I.ok.mod.kin hk (thn (ha pos pins s Y H _ I h) fun us s1 ⟨vs,H1,I1,r,q⟩=>#[I1.kIn,?_]) he hpl;exact Ej F hr hb hd hx I1 r q
end
section
variable{X:Cx}{CX:CXT}{k:Nat}{f C:Addr}{fd:FuncData}{ps ks:List Str}{sp:Sp}{E:XK}{x m:Str}{p pos apos kpos:Pos}{e o:Expr}{es:List Expr}{kws:List Keyword}{te ta:TE}{t tk:TA}{nm:Option Str}
variable{g:List Value->List Value->List Value}{gV:List V->List V->List V}
end
structure fO(N P:List Str)(sc:Scope):Prop where
 kind:sc.kind=.function
 co:sc.isCoroutine=false
 gen:sc.isGenerator=false
 nd:N.Nodup
 pre:N.take P.length=P
 par:∀ x∈P,sc.names.lookup x=some .local\/sc.names.lookup x=some .cell
 Gk:∀ y∈sc.names,y.2≠.free
def qp{kindOf:Str->Option NameKind}:∀ {binds:List (Str × Value)} {m:Str->Option Value},(∀ v,(x,v)∉binds)->bindL kindOf binds m x=m x
 | [],_,_=>rfl
 | (n,v)::r,m,h=>by
  unfold bindL;rw[qp fun w hw=>h w (Ql _ hw)];split
  ·have:x≠n:=by rintro rfl;exact h v Qq
   simp[this]
  ·rfl
def qG{kindOf:Str->Option NameKind}:∀ {binds:List (Str × Value)} {m:Str->Option Value},(∀ v,(x,v)∉binds)->bindC kindOf binds m x=m x
 | [],_,_=>rfl
 | (n,v)::r,m,h=>by
  unfold bindC;rw[qG fun w hw=>h w (Ql _ hw)];split
  ·rfl
  ·have:x≠n:=by rintro rfl;exact h v Qq
   simp[this]
def qr{kindOf:Str->Option NameKind}:∀ {P:List Str} {vs:List Value} {i:Nat} {m:Str->Option Value},P.Nodup->P[i]?=some x->vs[i]?=some v->kindOf x=some .local ->
  bindL kindOf (P.zip vs) m x=some v
 | [],_,_,_,_,h,_,_=>by simp at h
 | _::_,[],_,_,_,_,h,_=>by simp at h
 | p::P,w::vs,0,m,nd,h1,h2,hk=>by
  simp at h1 h2;subst h1;subst h2;show bindL kindOf ((p,w)::P.zip vs) m p=_;unfold bindL;rw[qp fun v hv=>(List.nodup_cons.mp nd).1 (List.of_mem_zip hv).1,if_pos hk];simp
 | p::P,w::vs,i+1,m,nd,h1,h2,hk=>by
  show bindL kindOf ((p,w)::P.zip vs) m x=_;unfold bindL;exact qr (i:=i) (List.nodup_cons.mp nd).2 (by simpa using h1) (by simpa using h2) hk
def qD{kindOf:Str->Option NameKind}:∀ {P:List Str} {vs:List Value} {i:Nat} {m:Str->Option Value},P.Nodup->P[i]?=some x->vs[i]?=some v->kindOf x≠some .local ->
  bindC kindOf (P.zip vs) m x=some v
 | [],_,_,_,_,h,_,_=>by simp at h
 | _::_,[],_,_,_,_,h,_=>by simp at h
 | p::P,w::vs,0,m,nd,h1,h2,hk=>by
  simp at h1 h2;subst h1;subst h2;show bindC kindOf ((p,w)::P.zip vs) m p=_;unfold bindC;rw[qG fun v hv=>(List.nodup_cons.mp nd).1 (List.of_mem_zip hv).1,if_neg hk];simp
 | p::P,w::vs,i+1,m,nd,h1,h2,hk=>by
  show bindC kindOf ((p,w)::P.zip vs) m x=_;unfold bindC;exact qD (i:=i) (List.nodup_cons.mp nd).2 (by simpa using h1) (by simpa using h2) hk
abbrev start(N:List Str)(vs:List V):St:=vs.map some++List.replicate (N.length-vs.length) none
abbrev iJ(CX:CXT)(P:Program)(w:World)(K:W.Frag)(mg:Str->Option Value)(base:Heap)(N:List Str)(qual:Str)(scope:Scope)(f:Addr)(cd:Value)(A:Around)(outer:List Env)(s:Shared)(H:Hp)(E:XK):Cx where
 prog:=P
 w:=w
 K:=K
 mg:=mg
 base:=base
 A:=A.deeper (envOfC qual scope s.heap.objs.size f cd)
 N:=N
 s₀:=s
 H₀:=H
 env:=envOfC qual scope s.heap.objs.size f cd
 outer:=outer
 stack:=envOfC qual scope s.heap.objs.size f cd::outer
 ex:=[]
 calm:=true
 fn:=fun _=>true
 pn:=[]
 xe:=fun e s'=>wpAny (model P w) (A.deeper (envOfC qual scope s.heap.objs.size f cd)) (leaving (envOfC qual scope s.heap.objs.size f cd) e) (fun _ s''=>CX outer H s E e s'') (fun e' s''=>CX outer H s E e' s'') s'
def rT{sc:Scope}(h:sc.names.lookup x=some .cell):∃ c,(cellsFrom n sc.names []).lookup x=some c:=by
 have q:=W.cellsFrom_some sc.names n [] (.inl h);exact Option.isSome_iff_exists.mp q
def qo{CX:CXT}{P:Program}{w:World}{K:W.Frag}{mg:Str->Option Value}{base:Heap}{N ps:List Str}{qual:Str}{scope:Scope}{f:Addr}{cd:Value}{A:Around}{outer:List Env}{s s1:Shared}{H:Hp}{E:XK}{us:List Value}{vs:List V}
 (S:fO N ps scope)(hd:A.handled=none)(e0:rM P w K mg base A outer s H)(hl:vs.length=ps.length)(r:Vals vs us)
 (x:InCallC s s.heap.objs.size (bindL (envOfC qual scope s.heap.objs.size f cd).kindOf (ps.zip us) fun _=>none) (cellsFrom (s.heap.objs.size+1) scope.names []) (bindC (envOfC qual scope s.heap.objs.size f cd).kindOf (ps.zip us) fun _=>none) s1) :
  Inv (iJ CX P w K mg base N qual scope f cd A outer s H E) [] (start N vs) H s1:=by
 have hpl:ps.length<=N.length:=by have:=congrArg List.length S.pre;rw[List.length_take]at this;omega
 obtain⟨h1,tk,rfl,hk⟩:=x.done;have noA:∀ b:Addr,b∉(iJ CX P w K mg base N qual scope f cd A outer s H E).ex:=fun b z=>absurd (show b∈([]:List Addr)from z) (by simp)
 refine⟨⟨e0.mod,S.kind,rfl,rfl,Qc _,fun y z c h1 h2=>?_,fun y hy=>?_,fun y c _ h=>?_,⟨fun _=>hd,.inl hd⟩,Around.frames_deeper e0.frames,.inr #[rfl,rfl],fun b z=>absurd z (noA b),e0.bs,e0.bsz,fun b _ _=>noA b,fun b z=>absurd z (noA b),e0.dZ,e0.frf⟩,
  rfl,e0.bare,Un.kept hk,⟨_,x.toInCall.ns,fun i y v h1 h2 h3=>?_⟩,fun y c h=>#[_,x.cell y c h],e0.hok.fresh (Qc _),fun y c h=>?_,fun p hp=>absurd (show p∈([]:List (Addr × Obj))from hp) (by simp),e0.hok.kept hk,?_⟩
 ·exact name_of_addr x.apart (PySem.mem_of_lookup h1) (PySem.mem_of_lookup h2)
 ·have hy:scope.names.lookup y=some .cell\/scope.names.lookup y=some .free:=hy;rcases hy with hy | hy
  ·exact rT hy
  ·exact absurd rfl (S.Gk _ (PySem.mem_of_lookup hy))
 ·exact Nat.le_of_lt (x.above y c (PySem.mem_of_lookup h))
 ·have hi:i<vs.length:=by
   unfold start at h2;by_cases hi:i<vs.length
   ·exact hi
   ·rw[Qo (by simpa using hi)]at h2;rw[List.getElem?_replicate]at h2;split at h2<;>cases h2
  have ha:vs[i]?=some v:=by
   unfold start at h2;rw[Qm (by simpa using hi),List.getElem?_map]at h2
   cases e:vs[i]? with
   | none=>rw[e]at h2;cases h2
   | some a=>rw[e]at h2;cases h2;rfl
  obtain⟨u,hu,rv⟩:=r.get ha
  have hp:ps[i]?=some y:=by
   rw[<-S.pre,List.getElem?_take_of_lt (by omega)];exact h1
  have ndP:ps.Nodup:=by rw[<-S.pre];exact S.nd.sublist (List.take_sublist _ _)
  refine#[u,rv,?_];rcases S.par y (Qz hp)with k | k
  ·exact .inl #[k,qr ndP hp hu k]
  ·obtain⟨c,e⟩:=rT (n:=s.heap.objs.size+1) k;refine .inr #[.inl k,c,e,?_];have q:=x.cell y c e;rw[qD ndP hp hu (by show scope.names.lookup y≠_;rw[k];decide)]at q;exact q
 ·exact e0.hok.fresh (Nat.le_of_lt (x.above y c (PySem.mem_of_lookup h)))
 ·unfold start;show _=N.length;rw[List.length_append,List.length_map,List.length_replicate];omega
def BO{CX:CXT}{P:Program}{w:World}{K:W.Frag}{mg:Str->Option Value}{base:Heap}{k:Nat}{f:Addr}{name qual:Str}{params:Arguments}{body:List Stmt}{scope:Scope}{dV kV doc pm cdv ct oc:Value}{an od:Option Addr}
 {osl:Array (Option Value)}{N ps:List Str}{sp:Sp}(lk:K.lookup f=some ⟨oc,od,.func (W.fnOf name qual params body scope dV kV doc pm an cdv ct),osl⟩)(hcd:W.codeIn K cdv qual=true)(S:fO N ps scope)
 (len:∀ vs H Q E,sp vs H Q E->vs.length=ps.length)
 (hbody:∀ (A:Around) (outer:List Env) (s:Shared) (H:Hp) (vs:List V) (Q:VK) (E:XK),cJ k (A.deeper (envOfC qual scope s.heap.objs.size f cdv))->sp vs H Q E ->
   ∃ t,PSs (iJ CX P w K mg base N qual scope f cdv A outer s H E) body t/\t { nx:=fun _ H'=>Q .non H',rt:=Q } (start N vs) H) :
  eJ P w K mg base CX (k+1) f (W.fnOf name qual params body scope dV kV doc pm an cdv ct) ps sp:=by
 refine#[len,fun A outer s H args us vs Q E hr e0 hb r hsp=>?_];have hl:=len _ _ _ _ hsp;have KX:K.In s.heap:=e0.mod.kin.keeps fun b o e=>(e0.bs b o e).1;have lim:s.heap.NoLimit:=e0.mod.nolimit.keeps fun b o e=>(e0.bs b o e).1
 have hkind:∀ y∈ps.zip us,scope.names.lookup y.1=some .local\/(scope.names.lookup y.1=some .cell/\((cellsFrom (s.heap.objs.size+1) scope.names []).lookup y.1).isSome=true):=fun⟨n,v⟩ hy=>by
  rcases S.par n (List.of_mem_zip hy).1 with q | q
  ·exact .inl q
  ·exact .inr #[q,W.cellsFrom_some _ _ _ (.inl q)]
 refine codeAny_call_function hr.depth (KX _ _ lk) rfl S.co S.gen rfl (W.codeRec_of KX hcd) (hb _ _ _ _ ?_);refine wpAny_newFunctionEnv_cells S.kind hkind fun env he s1 x=>?_;subst he;refine#[lim.keeps x.toInCall.keep,codeAny_func ?_];obtain⟨t,ht,hq⟩:=hbody A outer s H vs Q E (hr.deeper _) hsp;have I:Inv (iJ CX P w K mg base N qual scope f cdv A outer s H E) [] (start N vs) H s1:=qo S hr.hd e0 hl r x;refine wpAny_mono (ht [] s1 (start N vs) H _ I hq) (fun fl s' hs=>?_) fun e s' hs=>hs
 have fin:∀ {QQ:St} {H':Hp} {v:V} {u:Value},Inv (iJ CX P w K mg base N qual scope f cdv A outer s H E) [] QQ H' s'->RelV v u->Q v H'->CE outer P w H s Q u s' :=
  fun {QQ H' v u} J rv q=>#[v,H',J.os,J.bare,J.base,J.hok,rv,q]
 cases fl with
 |ret u=>
  obtain⟨v,QQ,H',J,rv,q⟩:=hs;exact fin J rv q
 |next=>
  obtain⟨QQ,H',J,q⟩:=hs;exact fin (v:=V.non) (u:=Value.none) J rfl q
 |brk=>
  obtain⟨_,_,_,q⟩:=hs;exact False.elim q
 |cont=>
  obtain⟨_,_,_,q⟩:=hs;exact False.elim q
section
variable{X:Cx}{x:Str}{p pos:Pos}{e:Expr}{es:List Expr}{t:TA}{id T:String}{r:List V->Hp->VK->Prop}
abbrev tCB(r:List V->Hp->VK->Prop)(t:TA):TE:=fun Y H Q=>t Y H fun vs H1=>r vs H1 Q
def fY(hc:bK X (.builtin id) r)(hg:Gl X x)(hm:X.mg x=none)(hv:bootBuiltins x=some (.builtin id))(ha:PA X (e::es) t)(hn:x ≠ "__name__")(hdb:(x == ("__debug__" : Str))=false)
 (he:starEach (e::es) X.env=(false,eval e X.env)::starEach es X.env)(hpl:(backTo pos (starEach es X.env)).any (·.1)=false):PE X (.Call (.Name x p) (e::es) [] pos) (tCB r t):=by
 kt_k;refine wpAny_Call_Name_kw (iA I hg hm hv ?_ hn hdb);exact PyProof.Rows.callWith_builtin1 (thn (ha pos pins s Y H _ I h) fun us s1 ⟨vs,H1,I1,r1,q1⟩=>hc pins s1 Y H1 vs us Q I1 r1 q1) he hpl
def cN(hc:bK X (.type T) r)(hg:Gl X x)(hm:X.mg x=none)(hv:bootBuiltins x=some (.type T))(ha:PA X (e::es) t)(hn:x ≠ "__name__")(hdb:(x == ("__debug__" : Str))=false)
 (he:starEach (e::es) X.env=(false,eval e X.env)::starEach es X.env)(hpl:(backTo pos (starEach es X.env)).any (·.1)=false):PE X (.Call (.Name x p) (e::es) [] pos) (tCB r t):=by
 kt_k;refine wpAny_Call_Name_kw (iA I hg hm hv ?_ hn hdb);exact PyProof.Rows.callWith_type1 (thn (ha pos pins s Y H _ I h) fun us s1 ⟨vs,H1,I1,r1,q1⟩=>hc pins s1 Y H1 vs us Q I1 r1 q1) he hpl
end
end L2
namespace HT
open PySem PyProof.Rows
section
open PySem.SeqAt
open PySem.AutoSeq1 (wpAny_loadPart')
open PySem.MeetsSeq PySem.MeetsSeq2 PySem.MeetsSeq3
end
section
variable{prog:Program}{w:World}{A:Around}{E:Value->Shared->Prop}{s:Shared}
def CA(ht:IsTup s.heap t vs.toArray)(hb:IsTup s.heap b ws.toArray)(hv:vs≠[])
 (h1:ws=[]->Q (.ref t) s)(h2:ws≠[]->Q (.ref s.heap.objs.size) { s with heap:=s.heap.push { cls:=.type "tuple",data:=.seq (vs++ws).toArray } })
 (hsz:vs.length+ws.length<=sizeLine):wpAny (model prog w) A (binaryOp .Add (.ref t) (.ref b)) Q E s:=by
 obtain⟨⟨cls,dd,data,sl⟩,ho,hc,n,hd⟩:=id ht;obtain⟨⟨cls2,dd2,data2,sl2⟩,ho2,hc2,n2,hd2⟩:=id hb;simp only at hc hd hc2 hd2;subst hc hd hc2 hd2
 have e:vs.toArray++ws.toArray=(vs++ws).toArray:=by simp
 by_cases hw:ws=[]
 ·exact concat_meets ⟨_,ho,rfl⟩ ⟨_,ho2,rfl⟩ noFill_tuple_add seq_tuple_add PySem.F.slot_tuple_add PySem.F.entry_tuple_add (PySem.F.args_tuple_add_2 _ _)
   (tuple_addW1 t b vs.toArray ws.toArray n n2 dd dd2 sl sl2 (by simpa using hv) (by simp[hw])) ⟨ho,ho2,h1 hw⟩
 ·refine concat_meets ⟨_,ho,rfl⟩ ⟨_,ho2,rfl⟩ noFill_tuple_add seq_tuple_add PySem.F.slot_tuple_add PySem.F.entry_tuple_add (PySem.F.args_tuple_add_2 _ _)
   (tuple_addW2 t b vs.toArray ws.toArray n n2 dd dd2 sl sl2 (by simpa using hv) (by simpa using hw) (by rw[List.size_toArray,List.size_toArray];exact hsz)) ⟨ho,ho2,?_⟩
  rw[e];exact h2 hw
abbrev sIx(n d:Nat):Option Int->Nat
 | none=>d
 | some v=>if v<0 then(v+(n:Int)).toNat else min v.toNat n
def rQ(n d:Nat):sIx n d none=d:=rfl
def G6(n d:Nat)(hd:d<=n)(o:Option Int):sIx n d o<=n:=by
 cases o with
 | none=>exact hd
 |some v=>
  show(if v<0 then(v+(n:Int)).toNat else min v.toNat n)<=n;by_cases hv:v<0
  ·rw[if_pos hv];omega
  ·rw[if_neg hv];exact Nat.min_le_right _ _
def gZ(v:Int)(n d:Nat):(if v<0 then max (v+(n:Int)) 0 else min v (n:Int))=((sIx n d (some v):Nat):Int):=by
 show(if v<0 then max (v+(n:Int)) 0 else min v (n:Int))=(((if v<0 then(v+(n:Int)).toNat else min v.toNat n):Nat):Int);by_cases hv:v<0
 ·simp only[if_pos hv];omega
 ·simp only[if_neg hv];omega
def xa(lo hi:Option Int)(n:Nat):Builtin.Slice.sliceAdjust lo hi 1 (n:Int)=(((sIx n 0 lo:Nat):Int),((sIx n n hi:Nat):Int)):=by
 have h1:¬ ((1:Int)<0):=by omega
 unfold Builtin.Slice.sliceAdjust;simp only[h1,if_false];refine Prod.ext ?_ ?_
 ·cases lo with
  | none=>rfl
  | some v=>exact gZ v n 0
 ·cases hi with
  | none=>rfl
  | some v=>exact gZ v n n
def wH(i j:Nat):Builtin.Slice.slicePlaces (i:Int) (j:Int) 1=j-i:=by
 unfold Builtin.Slice.slicePlaces
 have h1:(1:Int) > 0:=by omega
 simp only[h1,if_true,Int.ediv_one];split<;>omega
def fh(p:IsPart v o)(h:Q o s):wpAny (model prog w) A (Builtin.Slice.slicePartIndex v) Q E s:=by
 cases p with
 | none=>exact slicePart_none h
 | int i t=>exact slicePart_int h
def m7{sl:Addr}{vl vu:Value}{lo hi:Option Int}{n:Nat}{Q:Int × Int × Nat->Shared->Prop}(hs:s.heap.IsSliceOf sl vl vu .none)(pl:IsPart vl lo)(pu:IsPart vu hi)
 (h:Q (((sIx n 0 lo:Nat):Int),1,sIx n n hi-sIx n 0 lo) s):wpAny (model prog w) A (Builtin.Slice.sliceApplied (.ref sl) (pure (n:Int))) Q E s:=by
 obtain⟨os,hos,hcs,hds⟩:=id hs;unfold Builtin.Slice.sliceApplied Builtin.Slice.sliceFields;refine Qb (Qb (wpAny_field hos hds (x:=vl) rfl (Qb (wpAny_field hos hds (x:=vu) rfl (Qb (wpAny_field hos hds (x:=.none) rfl (Qd ?_)))))));refine Qb (slicePart_none ?_);show wpAny _ _ (if((1:Int) == 0)=true then _ else _) _ _ s;rw[if_neg ∅];refine Qb (fh pl (Qb (fh pu (Qb (Qd ?_)))));show wpAny _ _ (match Builtin.Slice.sliceAdjust lo hi 1 (n:Int)with | (lo,hi)=>pure (lo,(1:Int),Builtin.Slice.slicePlaces lo hi 1)) _ _ s;rw[xa lo hi n];show wpAny _ _ (pure (((sIx n 0 lo:Nat):Int),(1:Int),Builtin.Slice.slicePlaces ((sIx n 0 lo:Nat):Int) ((sIx n n hi:Nat):Int) 1)) _ _ s;rw[wH];exact Qd h
def Bd(xs:Array Value)(i k:Nat):((List.range k).filterMap fun(m:Nat)=>xs[((i:Int)+(m:Int)*1).toNat]?).toArray=((xs.toList.drop i).take k).toArray:=by
 have e:(fun(m:Nat)=>xs[((i:Int)+(m:Int)*1).toNat]?)=fun m=>xs[i+m]?:=by
  funext m
  have:((i:Int)+(m:Int)*1).toNat=i+m:=by omega
  rw[this]
 rw[e];have:=pick_run xs i k;rw[List.filterMap_map]at this;have e2:((fun x=>xs[x]?) ∘ fun x=>i+x)=fun m=>xs[i+m]?:=rfl;rw[e2]at this;rw[this]
def lZ{t sl:Addr}{items:Array Value}{vl vu:Value}{lo hi:Option Int}{Q:Value->Shared->Prop}(ht:IsTup s.heap t items)(hs:s.heap.IsSliceOf sl vl vu .none)(pl:IsPart vl lo)(pu:IsPart vu hi)
 (hw:¬ (sIx items.size 0 lo=0/\sIx items.size items.size hi=items.size))
 (h:Q (.ref s.heap.objs.size) { s with heap:=s.heap.push { cls:=.type "tuple",data:=.seq ((items.toList.drop (sIx items.size 0 lo)).take (sIx items.size items.size hi-sIx items.size 0 lo)).toArray } })
 (hsz:items.size<=sizeLine):wpAny (model prog w) A (getItem (.ref t) (.ref sl)) Q E s:=by
 have htake:sizeOk (.seq ((items.toList.drop (sIx items.size 0 lo)).take (sIx items.size items.size hi-sIx items.size 0 lo)).toArray):=by
  show((items.toList.drop (sIx items.size 0 lo)).take (sIx items.size items.size hi-sIx items.size 0 lo)).toArray.size<=sizeLine;rw[List.size_toArray,List.length_take,List.length_drop,Array.length_toList];omega
 have hj:sIx items.size items.size hi<=items.size:=G6 _ _ (Qc _) hi;obtain⟨os,hos,hcs,hds⟩:=id hs
 have hTs:s.TypeIs (.ref sl) "slice" := #[os,hos,hcs]
 unfold getItem
 try with_reducible refine wpAny_holding ?_
 first | refine Qb (Qd ?_) | skip
 refine Qb (wpAny_sequenceKey ht.typeIs ∅ ?_)
 refine Qb (wpAny_callSpecial?_slot (name:=Str.ofString "__getitem__") ht.typeIs PyProof.Rows.slot_tuple_getitem
  (wpAny_call_entry PyProof.Rows.slot_tuple_getitem ht.typeIs entry_tuple_getitem ?_ (args_tuple_getitem _ _)))
 show wpAny _ _ (Builtin.Tuple.tupleItemsOf (.ref t) >>= _) _ _ s;refine Qb (tupleItemsOf_ ht ?_);refine Qb (wpAny_typeOf hTs ?_);rw[if_pos ∅];refine Qb (m7 hs pl pu ?_)
 have hno:¬ ((((sIx items.size 0 lo:Nat):Int) == 0&&(1:Int) == 1&&(sIx items.size items.size hi-sIx items.size 0 lo) == items.size)=true):=by
  intro q;rw[Bool.and_eq_true,Bool.and_eq_true]at q;have q1:((sIx items.size 0 lo:Nat):Int)=0:=eq_of_beq q.1.1;have q2:sIx items.size items.size hi-sIx items.size 0 lo=items.size:=eq_of_beq q.2;exact hw ⟨by omega,by omega⟩
 show wpAny _ _ (if(((sIx items.size 0 lo:Nat):Int) == 0&&(1:Int) == 1&&(sIx items.size items.size hi-sIx items.size 0 lo) == items.size)=true then _ else _) _ _ s;rw[if_neg hno,Bd]
 first
  | exact Qb (m:=Builtin.Tuple.tupleExact _) (wpAny_newObj_type (Qd ⟨_,rfl,Qd h⟩) htake)
  | exact Qb (m:=Builtin.Tuple.tupleExact _) (wpAny_newObj_type (Qb (Qd (Qd ⟨_,rfl,Qd h⟩))) htake)
  | exact Qb (Qb (m:=Builtin.Tuple.tupleExact _) (wpAny_newObj_type (Qd (Qd ⟨_,rfl,Qd h⟩)) htake))
  | exact Qb (Qb (m:=Builtin.Tuple.tupleExact _) (wpAny_newObj_type (Qd ⟨_,rfl,Qd h⟩) htake))
end
end HT
namespace L2
open PySem PySem.Spec PyProof.Rows
@[reducible]noncomputable def TO:=St->Hp->(Option Int->Hp->Prop)->Prop
abbrev PO(X:Cx)(e:Option Expr)(t:TO):Prop :=
 ∀ (pins:List (Addr × Obj)) (s:Shared) (Y:St) (H:Hp) (Q:Option Int->Hp->Prop),Inv X pins Y H s->t Y H Q ->
  wpAny (model X.prog X.w) X.A (evalPart e X.env) (fun u s'=>∃ o H',Inv X pins Y H' s'/\IsPart u o/\Q o H') X.xe s
abbrev CV:TO:=fun _ H Q=>Q none H
abbrev HW(t:TE):TO:=fun Y H Q=>t Y H fun x H1=>∃ i,x=.int i/\Q (some i) H1
def intsAre_of:∀ {us:List Value},Vals (ns.map V.int) us->IntsAre us ns:=by
 induction ns with
 | nil=>intro us r;rw[List.map_nil]at r;cases r;exact .nil
 |cons n ns ih=>
  intro us r;rw[List.map_cons]at r
  cases r with
  |cons r1 r2=>
   obtain⟨t,e⟩:=r1;subst e;exact .cons n t (ih r2)
section
variable{X:Cx}{e:Expr}{te:TE}{lo hi:Option Expr}{tl th:TO}{pos p2:Pos}
def vd:PO X none CV:=by
 kt_k;rw[evalPart_none];exact Qd ⟨none,H,I,.none,h⟩
def vq(h:PE X e te):PO X (some e) (HW te):=by
 intro pins s Y H Q I hw;rw[evalPart_some];refine thn (h pins s Y H _ I hw) fun u s1 ⟨x,H1,I1,r1,q1⟩=>?_;obtain⟨i,rfl,q⟩:=q1;obtain⟨t,rfl⟩:=r1;exact#[some i,H1,I1,.int i t,q]
abbrev SlR(X:Cx)(r:V->Option Int->Option Int->Hp->VK->Prop):Prop :=
 ∀ (pins:List (Addr × Obj)) (s:Shared) (Y:St) (H:Hp) (x:V) (v vl vu:Value) (lo hi:Option Int) (sl:Addr) (Q:VK),Inv X pins Y H s->RelV x v->s.heap.IsSliceOf sl vl vu .none->IsPart vl lo->IsPart vu hi->r x lo hi H Q ->
  ∃ T id,typeLookup (.type T) "__getitem__" = pure (some (.builtin id))/\s.TypeIs v T/\wpAny (model X.prog X.w) X.A (getItem v (.ref sl)) (EP X pins Y Q) X.xe s
def SlR.or(h:SlR X r)(h':SlR X r'):SlR X (fun x lo hi H Q=>r x lo hi H Q\/r' x lo hi H Q):=by
 intro pins s Y H x v vl vu lo hi sl Q I rx hs pl pu q;rcases q with q | q
 ·exact h pins s Y H x v vl vu lo hi sl Q I rx hs pl pu q
 ·exact h' pins s Y H x v vl vu lo hi sl Q I rx hs pl pu q
abbrev tSl(r:V->Option Int->Option Int->Hp->VK->Prop)(te:TE)(tl th:TO):TE:=fun Y H Q=>te Y H fun x H1=>tl Y H1 fun l H2=>th Y H2 fun u H3=>r x l u H3 Q
def tf(hr:SlR X r)(he:PE X e te)(hl:PO X lo tl)(hu:PO X hi th):PE X (.Subscript e (.Slice lo hi none p2) pos) (tSl r te tl th):=by
 kt_k;refine Subscript_ (thn (he pins s Y H _ I h) fun v s1 ⟨x,H1,I1,r1,q1⟩=>?_);refine wpAny_Slice (thn (hl pins s1 Y H1 _ I1 q1) fun vl s2 ⟨l,H2,I2,pl,q2⟩=>thn (hu pins s2 Y H2 _ I2 q2) fun vu s3 ⟨u,H3,I3,pu,q3⟩=>?_);rw[evalPart_none];refine Qd ?_;have I4:Inv X pins Y H3 { s3 with heap:=s3.heap.push { cls:=.type "slice",data:=.fields (List.toArray [vl,vu,.none]) } }:=I3.kept (t':=s3.toks) fun b ob q=>Qa _ q;obtain⟨T,id,hT,ht,hg⟩:=hr pins { s3 with heap:=s3.heap.push { cls:=.type "slice",data:=.fields (List.toArray [vl,vu,.none]) } } Y H3 x v vl vu l u s3.heap.objs.size Q I4 r1 (Heap.IsSliceOf.new ..) pl pu q3;show wpAny (model X.prog X.w) X.A (subscriptTail e (.Slice lo hi none p2) v (.ref s3.heap.objs.size)) (EP X pins Y Q) X.xe { s3 with heap:=s3.heap.push { cls:=.type "slice",data:=.fields (List.toArray [vl,vu,.none]) } };exact tail_any (ops:=[.ref s3.heap.objs.size,v]) ht hT hg (by with_unfolding_all rfl)
abbrev iI(xs:List V)(lo hi:Option Int):List V:=(xs.drop (HT.sIx xs.length 0 lo)).take (HT.sIx xs.length xs.length hi-HT.sIx xs.length 0 lo)
def mm(xs:List V)(lo hi:Option Int):(iI xs lo hi).length<=xs.length:=by
 unfold iI;rw[List.length_take,List.length_drop];omega
abbrev JQ(K:W.Frag):V->Option Int->Option Int->Hp->VK->Prop:=fun x lo hi H Q=>∃ a xs,x=.ref a/\SqT K H a xs /\
 ¬ (HT.sIx xs.length 0 lo=0/\HT.sIx xs.length xs.length hi=xs.length)/\∀ p,H p=none->Q (.ref p) (upd H p (.tup (iI xs lo hi)))
def xF:SlR X (JQ X.K):=by
 intro pins s Y H x v vl vu lo hi sl Q I rx hs pl pu h;obtain⟨a,xs,rfl,hx,hw,q⟩:=h;cases rx;obtain⟨its,r,ht,hz⟩:=I.tuple hx
 have hlen:its.toArray.size=xs.length:=by rw[List.size_toArray];exact r.length.symm
 refine#["tuple",_,PyProof.Rows.slot_tuple_getitem.lookup,ht.typeIs,?_];refine HT.lZ ht hs pl pu (by rw[hlen];exact hw) ?_ (by rw[hlen];exact hz);rw[hlen];refine#[.ref s.heap.objs.size,_,I.laid (t':=s.toks) (o:=.tup (iI xs lo hi)) (fun b ob q=>Qa _ q) (Qc _) ?_,rfl,q _ (I.hok.fresh (Qc _))];exact#[Qr (mm xs lo hi) hz,_,(r.drop (HT.sIx xs.length 0 lo)).take (HT.sIx xs.length xs.length hi-HT.sIx xs.length 0 lo),IsTup.new _ _]
abbrev IP(K:W.Frag):R2:=fun x y H Q=>∃ a b xs ys,x=.ref a/\y=.ref b/\SqT K H a xs/\SqT K H b ys/\xs≠[]/\xs.length+ys.length<=sizeLine /\
 (ys=[]->Q (.ref a) H)/\(ys≠[]->∀ p,H p=none->Q (.ref p) (upd H p (.tup (xs++ys))))
def Vals.oP(r:Vals xs us):us=[]↔xs=[]:=by
 cases r with
 | nil=>simp
 | cons _ _=>simp
def CY:OpR X (binaryOp .Add) (IP X.K):=by
 cb_eq;obtain⟨a,b,xs,ys,rfl,rfl,ha,hb,hx,hz,q1,q2⟩:=h;cases rx;cases ry;obtain⟨its,r1,p1,_⟩:=I.tuple ha;obtain⟨its2,r2,p2,_⟩:=I.tuple hb;refine HT.CA p1 p2 (fun z=>hx (r1.oP.mp z)) (fun z=>#[.ref a,H,I,rfl,q1 (r2.oP.mp z)]) (fun z=>?_) (by rw[<-r1.length,<-r2.length];exact hz);refine#[.ref s.heap.objs.size,_,I.laid (t':=s.toks) (o:=.tup (xs++ys)) (fun b ob q=>Qa _ q) (Qc _) ?_,rfl,q2 (fun w=>z (r2.oP.mpr w)) _ (I.hok.fresh (Qc _))];exact#[by rw[List.length_append];exact hz,_,r1.append r2,IsTup.new _ _]
end
abbrev ixN(n:Nat)(i:Int):Option Nat:=if 0<=i then(if i<n then some i.toNat else none)else if -(n:Int)<=i then some (i+n).toNat else none
abbrev atI(xs:List α)(i:Int):Option α:=(ixN xs.length i).bind fun j=>xs[j]?
def vU(h:ixN n i=some j):seqIndex? i n=some j/\j<n/\-(n:Int)<=i/\i<n:=by
 unfold ixN at h;by_cases h0:0<=i
 ·rw[if_pos h0]at h;by_cases h1:i<n
  ·rw[if_pos h1]at h;have e:i.toNat=j:=Option.some.inj h;exact#[by rw[seqIndex_of h0 h1,e],by omega,by omega,h1]
  ·rw[if_neg h1]at h;cases h
 ·rw[if_neg h0]at h;by_cases h1:-(n:Int)<=i
  ·rw[if_pos h1]at h;have e:(i+n).toNat=j:=Option.some.inj h;exact#[by rw[seqIndex_neg (by omega) h1,e],by omega,h1,by omega]
  ·rw[if_neg h1]at h;cases h
def pK(h:atI xs i=some v):∃ j,seqIndex? i xs.length=some j/\xs[j]?=some v/\j<xs.length/\-(xs.length:Int)<=i/\i<xs.length:=by
 unfold atI at h
 cases e:ixN xs.length i with
 | none=>rw[e]at h;cases h
 |some j=>
  rw[e]at h;obtain⟨h1,h2,h3,h4⟩:=vU e;exact#[j,h1,h,h2,h3,h4]
abbrev vf(b:Expr):Prop:=∀ o i,subscripted b false o i=operate [o,i] (getItem o i)
abbrev IxR(X:Cx)(r:R2):Prop :=
 ∀ (value slice:Expr) (pins:List (Addr × Obj)) (s:Shared) (Y:St) (H:Hp) (x y:V) (v u:Value) (Q:VK),Inv X pins Y H s->RelV x v->RelV y u->r x y H Q ->
  subscripted slice false v u=operate [v,u] (getItem v u)->wpAny (model X.prog X.w) X.A (subscriptTail value slice v u) (EP X pins Y Q) X.xe s
abbrev MtR(X:Cx)(id:String)(r:V->List V->Hp->VK->Prop):Prop :=
 ∀ (pins:List (Addr × Obj)) (s:Shared) (Y:St) (H:Hp) (x:V) (xs:List V) (v:Value) (us:List Value) (Q:VK),Inv X pins Y H s->RelV x v->Vals xs us->r x xs H Q ->
  wpAny (model X.prog X.w) X.A (call (.builtin id) (v::us)) (EP X pins Y Q) X.xe s
section
variable{X:Cx}{a b:Expr}{ta tb:TE}{pos:Pos}
def IxR.or(h:IxR X r)(h':IxR X r'):IxR X (fun x y H Q=>r x y H Q\/r' x y H Q):=by
 intro value slice pins s Y H x y v u Q I rx ry q hs;rcases q with q | q
 ·exact h value slice pins s Y H x y v u Q I rx ry q hs
 ·exact h' value slice pins s Y H x y v u Q I rx ry q hs
def BJ{r:R2}(hr:IxR X r)(ha:PE X a ta)(hb:PE X b tb)(hs:vf b):PE X (.Subscript a b pos) (tOp r ta tb):=by
 kt_k;exact Subscript_ (Ao ha hb I h fun v u s2 x y H2 I2 rx ry q=>hr a b pins s2 Y H2 x y v u Q I2 rx ry q (hs _ _))
abbrev E3(K:W.Frag):R2:=fun x y H Q=>∃ p xs i v,x=.ref p/\y=.int i/\SqL K H p xs/\atI xs i=some v/\Q v H
abbrev FI(K:W.Frag):R2:=fun x y H Q=>∃ p xs i v,x=.ref p/\y=.int i/\SqT K H p xs/\atI xs i=some v/\Q v H
abbrev Fu:R2:=fun x y H Q=>∃ z i c,x=.str z/\y=.int i/\z.length<=sizeLine/\atI z.cps.toList i=some c/\Q (.str ⟨(List.toArray [c])⟩) H
def Df:IxR X (E3 X.K):=by
 intro value slice pins s Y H x y v u Q I rx ry h hs;obtain⟨p,xs,i,z,rfl,rfl,hq,he,q⟩:=h;cases rx;obtain⟨t,rfl⟩:=ry;obtain⟨its,r,pl,hz⟩:=I.list hq;obtain⟨j,h1,h2,h3,h4,h5⟩:=pK he;obtain⟨w,ew,rw'⟩:=r.get h2;have hl:=r.length;have hn:=j5
 have fin:EP X pins Y Q w s:=#[z,H,I,rw',q]
 by_cases h0:0<=i
 ·have hj:i.toNat=j:=by
   rw[seqIndex_of h0 h5]at h1;exact Option.some.inj h1
  exact item_listR pl.isList h0 (by omega) (by rw[hj];simpa using ew) fin hs
 ·have hj:(i+(its.toArray.size:Int)).toNat=j:=by
   rw[seqIndex_neg (by omega) h4]at h1;rw[List.size_toArray,<-hl];exact Option.some.inj h1
  exact subscriptTail_builtinR (x:=w) pl.isList.typeIs slot_list_getitem.lookup
   (wpAny_getItem_list_neg (Q:=fun r s'=>r=w/\EP X pins Y Q r s') pl.isList (by omega) (by rw[List.size_toArray]<;>omega) (by omega) (by rw[hj];simpa using ew) ⟨rfl,fin⟩) hs
def iF:IxR X (FI X.K):=by
 intro value slice pins s Y H x y v u Q I rx ry h hs;obtain⟨p,xs,i,z,rfl,rfl,hq,he,q⟩:=h;cases rx;obtain⟨t,rfl⟩:=ry;obtain⟨its,r,pl,hz⟩:=I.tuple hq;obtain⟨j,h1,h2,h3,h4,h5⟩:=pK he;obtain⟨w,ew,rw'⟩:=r.get h2;have hl:=r.length;have hn:=j5
 have fin:EP X pins Y Q w s:=#[z,H,I,rw',q]
 exact subscriptTail_builtinR (x:=w) pl.typeIs slot_tuple_getitem.lookup
  (getItem_tuple (j:=j) (Q:=fun r s'=>r=w/\EP X pins Y Q r s') pl (by omega) (by omega) (by rw[List.size_toArray,<-hl];exact h1) (by simpa using ew) ⟨rfl,fin⟩) hs
def Hu:IxR X Fu:=by
 intro value slice pins s Y H x y v u Q I rx ry h hs;obtain⟨z,i,c,rfl,rfl,hz,he,q⟩:=h;obtain⟨t,rfl⟩:=rx;obtain⟨t',rfl⟩:=ry;obtain⟨j,h1,h2,h3,h4,h5⟩:=pK he
 have hl:z.cps.toList.length=z.length:=by simp[Str.length]
 rw[hl]at h1 h4 h5;have hn:=j5
 exact tail_any (typeIs_str s z t) slot_str_getitem.lookup (getItem_str (c:=c) (by
  have e1:decide (i < -(2 ^ 63:Int))=false:=Qk (by omega);have e2:decide (i≥2 ^ 63)=false:=Qk (by omega)
  rw[e1,e2,Bool.or_false]) (by rw[h1];simpa using h2) ⟨.str ⟨(List.toArray [c])⟩,H,I.tok _,⟨_,rfl⟩,q⟩) hs
abbrev rIx(K:W.Frag):R2:=fun x y H Q=>E3 K x y H Q\/FI K x y H Q\/Fu x y H Q
def yE:IxR X (rIx X.K):=Df.or (iF.or Hu)
def xq(its:List Value)(n j:Nat)(u:Value):Obj.mapSeq (·.setIfInBounds j u) { cls:=.type "list",data:=.seq its.toArray n }={ cls:=.type "list",data:=.seq (its.set j u).toArray n }:=by
 simp[Obj.mapSeq]
def Inv.lst{pins:List (Addr × Obj)}{Y:St}{H:Hp}{s:Shared}{p:Addr}{xs:List V}(I:Inv X pins Y H s)(h:H p=some (.lst xs)) :
  ∃ (its:List Value) (n:Nat),Vals xs its/\s.heap.get? p=some { cls:=.type "list",data:=.seq its.toArray n }/\xs.length<=sizeLine:=by
 obtain⟨z,its,n,r,e⟩:=I.hok p _ h;exact#[its,n,r,e,z]
def Inv.Gg{pins:List (Addr × Obj)}{Y:St}{H:Hp}{s:Shared}{p:Addr}{xs ys:List V}{its its':List Value}{n n':Nat}{f:Obj->Obj}(I:Inv X pins Y H s)(h:H p=some (.lst xs))
 (ho:s.heap.get? p=some { cls:=.type "list",data:=.seq its.toArray n })(hf:f { cls:=.type "list",data:=.seq its.toArray n }={ cls:=.type "list",data:=.seq its'.toArray n' })(r:Vals ys its')(hz:ys.length<=sizeLine)(t:Nat) :
  Inv X pins Y (upd H p (.lst ys)) { s with heap:=s.heap.update p f,toks:=t }:=by
 have e:(s.heap.update p f).get? p=some { cls:=.type "list",data:=.seq its'.toArray n' }:=by
  rw[Qt f ho (by rw[hf]<;>rfl),hf]
 refine I.write (x:=p) (e:=p) (by rw[h];trivial) (.inl rfl) (fun b u hb q=>(Qw _ _ (Ne.symm hb)).trans q) ⟨_,e⟩ ?_;exact#[hz,its',n',r,e]
abbrev wB:V->V->V->Hp->(Hp->Prop)->Prop:=fun o i v H Q=>∃ p xs k j,o=.ref p/\i=.int k/\H p=some (.lst xs)/\ixN xs.length k=some j/\Q (upd H p (.lst (xs.set j v)))
def set_list:Hb X wB:=by
 intro pins s Y H o i v ov iv u Q I ro ri rv h;obtain⟨p,xs,k,j,rfl,rfl,hp,hj,q⟩:=h;cases ro;obtain⟨t,rfl⟩:=ri;obtain⟨its,n,r,ho,hz⟩:=I.lst hp;obtain⟨h1,h2,h3,h4⟩:=vU hj;have hl:=r.length;have hn:=j5
 have I':Inv X pins Y (upd H p (.lst (xs.set j v))) { s with heap:=s.heap.update p (Obj.mapSeq (·.setIfInBounds j u)) } :=
  I.Gg hp ho (xq its n j u) (r.set rv j) (by rw[List.length_set];exact hz) s.toks
 by_cases h0:0<=k
 ·have hk:k.toNat=j:=by
   rw[seqIndex_of h0 h4]at h1;exact Option.some.inj h1
  exact W.ki_setAt ho h0 (by omega) (by rw[List.size_toArray,<-hl];exact h4) (by rw[hk];exact#[_,I',q])
 ·have hk:(k+(its.toArray.size:Int)).toNat=j:=by
   rw[seqIndex_neg (by omega) h3]at h1;rw[List.size_toArray,<-hl];exact Option.some.inj h1
  exact W.ki_setBack ho (by omega) (by rw[List.size_toArray,<-hl];exact h3) (by omega) (by rw[hk];exact#[_,I',q])
def uh(lo hi:Option Int)(n:Nat):(sliceBounds lo hi none n).1=((HT.sIx n 0 lo:Nat):Int)/\(sliceBounds lo hi none n).2.1=((HT.sIx n n hi:Nat):Int)/\(sliceBounds lo hi none n).2.2=1:=by
 refine#[?_,?_,rfl]
 ·cases lo with
  | none=>simp[sliceBounds,HT.sIx]
  |some i=>
   simp only[sliceBounds,HT.sIx,Option.getD_none,show(1:Int) > 0 by decide,if_true];by_cases h:i<0
   ·simp only[h,if_true]<;>omega
   ·simp only[h,if_false]<;>omega
 ·cases hi with
  | none=>simp[sliceBounds,HT.sIx]
  |some i=>
   simp only[sliceBounds,HT.sIx,Option.getD_none,show(1:Int) > 0 by decide,if_true];by_cases h:i<0
   ·simp only[h,if_true]<;>omega
   ·simp only[h,if_false]<;>omega
def qR(its:List Value)(lo hi:Option Int):slicePick its.toArray lo hi none=((its.drop (HT.sIx its.length 0 lo)).take (HT.sIx its.length its.length hi-HT.sIx its.length 0 lo)).toArray:=by
 obtain⟨h1,h2,h3⟩:=uh lo hi its.toArray.size;unfold slicePick;rw[h1,h2,h3];simp only[sliceRange_one,pick_run,List.size_toArray]<;>rfl
abbrev Jo(K:W.Frag):V->Option Int->Option Int->Hp->VK->Prop:=fun x lo hi H Q=>∃ a xs,x=.ref a/\SqL K H a xs/\∀ p,H p=none->Q (.ref p) (upd H p (.lst (iI xs lo hi)))
def v9:SlR X (Jo X.K):=by
 intro pins s Y H x v vl vu lo hi sl Q I rx hs pl pu h;obtain⟨a,xs,rfl,hx,q⟩:=h;cases rx;obtain⟨its,r,ht,hz⟩:=I.list hx;have hlen:=r.length;refine#["list",_,slot_list_getitem.lookup,ht.isList.typeIs,?_];refine wpAny_getItem_list_slice ht.isList hs pl pu .none (by simp) ?_ (by rw[List.size_toArray]<;>omega);rw[qR,<-hlen];refine#[.ref s.heap.objs.size,_,I.laid (t':=s.toks) (o:=.lst (iI xs lo hi)) (fun b ob q=>Qa _ q) (Qc _) ?_,rfl,q _ (I.hok.fresh (Qc _))];exact#[Qr (mm xs lo hi) hz,_,0,(r.drop (HT.sIx xs.length 0 lo)).take (HT.sIx xs.length xs.length hi-HT.sIx xs.length 0 lo),Qe _ rfl]
abbrev gp:V->Bool
 | .non=>true
 | .bl _=>true
 | .int _=>true
 | .str _=>true
 | _=>false
abbrev eqV:V->V->Bool
 | .non,.non=>true
 | .bl a,.bl b=>a == b
 | .bl a,.int b=>(if a then 1 else 0) == b
 | .int a,.bl b=>a == (if b then 1 else 0)
 | .int a,.int b=>a == b
 | .str a,.str b=>a == b
 | _,_=>false
def EB(ry:RelV y u)(rx:RelV x v)(fy:gp y=true)(fx:gp x=true):SeqAt.EqAt A s u v (eqV y x):=by
 cases y with
 |non=>
  cases ry
  cases x with
  | non=>cases rx;exact SeqAt.EqAt.same _
  | bl b=>cases rx;exact SeqAt.EqAt.none_bool b
  | int b=>obtain⟨t,rfl⟩:=rx;exact SeqAt.EqAt.none_int b t
  | str b=>obtain⟨t,rfl⟩:=rx;exact SeqAt.EqAt.none_str b t
  | _=>exact absurd (show false=true from fx) Qi
 |bl a=>
  cases ry
  cases x with
  | non=>cases rx;exact SeqAt.EqAt.bool_none a
  | bl b=>cases rx;exact SeqAt.EqAt.bool_bool a b
  | int b=>obtain⟨t,rfl⟩:=rx;exact SeqAt.EqAt.bool_int a b t
  | str b=>obtain⟨t,rfl⟩:=rx;exact SeqAt.EqAt.bool_str a b t
  | _=>exact absurd (show false=true from fx) Qi
 |int a=>
  obtain⟨t',rfl⟩:=ry
  cases x with
  | non=>cases rx;exact SeqAt.EqAt.int_none a t'
  | bl b=>cases rx;exact SeqAt.EqAt.int_bool a t' b
  | int b=>obtain⟨t,rfl⟩:=rx;exact SeqAt.EqAt.int_int a t' b t
  | str b=>obtain⟨t,rfl⟩:=rx;exact SeqAt.EqAt.int_str a t' b t
  | _=>exact absurd (show false=true from fx) Qi
 |str a=>
  obtain⟨t',rfl⟩:=ry
  cases x with
  | non=>cases rx;exact SeqAt.EqAt.str_none a t'
  | bl b=>cases rx;exact SeqAt.EqAt.str_bool a t' b
  | int b=>obtain⟨t,rfl⟩:=rx;exact SeqAt.EqAt.str_int a t' b t
  | str b=>obtain⟨t,rfl⟩:=rx;exact SeqAt.EqAt.str_str a t' b t
  | _=>exact absurd (show false=true from fx) Qi
 | _=>exact absurd (show false=true from fy) Qi
abbrev eqU(x:V)(u:Value):Bool:=match u with
 | .none=>eqV .non x
 | .bool b=>eqV (.bl b) x
 | .int i _=>eqV (.int i) x
 | .str z _=>eqV (.str z) x
 | _=>false
def zj(r:RelV y u)(f:gp y=true):eqU x u=eqV y x:=by
 cases y with
 | non=>cases r;rfl
 | bl b=>cases r;rfl
 | int i=>obtain⟨t,rfl⟩:=r;rfl
 | str z=>obtain⟨t,rfl⟩:=r;rfl
 | _=>exact absurd (show false=true from f) Qi
def jv:∀ {xs:List V} {us:List Value},Vals xs us->xs.all gp=true->us.any (eqU x)=xs.any fun y=>eqV y x
 | _,_,.nil,_=>rfl
 | y::xs,u::us,.cons r t,f=>by
  rw[Qx,Bool.and_eq_true]at f;rw[List.any_cons,List.any_cons,zj r f.1,jv t f.2]
def iy(rx:RelV x v)(fx:gp x=true):∀ {xs:List V} {us:List Value},Vals xs us->xs.all gp=true->∀ u∈us,SeqAt.EqAt A s u v (eqU x u)
 | _,_,.nil,_=>fun u hu=>by cases hu
 | y::xs,u::us,.cons r t,f=>fun u' hu=>by
  rw[Qx,Bool.and_eq_true]at f;rcases List.mem_cons.mp hu with rfl | hu
  ·rw[zj r f.1];exact EB r rx f.1 fx
  ·exact iy rx fx t f.2 u' hu
abbrev inV(x:V)(xs:List V):Bool:=xs.any fun y=>eqV y x
abbrev rIn(K:W.Frag)(neg:Bool):R2:=fun x y H Q=>∃ p xs,y=.ref p/\(SqL K H p xs\/SqT K H p xs)/\gp x=true/\xs.all gp=true/\Q (.bl (if neg then !inV x xs else inV x xs)) H
def yT:OpR X (compareOp .In) (rIn X.K false):=by
 cb_eq;obtain⟨p,xs,rfl,hq,fx,fs,q⟩:=h;cases ry;rcases hq with hq | hq
 ·obtain⟨its,r,pl,hz⟩:=I.list hq;refine SeqAt.in_listAt (eqU x) pl.isList (fun w hw=>iy rx fx r fs w (by simpa using hw)) ⟨.bl _,H,I,rfl,?_⟩;rw[show its.toArray.any (eqU x)=its.any (eqU x) by simp,jv r fs];exact q
 ·obtain⟨its,r,pl,hz⟩:=I.tuple hq;refine SeqAt.in_tupleAt (eqU x) pl (fun w hw=>iy rx fx r fs w (by simpa using hw)) ⟨.bl _,H,I,rfl,?_⟩;rw[show its.toArray.any (eqU x)=its.any (eqU x) by simp,jv r fs];exact q
def tq:OpR X (compareOp .NotIn) (rIn X.K true):=by
 cb_eq;obtain⟨p,xs,rfl,hq,fx,fs,q⟩:=h;cases ry;rcases hq with hq | hq
 ·obtain⟨its,r,pl,hz⟩:=I.list hq;refine SeqAt.notIn_listAt (eqU x) pl.isList (fun w hw=>iy rx fx r fs w (by simpa using hw)) ⟨.bl _,H,I,rfl,?_⟩;rw[show its.toArray.any (eqU x)=its.any (eqU x) by simp,jv r fs];exact q
 ·obtain⟨its,r,pl,hz⟩:=I.tuple hq;refine SeqAt.notIn_tupleAt (eqU x) pl (fun w hw=>iy rx fx r fs w (by simpa using hw)) ⟨.bl _,H,I,rfl,?_⟩;rw[show its.toArray.any (eqU x)=its.any (eqU x) by simp,jv r fs];exact q
def bK.or(h:bK X f r)(h':bK X f r'):bK X f (fun xs H Q=>r xs H Q\/r' xs H Q):=by
 intro pins s Y H xs us Q I rs q;rcases q with q | q
 ·exact h pins s Y H xs us Q I rs q
 ·exact h' pins s Y H xs us Q I rs q
def sM:bK X (.type "list") (fun xs H Q=>∃ p ys,xs=[.ref p]/\(SqL X.K H p ys\/SqT X.K H p ys)/\∀ l,H l=none->Q (.ref l) (upd H l (.lst ys))):=by
 by_in;obtain⟨p,ys,rfl,hq,q⟩:=h;obtain⟨u,rfl,rx⟩:=vals1 r;cases rx
 have fin:∀ (its:List Value),Vals ys its->ys.length<=sizeLine->∀ (h':Heap) (c':Nat),(∀ b o',s.heap.get? b=some o'->h'.get? b=some o') ->
   h'.get? s.heap.objs.size=some { cls:=.type "list",dict:=none,data:=.seq its.toArray c',slots:=(List.toArray []) }->EP X pins Y Q (.ref s.heap.objs.size) { s with heap:=h' }:=fun its r' hz h' c' kp e =>
  ⟨.ref s.heap.objs.size,_,I.laid (t':=s.toks) kp (Qc _) (show bC X.prog X.w _ h' _ (.lst ys)from⟨hz,its,c',r',e⟩),rfl,q _ (I.hok.fresh (Qc _))⟩
 rcases hq with hq | hq
 ·obtain⟨its,r',pl,hz⟩:=I.list hq;have hlen:=r'.length;obtain⟨o,ho,hc,n,hd⟩:=pl.isList;exact call_list_seq p (.inl rfl) ho hc hd (fun h' c' kp e=>fin its r' hz h' c' kp e) (by simp only[List.size_toArray]<;>omega)
 ·obtain⟨its,r',pl,hz⟩:=I.tuple hq;have hlen:=r'.length;obtain⟨o,ho,hc,n,hd⟩:=pl;exact call_list_seq p (.inr rfl) ho hc hd (fun h' c' kp e=>fin its r' hz h' c' kp e) (by simp only[List.size_toArray]<;>omega)
def qL:bK X (.type "tuple") (fun xs H Q=>∃ p ys,xs=[.ref p]/\((SqL X.K H p ys/\∀ l,H l=none->Q (.ref l) (upd H l (.tup ys)))\/(SqT X.K H p ys/\Q (.ref p) H))):=by
 by_in;obtain⟨p,ys,rfl,h⟩:=h;obtain⟨u,rfl,rx⟩:=vals1 r;cases rx
 rcases h with⟨hq,q⟩ | ⟨hq,q⟩
 ·obtain⟨its,r',pl,hz⟩:=I.list hq;have hlen:=r'.length;refine call_tuple_list pl.isList (fun h' kp=>?_) (by simp only[List.size_toArray]<;>omega);have I1:Inv X pins Y H { s with heap:=h' }:=I.kept (t':=s.toks) kp
  have I2:Inv X pins Y (upd H h'.objs.size (.tup ys)) { s with heap:=h'.push { cls:=.type "tuple",data:=.seq its.toArray } } :=
   I1.laid (t':=s.toks) (fun b o e=>Qa _ e) (Qc _) (show bC X.prog X.w _ _ _ (.tup ys)from⟨hz,its,r',IsTup.new _ _⟩)
  exact#[.ref h'.objs.size,_,I2,rfl,q _ (I1.hok.fresh (Qc _))]
 ·obtain⟨its,r',pl,hz⟩:=I.tuple hq;exact call_tuple_same pl ⟨.ref p,H,I,rfl,q⟩
abbrev tyV(K:W.Frag)(T:String)(x:V)(H:Hp):Prop:=match x with
 | .str _=>T = "str"
 | .int _=>T = "int"
 | .ref p=>(T = "list" /\ ∃ xs,SqL K H p xs)\/(T = "tuple" /\ ∃ o,K.lookup p=some o/\o.cls=.type "tuple" /\ o.dict=none) \/
   (T = "dict" /\ ((∃ kvs,H p=some (.dK kvs))\/∃ kvs,H p=some (.dT kvs)))\/(T = "set" /\ ∃ S n,H p=some (.set S n))
 | _=>False
def yh(I:Inv X pins Y H s)(r:RelV x v)(ty:tyV X.K T x H) :
  s.TypeIs v T/\∀ a,v=.ref a->∃ ob,s.heap.get? a=some ob/\ob.dict=none:=by
 cases x with
 |str z=>
  obtain⟨t,rfl⟩:=r;cases(show T = "str" from ty);exact#[typeIs_str s z t,fun _ e=>nomatch e]
 |int i=>
  obtain⟨t,rfl⟩:=r;cases(show T = "int" from ty);exact#[typeIs_int s i t,fun _ e=>nomatch e]
 |ref p=>
  cases r
  rcases ty with⟨rfl,xs,hq⟩ | ⟨rfl,o,hk,hc,hd⟩ | ⟨rfl,hk⟩ | ⟨rfl,S,n,hk⟩
  ·obtain⟨its,_,pl,_⟩:=I.list hq;refine#[pl.isList.typeIs,fun a e=>?_];cases e;obtain⟨o,n,e,c,hd,_⟩:=pl;exact#[o,e,hd]
  ·refine#[#[o,I.kIn p o hk,hc],fun a e=>?_];cases e;exact#[o,I.kIn _ o hk,hd]
  ·have z:∃ o,s.heap.get? p=some o/\o.ExactDict:=by
    rcases hk with⟨kvs,hk⟩ | ⟨kvs,hk⟩
    ·obtain⟨_,_,_,_,o,_,_,e,ex,_⟩:=I.hok p _ hk;exact#[o,e,ex]
    ·obtain⟨_,_,_,_,o,_,_,e,ex,_⟩:=I.hok p _ hk;exact#[o,e,ex]
   obtain⟨o,e,ex⟩:=z;refine#[#[o,e,ex.1],fun a e2=>?_];cases e2;exact#[o,e,ex.2.1]
  ·obtain⟨o,_,_,_,e,ex,_⟩:=I.hok p _ hk;refine#[#[o,e,ex.1],fun a e2=>?_];cases e2;exact#[o,e,ex.2.1]
 | _=>exact False.elim ty
abbrev Bm(K:W.Frag)(T:String)(r:V->List V->Hp->VK->Prop)(to:TE):TE:=fun Y H Q=>to Y H fun x H1=>tyV K T x H1/\r x [] H1 Q
abbrev tBM(K:W.Frag)(T:String)(r:V->List V->Hp->VK->Prop)(to:TE)(t:TA):TE:=fun Y H Q=>to Y H fun x H1=>tyV K T x H1/\t Y H1 fun xs H2=>r x xs H2 Q
variable{o e:Expr}{es:List Expr}{to:TE}{t:TA}{name:Str}{apos cpos:Pos}{T id:String}{r:V->List V->Hp->VK->Prop}
def zB(pa:PlainAttrs T)(slot:Slot T name id)(hty:typeOf (.builtin id)=pure (.type "method_descriptor"))(hm:MtR X id r)(ho:PE X o to)
 (hbase:attributeBase o name X.env (eval o X.env)=eval o X.env)(hline:(apos.endLine == cpos.line)=true):PE X (.Call (.Attribute o name apos) [] [] cpos) (Bm X.K T r to):=by
 kt_k;refine wpAny_Call_method0_late hbase hline (thn (ho pins s Y H _ I h) fun v s1 ⟨x,H1,I1,r1,ty,q1⟩=>?_);obtain⟨h1,h2⟩:=yh I1 r1 ty;exact#[T,id,pa,slot,hty,h1,h2,Calls.callWith_builtin rfl (PySem.evalArgs_none (hm pins s1 Y H1 x [] v [] Q I1 r1 .nil q1))]
def Cs(pa:PlainAttrs T)(slot:Slot T name id)(hty:typeOf (.builtin id)=pure (.type "method_descriptor"))(hm:MtR X id r)(ho:PE X o to)(ha:PA X (e::es) t)
 (hbase:attributeBase o name X.env (eval o X.env)=eval o X.env)
 (hfew:((backTo cpos (starEach (e::es) X.env)).all (fun x=>!x.1)&&(backToKw cpos (keywordEach [] X.env)).all (fun x=>x.1.isSome)
   && decide ((e::es).length+([]:List Keyword).length+(if([]:List Keyword).isEmpty then 0 else 1)<30))=true:=by rfl)
 (hline:(apos.endLine == cpos.line)=true)(hs:starEach (e::es) X.env=(false,eval e X.env)::starEach es X.env)(hplain:(backTo cpos (starEach es X.env)).any (·.1)=false) :
  PE X (.Call (.Attribute o name apos) (e::es) [] cpos) (tBM X.K T r to t):=by
 kt_k;refine wpAny_Call_method_late hbase hfew hline rfl (thn (ho pins s Y H _ I h) fun v s1 ⟨x,H1,I1,r1,ty,q1⟩=>?_);obtain⟨h1,h2⟩:=yh I1 r1 ty;refine#[T,id,pa,slot,hty,h1,h2,?_];have hA:=ha cpos pins s1 Y H1 _ I1 q1;rw[hs]at hA ⊢;refine Calls.callWith_builtin (by show(false || (backTo cpos (starEach es X.env)).any (·.1))=false;rw[hplain]<;>rfl) (Calls.evalArgs_plain ?_);exact thn hA fun us s2 ⟨vs,H2,I2,r2,q2⟩=>hm pins s2 Y H2 x vs v us Q I2 r1 r2 q2
end
abbrev MtM(X:Cx)(id:String)(r:V->List V->Hp->VK->Prop):Prop :=
 ∀ (pins:List (Addr × Obj)) (s:Shared) (Y:St) (H:Hp) (x:V) (xs:List V) (v:Value) (us:List Value) (Q:VK),Inv X pins Y H s->RelV x v->Vals xs us->r x xs H Q ->
  wpAny (model X.prog X.w) X.A (call (.builtin id) (v::us)) (EP X pins Y Q) X.xe s
def Vals.one:∀ {x:V} {us:List Value},Vals [x] us->∃ u,us=[u]/\RelV x u
 | _,_,.cons r .nil=>#[_,rfl,r]
def Vals.zero:∀ {us:List Value},Vals [] us->us=[]
 | _,.nil=>rfl
def Vals.dropLast(h:Vals xs us):Vals xs.dropLast us.dropLast:=by
 induction h with
 | nil=>exact .nil
 |cons r t ih=>
  cases t with
  | nil=>exact .nil
  | cons q t'=>exact .cons r ih
def Vals.reverse(h:Vals xs us):Vals xs.reverse us.reverse:=by
 induction h with
 | nil=>exact .nil
 | cons r t ih=>rw[List.reverse_cons,List.reverse_cons];exact Vals.append ih (.cons r .nil)
def Vals.rep(h:Vals xs us):∀ k:Nat,Vals (List.replicate k xs).flatten (List.replicate k us).flatten
 | 0=>.nil
 | k+1=>by
  rw[QG,QG,QN,QN];exact Vals.append h (Vals.rep h k)
def wc(l:List α):l.eraseIdx (l.length-1)=l.dropLast:=by
 induction l with
 | nil=>rfl
 |cons a r ih=>
  cases r with
  | nil=>rfl
  |cons b r=>
   have e:(a::b::r).length-1=((b::r).length-1)+1:=by
    have h1:(a::b::r).length=r.length+2:=rfl;have h2:(b::r).length=r.length+1:=rfl;omega
   rw[e,List.eraseIdx_cons_succ,ih]
   all_goals rfl
def foldl_rep(its:List Value):∀ (k:Nat) (acc:List Value),
  List.foldl (fun x1 x2=>x1++x2) acc.toArray (List.replicate k its.toArray)=(acc++(List.replicate k its).flatten).toArray
 | 0,acc=>by simp
 | k+1,acc=>by
  have e:acc.toArray++its.toArray=(acc++its).toArray:=by simp
  have e2:(acc++its)++(List.replicate k its).flatten=acc++(List.replicate (k+1) its).flatten:=by
   rw[QG,QN,QM]
  rw[<-e2,<-foldl_rep its k (acc++its),<-e,QG,List.foldl_cons]
section
variable{X:Cx}{pins:List (Addr × Obj)}{Y:St}{H:Hp}{s:Shared}{l b:Addr}{xs ys zs:List V}
def Inv.Hw{its its':List Value}{n:Nat}{f:Array Value->Array Value}{t':Nat}(I:Inv X pins Y H s)(hH:H l=some (.lst xs))
 (e:s.heap.get? l=some { cls:=.type "list",data:=.seq its.toArray n })(hf:f its.toArray=its'.toArray)(hv:Vals ys its')(hz:ys.length<=sizeLine) :
  Inv X pins Y (upd H l (.lst ys)) { s with heap:=s.heap.update l (Obj.mapSeq f),toks:=t' }:=by
 have q:=PySem.IsL.update e f;rw[hf]at q;refine I.write (x:=l) (e:=l) (by rw[hH];exact trivial) (.inl rfl) (fun b' u hb hu=>(Qw s.heap (Obj.mapSeq f) (Ne.symm hb)).trans hu) ⟨_,q⟩ ?_;exact#[hz,its',_,hv,q]
def Inv.He(I:Inv X pins Y H s)(hv:Vals ys its)(hz:ys.length<=sizeLine) :
  Inv X pins Y (upd H s.heap.objs.size (.lst ys)) { s with heap:=s.heap.push { cls:=.type "list",data:=.seq its.toArray },toks:=t' } :=
 I.laid (fun _ _ q=>Qa _ q) (Qc _) ⟨hz,its,0,hv,Qe _ rfl⟩
def Inv.fresh(I:Inv X pins Y H s):H s.heap.objs.size=none:=I.hok.fresh (Qc _)
def Inv.t9(I:Inv X pins Y H s)(hH:H l=some (.lst xs)):xs.length<=sizeLine/\∃ (its:List Value) (n:Nat),Vals xs its/\xs.length=its.length/\s.heap.get? l=some { cls:=.type "list",data:=.seq its.toArray n }:=by
 obtain⟨z,its,n,r,e⟩:=I.hok l _ hH;exact#[z,its,n,r,r.length,e]
def Ar(h:n<=sizeLine):Builtin.List.listTooLong n=false:=by
 unfold Builtin.List.listTooLong;exact Qk (by omega)
end
section
variable{X:Cx}
abbrev vT:V->List V->Hp->VK->Prop:=fun x vs H Q=>∃ l xs y,x=.ref l/\vs=[y]/\H l=some (.lst xs)/\xs.length<sizeLine/\Q .non (upd H l (.lst (xs++[y])))
def qA:MtM X "list.append" vT:=by
 intro pins s Y H x vs v us Q I rx rv h;obtain⟨l,xs,y,rfl,rfl,hH,hz,q⟩:=h;cases rx;obtain⟨u,rfl,ru⟩:=rv.one;obtain⟨z,its,n,r,hl,e⟩:=I.t9 hH;refine call_meets F.slot_list_append ⟨_,e,rfl⟩ F.entry_list_append (F.args_list_append_2 _ _) (PySem.list_append l its.toArray n u (by rw[List.size_toArray];omega)) ⟨e,?_⟩;refine#[.non,_,I.Hw (its':=its++[u]) hH e (by simp) (r.append (.cons ru .nil)) ?_,rfl,q];rw[List.length_append,List.length_singleton];omega
abbrev B2:V->List V->Hp->VK->Prop:=fun x vs H Q=>∃ l xs y,x=.ref l/\vs=[]/\H l=some (.lst xs)/\xs[xs.length-1]?=some y/\Q y (upd H l (.lst xs.dropLast))
def zm:MtM X "list.pop" B2:=by
 intro pins s Y H x vs v us Q I rx rv h;obtain⟨l,xs,y,rfl,rfl,hH,hy,q⟩:=h;cases rx;have hus:=rv.zero;subst hus;obtain⟨z,its,n,r,hl,e⟩:=I.t9 hH;obtain⟨u,hu,ru⟩:=r.get hy
 have hy':its.toArray[its.toArray.size-1]?=some u:=by
  show its.toArray[its.length-1]?=some u;rw[<-Array.getElem?_toList,<-hl];exact hu
 refine call_meets F.slot_list_pop ⟨_,e,rfl⟩ F.entry_list_pop (F.args_list_pop_1 _) (MeetsSeq.list_pop_last l its.toArray n u hy' (by rw[List.size_toArray];omega)) ⟨e,?_⟩;refine#[y,_,I.Hw (its':=its.dropLast) hH e ?_ r.dropLast ?_,ru,q]
 ·show its.toArray.eraseIdxIfInBounds (its.toArray.size-1)=its.dropLast.toArray;rw[List.size_toArray,List.eraseIdxIfInBounds_toArray,wc]
 ·rw[List.length_dropLast];omega
abbrev JK:R2:=fun x y H Q=>∃ l b xs zs,x=.ref l/\y=.ref b/\H l=some (.lst xs)/\H b=some (.lst zs)/\xs.length+zs.length<=sizeLine/\∀ p,H p=none->Q (.ref p) (upd H p (.lst (xs++zs)))
def Eo:OpR X (binaryOp .Add) JK:=by
 cb_eq;obtain⟨l,b,xs,zs,rfl,rfl,hH,hB,hz,q⟩:=h;cases rx;cases ry;obtain⟨z,its,n,r,hl,e⟩:=I.t9 hH;obtain⟨z2,its2,n2,r2,hl2,e2⟩:=I.t9 hB;refine PySem.P.add_list e e2 ?_ (by rw[List.size_toArray,List.size_toArray];omega)
 have ea:its.toArray++its2.toArray=(its++its2).toArray:=by simp
 rw[ea];exact#[.ref _,_,I.He (t':=s.toks) (r.append r2) (by rw[List.length_append];omega),rfl,q _ I.fresh]
abbrev JD:R2:=fun x y H Q=>∃ l k xs,x=.ref l/\y=.int k/\H l=some (.lst xs)/\-(2 ^ 63)<=k/\k<2 ^ 63/\xs.length*k.toNat<=sizeLine /\
 ∀ p,H p=none->Q (.ref p) (upd H p (.lst (List.replicate k.toNat xs).flatten))
def len_rep(xs:List α)(k:Nat):(List.replicate k xs).flatten.length=k*xs.length:=by
 induction k with
 | zero=>simp
 | succ k ih=>rw[QG,QN,List.length_append,ih,Nat.succ_mul,Nat.add_comm]
def ET:OpR X (binaryOp .Mult) JD:=by
 cb_eq;obtain⟨l,k,xs,rfl,rfl,hH,h1,h2,hz,q⟩:=h;cases rx;obtain⟨t,rfl⟩:=ry;obtain⟨z,its,n,r,hl,e⟩:=I.t9 hH
 have hlen:its.toArray.size*k.toNat<=sizeLine:=by rw[List.size_toArray,<-hl];exact hz
 have hcap:¬ its.toArray.size*k.toNat > (2 ^ 63-1) / 8:=by
  have:(sizeLine:Nat)<=(2 ^ 63-1) / 8:=by decide
  omega
 have hfit:¬ (!Builtin.List.listFitsIndex k)=true:=by
  rw[fitsIndex_both h1 h2];exact Qi
 have hlong:¬ Builtin.List.listTooLong (its.toArray.size*k.toNat)=true:=by
  rw[Ar hlen];exact Qi
 have hnew:List.foldl (fun x1 x2=>x1++x2) (List.toArray []) (List.replicate (if its.toArray.isEmpty=true then 0 else k.toNat) its.toArray)=(List.replicate k.toNat its).flatten.toArray:=by
  have f0:∀ m:Nat,List.foldl (fun x1 x2=>x1++x2) (List.toArray []) (List.replicate m its.toArray)=(List.replicate m its).flatten.toArray:=fun m=>by
   have:=foldl_rep its m [];rw[List.nil_append]at this;exact this
  rw[f0]
  cases its with
  | nil=>simp
  | cons a r'=>rw[if_neg (by simp)]
 refine wpAny_binaryOp_repeat_ref (T := "list") (U := "int") ∅ ⟨_,e,rfl⟩ (fun s'=>typeIs_int s' k t) noFill_list_mul F.fills_int_mul F.slot_int_rmul repeat_list F.slot_int_index.lookup
  (call_meets F.slot_int_rmul (typeIs_int s k t) F.entry_int_rmul (F.args_int_rmul_2 _ _) (int___rmul___int_list k t l its.toArray n)
   ⟨e,rfl,⟨_,e,rfl⟩,call_meets F.slot_list_mul ⟨_,e,rfl⟩ F.entry_list_mul (F.args_list_mul_2 _ _) (AutoListH.list___mul___list_int_3 l its.toArray n k t hfit hcap hlong) ⟨e,?_⟩⟩)
 rw[hnew];exact#[.ref _,_,I.He (t':=s.toks) (r.rep k.toNat) (by rw[len_rep,Nat.mul_comm];exact hz),rfl,q _ I.fresh]
end
section
variable{prog:Program}{w:World}{A:Around}{E:Value->Shared->Prop}{s:Shared}
set_option maxRecDepth 100000 in
end
section
variable{X:Cx}
end
section
variable{κ:Type} [DecidableEq κ]
abbrev fA(kvs:List (κ × V))(k:κ):Option V:=(kvs.find? fun kv=>decide (kv.1=k)).map (·.2)
abbrev putK(kvs:List (κ × V))(k:κ)(v:V):List (κ × V) :=
 if(kvs.any fun kv=>decide (kv.1=k))=true then kvs.map (fun kv=>if kv.1=k then(kv.1,v)else kv)else kvs++[(k,v)]
def jU{p:κ × V}{r:List (κ × V)}{k:κ}(e:p.1=k):fA (p::r) k=some p.2:=by simp[fA,List.find?_cons,e]
def jK{p:κ × V}{r:List (κ × V)}{k:κ}(e:¬ p.1=k):fA (p::r) k=fA r k:=by simp[fA,List.find?_cons,e]
def tZ(k:κ):∀ kvs:List (κ × V),(kvs.any fun kv=>decide (kv.1=k))=(fA kvs k).isSome
 | []=>rfl
 | p::r=>by
  rw[List.any_cons];by_cases e:p.1=k
  ·simp only[jU e,decide_eq_true e,Bool.true_or,Option.isSome_some]
  ·rw[jK e,Qk e,Bool.false_or];exact tZ k r
def mj(kvs:List (κ × V))(k:κ)(v:V):(putK kvs k v).length<=kvs.length+1:=by
 unfold putK;split
 ·rw[List.length_map];omega
 ·rw[List.length_append,List.length_cons,List.length_nil];omega
def iu.gy(r:iu o u):o.isSome=u.isSome:=by
 cases o with
 | none=>cases u with
  | none=>rfl
  | some _=>exact(show False from r).elim
 | some _=>cases u with
  | none=>exact(show False from r).elim
  | some _=>rfl
def KV.val{kvs:List (κ × V)}{vs:List (κ × Value)}(r:KV kvs vs)(k:κ):iu (fA kvs k) (valueAt vs k):=by
 unfold KV at r
 induction r with
 | nil=>exact True.intro
 |@cons p q ps qs h t ih=>
  obtain⟨h1,h2⟩:=h;by_cases e:p.1=k
  ·have e':q.1=k:=h1.symm.trans e
   have b:valueAt (q::qs) k=some q.2:=by simp[valueAt,List.find?_cons,e']
   rw[jU e,b];exact h2
  ·have e':¬ q.1=k:=fun z=>e (h1.trans z)
   have b:valueAt (q::qs) k=valueAt qs k:=by simp[valueAt,List.find?_cons,e']
   rw[jK e,b];exact ih
def KV.any(r:KV kvs vs)(k:κ):(kvs.any fun kv=>decide (kv.1=k))=vs.any fun kv=>decide (kv.1=k):=by
 unfold KV at r
 induction r with
 | nil=>rfl
 | cons h t ih=>rw[List.any_cons,List.any_cons,ih,h.1]
def KV.AW(r:KV kvs vs)(k:κ)(ry:RelV y u) :
  KV (kvs.map fun kv=>if kv.1=k then(kv.1,y)else kv) (vs.map fun kv=>if kv.1=k then(kv.1,u)else kv):=by
 unfold KV at r ⊢
 induction r with
 | nil=>exact .nil
 |@cons p q ps qs h t ih=>
  rw[List.map_cons,List.map_cons];refine .cons ?_ ih;obtain⟨h1,h2⟩:=h;by_cases e:p.1=k
  ·rw[if_pos e,if_pos (h1.symm.trans e)];exact#[h1,ry]
  ·rw[if_neg e,if_neg (fun z=>e (h1.trans z))];exact#[h1,h2]
def KV.put(r:KV kvs vs)(k:κ)(ry:RelV y u):KV (putK kvs k y) (stored vs k u):=by
 unfold putK stored;rw[r.any k];by_cases e:(vs.any fun kv=>decide (kv.1=k))=true
 ·rw[if_pos e,if_pos e];exact r.AW k ry
 ·rw[if_neg e,if_neg e];exact Paired.snoc r ⟨rfl,ry⟩
def KV.length(r:KV kvs vs):kvs.length=vs.length:=Paired.length r
end
def nS(r:RelV (kV k) u):(cu P w).is k u=true:=by
 cases k with
 | inl i=>obtain⟨t,e⟩:=(show ∃ t,u=Value.int i t from r);subst e;exact uK P w i t
 | inr x=>obtain⟨t,e⟩:=(show ∃ t,u=Value.str x t from r);subst e;exact uM P w x t
def qw:∀ {ks:List Key} {us:List Value},Vals (ks.map kV) us->ItemsAre (cu P w) ks us
 | [],_,r=>by rw[List.map_nil]at r;cases r;exact .nil
 | k::ks,_,r=>by
  rw[List.map_cons]at r
  cases r with
  | cons h t=>exact .cons (nS h) (qw t)
@[reducible]noncomputable def KT(H:Hp):List (List Key × V)->List (List Key × Addr × Value)->Prop:=Paired fun p q=>p.1=q.1/\H q.2.1=some (.tup (p.1.map kV))/\RelV p.2 q.2.2
def KT.val{H:Hp}{kvs:List (List Key × V)}{xs:List (List Key × Addr × Value)}(r:KT H kvs xs)(k:List Key):iu (fA kvs k) ((atKey xs k).map (·.2)):=by
 induction r with
 | nil=>exact True.intro
 |@cons p q ps qs h t ih=>
  obtain⟨h1,_,h2⟩:=h;by_cases e:p.1=k
  ·have e':q.1=k:=h1.symm.trans e
   have b:atKey (q::qs) k=some q.2:=by simp[atKey,List.find?_cons,e']
   rw[jU e,b];exact h2
  ·have e':¬ q.1=k:=fun z=>e (h1.trans z)
   have b:atKey (q::qs) k=atKey qs k:=by simp[atKey,List.find?_cons,e']
   rw[jK e,b];exact ih
def KT.AW(r:KT H kvs xs)(k:List Key)(ry:RelV y u) :
  KT H (kvs.map fun kv=>if kv.1=k then(kv.1,y)else kv) (xs.map (putAt k u)):=by
 induction r with
 | nil=>exact .nil
 |@cons p q ps qs h t ih=>
  rw[List.map_cons,List.map_cons];refine .cons ?_ ih;obtain⟨h1,h2,h3⟩:=h;unfold putAt;by_cases e:p.1=k
  ·rw[if_pos e,if_pos (h1.symm.trans e)];exact#[h1,h2,ry]
  ·rw[if_neg e,if_neg (fun z=>e (h1.trans z))];exact#[h1,h2,h3]
def KT.put(r:KT H kvs xs)(k:List Key)(hb:H b=some (.tup (k.map kV)))(ry:RelV y u) :
  KT H (putK kvs k y) (storedH xs k b u):=by
 have e:(kvs.any fun kv=>decide (kv.1=k))=(atKey xs k).isSome:=by
  rw[tZ,(r.val k).gy,Option.isSome_map]
 unfold putK storedH;rw[e];by_cases q:(atKey xs k).isSome=true
 ·rw[if_pos q,if_pos q];exact r.AW k ry
 ·rw[if_neg q,if_neg q];exact Paired.snoc r ⟨rfl,hb,ry⟩
def KT.keeps(r:KT H kvs xs)(ht:∀ b ys,H b=some (.tup ys)->H' b=some (.tup ys)):KT H' kvs xs :=
 Paired.Aa r fun _ _ z=>#[z.1,ht _ _ z.2.1,z.2.2]
section
variable{P:Program}{w:World}{H:Hp}{h:Heap}{a:Addr}
def Cw(ok:HOk P w H h)(e:Rd H a u):bC P w H h a u:=e.ok ok
def l5(ok:HOk P w H h)(e:Rd H a (.dK kvs)):kvs.length<=sizeLine/\(a == sysModules)=false/\∃ vs,KV kvs vs/\h.DictOf (cu P w) a vs :=
 show bC P w H h a (.dK kvs)from Cw ok e
def IY(ok:HOk P w H h)(e:H a=some (.dK kvs)):kvs.length<=sizeLine/\(a == sysModules)=false/\∃ vs,KV kvs vs/\h.DictOf (cu P w) a vs:=l5 ok (.inl e)
def kF(ok:HOk P w H h)(e:H a=some (.tup (ks.map kV))):(tupleKind (cu P w)).is h ks a:=by
 obtain⟨_,its,r,o,h1,h2,n,h3⟩:=(show bC P w H h a (.tup (ks.map kV))from ok a _ e)
 exact#[o,its.toArray,n,h1,h2,h3,by simpa using qw r]
def nY(ok:HOk P w H h)(e:Rd H a (.dT kvs)):kvs.length<=sizeLine/\(a == sysModules)=false /\
  ∃ xs,KT H kvs xs/\h.DictOfH (tupleKind (cu P w)) a xs:=by
 obtain⟨z,y,xs,r,o,es,ep,h1,h2,h3,h4,h5⟩:=(show bC P w H h a (.dT kvs)from Cw ok e)
 refine#[z,y,xs,r,o,es,ep,h1,h2,h3,h4,fun x hx=>?_,h5]
 have all:∀ {l:List (List Key × V)} {m:List (List Key × Addr × Value)},KT H l m->∀ x∈m,(tupleKind (cu P w)).is h x.1 x.2.1:=by
  intro l m q
  induction q with
  | nil=>intro x hx;exact nomatch hx
  |@cons p q ps qs hq t ih=>
   intro x hx;rcases List.mem_cons.mp hx with e | hx
   ·subst e;exact kF ok (by rw[<-hq.1];exact hq.2.1)
   ·exact ih x hx
 exact all r x hx
def BP(ok:HOk P w H h)(e:H a=some (.dT kvs)):kvs.length<=sizeLine/\(a == sysModules)=false /\
  ∃ xs,KT H kvs xs/\h.DictOfH (tupleKind (cu P w)) a xs:=nY ok (.inl e)
end
abbrev fK(H:Hp)(a:Addr)(y:V)(r:Option V):Prop :=
 (∃ kvs k,Rd H a (.dK kvs)/\y=kV k/\r=fA kvs k)\/∃ kvs k b,Rd H a (.dT kvs)/\y=.ref b/\H b=some (.tup (k.map kV))/\r=fA kvs k
abbrev k9(H:Hp)(a:Addr)(y v:V)(H':Hp):Prop :=
 (∃ kvs k,H a=some (.dK kvs)/\y=kV k/\kvs.length<sizeLine/\H'=upd H a (.dK (putK kvs k v))) \/
 ∃ kvs k b,H a=some (.dT kvs)/\y=.ref b/\H b=some (.tup (k.map kV))/\kvs.length<sizeLine/\H'=upd H a (.dT (putK kvs k v))
def fK.k{H:Hp}{a:Addr}{kvs:List (Key × V)}{k:Key}(e:H a=some (.dK kvs)):fK H a (kV k) (fA kvs k):=.inl #[kvs,k,.inl e,rfl,rfl]
def fK.t{H:Hp}{a b:Addr}{kvs:List (List Key × V)}{k:List Key}(e:H a=some (.dT kvs))(eb:H b=some (.tup (k.map kV))):fK H a (.ref b) (fA kvs k):=.inr #[kvs,k,b,.inl e,rfl,eb,rfl]
def k9.k{H:Hp}{a:Addr}{kvs:List (Key × V)}{k:Key}{v:V}(e:H a=some (.dK kvs))(hl:kvs.length<sizeLine):k9 H a (kV k) v (upd H a (.dK (putK kvs k v))):=.inl #[kvs,k,e,rfl,hl,rfl]
def k9.t{H:Hp}{a b:Addr}{kvs:List (List Key × V)}{k:List Key}{v:V}(e:H a=some (.dT kvs))(eb:H b=some (.tup (k.map kV)))(hl:kvs.length<sizeLine) :
  k9 H a (.ref b) v (upd H a (.dT (putK kvs k v))):=.inr #[kvs,k,b,e,rfl,eb,hl,rfl]
section
variable{X:Cx}{pins:List (Addr × Obj)}{Y:St}{H:Hp}{s:Shared}{a:Addr}{y v:V}{u r:Value}{o:Option V}{A:Around}{E:Value->Shared->Prop}
def Inv.big(I:Inv X pins Y H s):sysModules<s.heap.objs.size:=by
 have h:mainGlobals<s.heap.objs.size:=(I.mod.glob.keeps I.bk).lt;exact Nat.lt_trans ∅ h
def zL(hu:A.units+1<cLine)(I:Inv X pins Y H s)(g:fK H a y (some v))(ry:RelV y u)(h:∀ w' s',Inv X pins Y H s'->RelV v w'->Q w' s') :
  wpAny (model X.prog X.w) A (getItem (.ref a) u) Q E s:=by
 rcases g with⟨kvs,k,e,ey,l⟩ | ⟨kvs,k,b,e,ey,eb,l⟩
 ·subst ey;obtain⟨z,hd,vs,rel,dd⟩:=l5 I.hok e;obtain⟨w',hw,rw'⟩:=iu.some_of (v:=v) (o:=valueAt vs k) (by rw[l];exact rel.val k);exact wpAny_getItem_of (nS ry) dd.mapOf hw (h w' _ (I.tok _) rw')
 ·subst ey;cases(show u=Value.ref b from ry);obtain⟨z,hd,xs,rel,dd⟩:=nY I.hok e;obtain⟨w',hw,rw'⟩:=iu.some_of (v:=v) (o:=(atKey xs k).map (·.2)) (by rw[l];exact rel.val k);obtain⟨p,hp,hp2⟩:=Option.map_eq_some_iff.mp hw;refine wpAny_getItem_heap (tupleKind_room_in1 hu) (kF I.hok eb) dd hp ?_;rw[hp2];exact h w' _ (I.tok _) rw'
def Js(hu:A.units+1<cLine)(I:Inv X pins Y H s)(g:fK H a y o)(ry:RelV y u)(h:∀ s',Inv X pins Y H s'->Q (.bool o.isSome) s') :
  wpAny (model X.prog X.w) A (compareOp .In u (.ref a)) Q E s:=by
 rcases g with⟨kvs,k,e,ey,l⟩ | ⟨kvs,k,b,e,ey,eb,l⟩
 ·subst ey;obtain⟨z,hd,vs,rel,dd⟩:=l5 I.hok e;refine wpAny_in_of (nS ry) hd dd.mapOf ?_;rw[<-(rel.val k).gy,<-l];exact h _ (I.tok _)
 ·subst ey;cases(show u=Value.ref b from ry);obtain⟨z,hd,xs,rel,dd⟩:=nY I.hok e;refine wpAny_in_heap (tupleKind_room_in1 hu) (kF I.hok eb) hd dd ?_;have q:=(rel.val k).gy;rw[Option.isSome_map]at q;rw[<-q,<-l];exact h _ (I.tok _)
def Ed(hu:A.units+1<cLine)(I:Inv X pins Y H s)(g:fK H a y o)(ry:RelV y u)(h:∀ s',Inv X pins Y H s'->Q (.bool (!o.isSome)) s') :
  wpAny (model X.prog X.w) A (compareOp .NotIn u (.ref a)) Q E s:=by
 rcases g with⟨kvs,k,e,ey,l⟩ | ⟨kvs,k,b,e,ey,eb,l⟩
 ·subst ey;obtain⟨z,hd,vs,rel,dd⟩:=l5 I.hok e;refine wpAny_notIn_of (nS ry) hd dd.mapOf ?_;rw[<-(rel.val k).gy,<-l];exact h _ (I.tok _)
 ·subst ey;cases(show u=Value.ref b from ry);obtain⟨z,hd,xs,rel,dd⟩:=nY I.hok e;refine wpAny_notIn_heap (tupleKind_room_in1 hu) (kF I.hok eb) hd dd ?_;have q:=(rel.val k).gy;rw[Option.isSome_map]at q;rw[<-q,<-l];exact h _ (I.tok _)
def vH(I:Inv X pins Y H s)(mu:Mut (H a))(hs:Heap.SameBut a s.heap h')(he:∃ q,h'.get? a=some q)(new:bC X.prog X.w (upd H a ob) h' a ob) :
  Inv X pins Y (upd H a ob) { s with heap:=h',toks:=t' } :=
 I.write (x:=a) (e:=a) mu (.inl rfl) (fun b q hb z=>(hs.2 b hb).trans z) he new
def GI(z:kvs.length<=sizeLine)(hd:(a == sysModules)=false)(rel:KV kvs vs)(dd:h'.DictOf (cu P w) a vs) :
  bC P w H' h' a (.dK kvs):=#[z,hd,vs,rel,dd]
def xM(hu:A.units+1<cLine)(I:Inv X pins Y H s)(g:k9 H a y v H')(ry:RelV y u)(rv:RelV v r)(h:∀ s',Inv X pins Y H' s'->Q () s') :
  wpAny (model X.prog X.w) A (setItem (.ref a) u r) Q E s:=by
 rcases g with⟨kvs,k,e,ey,l,eH⟩ | ⟨kvs,k,b,e,ey,eb,l,eH⟩
 ·subst ey eH;obtain⟨z,hd,vs,rel,dd⟩:=IY I.hok e
  have hz:vs.length<=sizeLine:=by rw[<-rel.length];exact z
  have hl:(putK kvs k v).length<=sizeLine:=by have:=mj kvs k v;omega
  refine wpAny_setItem_pairs (hsz:=hz) (nS ry) dd fun h' dd' hs=>h _ ?_;have he:∃ q,h'.get? a=some q:=let ⟨q,_,_,hq,_⟩:=dd';⟨q,hq⟩;exact vH I (by rw[e];exact True.intro) hs he (GI hl hd (rel.put k rv) dd')
 ·subst ey eH;cases(show u=Value.ref b from ry);obtain⟨z,hd,xs,rel,dd⟩:=BP I.hok e
  have hz:xs.length<=sizeLine:=by rw[<-Paired.length rel];exact z
  have hl:(putK kvs k v).length<=sizeLine:=by have:=mj kvs k v;omega
  refine wpAny_setItem_heap (hsz:=hz) (tupleKind_room_in1 hu) (kF I.hok eb) dd fun h' dd' hs=>h _ ?_;obtain⟨q,es,ep,hq,h2,h3,h4,_,h5⟩:=dd';refine vH I (by rw[e];exact True.intro) hs ⟨q,hq⟩ ⟨hl,hd,_,(rel.put k eb rv).keeps fun c ys ec=>?_,q,es,ep,hq,h2,h3,h4,h5⟩;rw[aO (r9 ec e (fun z=>nomatch z))];exact ec
end
section
variable{X:Cx}{pins:List (Addr × Obj)}{Y:St}{H:Hp}{s:Shared}{a:Addr}{kvs:List (Key × V)}{k:Key}{u:Value}{A:Around}{E:Value->Shared->Prop}
def Iy(I:Inv X pins Y H s)(e:Rd H a (.dK kvs))(h:∀ t s',Inv X pins Y H s'->Q (.int kvs.length t) s'):wpAny (model X.prog X.w) A (call (.builtin "len") [.ref a]) Q E s:=by
 obtain⟨z,hd,vs,rel,dd⟩:=l5 I.hok e;refine call_len_dict hd dd (by rw[<-rel.length];rw[sizeLine_eq]at z;omega) ?_;rw[<-rel.length];exact h _ _ (I.tok _)
end
abbrev xA(i:Expr):Prop:=∀ ov iv,subscripted i false ov iv=operate [ov,iv] (getItem ov iv)
def DF{prog:Program}{w:World}{A:Around}{E:Value->Shared->Prop}{s:Shared}{env:Env}{value slice:Expr}{pos:Pos}{T id:String}{Q:Value->Shared->Prop}
 (hl:typeLookup (.type T) "__getitem__" = pure (some (.builtin id)))(hs:xA slice)
 (h:wpAny (model prog w) A (eval value env) (fun o s₁=>wpAny (model prog w) A (eval slice env) (fun i s₂=>s₂.TypeIs o T/\wpAny (model prog w) A (getItem o i) Q E s₂) E s₁) E s) :
  wpAny (model prog w) A (eval (.Subscript value slice pos) env) Q E s:=by
 refine Subscript_ (wpAny_mono h (fun o s₁ h₁=>wpAny_mono h₁ (fun i s₂ h₂=>?_) fun _ _ x=>x) fun _ _ x=>x);obtain⟨hT,h₂⟩:=h₂;unfold subscriptTail;refine Qb ?_;rw[getitemInPython_of_ne hT.not_modules];refine Qb (wpAny_specialOf hT hl ?_)
 have fin:wpAny (model prog w) A (subscripted slice false o i) (fun r s₃=>wpAny (model prog w) A (letTemporaryGo value o r >>= fun _=>pure r) Q E s₃) E s₂:=by
  rw[hs o i];exact wpAny_operating (wpAny_mono h₂ (fun r s₃ h₃=>Qb (wpAny_letTemporaryGo (Qd h₃))) fun _ _ x=>x)
 first
  | exact Qd (Qb fin)
  | exact Qb (Qd (Qb fin))
  | exact Qb fin
def uJ(I:Inv X pins Y H s)(g:fK H a y o):s.TypeIs (.ref a) "dict" := by
 rcases g with⟨kvs,k,e,_,_⟩ | ⟨kvs,k,b,e,_,_,_⟩
 ·obtain⟨_,_,vs,_,dd⟩:=l5 I.hok e;exact dd.typeIs
 ·obtain⟨_,_,xs,_,dd⟩:=nY I.hok e;exact dd.typeIs
abbrev Ip(td ty:TE):TE:=fun Y H Q=>td Y H fun x H1=>ty Y H1 fun y H2=>∃ a v,x=.ref a/\fK H2 a y (some v)/\Q v H2
abbrev F8(ty td:TE):TE:=fun Y H Q=>ty Y H fun y H1=>td Y H1 fun x H2=>∃ a o,x=.ref a/\fK H2 a y o/\Q (.bl o.isSome) H2
abbrev uV(ty td:TE):TE:=fun Y H Q=>ty Y H fun y H1=>td Y H1 fun x H2=>∃ a o,x=.ref a/\fK H2 a y o/\Q (.bl (!o.isSome)) H2
abbrev wR(td ty tv:TE):TS:=fun D Y H=>tv Y H fun v H1=>td Y H1 fun x H2=>ty Y H2 fun y H3=>∃ a H4,x=.ref a/\k9 H3 a y v H4/\D.nx Y H4
section
variable{X:Cx}{o i e value:Expr}{pos pos' tpos:Pos}{td ty tv:TE}
def CT(hu:X.A.units+1<cLine)(ho:PE X o td)(hi:PE X i ty)(hs:xA i):PE X (.Subscript o i pos) (Ip td ty):=by
 kt_k;refine DF PySem.F.slot_dict_getitem.lookup hs (thn (ho pins s Y H _ I h) fun u s1 ⟨x,H1,I1,rx,q1⟩=>thn (hi pins s1 Y H1 _ I1 q1) fun iv s2 ⟨y,H2,I2,ry,a,v,ex,g,q2⟩=>?_);subst ex;obtain rfl:u=Value.ref a:=rx;exact#[uJ I2 g,zL hu I2 g ry fun w' s3 I3 rw'=>#[v,H2,I3,rw',q2]]
def EN(hu:X.A.units+1<cLine)(hi:PE X i ty)(ho:PE X o td):PC X .In i o (F8 ty td):=by
 kt_k;refine thn (hi pins s Y H _ I h) fun iv s1 ⟨y,H1,I1,ry,q1⟩=>thn (ho pins s1 Y H1 _ I1 q1) fun u s2 ⟨x,H2,I2,rx,a,ov,ex,g,q2⟩=>?_;subst ex;obtain rfl:u=Value.ref a:=rx
 exact Js hu I2 g ry fun s3 I3=>#[.bl ov.isSome,H2,I3,rfl,q2]
def yK(hu:X.A.units+1<cLine)(hi:PE X i ty)(ho:PE X o td):PC X .NotIn i o (uV ty td):=by
 kt_k;refine thn (hi pins s Y H _ I h) fun iv s1 ⟨y,H1,I1,ry,q1⟩=>thn (ho pins s1 Y H1 _ I1 q1) fun u s2 ⟨x,H2,I2,rx,a,ov,ex,g,q2⟩=>?_;subst ex;obtain rfl:u=Value.ref a:=rx
 exact Ed hu I2 g ry fun s3 I3=>#[.bl (!ov.isSome),H2,I3,rfl,q2]
def Dz(hu:X.A.units+1<cLine)(ho:PE X o td)(hi:PE X i ty)(hv:PE X value tv)(hs:swapsWith value (some (.Subscript o i pos')) pos.line X.env=pure false) :
  PS X (.Assign [.Subscript o i pos'] value pos) (wR td ty tv):=by
 intro pins s Y H D I h;refine wpAny_Assign_Subscript (thn (hv pins s Y H _ I h) fun r s1 ⟨v,H1,I1,rv,q1⟩=>thn (ho pins s1 Y H1 _ I1 q1) fun u s2 ⟨x,H2,I2,rx,q2⟩=>thn (hi pins s2 Y H2 _ I2 q2) fun iv s3 ⟨y,H3,I3,ry,a,H4,ex,g,q3⟩=>?_) hs;subst ex;obtain rfl:u=Value.ref a:=rx
 exact xM hu I3 g ry rv fun s4 I4=>#[Y,H4,I4,q3]
end
def AJ(h:Heap)(hb:sysModules<h.objs.size):bC P w H (h.push { cls:=.type "dict",data:=.dict (List.toArray []) }) h.objs.size (.dK []) :=
 ⟨Nat.zero_le _,beq_eq_false_iff_ne.mpr (Ne.symm (Qn hb)),[],.nil,Heap.DictOf.new h⟩
def Ae(h:Heap)(hb:sysModules<h.objs.size):bC P w H (h.push { cls:=.type "dict",data:=.dict (List.toArray []) }) h.objs.size (.dT []) :=
 ⟨Nat.zero_le _,beq_eq_false_iff_ne.mpr (Ne.symm (Qn hb)),[],.nil,_,(List.toArray []),0,Qe _ rfl,⟨rfl,rfl,rfl⟩,rfl,rfl,List.nodup_nil⟩
abbrev HG:TE:=fun _ H Q=>∀ p,H p=none->Q (.ref p) (upd H p (.dK []))
abbrev Hi:TE:=fun _ H Q=>∀ p,H p=none->Q (.ref p) (upd H p (.dT []))
section
variable{X:Cx}{pos:Pos}
def zW:PE X (.Dict [] [] pos) HG:=fun pins s Y H Q I h =>
 wpAny_Dict_empty ⟨.ref s.heap.objs.size,_,I.laid (a:=s.heap.objs.size) (o:=.dK []) (t':=s.toks) (fun _ _ q=>Qa _ q) (Qc _) (AJ s.heap I.big),rfl,h _ (I.hok.fresh (Qc _))⟩
def Aq:PE X (.Dict [] [] pos) Hi:=fun pins s Y H Q I h =>
 wpAny_Dict_empty ⟨.ref s.heap.objs.size,_,I.laid (a:=s.heap.objs.size) (o:=.dT []) (t':=s.toks) (fun _ _ q=>Qa _ q) (Qc _) (Ae s.heap I.big),rfl,h _ (I.hok.fresh (Qc _))⟩
end
section
variable{X:Cx}{pins:List (Addr × Obj)}{Y:St}{H:Hp}{s:Shared}{a:Addr}{y d:V}{u r:Value}{o:Option V}{A:Around}{E:Value->Shared->Prop}
end
section
variable{X:Cx}{o e f:Expr}{apos cpos:Pos}{td ty tx:TE}
end
section
variable{X:Cx}{pins:List (Addr × Obj)}{Y:St}{H:Hp}{s:Shared}{a:Addr}{kvs:List (Key × V)}{A:Around}{E:Value->Shared->Prop}
end
section
variable{X:Cx}{pins:List (Addr × Obj)}{Y:St}{H:Hp}{s:Shared}{a:Addr}{y:V}{u:Value}{A:Around}{E:Value->Shared->Prop}
end
end L2
namespace Att
open PySem PySem.W PySem.Calls PyProof.Rows
def oA:∀ (ns:List Int) (vs:List Value),WellAll P h vs (ns.map WData.int)->IntsAre vs ns:=by
 intro ns
 induction ns with
 |nil=>
  intro vs w;rw[List.map_nil]at w;cases w;exact .nil
 |cons n ns ih=>
  intro vs w;rw[List.map_cons]at w
  cases w with
  |cons a b=>
   cases a;exact .cons _ _ (ih _ b)
def yL{l:OpenLaw}{n:Nat}(hn:l.most=some n){P:Params}{h:Heap}{args:List WData}{vals:List Value}
 (hpre:l.row.toRowW.claim.pre args=true)(hwl:WellAll P h vals args) :
  ∃ a vs ns,vals=[Value.ref a]/\args=[WData.list (ns.map WData.int)]/\h.get? a=some { cls:=.type "list",data:=.seq vs.toArray }/\IntsAre vs ns/\ns.length<=n:=by
 have hsh:WShape.hasAll [] args [.list .int]=true:=(pre_splitW hpre).1;have hc:l.pre.holds [] { args:=args }=true:=(pre_splitW hpre).2;obtain⟨d,r,rfl,h1,h2⟩:=hasAllW_cons hsh;obtain rfl:=hasAllW_nil h2;obtain⟨xs,rfl,h3⟩:=hasW_list h1;obtain⟨ns,rfl⟩:=items_int h3
 have hlen:ns.length<=n:=by
  unfold OpenLaw.pre at hc
  have h4:(WTm.not (.lt (.lit (.int (n:Int))) (.len (.arg 0)))).holds [] { args:=[.list (ns.map .int)] }=true:=by
   have h4:=(holds_andW hc).1;rw[hn]at h4;exact h4
  have h5:=condW_of h4 (w_not (w_lt w_lit (w_len_list (w_arg rfl))));rw[List.length_map]at h5;refine Nat.le_of_not_lt fun q=>?_
  have q':(n:Int)<((ns.length:Nat):Int):=by omega
  first
   | (rw[decide_eq_true q']at h5;exact absurd h5 ∅)
   | (simp at h5;omega)
 cases hwl with
 |cons w1 w2=>
  cases w2
  cases w1 with
  | list ho hall=>exact#[_,_,ns,rfl,rfl,ho,oA ns _ hall,hlen]
def xG(l:OpenLaw)(args:List WData):l.row.toRowW.claim.post args (.bool true) args=true :=
 postW_of (r:=l.row.toRowW) (X:=(true == true))
  (show WShape.has [] (.bool true) .bool=true by first | rfl | decide | simp[WShape.has,WShape.arms,WShape.armsAll])
  (show(WTm.eq .res (.lit (.bool true))).value [] { args:=args,res:=some (.bool true),after:=args }=some (.bool (true == true))from w_eq_bool (w_res rfl) w_lit) rfl
def uI{l:OpenLaw}{n:Nat}{q:Program}{loose:List Str}{XP:(Str->Option Value)->Heap->Prop}{YP:World->Heap->Prop}{d:DefRec}
 (hn:l.most=some n)(hdf:d.params.defaults=[])
 (call:∀ (w:World) (s₀ s₁:Shared) (mg mb:Str->Option Value) (fa:Addr) (o:Obj) (pm cd doc:Value) (a:Addr) (vs:List Value) (ns:List Int),
   Ground q loose [] XP w s₀ mg mb s₁.heap->YP w s₁.heap ->
   s₁.heap.get? fa=some o->o.data=.func (docDef d.name d.params d.body d.scope pm cd doc)->s₁.heap.CodeRec cd d.name->mg d.name=some (.ref fa) ->
   s₁.heap.get? a=some { cls:=.type "list",data:=.seq vs.toArray }->IntsAre vs ns->ns.length<=n->s₁.gens=(List.toArray []) ->
   codeAny (model l.prog w) callerA (.call (.ref fa) ⟨[.ref a],[]⟩) (fun r s'=>r=.ok (.ret (.bool true))/\OldK s₁.heap s'.heap/\s'.os=s₁.os/\AllBare s'.gens) s₁) :
  WalkO q loose XP YP l.row.toRowW d [] (fun f vs=>PySem.call f vs):=by
 intro w s₀ s₁ mg mb G QO fa o pm cd doc dV kV ho hd hcd hD hmg hg args vals as hpre hlay hrd hwl hlo;obtain rfl:dV=.none:=Dflts.none hD hdf;obtain rfl:kV=.none:=Dflts.noKw hD;obtain⟨a,vs,ns,rfl,rfl,hobj,hints,hlen⟩:=yL hn hpre hwl;refine enter_call (codeAny_mono (call w s₀ s₁ mg mb fa o pm cd doc a vs ns G QO ho (fd_plain hd) hcd hmg hobj hints hlen hg) fun r s' hq=>?_);obtain⟨rfl,h2,h3,h4⟩:=hq;exact#[.inl #[.bool true,.bool true,[],rfl,fun _=>rfl,.bool true,xG l _,fun _=>#[List.Pairwise.nil,fun _ hm=>(nomatch hm)]],h2,h3,h4]
section
variable{prog:Program}{w:World}{A:Around}{E:Value->Shared->Prop}{s:Shared}{K:Frag}
end
end Att
namespace L2
open PySem PySem.Spec PyProof.Rows
def qz:∀ {vs:List Value} {ns:List Int},IntsAre vs ns->Vals (ns.map V.int) vs
 | _,_,.nil=>.nil
 | _,_,.cons n t h=>.cons ⟨t,rfl⟩ (qz h)
abbrev sD(H:Hp):Prop:=∀ b,H b=none\/∃ o xs,H b=some (.frz o (.lst xs))
def AD{P:Program}{w:World}{K:W.Frag}{mg mb:Str->Option Value}{CX:CXT}{k:Nat}{fa a:Addr}{fd:FuncData}{x:Str}{sp:Sp}{s₁:Shared}{vs:List Value}{ns:List Int}
 (KX:K.In s₁.heap)(hns:s₁.heap.Ns mainGlobals mg)(hb:s₁.heap.Ns builtinsNs mb)(hbb:∀ x:Str,x ≠ "__name__" -> mb x=bootBuiltins x)(hlim:s₁.heap.NoLimit)(hg:s₁.gens=(List.toArray []))
 (ha:s₁.heap.get? a=some { cls:=.type "list",data:=.seq vs.toArray })(hi:IntsAre vs ns)(hl:ns.length<=sizeLine)(hr:cJ k callerA)
 (F:∀ base:Heap,K.In base->base.Ns mainGlobals mg->eJ P w K mg base CX k fa fd [x] sp)(hbind:∀ (s:Shared) (u:Value),BindsTo s fd ⟨[u],[]⟩ [(x,u)])
 (hsp:∀ H:Hp,sD H->SqL K H a (ns.map V.int)->sp [.ref a] H (fun v _=>v=.bl true) fun _ _ _=>False)
 (hCX:∀ H e s',CX [] H s₁ (fun _ _ _=>False) e s'->False) :
  codeAny (model P w) callerA (.call (.ref fa) ⟨[.ref a],[]⟩) (fun r s'=>r=.ok (.ret (.bool true))/\OldK s₁.heap s'.heap/\s'.os=s₁.os/\AllBare s'.gens) s₁:=by
 have rv:=qz hi;have lenV:=hi.length
 have core:∀ H:Hp,sD H->SqL K H a (ns.map V.int)->HOk P w H s₁.heap->(∀ b,H b≠none->b=a)->(H a≠none->K.lookup a=none) ->
   codeAny (model P w) callerA (.call (.ref fa) ⟨[.ref a],[]⟩) (fun r s'=>r=.ok (.ret (.bool true))/\OldK s₁.heap s'.heap/\s'.os=s₁.os/\AllBare s'.gens) s₁:=by
  intro H hO hS hok hA hK;have base_of:∀ {b:Addr} {o:Obj},s₁.heap.get? b=some o->H b=none->(jN s₁.heap H).get? b=some o:=fun e n=>As e n
  have noA:∀ {b:Addr} {o:Obj} {es:Array DictEntry} {ep:Nat},s₁.heap.get? b=some o->o.data=.dict es ep->H b=none:=fun {b o es ep} e d=>by
   cases q:H b with
   | none=>rfl
   |some u=>
    have e':b=a:=hA b (by rw[q];simp);subst e';rw[ha]at e;cases e;have d':Data.seq vs.toArray _=Data.dict es ep:=d;cases d'
  have nsK:∀ {b:Addr} {m:Str->Option Value},s₁.heap.Ns b m->(jN s₁.heap H).Ns b m:=fun {b m} ⟨o,es,ep,e,d,r⟩=>#[o,es,ep,base_of e (noA e d),d,r]
  have hKb:K.In (jN s₁.heap H):=fun b o e=>base_of (KX b o e) (by
   cases q:H b with
   | none=>rfl
   |some u=>
    have e':b=a:=hA b (by rw[q];simp);subst e'
    rw[hK (by rw[q];simp)]at e;cases e)
  have hM:Mod K mg (jN s₁.heap H):=⟨hKb,nsK hns,⟨mb,nsK hb,hbb⟩,let ⟨mc,h1,h2⟩:=hlim;⟨mc,nsK h1,h2⟩⟩
  have e0:rM P w K mg (jN s₁.heap H) callerA [] s₁ H:=#[rfl,hM,fun b o e=>Dm e,Nat.le_of_eq (yy _ _),trivial,fun b hb=>absurd (show b∈([]:List Addr)from hb) (by simp),hok,.of_eq hg]
  refine codeAny_mono ((F _ hKb (nsK hns)).run callerA [] s₁ H ⟨[.ref a],[]⟩ [.ref a] [.ref a] _ _ hr e0 (hbind s₁ (.ref a)) (.cons rfl .nil) (hsp H hO hS)) fun r s' h=>?_
  cases r with
  | error e=>exact(hCX H e s' h).elim
  |ok fl=>
   cases fl with
   | next=>exact False.elim h
   | brk=>exact False.elim h
   | cont=>exact False.elim h
   |ret u=>
    obtain⟨v,H',os,bare,un,hok',r',q⟩:=h;have q':v=.bl true:=q;subst q';obtain rfl:u=Value.bool true:=r';refine#[rfl,OldK.of_keep fun b o e=>?_,os,bare]
    cases q:H b with
    | none=>exact un.keep b o e q (by intro z;exact absurd (show b∈([]:List Addr)from z) (by simp)) (by simp)
    |some u=>
     rcases hO b with z | ⟨ob,xs,z⟩
     ·rw[q]at z;cases z
     ·have z2:=un.da b ob _ z;obtain⟨e1,_⟩:=hok b _ z;obtain⟨e2,_⟩:=hok' b _ z2;rw[e]at e1;cases e1;exact e2
 cases hk:K.lookup a with
 |some o=>
  have e:=KX a o hk;rw[ha]at e;cases e;refine core (fun _=>none) (fun _=>.inl rfl) (.inr #[_,vs.toArray,_,hk,rfl,rfl,rfl,by rw[List.size_toArray,lenV];exact hl,by simpa using rv]) (fun b u z=>by have z':(none:Option HO)=some u:=z;cases z') (fun b z=>absurd rfl z) fun z=>absurd rfl z
 |none=>
  refine core (fun b=>if b=a then some (.frz { cls:=.type "list",data:=.seq vs.toArray } (.lst (ns.map V.int)))else none) (fun b=>?_) (.inl (.inr #[{ cls:=.type "list",data:=.seq vs.toArray },if_pos rfl])) (fun b u z=>?_) (fun b z=>?_) fun _=>hk
  ·by_cases hb:b=a
   ·exact .inr #[_,_,if_pos hb]
   ·exact .inl (if_neg hb)
  ·by_cases hb:b=a
   ·have z':=(if_pos hb).symm.trans z;cases z';subst hb;exact#[ha,by rw[List.length_map];exact hl,vs,_,rv,ha]
   ·have z':=(if_neg hb).symm.trans z;cases z'
  ·by_cases hb:b=a
   ·exact hb
   ·exact absurd (if_neg hb) z
@[reducible]noncomputable def KOf{K:W.Frag}{h:Heap}(_:K.In h):W.Frag:=K
def uZ{l:W.OpenLaw}{n k:Nat}{q:Program}{loose:List Str}{XP:(Str->Option Value)->Heap->Prop}{YP:World->Heap->Prop}{d:DefRec}{K:Params->W.Frag}{CX:World->CXT}{sp:World->Sp}{x:Str}
 (hn:l.most=some n)(hn2:n<=sizeLine)(hdf:d.params.defaults=[])(hr:cJ k callerA)
 (hY:∀ (w:World) (h:Heap),YP w h->(K w.params).In h)
 (F:∀ (w:World) (mg:Str->Option Value) (fa:Addr) (h:Heap),(K w.params).In h->h.Ns mainGlobals mg->mg d.name=some (.ref fa) ->
   ∃ fd:FuncData,(∀ (s:Shared) (u:Value),BindsTo s fd ⟨[u],[]⟩ [(x,u)]) /\
    ∀ base:Heap,(K w.params).In base->base.Ns mainGlobals mg->eJ l.prog w (K w.params) mg base (CX w) k fa fd [x] (sp w))
 (hsp:∀ (w:World) (H:Hp) (a:Addr) (ns:List Int),ns.length<=n->sD H->SqL (K w.params) H a (ns.map V.int)->sp w [.ref a] H (fun v _=>v=.bl true) fun _ _ _=>False)
 (hCX:∀ (w:World) (H:Hp) (s:Shared) (e:Value) (s':Shared),CX w [] H s (fun _ _ _=>False) e s'->False) :
  W.WalkO q loose XP YP l.row.toRowW d [] (fun f vs=>PySem.call f vs):=by
 refine Att.uI hn hdf fun w s₀ s₁ mg mb fa o pm cd doc a vs ns G QO ho hd hcd hmg hobj hints hlen hg=>?_;have KX:=hY w _ QO;obtain⟨fd,hb,hF⟩:=F w mg fa _ KX G.T.g hmg;exact AD KX G.T.g G.T.b G.T.builtins G.T.nolimit hg hobj hints (Qr hlen hn2) hr hF hb (fun H hO hS=>hsp w H a ns hlen hO hS) fun H e s'=>hCX w H s₁ e s'
def AK{l:W.OpenLaw}{n k:Nat}{q:Program}{loose:List Str}{XP:(Str->Option Value)->Heap->Prop}{YP:World->Heap->Prop}{d:DefRec}{K:Params->W.Frag}{CX:CXT}{sp:W.Frag->Sp}{x:Str}
 (hn:l.most=some n)(hn2:n<=sizeLine)(hdf:d.params.defaults=[])(hr:cJ k callerA)
 (hY:∀ (w:World) (h:Heap),YP w h->(K w.params).In h)
 (F:∀ (w:World) (mg:Str->Option Value) (fa:Addr) (h:Heap),(K w.params).In h->h.Ns mainGlobals mg->mg d.name=some (.ref fa) ->
   ∃ fd:FuncData,(∀ (s:Shared) (u:Value),BindsTo s fd ⟨[u],[]⟩ [(x,u)]) /\
    ∀ base:Heap,(K w.params).In base->base.Ns mainGlobals mg->eJ l.prog w (K w.params) mg base CX k fa fd [x] (sp (K w.params)))
 (hsp:∀ (K:W.Frag) (H:Hp) (a:Addr) (ns:List Int),ns.length<=n->sD H->SqL K H a (ns.map V.int)->sp K [.ref a] H (fun v _=>v=.bl true) fun _ _ _=>False)
 (hCX:∀ (H:Hp) (s:Shared) (e:Value) (s':Shared),CX [] H s (fun _ _ _=>False) e s'->False) :
  W.WalkO q loose XP YP l.row.toRowW d [] (fun f vs=>PySem.call f vs) :=
 uZ (K:=K) (CX:=fun _=>CX) (sp:=fun w=>sp (K w.params)) hn hn2 hdf hr hY F (fun w H a ns h1 h2 h3=>hsp (K w.params) H a ns h1 h2 h3) fun _ H s e s'=>hCX H s e s'
abbrev hJ(s:Stmt):Arguments:=match s with
 | .FunctionDef _ a _ _ _ _ _ _ _ _=>a
 | _=>{ posonlyargs:=[],args:=[],vararg:=none,kwonlyargs:=[],kw_defaults:=[],kwarg:=none,defaults:=[] }
abbrev cB(s:Stmt):List Stmt:=match s with
 | .FunctionDef _ _ b _ _ _ _ _ _ _=>b
 | _=>[]
abbrev aP(s:Stmt):Scope:=match s with
 | .FunctionDef _ _ _ _ _ _ sc _ _ _=>sc
 | _=>{ kind:=.function,names:=[],isGenerator:=false,isCoroutine:=false }
@[reducible]noncomputable def CX0:CXT:=fun _ _ _ _ _ _=>False
@[reducible]noncomputable def E0:XK:=fun _ _ _=>False
def Cj:Passes CX0 X E0:=fun _ _ _ _ _ _ _ h=>h.elim
structure Fun(K:W.Frag)(x qual:Str)(st:Stmt)(f:Addr)(fd:FuncData):Prop where
 ex:∃ (oc:Value) (od:Option Addr) (kV doc pm:Value) (an:Option Addr) (cdv ct:Value) (osl:Array (Option Value)),
  fd=W.fnOf x qual (hJ st) (cB st) (aP st) .none kV doc pm an cdv ct/\K.lookup f=some ⟨oc,od,.func fd,osl⟩/\W.codeIn K cdv qual=true
 kp:W.keepIn K (.ref f)=true
section
variable{P:Program}{w:World}{K:W.Frag}{mg:Str->Option Value}{base:Heap}
def Fun.ok{x qual:Str}{st:Stmt}{f:Addr}{fd:FuncData}{N ps:List Str}{k:Nat}{sp:Sp}(F:Fun K x qual st f fd)(S:fO N ps (aP st))(len:∀ vs H Q E,sp vs H Q E->vs.length=ps.length)
 (hbody:∀ (cdv:Value) (A:Around) (outer:List Env) (s:Shared) (H:Hp) (vs:List V) (Q:VK) (E:XK),cJ k (A.deeper (envOfC qual (aP st) s.heap.objs.size f cdv))->sp vs H Q E ->
   ∃ t,PSs (iJ CX0 P w K mg base N qual (aP st) f cdv A outer s H E).nox (cB st) t/\t { nx:=fun _ H'=>Q .non H',rt:=Q } (start N vs) H):eJ P w K mg base CX0 (k+1) f fd ps sp:=by
 obtain⟨oc,od,kV,doc,pm,an,cdv,ct,osl,rfl,lk,hcd⟩:=F.ex;refine BO lk hcd S len fun A outer s H vs Q E hr hsp=>?_;obtain⟨t,h,q⟩:=hbody cdv A outer s H vs Q E hr hsp;exact#[t,h.nox,q]
def Fun.binds{x qual:Str}{st:Stmt}{f:Addr}{fd:FuncData}{ps:List Str}(F:Fun K x qual st f fd)
 (h:∀ (kV doc pm:Value) (an:Option Addr) (cdv ct:Value) (us:List Value),us.length=ps.length->bindArgs (W.fnOf x qual (hJ st) (cB st) (aP st) .none kV doc pm an cdv ct) ⟨us,[]⟩=pure (ps.zip us)):Binds K fd ps []:=by
 obtain⟨oc,od,kV,doc,pm,an,cdv,ct,osl,rfl,lk,hcd⟩:=F.ex;exact .all (h kV doc pm an cdv ct)
def zl{x qual:Str}{st:Stmt}{f:Addr}{oc:Value}{od an:Option Addr}{osl:Array (Option Value)}{kV doc pm cdv ct:Value}(l:K.lookup f=some ⟨oc,od,.func (W.fnOf x qual (hJ st) (cB st) (aP st) .none kV doc pm an cdv ct),osl⟩)
 (c:W.codeIn K cdv qual=true)(k:W.keepIn K (.ref f)=true):Fun K x qual st f (W.fnOf x qual (hJ st) (cB st) (aP st) .none kV doc pm an cdv ct):=#[#[oc,od,kV,doc,pm,an,cdv,ct,osl,rfl,l,c],k]
end
def qH(h:n<=1000):n<sizeLine:=Nat.lt_of_le_of_lt h ∅
section
variable{X:Cx}
end
def fX{A B:Prop}(h:B):if false=true then A else B:=by
 rw[if_neg Qi];exact h
def fI{A B:Prop}(h:A):if true=true then A else B:=by
 rw[if_pos rfl];exact h
abbrev aw(H H':Hp):Prop:=∀ b o,H b=some o->H' b=some o
def aw.refl(H:Hp):aw H H:=fun _ _ h=>h
def aw.trans(a:aw H H1)(b:aw H1 H2):aw H H2:=fun c o h=>b c o (a c o h)
def aw.free(e:aw H H')(h:H' l=Option.none):H l=Option.none:=by
 cases q:H l with
 | none=>rfl
 |some o=>
  rw[e l o q]at h;cases h
section
variable{X:Cx}
def ze:bK X (.builtin "len") (fun xs H Q=>∃ a kvs,xs=[V.ref a]/\H a=some (.dK kvs)/\Q (.int kvs.length) H):=by
 by_in;obtain⟨a,kvs,rfl,ha,q⟩:=h;obtain⟨u,rfl,ru⟩:=vals1 r;cases ru
 exact Iy I (.inl ha) fun t s' I'=>#[.int kvs.length,H,I',#[t,rfl],q]
end
section
variable{κ:Type} [DecidableEq κ]
end
end L2
namespace RS
open PySem PySem.Spec PyProof.Rows L2
@[reducible]def VE:List Value:=[.type "ValueError",.type "Exception",.type "BaseException",.type "object"]
abbrev d8:List Str:=["RibbonError", "BadPegs", "BadFrame", "BadHalf", "BadHook", "BadName", "NoNumber", "NoFrame", "NoStack", "NoPlace", "Taken", "Full", "NothingThere", "BadTrade", "Hangs", "BadPage"]
abbrev t7(f:Option PySem.Builtin.ObjectAttr.Found):Bool:=match f with
 | some (.bind (.builtin a) (.builtin b))=>a == "getset_descriptor.__get__" && b == "object.__class__"
 | _=>false
abbrev iM(K:W.Frag)(x:Str)(C:Addr):Bool :=
 W.excIn K C VE "ValueError.__new__" && W.findIn K (.ref C) "__getattribute__" == some (some (.builtin "BaseException.__getattribute__"))&&W.findIn K (.ref C) "__getattr__" == some none&&t7 (W.findObj K C none "__class__") &&
 W.mroIn K C (.type "object") == some true&&W.subIn K (.ref C) (.type "BaseException") == some true&&(W.clsIn K C).isSome&&W.kitOne K (.ref C) (.type "ValueError") == some true &&
 d8.all fun c=>match W.nsIn K mainGlobals c with
  | some (some (.ref D))=>W.kitOne K (.ref C) (.ref D) == some (RL.c7 x c)&&W.subIn K (.ref C) (.ref D) == some (RL.c7 x c)
  | _=>true
structure Cls(K:W.Frag)(x:Str)(C:Addr):Prop where
 ns:W.nsIn K mainGlobals x=some (some (.ref C))
 ok:iM K x C=true
section
variable{K:W.Frag}
def Cls.exc(h:Cls K x C):W.excIn K C VE "ValueError.__new__" = true:=by
 have:=h.ok;simp only[iM,Bool.and_eq_true]at this;exact this.1.1.1.1.1.1.1.1
def Cls.ref(h:Cls K x C)(hc:c∈d8)(hD:W.nsIn K mainGlobals c=some (some (.ref D))):W.kitOne K (.ref C) (.ref D)=some (RL.c7 x c)/\W.subIn K (.ref C) (.ref D)=some (RL.c7 x c):=by
 have:=h.ok;simp only[iM,Bool.and_eq_true]at this;have q:=Qu.mp this.2 c hc;rw[hD]at q;simp only[Bool.and_eq_true,beq_iff_eq]at q;exact q
def Cls.val(h:Cls K x C):W.kitOne K (.ref C) (.type "ValueError")=some true:=by
 have:=h.ok;simp only[iM,Bool.and_eq_true,beq_iff_eq]at this;exact this.1.2
end
structure bS(K:W.Frag)(x:Str)(C:Addr)(c:Str):Prop where
 ex:∃ D b,W.nsIn K mainGlobals c=some (some (.ref D))/\W.kitOne K (.ref C) (.ref D)=some b/\W.subIn K (.ref C) (.ref D)=some b/\RL.c7 x c=b
def Hd{K:W.Frag}(n:W.nsIn K mainGlobals c=some (some (.ref D)))(k:W.kitOne K (.ref C) (.ref D)=some b)(s:W.subIn K (.ref C) (.ref D)=some b)(e:RL.c7 x c=b):bS K x C c:=#[D,b,n,k,s,e]
structure GK(K:W.Frag)(x:Str)(C:Addr):Prop where
 a1:W.excIn K C VE "ValueError.__new__" = true
 a2:W.findIn K (.ref C) "__getattribute__" = some (some (.builtin "BaseException.__getattribute__"))
 a3:W.findIn K (.ref C) "__getattr__" = some none
 a4:W.findIn K (.ref C) "__class__" = some (some (.builtin "object.__class__"))
 a5:W.specialIn K (.builtin "object.__class__") "__get__" = some (some (.builtin "getset_descriptor.__get__"))
 a6:W.takesIn K (.builtin "object.__class__")=some true
 a7:W.mroIn K C (.type "object")=some true
 a8:W.subIn K (.ref C) (.type "BaseException")=some true
 a9:W.kitOne K (.ref C) (.type "ValueError")=some true
 b1:bS K x C "RibbonError"
 b2:bS K x C "BadPegs"
 b3:bS K x C "BadFrame"
 b4:bS K x C "BadHalf"
 b5:bS K x C "BadHook"
 b6:bS K x C "BadName"
 b7:bS K x C "NoNumber"
 b8:bS K x C "NoFrame"
 b9:bS K x C "NoStack"
 b10:bS K x C "NoPlace"
 b11:bS K x C "Taken"
 b12:bS K x C "Full"
 b13:bS K x C "NothingThere"
 b14:bS K x C "BadTrade"
 b15:bS K x C "Hangs"
 b16:bS K x C "BadPage"
def F4{K:W.Frag}(h:GK K x C):iM K x C=true:=by
 obtain⟨cd,ec,_⟩:=Option.bind_eq_some_iff.mp h.a7
 have fo:t7 (W.findObj K C none "__class__")=true:=by
  unfold W.findObj;rw[ec,Option.bind_some,h.a4,Option.bind_some];dsimp only;rw[h.a5,Option.bind_some];dsimp only;rw[h.a6,Option.bind_some];rfl
 have one:∀ {c:Str},bS K x C c->(match W.nsIn K mainGlobals c with
  | some (some (.ref D))=>W.kitOne K (.ref C) (.ref D) == some (RL.c7 x c)&&W.subIn K (.ref C) (.ref D) == some (RL.c7 x c)
  | _=>true)=true:=fun⟨D,b,e1,e2,e3,e4⟩=>by
  rw[e1];dsimp only;rw[e2,e3,e4,beq_self_eq_true];rfl
 unfold iM;rw[h.a1,h.a2,h.a3,fo,h.a7,h.a8,ec,h.a9];simp only[beq_self_eq_true,Option.isSome_some,Bool.and_self,Bool.true_and];rw[Qu];intro c hc;simp only[d8,List.mem_cons,List.mem_nil_iff,or_false]at hc;rcases hc with rfl | rfl | rfl | rfl | rfl | rfl | rfl | rfl | rfl | rfl | rfl | rfl | rfl | rfl | rfl | rfl
 ·exact one h.b1
 ·exact one h.b2
 ·exact one h.b3
 ·exact one h.b4
 ·exact one h.b5
 ·exact one h.b6
 ·exact one h.b7
 ·exact one h.b8
 ·exact one h.b9
 ·exact one h.b10
 ·exact one h.b11
 ·exact one h.b12
 ·exact one h.b13
 ·exact one h.b14
 ·exact one h.b15
 ·exact one h.b16
abbrev nP:Addr->Prop:=fun _=>False
abbrev kO(K:W.Frag)(H:Hp)(a:Addr)(xs:List V):Prop:=(∃ o,H a=some (.frz o (.lst xs)))\/SqL K (fun _=>none) a xs
def kO.seq{K:W.Frag}(h:kO K H a xs):SqL K H a xs:=by
 rcases h with⟨o,h⟩ | (h | ⟨o,h⟩) | h
 ·exact .inl (.inr #[o,h])
 ·cases h
 ·cases h
 ·exact .inr h
def kO.same{K:W.Frag}(e:aw H H')(h:kO K H a xs):kO K H' a xs:=by
 rcases h with⟨o,h⟩ | h
 ·exact .inl #[o,e _ _ h]
 ·exact .inr h
abbrev ExV(K:W.Frag)(H:Hp)(c:Str)(v:V):Prop:=∃ a o u D vs,v=.ref a/\H a=some (.frz o u)/\(o.cls=.ref D/\o.dict=none)/\o.data=.fields vs/\vs[2]?=some .none/\Cls K c D
def ExV.keep{K:W.Frag}(h:ExV K H c v)(k:∀ b o u,H b=some (.frz o u)->H' b=some (.frz o u)):ExV K H' c v :=
 let ⟨a,o,u,D,vs,h1,h2,r⟩:=h;⟨a,o,u,D,vs,h1,k _ _ _ h2,r⟩
mutual
noncomputable def Rep(P:Addr->Prop)(K:W.Frag)(H:Hp):RL.D->V->Prop
 | .non,v=>v=.non
 | .bl b,v=>v=.bl b
 | .int i,v=>v=.int i
 | .str x,v=>v=.str x
 | .tup ds,v=>∃ a xs,v=.ref a/\H a=some (.tup xs)/\af P K H ds xs
 | .lst ds,v=>∃ a xs,v=.ref a/\¬ P a/\H a=some (.lst xs)/\af P K H ds xs
 | .dK ks ds,v=>∃ a xs,v=.ref a/\¬ P a/\H a=some (.dK (ks.zip xs))/\ks.length=ds.length/\af P K H ds xs
 | .dT ks ds,v=>∃ a xs,v=.ref a/\¬ P a/\H a=some (.dT (ks.zip xs))/\ks.length=ds.length/\af P K H ds xs
 | .scr ds,v=>∃ a xs,v=.ref a/\kO K H a xs/\af P K H ds xs
 | .exc c,v=>ExV K H c v
noncomputable def af(P:Addr->Prop)(K:W.Frag)(H:Hp):List RL.D->List V->Prop
 | [],xs=>xs=[]
 | d::r,xs=>∃ x t,xs=x::t/\Rep P K H d x/\af P K H r t
end
mutual
theorem Rep.same{P:Addr->Prop}{K:W.Frag}{H H':Hp}(e:aw H H'):∀ {d:RL.D} {v:V},Rep P K H d v->Rep P K H' d v
 | .non,v,h=>by simpa[Rep]using h
 | .bl _,v,h=>by simpa[Rep]using h
 | .int _,v,h=>by simpa[Rep]using h
 | .str _,v,h=>by simpa[Rep]using h
 | .tup ds,v,h=>by
  k_asm;obtain⟨a,xs,e1,e2,e3⟩:=h;exact#[a,xs,e1,e _ _ e2,af.same e e3]
 | .lst ds,v,h=>by
  k_asm;obtain⟨a,xs,e1,e0,e2,e3⟩:=h;exact#[a,xs,e1,e0,e _ _ e2,af.same e e3]
 | .dK ks ds,v,h=>by
  k_asm;obtain⟨a,xs,e1,e0,e2,el,e3⟩:=h;exact#[a,xs,e1,e0,e _ _ e2,el,af.same e e3]
 | .dT ks ds,v,h=>by
  k_asm;obtain⟨a,xs,e1,e0,e2,el,e3⟩:=h;exact#[a,xs,e1,e0,e _ _ e2,el,af.same e e3]
 | .scr ds,v,h=>by
  k_asm;obtain⟨a,xs,e1,e2,e3⟩:=h;exact#[a,xs,e1,kO.same e e2,af.same e e3]
 | .exc c,v,h=>by rw[Rep]at h ⊢;exact h.keep fun _ _ _ q=>e _ _ q
theorem af.same{P:Addr->Prop}{K:W.Frag}{H H':Hp}(e:aw H H'):∀ {ds:List RL.D} {xs:List V},af P K H ds xs->af P K H' ds xs
 | [],xs,h=>by rw[af]at h ⊢;exact h
 | d::r,xs,h=>by
  rw[af]at h ⊢;obtain⟨x,t,e1,e2,e3⟩:=h;exact#[x,t,e1,Rep.same e e2,af.same e e3]
end
mutual
theorem Rep.weak{P P':Addr->Prop}{K:W.Frag}{H:Hp}(e:∀ a,P' a->P a):∀ {d:RL.D} {v:V},Rep P K H d v->Rep P' K H d v
 | .non,v,h=>by simpa[Rep]using h
 | .bl _,v,h=>by simpa[Rep]using h
 | .int _,v,h=>by simpa[Rep]using h
 | .str _,v,h=>by simpa[Rep]using h
 | .tup ds,v,h=>by
  k_asm;obtain⟨a,xs,e1,e2,e3⟩:=h;exact#[a,xs,e1,e2,af.weak e e3]
 | .lst ds,v,h=>by
  k_asm;obtain⟨a,xs,e1,e0,e2,e3⟩:=h;exact#[a,xs,e1,fun z=>e0 (e a z),e2,af.weak e e3]
 | .dK ks ds,v,h=>by
  k_asm;obtain⟨a,xs,e1,e0,e2,el,e3⟩:=h;exact#[a,xs,e1,fun z=>e0 (e a z),e2,el,af.weak e e3]
 | .dT ks ds,v,h=>by
  k_asm;obtain⟨a,xs,e1,e0,e2,el,e3⟩:=h;exact#[a,xs,e1,fun z=>e0 (e a z),e2,el,af.weak e e3]
 | .scr ds,v,h=>by
  k_asm;obtain⟨a,xs,e1,e2,e3⟩:=h;exact#[a,xs,e1,e2,af.weak e e3]
 | .exc c,v,h=>by rw[Rep]at h ⊢;exact h
theorem af.weak{P P':Addr->Prop}{K:W.Frag}{H:Hp}(e:∀ a,P' a->P a):∀ {ds:List RL.D} {xs:List V},af P K H ds xs->af P' K H ds xs
 | [],xs,h=>by rw[af]at h ⊢;exact h
 | d::r,xs,h=>by
  rw[af]at h ⊢;obtain⟨x,t,e1,e2,e3⟩:=h;exact#[x,t,e1,Rep.weak e e2,af.weak e e3]
end
def Rep.none{P:Addr->Prop}{K:W.Frag}(h:Rep P K H d v):Rep nP K H d v:=h.weak fun _ z=>z.elim
mutual
theorem Rep.imm{P P':Addr->Prop}{K:W.Frag}{H:Hp}:∀ {d:RL.D} {v:V},d.imm=true->Rep P K H d v->Rep P' K H d v
 | .non,v,_,h=>by simpa[Rep]using h
 | .bl _,v,_,h=>by simpa[Rep]using h
 | .int _,v,_,h=>by simpa[Rep]using h
 | .str _,v,_,h=>by simpa[Rep]using h
 | .tup ds,v,i,h=>by
  k_asm;rw[RL.D.imm]at i;obtain⟨a,xs,e1,e2,e3⟩:=h;exact#[a,xs,e1,e2,af.imm i e3]
 | .lst ds,v,i,h=>by rw[RL.D.imm]at i;cases i
 | .dK ks ds,v,i,h=>by rw[RL.D.imm]at i;cases i
 | .dT ks ds,v,i,h=>by rw[RL.D.imm]at i;cases i
 | .scr ds,v,i,h=>by
  k_asm;rw[RL.D.imm]at i;obtain⟨a,xs,e1,e2,e3⟩:=h;exact#[a,xs,e1,e2,af.imm i e3]
 | .exc c,v,i,h=>by rw[Rep]at h ⊢;exact h
theorem af.imm{P P':Addr->Prop}{K:W.Frag}{H:Hp}:∀ {ds:List RL.D} {xs:List V},RL.au ds=true->af P K H ds xs->af P' K H ds xs
 | [],xs,_,h=>by rw[af]at h ⊢;exact h
 | d::r,xs,i,h=>by
  rw[af]at h ⊢;rw[RL.au,Bool.and_eq_true]at i;obtain⟨x,t,e1,e2,e3⟩:=h;exact#[x,t,e1,Rep.imm i.1 e2,af.imm i.2 e3]
end
abbrev cX(o:HO):Prop:=(∃ xs,o=.lst xs)\/(∃ kvs,o=.dK kvs)\/(∃ kvs,o=.dT kvs)
mutual
theorem Rep.upd{P:Addr->Prop}{K:W.Frag}{H:Hp}{a:Addr}{o o':HO}(ha:H a=some o)(m:cX o)(p:P a):∀ {d:RL.D} {v:V},Rep P K H d v->Rep P K (upd H a o') d v
 | .non,v,h=>by simpa[Rep]using h
 | .bl _,v,h=>by simpa[Rep]using h
 | .int _,v,h=>by simpa[Rep]using h
 | .str _,v,h=>by simpa[Rep]using h
 | .tup ds,v,h=>by
  k_asm;obtain⟨b,xs,e1,e2,e3⟩:=h;have n:b≠a:=r9 e2 ha (by rcases m with⟨z,rfl⟩ | ⟨z,rfl⟩ | ⟨z,rfl⟩<;>(intro q;cases q));exact#[b,xs,e1,by rw[L2.aO n];exact e2,af.upd ha m p e3]
 | .lst ds,v,h=>by
  k_asm;obtain⟨b,xs,e1,e0,e2,e3⟩:=h;have n:b≠a:=fun z=>e0 (z▸p);exact#[b,xs,e1,e0,by rw[L2.aO n];exact e2,af.upd ha m p e3]
 | .dK ks ds,v,h=>by
  k_asm;obtain⟨b,xs,e1,e0,e2,el,e3⟩:=h;have n:b≠a:=fun z=>e0 (z▸p);exact#[b,xs,e1,e0,by rw[L2.aO n];exact e2,el,af.upd ha m p e3]
 | .dT ks ds,v,h=>by
  k_asm;obtain⟨b,xs,e1,e0,e2,el,e3⟩:=h;have n:b≠a:=fun z=>e0 (z▸p);exact#[b,xs,e1,e0,by rw[L2.aO n];exact e2,el,af.upd ha m p e3]
 | .scr ds,v,h=>by
  k_asm;obtain⟨b,xs,e1,e2,e3⟩:=h;refine#[b,xs,e1,?_,af.upd ha m p e3];rcases e2 with⟨q,e2⟩ | e2
  ·have n:b≠a:=r9 e2 ha (by rcases m with⟨z,rfl⟩ | ⟨z,rfl⟩ | ⟨z,rfl⟩<;>(intro q;cases q));exact .inl #[q,by rw[L2.aO n];exact e2]
  ·exact .inr e2
 | .exc c,v,h=>by
  k_asm;refine h.keep fun b ob u q=>?_;have n:b≠a:=r9 q ha (by rcases m with⟨z,rfl⟩ | ⟨z,rfl⟩ | ⟨z,rfl⟩<;>(intro q;cases q));rw[L2.aO n];exact q
theorem af.upd{P:Addr->Prop}{K:W.Frag}{H:Hp}{a:Addr}{o o':HO}(ha:H a=some o)(m:cX o)(p:P a):∀ {ds:List RL.D} {xs:List V},af P K H ds xs->af P K (upd H a o') ds xs
 | [],xs,h=>by rw[af]at h ⊢;exact h
 | d::r,xs,h=>by
  rw[af]at h ⊢;obtain⟨x,t,e1,e2,e3⟩:=h;exact#[x,t,e1,Rep.upd ha m p e2,af.upd ha m p e3]
end
section lists
variable{K:W.Frag}
def af.nil:af P K H [] []:=by rw[af]
def af.cons{d:RL.D}{ds:List RL.D}{x:V}{xs:List V}(h:Rep P K H d x)(t:af P K H ds xs):af P K H (d::ds) (x::xs):=by rw[af];exact#[x,xs,rfl,h,t]
def af.length:∀ {ds:List RL.D} {xs:List V},af P K H ds xs->ds.length=xs.length
 | [],xs,h=>by rw[af]at h;rw[h];rfl
 | d::r,xs,h=>by
  rw[af]at h;obtain⟨x,t,rfl,_,e3⟩:=h;rw[List.length_cons,List.length_cons,af.length e3]
def af.append:∀ {ds es:List RL.D} {xs ys:List V},af P K H ds xs->af P K H es ys->af P K H (ds++es) (xs++ys)
 | [],_,xs,_,h,k=>by rw[af]at h;rw[h];exact k
 | d::r,_,xs,_,h,k=>by
  rw[af]at h;obtain⟨x,t,rfl,e2,e3⟩:=h;exact af.cons e2 (af.append e3 k)
def af.get:∀ {ds:List RL.D} {xs:List V} {i:Nat} {d:RL.D},af P K H ds xs->ds[i]?=some d->∃ x,xs[i]?=some x/\Rep P K H d x
 | [],_,i,d,_,e=>by simp at e
 | d::r,xs,0,d',h,e=>by
  rw[af]at h;obtain⟨x,t,rfl,e2,_⟩:=h;simp at e;subst e;exact#[x,rfl,e2]
 | d::r,xs,i+1,d',h,e=>by
  rw[af]at h;obtain⟨x,t,rfl,_,e3⟩:=h;obtain⟨y,h1,h2⟩:=af.get (i:=i) e3 (by simpa using e);exact#[y,by simpa using h1,h2]
def af.set:∀ {ds:List RL.D} {xs:List V} (i:Nat) {d:RL.D} {x:V},af P K H ds xs->Rep P K H d x->af P K H (ds.set i d) (xs.set i x)
 | [],xs,_,_,_,h,_=>by rw[af]at h;rw[h];exact af.nil
 | d::r,xs,0,_,_,h,k=>by
  rw[af]at h;obtain⟨x,t,rfl,_,e3⟩:=h;exact af.cons k e3
 | d::r,xs,i+1,_,_,h,k=>by
  rw[af]at h;obtain⟨x,t,rfl,e2,e3⟩:=h;exact af.cons e2 (af.set i e3 k)
def af.take:∀ {ds:List RL.D} {xs:List V} (n:Nat),af P K H ds xs->af P K H (ds.take n) (xs.take n)
 | _,_,0,_=>by simpa using af.nil
 | [],xs,n+1,h=>by rw[af]at h;rw[h];simpa using af.nil
 | d::r,xs,n+1,h=>by
  rw[af]at h;obtain⟨x,t,rfl,e2,e3⟩:=h;exact af.cons e2 (af.take n e3)
def af.drop:∀ {ds:List RL.D} {xs:List V} (n:Nat),af P K H ds xs->af P K H (ds.drop n) (xs.drop n)
 | _,_,0,h=>h
 | [],xs,n+1,h=>by rw[af]at h;rw[h];simpa using af.nil
 | d::r,xs,n+1,h=>by
  rw[af]at h;obtain⟨x,t,rfl,_,e3⟩:=h;exact af.drop n e3
def af.rev(h:af P K H ds xs):af P K H ds.reverse xs.reverse:=by
 induction ds generalizing xs with
 | nil=>rw[af]at h;rw[h];exact af.nil
 |cons d r ih=>
  rw[af]at h;obtain⟨x,t,rfl,e2,e3⟩:=h;rw[List.reverse_cons,List.reverse_cons];exact af.append (ih e3) (af.cons e2 af.nil)
def af.rep(h:af P K H ds xs):∀ n:Nat,af P K H (List.replicate n ds).flatten (List.replicate n xs).flatten
 | 0=>af.nil
 | n+1=>by
  rw[QG,QG,QN,QN];exact af.append h (af.rep h n)
end lists
abbrev RV0(K:W.Frag)(QP:RL.St)(Y:L2.St)(H:Hp):Prop:=QP.length<=Y.length/\∀ (i:Nat) (d:RL.D),QP[i]?=some (some d)->∃ v,Y[i]?=some (some v)/\Rep nP K H d v
def RV0.same{K:W.Frag}(h:RV0 K QP Y H)(e:aw H H'):RV0 K QP Y H':=⟨h.1,fun i d q=>by
 obtain⟨v,h1,h2⟩:=h.2 i d q
 exact#[v,h1,h2.same e]⟩
abbrev m6:RL.D->Bool
 | .lst _=>true
 | .dK _ _=>true
 | .dT _ _=>true
 | _=>false
structure Res(K:W.Frag)(QP:RL.St)(Y:L2.St)(H:Hp)(e:RL.E)(d:RL.D)(v:V)(H':Hp):Prop where
 same:aw H H'
 rep:Rep nP K H' d v
 fresh:RL.aM e=true->m6 d=true->∀ a,v=.ref a->H a=none
 av:∀ M,RL.avE M e=true->∀ P:Addr->Prop,(∀ a,P a->H a≠none)->(∀ (j:Nat) (dj:RL.D) (vj:V),M.contains j=false->QP[j]?=some (some dj)->Y[j]?=some (some vj)->Rep P K H dj vj)->Rep P K H' d v
abbrev tE(K:W.Frag)(cl:RL.Cl)(e:RL.E):TE:=fun Y H Q=>∃ QP d,RV0 K QP Y H/\RL.ev cl QP e=some d/\∀ v H',Res K QP Y H e d v H'->Q v H'
abbrev SE(X:Cx)(cl:RL.Cl)(e:Expr)(e':RL.E):Prop:=PE X e (tE X.K cl e')
def PE.weak(h:PE X e t)(w:∀ Y H Q,t' Y H Q->t Y H Q):PE X e t':=fun pins s Y H Q I q=>h pins s Y H Q I (w Y H Q q)
abbrev tEs(K:W.Frag)(cl:RL.Cl)(es:RL.Es):TA:=fun Y H Q=>∃ QP ds,RV0 K QP Y H/\RL.evs cl QP es=some ds/\∀ vs H',aw H H'->af nP K H' ds vs->Q vs H'
abbrev SEs(X:Cx)(cl:RL.Cl)(es:List Expr)(es':RL.Es):Prop:=PA X es (tEs X.K cl es')
section rules
variable{X:Cx}
def two{QP:RL.St}{Y:L2.St}{H:Hp}{x y:RL.D}{R:V->V->Hp->Prop}(rv:RV0 X.K QP Y H)(ea:RL.ev cl QP a'=some x)(eb:RL.ev cl QP b'=some y)
 (k:∀ v u H1 H2,aw H H1->aw H1 H2->Rep nP X.K H2 x v->Rep nP X.K H2 y u->Res X.K QP Y H a' x v H1->Res X.K QP Y H1 b' y u H2->R v u H2) :
  tE X.K cl a' Y H fun v H1=>tE X.K cl b' Y H1 fun u H2=>R v u H2 :=
 ⟨QP,x,rv,ea,fun v H1 r1=>#[QP,y,rv.same r1.same,eb,fun u H2 r2=>k v u H1 H2 r1.same r2.same (r1.rep.same r2.same) r2.rep r1 r2]⟩
def bind_some(h:o.bind f=some y):∃ x,o=some x/\f x=some y:=by
 cases o with
 | none=>cases h
 | some x=>exact#[x,rfl,h]
def map_some(h:o.map f=some y):∃ x,o=some x/\f x=y:=by
 cases o with
 | none=>cases h
 | some x=>exact#[x,rfl,Option.some.inj h]
def cA:RL.most<=sizeLine:=by decide
def aw.bV(hn:H p=none):aw H (upd H p o):=fun b u e=>by rw[aO (aR e hn)];exact e
def HK(hN:X.N[i]?=some x)(hv:Vis X.env.scope x)(hd:(x == ("__debug__" : Str))=false)(hcd:(x == ("__classdict__" : Str))=false):SE X cl (.Name x pos) (.var i):=by
 refine PE.weak (i5 hN hv hd hcd) fun Y H Q h=>?_;kd_p
 have e':QP[i]?=some (some d):=by
  obtain⟨o,h1,h2⟩:=bind_some e
  cases o with
  | none=>cases h2
  | some z=>cases h2;exact h1
 obtain⟨v,h1,h2⟩:=rv.2 i d e';refine⟨v,h1,k v H ⟨aw.refl H,h2,fun z=>(by cases z),fun M z P hP av=>?_⟩⟩;rw[RL.wa]at z;exact av i d v (by simpa using z) e' h1
def oh(h:PE X (.Constant k j pos) (tC v))(r:∀ P H,Rep P X.K H d v)(hm:m6 d=false):SE X cl (.Constant k j pos) (.cst d):=by
 refine PE.weak h fun Y H Q q=>?_;obtain⟨QP,d',rv,e,k⟩:=q;cases e;exact k v H ⟨aw.refl H,r _ _,fun z=>(by cases z),fun M z=>nomatch (show false=true from z)⟩
def EF{x:Str}{i:Int}{u:Value}(h:PE X (.Name x pos) (tC (.int i))):SE X cl (.Name x pos) (.glb x i):=by
 refine PE.weak h fun Y H Q q=>?_;obtain⟨QP,d',rv,e,k⟩:=q;cases e;exact k _ H ⟨aw.refl H,(by rw[Rep]),fun z=>(by cases z),fun M z=>nomatch (show false=true from z)⟩
end rules
section rules
variable{X:Cx}
def dh(sm:aw H H')(r:Rep nP X.K H' d v)(im:d.imm=true):Res X.K QP Y H e d v H' where
 same:=sm
 rep:=r
 fresh:=fun _ m=>by
  cases d with
  | lst _=>cases im
  | dK _ _=>cases im
  | dT _ _=>cases im
  | _=>cases m
 av:=fun M _ P _ _=>r.imm im
def Ad:OpR X (binaryOp .FloorDiv) (rI (fun _ j=>0<j/\j<2 ^ 200) fun i j=>.int (i / j)):=opI fun i j _ _ _ _ _ hc q=>by
 refine floordiv_int ⋯ ?_ (.inl (PyProof.noPylong_of_log2 ?_))
 ·rw[Int.fdiv_eq_ediv_of_nonneg _ ⋯];exact q
 ·have h0:j.natAbs≠0:=by lia
  have h1:j.natAbs<2 ^ 200:=by
   have:=hc.2;omega
  have h2:j.natAbs.log2<200:=(Nat.log2_lt h0).mpr h1;lia
def et(sm:aw H H1)(hn:H1 p=none)(r:af nP X.K H1 ds xs)(hav:∀ M,RL.avE M e=false):Res X.K QP Y H e (.lst ds) (.ref p) (upd H1 p (.lst xs)) where
 same:=sm.trans (aw.bV hn)
 rep:=by
  rw[Rep];exact#[p,xs,rfl,fun z=>z,aT,r.same (aw.bV hn)]
 fresh:=fun _ _ a z=>by
  cases z;exact sm.free hn
 av:=fun M z=>by rw[hav M]at z;cases z
def gf(sm:aw H H1)(hn:H1 p=none)(r:af nP X.K H1 ds xs)(hav:∀ M,RL.avE M e=false):Res X.K QP Y H e (.tup ds) (.ref p) (upd H1 p (.tup xs)) where
 same:=sm.trans (aw.bV hn)
 rep:=by
  rw[Rep];exact#[p,xs,rfl,aT,r.same (aw.bV hn)]
 fresh:=fun _ m=>by cases m
 av:=fun M z=>by rw[hav M]at z;cases z
abbrev tw:RL.Bop->Operator
 | .add=>.Add
 | .sub=>.Sub
 | .mul=>.Mult
 | .fdiv=>.FloorDiv
 | .mod=>.Mod
 | .pow=>.Pow
def bh{P:Addr->Prop}{K:W.Frag}:Rep P K H (.int i) (.int i):=by rw[Rep]
def rK{P:Addr->Prop}{K:W.Frag}:Rep P K H (.bl i) (.bl i):=by rw[Rep]
def hU{P:Addr->Prop}{K:W.Frag}:Rep P K H (.str i) (.str i):=by rw[Rep]
def ah{P:Addr->Prop}{K:W.Frag}(h:Rep P K H (.int i) v):v=.int i:=by rw[Rep]at h;exact h
def bb{P:Addr->Prop}{K:W.Frag}(h:Rep P K H (.bl i) v):v=.bl i:=by rw[Rep]at h;exact h
def aQ{P:Addr->Prop}{K:W.Frag}(h:Rep P K H (.str i) v):v=.str i:=by rw[Rep]at h;exact h
abbrev nr(X:Cx)(o:RL.Bop)(r:R2):Prop :=
 ∀ (QP:RL.St) (Y:L2.St) (H H2:Hp) (e:RL.E) (x y d:RL.D) (v u:V) (Q:VK),aw H H2->Rep nP X.K H2 x v->Rep nP X.K H2 y u->RL.aE o x y=some d->(∀ M,RL.avE M e=false) ->
  (∀ w H',Res X.K QP Y H e d w H'->Q w H')->r v u H2 Q
def hG(ho:OpR X (binaryOp (tw o)) r)(ok:nr X o r)(ha:SE X cl a a')(hb:SE X cl b b'):SE X cl (.BinOp a (tw o) b pos) (.bin o a' b'):=by
 refine PE.weak (Jd ho ha hb) fun Y H Q h=>?_;kd_p;x_go;gn_on;refine two rv ea eb fun v u H1 H2 s1 s2 rx ry _ _=>?_;exact ok QP Y H H2 _ x y d v u Q (s1.trans s2) rx ry e (fun _=>rfl) k
end rules
section rules
variable{X:Cx}{cl:RL.Cl}{a b c:Expr}{a' b' c':RL.E}{pos:Pos}
def cS{α:Type}{c:Prop} [Decidable c]{a d:α}(h:(if c then some a else none)=some d):c/\d=a:=by
 by_cases hc:c
 ·rw[if_pos hc]at h;exact#[hc,(Option.some.inj h).symm]
 ·rw[if_neg hc]at h;cases h
def noN{α:Type}{o:Option α}{d:α}{p:Prop}(e:o=none)(h:o=some d):p:=by rw[e]at h;cases h
def Bs{x y d:RL.D}(h:RL.aE .add x y=some d):(∃ i j,x=.int i/\y=.int j/\d=.int (i+j))\/(∃ i j:Str,x=.str i/\y=.str j/\i.length+j.length<=RL.most/\d=.str (i++j)) \/
  (∃ i j,x=.lst i/\y=.lst j/\i.length+j.length<=RL.most/\d=.lst (i++j)) \/
  (∃ i j,x=.tup i/\y=.tup j/\(i.length+j.length<=RL.most/\0<i.length)/\d=.tup (i++j)):=by
 cases x with
 | int i=>cases y with
  | int j=>cases h;exact .inl #[i,j,rfl,rfl,rfl]
  | _=>exact noN rfl h
 | str i=>cases y with
  |str j=>
   obtain⟨hc,e⟩:=cS h;exact .inr (.inl #[i,j,rfl,rfl,hc,e])
  | _=>exact noN rfl h
 | lst i=>cases y with
  |lst j=>
   obtain⟨hc,e⟩:=cS h;exact .inr (.inr (.inl #[i,j,rfl,rfl,hc,e]))
  | _=>exact noN rfl h
 | tup i=>cases y with
  |tup j=>
   obtain⟨hc,e⟩:=cS h;exact .inr (.inr (.inr #[i,j,rfl,rfl,hc,e]))
  | _=>exact noN rfl h
 | _=>exact noN rfl h
def B8{x y d:RL.D}(h:RL.aE .mul x y=some d):(∃ i j,x=.int i/\y=.int j/\wM i j/\d=.int (i*j)) \/
  (∃ i j,x=.lst i/\y=.int j/\(0<=j/\j<=RL.most/\i.length*j.toNat<=RL.most)/\d=.lst (List.replicate j.toNat i).flatten):=by
 cases x with
 | int i=>cases y with
  |int j=>
   obtain⟨hc,e⟩:=cS h;exact .inl #[i,j,rfl,rfl,hc,e]
  | _=>exact noN rfl h
 | lst i=>cases y with
  |int j=>
   obtain⟨hc,e⟩:=cS h;exact .inr #[i,j,rfl,rfl,hc,e]
  | _=>exact noN rfl h
 | _=>exact noN rfl h
def iT{o:RL.Bop}{x y d:RL.D}(h:RL.aE o x y=some d)(ho:o≠.add)(hm:o≠.mul):∃ i j,x=.int i/\y=.int j/\RL.aE o (.int i) (.int j)=some d:=by
 have no:∀ {a b:RL.D},RL.aE .sub a b=none->RL.aE .fdiv a b=none->RL.aE .mod a b=none->RL.aE .pow a b=none->RL.aE o a b=some d->False:=fun e1 e2 e3 e4 h=>by
  cases o with
  | add=>exact ho rfl
  | mul=>exact hm rfl
  | sub=>rw[e1]at h;cases h
  | fdiv=>rw[e2]at h;cases h
  | mod=>rw[e3]at h;cases h
  | pow=>rw[e4]at h;cases h
 cases x with
 | int i=>cases y with
  | int j=>exact#[i,j,rfl,rfl,h]
  | _=>exact(no rfl rfl rfl rfl h).elim
 | _=>exact(no rfl rfl rfl rfl h).elim
def A2{x y d:RL.D}(h:RL.aE .sub x y=some d):∃ i j,x=.int i/\y=.int j/\d=.int (i-j):=by
 obtain⟨i,j,e1,e2,h⟩:=iT h ∅ ∅;cases h;exact#[i,j,e1,e2,rfl]
def zR{x y d:RL.D}(h:RL.aE .fdiv x y=some d):∃ i j,x=.int i/\y=.int j/\(0<j/\j<2 ^ 200)/\d=.int (i / j):=by
 obtain⟨i,j,e1,e2,h⟩:=iT h ∅ ∅;obtain⟨hc,e⟩:=cS h;exact#[i,j,e1,e2,hc,e]
def A7{x y d:RL.D}(h:RL.aE .mod x y=some d):∃ i j,x=.int i/\y=.int j/\0<j/\d=.int (i%j):=by
 obtain⟨i,j,e1,e2,h⟩:=iT h ∅ ∅;obtain⟨hc,e⟩:=cS h;exact#[i,j,e1,e2,hc,e]
def AS{x y d:RL.D}(h:RL.aE .pow x y=some d):∃ i j,x=.int i/\y=.int j/\(0<=j/\j<=1000/\i.natAbs<2 ^ 64)/\d=.int (i ^ j.toNat):=by
 obtain⟨i,j,e1,e2,h⟩:=iT h ∅ ∅;obtain⟨hc,e⟩:=cS h;exact#[i,j,e1,e2,hc,e]
def aG{P:Addr->Prop}{K:W.Frag}{H:Hp}{ds:List RL.D}{v:V}(h:Rep P K H (.lst ds) v):∃ a xs,v=.ref a/\¬ P a/\H a=some (.lst xs)/\af P K H ds xs:=by rw[Rep]at h;exact h
def br{P:Addr->Prop}{K:W.Frag}{H:Hp}{ds:List RL.D}{v:V}(h:Rep P K H (.tup ds) v):∃ a xs,v=.ref a/\H a=some (.tup xs)/\af P K H ds xs:=by rw[Rep]at h;exact h
def F1:nr X .sub (rI0 fun i j=>.int (i-j)):=by
 intro QP Y H H2 e x y d v u Q sm rx ry h hav k;obtain⟨i,j,rfl,rfl,rfl⟩:=A2 h;exact#[i,j,ah rx,ah ry,k _ _ (dh sm bh rfl)]
def C6:nr X .fdiv (rI (fun _ j=>0<j/\j<2 ^ 200) fun i j=>.int (i / j)):=by
 intro QP Y H H2 e x y d v u Q sm rx ry h hav k;obtain⟨i,j,rfl,rfl,hc,rfl⟩:=zR h;exact#[i,j,ah rx,ah ry,hc,k _ _ (dh sm bh rfl)]
def Hs:nr X .mod (rI (fun _ j=>0<j) fun i j=>.int (i%j)):=by
 intro QP Y H H2 e x y d v u Q sm rx ry h hav k;obtain⟨i,j,rfl,rfl,hc,rfl⟩:=A7 h;exact#[i,j,ah rx,ah ry,hc,k _ _ (dh sm bh rfl)]
def Fs:nr X .pow (rI Ht fun i j=>.int (i ^ j.toNat)):=by
 intro QP Y H H2 e x y d v u Q sm rx ry h hav k;obtain⟨i,j,rfl,rfl,hc,rfl⟩:=AS h;exact#[i,j,ah rx,ah ry,#[hc.1,Int.le_trans hc.2.1 ∅,hc.2.2],k _ _ (dh sm bh rfl)]
def E2(ha:SE X cl a a')(hb:SE X cl b b'):SE X cl (.BinOp a .Add b pos) (.bin .add a' b'):=by
 refine hG (o:=.add) (Hr.or (xc.or (Eo.or CY))) ?_ ha hb;intro QP Y H H2 e x y d v u Q sm rx ry h hav k
 rcases Bs h with⟨i,j,rfl,rfl,rfl⟩ | ⟨i,j,rfl,rfl,hc,rfl⟩ | ⟨i,j,rfl,rfl,hc,rfl⟩ | ⟨i,j,rfl,rfl,⟨hc,ha⟩,rfl⟩
 ·exact .inl #[i,j,ah rx,ah ry,k _ _ (dh sm bh rfl)]
 ·exact .inr (.inl #[i,j,aQ rx,aQ ry,Qr hc cA,k _ _ (dh sm hU rfl)])
 ·obtain⟨p,xs,e1,_,e2,e3⟩:=aG rx;obtain⟨q,ys,f1,_,f2,f3⟩:=aG ry;refine .inr (.inr (.inl #[p,q,xs,ys,e1,f1,e2,f2,?_,fun l hl=>k _ _ (et sm hl (e3.append f3) hav)]));rw[<-e3.length,<-f3.length];exact Qr hc cA
 ·obtain⟨p,xs,e1,e2,e3⟩:=br rx;obtain⟨q,ys,f1,f2,f3⟩:=br ry;refine .inr (.inr (.inr #[p,q,xs,ys,e1,f1,SqT.of e2,SqT.of f2,fun z=>?_,?_,fun z=>?_,fun _ l hl=>k _ _ (gf sm hl (e3.append f3) hav)]))
  ·rw[e3.length,z]at ha;exact absurd ha ∅
  ·rw[<-e3.length,<-f3.length];exact Qr hc cA
  ·have hj:j=[]:=by
    have:=f3.length;rw[z]at this;exact List.length_eq_zero_iff.mp this
   subst hj;rw[QD]at k;exact k _ _ ⟨sm,e1▸rx,fun _ m=>(by cases m),fun M z=>by rw[hav M]at z;cases z⟩
def ER(ha:SE X cl a a')(hb:SE X cl b b'):SE X cl (.BinOp a .Mult b pos) (.bin .mul a' b'):=by
 refine hG (o:=.mul) (FV.or ET) ?_ ha hb;intro QP Y H H2 e x y d v u Q sm rx ry h hav k
 rcases B8 h with⟨i,j,rfl,rfl,hc,rfl⟩ | ⟨i,j,rfl,rfl,hc,rfl⟩
 ·exact .inl #[i,j,ah rx,ah ry,hc,k _ _ (dh sm bh rfl)]
 ·obtain⟨p,xs,e1,_,e2,e3⟩:=aG rx;refine .inr #[p,j,xs,e1,ah ry,e2,?_,?_,?_,fun l hl=>k _ _ (et sm hl (e3.rep _) hav)]
  ·exact Int.le_trans ∅ hc.1
  ·exact Int.lt_of_le_of_lt hc.2.1 ∅
  ·rw[<-e3.length];exact Qr hc.2.2 cA
def Hf{o:RL.Bop}(ha:SE X cl a a')(hb:SE X cl b b'):SE X cl (.BinOp a (tw o) b pos) (.bin o a' b'):=by
 cases o with
 | add=>exact E2 ha hb
 | mul=>exact ER ha hb
 | sub=>exact hG (o:=.sub) FC F1 ha hb
 | fdiv=>exact hG (o:=.fdiv) Ad C6 ha hb
 | mod=>exact hG (o:=.mod) EI Hs ha hb
 | pow=>exact hG (o:=.pow) Gm Fs ha hb
def dJ{QP:RL.St}{Y:L2.St}{H H':Hp}{e:RL.E}{k:Bool}(sm:aw H H'):Res X.K QP Y H e (.bl k) (.bl k) H':=dh sm rK rfl
def F0{rest:List Expr}(ha:SE X cl a a')(hb:SE X cl (.BoolOp .And (b::rest) pos) b'):SE X cl (.BoolOp .And (a::b::rest) pos) (.and a' b'):=by
 refine PE.weak (FQ ha hb) fun Y H Q h=>?_;kd_p;x_go;refine#[QP,x,rv,ea,fun v H1 r1=>?_]
 cases x with
 |bl t=>
  refine#[t,bb r1.rep,?_]
  cases t with
  |true=>
   refine fI ?_;refine#[QP,d,rv.same r1.same,e,fun w H2 r2=>k w H2 ?_];exact⟨r1.same.trans r2.same,r2.rep,fun z=>(by cases z),fun M z=>nomatch (show false=true from z)⟩
  |false=>
   refine fX ?_;cases e;exact k _ _ (dJ r1.same)
 | _=>cases e
def Je{rest:List Expr}(ha:SE X cl a a')(hb:SE X cl (.BoolOp .Or (b::rest) pos) b'):SE X cl (.BoolOp .Or (a::b::rest) pos) (.or a' b'):=by
 refine PE.weak (IC ha hb) fun Y H Q h=>?_;kd_p;x_go;refine#[QP,x,rv,ea,fun v H1 r1=>?_]
 cases x with
 |bl t=>
  refine#[t,bb r1.rep,?_]
  cases t with
  |false=>
   refine fX ?_;refine#[QP,d,rv.same r1.same,e,fun w H2 r2=>k w H2 ?_];exact⟨r1.same.trans r2.same,r2.rep,fun z=>(by cases z),fun M z=>nomatch (show false=true from z)⟩
  |true=>
   refine fI ?_;cases e;exact k _ _ (dJ r1.same)
 | _=>cases e
def yg{op}(ha:SE X cl a a'):SE X cl (.BoolOp op [a] pos) a':=GG ha
abbrev tT(K:W.Frag)(cl:RL.Cl)(e:RL.E):TT:=fun Y H Q=>∃ QP k,RV0 K QP Y H/\(RL.ev cl QP e).bind RL.truth=some k/\∀ H',aw H H'->Q k H'
abbrev ST(X:Cx)(cl:RL.Cl)(e:Expr)(e':RL.E):Prop:=PT X e (tT X.K cl e')
abbrev SW(X:Cx)(cl:RL.Cl)(e:Expr)(e':RL.E):Prop:=PW X e (tT X.K cl e')
def PT.weak{e:Expr}{t t':TT}(h:PT X e t)(w:∀ Y H Q,t' Y H Q->t Y H Q):PT X e t':=fun pins s Y H Q I q=>h pins s Y H Q I (w Y H Q q)
def PW.weak{e:Expr}{t t':TT}(h:PW X e t)(w:∀ Y H Q,t' Y H Q->t Y H Q):PW X e t':=fun wh pins s Y H Q I q=>h wh pins s Y H Q I (w Y H Q q)
def af.isEmpty{P:Addr->Prop}{K:W.Frag}{H:Hp}{ds:List RL.D}{xs:List V}(h:af P K H ds xs):ds.isEmpty=xs.isEmpty:=by
 cases ds with
 | nil=>rw[af]at h;rw[h];rfl
 |cons d r=>
  rw[af]at h;obtain⟨x,t,rfl,_⟩:=h;rfl
def Gw{K:W.Frag}{H:Hp}{d:RL.D}{v:V}{k:Bool}(r:Rep nP K H d v)(h:RL.truth d=some k):x9 K v H k:=by
 cases d<;>simp only[RL.truth]at h<;>first | (cases h;done) | skip
 case bl t=>cases h;rw[bb r];exact rfl
 case int t =>
  cases h;rw[ah r];simp[x9]
 case tup ds =>
  obtain⟨a,xs,rfl,e,rs⟩:=br r;cases h;exact .inr (.inl #[xs,SqT.of e,by rw[rs.isEmpty]])
 case lst ds =>
  obtain⟨a,xs,rfl,_,e,rs⟩:=aG r;cases h;exact .inl #[xs,SqL.of e,by rw[rs.isEmpty]]
def Bu(ha:SE X cl a a')(he:∀ whole,isTrue a X.env whole=(do let v <- whole;standAt a.pos;holding [v] (truthy v))):ST X cl a a':=by
 refine PT.weak (Bb ha he) fun Y H Q h=>?_;obtain⟨QP,k,rv,e,q⟩:=h;gp_on;exact#[QP,d,rv,e1,fun v H1 r1=>#[k,Gw r1.rep e2,q H1 r1.same]]
def xU{op:BoolOp}(ha:ST X cl a a'):SW X cl (.BoolOp op [a] pos) a':=by
 cases op with
 | And=>exact D9 ha
 | Or=>exact HR ha
def zG{QP:RL.St}{k:Bool}(h:(RL.ev cl QP (.and a' b')).bind RL.truth=some k):∃ t,(RL.ev cl QP a').bind RL.truth=some t/\(if t=true then(RL.ev cl QP b').bind RL.truth=some k else k=false):=by
 rw[RL.nQ]at h
 cases ea:RL.ev cl QP a' with
 | none=>rw[ea]at h;cases h
 |some x=>
  rw[ea]at h
  cases x with
  |bl t=>
   cases t with
   | true=>exact#[true,rfl,fI h]
   | false=>exact⟨false,rfl,fX (by cases h;rfl)⟩
  | _=>exact noN rfl h
def Al{QP:RL.St}{k:Bool}(h:(RL.ev cl QP (.or a' b')).bind RL.truth=some k):∃ t,(RL.ev cl QP a').bind RL.truth=some t/\(if t=true then k=true else(RL.ev cl QP b').bind RL.truth=some k):=by
 rw[RL.vV]at h
 cases ea:RL.ev cl QP a' with
 | none=>rw[ea]at h;cases h
 |some x=>
  rw[ea]at h
  cases x with
  |bl t=>
   cases t with
   | true=>exact⟨true,rfl,fI (by cases h;rfl)⟩
   | false=>exact#[false,rfl,fX h]
  | _=>exact noN rfl h
def FN{rest:List Expr}(ha:ST X cl a a')(hb:SW X cl (.BoolOp .And (b::rest) pos) b'):SW X cl (.BoolOp .And (a::b::rest) pos) (.and a' b'):=by
 refine PW.weak (En ha hb) fun Y H Q h=>?_;obtain⟨QP,k,rv,e,q⟩:=h;obtain⟨t,e1,e2⟩:=zG e;refine#[QP,t,rv,e1,fun H1 s1=>?_]
 cases t with
 | true=>exact fI ⟨QP,k,rv.same s1,e2,fun H2 s2=>q H2 (s1.trans s2)⟩
 |false=>
  have e2:k=false:=e2;subst e2;exact fX (q H1 s1)
def IG{rest:List Expr}(ha:ST X cl a a')(hb:SW X cl (.BoolOp .Or (b::rest) pos) b'):SW X cl (.BoolOp .Or (a::b::rest) pos) (.or a' b'):=by
 refine PW.weak (Jj ha hb) fun Y H Q h=>?_;obtain⟨QP,k,rv,e,q⟩:=h;obtain⟨t,e1,e2⟩:=Al e;refine#[QP,t,rv,e1,fun H1 s1=>?_]
 cases t with
 |true=>
  have e2:k=true:=e2;subst e2;exact fI (q H1 s1)
 | false=>exact fX ⟨QP,k,rv.same s1,e2,fun H2 s2=>q H2 (s1.trans s2)⟩
def G1(ha:ST X cl a a'):ST X cl (.UnaryOp .Not a pos) (.not a'):=by
 refine PT.weak (Gu ha) fun Y H Q h=>?_;obtain⟨QP,k,rv,e,q⟩:=h;gp_on;obtain⟨t,e3,e4⟩:=map_some e1;subst e4;cases e2;exact#[QP,t,rv,e3,fun H1 s1=>q H1 s1]
def Ek(hc:ST X cl c c')(ha:SE X cl a a')(hb:SE X cl b b'):SE X cl (.IfExp c a b pos) (.ifx c' a' b'):=by
 refine PE.weak (Bl hc ha hb) fun Y H Q h=>?_;obtain⟨QP,d,rv,e,q⟩:=h;obtain⟨t,e1,e2⟩:=bind_some e;refine#[QP,t,rv,e1,fun H1 s1=>?_];have fin:∀ (a':RL.E) (v:V) (H2:Hp),(∀ M,RL.avE M (.ifx c' a' b')=true->RL.avE M a'=true)->True:=fun _ _ _ _=>trivial
 cases t with
 |true=>
  refine fI ⟨QP,d,rv.same s1,e2,fun v H2 r2=>q v H2 ⟨s1.trans r2.same,r2.rep,fun z=>(by cases z),fun M z P hP av=>?_⟩⟩;have z:(RL.avE M a'&&RL.avE M b')=true:=z;rw[Bool.and_eq_true]at z;exact r2.av M z.1 P (fun a p=>(Option.ne_none_iff_exists'.mpr (by obtain⟨o,ho⟩:=Option.ne_none_iff_exists'.mp (hP a p);exact#[o,s1 _ _ ho]))) fun j dj vj h1 h2 h3=>(av j dj vj h1 h2 h3).same s1
 |false=>
  refine fX ⟨QP,d,rv.same s1,e2,fun v H2 r2=>q v H2 ⟨s1.trans r2.same,r2.rep,fun z=>(by cases z),fun M z P hP av=>?_⟩⟩;have z:(RL.avE M a'&&RL.avE M b')=true:=z;rw[Bool.and_eq_true]at z;exact r2.av M z.2 P (fun a p=>(Option.ne_none_iff_exists'.mpr (by obtain⟨o,ho⟩:=Option.ne_none_iff_exists'.mp (hP a p);exact#[o,s1 _ _ ho]))) fun j dj vj h1 h2 h3=>(av j dj vj h1 h2 h3).same s1
end rules
section rules
variable{X:Cx}
def EG(ha:SE X cl a a'):SE X cl (.UnaryOp .Not a pos) (.not a'):=by
 kt_k;kd_p;obtain⟨t,e1,e2⟩:=map_some e;obtain⟨x,e3,e4⟩:=bind_some e1;subst e2;refine UnaryOp_ (thn (ha pins s Y H (fun v H1=>aw H H1/\Rep nP X.K H1 x v) I ⟨QP,x,rv,e3,fun v H1 r1=>#[r1.same,r1.rep]⟩) fun v s1 ⟨y,H1,I1,r1,sm,rp⟩=>?_);refine not_of (thn (yx pins s1 Y H1 y v (fun k H2=>k=t/\H2=H1) I1 r1 ⟨t,Gw rp e4,rfl,rfl⟩) fun k2 s2 ⟨H2,I2,q1,q2⟩=>?_);subst q1;subst q2;exact#[.bl (!k2),H2,I2,rfl,k _ _ (dJ sm)]
abbrev noStar:Expr->Bool
 | .Starred _ _=>false
 | _=>true
def ay(es:List Expr)(h:noStar e=true):starEach (e::es) X.env=(false,eval e X.env)::starEach es X.env:=by
 cases e<;>first | rfl | (cases h)
def cU:∀ {es:List Expr} {pos:Pos},es.all noStar=true->(backTo pos (starEach es X.env)).any (·.1)=false
 | [],_,_=>rfl
 | e::es,pos,h=>by
  rw[Qx,Bool.and_eq_true]at h;rw[ay es h.1];show(false || (backTo pos (starEach es X.env)).any (·.1))=false;rw[cU h.2];rfl
def cY:SEs X cl [] .nil:=by
 intro pos pins s Y H Q I h;obtain⟨QP,ds,rv,e,k⟩:=h;cases e;exact cL pos pins s Y H Q I (k [] H (aw.refl H) af.nil)
def bM(he:SE X cl e e')(hr:SEs X cl es es')(hn:noStar e=true):SEs X cl (e::es) (.cons e' es'):=by
 intro pos pins s Y H Q I h;refine bu he hr (ay es hn) pos pins s Y H Q I ?_;obtain⟨QP,ds,rv,e,k⟩:=h;gp_on;obtain⟨r,e3,e4⟩:=map_some e2;subst e4;refine#[QP,d,rv,e1,fun v H1 r1=>#[QP,r,rv.same r1.same,e3,fun vs H2 s2 r2=>k (v::vs) H2 (r1.same.trans s2) (af.cons (r1.rep.same s2) r2)]]
abbrev eO:RL.Es->Nat
 | .nil=>0
 | .cons _ r=>eO r+1
def mY:∀ {es:RL.Es} {ds:List RL.D},RL.evs cl QP es=some ds->ds.length=eO es
 | .nil,ds,h=>by rw[RL.evs]at h;cases h;rfl
 | .cons e r,ds,h=>by
  obtain⟨d,e1,e2⟩:=bind_some h;obtain⟨t,e3,e4⟩:=map_some e2;subst e4;rw[List.length_cons,mY e3,eO]
def E4(h:SEs X cl es es')(hl:eO es'<=1000):SE X cl (.Tuple es x1 pos) (.tup es'):=by
 refine PE.weak (GX h) fun Y H Q q=>?_;obtain⟨QP,d,rv,e,k⟩:=q;obtain⟨ds,e1,e2⟩:=map_some e;subst e2;refine#[QP,ds,rv,e1,fun vs H1 s1 r1=>#[?_,fun p hp=>k _ _ (gf s1 hp r1 fun _=>rfl)]];rw[<-r1.length,mY e1];exact Nat.le_of_lt (qH hl)
def Eg(h:SEs X cl es es')(hl:eO es'<=1000):SE X cl (.List es pos) (.lst es'):=by
 refine PE.weak (FU h) fun Y H Q q=>?_;obtain⟨QP,d,rv,e,k⟩:=q;obtain⟨ds,e1,e2⟩:=map_some e;subst e2;refine#[QP,ds,rv,e1,fun vs H1 s1 r1=>#[?_,fun p hp=>k _ _ (et s1 hp r1 fun _=>rfl)]];rw[<-r1.length,mY e1];exact Nat.le_of_lt (qH hl)
def oR(h:RL.cI xs i=some x):atI xs i=some x:=by
 unfold RL.cI at h;unfold atI ixN;by_cases h0:0<=i
 ·rw[if_pos h0]at h;rw[if_pos h0];obtain⟨h1,_⟩:=List.getElem?_eq_some_iff.mp h;rw[if_pos ⋯];exact h
 ·rw[if_neg h0]at h;rw[if_neg h0];by_cases h1:-(xs.length:Int)<=i
  ·rw[if_pos h1]at h;rw[if_pos h1];exact h
  ·rw[if_neg h1]at h;cases h
def iV{P:Addr->Prop}{K:W.Frag}(r:af P K H ds xs)(h:RL.cI ds i=some d):∃ x,RL.cI xs i=some x/\Rep P K H d x:=by
 unfold RL.cI at h ⊢;rw[<-r.length];by_cases h0:0<=i
 ·rw[if_pos h0]at h ⊢;exact r.get h
 ·rw[if_neg h0]at h ⊢;by_cases h1:-(ds.length:Int)<=i
  ·rw[if_pos h1]at h ⊢;exact r.get h
  ·rw[if_neg h1]at h;cases h
abbrev mR:Expr->Bool
 | .Slice _ _ _ _=>false
 | _=>true
def vg(h:mR b=true):vf b:=by
 intro o i
 cases b<;>first | rfl | (cases h)
def y9(h:RL.ixV x y=some d):(∃ xs i,x=.lst xs/\y=.int i/\RL.cI xs i=some d)\/(∃ xs i,x=.tup xs/\y=.int i/\RL.cI xs i=some d) \/
  (∃ (z:Str) (i:Int) (c:Nat),x=.str z/\y=.int i/\z.length<=RL.most/\RL.cI z.cps.toList i=some c/\d=.str ⟨(List.toArray [c])⟩):=by
 have no:∀ {o:Option RL.D},o=none->o=some d->False:=fun e h=>by rw[e]at h;cases h
 cases x with
 | lst xs=>cases y with
  | int i=>exact .inl #[xs,i,rfl,rfl,h]
  | _=>exact(no rfl h).elim
 | tup xs=>cases y with
  | int i=>exact .inr (.inl #[xs,i,rfl,rfl,h])
  | _=>exact(no rfl h).elim
 | str z=>cases y with
  |int i=>
   by_cases hc:z.length<=RL.most
   ·obtain⟨c,e1,e2⟩:=map_some (show(RL.cI z.cps.toList i).map (fun c=>RL.D.str ⟨(List.toArray [c])⟩)=some d from(if_pos hc).symm.trans h);exact .inr (.inr #[z,i,c,rfl,rfl,hc,e1,e2.symm])
   ·exact(no (if_neg hc) h).elim
  | _=>exact(no rfl h).elim
 | _=>exact(no rfl h).elim
def IQ(ha:SE X cl a a')(hb:SE X cl b b')(hs:mR b=true):SE X cl (.Subscript a b pos) (.ix a' b'):=by
 refine PE.weak (BJ yE ha hb (vg hs)) fun Y H Q h=>?_;kd_p;x_go;gn_on;refine two rv ea eb fun v u H1 H2 s1 s2 rx ry ra rb=>?_
 have fin:∀ (w:V),Rep nP X.K H2 d w->(∀ P:Addr->Prop,Rep P X.K H2 x v->Rep P X.K H2 d w)->Res X.K QP Y H (.ix a' b') d w H2:=fun w h1 h2=>{
  same:=s1.trans s2
  rep:=h1
  fresh:=fun z=>by cases z
  av:=fun M z P hP av=>h2 P ((ra.av M z P hP av).same s2) }
 rcases y9 e with⟨xs,i,rfl,rfl,hd⟩ | ⟨xs,i,rfl,rfl,hd⟩ | ⟨z,i,c,rfl,rfl,hz,hd,rfl⟩
 ·obtain⟨p,ys,rfl,_,e2,e3⟩:=aG rx;obtain⟨w,h1,h2⟩:=iV e3 hd;refine .inl #[p,ys,i,w,rfl,ah ry,SqL.of e2,oR h1,k _ _ (fin w h2 fun P rp=>?_)];obtain⟨p',ys',q1,_,q2,q3⟩:=aG rp;cases q1;rw[e2]at q2;cases q2;obtain⟨w',h3,h4⟩:=iV q3 hd;rw[h1]at h3;cases h3;exact h4
 ·obtain⟨p,ys,rfl,e2,e3⟩:=br rx;obtain⟨w,h1,h2⟩:=iV e3 hd;refine .inr (.inl #[p,ys,i,w,rfl,ah ry,SqT.of e2,oR h1,k _ _ (fin w h2 fun P rp=>?_)]);obtain⟨p',ys',q1,q2,q3⟩:=br rp;cases q1;rw[e2]at q2;cases q2;obtain⟨w',h3,h4⟩:=iV q3 hd;rw[h1]at h3;cases h3;exact h4
 ·exact .inr (.inr #[z,i,c,aQ rx,ah ry,Qr hz cA,oR hd,k _ _ (fin _ hU fun P _=>hU)])
end rules
section rules
def ib:∀ {as bs:List RL.D} {k:Bool},RL.eqs f as bs=some k ->
  ∃ e:Nat->Bool,k=(List.range (min as.length bs.length)).all e/\∀ j x y,as[j]?=some x->bs[j]?=some y->f x y=some (e j)
 | [],bs,k,h=>by
  have h:some true=some k:=by simpa[RL.eqs]using h
  cases h;exact#[fun _=>true,by simp,fun j x y h1=>by simp at h1]
 | a::r,[],k,h=>by
  have h:some true=some k:=by simpa[RL.eqs]using h
  cases h;exact#[fun _=>true,by simp,fun j x y h1 h2=>by simp at h2]
 | a::r,b::s,k,h=>by
  rw[RL.eqs]at h;obtain⟨e0,h1,h2⟩:=bind_some h;obtain⟨k',h3,h4⟩:=map_some h2;obtain⟨e,h5,h6⟩:=ib h3;refine⟨fun j=>match j with | 0=>e0 | j+1=>e j,?_,fun j x y hx hy=>?_⟩
  ·rw[<-h4,h5,List.length_cons,List.length_cons,Nat.succ_min_succ,List.range_succ_eq_map,Qx,List.all_map];rfl
  ·cases j with
   |zero=>
    simp at hx hy;subst hx hy;exact h1
   | succ j=>exact h6 j x y (by simpa using hx) (by simpa using hy)
def gH(h:RL.eqD n x y=some k):(∃ i j,x=.bl i/\y=.bl j/\(i == j)=k)\/(∃ i j,x=.int i/\y=.int j/\(i == j)=k)\/(∃ i j,x=.str i/\y=.str j/\(i == j)=k) \/
  (∃ m i j,n=m+1/\x=.tup i/\y=.tup j/\Option.map (fun k=>k&&i.length == j.length) (RL.eqs (RL.eqD m) i j)=some k)\/(∃ m i j,n=m+1/\x=.lst i/\y=.lst j/\Option.map (fun k=>k&&i.length == j.length) (RL.eqs (RL.eqD m) i j)=some k):=by
 cases n with
 | zero=>cases x with
  | bl i=>cases y with
   | bl j=>exact .inl #[i,j,rfl,rfl,Option.some.inj h]
   | _=>exact noN rfl h
  | int i=>cases y with
   | int j=>exact .inr (.inl #[i,j,rfl,rfl,Option.some.inj h])
   | _=>exact noN rfl h
  | str i=>cases y with
   | str j=>exact .inr (.inr (.inl #[i,j,rfl,rfl,Option.some.inj h]))
   | _=>exact noN rfl h
  | _=>exact noN rfl h
 | succ m=>cases x with
  | bl i=>cases y with
   | bl j=>exact .inl #[i,j,rfl,rfl,Option.some.inj h]
   | _=>exact noN rfl h
  | int i=>cases y with
   | int j=>exact .inr (.inl #[i,j,rfl,rfl,Option.some.inj h])
   | _=>exact noN rfl h
  | str i=>cases y with
   | str j=>exact .inr (.inr (.inl #[i,j,rfl,rfl,Option.some.inj h]))
   | _=>exact noN rfl h
  | tup i=>cases y with
   | tup j=>exact .inr (.inr (.inr (.inl #[m,i,j,rfl,rfl,rfl,h])))
   | _=>exact noN rfl h
  | lst i=>cases y with
   | lst j=>exact .inr (.inr (.inr (.inr #[m,i,j,rfl,rfl,rfl,h])))
   | _=>exact noN rfl h
  | _=>exact noN rfl h
def qJ{K:W.Frag}:∀ (n:Nat) (x y:RL.D) (v:V) (k:Bool),Rep nP K H x v->Rep nP K H y v->RL.eqD n x y=some k->k=true:=by
 intro n
 induction n with
 |zero=>
  intro x y v k rx ry h
  f_len
  ·have:=bb rx;rw[bb ry]at this;cases this;simp
  ·have:=ah rx;rw[ah ry]at this;cases this;simp
  ·have:=aQ rx;rw[aQ ry]at this;cases this;simp
  ·cases hn
  ·cases hn
 |succ n ih=>
  intro x y v k rx ry h
  have seq:∀ (i j:List RL.D) (xs:List V) (k:Bool),af nP K H i xs->af nP K H j xs->Option.map (fun k=>k&&i.length == j.length) (RL.eqs (RL.eqD n) i j)=some k->k=true:=by
   intro i j xs k e3 f3 h;obtain⟨k',h1,h2⟩:=map_some h;obtain⟨e,h3,h4⟩:=ib h1;have hl:i.length=j.length:=e3.length.trans f3.length.symm
   have hk:k'=true:=by
    rw[h3,Qu];intro m hm;rw[List.mem_range]at hm;obtain⟨w,w1,w2⟩:=e3.get (i:=m) (d:=i[m]'⋯) (by simp);obtain⟨w',w1',w2'⟩:=f3.get (i:=m) (d:=j[m]'⋯) (by simp);rw[w1]at w1';cases w1';exact ih _ _ w (e m) w2 w2' (h4 m _ _ (by simp) (by simp))
   rw[<-h2,hk,hl];simp
  f_len
  ·have:=bb rx;rw[bb ry]at this;cases this;simp
  ·have:=ah rx;rw[ah ry]at this;cases this;simp
  ·have:=aQ rx;rw[aQ ry]at this;cases this;simp
  ·cases hn;subst hx;subst hy;obtain⟨p,xs,rfl,e2,e3⟩:=br rx;obtain⟨q,ys,q1,f2,f3⟩:=br ry;cases q1;rw[e2]at f2;cases f2;exact seq i j xs k e3 f3 h
  ·cases hn;subst hx;subst hy;obtain⟨p,xs,rfl,_,e2,e3⟩:=aG rx;obtain⟨q,ys,q1,_,f2,f3⟩:=aG ry;cases q1;rw[e2]at f2;cases f2;exact seq i j xs k e3 f3 h
open SeqAt in
def deep(I:Inv X pins Y H s):∀ (n:Nat) (A:Around) (x y:RL.D) (v u:V) (va ua:Value) (k:Bool),A.units+n<cLine->Rep nP X.K H x v->Rep nP X.K H y u->RelV v va->RelV u ua ->
  RL.eqD n x y=some k->RcAt A s va ua k/\EqAt A s va ua k:=by
 intro n
 induction n with
 |zero=>
  intro A x y v u va ua k hu rx ry qx qy h
  f_len
  ·rw[bb rx]at qx;rw[bb ry]at qy;cases qx;cases qy;exact#[RcAt.bool_bool i j,EqAt.bool_bool i j]
  ·rw[ah rx]at qx;rw[ah ry]at qy;obtain⟨t,rfl⟩:=qx;obtain⟨t',rfl⟩:=qy;exact#[RcAt.int_int i t j t',EqAt.int_int i t j t']
  ·rw[aQ rx]at qx;rw[aQ ry]at qy;obtain⟨t,rfl⟩:=qx;obtain⟨t',rfl⟩:=qy;exact#[RcAt.str_str i t j t',EqAt.str_str i t j t']
  ·cases hn
  ·cases hn
 |succ n ih=>
  intro A x y v u va ua k hu rx ry qx qy h
  f_len
  ·rw[bb rx]at qx;rw[bb ry]at qy;cases qx;cases qy;exact#[RcAt.bool_bool i j,EqAt.bool_bool i j]
  ·rw[ah rx]at qx;rw[ah ry]at qy;obtain⟨t,rfl⟩:=qx;obtain⟨t',rfl⟩:=qy;exact#[RcAt.int_int i t j t',EqAt.int_int i t j t']
  ·rw[aQ rx]at qx;rw[aQ ry]at qy;obtain⟨t,rfl⟩:=qx;obtain⟨t',rfl⟩:=qy;exact#[RcAt.str_str i t j t',EqAt.str_str i t j t']
  ·cases hn;subst hx;subst hy;obtain⟨p,xs,rfl,e2,e3⟩:=br rx;obtain⟨q,ys,rfl,f2,f3⟩:=br ry;cases qx;cases qy;obtain⟨its,r1,t1,z1⟩:=I.tuple (SqT.of e2);obtain⟨jts,r2,t2,z2⟩:=I.tuple (SqT.of f2);obtain⟨k',h1,h2⟩:=map_some h;obtain⟨e,h3,h4⟩:=ib h1;have l1:i.length=its.length:=e3.length.trans r1.length;have l2:j.length=jts.length:=f3.length.trans r2.length
   have he:∀ m (g1:m<its.toArray.size) (g2:m<jts.toArray.size),EqAt A.in1 s its.toArray[m] jts.toArray[m] (e m):=fun m g1 g2=>by
    rw[List.size_toArray]at g1 g2;obtain⟨w,w1,w2⟩:=e3.get (i:=m) (d:=i[m]'⋯) (by simp);obtain⟨w',w1',w2'⟩:=f3.get (i:=m) (d:=j[m]'⋯) (by simp);obtain⟨uu,b1,b2⟩:=r1.get w1;obtain⟨uu',b1',b2'⟩:=r2.get w1'
    have c1:its.toArray[m]=uu:=by simpa using(List.getElem?_eq_some_iff.mp b1).2
    have c2:jts.toArray[m]=uu':=by simpa using(List.getElem?_eq_some_iff.mp b1').2
    rw[c1,c2];exact(ih A.in1 _ _ w w' uu uu' (e m) (by show A.units+1+n<cLine;lia) w2 w2' b2 b2' (h4 m _ _ (by simp) (by simp))).2
   have main:RcAt A s (.ref p) (.ref q) k:=by
    have z:=RcAt.tuples (e:=e) t1 t2 ⋯ he;rw[List.size_toArray,List.size_toArray,<-l1,<-l2,<-h3,h2]at z;exact z
   refine#[main,?_];by_cases z:p=q
   ·subst z;rw[qJ (n+1) _ _ _ k rx ry h];exact EqAt.same _
   ·exact EqAt.of_refs z main
  ·cases hn;subst hx;subst hy;obtain⟨p,xs,rfl,_,e2,e3⟩:=aG rx;obtain⟨q,ys,rfl,_,f2,f3⟩:=aG ry;cases qx;cases qy;obtain⟨its,r1,t1,z1⟩:=I.list (SqL.of e2);obtain⟨jts,r2,t2,z2⟩:=I.list (SqL.of f2);obtain⟨k',h1,h2⟩:=map_some h;obtain⟨e,h3,h4⟩:=ib h1;have l1:i.length=its.length:=e3.length.trans r1.length;have l2:j.length=jts.length:=f3.length.trans r2.length
   have he:∀ m (g1:m<its.toArray.size) (g2:m<jts.toArray.size),EqAt A.in1 s its.toArray[m] jts.toArray[m] (e m):=fun m g1 g2=>by
    rw[List.size_toArray]at g1 g2;obtain⟨w,w1,w2⟩:=e3.get (i:=m) (d:=i[m]'⋯) (by simp);obtain⟨w',w1',w2'⟩:=f3.get (i:=m) (d:=j[m]'⋯) (by simp);obtain⟨uu,b1,b2⟩:=r1.get w1;obtain⟨uu',b1',b2'⟩:=r2.get w1'
    have c1:its.toArray[m]=uu:=by simpa using(List.getElem?_eq_some_iff.mp b1).2
    have c2:jts.toArray[m]=uu':=by simpa using(List.getElem?_eq_some_iff.mp b1').2
    rw[c1,c2];exact(ih A.in1 _ _ w w' uu uu' (e m) (by show A.units+1+n<cLine;lia) w2 w2' b2 b2' (h4 m _ _ (by simp) (by simp))).2
   have main:RcAt A s (.ref p) (.ref q) k:=by
    by_cases hl:its.length=jts.length
    ·have z:=RcAt.lists (e:=e) t1.isList t2.isList (by rw[List.size_toArray,List.size_toArray];exact hl) ⋯ he;rw[List.size_toArray]at z
     have hk:k=(List.range its.length).all e:=by
      rw[<-h2,h3,l1,l2,hl];simp
     rw[hk];exact z
    ·have hk:k=false:=by
      rw[<-h2,l1,l2];simp[hl]
     rw[hk];exact RcAt.lists_lengths t1.isList t2.isList (by rw[List.size_toArray,List.size_toArray];simpa using hl) ⋯
   refine#[main,?_];by_cases z:p=q
   ·subst z;rw[qJ (n+1) _ _ _ k rx ry h];exact EqAt.same _
   ·exact EqAt.of_refs z main
end rules
section rules
variable{X:Cx}
open SeqAt in
def Hn(I:Inv X pins Y H s)(n:Nat)(A:Around)(x y:RL.D)(v u:V)(va ua:Value)(k:Bool)(hu:A.units+n<cLine)(rx:Rep nP X.K H x v)(ry:Rep nP X.K H y u)(qx:RelV v va)(qy:RelV u ua)
 (h:RL.eqD n x y=some k):RcNeAt A s va ua (!k):=by
 rcases gH h with⟨i,j,rfl,rfl,rfl⟩ | ⟨i,j,rfl,rfl,rfl⟩ | ⟨i,j,rfl,rfl,rfl⟩ | ⟨nn,i,j,hn,hx,hy,h⟩ | ⟨nn,i,j,hn,hx,hy,h⟩
 ·rw[bb rx]at qx;rw[bb ry]at qy;cases qx;cases qy;exact RcNeAt.bool_bool i j
 ·rw[ah rx]at qx;rw[ah ry]at qy;obtain⟨t,rfl⟩:=qx;obtain⟨t',rfl⟩:=qy;exact RcNeAt.int_int i t j t'
 ·rw[aQ rx]at qx;rw[aQ ry]at qy;obtain⟨t,rfl⟩:=qx;obtain⟨t',rfl⟩:=qy;exact RcNeAt.str_str i t j t'
 ·subst hn;subst hx;subst hy;obtain⟨p,xs,rfl,e2,e3⟩:=br rx;obtain⟨q,ys,rfl,f2,f3⟩:=br ry;cases qx;cases qy;obtain⟨its,r1,t1,z1⟩:=I.tuple (SqT.of e2);obtain⟨jts,r2,t2,z2⟩:=I.tuple (SqT.of f2);obtain⟨k',h1,h2⟩:=map_some h;obtain⟨e,h3,h4⟩:=ib h1;have l1:i.length=its.length:=e3.length.trans r1.length;have l2:j.length=jts.length:=f3.length.trans r2.length
  have he:∀ m (g1:m<its.toArray.size) (g2:m<jts.toArray.size),EqAt A.in1 s its.toArray[m] jts.toArray[m] (e m):=fun m g1 g2=>by
   rw[List.size_toArray]at g1 g2;obtain⟨w,w1,w2⟩:=e3.get (i:=m) (d:=i[m]'⋯) (by simp);obtain⟨w',w1',w2'⟩:=f3.get (i:=m) (d:=j[m]'⋯) (by simp);obtain⟨uu,b1,b2⟩:=r1.get w1;obtain⟨uu',b1',b2'⟩:=r2.get w1'
   have c1:its.toArray[m]=uu:=by simpa using(List.getElem?_eq_some_iff.mp b1).2
   have c2:jts.toArray[m]=uu':=by simpa using(List.getElem?_eq_some_iff.mp b1').2
   rw[c1,c2];exact(deep I nn A.in1 _ _ w w' uu uu' (e m) (by show A.units+1+nn<cLine;lia) w2 w2' b2 b2' (h4 m _ _ (by simp) (by simp))).2
  have z:=RcNeAt.tuples (e:=e) t1 t2 ⋯ he;rw[List.size_toArray,List.size_toArray,<-l1,<-l2,<-h3,h2]at z;exact z
 ·subst hn;subst hx;subst hy;obtain⟨p,xs,rfl,_,e2,e3⟩:=aG rx;obtain⟨q,ys,rfl,_,f2,f3⟩:=aG ry;cases qx;cases qy;obtain⟨its,r1,t1,z1⟩:=I.list (SqL.of e2);obtain⟨jts,r2,t2,z2⟩:=I.list (SqL.of f2);obtain⟨k',h1,h2⟩:=map_some h;obtain⟨e,h3,h4⟩:=ib h1;have l1:i.length=its.length:=e3.length.trans r1.length;have l2:j.length=jts.length:=f3.length.trans r2.length
  have he:∀ m (g1:m<its.toArray.size) (g2:m<jts.toArray.size),EqAt A.in1 s its.toArray[m] jts.toArray[m] (e m):=fun m g1 g2=>by
   rw[List.size_toArray]at g1 g2;obtain⟨w,w1,w2⟩:=e3.get (i:=m) (d:=i[m]'⋯) (by simp);obtain⟨w',w1',w2'⟩:=f3.get (i:=m) (d:=j[m]'⋯) (by simp);obtain⟨uu,b1,b2⟩:=r1.get w1;obtain⟨uu',b1',b2'⟩:=r2.get w1'
   have c1:its.toArray[m]=uu:=by simpa using(List.getElem?_eq_some_iff.mp b1).2
   have c2:jts.toArray[m]=uu':=by simpa using(List.getElem?_eq_some_iff.mp b1').2
   rw[c1,c2];exact(deep I nn A.in1 _ _ w w' uu uu' (e m) (by show A.units+1+nn<cLine;lia) w2 w2' b2 b2' (h4 m _ _ (by simp) (by simp))).2
  by_cases hl:its.length=jts.length
  ·have z:=RcNeAt.lists (e:=e) t1.isList t2.isList (by rw[List.size_toArray,List.size_toArray];exact hl) ⋯ he;rw[List.size_toArray]at z
   have hk:k=(List.range its.length).all e:=by
    rw[<-h2,h3,l1,l2,hl];simp
   rw[hk];exact z
  ·have hk:k=false:=by
    rw[<-h2,l1,l2];simp[hl]
   rw[hk];exact RcNeAt.lists_lengths t1.isList t2.isList (by rw[List.size_toArray,List.size_toArray];simpa using hl) ⋯
abbrev dX:RL.Cop->CmpOp
 | .lt=>.Lt
 | .le=>.LtE
 | .gt=>.Gt
 | .ge=>.GtE
 | .eq=>.Eq
 | .ne=>.NotEq
abbrev wu(K:W.Frag)(c:RL.Cop):R2:=fun v u H Q=>∃ x y k,Rep nP K H x v/\Rep nP K H y u/\RL.bz c x y=some k/\Q (.bl k) H
def kf{c:RL.Cop}(hc:c≠.eq)(hc2:c≠.ne)(h:RL.bz c x y=some k):∃ i j,x=.int i/\y=.int j:=by
 have no:∀ {a b:RL.D},RL.bz .lt a b=none->RL.bz .le a b=none->RL.bz .gt a b=none->RL.bz .ge a b=none->RL.bz c a b=some k->False:=fun e1 e2 e3 e4 h=>by
  cases c with
  | eq=>exact hc rfl
  | ne=>exact hc2 rfl
  | lt=>rw[e1]at h;cases h
  | le=>rw[e2]at h;cases h
  | gt=>rw[e3]at h;cases h
  | ge=>rw[e4]at h;cases h
 cases x with
 | int i=>cases y with
  | int j=>exact#[_,_,rfl,rfl]
  | _=>exact(no rfl rfl rfl rfl h).elim
 | _=>exact(no rfl rfl rfl rfl h).elim
def jy{c:RL.Cop}(hu:X.A.units+100<cLine):OpR X (compareOp (dX c)) (wu X.K c):=by
 cb_eq;obtain⟨dx,dy,k,ex,ey,e,q⟩:=h
 have fin:EP X pins Y Q (.bool k) s:=#[.bl k,H,I,rfl,q]
 cases c with
 |eq=>
  have e:RL.eqD 8 dx dy=some k:=e;exact(deep I 8 X.A dx dy x y v u k ⋯ ex ey rx ry e).1 X.prog X.w X.xe _ fin
 |ne=>
  obtain⟨k',e1,e2⟩:=map_some (show(RL.eqD 8 dx dy).map not=some k from e);subst e2;exact Hn I 8 X.A dx dy x y v u k' ⋯ ex ey rx ry e1 X.prog X.w X.xe _ fin
 |lt=>
  obtain⟨i,j,rfl,rfl⟩:=kf ∅ ∅ e;cases e;rw[ah ex]at rx;rw[ah ey]at ry;obtain⟨t,rfl⟩:=rx;obtain⟨t',rfl⟩:=ry;exact lt_int fin
 |le=>
  obtain⟨i,j,rfl,rfl⟩:=kf ∅ ∅ e;cases e;rw[ah ex]at rx;rw[ah ey]at ry;obtain⟨t,rfl⟩:=rx;obtain⟨t',rfl⟩:=ry;exact le_int fin
 |gt=>
  obtain⟨i,j,rfl,rfl⟩:=kf ∅ ∅ e;cases e;rw[ah ex]at rx;rw[ah ey]at ry;obtain⟨t,rfl⟩:=rx;obtain⟨t',rfl⟩:=ry;exact gt_int fin
 |ge=>
  obtain⟨i,j,rfl,rfl⟩:=kf ∅ ∅ e;cases e;rw[ah ex]at rx;rw[ah ey]at ry;obtain⟨t,rfl⟩:=rx;obtain⟨t',rfl⟩:=ry;exact ge_int fin
def kj{c:RL.Cop}(b:Expr):behindInMarks (dX c) b=false:=by cases c<;>exact rH b ∅ ∅
def yG{c:RL.Cop}(h:∃ QP d,RV0 X.K QP Y H/\RL.ev cl QP (.cmp c a' b')=some d/\∀ H',aw H H'->∃ k,d=.bl k/\Q (.bl k) H'):tOp (wu X.K c) (tE X.K cl a') (tE X.K cl b') Y H Q:=by
 kd_p;x_go;gn_on;obtain⟨t,e1,e2⟩:=map_some e;refine two rv ea eb fun v u H1 H2 s1 s2 rx ry _ _=>?_;obtain⟨k',h1,h2⟩:=k H2 (s1.trans s2);rw[h1]at e2;cases e2;exact#[x,y,t,rx,ry,e1,h2]
def qh{c:RL.Cop}(e:RL.ev cl QP (.cmp c a' b')=some d):∃ k,d=.bl k:=by
 x_go;gn_on;obtain⟨t,e1,e2⟩:=map_some e;exact#[t,e2.symm]
def FY{c:RL.Cop}(hu:X.A.units+100<cLine)(ha:SE X cl a a')(hb:SE X cl b b'):SE X cl (.Compare a [dX c] [b] pos) (.cmp c a' b'):=by
 refine PE.weak (pQ (jy hu) ha hb (kj b)) fun Y H Q h=>?_;kd_p;obtain⟨t,rfl⟩:=qh e;exact yG ⟨QP,_,rv,e,fun H' sm=>#[t,rfl,k _ _ (dJ sm)]⟩
def EM{c:RL.Cop}(hu:X.A.units+100<cLine)(ha:SE X cl a a')(hb:SE X cl b b'):ST X cl (.Compare a [dX c] [b] pos) (.cmp c a' b'):=by
 refine PT.weak (l6 (jy hu) ha hb (kj b)) fun Y H Q h=>?_;obtain⟨QP,k,rv,e,q⟩:=h;gp_on;obtain⟨t,rfl⟩:=qh e1;cases e2;exact yG ⟨QP,_,rv,e1,fun H' sm=>#[k,rfl,k,rfl,q H' sm]⟩
def BI{c c':RL.Cop}(b e:Expr):lastMarks [dX c,dX c'] [b,e]=false:=by
 show behindInMarks (dX c') e=false;exact kj e
def ma{c c':RL.Cop}(h:RL.ev cl QP (.chain c c' a' b' e')=some d):∃ k,d=.bl k:=by
 obtain⟨x,ea,h⟩:=bind_some h;obtain⟨y,eb,h⟩:=bind_some h;obtain⟨t,e1,h⟩:=bind_some h
 cases t with
 |true=>
  obtain⟨z,ec,h⟩:=bind_some (show(RL.ev cl QP e').bind _=some d from h);obtain⟨t,e1,e2⟩:=map_some h;exact#[t,e2.symm]
 | false=>exact#[false,(Option.some.inj (show some (RL.D.bl false)=some d from h)).symm]
def tm{c c':RL.Cop}(h:∃ QP k,RV0 X.K QP Y H/\RL.ev cl QP (.chain c c' a' b' e')=some (.bl k)/\∀ H',aw H H'->Q (.bl k) H') :
  tQ (wu X.K c) (wu X.K c') (tE X.K cl a') (tE X.K cl b') (tE X.K cl e') Y H Q:=by
 obtain⟨QP,k,rv,h,q⟩:=h;obtain⟨x,ea,h⟩:=bind_some h;obtain⟨y,eb,h⟩:=bind_some h;obtain⟨t,e1,h⟩:=bind_some h;refine two rv ea eb fun v u H1 H2 s1 s2 rx ry _ _=>?_;refine#[x,y,t,rx,ry,e1,t,rfl,?_];have sm:=s1.trans s2
 cases t with
 |true=>
  rw[if_pos rfl]at h;obtain⟨z,ec,h⟩:=bind_some h;obtain⟨t,e3,e2⟩:=map_some h;cases e2;exact fI ⟨QP,z,rv.same sm,ec,fun w H3 r3=>#[y,z,k,ry.same r3.same,r3.rep,e3,q H3 (sm.trans r3.same)]⟩
 |false=>
  rw[if_neg ∅]at h;cases h;exact fX (q H2 sm)
def Bf{c c':RL.Cop}(hu:X.A.units+100<cLine)(ha:SE X cl a a')(hb:SE X cl b b')(he:SE X cl e e'):SE X cl (.Compare a [dX c,dX c'] [b,e] pos) (.chain c c' a' b' e'):=by
 refine PE.weak (Bj (jy hu) (jy hu) ha hb he (BI b e)) fun Y H Q h=>?_;obtain⟨QP,d,rv,h,k⟩:=h;obtain⟨t,rfl⟩:=ma h;exact tm ⟨QP,t,rv,h,fun H' sm=>k _ _ (dJ sm)⟩
def By{c c':RL.Cop}(hu:X.A.units+100<cLine)(ha:SE X cl a a')(hb:SE X cl b b')(he:SE X cl e e'):ST X cl (.Compare a [dX c,dX c'] [b,e] pos) (.chain c c' a' b' e'):=by
 refine PT.weak (AV (jy hu) (jy hu) ha hb he (BI b e)) fun Y H Q h=>?_;obtain⟨QP,k,rv,h,q⟩:=h;obtain⟨d,e1,e2⟩:=bind_some h;obtain⟨t,rfl⟩:=ma e1;cases e2;exact tm ⟨QP,k,rv,e1,fun H' sm=>#[k,rfl,q H' sm]⟩
end rules
section rules
variable{X:Cx}
def qc{neg:Bool}(b:Expr):behindInMarks (if neg then .IsNot else .Is) b=false:=by cases neg<;>exact rH b ∅ ∅
def vk{neg:Bool}:OpR X (compareOp (if neg then .IsNot else .Is)) (fun x y H Q=>y=.non/\Q (.bl (if neg then !decide (x=.non)else decide (x=.non))) H):=by
 cases neg with
 | true=>exact Dc
 | false=>exact Ga
def zy(h:RL.ev cl QP (.isN neg a')=some d):∃ x,RL.ev cl QP a'=some x/\∀ v (H:Hp),Rep nP X.K H x v->d=.bl (if neg then !decide (v=.non)else decide (v=.non)):=by
 obtain⟨x,ea,h⟩:=bind_some h;refine#[x,ea,fun v H r=>?_]
 cases x with
 | non=>cases h;rw[Rep]at r;subst r;cases neg<;>rfl
 | bl k=>cases h;rw[bb r];cases neg<;>rfl
 | int k=>cases h;rw[ah r];cases neg<;>rfl
 | str k=>cases h;rw[aQ r];cases neg<;>rfl
 | tup k=>cases h;obtain⟨p,xs,rfl,_⟩:=br r;cases neg<;>rfl
 | lst k=>cases h;obtain⟨p,xs,rfl,_⟩:=aG r;cases neg<;>rfl
 | scr k=>cases h;rw[Rep]at r;obtain⟨p,xs,rfl,_⟩:=r;cases neg<;>rfl
 | exc k=>cases h;rw[Rep]at r;obtain⟨p,_,_,_,_,rfl,_⟩:=r;cases neg<;>rfl
 | dK _ _=>cases h
 | dT _ _=>cases h
def G3(ha:SE X cl a a'):SE X cl (.Compare a [if neg then .IsNot else .Is] [.Constant .none j p] pos) (.isN neg a'):=by
 refine PE.weak (pQ vk ha u9 (qc _)) fun Y H Q h=>?_;obtain⟨QP,d,rv,e,q⟩:=h;obtain⟨x,ea,hx⟩:=zy (X:=X) e;refine#[QP,_,rv,ea,fun v H1 r1=>#[rfl,?_]];have hd:=hx v H1 r1.rep;subst hd;exact q _ _ (dJ r1.same)
def FW(ha:SE X cl a a'):ST X cl (.Compare a [if neg then .IsNot else .Is] [.Constant .none j p] pos) (.isN neg a'):=by
 refine PT.weak (l6 vk ha u9 (qc _)) fun Y H Q h=>?_;obtain⟨QP,k,rv,e,q⟩:=h;gp_on;obtain⟨x,ea,hx⟩:=zy (X:=X) e1;refine#[QP,_,rv,ea,fun v H1 r1=>#[rfl,?_]];have hd:=hx v H1 r1.rep;subst hd;cases e2;exact#[_,rfl,q _ r1.same]
def fP{P:Addr->Prop}{K:W.Frag}(h:RL.items d=some ds)(r:Rep P K H d v):∃ p xs,v=.ref p/\((H p=some (.lst xs)/\d=.lst ds)\/(H p=some (.tup xs)/\d=.tup ds))/\af P K H ds xs:=by
 cases d<;>simp only[RL.items]at h<;>first | (cases h;done) | skip
 case lst ys=>cases h;obtain⟨p,xs,e1,_,e2,e3⟩:=aG r;exact#[p,xs,e1,.inl #[e2,rfl],e3]
 case tup ys=>cases h;obtain⟨p,xs,e1,e2,e3⟩:=br r;exact#[p,xs,e1,.inr #[e2,rfl],e3]
def vC{P:Addr->Prop}{K:W.Frag}(h:RL.flat d=true)(r:Rep P K H d v):gp v=true/\∀ d' v',RL.flat d'=true->Rep P K H d' v'->RL.eqF d d'=eqV v v':=by
 cases d<;>simp only[RL.flat]at h<;>first | (cases h;done) | skip
 case int i =>
  rw[ah r];refine#[rfl,fun d' v' h' r'=>?_]
  cases d'<;>simp only[RL.flat]at h'<;>first | (cases h';done) | skip
  case int j=>rw[ah r'];simp[RL.eqF,eqV]
  case str j=>rw[aQ r'];simp[RL.eqF,eqV]
 case str i =>
  rw[aQ r];refine#[rfl,fun d' v' h' r'=>?_]
  cases d'<;>simp only[RL.flat]at h'<;>first | (cases h';done) | skip
  case int j=>rw[ah r'];simp[RL.eqF,eqV]
  case str j=>rw[aQ r'];simp[RL.eqF,eqV]
def sy{P:Addr->Prop}{K:W.Frag}(hf:RL.flat d=true)(r:Rep P K H d v):∀ {ds:List RL.D} {xs:List V},ds.all RL.flat=true->af P K H ds xs->xs.all gp=true/\(ds.any fun x=>RL.eqF x d)=inV v xs
 | [],xs,_,h=>by rw[af]at h;subst h;exact#[rfl,rfl]
 | e::t,xs,ha,h=>by
  rw[af]at h;obtain⟨x,ys,rfl,e2,e3⟩:=h;rw[Qx,Bool.and_eq_true]at ha;obtain⟨h1,h2⟩:=sy hf r ha.2 e3;obtain⟨h3,h4⟩:=vC ha.1 e2;refine#[by rw[Qx,h3,h1];rfl,?_];rw[List.any_cons,h2,h4 d v hf r];rfl
def yJ:OpR X (compareOp (if neg then .NotIn else .In)) (rIn X.K neg):=by
 cases neg with
 | true=>exact tq
 | false=>exact yT
def yC(rv:RV0 X.K QP Y H)(e:RL.ev cl QP (.inn neg a' b')=some d)(k:∀ t H',d=.bl t->aw H H'->Q (.bl t) H'):tOp (rIn X.K neg) (tE X.K cl a') (tE X.K cl b') Y H Q:=by
 x_go;gn_on;obtain⟨t,e1,e2⟩:=map_some e;unfold RL.inV at e1;obtain⟨ds,e3,e4⟩:=bind_some e1;by_cases hc:(RL.flat x&&ds.all RL.flat)=true
 ·rw[if_pos hc]at e4;cases e4;rw[Bool.and_eq_true]at hc;refine two rv ea eb fun v u H1 H2 s1 s2 rx ry _ _=>?_;obtain⟨p,xs,rfl,hp,rs⟩:=fP e3 ry;obtain⟨h1,h2⟩:=sy hc.1 rx hc.2 rs;refine#[p,xs,rfl,?_,(vC hc.1 rx).1,h1,?_]
  ·rcases hp with⟨z,_⟩ | ⟨z,_⟩
   ·exact .inl (SqL.of z)
   ·exact .inr (SqT.of z)
  ·refine k _ _ ?_ (s1.trans s2);rw[<-e2,h2]
 ·rw[if_neg hc]at e4;cases e4
abbrev mJ:Expr->Bool
 | .Set _ _ _=>false
 | _=>true
def iK(h:mJ b=true):behindInMarks op b=false:=by
 cases b<;>first | rfl | (cases h)
def Gr(ha:SE X cl a a')(hb:SE X cl b b')(hm:mJ b=true):SE X cl (.Compare a [if neg then .NotIn else .In] [b] pos) (.inn neg a' b'):=by
 refine PE.weak (pQ yJ ha hb (iK hm)) fun Y H Q h=>?_;obtain⟨QP,d,rv,e,q⟩:=h
 exact yC rv e fun t H' hd sm=>by subst hd;exact q _ _ (dJ sm)
def Fp(ha:SE X cl a a')(hb:SE X cl b b')(hm:mJ b=true):ST X cl (.Compare a [if neg then .NotIn else .In] [b] pos) (.inn neg a' b'):=by
 refine PT.weak (l6 yJ ha hb (iK hm)) fun Y H Q h=>?_;obtain⟨QP,k,rv,e,q⟩:=h;gp_on;refine yC rv e1 fun t H' hd sm=>?_;subst hd;cases e2;exact#[_,rfl,q _ sm]
abbrev spF(K:W.Frag)(cl:RL.Cl)(f:Nat):Sp:=fun vs H Q _=>∃ ds d,af nP K H ds vs/\cl f ds=some d/\∀ v H',aw H H'->Rep (fun p=>H p≠none) K H' d v->Q v H'
def DO(F:eJ X.prog X.w X.K X.mg X.base CX0 k fa fd ps (spF X.K cl f))(hr:cJ k X.A)(hg:Gl X x)
 (hm:X.mg x=some (.ref fa))(hk:W.keepIn X.K (.ref fa)=true)(hb:Binds X.K fd ps [])(he:SEs X cl (e::es) (.cons e' es'))(hdb:(x == ("__debug__" : Str))=false)(hn:noStar e=true)(hns:es.all noStar=true) :
  SE X cl (.Call (.Name x p) (e::es) [] pos) (.call f (.cons e' es')):=by
 refine PE.weak (vA F hr hg hm hk hb .nil Cj he hdb (ay es hn) (cU hns)) fun Y H Q h=>?_;obtain⟨QP,d,rv,ev,q⟩:=h;obtain⟨ds,e1,e2⟩:=bind_some ev;refine#[QP,ds,rv,e1,fun vs H1 s1 r1=>?_];show spF X.K cl f (vs++[]) H1 Q E0;rw[QD];refine#[ds,d,r1,e2,fun v H2 s2 r2=>q v H2 #[s1.trans s2,r2.none,fun _ m a z=>?_,fun M _ P hP _=>?_]]
 ·subst z
  have hh:H1 a=none:=by
   cases d with
   | lst ds=>obtain⟨p,xs,e1,e2,_⟩:=aG r2;cases e1;exact Classical.byContradiction e2
   | dK ks ds=>rw[Rep]at r2;obtain⟨p,xs,e1,e2,_⟩:=r2;cases e1;exact Classical.byContradiction e2
   | dT ks ds=>rw[Rep]at r2;obtain⟨p,xs,e1,e2,_⟩:=r2;cases e1;exact Classical.byContradiction e2
   | _=>cases m
  exact s1.free hh
 ·refine r2.weak fun a z=>?_;obtain⟨o,ho⟩:=Option.ne_none_iff_exists'.mp (hP a z);rw[s1 _ _ ho]
  exact fun q=>nomatch q
end rules
abbrev Off(P:Addr->Prop)(H H':Hp):Prop:=∀ b o,¬ P b->H b=some o->H' b=some o
def Off.same{H H':Hp}(h:aw H H'){P:Addr->Prop}:Off P H H':=fun b o _ e=>h b o e
mutual
theorem Rep.off{P:Addr->Prop}{K:W.Frag}{H H':Hp}(hm:∀ b o,P b->H b=some o->cX o)(k:Off P H H'):∀ {d:RL.D} {v:V},Rep P K H d v->Rep P K H' d v
 | .non,v,h=>by simpa[Rep]using h
 | .bl _,v,h=>by simpa[Rep]using h
 | .int _,v,h=>by simpa[Rep]using h
 | .str _,v,h=>by simpa[Rep]using h
 | .tup ds,v,h=>by
  k_asm;obtain⟨b,xs,e1,e2,e3⟩:=h
  have n:¬ P b:=fun p=>by rcases hm b _ p e2 with⟨z,q⟩ | ⟨z,q⟩ | ⟨z,q⟩<;>cases q
  exact#[b,xs,e1,k _ _ n e2,af.off hm k e3]
 | .lst ds,v,h=>by
  k_asm;obtain⟨b,xs,e1,e0,e2,e3⟩:=h;exact#[b,xs,e1,e0,k _ _ e0 e2,af.off hm k e3]
 | .dK ks ds,v,h=>by
  k_asm;obtain⟨b,xs,e1,e0,e2,el,e3⟩:=h;exact#[b,xs,e1,e0,k _ _ e0 e2,el,af.off hm k e3]
 | .dT ks ds,v,h=>by
  k_asm;obtain⟨b,xs,e1,e0,e2,el,e3⟩:=h;exact#[b,xs,e1,e0,k _ _ e0 e2,el,af.off hm k e3]
 | .scr ds,v,h=>by
  k_asm;obtain⟨b,xs,e1,e2,e3⟩:=h;refine#[b,xs,e1,?_,af.off hm k e3];rcases e2 with⟨q,e2⟩ | e2
  ·have n:¬ P b:=fun p=>by rcases hm b _ p e2 with⟨z,q⟩ | ⟨z,q⟩ | ⟨z,q⟩<;>cases q
   exact .inl #[q,k _ _ n e2]
  ·exact .inr e2
 | .exc c,v,h=>by
  k_asm;exact h.keep fun b ob u q=>k _ _ (fun p=>by rcases hm b _ p q with⟨z,y⟩ | ⟨z,y⟩ | ⟨z,y⟩<;>cases y) q
theorem af.off{P:Addr->Prop}{K:W.Frag}{H H':Hp}(hm:∀ b o,P b->H b=some o->cX o)(k:Off P H H'):∀ {ds:List RL.D} {xs:List V},af P K H ds xs->af P K H' ds xs
 | [],xs,h=>by rw[af]at h ⊢;exact h
 | d::r,xs,h=>by
  rw[af]at h ⊢;obtain⟨x,t,e1,e2,e3⟩:=h;exact#[x,t,e1,Rep.off hm k e2,af.off hm k e3]
end
structure ja(K:W.Frag)(J:L2.It)(ds:List RL.D)(P:Addr->Prop)(H:Hp):Prop where
 go:∀ H' i,Off P H H'->i<ds.length->J.go i H'
 stop:∀ H',Off P H H'->J.stop ds.length H'
 yld:∀ H' i d x H2,Off P H H'->ds[i]?=some d->J.yld i H' x H2->aw H' H2/\(d.imm=true\/aw H H'->Rep nP K H2 d x)
abbrev Cm(K:W.Frag)(QP:RL.St)(Y:L2.St)(H:Hp)(it:RL.It)(J:L2.It)(ds:List RL.D)(H1:Hp):Prop :=
 ja K J ds nP H1/\∀ (M:List Nat) (P:Addr->Prop),RL.tY M it=true->(∀ b,P b->∃ o,H b=some o/\cX o)->(∀ (j:Nat) (dj:RL.D) (vj:V),M.contains j=false->QP[j]?=some (some dj)->Y[j]?=some (some vj)->Rep P K H dj vj)->ja K J ds P H1
abbrev tI(K:W.Frag)(cl:RL.Cl)(it:RL.It):TI:=fun Y H R=>∃ QP ds,RV0 K QP Y H/\RL.bG cl QP it=some ds/\∀ J H1,aw H H1->Cm K QP Y H it J ds H1->R J H1
abbrev SI(X:Cx)(cl:RL.Cl)(tg iter:Expr)(it:RL.It):Prop:=PI X tg iter (tI X.K cl it)
def PI.weak{X:Cx}{tg iter:Expr}{t t':TI}(h:PI X tg iter t)(w:∀ Y H R,t' Y H R->t Y H R):PI X tg iter t':=fun pins s Y H R I q=>h pins s Y H R I (w Y H R q)
def ip{K:W.Frag}{P:Addr->Prop}{H H':Hp}{d:RL.D}{v:V}(hm:∀ b o,P b->H b=some o->cX o)(k:Off P H H')(r:Rep nP K H d v)(i:d.imm=true):Rep nP K H' d v :=
 ((r.imm i).off hm k).imm i
def vJ{K:W.Frag}{H:Hp}{a:Addr}{ds:List RL.D}{xs:List V}{P:Addr->Prop}(h:H a=some (.lst xs))(r:af nP K H ds xs)(hp:¬ P a)(hm:∀ b o,P b->H b=some o->cX o):ja K (Itl K a) ds P H where
 go:=fun H' i k hi=>by
  obtain⟨x,e,_⟩:=r.get (i:=i) (d:=ds[i]) (by simp[hi]);exact#[xs,x,SqL.of (k _ _ hp h),e]
 stop:=fun H' k=>#[xs,SqL.of (k _ _ hp h),by rw[r.length];exact Qc _]
 yld:=fun H' i d x H2 k e y=>by
  obtain⟨z,y⟩:=y;subst z;have hx:=y xs (SqL.of (k _ _ hp h));obtain⟨x',e1,e2⟩:=r.get e;rw[hx]at e1;cases e1;refine#[aw.refl _,fun q=>?_];rcases q with q | q
  ·exact ip hm k e2 q
  ·exact e2.same q
def zE{K:W.Frag}{H:Hp}{a:Addr}{ds:List RL.D}{xs:List V}{P:Addr->Prop}(h:H a=some (.tup xs))(r:af nP K H ds xs)(hm:∀ b o,P b->H b=some o->cX o):ja K (Itt K a) ds P H:=by
 have hp:¬ P a:=fun p=>by rcases hm a _ p h with⟨z,q⟩ | ⟨z,q⟩ | ⟨z,q⟩<;>cases q
 exact {
  go:=fun H' i k hi=>by
   obtain⟨x,e,_⟩:=r.get (i:=i) (d:=ds[i]) (by simp[hi]);exact#[xs,x,SqT.of (k _ _ hp h),e]
  stop:=fun H' k=>#[xs,SqT.of (k _ _ hp h),by rw[r.length];exact Qc _]
  yld:=fun H' i d x H2 k e y=>by
   obtain⟨z,y⟩:=y;subst z;have hx:=y xs (SqT.of (k _ _ hp h));obtain⟨x',e1,e2⟩:=r.get e;rw[hx]at e1;cases e1;refine#[aw.refl _,fun q=>?_];rcases q with q | q
   ·exact ip hm k e2 q
   ·exact e2.same q }
def nW:∀ (n:Nat) (lo:Int) (i:Nat) (d:RL.D),(RL.cO lo n)[i]?=some d->d=.int (lo+i)
 | 0,lo,i,d,h=>by simp[RL.cO]at h
 | n+1,lo,0,d,h=>by simp[RL.cO]at h;simp[h]
 | n+1,lo,i+1,d,h=>by
  rw[RL.cO,List.getElem?_cons_succ]at h;rw[nW n (lo+1) i d h];congr 1;lia
def jC:∀ (n:Nat) (lo:Int),(RL.cO lo n).length=n
 | 0,_=>rfl
 | n+1,lo=>by rw[RL.cO,List.length_cons,jC n]
def nH{K:W.Frag}{H:Hp}{lo:Int}{n:Nat}{P:Addr->Prop}:ja K (Itr lo n) (RL.cO lo n) P H where
 go:=fun H' i k hi=>by rw[jC]at hi;exact hi
 stop:=fun H' k=>by rw[jC];exact Qc _
 yld:=fun H' i d x H2 k e y=>by
  obtain⟨z,y⟩:=y;subst z;refine#[aw.refl _,fun _=>?_];rw[nW n lo i d e,y];exact bh
section rules
variable{X:Cx}{cl:RL.Cl}{tg a b l:Expr}{a' b' e':RL.E}{pos p:Pos}
def Ia{t t':TE}{l:Expr}(hl:PE X l t):PI X tg l (fun Y H R=>t Y H fun x H1=>(∃ a,x=.ref a/\(∃ xs,SqL X.K H1 a xs)/\R (Itl X.K a) H1)\/(∃ a,x=.ref a/\(∃ xs,SqT X.K H1 a xs)/\R (Itt X.K a) H1)):=by
 intro pins s Y H R I h;refine thn (hl pins s Y H _ I h) fun v s1 ⟨x,H1,I1,r1,q1⟩=>?_
 rcases q1 with⟨a,e,⟨xs,hq⟩,q⟩ | ⟨a,e,⟨xs,hq⟩,q⟩
 ·subst e;cases r1;obtain⟨its,rv,p,hz⟩:=I1.list hq;refine wpAny_pyIter_list p.isList ⟨s1.heap.objs.size,[s1.heap.objs.size],_,_,H1,rfl,I1.kept (t':=s1.toks) fun b o e=>Qa _ e,yv a _,⟨_,Qe _ rfl,rfl,rfl⟩,fun b hb=>?_,q⟩;rw[show b=s1.heap.objs.size by simpa using hb];exact I1.oM (Qc _) (I1.hok.fresh (Qc _))
 ·subst e;cases r1;obtain⟨its,rv,p,hz⟩:=I1.tuple hq;refine wpAny_pyIter_tuple (show s1.heap.IsTuple a its.toArray from p) ⟨s1.heap.objs.size,[s1.heap.objs.size],_,_,H1,rfl,I1.kept (t':=s1.toks) fun b o e=>Qa _ e,wo a _,⟨_,Qe _ rfl,rfl,rfl⟩,fun b hb=>?_,q⟩;rw[show b=s1.heap.objs.size by simpa using hb];exact I1.oM (Qc _) (I1.hok.fresh (Qc _))
def nD{QP:RL.St}{Y:L2.St}{H H1:Hp}{d:RL.D}{v:V}{M:List Nat}{P:Addr->Prop}(r1:Res X.K QP Y H e' d v H1)(z:(RL.avE M e' || RL.aM e')=true)(hP:∀ b,P b->∃ o,H b=some o/\cX o)
 (av:∀ (j:Nat) (dj:RL.D) (vj:V),M.contains j=false->QP[j]?=some (some dj)->Y[j]?=some (some vj)->Rep P X.K H dj vj):∀ ds a,d=.lst ds->v=.ref a->¬ P a:=by
 intro ds a hd hv;subst hd hv;rw[Bool.or_eq_true]at z;rcases z with z | z
 ·obtain⟨p,xs,e1,e2,_⟩:=aG (r1.av M z P (fun b q=>by obtain⟨o,ho,_⟩:=hP b q;rw[ho];exact fun z=>nomatch z) av);cases e1;exact e2
 ·intro q;obtain⟨o,ho,_⟩:=hP a q;rw[r1.fresh z rfl a rfl]at ho;cases ho
def eT{P:Addr->Prop}{H H1:Hp}(s:aw H H1)(hP:∀ b,P b->∃ o,H b=some o/\cX o):∀ b o,P b->H1 b=some o->cX o:=fun b o q e=>by
 obtain⟨o',ho,m⟩:=hP b q;rw[s _ _ ho]at e;cases e;exact m
def iw{H1:Hp}:∀ b o,nP b->H1 b=some o->cX o:=fun b o q=>q.elim
def FG(hl:SE X cl l e')(hs:True):PI X tg l (fun Y H R=>∃ QP d ds,RV0 X.K QP Y H/\RL.ev cl QP e'=some d/\RL.items d=some ds/\∀ J H1,aw H H1->Cm X.K QP Y H (.seq e') J ds H1->R J H1):=by
 refine PI.weak (Ia (t':=tE X.K cl e') hl) fun Y H R h=>?_;obtain⟨QP,d,ds,rv,e,ei,k⟩:=h;refine#[QP,d,rv,e,fun v H1 r1=>?_];obtain⟨p,xs,rfl,hp,rs⟩:=fP ei r1.rep
 rcases hp with⟨hp,rfl⟩ | ⟨hp,rfl⟩
 ·refine .inl #[p,rfl,#[xs,SqL.of hp],k _ _ r1.same #[vJ hp rs (fun z=>z) iw,fun M P z hP av=>vJ hp rs (nD r1 z hP av _ _ rfl rfl) (eT r1.same hP)]]
 ·exact .inr #[p,rfl,#[xs,SqT.of hp],k _ _ r1.same #[zE hp rs iw,fun M P z hP av=>zE hp rs (eT r1.same hP)]]
def oa{x y:RL.D}{ds:List RL.D}(h:RL.cW x y=some ds):∃ i j:Int,x=.int i/\y=.int j/\(-(2 ^ 62)<=i/\i<2 ^ 62/\-(2 ^ 62)<=j/\j<2 ^ 62)/\(j-i).toNat<=RL.most/\ds=RL.cO i (j-i).toNat:=by
 have no:∀ {o:Option (List RL.D)},o=none->o=some ds->False:=fun e h=>by rw[e]at h;cases h
 cases x with
 | int i=>cases y with
  |int j=>
   obtain⟨hc,e⟩:=cS h
   have lo:-(2 ^ 62:Int)<=-(2 ^ 60):=by decide
   have hi:(2 ^ 60:Int)<2 ^ 62:=by decide
   exact#[i,j,rfl,rfl,#[Int.le_trans lo hc.2.1,Int.lt_trans hc.2.2.1 hi,Int.le_trans lo hc.2.2.2.1,Int.lt_trans hc.2.2.2.2 hi],hc.1,e]
  | _=>exact(no rfl h).elim
 | _=>exact(no rfl h).elim
def DP(hg:Gl X "range")(hm:X.mg "range" = none)(ha:SE X cl a a')(hn:noStar a=true):SI X cl tg (.Call (.Name "range" p) [a] [] pos) (.rng1 a'):=by
 refine PI.weak (zT hg hm (bM (cl:=cl) ha cY hn) (ay [] hn)) fun Y H R h=>?_;obtain⟨QP,ds,rv,e,k⟩:=h;x_go;obtain⟨i,j,e1,rfl,hb,_,rfl⟩:=oa e;cases e1;refine#[QP,[.int j],rv,by rw[RL.evs,ea];rfl,fun vs H1 s1 r1=>?_];rw[af]at r1;obtain⟨v,t,rfl,r2,r3⟩:=r1;rw[af]at r3;subst r3;refine#[j,by rw[ah r2],hb.2.2.1,hb.2.2.2,?_]
 have hz:(j-0).toNat=j.toNat:=by simp
 rw[hz]at k;exact k _ _ s1 ⟨nH,fun _ _ _ _ _=>nH⟩
def CD(hg:Gl X "range")(hm:X.mg "range" = none)(ha:SE X cl a a')(hb:SE X cl b b')(hn:noStar a=true)(hn2:noStar b=true):SI X cl tg (.Call (.Name "range" p) [a,b] [] pos) (.rng2 a' b'):=by
 refine PI.weak (zM hg hm (bM (cl:=cl) ha (bM hb cY hn2) hn) (by rw[ay _ hn,ay _ hn2];rfl) (ay [] hn2)) fun Y H R h=>?_;obtain⟨QP,ds,rv,e,k⟩:=h;x_go;gn_on;obtain⟨i,j,rfl,rfl,hb,_,rfl⟩:=oa e;refine#[QP,[.int i,.int j],rv,by rw[RL.evs,ea,RL.evs,eb];rfl,fun vs H1 s1 r1=>?_];rw[af]at r1;obtain⟨v,t,rfl,r2,r3⟩:=r1;rw[af]at r3;obtain⟨u,t,rfl,r4,r5⟩:=r3;rw[af]at r5;subst r5;exact#[i,j,by rw[ah r2,ah r4],hb,k _ _ s1 #[nH,fun _ _ _ _ _=>nH]]
end rules
end RS
namespace L2
open PySem PySem.Spec PyProof.Rows
abbrev iD(ifs:List Expr)(env:Env):Sem Bool:=forIn ifs true fun c r=>if r=true then do let ok <- isTrue c env (eval c env);pure (ForInStep.yield ok)else pure (ForInStep.yield r)
section
def G8(h:wpAny M A m P (fun _ _=>False) s):wpAny M A m P E s :=
 wpAny_mono h (fun _ _ q=>q) fun _ _ z=>z.elim
def dI(h:wpAny M A m (fun a s1=>wpAny M A (k a) P E s1) (fun _ _=>False) s):wpAny M A (m >>= k) P E s:=Qb (G8 h)
end
section
abbrev qm(prog:Program)(w:World)(A:Around)(elt tg:Expr)(ifs:List Expr)(it acc:Value)(env:Env)(stop next:Shared->Prop)(s:Shared):Prop :=
 wpAny (model prog w) A (pyNext it) (fun r s1=>match r with
  | none=>stop s1
  | some v=>wpAny (model prog w) A (letOwnedTupleGo tg it v) (fun _ s2=>wpAny (model prog w) A (assign tg env v) (fun _ s3=>wpAny (model prog w) A (iD ifs env) (fun ok s4 =>
     if ok=true then wpAny (model prog w) A (eval elt env) (fun x s5=>wpAny (model prog w) A (call (.builtin "list.append") [acc,x]) (fun _ s6=>next s6) (fun _ _=>False) s5) (fun _ _=>False) s4
     else next s4) (fun _ _=>False) s3) (fun _ _=>False) s2) (fun _ _=>False) s1) (fun _ _=>False) s
def Bo(h:qm prog w A elt tg ifs it acc env stop next s) :
  wpAny (model prog w) A (compTurn (.ListComp elt [⟨tg,iter,ifs,0⟩] scope pos) 0 it acc env) (fun fin s'=>match fin with
   | .done f=>f=.next/\stop s'
   | .again c=>c=.compLoop (.ListComp elt [⟨tg,iter,ifs,0⟩] scope pos) 0 it acc env/\next s') E s:=by
 rw[compTurn_list];f_are;apply wpAny_standAt;apply dI;refine thn h fun r s1 h1=>?_
 cases r with
 |none=>
  apply Qd;exact#[rfl,h1]
 |some v=>
  apply dI;refine thn h1 fun _ s2 h2=>?_;apply dI;refine thn h2 fun _ s3 h3=>?_;apply dI;refine thn h3 fun ok s4 h4=>?_;cases ok
  ·apply Qd;exact#[rfl,h4]
  ·f_are;apply dI;refine thn h4 fun x s5 h5=>?_;apply dI;refine thn h5 fun _ s6 h6=>?_;apply Qd;apply Qd;exact#[rfl,h6]
def yP(I:Nat->Shared->Prop)(turn:∀ n s,I n s->qm prog w A elt tg ifs it acc env (R (.ok .next)) (fun s'=>∃ m,m<n/\I m s') s)
 (n:Nat)(h:I n s):codeAny (model prog w) A (.compLoop (.ListComp elt [⟨tg,iter,ifs,0⟩] scope pos) 0 it acc env) R s :=
 codeAny_loop (M:=model prog w) rfl I (fun n s hI=>wpAny_noted (thn (Bo (turn n s hI)) fun fin s' q=>by
  cases fin with
  |done f=>
   obtain⟨rfl,q⟩:=q;exact q
  | again c=>exact q)) n h
end
def lF:∀ (names:List (Str × NameKind)) (n:Nat) (acc:List (Str × Addr)) (x:Str) (c:Addr),(cellsFrom n names acc).lookup x=some c->(acc.lookup x=some c/\(x,NameKind.cell)∉names)\/(n<=c/\(x,NameKind.cell)∈names)
 | [],n,acc,x,c,h=>.inl #[h,by simp]
 | (nm,k)::r,n,acc,x,c,h=>by
  unfold cellsFrom at h;by_cases hk:(k == NameKind.cell)=true
  ·rw[if_pos hk]at h
   have ek:k=.cell:=by simpa using hk
   subst ek
   rcases lF r (n+1) ((nm,n)::acc) x c h with⟨a,b⟩ | ⟨a,b⟩
   ·rw[List.lookup_cons]at a
    cases hx:x == nm with
    |true=>
     rw[hx]at a;cases a
     have:x=nm:=by simpa using hx
     subst this;exact .inr #[Qc _,Qq ..]
    |false=>
     rw[hx]at a;refine .inl #[a,fun z=>?_];rcases List.mem_cons.mp z with z | z
     ·cases z;simp at hx
     ·exact b z
   ·exact .inr #[Nat.le_of_succ_le a,Ql _ b]
  ·rw[if_neg hk]at h
   rcases lF r n acc x c h with⟨a,b⟩ | ⟨a,b⟩
   ·refine .inl #[a,fun z=>?_];rcases List.mem_cons.mp z with z | z
    ·cases z;exact hk (by simp)
    ·exact b z
   ·exact .inr #[a,Ql _ b]
def oG:∀ (names:List (Str × NameKind)) (n:Nat) (acc:List (Str × Addr)) (x:Str),(x,NameKind.cell)∉names->(cellsFrom n names acc).lookup x=acc.lookup x
 | [],n,acc,x,_=>rfl
 | (nm,k)::r,n,acc,x,h=>by
  have hr:(x,NameKind.cell)∉r:=fun z=>h (Ql _ z);unfold cellsFrom;by_cases hk:(k == NameKind.cell)=true
  ·rw[if_pos hk,oG r (n+1) _ x hr,List.lookup_cons]
   have ek:k=.cell:=by simpa using hk
   subst ek
   have:(x == nm)=false:=by
    rw[beq_eq_false_iff_ne];intro z;subst z;exact h (Qq ..)
   rw[this]
  ·rw[if_neg hk];exact oG r n acc x hr
def rY:∀ (names:List (Str × NameKind)) (n:Nat) (acc:List (Str × Addr)),(∀ x c,acc.lookup x=some c->c<n)->(∀ x y c,acc.lookup x=some c->acc.lookup y=some c->x=y)->∀ x y c,(cellsFrom n names acc).lookup x=some c->(cellsFrom n names acc).lookup y=some c->x=y
 | [],n,acc,_,hi,x,y,c,h1,h2=>hi x y c h1 h2
 | (nm,k)::r,n,acc,hl,hi,x,y,c,h1,h2=>by
  unfold cellsFrom at h1 h2;by_cases hk:(k == NameKind.cell)=true
  ·rw[if_pos hk]at h1 h2;refine rY r (n+1) ((nm,n)::acc) (fun x c e=>?_) (fun x y c e1 e2=>?_) x y c h1 h2
   ·rw[List.lookup_cons]at e
    cases hx:x == nm with
    | true=>rw[hx]at e;cases e;exact Nat.lt_succ_self _
    | false=>rw[hx]at e;exact Nat.lt_succ_of_lt (hl x c e)
   ·rw[List.lookup_cons]at e1 e2
    cases hx:x == nm with
    |true=>
     rw[hx]at e1;cases e1
     cases hy:y == nm with
     |true=>
      have a:x=nm:=by simpa using hx
      have b:y=nm:=by simpa using hy
      rw[a,b]
     |false=>
      rw[hy]at e2;exact absurd (hl y n e2) (QC _)
    |false=>
     rw[hx]at e1
     cases hy:y == nm with
     |true=>
      rw[hy]at e2;cases e2;exact absurd (hl x n e1) (QC _)
     |false=>
      rw[hy]at e2;exact hi x y c e1 e2
  ·rw[if_neg hk]at h1 h2;exact rY r n acc hl hi x y c h1 h2
def oK:∀ (names:List (Str × NameKind)) (h:Heap) (acc:List (Str × Addr)) (x:Str) (c:Addr),(cellsFrom h.objs.size names acc).lookup x=some c->acc.lookup x=some c\/(pushCells h names).IsCell c none
 | [],h,acc,x,c,e=>.inl e
 | (nm,k)::r,h,acc,x,c,e=>by
  unfold cellsFrom at e;unfold pushCells;by_cases hk:(k == NameKind.cell)=true
  ·rw[if_pos hk]at e ⊢
   have e':(cellsFrom (h.push { cls:=.type "cell",data:=.cell none }).objs.size r ((nm,h.objs.size)::acc)).lookup x=some c:=by rw[QA];exact e
   rcases oK r (h.push { cls:=.type "cell",data:=.cell none }) ((nm,h.objs.size)::acc) x c e' with a | a
   ·rw[List.lookup_cons]at a
    cases hx:x == nm with
    |true=>
     rw[hx]at a;cases a;exact .inr #[_,pushCells_keeps r _ _ _ (Qe _ rfl),rfl]
    |false=>
     rw[hx]at a;exact .inl a
   ·exact .inr a
  ·rw[if_neg hk]at e ⊢;exact oK r h acc x c e
def DJ{M:Model}{A:Around}{E:Value->Shared->Prop}{s:Shared}{scope:Scope}{globals:Addr}{closure:List (Str × Addr)}{qual:Str}{func:Option Addr}{code:Value}{outer:Env}{builtins:Addr}{Q:Env->Shared->Prop}
 (hQ:Q (newEnv scope s.heap.objs.size globals (cellsFrom (s.heap.objs.size+1) scope.names closure) qual func code (some outer) builtins) { s with heap:=pushCells (s.heap.push { cls:=.type "dict",data:=.dict (List.toArray []) }) scope.names }) :
  wpAny M A (newFunctionEnv scope globals closure [] qual func code (some outer) builtins) Q E s:=by
 simp only[newFunctionEnv,Option.isSome_some,if_true];refine Qb (wpAny_alloc ?_);refine Qb (wpAny_layCells _ (fun name kind cells=>by cases hkc:kind == NameKind.cell<;>simp[hkc]) _ _ _ _ ?_);rw[show({ s with heap:=s.heap.push { cls:=.type "dict",data:=.dict (List.toArray []) } }:Shared).heap.objs.size=s.heap.objs.size+1 from QA ..];refine Qb ?_;rw[List.forIn_nil];exact Qd (Qd hQ)
abbrev blk(X:Cx)(scope:Scope)(cls:List (Str × Addr))(C:Addr)(fp:List Addr)(s:Shared)(H:Hp):Cx where
 prog:=X.prog
 w:=X.w
 K:=X.K
 mg:=X.mg
 base:=X.base
 A:=X.A
 N:=X.N
 s₀:=s
 H₀:=H
 env:=compEnvC scope cls C X.env
 outer:=X.stack
 stack:=X.stack
 ex:=fp
 fn:=fun x=>scope.names.lookup x == some .cell
 calm:=X.calm
 pn:=[]
 xe:=fun _ _=>False
structure gC(scope:Scope)(sc:Scope)(cls:List (Str × Addr))(cells:List (Str × Addr)):Prop where
 kind:scope.kind=.function
 own:∀ x∈scope.names,x.2=.cell->scope.names.lookup x.1=some .cell
 loc:∀ x∈scope.names,x.2=.local->scope.names.lookup x.1=some .local
 sub:∀ x c,cls.lookup x=some c->cells.lookup x=some c
 has:∀ x,scope.names.lookup x=some .free->∃ c,cls.lookup x=some c
 vis:∀ x,scope.names.lookup x=some .free->sc.names.lookup x=some .cell\/sc.names.lookup x=some .free
def bU{env:Env}:∀ {names:List (Str × NameKind)} {x:Str} {k:NameKind},
  (names.map fun(n,k)=>if(k == NameKind.free&&env.scope.kind == .function&&env.kindOf n == some .cell)then(n,NameKind.cell)else(n,k)).lookup x=some k ->
  names.lookup x=some k\/(k=.cell/\names.lookup x=some .free/\env.kindOf x=some .cell)
 | [],x,k,h=>by simp at h
 | (n,k')::r,x,k,h=>by
  have ih:=@bU env r x k;rw[List.map_cons]at h
  cases hx:x == n with
  |true=>
   have en:x=n:=by simpa using hx
   subst en;by_cases hc:(k' == NameKind.free&&env.scope.kind == .function&&env.kindOf x == some .cell)=true
   ·simp only[hc,if_true]at h;rw[List.lookup_cons,hx]at h;cases h;simp only[Bool.and_eq_true,beq_iff_eq]at hc;refine .inr #[rfl,?_,hc.2];rw[List.lookup_cons,hx,hc.1.1]
   ·simp only[Bool.not_eq_true]at hc;simp only[hc,Bool.false_eq_true,if_false]at h;rw[List.lookup_cons,hx]at h;cases h;exact .inl (by rw[List.lookup_cons,hx])
  |false=>
   have h':(r.map fun(n,k)=>if(k == NameKind.free&&env.scope.kind == .function&&env.kindOf n == some .cell)then(n,NameKind.cell)else(n,k)).lookup x=some k:=by
    by_cases hc:(k' == NameKind.free&&env.scope.kind == .function&&env.kindOf n == some .cell)=true
    ·simp only[hc,if_true]at h;rw[List.lookup_cons,hx]at h;exact h
    ·simp only[Bool.not_eq_true]at hc;simp only[hc,Bool.false_eq_true,if_false]at h;rw[List.lookup_cons,hx]at h;exact h
   rcases ih h' with q | ⟨q1,q2,q3⟩
   ·exact .inl (by rw[List.lookup_cons,hx];exact q)
   ·exact .inr #[q1,by rw[List.lookup_cons,hx];exact q2,q3]
abbrev BN(X:Cx)(scope:Scope)(Y QZ:St):Prop:=QZ.length=Y.length/\∀ (i:Nat) (x:Str) (v:V),X.N[i]?=some x->QZ[i]?=some (some v)->Y[i]?=some (some v)/\scope.names.lookup x≠some .local/\scope.names.lookup x≠some .cell
section
def Inv.hxb(I:Inv X pins Y H s):HX (blk X scope cls C fp s H):=by
 rcases I.ok.hd.2 with z | ⟨h,o,u,vs,h1,h2,h3⟩
 ·exact .inl z
 ·exact .inr #[h,o,u,vs,h1,I.base.da _ _ _ h2,h3]
def C4(I:Inv X pins Y H s)(S:gC scope X.env.scope cls X.env.cells)(hf:∀ b∈fp,jQ X pins H b/\b<s.heap.objs.size)(ho:BN X scope Y QZ)
 (hns:h'.Ns s.heap.objs.size (fun _=>none))(hk:∀ b o,s.heap.get? b=some o->h'.get? b=some o)(hcl:∀ x c,(cellsFrom (s.heap.objs.size+1) scope.names cls).lookup x=some c->cls.lookup x=some c\/h'.IsCell c none) :
  Inv (blk X scope (cellsFrom (s.heap.objs.size+1) scope.names cls) s.heap.objs.size fp s H) [] QZ H { s with heap:=h',toks:=t }:=by
 have hC:H s.heap.objs.size=none:=I.hok.fresh (Qc _)
 have clt:∀ x c,cls.lookup x=some c->c<s.heap.objs.size:=fun x c e=>by
  obtain⟨v,q⟩:=I.cell x c (S.sub x c e);exact q.lt
 have cas:∀ x c,(cellsFrom (s.heap.objs.size+1) scope.names cls).lookup x=some c->(X.env.cells.lookup x=some c/\c<s.heap.objs.size)\/(s.heap.objs.size+1<=c/\scope.names.lookup x=some .cell):=fun x c e=>by
  rcases lF _ _ _ _ _ e with⟨a,_⟩ | ⟨a,b⟩
  ·exact .inl #[S.sub x c a,clt x c a]
  ·exact .inr #[a,S.own _ b rfl]
 have fre:∀ x c,cls.lookup x=some c->scope.names.lookup x=some .free->(cellsFrom (s.heap.objs.size+1) scope.names cls).lookup x=some c:=fun x c e f=>by
  rw[oG _ _ _ _ fun z=>by rw[S.own _ z rfl]at f;cases f];exact e
 refine⟨⟨I.ok.mod,?_,I.ok.glob,I.ok.blt,Qc _,fun x y c h1 h2=>rY _ _ _ (fun x c e=>Nat.lt_succ_of_lt (clt x c e)) (fun x y c e1 e2=>I.ok.inj x y c (S.sub x c e1) (S.sub y c e2)) x y c h1 h2,fun x hx=>?_,fun x c z e=>?_,⟨I.ok.hd.1,I.hxb⟩,I.ok.frames,.inl rfl,fun b hb=>?_,fun b o e=>I.bs b o e,Qr I.ok.bsz I.sz,fun b o e hb=>?_,fun b hb=>?_,I.stack,I.lj⟩,
  rfl,I.bare,Un.kept hk,⟨_,hns,fun i x v h1 h2 h3=>?_⟩,fun x c e=>?_,hC,fun x c e=>?_,fun p hp=>absurd hp (by simp[blk]),I.hok.kept hk,ho.1.trans I.len⟩
 ·exact S.kind
 ·have hx:(relabel scope X.env).names.lookup x=some .cell\/(relabel scope X.env).names.lookup x=some .free:=hx
  have key:scope.names.lookup x=some .cell\/scope.names.lookup x=some .free:=by
   rcases hx with hx | hx
   ·rcases bU hx with q | ⟨_,q,_⟩
    ·exact .inl q
    ·exact .inr q
   ·rcases bU hx with q | ⟨q,_⟩
    ·exact .inr q
    ·cases q
  rcases key with q | q
  ·have:=W.cellsFrom_some scope.names (s.heap.objs.size+1) cls (.inl q);exact Option.isSome_iff_exists.mp this
  ·obtain⟨c,hc⟩:=S.has x q;exact#[c,fre x c hc q]
 ·have z:(scope.names.lookup x == some .cell)=true:=z
  rcases lF _ _ _ _ _ (show(cellsFrom (s.heap.objs.size+1) scope.names cls).lookup x=some c from e)with⟨_,b⟩ | ⟨b,_⟩
  ·exact absurd (PySem.mem_of_lookup (by simpa using z)) b
  ·exact Nat.le_of_succ_le b
 ·obtain⟨⟨f0,f1,f2,f3,f4,f5⟩,f6⟩:=hf b hb;refine#[Qn f6,fun x c e=>?_]
  rcases cas x c e with⟨a,_⟩ | ⟨a,_⟩
  ·exact f4 x c a
  ·exact Nat.ne_of_gt (Nat.lt_trans f6 a)
 ·obtain⟨⟨f0,f1,f2,f3,f4,f5⟩,f6⟩:=hf b hb;rcases f3 with z | z
  ·exact I.ok.jS b o e z
  ·exact absurd (Qh (Qg e) I.ok.bsz) (Nat.not_lt.mpr z)
 ·obtain⟨⟨f0,f1,f2,f3,f4,f5⟩,f6⟩:=hf b hb;intro z;rcases List.mem_cons.mp (I.sE b z)with e | e
  ·exact f1 e
  ·exact f2 e
 ·obtain⟨h4,h5,h6⟩:=ho.2 i x v h1 h2;have h3:(relabel scope X.env).names.lookup x=some .local\/(relabel scope X.env).names.lookup x=some .cell\/(relabel scope X.env).names.lookup x=some .free:=h3
  have key:scope.names.lookup x=some .free:=by
   rcases h3 with z | z | z
   ·rcases bU z with q | ⟨q,_⟩
    ·exact absurd q h5
    ·cases q
   ·rcases bU z with q | ⟨_,q,_⟩
    ·exact absurd q h6
    ·exact q
   ·rcases bU z with q | ⟨q,_⟩
    ·exact q
    ·cases q
  obtain⟨c,hc⟩:=S.has x key;have hcx:=S.sub x c hc;obtain⟨m,hn,hl⟩:=I.loc;have hv:Vis X.env.scope x:=.inr (S.vis x key);obtain⟨u,ru,lk⟩:=hl i x v h1 h4 hv;refine#[u,ru,.inr #[?_,c,fre x c hc key,?_]]
  ·rcases h3 with z | z
   ·rcases bU z with q | ⟨q,_⟩
    ·exact absurd q h5
    ·cases q
   ·exact z
  ·rcases lk with⟨z,_⟩ | ⟨_,c',e',q⟩
   ·have z:X.env.scope.names.lookup x=some .local:=z;rcases S.vis x key with z' | z'<;>(rw[z]at z';cases z')
   ·rw[hcx]at e';cases e';obtain⟨o,g1,g2⟩:=q;exact#[o,hk _ _ g1,g2]
 ·rcases hcl x c e with a | a
  ·obtain⟨v,q⟩:=I.cell x c (S.sub x c a);obtain⟨o,h1,h2⟩:=q;exact#[v,o,hk _ _ h1,h2]
  ·exact#[none,a]
 ·rcases cas x c e with⟨a,_⟩ | ⟨a,_⟩
  ·exact I.cQ x c a
  ·exact I.hok.fresh (Nat.le_of_succ_le a)
abbrev jh(wi:TI)(clr:St->St)(g:TG)(tc:TT)(te:TE):TE:=fun Y H Q=>wi Y H fun J H1=>∀ l,H1 l=none->∃ W:Nat->Nat->List V->Hp->Prop,(∃ m,W 0 m [] (upd H1 l (.lst []))) /\
 ∀ i m ys H2,W i m ys H2->H2 l=some (.lst ys)/\((J.stop i H2/\Q (.ref l) H2)\/(J.go i H2/\∀ x H3,J.yld i H2 x H3->g x (clr Y) H3 fun QX H4=>tc QX H4 fun k H5 =>
  if k=true then te QX H5 fun y H6=>H6 l=some (.lst ys)/\ys.length<sizeLine/\∃ m',m'<m/\W (i+1) m' (ys++[y]) (upd H6 l (.lst (ys++[y])))else ∃ m',m'<m/\W (i+1) m' ys H5))
structure qU(X:Cx)(scope:Scope)(tg:Expr)(ifs:List Expr)(elt:Expr)(clr:St->St)(g:TG)(tc:TT)(te:TE):Prop where
 htg:∀ cls C fp s H,PG (blk X scope cls C fp s H) tg g
 htc:∀ cls C fp s H pins s' Y H' Q,Inv (blk X scope cls C fp s H) pins Y H' s'->tc Y H' Q->wpAny (model X.prog X.w) X.A (iD ifs (compEnvC scope cls C X.env)) (TP (blk X scope cls C fp s H) pins Y Q) (fun _ _=>False) s'
 hte:∀ cls C fp s H,PE (blk X scope cls C fp s H) elt te
 Fc:∀ Y:St,Y.length=X.N.length->BN X scope Y (clr Y)
 BV:∀ (x:V) (Y:St) (H:Hp) (Q:St->Hp->Prop),g x (clr Y) H Q->g x (clr Y) H fun QS H2=>Q QS H2/\(clr Y).length=QS.length/\∀ (i:Nat) v,(clr Y)[i]?=some (some v)->QS[i]?=some (some v)
def qE{elt tg iter:Expr}{ifs:List Expr}{pos:Pos}{wi:TI}{clr:St->St}{g:TG}{tc:TT}{te:TE}{Q:VK}{RR:Value->Addr->Result->Shared->Prop}{CM:Cx->Prop}(hc:∀ {pins:List (Addr × Obj)} {Y:St} {H:Hp} {s:Shared} (cls:List (Str × Addr)) (C:Addr) (fp:List Addr),Inv X pins Y H s->CM (blk X scope cls C fp s H))(S:gC scope X.env.scope cls X.env.cells)
 (hi:PI' CM X tg iter wi)(B:qU X scope tg ifs elt clr g tc te)(I:Inv X pins Y H s)(h:jh wi clr g tc te Y H Q)
 (hRR:∀ l C H' s',Inv X pins Y H' s'->(∃ m,s'.heap.Ns C m)->H' C=none->C≠X.env.locals->X.s₀.heap.objs.size<=C->(∀ x c,X.env.cells.lookup x=some c->c≠C)->(∀ p∈X.pn++pins,p.1≠C)->Q (.ref l) H'->RR (.ref l) C (.ok .next) s') :
  wpAny (model X.prog X.w) X.A (eval iter X.env) (fun x s1=>wpAny (model X.prog X.w) X.A (pyIter x) (fun it s2=>wpAny (model X.prog X.w) X.A (newList []) (fun acc s3 =>
   wpAny (model X.prog X.w) X.A (newFunctionEnv scope X.env.globals cls [] X.env.qual none .none (some X.env)) (fun cenv s4 =>
    codeAny (model X.prog X.w) X.A (.compStart (.ListComp elt [⟨tg,iter,ifs,0⟩] scope pos) 0 it acc { cenv with scope:=relabel scope X.env }) (RR acc cenv.locals) s4) X.xe s3) X.xe s2) X.xe s1) X.xe s:=by
 refine thn (hi pins s Y H _ I h) fun x s1 h1=>thn h1 fun itv s2 h2=>?_;obtain⟨it,fp,tn,J,H2,e,I2,T,st2,f2,h3⟩:=h2;subst e
 have flt:∀ b∈fp,b<s2.heap.objs.size:=fun b hb=>by
  obtain⟨o,e,_⟩:=T.obj _ _ st2 b hb;exact Qg e
 refine wpAny_newObj_type ?_
 have I3:Inv X pins Y (upd H2 s2.heap.objs.size (.lst [])) { s2 with heap:=s2.heap.push { cls:=.type "list",dict:=none,data:=.seq ([]:List Value).toArray } } :=
  I2.laid (t':=s2.toks) (fun b u e=>Qa _ e) (Qc _) ⟨Nat.zero_le _,[],0,.nil,Qe _ rfl⟩
 have hl2:H2 s2.heap.objs.size=none:=I2.hok.fresh (Qc _);obtain⟨W,⟨m0,w0⟩,turn⟩:=h3 s2.heap.objs.size hl2
 have f3:∀ b∈fp,jQ X pins (upd H2 s2.heap.objs.size (.lst [])) b/\b<(s2.heap.push { cls:=.type "list",dict:=none,data:=.seq ([]:List Value).toArray }).objs.size:=fun b hb=>by
  obtain⟨z0,z⟩:=f2 b hb;refine#[#[?_,z],?_]
  ·rw[aO (Qn (flt b hb))];exact z0
  ·rw[QA];exact Nat.lt_succ_of_lt (flt b hb)
 generalize hs3:({ s2 with heap:=s2.heap.push { cls:=.type "list",dict:=none,data:=.seq ([]:List Value).toArray } }:Shared)=s3 at I3
 have hs3h:s3.heap=s2.heap.push { cls:=.type "list",dict:=none,data:=.seq ([]:List Value).toArray }:=by rw[<-hs3]
 rw[<-hs3h]at f3
 have st3:tn 0 s3.heap:=T.keep _ _ _ st2 fun b hb o e=>by rw[hs3h];exact Qa _ e
 refine DJ ?_;have k4:∀ b o,s3.heap.get? b=some o->(pushCells (s3.heap.push { cls:=.type "dict",data:=.dict (List.toArray []) }) scope.names).get? b=some o:=fun b o e=>pushCells_keeps _ _ b o (Qa _ e);have hns4:(pushCells (s3.heap.push { cls:=.type "dict",data:=.dict (List.toArray []) }) scope.names).Ns s3.heap.objs.size (fun _=>none):=(Heap.Ns.new s3.heap (.type "dict")).keeps (pushCells_keeps _ _);have hcl4:∀ x c,(cellsFrom (s3.heap.objs.size+1) scope.names cls).lookup x=some c->cls.lookup x=some c\/(pushCells (s3.heap.push { cls:=.type "dict",data:=.dict (List.toArray []) }) scope.names).IsCell c none:=fun x c e=>oK scope.names (s3.heap.push { cls:=.type "dict",data:=.dict (List.toArray []) }) cls x c (by rw[QA];exact e);generalize pushCells (s3.heap.push { cls:=.type "dict",data:=.dict (List.toArray []) }) scope.names=h4 at k4 hns4 hcl4
 have I4:Inv (blk X scope (cellsFrom (s3.heap.objs.size+1) scope.names cls) s3.heap.objs.size fp s3 (upd H2 s2.heap.objs.size (.lst []))) [] (clr Y) (upd H2 s2.heap.objs.size (.lst [])) { s3 with heap:=h4 } :=
  C4 (t:=s3.toks) I3 S f3 (B.Fc Y I.len) hns4 k4 hcl4
 generalize hs4:({ s3 with heap:=h4 }:Shared)=s4 at I4
 have hs4h:s4.heap=h4:=by rw[<-hs4]
 generalize hH3:upd H2 s2.heap.objs.size (.lst [])=H3 at I3 I4 w0
 have st4:tn 0 s4.heap:=T.keep _ _ _ st3 fun b hb o e=>by rw[hs4h];exact k4 b o e
 have fn4:∀ b∈fp,H3 b=none:=fun b hb=>by rw[<-hH3];exact(f3 b hb).1.1
 have stat:∀ {H':Hp} {QQ:St} {s':Shared},Inv (blk X scope (cellsFrom (s3.heap.objs.size+1) scope.names cls) s3.heap.objs.size fp s3 H3) [] QQ H' s'->(∀ b∈fp,H' b=none)->∀ b∈fp,jQ (blk X scope (cellsFrom (s3.heap.objs.size+1) scope.names cls) s3.heap.objs.size fp s3 H3) [] H' b :=
  fun {H' QQ s'} J hn b hb=>#[hn b hb,(J.ok.exf b hb).1,J.ok.jD b hb,.inl hb,(J.ok.exf b hb).2,fun p hp=>absurd hp (by simp[blk])]
 have fin:∀ {H':Hp} {s':Shared},Inv (blk X scope (cellsFrom (s3.heap.objs.size+1) scope.names cls) s3.heap.objs.size fp s3 H3) [] (clr Y) H' s'->Q (.ref s2.heap.objs.size) H'->RR (.ref s2.heap.objs.size) s3.heap.objs.size (.ok .next) s':=fun {H' s'} J q=>by
  obtain⟨m,hn,_⟩:=J.loc
  have J1:Inv X pins Y H' s':=I3.wj (s':=s') (ch:=fp) (J.os.trans rfl) J.base J.hok J.bare fun b hb=>by
   obtain⟨⟨g0,g1,g2,g3,g4,g5⟩,_⟩:=f3 b hb;exact#[g3,g1,g4,g5]
  refine hRR _ _ H' s' J1 ⟨m,hn⟩ J.free (Nat.ne_of_gt I3.lt) I3.sz (fun x c e=>?_) (fun p hp=>?_) q
  ·obtain⟨v,z⟩:=I3.cell x c e;exact Qn z.lt
  ·exact Qn (Qg (I3.pin p hp).1)
 have loop:codeAny (model X.prog X.w) X.A (.compLoop (.ListComp elt [⟨tg,iter,ifs,0⟩] scope pos) 0 (.ref it) (.ref s2.heap.objs.size) (compEnvC scope (cellsFrom (s3.heap.objs.size+1) scope.names cls) s3.heap.objs.size X.env))
   (RR (.ref s2.heap.objs.size) s3.heap.objs.size) s4:=by
  refine yP (fun n s'=>∃ i ys H',Inv (blk X scope (cellsFrom (s3.heap.objs.size+1) scope.names cls) s3.heap.objs.size fp s3 H3) [] (clr Y) H' s'/\tn i s'.heap/\(∀ b∈fp,H' b=none)/\W i n ys H') ?_ m0 ⟨0,[],H3,I4,st4,fn4,w0⟩;rintro n s5 ⟨i,ys,H5,I5,st5,fr5,w5⟩;obtain⟨hl5,tr⟩:=turn i n ys H5 w5
  rcases tr with⟨stop,qn⟩ | ⟨go,step⟩
  ·refine thn (T.done (blk X scope (cellsFrom (s3.heap.objs.size+1) scope.names cls) s3.heap.objs.size fp s3 H3) rfl rfl rfl (hc _ _ _ I3) i [] s5 (clr Y) H5 (fun _ _=>False) I5 (stat I5 fr5) st5 stop) fun r s6 ⟨hr,I6⟩=>?_;subst hr;exact fin I6 qn
  ·refine thn (T.item (blk X scope (cellsFrom (s3.heap.objs.size+1) scope.names cls) s3.heap.objs.size fp s3 H3) rfl rfl rfl (hc _ _ _ I3) i [] s5 (clr Y) H5 (fun _ _=>False) I5 (stat I5 fr5) st5 go) fun r s6 ⟨u,hr,h6⟩=>?_;subst hr;refine thn h6 fun _ s7 ⟨x,H7,I7,r7,y7,st7,fr7⟩=>?_;have I7':=I7.pinned (stat I7 fr7) (T.obj _ _ st7)
   have back:∀ {QQ:St} {H':Hp} {s':Shared},Inv (blk X scope (cellsFrom (s3.heap.objs.size+1) scope.names cls) s3.heap.objs.size fp s3 H3) ([]++k6 fp s7.heap) QQ H' s'->(clr Y).length=QQ.length->(∀ (i:Nat) v,(clr Y)[i]?=some (some v)->QQ[i]?=some (some v))->(∃ m ys',m<n/\W (i+1) m ys' H') ->
     ∃ m,m<n/\∃ i ys H',Inv (blk X scope (cellsFrom (s3.heap.objs.size+1) scope.names cls) s3.heap.objs.size fp s3 H3) [] (clr Y) H' s'/\tn i s'.heap/\(∀ b∈fp,H' b=none)/\W i m ys H':=fun {QQ H' s'} J el ew hw=>by
    obtain⟨m,ys',hm,w8⟩:=hw;refine#[m,hm,i+1,ys',H',J.jH.weak el ew,T.keep _ _ _ st7 fun b hb o e=>(J.pin (b,o) (Qs _ (Qs _ (gN hb e)))).1,fun b hb=>?_,w8];obtain⟨o,e,d⟩:=T.obj _ _ st7 b hb;exact(J.pin (b,o) (Qs _ (Qs _ (gN hb e)))).2.1
   refine thn (B.htg _ s3.heap.objs.size fp s3 H3 _ s7 (clr Y) H7 x u _ I7' r7 (B.BV x Y H7 _ (step x H7 y7))) fun _ s8 ⟨Q1,H8,I8,q8,el8,ew8⟩=>?_;refine thn (B.htc _ s3.heap.objs.size fp s3 H3 _ s8 Q1 H8 _ I8 q8) fun ok s9 ⟨H9,I9,q9⟩=>?_
   cases ok with
   |false=>
    have q9:∃ m',m'<n/\W (i+1) m' ys H9:=q9;obtain⟨m',hm,w9⟩:=q9;exact back I9 el8 ew8 ⟨m',ys,hm,w9⟩
   |true=>
    refine thn (B.hte _ s3.heap.objs.size fp s3 H3 _ s9 Q1 H9 _ I9 q9) fun v s10 ⟨y,H10,I10,r10,hl10,hz,m',hm,w10⟩=>?_;refine thn (qA (X:=blk X scope (cellsFrom (s3.heap.objs.size+1) scope.names cls) s3.heap.objs.size fp s3 H3) _ s10 Q1 H10 (.ref s2.heap.objs.size) [y] (.ref s2.heap.objs.size) [v] (fun _ H'=>H'=upd H10 s2.heap.objs.size (.lst (ys++[y]))) I10 rfl (.cons r10 .nil) ⟨_,ys,y,rfl,rfl,hl10,hz,rfl⟩) fun _ s11 ⟨_,H11,I11,_,e11⟩=>?_;subst e11;exact back I11 el8 ew8 ⟨m',_,hm,w10⟩
 exact codeAny_compStart_list loop (T.self _ 0 _ _ _ st4 loop)
def vc{elt tg iter:Expr}{ifs:List Expr}{pos:Pos}{wi:TI}{clr:St->St}{g:TG}{tc:TT}{te:TE}{CM:Cx->Prop}(hc:∀ {pins:List (Addr × Obj)} {Y:St} {H:Hp} {s:Shared} (cls:List (Str × Addr)) (C:Addr) (fp:List Addr),Inv X pins Y H s->CM (blk X scope cls C fp s H))(S:gC scope X.env.scope cls X.env.cells)(hclos:closureFor scope X.env=pure cls)
 (hi:PI' CM X tg iter wi)(B:qU X scope tg ifs elt clr g tc te)(hs:∀ x,foldedSetIterable iter X.env x=pure x):PE X (.ListComp elt [⟨tg,iter,ifs,0⟩] scope pos) (jh wi clr g tc te):=by
 kt_k;rw[eval_ListComp];refine wpAny_comprehension_free (use:=none) rfl hs hclos S.kind S.loc (qE (RR:=fun acc C=>compPost (model X.prog X.w) X.A X.xe none (EP X pins Y Q) acc C) hc S hi B I h ?_);intro l C H' s' J hn c0 c1 c2 c3 c4 q;obtain⟨m,hn⟩:=hn;exact#[m,hn,fun h' sb=>#[.ref l,H',J.turned (it:=C) (h':=h') (t':=s'.toks) (fun b o hb e=>(sb.2 b hb).trans e) c0 (Ne.symm (Ne.symm c1)) (.inr c2) c3 c4,rfl,q]]
abbrev IU(i:Nat)(t:TE):TS:=fun D Y H=>t Y H fun v H1=>D.nx (Y.set i (some v)) H1
def vm(hc:X.calm=true)(hN:X.N.Nodup)(hiy:X.N[i]?=some y)(hy:X.env.scope.names.lookup y=some .local)
 (S:gC scope X.env.scope cls X.env.cells)(hclos:closureFor scope X.env=pure cls)
 (hi:PI X tg iter wi)(B:qU X scope tg ifs elt clr g tc te)(hs:∀ x,foldedSetIterable iter X.env x=pure x)
 (hsw:swapsWith (.ListComp elt [⟨tg,iter,ifs,0⟩] scope pos) (some (.Name y py)) spos.line X.env=pure true) :
  PS X (.Assign [.Name y py] (.ListComp elt [⟨tg,iter,ifs,0⟩] scope pos) spos) (IU i (jh wi clr g tc te)):=by
 intro pins s Y H D I h
 have back:∀ (l C:Addr) (H':Hp) (s':Shared),Inv X pins Y H' s'->(∃ m,s'.heap.Ns C m)->H' C=none->C≠X.env.locals->X.s₀.heap.objs.size<=C->(∀ x c,X.env.cells.lookup x=some c->c≠C)->(∀ p∈X.pn++pins,p.1≠C)->D.nx (Y.set i (some (.ref l))) H' ->
   compPost (model X.prog X.w) X.A X.xe (some (assign (.Name y py) X.env)) (fun _ s'=>SP X pins D .next s') (.ref l) C (.ok .next) s':=by
  intro l C H' s' J hn c0 c1 c2 c3 c4 q;obtain⟨m,hn⟩:=hn;show wpAny _ X.A (assign (.Name y py) X.env (.ref l)) _ _ s';refine wpAny_assign_Name (qB (v:=.ref l) J hN hiy (.inl hy) rfl (fun s2 J2 ⟨a,sb,ha⟩=>?_) (.inr hy))
  have hne:C≠a:=by
   rcases ha with z | z
   ·rw[z];exact c1
   ·exact(c3 _ _ z).symm
  exact#[m,hn.sameBut sb hne,fun h' sb'=>#[Y.set i (some (.ref l)),H',J2.turned (it:=C) (h':=h') (t':=s2.toks) (fun b o hb e=>(sb'.2 b hb).trans e) c0 c1 (.inr c2) c3 c4,q]]
 have core:=qE (RR:=fun acc C=>compPost (model X.prog X.w) X.A X.xe (some (assign (.Name y py) X.env)) (fun _ s'=>SP X pins D .next s') acc C) (pos:=pos) (fun _ _ _ _=>hc) S hi B I h back;have whole:=wpAny_comprehension_free (e:=.ListComp elt [⟨tg,iter,ifs,0⟩] scope pos) (newAcc:=newList []) (use:=some (assign (.Name y py) X.env)) (Q:=fun _ s'=>SP X pins D .next s') (pos:=iter.pos) rfl hs hclos S.kind S.loc core;rw[exec_Assign_Name_used (hs:=hsw)];f_are;apply wpAny_standAt;f_are;f_are;refine thn whole fun _ s' hq=>?_;apply Qd;apply Qd;exact hq
end
end L2
namespace RS
open PySem PySem.Spec PyProof.Rows L2
def jT:∀ (names:List (Str × NameKind)) (acc:List (Str × Addr)),(∀ x,(x,NameKind.free)∈names->∃ c,env.cells.lookup x=some c)->(∀ x c,acc.lookup x=some c->env.cells.lookup x=some c) ->
  ∃ cls,(forIn names acc fun(p:Str × NameKind) cs=>match p with | (name,kind)=>if(kind == NameKind.free)=true then do let c <- cellOf env name;pure (ForInStep.yield ((name,c)::cs))else pure (ForInStep.yield cs):Sem (List (Str × Addr)))=pure cls /\
   (∀ x c,cls.lookup x=some c->env.cells.lookup x=some c)/\(∀ x,(acc.lookup x).isSome=true\/(x,NameKind.free)∈names->∃ c,cls.lookup x=some c)
 | [],acc,_,ha=>⟨acc,rfl,ha,fun x hx=>by
   rcases hx with h | h
   ·exact Option.isSome_iff_exists.mp h
   ·simp at h⟩
 | (n,k)::r,acc,hn,ha=>by
  by_cases hk:k=.free
  ·subst hk;obtain⟨c,hc⟩:=hn n Qq
   have ha':∀ x c',((n,c)::acc).lookup x=some c'->env.cells.lookup x=some c':=fun x c' e=>by
    rw[List.lookup_cons]at e
    cases hx:x == n with
    |true=>
     rw[hx]at e;cases e;rw[show x=n by simpa using hx];exact hc
    |false=>
     rw[hx]at e;exact ha x c' e
   obtain⟨cls,h1,h2,h3⟩:=jT r ((n,c)::acc) (fun x hx=>hn x (Ql _ hx)) ha';refine#[cls,?_,h2,fun x hx=>h3 x ?_]
   ·rw[List.forIn_cons]
    have hcell:cellOf env n=pure c:=by unfold cellOf;rw[hc]
    simp only[beq_self_eq_true,if_true,hcell];exact h1
   ·rcases hx with h | h
    ·left;rw[List.lookup_cons];split<;>simp_all
    ·rcases List.mem_cons.mp h with e | e
     ·cases e;left;simp[List.lookup_cons]
     ·exact .inr e
  ·obtain⟨cls,h1,h2,h3⟩:=jT r acc (fun x hx=>hn x (Ql _ hx)) ha;refine#[cls,?_,h2,fun x hx=>h3 x ?_]
   ·rw[List.forIn_cons]
    have:(k == NameKind.free)=false:=by simpa using hk
    simp only[this,Bool.false_eq_true,if_false];exact h1
   ·rcases hx with h | h
    ·exact .inl h
    ·rcases List.mem_cons.mp h with e | e
     ·cases e;exact absurd rfl hk
     ·exact .inr e
def wY(h:∀ x,(x,NameKind.free)∈scope.names->∃ c,env.cells.lookup x=some c) :
  ∃ cls,closureFor scope env=pure cls/\(∀ x c,cls.lookup x=some c->env.cells.lookup x=some c)/\(∀ x,scope.names.lookup x=some .free->∃ c,cls.lookup x=some c):=by
 obtain⟨cls,h1,h2,h3⟩:=jT (env:=env) scope.names [] h (fun x c e=>by simp at e);refine#[cls,?_,h2,fun x hx=>h3 x (.inr (PySem.mem_of_lookup hx))];unfold closureFor;simp only[bind_pure_comp]at h1 ⊢;rw[h1];rfl
section
abbrev pP(K:W.Frag)(n:Nat)(t:TGs):TG:=fun v Y H Q=>∃ a xs,v=.ref a/\SqL K H a xs/\xs.length=n/\t xs Y H Q
end
section
def uE(h:PG X tgE t)(h':PG X tgE t'):PG X tgE (fun v Y H Q=>t v Y H Q\/t' v Y H Q):=by
 intro pins s Y H v u Q I r hw;rcases hw with q | q
 ·exact h pins s Y H v u Q I r q
 ·exact h' pins s Y H v u Q I r q
end
abbrev gs:List Nat->TGs
 | []=>GU
 | i::r=>Cc (oC i) (gs r)
abbrev gT(K:W.Frag):List Nat->TG
 | [i]=>oC i
 | is=>fun v Y H Q=>pR K is.length (gs is) v Y H Q\/pP K is.length (gs is) v Y H Q
abbrev df:List Nat->List V->L2.St->L2.St
 | i::is,v::vs,Y=>df is vs (Y.set i (some v))
 | _,_,Y=>Y
abbrev eU:List Nat->List RL.D->RL.St->RL.St
 | i::is,d::ds,Y=>eU is ds (Y.set i (some d))
 | _,_,Y=>Y
def gA:∀ {is:List Nat} {ds:List RL.D} {Y QR:RL.St},RL.bF is ds Y=some QR->is.length=ds.length/\QR=eU is ds Y
 | [],[],Y,QR,h=>by cases h;exact#[rfl,rfl]
 | [],d::ds,Y,QR,h=>by cases h
 | i::is,[],Y,QR,h=>by cases h
 | i::is,d::ds,Y,QR,h=>by
  obtain⟨h1,h2⟩:=gA (is:=is) (ds:=ds) (Y:=Y.set i (some d)) h;exact#[by simp[h1],h2]
def km:∀ {is:List Nat} {vs:List V} {Y:L2.St} {H:Hp} {Q:L2.St->Hp->Prop},is.length=vs.length->Q (df is vs Y) H->gs is vs Y H Q
 | [],[],Y,H,Q,_,q=>#[rfl,q]
 | [],_::_,_,_,_,h,_=>by simp at h
 | _::_,[],_,_,_,h,_=>by simp at h
 | i::is,v::vs,Y,H,Q,h,q=>#[v,vs,rfl,km (is:=is) (by simpa using h) q]
def xk{K:W.Frag}(h:RL.aX tg d QP=some QY)(r:Rep nP K H d v) :
  ∃ ds vs,QY=eU tg ds QP/\tg.length=ds.length/\af nP K H ds vs/\(d.imm=true->RL.au ds=true)/\∀ (Y:L2.St) (Q:L2.St->Hp->Prop),Q (df tg vs Y) H->gT K tg v Y H Q:=by
 unfold RL.aX at h;split at h
 ·rename_i i;cases h;exact#[[d],[v],rfl,rfl,af.cons r af.nil,fun z=>by simp[RL.au,z],fun Y Q q=>q]
 ·rename_i hne
  have key:gT K tg=fun v Y H Q=>pR K tg.length (gs tg) v Y H Q\/pP K tg.length (gs tg) v Y H Q:=by
   unfold gT;split
   ·rename_i i;exact absurd rfl (hne i)
   ·rfl
  rw[key];split at h
  ·rename_i ds;obtain⟨h1,h2⟩:=gA h;obtain⟨p,xs,rfl,e2,e3⟩:=br r;exact#[ds,xs,h2,h1,e3,fun z=>by rw[RL.D.imm]at z;exact z,fun Y Q q=>.inl #[p,xs,rfl,SqT.of e2,by rw[<-e3.length,h1],km (h1.trans e3.length) q]]
  ·rename_i ds;obtain⟨h1,h2⟩:=gA h;obtain⟨p,xs,rfl,_,e2,e3⟩:=aG r;exact⟨ds,xs,h2,h1,e3,fun z=>(by cases z),fun Y Q q=>.inr #[p,xs,rfl,SqL.of e2,by rw[<-e3.length,h1],km (h1.trans e3.length) q]⟩
  ·cases h
def sP:∀ (is:List Nat) (vs:List V) (Y:L2.St),(df is vs Y).length=Y.length
 | [],_,_=>rfl
 | _::_,[],_=>rfl
 | i::is,v::vs,Y=>by rw[df,sP is vs,List.length_set]
def oS:∀ (is:List Nat) (vs:List V) (Y:L2.St) (j:Nat),is.contains j=false->(df is vs Y)[j]?=Y[j]?
 | [],_,_,_,_=>rfl
 | _::_,[],_,_,_=>rfl
 | i::is,v::vs,Y,j,h=>by
  rw[List.contains_cons,Bool.or_eq_false_iff]at h;rw[df,oS is vs _ j h.2,Qf (by intro e;subst e;simp at h)]
def mC:∀ (is:List Nat) (vs:List RL.D) (Y:RL.St),(eU is vs Y).length=Y.length
 | [],_,_=>rfl
 | _::_,[],_=>rfl
 | i::is,v::vs,Y=>by rw[eU,mC is vs,List.length_set]
def lS:∀ (is:List Nat) (vs:List RL.D) (Y:RL.St) (j:Nat),is.contains j=false->(eU is vs Y)[j]?=Y[j]?
 | [],_,_,_,_=>rfl
 | _::_,[],_,_,_=>rfl
 | i::is,v::vs,Y,j,h=>by
  rw[List.contains_cons,Bool.or_eq_false_iff]at h;rw[eU,lS is vs _ j h.2,Qf (by intro e;subst e;simp at h)]
abbrev RVx(T:List Nat)(K:W.Frag)(QP:RL.St)(Y:L2.St)(H:Hp):Prop:=QP.length<=Y.length/\∀ (i:Nat) (d:RL.D),T.contains i=false->QP[i]?=some (some d)->∃ v,Y[i]?=some (some v)/\Rep nP K H d v
def RVx.set{K:W.Frag}(h:RVx (i::T) K QP Y H)(r:Rep nP K H d v):RVx T K (QP.set i (some d)) (Y.set i (some v)) H:=⟨by simpa using h.1,fun j dj hT e=>by
 by_cases hj:j=i
 ·subst hj
  have hlt:j<QP.length:=by
   k_all;simpa using this
  rw[Qj hlt]at e;cases e;exact#[v,by rw[Qj (Qh hlt h.1)],r]
 ·rw[Qf (Ne.symm hj)]at e ⊢
  exact h.2 j dj (by rw[List.contains_cons,hT,Bool.or_false];simpa using hj) e⟩
def RVx.bF{K:W.Frag}:∀ {is:List Nat} {ds:List RL.D} {vs:List V} {QP:RL.St} {Y:L2.St},RVx is K QP Y H->is.length=ds.length->af nP K H ds vs->RV0 K (eU is ds QP) (df is vs Y) H
 | [],_,_,_,_,h,_,_=>#[h.1,fun i d e=>h.2 i d rfl e]
 | i::is,[],_,_,_,_,hl,_=>by simp at hl
 | i::is,d::ds,vs,QP,Y,h,hl,r=>by
  rw[af]at r;obtain⟨v,t,rfl,r1,r2⟩:=r;rw[eU,df];exact RVx.bF (h.set r1) (by simpa using hl) r2
def Fd{K:W.Frag}(h:gT K tg v Y H Q):∃ vs,tg.length=vs.length/\Q (df tg vs Y) H/\∀ Q':L2.St->Hp->Prop,Q' (df tg vs Y) H->gT K tg v Y H Q':=by
 have inv:∀ (is:List Nat) (xs:List V) (Y:L2.St) (Q:L2.St->Hp->Prop),gs is xs Y H Q->is.length=xs.length/\Q (df is xs Y) H:=by
  intro is
  induction is with
  | nil=>intro xs Y Q h;obtain⟨rfl,q⟩:=h;exact#[rfl,q]
  |cons i r ih=>
   intro xs Y Q h;obtain⟨v,t,rfl,q⟩:=h;obtain⟨h1,h2⟩:=ih t _ Q q;exact#[by simp[h1],h2]
 unfold gT at h;split at h
 ·rename_i i;exact#[[v],rfl,h,fun Q' q=>q]
 ·rename_i hne
  have key:gT K tg=fun v Y H Q=>pR K tg.length (gs tg) v Y H Q\/pP K tg.length (gs tg) v Y H Q:=by
   unfold gT;split
   ·rename_i i;exact absurd rfl (hne i)
   ·rfl
  rw[key]
  rcases h with⟨a,xs,rfl,hq,hl,hg⟩ | ⟨a,xs,rfl,hq,hl,hg⟩
  ·obtain⟨h1,h2⟩:=inv _ _ _ _ hg;exact#[xs,h1,h2,fun Q' q=>.inl #[a,xs,rfl,hq,hl,km h1 q]]
  ·obtain⟨h1,h2⟩:=inv _ _ _ _ hg;exact#[xs,h1,h2,fun Q' q=>.inr #[a,xs,rfl,hq,hl,km h1 q]]
abbrev gI(tg:List Nat)(Y:L2.St):L2.St:=Y.mapIdx fun i o=>if tg.contains i then none else o
def tu(tg:List Nat)(Y:L2.St):(gI tg Y).length=Y.length:=by simp[gI]
def uU(h:tg.contains i=false):(gI tg Y)[i]?=Y[i]?:=by
 unfold gI;rw[List.getElem?_mapIdx]
 cases Y[i]? with
 | none=>rfl
 | some o=>simp only[Option.map_some,h,Bool.false_eq_true,if_false]
def vt(h:tg.contains i=true):(gI tg Y)[i]?≠some (some v):=by
 unfold gI;rw[List.getElem?_mapIdx]
 cases Y[i]? with
 | none=>simp
 | some o=>simp only[Option.map_some,h,if_true];intro z;cases z
section comp
variable{X:Cx}
structure jX(X:Cx)(cl:RL.Cl)(scope:Scope)(tgE:Expr)(tg:List Nat)(elt:Expr)(e':RL.E)(tcs:TT)(ifs:List Expr):Prop where
 htg:∀ cls C fp s H,PG (blk X scope cls C fp s H) tgE (gT X.K tg)
 htc:∀ cls C fp s H pins s' Y H' Q,Inv (blk X scope cls C fp s H) pins Y H' s'->tcs Y H' Q->wpAny (model X.prog X.w) X.A (iD ifs (compEnvC scope cls C X.env)) (TP (blk X scope cls C fp s H) pins Y Q) (fun _ _=>False) s'
 hte:∀ cls C fp s H,SE (blk X scope cls C fp s H) cl elt e'
 cover:∀ (i:Nat) (x:Str),X.N[i]?=some x->scope.names.lookup x=some .local\/scope.names.lookup x=some .cell->tg.contains i=true
def jX.blk{tcs:TT}(B:jX X cl scope tgE tg elt e' tcs ifs):qU X scope tgE ifs elt (gI tg) (gT X.K tg) tcs (tE X.K cl e') where
 htg:=B.htg
 htc:=B.htc
 hte:=B.hte
 Fc:=fun Y hl=>⟨tu tg Y,fun i x v h1 h2=>by
  by_cases hc:tg.contains i=true
  ·exact absurd h2 (vt hc)
  ·simp only[Bool.not_eq_true]at hc;rw[uU hc]at h2;refine#[h2,fun z=>?_,fun z=>?_]
   ·rw[B.cover i x h1 (.inl z)]at hc;cases hc
   ·rw[B.cover i x h1 (.inr z)]at hc
    cases hc⟩
 BV:=fun x Y H Q h=>by
  obtain⟨vs,h1,h2,h3⟩:=Fd h;refine h3 _ ⟨h2,(sP _ _ _).symm,fun i v e=>?_⟩;by_cases hc:tg.contains i=true
  ·exact absurd e (vt hc)
  ·simp only[Bool.not_eq_true]at hc;rw[oS _ _ _ _ hc];exact e
def zO(h:RL.bW f tg Y (d::r)=some ys):∃ QR y ys',RL.aX tg d Y=some QR/\f QR=some y/\RL.bW f tg Y r=some ys'/\RL.kY y ys'=some ys:=by
 rw[RL.bW]at h;obtain⟨QR,h1,h⟩:=bind_some h;obtain⟨y,h2,h⟩:=bind_some h;obtain⟨ys',h3,h⟩:=bind_some h;exact#[QR,y,ys',h1,h2,h3,h]
def vi(rv:RV0 X.K QP Y H)(ei:RL.bG cl QP it=some ds)(hz:ds.length<=RL.most)(hm:RL.bW f tg QP ds=some total)
 (ht:∀ QR Q0 H y (Q:Bool->Hp->Prop),RV0 X.K QR Q0 H->f QR=some y->(∀ k H',aw H H'->(if k=true then ∃ d,y=some d/\RL.ev cl QR e'=some d else y=none)->Q k H')->tcs Q0 H Q)
 (k:∀ l H',aw H H'->H l=none->(∃ xs,H' l=some (.lst xs)/\af nP X.K H' total xs)->Q (.ref l) H'):jh (tI X.K cl it) (gI tg) (gT X.K tg) tcs (tE X.K cl e') Y H Q:=by
 refine#[QP,ds,rv,ei,fun J H1 s1 src l hl=>?_];obtain⟨ok,_⟩:=src
 refine⟨fun i m xs H2=>∃ don rest,m=ds.length-i/\i<=ds.length/\aw H1 H2/\H2 l=some (.lst xs)/\af (fun p=>p=l) X.K H2 don xs/\RL.bW f tg QP (ds.drop i)=some rest/\don++rest=total/\don.length<=i,
  ⟨_,[],total,rfl,Nat.zero_le _,aw.bV hl,aT,af.nil,hm,rfl,Qc _⟩,?_⟩
 rintro i m xs H2 ⟨don,rest,rfl,hi,s2,hl2,rs,hr,htot,hdn⟩;refine#[hl2,?_];have off:Off nP H1 H2:=Off.same s2;by_cases hlt:i<ds.length
 ·refine .inr #[ok.go H2 i off hlt,fun x H3 y=>?_]
  have hd:ds[i]?=some ds[i]:=by simp[hlt]
  obtain⟨s3,rp⟩:=ok.yld H2 i ds[i] x H3 off hd y;have rp:=rp (.inr s2);rw[List.drop_eq_getElem_cons hlt]at hr;obtain⟨QR,y1,ys',h1,h2,h3,h4⟩:=zO hr;obtain⟨dv,vs,e1,e2,e3,_,e5⟩:=xk h1 rp;refine e5 _ _ ?_;have rv3:RV0 X.K QP Y H3:=rv.same ((s1.trans s2).trans s3)
  have rvx:RVx tg X.K QP (gI tg Y) H3:=#[by rw[tu];exact rv3.1,fun j d hT e=>by rw[uU hT];exact rv3.2 j d e]
  have rv1:RV0 X.K QR (df tg vs (gI tg Y)) H3:=by rw[e1];exact rvx.bF e2 e3
  refine ht QR _ H3 y1 _ rv1 h2 fun t H5 s5 hy=>?_;have hl5:H5 l=some (.lst xs):=s5 _ _ (s3 _ _ hl2);have rs5:af (fun p=>p=l) X.K H5 don xs:=(rs.same s3).same s5
  cases t with
  |true=>
   obtain⟨d,rfl,hv⟩:=(show ∃ d,y1=some d/\RL.ev cl QR e'=some d from hy)
   have him:d.imm=true/\rest=d::ys':=by
    unfold RL.kY at h4;dsimp only at h4;split at h4
    ·rename_i hh;cases h4;exact#[hh,rfl]
    ·cases h4
   refine fI ⟨QR,d,rv1.same s5,hv,fun v H6 r6=>#[r6.same _ _ hl5,?_,ds.length-(i+1),by lia,don++[d],ys',rfl,hlt,?_,aT,?_,h3,?_,?_]⟩
   ·rw[<-rs.length];exact Qh (Nat.lt_of_le_of_lt hdn (Qh hlt hz)) (Nat.le_of_lt ∅)
   ·intro b o e;have hb:b≠l:=aR e hl;rw[aO hb];exact r6.same _ _ (s5 _ _ (s3 _ _ (s2 _ _ e)))
   ·exact af.upd (P:=fun p=>p=l) (r6.same _ _ hl5) (.inl #[_,rfl]) rfl (af.append (rs5.same r6.same) (af.cons (r6.rep.imm him.1) af.nil))
   ·rw[<-htot,him.2,QM];rfl
   ·rw[List.length_append,List.length_singleton];lia
  |false=>
   have hy:y1=none:=hy;subst hy
   have hr2:rest=ys':=by
    unfold RL.kY at h4;dsimp only at h4;cases h4;rfl
   refine fX ⟨ds.length-(i+1),by lia,don,ys',rfl,hlt,(s2.trans s3).trans s5,hl5,rs5,h3,by rw[<-htot,hr2],by lia⟩
 ·have e:i=ds.length:=by lia
  subst e;refine .inl #[ok.stop H2 off,k l H2 (s1.trans s2) (s1.free hl) #[xs,hl2,?_]];rw[List.drop_length,RL.bW]at hr;cases hr;rw[QD]at htot;rw[<-htot];exact af.weak (fun _ z=>z.elim) rs
end comp
section comp
variable{X:Cx}
structure pL(scope sc:Scope):Prop where
 kind:scope.kind=.function
 own:∀ x∈scope.names,x.2=.cell->scope.names.lookup x.1=some .cell
 loc:∀ x∈scope.names,x.2=.local->scope.names.lookup x.1=some .local
 vis:∀ x∈scope.names,x.2=.free->sc.names.lookup x.1=some .cell\/sc.names.lookup x.1=some .free
def gX(S:pL scope X.env.scope)(I:Inv X pins Y H s):∃ cls,closureFor scope X.env=pure cls/\gC scope X.env.scope cls X.env.cells:=by
 obtain⟨cls,h1,h2,h3⟩:=wY (env:=X.env) (scope:=scope) fun x hx=>I.ok.has x (S.vis _ hx rfl);exact#[cls,h1,S.kind,S.own,S.loc,h2,h3,fun x hx=>S.vis _ (PySem.mem_of_lookup hx) rfl]
def tL(sm:aw H H')(hl:H l=none)(h:∃ xs,H' l=some (.lst xs)/\af nP X.K H' total xs)(hav:∀ M,RL.avE M e=false):Res X.K QP Y H e (.lst total) (.ref l) H' where
 same:=sm
 rep:=by
  obtain⟨xs,h1,h2⟩:=h;rw[Rep];exact#[l,xs,rfl,fun z=>z,h1,h2]
 fresh:=fun _ _ a z=>by cases z;exact hl
 av:=fun M z=>by rw[hav M]at z;cases z
abbrev nR:TT:=fun _ H Q=>Q true H
def sQ(h:tE X.K cl (.compA e' tg it) Y H Q):jh (tI X.K cl it) (gI tg) (gT X.K tg) nR (tE X.K cl e') Y H Q:=by
 kd_p;obtain⟨ds,e1,e⟩:=bind_some e;obtain⟨ds',e2,e⟩:=bind_some e;obtain⟨total,e3,e4⟩:=map_some e;unfold RL.fits at e2;split at e2
 ·rename_i hz;cases e2;subst e4;refine vi (f:=fun QR=>(RL.ev cl QR e').map some) rv e1 hz e3 (fun QR Q0 H y Q rv1 hy q=>?_) fun l H' sm hl hx=>k _ _ (tL sm hl hx fun _=>rfl);obtain⟨d,h1,h2⟩:=map_some hy;exact q true H (aw.refl H) (fI ⟨d,h2.symm,h1⟩)
 ·cases e2
def u6(h:tE X.K cl (.comp e' tg it c') Y H Q):jh (tI X.K cl it) (gI tg) (gT X.K tg) (tT X.K cl c') (tE X.K cl e') Y H Q:=by
 kd_p;obtain⟨ds,e1,e⟩:=bind_some e;obtain⟨ds',e2,e⟩:=bind_some e;obtain⟨total,e3,e4⟩:=map_some e;unfold RL.fits at e2;split at e2
 ·rename_i hz;cases e2;subst e4;refine vi rv e1 hz e3 (fun QR Q0 H y Q rv1 hy q=>?_) fun l H' sm hl hx=>k _ _ (tL sm hl hx fun _=>rfl);obtain⟨t,h1,h2⟩:=bind_some hy;refine#[QR,t,rv1,h1,fun H' sm=>q t H' sm ?_]
  cases t with
  |true=>
   obtain⟨d,h3,h4⟩:=map_some (show(RL.ev cl QR e').map some=some y from h2);exact fI ⟨d,h4.symm,h3⟩
  |false=>
   cases(show(some none:Option (Option RL.D))=some y from h2);exact fX rfl
 ·cases e2
def Au(hc:X.calm=true)(S:pL scope X.env.scope)(hi:SI X cl tgE iter it)(B:jX X cl scope tgE tg elt e' nR [])(hs:∀ x,foldedSetIterable iter X.env x=pure x):SE X cl (.ListComp elt [⟨tgE,iter,[],0⟩] scope pos) (.compA e' tg it):=by
 kt_k;obtain⟨cls,h1,h2⟩:=gX S I;exact vc (fun _ _ _ _=>hc) h2 h1 hi B.blk hs pins s Y H Q I (sQ h)
def sr(hc:∀ {pins:List (Addr × Obj)} {Y:L2.St} {H:Hp} {s:Shared} (cls:List (Str × Addr)) (C:Addr) (fp:List Addr),Inv X pins Y H s->CM (blk X scope cls C fp s H))(S:pL scope X.env.scope)(hi:PI' CM X tgE iter (tI X.K cl it))(B:jX X cl scope tgE tg elt e' (tT X.K cl c') [c])(hs:∀ x,foldedSetIterable iter X.env x=pure x):SE X cl (.ListComp elt [⟨tgE,iter,[c],0⟩] scope pos) (.comp e' tg it c'):=by
 kt_k;obtain⟨cls,h1,h2⟩:=gX S I;exact vc hc h2 h1 hi B.blk hs pins s Y H Q I (u6 h)
abbrev SA(X:Cx)(cl:RL.Cl)(st:Stmt)(i:Nat)(e':RL.E):Prop:=PS X st (fun D Y H=>tE X.K cl e' Y H fun v H1=>D.nx (Y.set i (some v)) H1)
def PS.weak{st:Stmt}(h:PS X st t)(w:∀ D Y H,t' D Y H->t D Y H):PS X st t':=fun pins s Y H D I q=>h pins s Y H D I (w D Y H q)
def PSs.weak{st:List Stmt}(h:PSs X st t)(w:∀ D Y H,t' D Y H->t D Y H):PSs X st t':=fun pins s Y H D I q=>h pins s Y H D I (w D Y H q)
def AE(hc:X.calm=true)(hN:X.N.Nodup)(hiy:X.N[i]?=some y)(hy:X.env.scope.names.lookup y=some .local)(S:pL scope X.env.scope)(hi:SI X cl tgE iter it)(B:jX X cl scope tgE tg elt e' nR [])(hs:∀ x,foldedSetIterable iter X.env x=pure x)
 (hsw:swapsWith (.ListComp elt [⟨tgE,iter,[],0⟩] scope pos) (some (.Name y py)) spos.line X.env=pure true):SA X cl (.Assign [.Name y py] (.ListComp elt [⟨tgE,iter,[],0⟩] scope pos) spos) i (.compA e' tg it):=by
 intro pins s Y H D I h;obtain⟨cls,h1,h2⟩:=gX S I;exact vm hc hN hiy hy h2 h1 hi B.blk hs hsw pins s Y H D I (sQ h)
def A6(hc:X.calm=true)(hN:X.N.Nodup)(hiy:X.N[i]?=some y)(hy:X.env.scope.names.lookup y=some .local)(S:pL scope X.env.scope)(hi:SI X cl tgE iter it)(B:jX X cl scope tgE tg elt e' (tT X.K cl c') [c])(hs:∀ x,foldedSetIterable iter X.env x=pure x)
 (hsw:swapsWith (.ListComp elt [⟨tgE,iter,[c],0⟩] scope pos) (some (.Name y py)) spos.line X.env=pure true):SA X cl (.Assign [.Name y py] (.ListComp elt [⟨tgE,iter,[c],0⟩] scope pos) spos) i (.comp e' tg it c'):=by
 intro pins s Y H D I h;obtain⟨cls,h1,h2⟩:=gX S I;exact vm hc hN hiy hy h2 h1 hi B.blk hs hsw pins s Y H D I (u6 h)
def BB(hN:X.N.Nodup)(hiy:X.N[i]?=some y)(hx:Loc X.env.scope y)(he:SE X cl e e')(hf:X.fn y=true\/X.env.scope.names.lookup y=some .local)(hs:swapsWith e (some (.Name y py)) spos.line X.env=pure false)(hf2:True):SA X cl (.Assign [.Name y py] e spos) i e':=by
 exact se hN hiy hx he hs hf
end comp
abbrev aY(M:List Nat)(Y:L2.St):Addr->Prop:=fun a=>∃ i,M.contains i=true/\Y[i]?=some (some (.ref a))
abbrev Own(K:W.Frag)(H:Hp)(d:RL.D)(v:V):Prop:=m6 d=true/\RL.aK d=true/\Rep nP K H d v
structure RVm(K:W.Frag)(M:List Nat)(QP:RL.St)(Y:L2.St)(H:Hp):Prop where
 len:QP.length=Y.length
 val:∀ (i:Nat) (d:RL.D),QP[i]?=some (some d)->∃ v,Y[i]?=some (some v)/\(if M.contains i=true then Own K H d v else Rep (aY M Y) K H d v)
 non:∀ (i:Nat) (v:V),Y[i]?=some (some v)->∃ d,QP[i]?=some (some d)
 sep:∀ (i j:Nat) (a:Addr),M.contains i=true->M.contains j=true->Y[i]?=some (some (.ref a))->Y[j]?=some (some (.ref a))->i=j
abbrev Fr'(M:List Nat)(Y:L2.St)(H:Hp)(QQ:L2.St)(H':Hp):Prop:=(∀ b o,H b=some o->¬ aY M Y b->H' b=some o/\¬ aY M QQ b)/\∀ j,2<=M.count j->QQ[j]?=Y[j]?
def Fr'.trans(a:Fr' M Y H QR H1)(b:Fr' M QR H1 QS H2):Fr' M Y H QS H2:=#[fun c o e n=>b.1 c o (a.1 c o e n).1 (a.1 c o e n).2,fun j hj=>(b.2 j hj).trans (a.2 j hj)]
def Fr'.same(s:aw H H1):Fr' M Y H Y H1:=#[fun c o e n=>#[s _ _ e,n],fun _ _=>rfl]
def j2{M:List Nat}(h:2<=M.count j):M.contains j=true:=by
 have:0<M.count j:=by lia
 simpa using List.count_pos_iff.mp this
section st
variable{K:W.Frag}
def Own.ref(h:Own K H d v):∃ a o,v=.ref a/\H a=some o/\cX o:=by
 obtain⟨m,_,r⟩:=h
 cases d with
 | lst ds=>obtain⟨a,xs,e1,_,e2,_⟩:=aG r;exact#[a,_,e1,e2,.inl #[_,rfl]]
 | dK ks ds=>rw[Rep]at r;obtain⟨a,xs,e1,_,e2,_⟩:=r;exact#[a,_,e1,e2,.inr (.inl #[_,rfl])]
 | dT ks ds=>rw[Rep]at r;obtain⟨a,xs,e1,_,e2,_⟩:=r;exact#[a,_,e1,e2,.inr (.inr #[_,rfl])]
 | _=>cases m
def RVm.rv0(h:RVm K M QP Y H):RV0 K QP Y H:=⟨Nat.le_of_eq h.len,fun i d e=>by
 obtain⟨v,h1,h2⟩:=h.val i d e;refine#[v,h1,?_];by_cases hm:M.contains i=true
 ·rw[if_pos hm]at h2;exact h2.2.2
 ·rw[if_neg hm]at h2
  exact h2.none⟩
def RVm.we(h:RVm K M QP Y H):∀ a,aY M Y a->∃ o,H a=some o/\cX o:=fun a ⟨i,hi,e⟩=>by
 obtain⟨d,hd⟩:=h.non i _ e;obtain⟨v,h1,h2⟩:=h.val i d hd;rw[if_pos hi]at h2;obtain⟨b,o,e1,e2,e3⟩:=h2.ref;rw[e]at h1;cases h1;cases e1;exact#[o,e2,e3]
def RVm.uf(h:RVm K M QP Y H):∀ a,aY M Y a->H a≠none:=fun a p=>by
 obtain⟨o,e,_⟩:=h.we a p;rw[e]
 exact fun z=>nomatch z
def Own.same(h:Own K H d v)(s:aw H H1):Own K H1 d v:=#[h.1,h.2.1,h.2.2.same s]
def RVm.same(h:RVm K M QP Y H)(s:aw H H1):RVm K M QP Y H1:=⟨h.len,fun i d e=>by
 obtain⟨v,h1,h2⟩:=h.val i d e;refine#[v,h1,?_];by_cases hm:M.contains i=true
 ·rw[if_pos hm]at h2 ⊢;exact h2.same s
 ·rw[if_neg hm]at h2 ⊢
  exact h2.same s,h.non,h.sep⟩
def aY.set(hi:M.contains i=false):aY M (Y.set i (some v))=aY M Y:=by
 funext a;apply propext;constructor
 ·rintro⟨j,hj,e⟩
  have hne:i≠j:=fun z=>by subst z;rw[hi]at hj;cases hj
  rw[Qf hne]at e;exact#[j,hj,e]
 ·rintro⟨j,hj,e⟩
  have hne:i≠j:=fun z=>by subst z;rw[hi]at hj;cases hj
  exact#[j,hj,by rw[Qf hne];exact e]
def RVm.bind(h:RVm K M QP Y H)(hi:M.contains i=false)(r:Rep (aY M Y) K H d v):RVm K M (QP.set i (some d)) (Y.set i (some v)) H where
 len:=by simpa using h.len
 val:=fun j dj e=>by
  rw[aY.set hi];by_cases hj:j=i
  ·subst hj
   have hlt:j<QP.length:=by
    k_all;simpa using this
   rw[Qj hlt]at e;cases e;refine#[v,by rw[Qj (by rw[<-h.len];exact hlt)],?_];rw[if_neg (by rw[hi];decide)];exact r
  ·rw[Qf (Ne.symm hj)]at e ⊢;exact h.val j dj e
 non:=fun j w e=>by
  by_cases hj:j=i
  ·subst hj
   have hlt:j<Y.length:=by
    k_all;simpa using this
   exact#[d,by rw[Qj (by rw[h.len];exact hlt)]]
  ·rw[Qf (Ne.symm hj)]at e ⊢;exact h.non j w e
 sep:=fun j k a hj hk e1 e2=>by
  have n1:i≠j:=fun z=>by subst z;rw[hi]at hj;cases hj
  have n2:i≠k:=fun z=>by subst z;rw[hi]at hk;cases hk
  rw[Qf n1]at e1;rw[Qf n2]at e2;exact h.sep j k a hj hk e1 e2
def Fr'.bind{i:Nat}(hi:M.contains i=false)(s:aw H H1):Fr' M Y H (Y.set i (some v)) H1:=⟨fun b o e n=>#[s _ _ e,by rw[aY.set hi];exact n],fun j hj=>Qf (fun z=>by subst z;rw[j2 hj]at hi;cases hi)⟩
end st
mutual
theorem Rep.fF{P:Addr->Prop}{K:W.Frag}{H:Hp}{a:Addr}(ha:H a=none):∀ {d:RL.D} {v:V},Rep P K H d v->Rep (fun p=>P p\/p=a) K H d v
 | .non,v,h=>by simpa[Rep]using h
 | .bl _,v,h=>by simpa[Rep]using h
 | .int _,v,h=>by simpa[Rep]using h
 | .str _,v,h=>by simpa[Rep]using h
 | .tup ds,v,h=>by
  k_asm;obtain⟨b,xs,e1,e2,e3⟩:=h;exact#[b,xs,e1,e2,af.fF ha e3]
 | .lst ds,v,h=>by
  k_asm;obtain⟨b,xs,e1,e0,e2,e3⟩:=h;exact#[b,xs,e1,fun z=>z.elim e0 (fun q=>aR e2 ha q),e2,af.fF ha e3]
 | .dK ks ds,v,h=>by
  k_asm;obtain⟨b,xs,e1,e0,e2,el,e3⟩:=h;exact#[b,xs,e1,fun z=>z.elim e0 (fun q=>aR e2 ha q),e2,el,af.fF ha e3]
 | .dT ks ds,v,h=>by
  k_asm;obtain⟨b,xs,e1,e0,e2,el,e3⟩:=h;exact#[b,xs,e1,fun z=>z.elim e0 (fun q=>aR e2 ha q),e2,el,af.fF ha e3]
 | .scr ds,v,h=>by
  k_asm;obtain⟨b,xs,e1,e2,e3⟩:=h;exact#[b,xs,e1,e2,af.fF ha e3]
 | .exc c,v,h=>by rw[Rep]at h ⊢;exact h
theorem af.fF{P:Addr->Prop}{K:W.Frag}{H:Hp}{a:Addr}(ha:H a=none):∀ {ds:List RL.D} {xs:List V},af P K H ds xs->af (fun p=>P p\/p=a) K H ds xs
 | [],xs,h=>by rw[af]at h ⊢;exact h
 | d::r,xs,h=>by
  rw[af]at h ⊢;obtain⟨x,t,e1,e2,e3⟩:=h;exact#[x,t,e1,Rep.fF ha e2,af.fF ha e3]
end
section st
variable{K:W.Frag}
def RVm.own(h:RVm K M QP Y H)(s:aw H H1)(hi:M.contains i=true)(hi2:M.count i<2)(ha:H a=none)(r:Own K H1 d (.ref a)):RVm K M (QP.set i (some d)) (Y.set i (some (.ref a))) H1/\Fr' M Y H (Y.set i (some (.ref a))) H1:=by
 have sub:∀ b,aY M (Y.set i (some (.ref a))) b->aY M Y b\/b=a:=fun b ⟨j,hj,e⟩=>by
  by_cases hji:j=i
  ·subst hji
   have hlt:j<Y.length:=by
    k_all;simpa using this
   rw[Qj hlt]at e;cases e;exact .inr rfl
  ·rw[Qf (Ne.symm hji)]at e;exact .inl #[j,hj,e]
 have old:∀ b,aY M Y b->b≠a:=fun b p z=>h.uf b p (z▸ha);refine#[#[by simpa using h.len,fun j dj e=>?_,fun j w e=>?_,fun j k b hj hk e1 e2=>?_],#[fun b o e n=>#[s _ _ e,fun z=>(sub b z).elim n fun q=>aR e ha q],fun j hj=>Qf (fun z=>by subst z;lia)]]
 ·by_cases hj:j=i
  ·subst hj
   have hlt:j<QP.length:=by
    k_all;simpa using this
   rw[Qj hlt]at e;cases e;refine#[.ref a,by rw[Qj (by rw[<-h.len];exact hlt)],?_];rw[if_pos hi];exact r
  ·rw[Qf (Ne.symm hj)]at e ⊢;obtain⟨v,h1,h2⟩:=h.val j dj e;refine#[v,h1,?_];by_cases hm:M.contains j=true
   ·rw[if_pos hm]at h2 ⊢;exact h2.same s
   ·rw[if_neg hm]at h2 ⊢;exact((h2.fF ha).weak sub).same s
 ·by_cases hj:j=i
  ·subst hj
   have hlt:j<Y.length:=by
    k_all;simpa using this
   exact#[d,by rw[Qj (by rw[h.len];exact hlt)]]
  ·rw[Qf (Ne.symm hj)]at e ⊢;exact h.non j w e
 ·by_cases h1:j=i
  ·by_cases h2:k=i
   ·rw[h1,h2]
   ·subst h1
    have hlt:j<Y.length:=by
     have:=(List.getElem?_eq_some_iff.mp e1).1;simpa using this
    rw[Qj hlt]at e1;rw[Qf (Ne.symm h2)]at e2;cases e1;exact absurd rfl (old _ ⟨k,hk,e2⟩)
  ·rw[Qf (Ne.symm h1)]at e1;by_cases h2:k=i
   ·subst h2
    have hlt:k<Y.length:=by
     have:=(List.getElem?_eq_some_iff.mp e2).1;simpa using this
    rw[Qj hlt]at e2;cases e2;exact absurd rfl (old _ ⟨j,hj,e1⟩)
   ·rw[Qf (Ne.symm h2)]at e2;exact h.sep j k b hj hk e1 e2
def RVm.jz(h:RVm K M QP Y H)(hi:M.contains i=true)(e:Y[i]?=some (some (.ref a)))(ha:H a=some o)(m:cX o)(r:Own K (upd H a o') d' (.ref a)):RVm K M (QP.set i (some d')) Y (upd H a o')/\Fr' M Y H Y (upd H a o'):=by
 have pa:aY M Y a:=#[i,hi,e]
 refine#[#[by simpa using h.len,fun j dj e'=>?_,fun j w e'=>?_,h.sep],#[fun b u eb n=>#[?_,n],fun _ _=>rfl]]
 ·by_cases hj:j=i
  ·subst hj
   have hlt:j<QP.length:=by
    have:=(List.getElem?_eq_some_iff.mp e').1;simpa using this
   rw[Qj hlt]at e';cases e';refine#[.ref a,e,?_];rw[if_pos hi];exact r
  ·rw[Qf (Ne.symm hj)]at e';obtain⟨v,h1,h2⟩:=h.val j dj e';refine#[v,h1,?_];by_cases hm:M.contains j=true
   ·rw[if_pos hm]at h2 ⊢;obtain⟨b,ob,rfl,hb,_⟩:=h2.ref
    have hne:b≠a:=fun z=>by subst z;exact hj (h.sep j i b hm hi h1 e)
    obtain⟨q1,q2,q3⟩:=h2;refine#[q1,q2,?_];have im:∀ {ds:List RL.D} {xs:List V},RL.au ds=true->af nP K H ds xs->af nP K (L2.upd H a o') ds xs:=fun hi r=>(af.upd (P:=fun p=>p=a) ha m rfl (r.imm hi)).imm hi
    cases dj with
    | lst ds=>obtain⟨b',xs,e1,e0,e2,e3⟩:=aG q3;cases e1;rw[Rep];exact#[b,xs,rfl,fun z=>z,by rw[L2.aO hne];exact e2,im q2 e3]
    | dK ks ds=>rw[Rep]at q3 ⊢;obtain⟨b',xs,e1,e0,e2,el,e3⟩:=q3;cases e1;exact#[b,xs,rfl,fun z=>z,by rw[L2.aO hne];exact e2,el,im q2 e3]
    | dT ks ds=>rw[Rep]at q3 ⊢;obtain⟨b',xs,e1,e0,e2,el,e3⟩:=q3;cases e1;exact#[b,xs,rfl,fun z=>z,by rw[L2.aO hne];exact e2,el,im q2 e3]
    | _=>cases q1
   ·rw[if_neg hm]at h2 ⊢;exact Rep.upd ha m pa h2
 ·obtain⟨dj,hd⟩:=h.non j w e';by_cases hj:j=i
  ·subst hj;have hlt:=(List.getElem?_eq_some_iff.mp hd).1;exact#[d',by rw[Qj hlt]]
  ·exact#[dj,by rw[Qf (Ne.symm hj)];exact hd]
 ·have hb:b≠a:=fun z=>n (z▸pa);rw[L2.aO hb];exact eb
end st
abbrev sC(K:W.Frag)(M:List Nat)(D:Ends)(Y:L2.St)(H:Hp):RL.Out->RL.St->Prop
 | .nx,QT=>∀ QQ H',RVm K M QT QQ H'->Fr' M Y H QQ H'->D.nx QQ H'
 | .rt d,QT=>∀ QR H1 v H',RVm K M QT QR H1->Fr' M Y H QR H1->aw H1 H'->(∀ P:Addr->Prop,(∀ p,P p->H1 p≠none/\¬ aY M QR p)->Rep P K H' d v)->D.rt v H'
def sC.from{K:W.Frag}(h:sC K M D Y H r QT)(f:Fr' M Y H QR H1):sC K M D QR H1 r QT:=by
 cases r with
 | nx=>exact fun QS H2 rv2 fr2=>h QS H2 rv2 (f.trans fr2)
 | rt d=>exact fun QR H1 v H2 rv2 fr2 sm rp=>h QR H1 v H2 rv2 (f.trans fr2) sm rp
abbrev tS(K:W.Frag)(M:List Nat)(f:RL.St->Option (RL.Out × RL.St)):TS:=fun D Y H=>∃ QP r QT,RVm K M QP Y H/\f QP=some (r,QT)/\sC K M D Y H r QT
abbrev SS(X:Cx)(cl:RL.Cl)(M:List Nat)(st:Stmt)(s:RL.S):Prop:=PS X st (tS X.K M (RL.evS cl M s))
abbrev SSs(X:Cx)(cl:RL.Cl)(M:List Nat)(st:List Stmt)(s:RL.Ss):Prop:=PSs X st (tS X.K M (RL.ag cl M s))
section rules
variable{st:Stmt}{i j:Nat}
def DH:SSs X cl M [] .nil:=by
 refine PSs.weak DC fun D Y H h=>?_;obtain⟨QP,r,QT,rv,e,k⟩:=h;rw[RL.ag]at e;cases e;exact k Y H rv (Fr'.same (aw.refl H))
def A3(h1:SS X cl M st s)(h2:SSs X cl M sts r):SSs X cl M (st::sts) (.cons s r):=by
 refine PSs.weak (mz h1 h2) fun D Y H h=>?_;f_tup;rw[RL.ag]at e;obtain⟨p,e1,e2⟩:=bind_some e;obtain⟨o1,QR⟩:=p;refine#[QP,o1,QR,rv,e1,?_]
 cases o1 with
 |rt d=>
  cases e2;exact k
 |nx=>
  exact fun QQ H' rv' fr'=>#[QR,o,QT,rv',e2,k.from fr']
def GH(h:SA X cl st i e')(hi:M.contains i=false):SS X cl M st (.asg i e'):=by
 refine PS.weak h fun D Y H h=>?_;f_tup;gp_on;split at e2
 ·rename_i ok;cases e2;refine#[QP,d,rv.rv0,e1,fun v H1 r1=>k _ _ ?_ (Fr'.bind hi r1.same)];refine(rv.same r1.same).bind hi ?_;unfold RL.aV at ok;rw[Bool.or_eq_true,Bool.or_eq_true,Bool.and_eq_true]at ok;rcases ok with(q | ⟨q1,q2⟩) | q
  ·exact r1.rep.imm q
  ·have rp:=r1.rep;have fr:m6 d=true->∀ a,v=.ref a->¬ aY M Y a:=fun m a z p=>rv.uf a p (r1.fresh q2 m a z)
   cases d with
   | lst ds=>obtain⟨a,xs,e1,e0,e2,e3⟩:=aG rp;rw[Rep];exact#[a,xs,e1,fr rfl a e1,e2,e3.imm q1]
   | dK ks ds=>rw[Rep]at rp ⊢;obtain⟨a,xs,e1,e0,e2,el,e3⟩:=rp;exact#[a,xs,e1,fr rfl a e1,e2,el,e3.imm q1]
   | dT ks ds=>rw[Rep]at rp ⊢;obtain⟨a,xs,e1,e0,e2,el,e3⟩:=rp;exact#[a,xs,e1,fr rfl a e1,e2,el,e3.imm q1]
   | _=>cases q1
  ·refine r1.av M q _ rv.uf fun j dj vj hj h1 h2=>?_;obtain⟨v',h3,h4⟩:=rv.val j dj h1;rw[h2]at h3;cases h3;rw[if_neg (by rw[hj];decide)]at h4;exact h4
 ·cases e2
def HQ(h:SA X cl st i e')(hi:M.contains i=true)(hi2:M.count i<2):SS X cl M st (.own i e'):=by
 refine PS.weak h fun D Y H h=>?_;f_tup;gp_on;split at e2
 ·rename_i ok;cases e2;rw[Bool.and_eq_true]at ok;refine#[QP,d,rv.rv0,e1,fun v H1 r1=>?_]
  have m:m6 d=true:=by
   cases d with
   | lst _=>rfl
   | dK _ _=>rfl
   | dT _ _=>rfl
   | _=>cases ok.1
  have ow:Own X.K H1 d v:=#[m,ok.1,r1.rep]
  obtain⟨a,ob,rfl,_,_⟩:=ow.ref;obtain⟨h1,h2⟩:=rv.own r1.same hi hi2 (r1.fresh ok.2 m a rfl) ow;exact k _ _ h1 h2
 ·cases e2
def IK{c:Expr}(hc:ST X cl c c')(ha:SSs X cl M a a')(hb:SSs X cl M b b'):SS X cl M (.If c a b pos) (.ife c' a' b'):=by
 refine PS.weak (wX hc ha hb) fun D Y H h=>?_;f_tup;obtain⟨t,e1,e2⟩:=bind_some e;refine#[QP,t,rv.rv0,e1,fun H1 s1=>?_];have k1:=k.from (Fr'.same (Y:=Y) s1)
 cases t with
 | true=>exact fI ⟨QP,o,QT,rv.same s1,e2,k1⟩
 | false=>exact fX ⟨QP,o,QT,rv.same s1,e2,k1⟩
def Fe(he:SE X cl e e')(hv:∀ i,e'=.var i->M.contains i=false):SS X cl M (.Return (some e) pos) (.ret e'):=by
 refine PS.weak (tR he) fun D Y H h=>?_;obtain⟨QP,o,QT,rv,ev,k⟩:=h;obtain⟨d,e1,e2⟩:=bind_some ev;split at e2
 ·rename_i ok;cases e2;refine#[QP,d,rv.rv0,e1,fun v H1 r1=>k Y H v H1 rv (Fr'.same (aw.refl H)) r1.same fun P hP=>?_];unfold RL.bB at ok;rw[Bool.or_eq_true,Bool.and_eq_true,Bool.or_eq_true]at ok
  rcases ok with q | ⟨q1,q2⟩
  ·exact r1.rep.imm q
  ·have rp:=r1.rep
   have fr:m6 d=true->∀ a,v=.ref a->¬ P a:=fun m a z p=>by
    rcases q2 with q | q
    ·exact(hP a p).1 (r1.fresh q m a z)
    ·cases e' with
     |var i=>
      have hi:M.contains i=true:=q;rw[hv i rfl]at hi;cases hi
     | _=>cases q
   cases d with
   | lst ds=>obtain⟨a,xs,e1,e0,e2,e3⟩:=aG rp;rw[Rep];exact#[a,xs,e1,fr rfl a e1,e2,e3.imm q1]
   | dK ks ds=>rw[Rep]at rp ⊢;obtain⟨a,xs,e1,e0,e2,el,e3⟩:=rp;exact#[a,xs,e1,fr rfl a e1,e2,el,e3.imm q1]
   | dT ks ds=>rw[Rep]at rp ⊢;obtain⟨a,xs,e1,e0,e2,el,e3⟩:=rp;exact#[a,xs,e1,fr rfl a e1,e2,el,e3.imm q1]
   | _=>cases q1
 ·cases e2
def DV(hN:X.N[i]?=some x)(hv:Vis X.env.scope x)(hd:(x == ("__debug__" : Str))=false)(hcd:(x == ("__classdict__" : Str))=false)(hi:M.contains i=true):SS X cl M (.Return (some (.Name x p)) pos) (.ret (.var i)):=by
 refine PS.weak (tR (i5 hN hv hd hcd)) fun D Y H h=>?_;f_tup;gp_on;split at e2
 ·cases e2
  have e3:QP[i]?=some (some d):=by
   obtain⟨o,h1,h2⟩:=bind_some e1
   cases o with
   | none=>cases h2
   | some z=>cases h2;exact h1
  obtain⟨v,h1,h2⟩:=rv.val i d e3;rw[if_pos hi]at h2;refine#[v,h1,k Y H v H rv (Fr'.same (aw.refl H)) (aw.refl H) fun P hP=>?_];obtain⟨a,o,rfl,_,_⟩:=h2.ref;have np:¬ P a:=fun p=>(hP a p).2 ⟨i,hi,h1⟩;obtain⟨q1,q2,q3⟩:=h2
  cases d with
  | lst ds=>obtain⟨b,xs,e1,e0,e2,e3⟩:=aG q3;cases e1;rw[Rep];exact#[a,xs,rfl,np,e2,e3.imm q2]
  | dK ks ds=>rw[Rep]at q3 ⊢;obtain⟨b,xs,e1,e0,e2,el,e3⟩:=q3;cases e1;exact#[a,xs,rfl,np,e2,el,e3.imm q2]
  | dT ks ds=>rw[Rep]at q3 ⊢;obtain⟨b,xs,e1,e0,e2,el,e3⟩:=q3;cases e1;exact#[a,xs,rfl,np,e2,el,e3.imm q2]
  | _=>cases q1
 ·cases e2
def slot_get{QP:RL.St}(h:(QP[i]?).bind id=some d):QP[i]?=some (some d):=by
 obtain⟨o,h1,h2⟩:=bind_some h
 cases o with
 | none=>cases h2
 | some z=>cases h2;exact h1
def E8(h:PS X st (qT (tBM X.K "list" vT (j8 i) (tEs X.K cl (.cons e' .nil)))))(hi:M.contains i=true):SS X cl M st (.app i e'):=by
 refine PS.weak h fun D Y H h=>?_;f_tup;gp_on;obtain⟨l,e3,e4⟩:=bind_some e2
 cases l with
 |lst ds=>
  dsimp only at e4;split at e4
  ·rename_i ok;cases e4;rw[Bool.and_eq_true,decide_eq_true_eq]at ok;obtain⟨v,h1,h2⟩:=rv.val i _ (slot_get e3);rw[if_pos hi]at h2;obtain⟨q1,q2,q3⟩:=h2;obtain⟨a,xs,rfl,_,f2,f3⟩:=aG q3;refine#[.ref a,h1,.inl #[rfl,xs,SqL.of f2],QP,[d],rv.rv0,by rw[RL.evs,e1];rfl,fun vs H1 s1 r1=>?_];rw[af]at r1;obtain⟨y,t,rfl,r2,r3⟩:=r1;rw[af]at r3;subst r3
   have hl:xs.length<sizeLine:=by rw[<-f3.length];exact Qh ok.2 cA
   refine#[a,xs,y,rfl,rfl,s1 _ _ f2,hl,?_]
   have im:RL.au (ds++[d])=true:=by
    have:∀ l:List RL.D,RL.au l=true->RL.au (l++[d])=true:=fun l=>by
     induction l with
     | nil=>intro _;simp[RL.au,ok.1]
     | cons z r ih=>intro h;rw[RL.au,Bool.and_eq_true]at h;rw[List.cons_append,RL.au,h.1,ih h.2];rfl
    exact this ds q2
   have rs:af nP X.K (upd H1 a (.lst (xs++[y]))) (ds++[d]) (xs++[y]):=(af.upd (P:=fun p=>p=a) (s1 _ _ f2) (.inl #[_,rfl]) rfl ((af.append (f3.same s1) (af.cons r2 af.nil)).imm im)).imm im;obtain⟨g1,g2⟩:=(rv.same s1).jz (d':=.lst (ds++[d])) (o':=.lst (xs++[y])) hi h1 (s1 _ _ f2) (.inl #[_,rfl]) ⟨rfl,im,by rw[Rep];exact#[a,_,rfl,fun z=>z,aT,rs]⟩;exact k _ _ g1 ((Fr'.same s1).trans g2)
  ·cases e4
 | _=>cases e4
end rules
def RVm.bF{K:W.Frag}{M:List Nat}{H:Hp}:∀ {tg:List Nat} {ds:List RL.D} {vs:List V} {QP:RL.St} {Y:L2.St},RVm K M QP Y H->(∀ i∈tg,M.contains i=false)->tg.length=ds.length->RL.au ds=true->af nP K H ds vs ->
  RVm K M (eU tg ds QP) (df tg vs Y) H/\aY M (df tg vs Y)=aY M Y
 | [],_,_,_,_,h,_,_,_,_=>#[h,rfl]
 | i::is,[],_,_,_,_,_,hl,_,_=>by simp at hl
 | i::is,d::ds,vs,QP,Y,h,hM,hl,him,r=>by
  rw[af]at r;obtain⟨v,t,rfl,r1,r2⟩:=r;rw[RL.au,Bool.and_eq_true]at him;rw[eU,df];have hi:=hM i Qq;obtain⟨g1,g2⟩:=RVm.bF (h.bind hi (r1.imm him.1)) (fun j hj=>hM j (Ql _ hj)) (by simpa using hl) him.2 r2;exact#[g1,g2.trans (aY.set hi)]
def mO{M tg:List Nat}{vs:List V}{Y:L2.St}{j:Nat}(hM:∀ i∈tg,M.contains i=false)(hj:2<=M.count j):(df tg vs Y)[j]?=Y[j]?:=by
 refine oS tg vs Y j ?_
 cases hc:tg.contains j with
 | false=>rfl
 |true=>
  have:=hM j (by simpa using hc);rw[j2 hj]at this;cases this
section rules
variable{X:Cx}{cl:RL.Cl}{M:List Nat}{st:Stmt}{tgE iter:Expr}{body:List Stmt}{b:RL.Ss}{it:RL.It}{tg:List Nat}{e' k' a' b':RL.E}{i j:Nat}{pos:Pos}
def xg{f:RL.St->Option (RL.Out × RL.St)}{d:RL.D}{ds:List RL.D}{Y:RL.St}{p:RL.Out × RL.St}(h:RL.aS f tg (d::ds) Y=some p):d.imm=true/\∃ QR o QS,RL.aX tg d Y=some QR/\f QR=some (o,QS) /\
  (match o with | .nx=>RL.aS f tg ds QS=some p | .rt d=>p=(.rt d,QS)):=by
 rw[RL.aS]at h;split at h
 ·rename_i him;obtain⟨QR,h1,h⟩:=bind_some h;obtain⟨⟨o,QS⟩,h2,h⟩:=bind_some h;refine#[him,QR,o,QS,h1,h2,?_]
  cases o with
  | nx=>exact h
  | rt d=>exact(Option.some.inj h).symm
 ·cases h
def Gi(hx:X.xe=fun _ _=>False)(hc:X.calm=true)(hi:SI X cl tgE iter it)(hg:PG X tgE (gT X.K tg))(hb:SSs X cl M body b)(hs:∀ x,foldedSetIterable iter X.env x=pure x)(hav:RL.tY M it=true)(hM:∀ i∈tg,M.contains i=false) :
  SS X cl M (.For tgE iter body [] pos) (.forr tg it b):=by
 refine PS.weak (yA (by rw[hx];exact PassesOwn.never) hc hi hg hb hs) fun D Y H h=>?_;obtain⟨QP,r,QT,rv,e,k⟩:=h;obtain⟨ds,e1,e2⟩:=bind_some e;refine#[QP,ds,rv.rv0,e1,fun J H1 s1 src=>?_]
 have ok:ja X.K J ds (aY M Y) H1:=src.2 M (aY M Y) hav rv.we fun j dj vj hj h1 h2=>by
  obtain⟨v',h3,h4⟩:=rv.val j dj h1;rw[h2]at h3;cases h3;rw[if_neg (by rw[hj];decide)]at h4;exact h4
 have k1:=k.from (Fr'.same (Y:=Y) s1);refine#[fun i m QS H2=>∃ QV,m=ds.length-i/\i<=ds.length/\RVm X.K M QV QS H2/\Fr' M Y H1 QS H2/\RL.aS (RL.ag cl M b) tg (ds.drop i) QV=some (r,QT),#[_,QP,rfl,Nat.zero_le _,rv.same s1,Fr'.same (aw.refl _),e2],?_];rintro i m QS H2 ⟨QV,rfl,hi2,rv2,fr2,hl⟩;have off:Off (aY M Y) H1 H2:=fun b o n e=>(fr2.1 b o e n).1;by_cases hlt:i<ds.length
 ·refine .inr #[ok.go H2 i off hlt,fun QQ H'=>∃ m',m'<ds.length-i/\∃ QV,m'=ds.length-(i+1)/\i+1<=ds.length/\RVm X.K M QV QQ H'/\Fr' M Y H1 QQ H'/\RL.aS (RL.ag cl M b) tg (ds.drop (i+1)) QV=some (r,QT),fun QQ H' z=>z,fun x H3 y=>?_];rw[List.drop_eq_getElem_cons hlt]at hl;obtain⟨him,QU,o,QX,h1,h2,h3⟩:=xg hl;obtain⟨s3,rp⟩:=ok.yld H2 i ds[i] x H3 off (by simp[hlt]) y;obtain⟨dv,vs,q1,q2,q3,q4,q5⟩:=xk h1 (rp (.inl him));refine q5 _ _ ?_;obtain⟨rv3,as3⟩:=(rv2.same s3).bF hM q2 (q4 him) q3
  have fr3:Fr' M Y H1 (df tg vs QS) H3:=#[fun b o e n=>#[s3 _ _ (fr2.1 b o e n).1,by rw[as3];exact(fr2.1 b o e n).2],fun j hj=>(mO hM hj).trans (fr2.2 j hj)]
  refine#[QU,o,QX,by rw[q1];exact rv3,h2,?_]
  cases o with
  | nx=>exact fun QQ H' rv' fr'=>#[_,by lia,QX,rfl,hlt,rv',fr3.trans fr',h3]
  |rt d=>
   cases h3;exact fun QQ H' v H4 rv' fr' sm rp=>k1 QQ H' v H4 rv' (fr3.trans fr') sm rp
 ·have e:i=ds.length:=by lia
  subst e;rw[List.drop_length,RL.aS]at hl;cases hl;exact .inl #[ok.stop H2 off,k1 QS H2 rv2 fr2]
def Bz{n:Nat}{k:Int}{j:Nat}(h:RL.mE n k=some j):ixN n k=some j:=h
def yo:∀ {ds:List RL.D} {d:RL.D} (j:Nat),RL.au ds=true->d.imm=true->RL.au (ds.set j d)=true
 | [],d,j,_,_=>by simp[RL.au]
 | x::r,d,0,h,hd=>by rw[RL.au,Bool.and_eq_true]at h;rw[List.set_cons_zero,RL.au,hd,h.2];rfl
 | x::r,d,j+1,h,hd=>by rw[RL.au,Bool.and_eq_true]at h;rw[List.set_cons_succ,RL.au,h.1,yo j h.2 hd];rfl
def pB{H:Hp}{a:Addr}{ds:List RL.D}{xs ys:List V}{ds':List RL.D}(f2:H a=some (.lst xs))(im:RL.au ds'=true)(rs:af nP X.K H ds' ys):Own X.K (upd H a (.lst ys)) (.lst ds') (.ref a) :=
 ⟨rfl,im,by rw[Rep];exact#[a,_,rfl,fun z=>z,aT,(af.upd (P:=fun p=>p=a) f2 (.inl #[_,rfl]) rfl (rs.imm im)).imm im]⟩
def Gj(h:PS X st (p8 (tE X.K cl e') (Ba (j8 i) (tE X.K cl k') wB)))(hi:M.contains i=true)(hl:True):PS X st (tS X.K M fun QP=>(RL.ev cl QP e').bind fun d=>(RL.ev cl QP k').bind fun kk=>((QP[i]?).bind id).bind fun l=>match l with
  | .lst _=>if d.imm then(RL.fw l kk d).map fun l'=>(.nx,QP.set i (some l'))else none
  | _=>none):=by
 refine PS.weak h fun D Y H h=>?_;f_tup;obtain⟨d,e1,e⟩:=bind_some e;obtain⟨kk,e2,e⟩:=bind_some e;obtain⟨l,e3,e⟩:=bind_some e
 cases l with
 |lst ds=>
  dsimp only at e;split at e
  ·rename_i him;obtain⟨l',e4,e5⟩:=map_some e;cases e5;obtain⟨v,h1,h2⟩:=rv.val i _ (slot_get e3);rw[if_pos hi]at h2;obtain⟨q1,q2,q3⟩:=h2;obtain⟨a,xs,rfl,_,f2,f3⟩:=aG q3
   cases kk with
   |int kk=>
    obtain⟨jx,e6,e7⟩:=map_some (show(RL.mE ds.length kk).map (fun j=>RL.D.lst (ds.set j d))=some l' from e4);subst e7;refine#[QP,d,rv.rv0,e1,fun y H1 r1=>#[.ref a,h1,QP,.int kk,rv.rv0.same r1.same,e2,fun z H2 r2=>?_]];have sm:=r1.same.trans r2.same;refine#[a,xs,kk,jx,rfl,ah r2.rep,sm _ _ f2,?_,?_]
    ·rw[<-f3.length];exact Bz e6
    ·have im:=yo jx q2 him;obtain⟨g1,g2⟩:=(rv.same sm).jz (d':=.lst (ds.set jx d)) (o':=.lst (xs.set jx y)) hi h1 (sm _ _ f2) (.inl #[_,rfl]) (pB (ds:=ds) (sm _ _ f2) im (af.set jx (f3.same sm) (r1.rep.same r2.same)));exact k _ _ g1 ((Fr'.same sm).trans g2)
   | _=>cases e4
  ·cases e
 | _=>cases e
def pb:∀ {ds:List RL.D},RL.au ds=true->RL.au ds.dropLast=true
 | [],_=>rfl
 | [x],_=>rfl
 | x::y::r,h=>by rw[RL.au,Bool.and_eq_true]at h;rw[List.dropLast_cons_cons,RL.au,h.1,pb h.2];rfl
def zh:∀ {ds:List RL.D} {i:Nat} {d:RL.D},RL.au ds=true->ds[i]?=some d->d.imm=true
 | [],i,d,_,e=>by simp at e
 | x::r,0,d,h,e=>by rw[RL.au,Bool.and_eq_true]at h;simp at e;subst e;exact h.1
 | x::r,i+1,d,h,e=>by rw[RL.au,Bool.and_eq_true]at h;exact zh (i:=i) h.2 (by simpa using e)
def af.dropLast{P:Addr->Prop}{K:W.Frag}{H:Hp}{ds:List RL.D}{xs:List V}(h:af P K H ds xs):af P K H ds.dropLast xs.dropLast:=by
 rw[List.dropLast_eq_take,List.dropLast_eq_take,<-h.length];exact h.take _
def HP(h:PS X st (p8 (Bm X.K "list" B2 (j8 i)) (oC j)))(hi:M.contains i=true)(hj:M.contains j=false):SS X cl M st (.pop i j):=by
 refine PS.weak h fun D Y H h=>?_;f_tup;obtain⟨l,e3,e⟩:=bind_some e
 cases l with
 |lst ds=>
  obtain⟨d,e4,e5⟩:=map_some e;cases e5;obtain⟨v,h1,h2⟩:=rv.val i _ (slot_get e3);rw[if_pos hi]at h2;obtain⟨q1,q2,q3⟩:=h2;obtain⟨a,xs,rfl,_,f2,f3⟩:=aG q3;obtain⟨y,f4,f5⟩:=f3.get e4;refine#[.ref a,h1,.inl #[rfl,xs,SqL.of f2],a,xs,y,rfl,rfl,f2,by rw[<-f3.length];exact f4,?_];have im:=pb q2;obtain⟨g1,g2⟩:=rv.jz (d':=.lst ds.dropLast) (o':=.lst xs.dropLast) hi h1 f2 (.inl #[_,rfl]) (pB (ds:=ds) f2 im f3.dropLast);have hdi:d.imm=true:=zh q2 e4;have rd:Rep (aY M Y) X.K (upd H a (.lst xs.dropLast)) d y:=Rep.imm hdi (Rep.upd (P:=fun p=>p=a) f2 (.inl #[_,rfl]) rfl (f5.imm hdi));exact k _ _ (g1.bind hj rd) (g2.trans (Fr'.bind hj (aw.refl _)))
 | _=>cases e
def FL(h:PS X st (E6 i j (tEs X.K cl (.cons a' (.cons b' .nil)))))(hi:M.contains i=false)(hj:M.contains j=false):SS X cl M st (.par i j a' b'):=by
 refine PS.weak h fun D Y H h=>?_;f_tup;obtain⟨x,e1,e⟩:=bind_some e;obtain⟨y,e2,e⟩:=bind_some e;split at e
 ·rename_i him;cases e;rw[Bool.and_eq_true]at him;refine#[QP,[x,y],rv.rv0,by rw[RL.evs,e1,RL.evs,e2];rfl,fun vs H1 s1 r1=>?_];rw[af]at r1;obtain⟨v,t,rfl,r2,r3⟩:=r1;rw[af]at r3;obtain⟨u,t,rfl,r4,r5⟩:=r3;rw[af]at r5;subst r5;refine#[v,u,rfl,k _ _ ?_ ?_]
  ·refine((rv.same s1).bind hi (r2.imm him.1)).bind hj (r4.imm him.2)
  ·exact(Fr'.bind hi s1).trans (Fr'.bind hj (aw.refl _))
 ·cases e
def Fw(h:PS X st (qT (tE X.K cl e'))):SS X cl M st (.exc e'):=by
 refine PS.weak h fun D Y H h=>?_;f_tup;obtain⟨d,e1,e2⟩:=map_some e;cases e2;exact#[QP,d,rv.rv0,e1,fun v H1 r1=>k _ _ (rv.same r1.same) (Fr'.same r1.same)]
end rules
section rules
variable{st:Stmt}
def DU(h:PS X st (p8 (tE X.K cl e') (fun v Y H Q=>pR X.K is.length (gs is) v Y H Q\/pP X.K is.length (gs is) v Y H Q)))(hM:∀ i∈is,M.contains i=false):SS X cl M st (.unp is e'):=by
 refine PS.weak h fun D Y H h=>?_;f_tup;obtain⟨d,e1,e⟩:=bind_some e;obtain⟨ds,e2,e⟩:=bind_some e;split at e
 ·rename_i him;obtain⟨QR,e3,e4⟩:=map_some e;cases e4;obtain⟨q1,q2⟩:=gA e3;refine#[QP,d,rv.rv0,e1,fun v H1 r1=>?_];obtain⟨p,xs,rfl,hp,rs⟩:=fP e2 r1.rep;obtain⟨g1,g2⟩:=(rv.same r1.same).bF (vs:=xs) hM q1 him rs;have fin:D.nx (df is xs Y) H1:=k _ _ (by rw[q2];exact g1) ⟨fun b o e n=>#[r1.same _ _ e,by rw[g2];exact n],fun j hj=>mO hM hj⟩
  have hl:xs.length=is.length:=by rw[<-rs.length,q1]
  rcases hp with⟨hp,_⟩ | ⟨hp,_⟩
  ·exact .inr #[p,xs,rfl,SqL.of hp,hl,km hl.symm fin]
  ·exact .inl #[p,xs,rfl,SqT.of hp,hl,km hl.symm fin]
 ·cases e
def mD(xs:List α)(k:Int):(xs.drop (HT.sIx xs.length 0 none)).take (HT.sIx xs.length xs.length (some k)-HT.sIx xs.length 0 none)=xs.take (RL.cutAt xs.length k):=by
 rw[HT.rQ,List.drop_zero,Nat.sub_zero];congr 1;have h:=HT.gZ k xs.length xs.length;unfold RL.cutAt;split at h
 ·rename_i h0;rw[if_neg ⋯];lia
 ·rename_i h0;rw[if_pos ⋯];lia
def sZ(xs:List α)(k:Int):(xs.drop (HT.sIx xs.length 0 (some k))).take (HT.sIx xs.length xs.length none-HT.sIx xs.length 0 (some k))=xs.drop (RL.cutAt xs.length k):=by
 have e:HT.sIx xs.length 0 (some k)=RL.cutAt xs.length k:=by
  have h:=HT.gZ k xs.length 0;unfold RL.cutAt;split at h
  ·rename_i h0;rw[if_neg ⋯];lia
  ·rename_i h0;rw[if_pos ⋯];lia
 rw[e,HT.rQ];exact QB (by rw[List.length_drop];exact Qc _)
end rules
section rules
variable{X:Cx}
def one(rv:RV0 X.K QP Y H)(ea:RL.ev cl QP a'=some d)(k:∀ v H1,aw H H1->Rep nP X.K H1 d v->R [v] H1):tEs X.K cl (.cons a' .nil) Y H R :=
 ⟨QP,[d],rv,by rw[RL.evs,ea];rfl,fun vs H1 s1 r1=>by
  rw[af]at r1;obtain⟨v,t,rfl,r2,r3⟩:=r1;rw[af]at r3;subst r3
  exact k v H1 s1 r2⟩
def pair(rv:RV0 X.K QP Y H)(ea:RL.ev cl QP a'=some d)(eb:RL.ev cl QP b'=some d')(k:∀ v u H1,aw H H1->Rep nP X.K H1 d v->Rep nP X.K H1 d' u->R [v,u] H1):tEs X.K cl (.cons a' (.cons b' .nil)) Y H R :=
 ⟨QP,[d,d'],rv,by rw[RL.evs,ea,RL.evs,eb];rfl,fun vs H1 s1 r1=>by
  rw[af]at r1;obtain⟨v,t,rfl,r2,r3⟩:=r1;rw[af]at r3;obtain⟨u,t,rfl,r4,r5⟩:=r3;rw[af]at r5;subst r5
  exact k v u H1 s1 r2 r4⟩
def qq{id:String}{r:List V->Hp->VK->Prop}{b:RL.Bi}(hc:bK X (.builtin id) r)(hg:Gl X x)(hm:X.mg x=none)(hv:bootBuiltins x=some (.builtin id))(ha:SE X cl a a')(hn:noStar a=true)(h1:x ≠ "__name__")(h2:(x == ("__debug__" : Str))=false)
 (ok:∀ (QP:RL.St) (Y:L2.St) (H H1:Hp) (y d:RL.D) (v:V) (Q:VK),RL.biV b y=some d->aw H H1->Rep nP X.K H1 y v->(∀ w H',Res X.K QP Y H (.bi b a') d w H'->Q w H')->r [v] H1 Q):SE X cl (.Call (.Name x p) [a] [] pos) (.bi b a'):=by
 refine PE.weak (fY hc hg hm hv (bM (cl:=cl) ha cY hn) h1 h2 (ay [] hn) rfl) fun Y H Q h=>?_;kd_p;obtain⟨y,ea,e⟩:=bind_some e;exact one rv ea fun v H1 s1 r1=>ok QP Y H H1 y d v Q e s1 r1 k
def kB{T:String}{r:List V->Hp->VK->Prop}{b:RL.Bi}(hc:bK X (.type T) r)(hg:Gl X x)(hm:X.mg x=none)(hv:bootBuiltins x=some (.type T))(ha:SE X cl a a')(hn:noStar a=true)(h1:x ≠ "__name__")(h2:(x == ("__debug__" : Str))=false)
 (ok:∀ (QP:RL.St) (Y:L2.St) (H H1:Hp) (y d:RL.D) (v:V) (Q:VK),RL.biV b y=some d->aw H H1->Rep nP X.K H1 y v->(∀ w H',Res X.K QP Y H (.bi b a') d w H'->Q w H')->r [v] H1 Q):SE X cl (.Call (.Name x p) [a] [] pos) (.bi b a'):=by
 refine PE.weak (cN hc hg hm hv (bM (cl:=cl) ha cY hn) h1 h2 (ay [] hn) rfl) fun Y H Q h=>?_;kd_p;obtain⟨y,ea,e⟩:=bind_some e;exact one rv ea fun v H1 s1 r1=>ok QP Y H H1 y d v Q e s1 r1 k
def D8(hg:Gl X "list")(hm:X.mg "list" = none)(ha:SE X cl a a')(hn:noStar a=true):SE X cl (.Call (.Name "list" p) [a] [] pos) (.bi .list a'):=by
 refine kB sM hg hm (by decide +kernel) ha hn ∅ ∅ fun QP Y H H1 y d v Q e s1 r1 k=>?_;obtain⟨ds,e1,e2⟩:=map_some (show(RL.items y).map RL.D.lst=some d from e);subst e2;obtain⟨q,xs,rfl,hp,rs⟩:=fP e1 r1;refine#[q,xs,rfl,?_,fun l hl=>k _ _ (et s1 hl rs fun _=>rfl)]
 rcases hp with⟨z,_⟩ | ⟨z,_⟩
 ·exact .inl (SqL.of z)
 ·exact .inr (SqT.of z)
def AR(hg:Gl X "tuple")(hm:X.mg "tuple" = none)(ha:SE X cl a a')(hn:noStar a=true):SE X cl (.Call (.Name "tuple" p) [a] [] pos) (.bi .tuple a'):=by
 refine kB qL hg hm (by decide +kernel) ha hn ∅ ∅ fun QP Y H H1 y d v Q e s1 r1 k=>?_;obtain⟨ds,e1,e2⟩:=map_some (show(RL.items y).map RL.D.tup=some d from e);subst e2;obtain⟨q,xs,rfl,hp,rs⟩:=fP e1 r1
 rcases hp with⟨z,_⟩ | ⟨z,_⟩
 ·exact#[q,xs,rfl,.inl #[SqL.of z,fun l hl=>k _ _ (gf s1 hl rs fun _=>rfl)]]
 ·refine⟨q,xs,rfl,.inr ⟨SqT.of z,k _ _ ⟨s1,?_,fun _ m=>(by cases m),fun M z=>nomatch (show false=true from z)⟩⟩⟩;rw[Rep];exact#[q,xs,rfl,z,rs]
def Fg(hg:Gl X "int")(hm:X.mg "int" = none)(ha:SE X cl a a')(hn:noStar a=true):SE X cl (.Call (.Name "int" p) [a] [] pos) (.bi .int a'):=by
 refine kB xH hg hm (by decide +kernel) ha hn ∅ ∅ fun QP Y H H1 y d v Q e s1 r1 k=>?_
 cases y<;>first | (cases e;done) | skip
 case bl t=>cases e;exact .inr #[t,by rw[bb r1],k _ _ (dh s1 bh rfl)]
 case int t=>cases e;exact .inl #[t,by rw[ah r1],k _ _ (dh s1 bh rfl)]
def x8{prog:Program}{w:World}{K:Type} [DecidableEq K]{knd:HeapKind prog w K}(hd:(d == sysModules)=false) :
  MeetsIn prog w (Builtin.«dict.__len__» ⟨[.ref d],[]⟩) (fun _ R s=>∃ xs,s.heap.DictOfH knd d xs/\R (.ok (.ret (.int xs.length s.toks))) { s with toks:=s.toks+1 }) :=
 .of_wp fun A R s ⟨xs,hm,h⟩=>by
  obtain⟨o,es,ep,ho,hc,hdat,hk,_,_⟩:=hm;show wpAny _ _ (dictSize d >>= _) _ _ s;unfold dictSize;refine Qb (Qb (wpAny_dictEntries ho hdat (Qd ?_)));show wpAny _ _ (Builtin.Dict.pendingCount d >>= _) _ _ s;refine Qb (wpAny_pendingCount_other hd ?_);refine wpAny_ret_mkInt ?_;rw[Nat.add_zero,size_of_entries hk];exact h
def oH{prog:Program}{w:World}{K:Type} [DecidableEq K]{knd:HeapKind prog w K}{A:Around}{E:Value->Shared->Prop}{s:Shared}{d:Addr}{xs:List (K × Addr × Value)}{Q:Value->Shared->Prop}(hd:(d == sysModules)=false)(hm:s.heap.DictOfH knd d xs)(hfit:(xs.length:Int)<2 ^ 63)
 (h:Q (.int xs.length (s.toks+1)) { s with toks:=s.toks+1+1 }):wpAny (model prog w) A (call (.builtin "len") [.ref d]) Q E s:=by
 refine Calls.call_function_entry kind_len plain_len entry_len (args_len1 _) ?_;unfold Builtin.«len»;refine Qb (m:=oneArg "len" _) (Qd ?_)
 refine Qb (m:=callSpecial? (.ref d) (Str.ofString "__len__")) (wpAny_callSpecial?_slot (name:=Str.ofString "__len__") hm.typeIs F.slot_dict_len
  (call_meetsIn F.slot_dict_len hm.typeIs F.entry_dict_len (F.args_dict_len_1 _) (x8 hd) ⟨xs,hm,?_⟩))
 show wpAny _ _ _ _ _ { s with toks:=s.toks+1 };refine Qb (wpAny_holding (Qd ?_));refine Qb (wpAny_letGo ?_);show wpAny _ _ (if((xs.length:Nat):Int)<0 then _ else _) _ _ _;rw[if_neg (by omega)];show wpAny _ _ (if((xs.length:Nat):Int)≥2 ^ 63 then _ else _) _ _ _;rw[if_neg (by omega)];exact Qb (wpAny_mkInt (Qd ⟨_,rfl,h⟩))
def xO:bK X (.builtin "len") (fun xs H Q=>∃ a kvs,xs=[V.ref a]/\H a=some (.dT kvs)/\Q (.int kvs.length) H):=by
 by_in;obtain⟨a,kvs,rfl,ha,q⟩:=h;obtain⟨u,rfl,ru⟩:=vals1 r;cases ru;obtain⟨z,hd,xs,rel,dd⟩:=BP I.hok ha;have hl:kvs.length=xs.length:=Paired.length rel;refine oH hd dd (by rw[<-hl];rw[sizeLine_eq]at z;omega) ?_;rw[<-hl];exact#[.int kvs.length,H,I.tok _,#[_,rfl],q]
def zH:bK X (.builtin "len") (fun xs H Q=>(∃ y n,xs=[y]/\G5 X.K y H n/\Q (.int n) H)\/(∃ q kvs,xs=[V.ref q]/\H q=some (.dK kvs)/\Q (.int kvs.length) H)\/∃ q kvs,xs=[V.ref q]/\H q=some (.dT kvs)/\Q (.int kvs.length) H):=bK.or Br (bK.or ze xO)
def Fy(hg:Gl X "len")(hm:X.mg "len" = none)(ha:SE X cl a a')(hn:noStar a=true):SE X cl (.Call (.Name "len" p) [a] [] pos) (.bi .len a'):=by
 refine qq zH hg hm PySem.boot_len ha hn ∅ ∅ fun QP Y H H1 y d v Q e s1 r1 k=>?_
 cases y<;>first | (cases e;done) | skip
 case str t =>
  rw[RL.Ci]at e;split at e
  ·rename_i hz;cases e;rw[aQ r1];exact .inl #[_,_,rfl,#[Qr hz cA,rfl],k _ _ (dh s1 bh rfl)]
  ·cases e
 case tup t =>
  cases e;obtain⟨q,xs,rfl,f2,f3⟩:=br r1;dsimp only at k;rw[f3.length]at k;exact .inl #[_,_,rfl,.inr #[xs,SqT.of f2,rfl],k _ _ (dh s1 bh rfl)]
 case lst t =>
  cases e;obtain⟨q,xs,rfl,_,f2,f3⟩:=aG r1;dsimp only at k;rw[f3.length]at k;exact .inl #[_,_,rfl,.inl #[xs,SqL.of f2,rfl],k _ _ (dh s1 bh rfl)]
 case dK ks t =>
  cases e;rw[Rep]at r1;obtain⟨q,xs,rfl,_,f2,fl,f3⟩:=r1;refine .inr (.inl #[q,_,rfl,f2,?_])
  have:(ks.zip xs).length=ks.length:=by rw[List.length_zip,<-f3.length,fl,Nat.min_self]
  rw[this];exact k _ _ (dh s1 bh rfl)
 case dT ks t =>
  cases e;rw[Rep]at r1;obtain⟨q,xs,rfl,_,f2,fl,f3⟩:=r1;refine .inr (.inr #[q,_,rfl,f2,?_])
  have:(ks.zip xs).length=ks.length:=by rw[List.length_zip,<-f3.length,fl,Nat.min_self]
  rw[this];exact k _ _ (dh s1 bh rfl)
def GS(hc:X.calm=true)(hg:Gl X "max")(hm:X.mg "max" = none)(ha:SE X cl a a')(hb:SE X cl b b')(hn:noStar a=true)(hn2:noStar b=true):SE X cl (.Call (.Name "max" p) [a,b] [] pos) (.max a' b'):=by
 refine PE.weak (fY (xT hc) hg hm (by decide +kernel) (bM (cl:=cl) ha (bM hb cY hn2) hn) ∅ ∅ (ay _ hn) (cU (by simp[hn2]))) fun Y H Q h=>?_;kd_p;obtain⟨u,ea,e⟩:=bind_some e;obtain⟨v,eb,e⟩:=bind_some e
 cases u with
 |int i=>
  cases v with
  |int j=>
   cases e
   exact pair rv ea eb fun v u H1 s1 r1 r2=>#[i,j,by rw[ah r1,ah r2],k _ _ (dh s1 bh rfl)]
  | _=>cases e
 | _=>cases e
abbrev tyN:RL.Ty->String
 | .int => "int"
 | .bool => "bool"
 | .list => "list"
 | .tuple => "tuple"
 | .str => "str"
def Bh:bK X (.builtin "isinstance") (fun xs H Q=>∃ y t T k,xs=[y,.ty T]/\fD X.K H y t/\W.kitOne X.K t (.type T)=some k/\Q (.bl k) H):=by
 by_in;obtain⟨y,t,T,k,rfl,ty,e,q⟩:=h;obtain⟨u,w,rfl,r1,r2⟩:=vals2 r;cases r2
 exact yc I r1 ty e fun tk=>#[.bl k,H,I.tok tk,rfl,q]
def FO(h:RL.fS t d=some k)(r:Rep nP X.K H d v):∃ ty,fD X.K H v ty/\W.kitOne X.K ty (.type (tyN t))=some k:=by
 cases d with
 | non=>rw[Rep]at r;subst r;refine#[_,.non,?_];cases t<;>(cases h;rfl)
 | bl i=>rw[bb r];refine#[_,.bl i,?_];cases t<;>(cases h;rfl)
 | int i=>rw[ah r];refine#[_,.int i,?_];cases t<;>(cases h;rfl)
 | str i=>rw[aQ r];refine#[_,.str i,?_];cases t<;>(cases h;rfl)
 | tup i=>obtain⟨q,xs,rfl,f2,f3⟩:=br r;refine#[_,.tup f2,?_];cases t<;>(cases h;rfl)
 | lst i=>obtain⟨q,xs,rfl,_,f2,f3⟩:=aG r;refine#[_,.lst f2,?_];cases t<;>(cases h;rfl)
 | _=>cases t<;>cases h
def Ex(hg:Gl X "isinstance")(hm:X.mg "isinstance" = none)(hgy:Gl X y)(hmy:X.mg y=none)(hy:bootBuiltins y=some (.type (tyN t)))(hy1:y ≠ "__name__")(hy2:(y == ("__debug__" : Str))=false)(ha:SE X cl a a')(hn:noStar a=true) :
  SE X cl (.Call (.Name "isinstance" p) [a,.Name y p2] [] pos) (.isi a' t):=by
 have hty:PE X (.Name y p2) (tC (.ty (tyN t))):=vy hgy hmy hy rfl hy1 hy2;refine PE.weak (fY Bh hg hm (by decide +kernel) (bu ha (bu hty cL rfl) (ay _ hn)) ∅ ∅ (ay _ hn) rfl) fun Y H Q h=>?_;kd_p;obtain⟨u,ea,e⟩:=bind_some e;obtain⟨t',e1,e2⟩:=map_some e;subst e2;refine#[QP,u,rv,ea,fun v H1 r1=>?_];obtain⟨ty,h1,h2⟩:=FO e1 r1.rep;exact#[v,ty,_,t',rfl,h1,h2,k _ _ (dJ r1.same)]
end rules
end RS
namespace L2
open PySem PySem.Spec PyProof.Rows
structure l0(prog:Program)(w:World):Prop where
 draws:∀ {A:Around},A.handled=none->∀ (ti tp:Addr),tp≠ti->∀ its:Array Value,Draws prog w A ti [ti,tp] its.size (fun i v=>its[i]?=some v) (fun i h=>h.IsTupleIter ti tp i/\h.IsTuple tp its)
 call:∀ {A:Around} {E:Value->Shared->Prop} {z:Shared} {tp:Addr} {its:Array Value} {Q:Value->Shared->Prop},z.heap.IsTuple tp its ->
  (∀ g,IsEnum g (z.heap.objs.size+1) z.heap.objs.size 0 .none->g.IsTupleIter z.heap.objs.size tp 0->(∀ b o,z.heap.get? b=some o->g.get? b=some o)->Q (.ref (z.heap.objs.size+1)) { z with heap:=g })->wpAny (model prog w) A (call (.type "enumerate") [.ref tp]) Q E z
section
def Inv.oO{h':Heap}{t':Nat}{fp:List Addr}(I:Inv X pins Y H s)(k:∀ b o,b∉fp->s.heap.get? b=some o->h'.get? b=some o)(hf:∀ b∈fp,H b=none/\(b∈X.ex\/X.s₀.heap.objs.size<=b)/\b≠X.env.locals/\(∀ x c,X.env.cells.lookup x=some c->c≠b)/\∀ p∈X.pn++pins,p.1≠b) :
  Inv X pins Y H { s with heap:=h',toks:=t' }:=by
 have nf:∀ b u,H b=some u->b∉fp:=fun b u e z=>by rw[(hf b z).1]at e;cases e
 refine I.wj (s':={ s with heap:=h',toks:=t' }) (ch:=fp) rfl ⟨fun b o e _ _ hx=>k b o hx e,fun b o e _ _ hx=>#[o.slots,k b o hx e],fun _ _ _ n _=>n,fun b o e hx=>#[o,k b o hx e],fun _ _ e=>e,fun _ _ _ e=>e,fun b ps e=>#[(List.toArray []),by rw[e];simp]⟩ (fun b u e=>?_) I.bare fun b hb=>(hf b hb).2;refine(I.hok b u e).jE (fun c v hc q=>k c v ?_ q) (fun _ q=>q) fun _ _ q=>q;rcases hc with z | z
 ·rw[z];exact nf b u e
 ·exact nf c _ z
end
abbrev Ite(cont:Hp->List V->Prop):It :=
 ⟨fun i H=>∃ xs x,cont H xs/\xs[i]?=some x,fun i H v H'=>∃ p x,H p=none/\v=.ref p/\H'=upd H p (.tup [.int i,x])/\∀ xs,cont H xs->xs[i]?=some x,fun i H=>∃ xs,cont H xs/\xs.length=i⟩
structure Src(P:Program)(w:World)(K:W.Frag)(e it:Addr)(cont:Hp->List V->Prop)(ia:Nat->Heap->Prop):Prop where
 obj:∀ i h,ia i h->∃ o,h.get? it=some o/\∀ v,o.data≠.cell v
 keep:∀ i h h',ia i h->(∀ o,h.get? it=some o->h'.get? it=some o)->ia i h'
 inj:∀ (H:Hp) xs ys,cont H xs->cont H ys->xs=ys
 dr:∀ (X:Cx),X.prog=P->X.w=w->X.K=K->X.calm=true->∀ (pins:List (Addr × Obj)) (s:Shared) (Y:St) (H:Hp) (xs:List V),Inv X pins Y H s->H e=none->H it=none->cont H xs ->
  ∃ (fp:List Addr) (Pv:Nat->Value->Prop) (St:Nat->Heap->Prop),Draws P w X.A.in1 it fp xs.length Pv St/\e∉fp/\(∀ i,ia i s.heap->St i s.heap)/\(∀ i h,St i h->ia i h)/\∀ i v,Pv i v->∃ x,xs[i]?=some x/\RelV x v
def zJ{P:Program}{w:World}{K:W.Frag}(hei:e≠it)(S:Src P w K e it cont ia) :
  Turn P w K (.Tuple elts kx tp) (Ite cont) [e,it] e (fun i h=>(∃ old,IsEnum h e it i old)/\ia i h) where
 mem:=by simp
 obj:=fun i h st b hb=>by
  rcases List.mem_cons.mp hb with rfl | hb
  ·obtain⟨⟨old,he⟩,_⟩:=st;exact⟨_,he,fun v z=>by cases z⟩
  ·rw[List.mem_singleton.mp hb];exact S.obj i h st.2
 keep:=fun i h h' st k=>by
  obtain⟨⟨old,he⟩,hi⟩:=st;exact#[#[old,k e (by simp) _ he],S.keep i h h' hi fun o q=>k it (by simp) o q]
 item:=by
  k_go;subst hP hw hK;obtain⟨⟨old,he⟩,hi⟩:=st;obtain⟨xs,x,hq,hx⟩:=hg;have fe:=hf e (by simp);have fi:=hf it (by simp);obtain⟨fp,Pv,St,D,hef,h1,h2,h3⟩:=S.dr X rfl rfl rfl hc pins s Y H xs I fe.1 fi.1 hq;have hlt:i<xs.length:=(List.getElem?_eq_some_iff.mp hx).1;refine wpAny_pyNext_enum_itemD D he (h1 i hi) hlt hei hef fun v h' tk hP ho hs' hT hsz hk=>?_;obtain⟨x',hx',rx⟩:=h3 i v hP;rw[hx]at hx';cases hx';refine#[.ref s.heap.objs.size,rfl,wpAny_letOwnedTupleGo_enum ho fun h'' he' hs''=>?_];have hn:H s.heap.objs.size=none:=I.hok.fresh (Qc _)
  have I1:Inv X pins Y (upd H s.heap.objs.size (.tup [.int i,x])) { s with heap:=s.heap.push { cls:=.type "tuple",data:=.seq (List.toArray [.int i tk,v]) },toks:=tk+1 } :=
   I.laid (t':=tk+1) (fun b u q=>Qa _ q) (Qc _) ⟨by show 2<=sizeLine;decide,[.int i tk,v],.cons ⟨tk,rfl⟩ (.cons rx .nil),⟨_,Qe _ rfl,rfl,_,rfl⟩⟩
  have hes:e<s.heap.objs.size:=Qg he
  have hit:it<s.heap.objs.size:=by obtain⟨o,q,_⟩:=S.obj i _ hi;exact Qg q
  have stat:∀ b∈[e,it],upd H s.heap.objs.size (.tup [.int i,x]) b=none/\(b∈X.ex\/X.s₀.heap.objs.size<=b)/\b≠X.env.locals/\(∀ x c,X.env.cells.lookup x=some c->c≠b)/\∀ p∈X.pn++pins,p.1≠b:=fun b hb=>by
   obtain⟨f0,f1,f2,f3,f4,f5⟩:=hf b hb
   have hb':b≠s.heap.objs.size:=by
    rcases List.mem_cons.mp hb with rfl | hb
    ·exact Qn hes
    ·rw[List.mem_singleton.mp hb];exact Qn hit
   exact#[by rw[aO hb'];exact f0,f3,f1,f4,f5]
  have I2:Inv X pins Y (upd H s.heap.objs.size (.tup [.int i,x])) { s with heap:=h'',toks:=tk+1 }:=by
   refine Inv.oO (s:={ s with heap:=s.heap.push { cls:=.type "tuple",data:=.seq (List.toArray [.int i tk,v]) },toks:=tk+1 }) (h':=h'') (t':=tk+1) (fp:=[e,it]) I1 (fun b o hb q=>?_) stat;have b1:b≠e:=fun z=>hb (by simp[z]);have b2:b≠it:=fun z=>hb (by simp[z]);refine hs''.extBut b o b1 ?_;by_cases hbT:b=s.heap.objs.size
   ·subst hbT;have q':(s.heap.push { cls:=.type "tuple",data:=.seq (List.toArray [.int i tk,v]) }).get? s.heap.objs.size=some o:=q;rw[Qe _ rfl]at q';cases q';exact hT
   ·have q':s.heap.get? b=some o:=(Heap.get?_push_ne _ _ _ hbT).symm.trans q;exact hk b o b1 b2 q'
  refine#[.ref s.heap.objs.size,_,I2,rfl,#[s.heap.objs.size,x,hn,rfl,rfl,fun ys hy=>by rw[S.inj H ys xs hy hq];exact hx],#[#[v,by simpa using he'],S.keep _ h' h'' (h2 _ _ hs') fun o q=>hs''.extBut _ _ (Ne.symm hei) q],fun b hb=>(stat b hb).1]
 done:=by
  k_go;subst hP hw hK;obtain⟨⟨old,he⟩,hi⟩:=st;obtain⟨xs,hq,hx⟩:=hg;have fe:=hf e (by simp);have fi:=hf it (by simp);obtain⟨fp,Pv,St,D,hef,h1,h2,h3⟩:=S.dr X rfl rfl rfl hc pins s Y H xs I fe.1 fi.1 hq;subst hx
  refine wpAny_pyNext_enum_endD D he (h1 _ hi) fun h' eb=>#[rfl,?_]
  obtain⟨f0,f1,f2,f3,f4,f5⟩:=fi;exact I.turned (it:=it) (h':=h') (t':=s.toks) (fun b o hb q=>eb b o hb q) f0 f1 f3 f4 f5
 self:=fun A i s Q E st h=>by
  obtain⟨⟨old,he⟩,hi⟩:=st;exact wpAny_pyIter_enum he h
def src_list{P:Program}{w:World}{K:W.Frag}(hei:e≠it):Src P w K e it (fun H xs=>H l=some (.lst xs)) (fun i h=>h.IsListIter it l i) where
 obj:=fun i h st=>let ⟨o,ho,_,hd⟩:=st;⟨o,ho,fun v q=>by rw[hd]at q;cases q⟩
 keep:=fun i h h' st k=>st.at fun o q=>k o q
 inj:=fun H xs ys h1 h2=>by rw[h1]at h2;cases h2;rfl
 dr:=by
  intro X hP hw hK hc pins s Y H xs I he hi hx;subst hP hw hK;obtain⟨its,rv,p,hz⟩:=I.list (SqL.of hx)
  have hl:its.toArray.size=xs.length:=by rw[List.size_toArray,rv.length]
  have hh:X.A.in1.handled=none:=I.ok.hd.1 hc;have D:=Draws.list (prog:=X.prog) (w:=X.w) (A:=X.A.in1) hh it l (aR hx hi) its.toArray;rw[hl]at D;refine#[_,_,_,D,?_,fun i st=>#[st,p.isList],fun i h st=>st.1,fun i v hv=>?_]
  ·intro m;rcases List.mem_cons.mp m with q | m
   ·exact hei q
   ·exact(aR hx he).symm (List.mem_singleton.mp m)
  ·have hv:its[i]?=some v:=by simpa using hv
   have hlt:i<xs.length:=by rw[rv.length];exact(List.getElem?_eq_some_iff.mp hv).1
   obtain⟨u,h1,h2⟩:=rv.get (i:=i) (x:=xs[i]) (by simp[hlt]);rw[hv]at h1;cases h1;exact#[xs[i],by simp[hlt],h2]
def CN{P:Program}{w:World}{K:W.Frag}(TE:l0 P w)(hei:e≠it):Src P w K e it (fun H xs=>H l=some (.tup xs)) (fun i h=>h.IsTupleIter it l i) where
 obj:=fun i h st=>let ⟨o,ho,_,hd⟩:=st;⟨o,ho,fun v q=>by rw[hd]at q;cases q⟩
 keep:=fun i h h' st k=>let ⟨o,ho,r⟩:=st;⟨o,k o ho,r⟩
 inj:=fun H xs ys h1 h2=>by rw[h1]at h2;cases h2;rfl
 dr:=by
  intro X hP hw hK hc pins s Y H xs I he hi hx;subst hP hw hK;obtain⟨its,rv,p,hz⟩:=I.tuple (SqT.of hx)
  have hl:its.toArray.size=xs.length:=by rw[List.size_toArray,rv.length]
  have hh:X.A.in1.handled=none:=I.ok.hd.1 hc;have D:=TE.draws (A:=X.A.in1) hh it l (aR hx hi) its.toArray;rw[hl]at D;refine#[_,_,_,D,?_,fun i st=>#[st,p],fun i h st=>st.1,fun i v hv=>?_]
  ·intro m;rcases List.mem_cons.mp m with q | m
   ·exact hei q
   ·exact(aR hx he).symm (List.mem_singleton.mp m)
  ·have hv:its[i]?=some v:=by simpa using hv
   have hlt:i<xs.length:=by rw[rv.length];exact(List.getElem?_eq_some_iff.mp hv).1
   obtain⟨u,h1,h2⟩:=rv.get (i:=i) (x:=xs[i]) (by simp[hlt]);rw[hv]at h1;cases h1;exact#[xs[i],by simp[hlt],h2]
abbrev js(x:Str):List V:=x.cps.toList.map fun c=>.str ⟨(List.toArray [c])⟩
def DK{P:Program}{w:World}{K:W.Frag}(hei:e≠it):Src P w K e it (fun _ xs=>xs=js x) (fun i h=>h.IsStrIter it (strIterType x) x t i) where
 obj:=fun i h st=>let ⟨o,ho,_,hd⟩:=st;⟨o,ho,fun v q=>by rw[hd]at q;cases q⟩
 keep:=fun i h h' st k=>let ⟨o,ho,r⟩:=st;⟨o,k o ho,r⟩
 inj:=fun H xs ys h1 h2=>by rw[h1,h2]
 dr:=by
  intro X hP hw hK hc pins s Y H xs I he hi hx;subst hP hw hK hx;have hh:X.A.in1.handled=none:=I.ok.hd.1 hc
  have hl:x.cps.size=(js x).length:=by simp[js]
  have pv:∀ (i:Nat) (v:Value),(∃ c u,x.cps[i]?=some c/\v=Value.str ⟨(List.toArray [c])⟩ u)->∃ y,(js x)[i]?=some y/\RelV y v:=fun i v hv=>by
   obtain⟨c,u,h1,h2⟩:=hv;exact#[.str #[(List.toArray [c])],by simp[js,h1],u,h2]
  have ni:e∉[it]:=fun m=>hei (List.mem_singleton.mp m)
  cases ha:x.cps.all (·<128)with
  |true=>
   have ht:strIterType x = "str_ascii_iterator" := by simp[strIterType,ha]
   have D:=Draws.strAscii (prog:=X.prog) (w:=X.w) (A:=X.A.in1) hh it x t;rw[hl]at D;exact#[_,_,_,D,ni,fun i st=>by rw[ht]at st;exact st,fun i h st=>by rw[ht];exact st,pv]
  |false=>
   have ht:strIterType x = "str_iterator" := by simp[strIterType,ha]
   have D:=Draws.strWide (prog:=X.prog) (w:=X.w) (A:=X.A.in1) hh it x t;rw[hl]at D;exact#[_,_,_,D,ni,fun i st=>by rw[ht]at st;exact st,fun i h st=>by rw[ht];exact st,pv]
section
abbrev HZ(ta:TA):TI:=fun Y H R=>ta Y H fun vs H1=>(∃ l xs,vs=[.ref l]/\H1 l=some (.lst xs)/\R (Ite fun H xs=>H l=some (.lst xs)) H1)\/(∃ l xs,vs=[.ref l]/\H1 l=some (.tup xs)/\R (Ite fun H xs=>H l=some (.tup xs)) H1) \/
 (∃ x,vs=[.str x]/\R (Ite fun _ xs=>xs=js x) H1)
def mK(I:Inv X pins Y H s)(S:Src X.prog X.w X.K (s.heap.objs.size+1) s.heap.objs.size cont ia)
 (he:IsEnum g (s.heap.objs.size+1) s.heap.objs.size 0 .none)(hi:ia 0 g)(hk:∀ b o,s.heap.get? b=some o->g.get? b=some o)(q:R (Ite cont) H) :
  wpAny (model X.prog X.w) X.A (pyIter (.ref (s.heap.objs.size+1))) (PIE X pins Y (.Tuple elts kx tp) R) E { s with heap:=g }:=by
 refine wpAny_pyIter_enum he ⟨s.heap.objs.size+1,[s.heap.objs.size+1,s.heap.objs.size],_,_,H,rfl,I.kept (t':=s.toks) hk,zJ (Nat.succ_ne_self _) S,⟨⟨.none,he⟩,hi⟩,fun b hb=>?_,q⟩
 have hb':s.heap.objs.size<=b:=by
  rcases List.mem_cons.mp hb with z | z
  ·rw[z];exact Nat.le_succ _
  ·rw[List.mem_singleton.mp z];exact Qc _
 exact I.oM hb' (I.hok.fresh hb')
def Dh(TE:l0 X.prog X.w)(hg:Gl X "enumerate")(hm:X.mg "enumerate" = none)(ha:PA X [a] ta)(hs:starEach [a] X.env=[(false,eval a X.env)]):PI X (.Tuple elts kx tp) (.Call (.Name "enumerate" p) [a] [] pos) (HZ ta):=by
 intro pins s Y H R I h;refine Call_ (iA I hg hm boot_enumerate (PyProof.Rows.callWith_type1 (thn (ha pos pins s Y H _ I h) fun us s1 ⟨vs,H1,I1,r1,q1⟩=>?_) hs rfl) ∅ ∅)
 rcases q1 with⟨l,xs,rfl,hx,q⟩ | ⟨l,xs,rfl,hx,q⟩ | ⟨x,rfl,q⟩
 ·obtain⟨u,rfl,ru⟩:=vals1 r1;cases ru;obtain⟨its,rv,pl,hz⟩:=I1.list (SqL.of hx);exact call_enumerate_list pl.isList fun g he hi hsz hk=>mK I1 (src_list (Nat.succ_ne_self _)) he hi hk q
 ·obtain⟨u,rfl,ru⟩:=vals1 r1;cases ru;obtain⟨its,rv,pl,hz⟩:=I1.tuple (SqT.of hx);exact TE.call pl fun g he hi hk=>mK I1 (CN TE (Nat.succ_ne_self _)) he hi hk q
 ·obtain⟨u,rfl,ru⟩:=vals1 r1;obtain⟨t,rfl⟩:=ru;exact call_enumerate_str fun g he hi hsz hk=>mK I1 (DK (Nat.succ_ne_self _)) he hi hk q
end
end L2
namespace RS
open PySem PySem.Spec PyProof.Rows L2
def kN:∀ (ds:List RL.D) (k:Int),(RL.d5 k ds).length=ds.length
 | [],_=>rfl
 | d::r,k=>by rw[RL.d5,List.length_cons,List.length_cons,kN r]
def qv:∀ (ds:List RL.D) (k:Int) (i:Nat) (d:RL.D),(RL.d5 k ds)[i]?=some d->∃ e,ds[i]?=some e/\d=.tup [.int (k+i),e]
 | [],k,i,d,h=>by simp[RL.d5]at h
 | e::r,k,0,d,h=>by simp[RL.d5]at h;exact#[e,rfl,by simp[h]]
 | e::r,k,i+1,d,h=>by
  rw[RL.d5,List.getElem?_cons_succ]at h;obtain⟨e',h1,h2⟩:=qv r (k+1) i d h;refine#[e',by simpa using h1,?_];rw[h2];congr 3;lia
def gY{K:W.Frag}(hc:∀ H',Off P H H'->cont H' xs)(hj:∀ H' ys,cont H' xs->cont H' ys->ys=xs)(r:af nP K H ds xs)(hm:∀ b o,P b->H b=some o->cX o):ja K (Ite cont) (RL.d5 0 ds) P H where
 go:=fun H' i k hi=>by
  rw[kN]at hi;obtain⟨x,e,_⟩:=r.get (i:=i) (d:=ds[i]) (by simp[hi]);exact#[xs,x,hc H' k,e]
 stop:=fun H' k=>#[xs,hc H' k,by rw[kN,r.length]]
 yld:=fun H' i d v H2 k e y=>by
  obtain⟨p,x,hp,rfl,rfl,hx⟩:=y;obtain⟨e',h1,rfl⟩:=qv ds 0 i d e;obtain⟨x',h2,h3⟩:=r.get h1;rw[hx xs (hc H' k)]at h2;cases h2;refine#[aw.bV hp,fun q=>?_]
  have re:Rep nP K H' e' x:=by
   rcases q with q | q
   ·have q:(true&&(e'.imm&&true))=true:=q;simp only[Bool.true_and,Bool.and_true]at q;exact ip hm k h3 q
   ·exact h3.same q
  rw[Rep];refine#[p,[.int i,x],rfl,aT,af.cons ?_ (af.cons (re.same (aw.bV hp)) af.nil)];simpa using(bh (P:=nP) (K:=K) (H:=upd H' p (.tup [.int i,x])) (i:=(i:Int)))
def yi{P:Addr->Prop}{K:W.Frag}(h:RL.gE d=some ds)(r:Rep P K H d v):(∃ p xs,v=.ref p/\H p=some (.lst xs)/\d=.lst ds/\af P K H ds xs)\/(∃ p xs,v=.ref p/\H p=some (.tup xs)/\d=.tup ds/\af P K H ds xs) \/
  (∃ x,v=.str x/\d=.str x/\ds=x.cps.toList.map fun c=>.str ⟨(List.toArray [c])⟩):=by
 cases d<;>simp only[RL.gE]at h<;>first | (cases h;done) | skip
 case lst ys=>cases h;obtain⟨p,xs,e1,_,e2,e3⟩:=aG r;exact .inl #[p,xs,e1,e2,rfl,e3]
 case tup ys=>cases h;obtain⟨p,xs,e1,e2,e3⟩:=br r;exact .inr (.inl #[p,xs,e1,e2,rfl,e3])
 case str x=>cases h;exact .inr (.inr #[x,aQ r,rfl,rfl])
def jO{P:Addr->Prop}{K:W.Frag}:∀ (cs:List Nat),af P K H (cs.map fun c=>RL.D.str ⟨(List.toArray [c])⟩) (cs.map fun c=>V.str ⟨(List.toArray [c])⟩)
 | []=>af.nil
 | c::r=>af.cons hU (jO r)
section rules
def HC(TE:l0 X.prog X.w)(hg:Gl X "enumerate")(hm:X.mg "enumerate" = none)(ha:SE X cl a a')(hn:noStar a=true):SI X cl (.Tuple elts kx tp) (.Call (.Name "enumerate" p) [a] [] pos) (.enm a'):=by
 intro pins s Y H R I h;obtain⟨QP,ds,rv,e,k⟩:=h;gp_on;obtain⟨es,e3,e4⟩:=map_some e2;subst e4;have hpa:PA X [a] (iP (tE X.K cl a') lg):=bu ha cL (ay [] hn);refine Dh TE hg hm hpa (ay [] hn) pins s Y H R I ⟨QP,d,rv,e1,fun v H1 r1=>?_⟩
 rcases yi e3 r1.rep with⟨l,xs,rfl,hx,rfl,rs⟩ | ⟨l,xs,rfl,hx,rfl,rs⟩ | ⟨x,rfl,rfl,rfl⟩
 ·refine .inl ⟨l,xs,rfl,hx,k _ _ r1.same ⟨gY (fun H' o=>o _ _ (fun z=>z) hx) (fun H' ys h1 h2=>by rw[h1]at h2;cases h2;rfl) rs iw,fun M P z hP av=>?_⟩⟩;exact gY (fun H' o=>o _ _ (nD r1 z hP av _ _ rfl rfl) hx) (fun H' ys h1 h2=>by rw[h1]at h2;cases h2;rfl) rs (eT r1.same hP)
 ·have np:∀ P:Addr->Prop,(∀ b o,P b->H1 b=some o->cX o)->¬ P l:=fun P hP q=>by rcases hP l _ q hx with⟨z,q⟩ | ⟨z,q⟩ | ⟨z,q⟩<;>cases q
  exact .inr (.inl ⟨l,xs,rfl,hx,k _ _ r1.same ⟨gY (fun H' o=>o _ _ (np _ iw) hx) (fun H' ys h1 h2=>by rw[h1]at h2;cases h2;rfl) rs iw,fun M P z hP av=>gY (fun H' o=>o _ _ (np P (eT r1.same hP)) hx) (fun H' ys h1 h2=>by rw[h1]at h2;cases h2;rfl) rs (eT r1.same hP)⟩⟩)
 ·exact .inr (.inr #[x,rfl,k _ _ r1.same #[gY (fun H' o=>rfl) (fun H' ys h1 h2=>h2) (jO _) iw,fun M P z hP av=>gY (fun H' o=>rfl) (fun H' ys h1 h2=>h2) (jO _) (eT r1.same hP)]])
end rules
section rules
variable{X:Cx}
def DI{P:Addr->Prop}{K:W.Frag}(h:Rep P K H (.scr ds) v):∃ a xs,v=.ref a/\kO K H a xs/\af P K H ds xs:=by rw[Rep]at h;exact h
def zS(n:Nat)(k:Int):HT.sIx n n (some k)=RL.cutAt n k:=by
 have h:=HT.gZ k n n;unfold RL.cutAt;split at h
 ·rw[if_neg ⋯];lia
 ·rw[if_pos ⋯];lia
def x4(n:Nat)(k:Int):HT.sIx n 0 (some k)=RL.cutAt n k:=by
 have h:=HT.gZ k n 0;unfold RL.cutAt;split at h
 ·rw[if_neg ⋯];lia
 ·rw[if_pos ⋯];lia
def GV(ha:SE X cl a a')(hb:SE X cl b b'):SE X cl (.Subscript a (.Slice none (some b) none p2) pos) (.slT a' b'):=by
 refine PE.weak (tf (SlR.or v9 xF) ha vd (vq hb)) fun Y H Q h=>?_;kd_p;x_go;gn_on;refine#[QP,x,rv,ea,fun v H1 r1=>#[QP,y,rv.same r1.same,eb,fun u H2 r2=>?_]];have rx:=r1.rep.same r2.same;have sm:=r1.same.trans r2.same
 cases y with
 |int n=>
  refine#[n,ah r2.rep,?_]
  cases x with
  |lst xs=>
   cases e;obtain⟨q,ys,rfl,_,f2,f3⟩:=aG rx;refine .inl #[q,ys,rfl,SqL.of f2,fun l hl=>?_];unfold iI;rw[mD,<-f3.length];exact k _ _ (et sm hl (f3.take _) fun _=>rfl)
  |scr xs=>
   cases e;obtain⟨q,ys,rfl,f2,f3⟩:=DI rx;refine .inl #[q,ys,rfl,f2.seq,fun l hl=>?_];unfold iI;rw[mD,<-f3.length];exact k _ _ (et sm hl (f3.take _) fun _=>rfl)
  |tup xs=>
   simp only[RL.mL]at e;split at e
   ·rename_i hz;cases e;obtain⟨q,ys,rfl,f2,f3⟩:=br rx;refine .inr #[q,ys,rfl,SqT.of f2,fun z=>?_,fun l hl=>?_]
    ·rw[zS,<-f3.length]at z;lia
    ·unfold iI;rw[mD,<-f3.length];exact k _ _ (gf sm hl (f3.take _) fun _=>rfl)
   ·cases e
  | _=>cases e
 | _=>cases x<;>cases e
def F6(ha:SE X cl a a')(hb:SE X cl b b'):SE X cl (.Subscript a (.Slice (some b) none none p2) pos) (.slF a' b'):=by
 refine PE.weak (tf (SlR.or v9 xF) ha (vq hb) vd) fun Y H Q h=>?_;kd_p;x_go;gn_on;refine#[QP,x,rv,ea,fun v H1 r1=>#[QP,y,rv.same r1.same,eb,fun u H2 r2=>?_]];have rx:=r1.rep.same r2.same;have sm:=r1.same.trans r2.same
 cases y with
 |int n=>
  refine#[n,ah r2.rep,?_]
  cases x with
  |lst xs=>
   cases e;obtain⟨q,ys,rfl,_,f2,f3⟩:=aG rx;refine .inl #[q,ys,rfl,SqL.of f2,fun l hl=>?_];unfold iI;rw[sZ,<-f3.length];exact k _ _ (et sm hl (f3.drop _) fun _=>rfl)
  |tup xs=>
   simp only[RL.tJ]at e;split at e
   ·rename_i hz;cases e;obtain⟨q,ys,rfl,f2,f3⟩:=br rx;refine .inr #[q,ys,rfl,SqT.of f2,fun z=>?_,fun l hl=>?_]
    ·rw[x4,<-f3.length]at z;lia
    ·unfold iI;rw[sZ,<-f3.length];exact k _ _ (gf sm hl (f3.drop _) fun _=>rfl)
   ·cases e
  | _=>cases e
 | _=>cases x<;>cases e
abbrev B0:RL.D->RL.D->Option (Option RL.D)
 | .dK ks vs,k=>(RL.keyOf k).map (RL.aL ks vs)
 | .dT ks vs,.tup k=>(RL.keysOf k).map (RL.aL ks vs)
 | _,_=>none
abbrev Ans(P:Addr->Prop)(K:W.Frag)(H:Hp):Option RL.D->Option V->Prop
 | some d,r=>∃ w,r=some w/\Rep P K H d w
 | none,r=>r=none
def pF{κ:Type} [DecidableEq κ]{P:Addr->Prop}{K:W.Frag}{H:Hp}{x:κ}:∀ {ks:List κ} {ds:List RL.D} {xs:List V},ks.length=ds.length->af P K H ds xs ->
  Ans P K H (RL.aL ks ds x) (fA (ks.zip xs) x)
 | [],ds,xs,hl,r=>by simp[RL.aL,fA,Ans]
 | k::ks,[],xs,hl,r=>by simp at hl
 | k::ks,d::ds,xs,hl,r=>by
  rw[af]at r;obtain⟨v,t,rfl,r1,r2⟩:=r;by_cases hk:k=x
  ·have h1:RL.aL (k::ks) (d::ds) x=some d:=by rw[RL.aL,if_pos hk]
   rw[h1];exact#[v,by rw[List.zip_cons_cons];exact jU hk,r1]
  ·have ih:=pF (x:=x) (ks:=ks) (ds:=ds) (xs:=t) (by simpa using hl) r2
   have h1:RL.aL (k::ks) (d::ds) x=RL.aL ks ds x:=by rw[RL.aL,if_neg hk]
   rw[h1,List.zip_cons_cons,jK hk];exact ih
def mW{P:Addr->Prop}{K:W.Frag}(h:RL.keyOf d=some k)(r:Rep P K H d v):v=kV k:=by
 cases d<;>simp only[RL.keyOf]at h<;>first | (cases h;done) | skip
 case int i=>cases h;exact ah r
 case str i=>cases h;exact aQ r
def k8{P:Addr->Prop}{K:W.Frag}:∀ {ds:List RL.D} {k:List RL.Ky} {xs:List V},RL.keysOf ds=some k->af P K H ds xs->xs=k.map kV
 | [],k,xs,h,r=>by cases h;rw[af]at r;exact r
 | d::ds,k,xs,h,r=>by
  rw[RL.keysOf]at h;obtain⟨k1,h1,h⟩:=bind_some h;obtain⟨k2,h2,h3⟩:=map_some h;subst h3;rw[af]at r;obtain⟨v,t,rfl,r1,r2⟩:=r;rw[mW h1 r1,k8 h2 r2];rfl
def pD{H:Hp}{y kx:RL.D}{v u:V}{o:Option RL.D}(ry:Rep nP X.K H y v)(rk:Rep nP X.K H kx u)(h:B0 y kx=some o) :
  ∃ q r,v=.ref q/\fK H q u r/\Ans nP X.K H o r:=by
 cases y with
 |dK ks vs=>
  obtain⟨k,h1,h2⟩:=map_some h;rw[Rep]at ry;obtain⟨q,xs,rfl,_,f2,fl,f3⟩:=ry;have lk:=pF (x:=k) fl f3;rw[h2]at lk;refine#[q,_,rfl,by rw[mW h1 rk];exact fK.k f2,lk]
 |dT ks vs=>
  cases kx with
  |tup kk=>
   obtain⟨k,h1,h2⟩:=map_some h;rw[Rep]at ry;obtain⟨q,xs,rfl,_,f2,fl,f3⟩:=ry;obtain⟨q',ys,rfl,g2,g3⟩:=br rk;rw[k8 h1 g3]at g2;have lk:=pF (x:=k) fl f3;rw[h2]at lk;exact#[q,_,rfl,fK.t f2 g2,lk]
  | _=>cases h
 | _=>cases kx<;>cases h
def GB(h:RL.mH y kx=some d):B0 y kx=some (some d):=by
 cases y with
 | dK ks vs=>obtain⟨k,h1,h2⟩:=bind_some (show(RL.keyOf kx).bind (RL.aL ks vs)=some d from h);show(RL.keyOf kx).map (RL.aL ks vs)=_;rw[h1,Option.map_some,h2]
 |dT ks vs=>
  cases kx with
  | tup kk=>obtain⟨k,h1,h2⟩:=bind_some (show(RL.keysOf kk).bind (RL.aL ks vs)=some d from h);show(RL.keysOf kk).map (RL.aL ks vs)=_;rw[h1,Option.map_some,h2]
  | _=>cases h
 | _=>cases kx<;>cases h
def FR(hu:X.A.units+100<cLine)(ha:SE X cl a a')(hb:SE X cl b b')(hs:xA b):SE X cl (.Subscript a b pos) (.ixD a' b'):=by
 refine PE.weak (CT ⋯ ha hb hs) fun Y H Q h=>?_;kd_p;x_go;gn_on;refine#[QP,x,rv,ea,fun v H1 r1=>#[QP,y,rv.same r1.same,eb,fun u H2 r2=>?_]];obtain⟨q,r,rfl,g,w,rfl,rw'⟩:=pD (r1.rep.same r2.same) r2.rep (GB e);exact⟨q,w,rfl,g,k _ _ ⟨r1.same.trans r2.same,rw',fun z=>(by cases z),fun M z=>nomatch (show false=true from z)⟩⟩
def FZ:SE X cl (.Dict [] [] pos) .dk0:=by
 refine PE.weak zW fun Y H Q h=>?_;kd_p;cases e;intro q hq;refine k _ _ ⟨aw.bV hq,?_,fun _ _ a z=>(by cases z;exact hq),fun M z=>nomatch (show false=true from z)⟩;rw[Rep];exact#[q,[],rfl,fun z=>z,aT,rfl,af.nil]
def FE:SE X cl (.Dict [] [] pos) .dt0:=by
 refine PE.weak Aq fun Y H Q h=>?_;kd_p;cases e;intro q hq;refine k _ _ ⟨aw.bV hq,?_,fun _ _ a z=>(by cases z;exact hq),fun M z=>nomatch (show false=true from z)⟩;rw[Rep];exact#[q,[],rfl,fun z=>z,aT,rfl,af.nil]
end rules
section rules
variable{X:Cx}{st:Stmt}
def EV(h:RL.xu y kx=some k):∃ o,B0 y kx=some o/\k=o.isSome:=by
 cases y with
 | dK ks vs=>obtain⟨q,h1,h2⟩:=map_some (show(RL.keyOf kx).map _=some k from h);exact#[RL.aL ks vs q,by show(RL.keyOf kx).map _=_;rw[h1];rfl,h2.symm]
 |dT ks vs=>
  cases kx with
  | tup kk=>obtain⟨q,h1,h2⟩:=map_some (show(RL.keysOf kk).map _=some k from h);exact#[RL.aL ks vs q,by show(RL.keysOf kk).map _=_;rw[h1];rfl,h2.symm]
  | _=>cases h
 | _=>cases kx<;>cases h
def Ans.isSome{P:Addr->Prop}{K:W.Frag}(h:Ans P K H o r):r.isSome=o.isSome:=by
 cases o with
 | none=>rw[show r=none from h];rfl
 | some d=>obtain⟨w,hw,_⟩:=h;rw[hw];rfl
abbrev Ct(neg:Bool)(ty td:TE):TE:=if neg then uV ty td else F8 ty td
def vB(hu:X.A.units+100<cLine)(ha:SE X cl a a')(hb:SE X cl b b'):PC X (if neg then .NotIn else .In) a b (Ct neg (tE X.K cl a') (tE X.K cl b')):=by
 cases neg with
 | true=>exact yK ⋯ ha hb
 | false=>exact EN ⋯ ha hb
def zF(rv:RV0 X.K QP Y H)(e:RL.ev cl QP (.inD neg a' b')=some d)(k:∀ t H',d=.bl t->aw H H'->Q (.bl t) H'):Ct neg (tE X.K cl a') (tE X.K cl b') Y H Q:=by
 x_go;gn_on;obtain⟨t,e1,e2⟩:=map_some e;obtain⟨o,h1,h2⟩:=EV e1
 cases neg with
 |true=>
  refine two rv ea eb fun v u H1 H2 s1 s2 rx ry _ _=>?_;obtain⟨q,r,rfl,g,an⟩:=pD ry rx h1;refine#[q,r,rfl,g,k _ _ ?_ (s1.trans s2)];rw[an.isSome,<-e2,h2];rfl
 |false=>
  refine two rv ea eb fun v u H1 H2 s1 s2 rx ry _ _=>?_;obtain⟨q,r,rfl,g,an⟩:=pD ry rx h1;refine#[q,r,rfl,g,k _ _ ?_ (s1.trans s2)];rw[an.isSome,<-e2,h2];rfl
def Hl(hu:X.A.units+100<cLine)(ha:SE X cl a a')(hb:SE X cl b b')(hm:mJ b=true):SE X cl (.Compare a [if neg then .NotIn else .In] [b] pos) (.inD neg a' b'):=by
 refine PE.weak (Gv (vB hu ha hb) (iK hm)) fun Y H Q h=>?_;obtain⟨QP,d,rv,e,q⟩:=h
 exact zF rv e fun t H' hd sm=>by subst hd;exact q _ _ (dJ sm)
def HM(hu:X.A.units+100<cLine)(ha:SE X cl a a')(hb:SE X cl b b')(hm:mJ b=true):ST X cl (.Compare a [if neg then .NotIn else .In] [b] pos) (.inD neg a' b'):=by
 refine PT.weak (Fl (vB hu ha hb) (iK hm)) fun Y H Q h=>?_;obtain⟨QP,k,rv,e,q⟩:=h;gp_on;refine zF rv e1 fun t H' hd sm=>?_;subst hd;cases e2;exact#[_,rfl,q _ sm]
def vh{κ:Type} [DecidableEq κ]{x:κ}{d:RL.D}{v:V}{P:Addr->Prop}{K:W.Frag}{H:Hp}{ks:List κ}{ds:List RL.D}{xs:List V}(hl:ks.length=ds.length)(r:af P K H ds xs)(rv:Rep P K H d v) :
  ∃ ys,putK (ks.zip xs) x v=(RL.putD ks ds x d).1.zip ys/\(RL.putD ks ds x d).1.length=(RL.putD ks ds x d).2.length/\af P K H (RL.putD ks ds x d).2 ys:=by
 have hx:ks.length=xs.length:=hl.trans r.length
 have any:∀ (ks:List κ) (xs:List V),ks.length=xs.length->((ks.zip xs).any fun kv=>decide (kv.1=x))=decide (x∈ks):=by
  intro ks
  induction ks with
  | nil=>intro xs _;simp
  |cons k r ih=>
   intro xs h
   cases xs with
   | nil=>simp at h
   |cons y t=>
    rw[List.zip_cons_cons,List.any_cons,ih t (by simpa using h)];by_cases hk:k=x
    ·simp[hk]
    ·simp[hk,Ne.symm hk]
 unfold putK RL.putD;rw[any ks xs hx];by_cases hm:x∈ks
 ·rw[if_pos (by simpa using hm),if_pos hm];refine#[List.zipWith (fun k w=>if k=x then v else w) ks xs,?_,?_,?_]
  ·clear any hm hl r
   induction ks generalizing xs with
   | nil=>simp
   |cons k t ih=>
    cases xs with
    | nil=>simp at hx
    |cons y t'=>
     rw[List.zip_cons_cons,List.map_cons,List.zipWith_cons_cons,List.zip_cons_cons,ih (by simpa using hx)];by_cases hk:k=x<;>simp[hk]
  ·rw[List.length_zipWith,hl,Nat.min_self]
  ·clear any hm hx
   induction ks generalizing ds xs with
   | nil=>simpa using af.nil
   |cons k t ih=>
    cases ds with
    | nil=>simp at hl
    |cons d0 ds=>
     rw[af]at r;obtain⟨y,t',rfl,r1,r2⟩:=r;rw[List.zipWith_cons_cons,List.zipWith_cons_cons];refine af.cons ?_ (ih (by simpa using hl) r2);by_cases hk:k=x
     ·rw[if_pos hk,if_pos hk];exact rv
     ·rw[if_neg hk,if_neg hk];exact r1
 ·rw[if_neg (by simpa using hm),if_neg hm];refine#[xs++[v],?_,by simp[hl],af.append r (af.cons rv af.nil)];rw[List.zip_append hx];rfl
def zA [DecidableEq κ](hd:d.imm=true):∀ {ks:List κ} {ds:List RL.D},RL.au ds=true->RL.au (RL.putD ks ds x d).2=true:=by
 have app:∀ l:List RL.D,RL.au l=true->RL.au (l++[d])=true:=fun l=>by
  induction l with
  | nil=>intro _;simp[RL.au,hd]
  | cons z r ih=>intro h;rw[RL.au,Bool.and_eq_true]at h;rw[List.cons_append,RL.au,h.1,ih h.2];rfl
 have zw:∀ (ks:List κ) (ds:List RL.D),RL.au ds=true->RL.au (List.zipWith (fun k w=>if k=x then d else w) ks ds)=true:=fun ks=>by
  induction ks with
  | nil=>intro ds _;simp[RL.au]
  |cons k r ih=>
   intro ds h
   cases ds with
   | nil=>simp[RL.au]
   |cons y t=>
    rw[RL.au,Bool.and_eq_true]at h;rw[List.zipWith_cons_cons,RL.au,ih t h.2,Bool.and_true];by_cases hk:k=x
    ·rw[if_pos hk];exact hd
    ·rw[if_neg hk];exact h.1
 intro ks ds h;unfold RL.putD;split
 ·exact zw ks ds h
 ·exact app ds h
def D5(h:PS X st (wR (j8 i) (tE X.K cl k') (tE X.K cl e')))(hi:M.contains i=true):PS X st (tS X.K M fun QP=>(RL.ev cl QP e').bind fun d=>(RL.ev cl QP k').bind fun kk=>((QP[i]?).bind id).bind fun l=>match l with
  | .lst _=>none
  | _=>if d.imm then(RL.fw l kk d).map fun l'=>(.nx,QP.set i (some l'))else none):=by
 refine PS.weak h fun D Y H h=>?_;f_tup;obtain⟨d,e1,e⟩:=bind_some e;obtain⟨kk,e2,e⟩:=bind_some e;obtain⟨l,e3,e⟩:=bind_some e;obtain⟨v,h1,h2⟩:=rv.val i _ (slot_get e3);rw[if_pos hi]at h2;obtain⟨q1,q2,q3⟩:=h2
 cases l with
 |dK ks ds=>
  dsimp only at e;split at e
  ·rename_i him;obtain⟨l',e4,e5⟩:=map_some e;cases e5;obtain⟨kx,e6,e7⟩:=bind_some (show(RL.keyOf kk).bind _=some l' from e4);split at e7
   ·rename_i hz;cases e7;rw[Rep]at q3;obtain⟨q,xs,rfl,_,f2,fl,f3⟩:=q3;refine#[QP,d,rv.rv0,e1,fun y H1 r1=>#[.ref q,h1,QP,kk,rv.rv0.same r1.same,e2,fun u H2 r2=>?_]];have sm:=r1.same.trans r2.same;obtain⟨ys,p1,p2,p3⟩:=vh (x:=kx) fl (f3.same sm) (r1.rep.same r2.same)
    have hlen:(ks.zip xs).length<sizeLine:=by
     rw[List.length_zip,<-f3.length,fl,Nat.min_self,<-fl];exact Qh hz cA
    refine#[q,_,rfl,by rw[mW e6 r2.rep];exact k9.k (sm _ _ f2) hlen,?_];have im:=zA (x:=kx) him (ks:=ks) q2
    obtain⟨g1,g2⟩:=(rv.same sm).jz (d':=.dK (RL.putD ks ds kx d).1 (RL.putD ks ds kx d).2) (o':=.dK (putK (ks.zip xs) kx y)) hi h1 (sm _ _ f2) (.inr (.inl #[_,rfl])) ⟨rfl,im,by
     rw[Rep]
     exact#[q,ys,rfl,fun z=>z,by rw[aT,p1],p2,(af.upd (P:=fun p=>p=q) (sm _ _ f2) (.inr (.inl #[_,rfl])) rfl (p3.imm im)).imm im]⟩
    exact k _ _ g1 ((Fr'.same sm).trans g2)
   ·cases e7
  ·cases e
 |dT ks ds=>
  dsimp only at e;split at e
  ·rename_i him;obtain⟨l',e4,e5⟩:=map_some e;cases e5
   cases kk with
   |tup kt=>
    obtain⟨kx,e6,e7⟩:=bind_some (show(RL.keysOf kt).bind _=some l' from e4);split at e7
    ·rename_i hz;cases e7;rw[Rep]at q3;obtain⟨q,xs,rfl,_,f2,fl,f3⟩:=q3;refine#[QP,d,rv.rv0,e1,fun y H1 r1=>#[.ref q,h1,QP,.tup kt,rv.rv0.same r1.same,e2,fun u H2 r2=>?_]];have sm:=r1.same.trans r2.same;obtain⟨ys,p1,p2,p3⟩:=vh (x:=kx) fl (f3.same sm) (r1.rep.same r2.same)
     have hlen:(ks.zip xs).length<sizeLine:=by
      rw[List.length_zip,<-f3.length,fl,Nat.min_self,<-fl];exact Qh hz cA
     obtain⟨b,ws,rfl,g2,g3⟩:=br r2.rep;rw[k8 e6 g3]at g2;refine#[q,_,rfl,k9.t (sm _ _ f2) g2 hlen,?_];have im:=zA (x:=kx) him (ks:=ks) q2
     obtain⟨g1,g2⟩:=(rv.same sm).jz (d':=.dT (RL.putD ks ds kx d).1 (RL.putD ks ds kx d).2) (o':=.dT (putK (ks.zip xs) kx y)) hi h1 (sm _ _ f2) (.inr (.inr #[_,rfl])) ⟨rfl,im,by
      rw[Rep]
      exact#[q,ys,rfl,fun z=>z,by rw[aT,p1],p2,(af.upd (P:=fun p=>p=q) (sm _ _ f2) (.inr (.inr #[_,rfl])) rfl (p3.imm im)).imm im]⟩
     exact k _ _ g1 ((Fr'.same sm).trans g2)
    ·cases e7
   | _=>cases e4
  ·cases e
 | lst _=>cases e
 | _=>cases q1
end rules
end RS
namespace L2
open PySem PySem.Spec PyProof.Rows
abbrev Its(c lo:Int)(n:Nat):It:=#[fun i _=>i<n,fun i H x H'=>H'=H/\x=.int (lo+i*c),fun i _=>n<=i]
def xY{P:Program}{w:World}{K:PySem.W.Frag}(it:Addr)(c lo:Int)(n:Nat):Turn P w K tg (Its c lo n) [it] it (fun i h=>IsRangeIter h it (lo+(i:Nat)*c) ((n:Int)-(i:Nat)) c) where
 mem:=by simp
 obj:=fun i h st b hb=>by
  rw[show b=it by simpa using hb];exact⟨_,st,fun v z=>by cases(show Data.fields _=Data.cell v from z)⟩
 keep:=fun i h h' st k=>k it (by simp) _ st
 item:=by
  k_go;subst hP hw hK;k_cls;have W:=Walks.range (prog:=X.prog) (w:=X.w) (I.ok.hd.1 hc) it lo c n;refine W.item i s _ _ hg st fun v h' tk hv st' kk=>?_;obtain⟨t,rfl⟩:=hv;have I1:Inv X pins Y H { s with heap:=h',toks:=tk }:=I.turned (fun b o hb e=>kk b o (by simpa using hb) e) f0 f1 f3 f4 f5;exact#[_,rfl,rA (s:={ s with heap:=h',toks:=tk }) (n := "range_iterator") st' rfl rfl ∅ #[.int (lo+i*c),H,I1,#[t,rfl],#[rfl,rfl],st',fun b hb=>(hf b hb).1]]
 done:=by
  k_go;subst hP hw hK;k_cls
  exact wpAny_pyNext_range_end (I.ok.hd.1 hc) st (by have:n<=i:=hg;lia) fun h' eb=>#[rfl,I.turned (t':=s.toks) (fun b o hb e=>eb b o hb e) f0 f1 f3 f4 f5]
 self:=fun _ _ _ _ _ st h=>wpAny_pyIter_rangeiter st h
end L2
namespace RS
open PySem PySem.Spec PyProof.Rows L2
def nc(c:Int):∀ (n:Nat) (lo:Int) (i:Nat) (d:RL.D),(RL.cm c lo n)[i]?=some d->d=.int (lo+i*c)
 | 0,lo,i,d,h=>by simp[RL.cm]at h
 | n+1,lo,0,d,h=>by simp[RL.cm]at h;simp[h]
 | n+1,lo,i+1,d,h=>by
  rw[RL.cm,List.getElem?_cons_succ]at h;rw[nc c n (lo+c) i d h];congr 1;rw[show((i+1:Nat):Int)=(i:Int)+1 by lia,Int.add_mul];lia
def kd(c:Int):∀ (n:Nat) (lo:Int),(RL.cm c lo n).length=n
 | 0,_=>rfl
 | n+1,lo=>by rw[RL.cm,List.length_cons,kd c n]
def uT{K:W.Frag}{H:Hp}{c lo:Int}:ja K (Its c lo n) (RL.cm c lo n) P H where
 go:=fun H' i k hi=>by rw[kd]at hi;exact hi
 stop:=fun H' k=>by rw[kd];exact Qc _
 yld:=fun H' i d x H2 k e y=>by
  obtain⟨z,y⟩:=y;subst z;refine#[aw.refl _,fun _=>?_];rw[nc c n lo i d e,y];exact bh
section rules
variable{st:Stmt}
def yO(hf:∀ a b,RL.aE o (.int a) (.int b)=some (.int (f a b)))(h:PS X st (GQ i (tE X.K cl e') (ipI f)))(hi:M.contains i=false):SS X cl M st (.aug i o e'):=by
 refine PS.weak h fun D Y H h=>?_;obtain⟨QP,ou,QT,rv,e,k⟩:=h;obtain⟨x,e1,e⟩:=bind_some e;obtain⟨y,e2,e⟩:=bind_some e
 cases x with
 |int a=>
  cases y with
  |int b=>
   dsimp only at e;rw[hf]at e;cases e;obtain⟨v,h1,h2⟩:=rv.val i _ (slot_get e1);rw[if_neg (by rw[hi];decide)]at h2;refine#[v,h1,QP,.int b,rv.rv0,e2,fun u H1 r1=>#[a,b,ah h2,ah r1.rep,?_]];exact k _ _ ((rv.same r1.same).bind hi bh) (Fr'.bind hi r1.same)
  | _=>cases e
 | _=>cases e
end rules
abbrev pZ(p:Addr)(a b c:Int):HO:=.ext fun h=>∃ t u v,IsRange h p a b c t u v
def rG(a b c:Int):0<=Builtin.Range.rangeSize a b c:=by
 unfold Builtin.Range.rangeSize;split
 ·split
  ·have:=Int.ediv_nonneg (a:=b-a-1) (b:=c) ⋯ ⋯;omega
  ·lia
 ·split
  ·by_cases h0:c=0
   ·subst h0;simp
   ·have:=Int.ediv_nonneg (a:=a-b-1) (b:=-c) ⋯ ⋯;omega
  ·lia
def B4(a b c:Int):Builtin.Range.rangeSize a b c<=(if a<b then b-a else a-b)+1:=by
 unfold Builtin.Range.rangeSize;split
 ·split
  ·have:=Int.ediv_le_self (a:=b-a-1) c ⋯;lia
  ·lia
 ·split
  ·have:=Int.ediv_le_self (a:=a-b-1) (-c) ⋯;split<;>omega
  ·split<;>lia
def kK(a b c:Int):(RL.bN c a b:Int)=Builtin.Range.rangeSize a b c:=Int.toNat_of_nonneg (rG a b c)
def kT(ha:-(2 ^ 60)<=a)(ha':a<2 ^ 60)(hb:-(2 ^ 60)<=b)(hb':b<2 ^ 60)(hc:-(2 ^ 60)<=c)(hc':c<2 ^ 60):Builtin.Range.small a b c=true:=by
 have h1:=rG a b c;have h2:=B4 a b c;unfold Builtin.Range.small;simp only[Builtin.Range.rangeFitsLong,Bool.and_eq_true,Bool.or_eq_true,decide_eq_true_eq,beq_iff_eq];refine#[#[#[#[?_,?_],?_],?_],.inr ?_]
 ·lia
 ·lia
 ·lia
 ·split at h2<;>lia
 ·split<;>(rw[Bool.and_eq_true,decide_eq_true_eq,decide_eq_true_eq];lia)
section
variable{X:Cx}
abbrev rL(xs:List V)(a b c:Int):Prop:=(xs=[.int b]/\a=0/\c=1)\/(xs=[.int a,.int b]/\c=1)\/(xs=[.int a,.int b,.int c]/\c≠0/\c.natAbs<2 ^ 60)
def m8{pins:List (Addr × Obj)}{Y:L2.St}{H:Hp}{s:Shared}{a b c:Int}{t u v:Tok}{tk:Nat}(I:Inv X pins Y H s):Inv X pins Y (upd H s.heap.objs.size (pZ s.heap.objs.size a b c)) { s with heap:=s.heap.push { cls:=.type "range",data:=.fields (List.toArray [.int a t,.int b u,.int c v]) },toks:=tk } :=
 I.laid (fun b u e=>Qa _ e) (Qc _) ⟨⟨t,u,v,IsRange.new _ a b c t u v⟩,⟨_,Qe _ rfl⟩,fun h1 h2 ⟨t,u,v,e⟩ k=>#[t,u,v,k _ e]⟩
def jW:bK X (.type "range") (fun xs H Q=>∃ a b c,rL xs a b c/\∀ p,H p=none->Q (.ref p) (upd H p (pZ p a b c))):=by
 by_in;obtain⟨a,b,c,ha,q⟩:=h;have hf:H s.heap.objs.size=none:=I.hok.fresh (Qc _)
 rcases ha with⟨rfl,rfl,rfl⟩ | ⟨rfl,rfl⟩ | ⟨rfl,hc,hc2⟩
 ·cases r with
  |cons r rr=>
   cases rr;obtain⟨t,rfl⟩:=r;exact call_range_1 ⟨.ref _,_,m8 I,rfl,q _ hf⟩
 ·cases r with
  |cons r rr=>
   cases rr with
   |cons r2 rr=>
    cases rr;obtain⟨t,rfl⟩:=r;obtain⟨t2,rfl⟩:=r2;exact call_range_2 ⟨.ref _,_,m8 I,rfl,q _ hf⟩
 ·cases r with
  |cons r rr=>
   cases rr with
   |cons r2 rr=>
    cases rr with
    |cons r3 rr=>
     cases rr;obtain⟨t,rfl⟩:=r;obtain⟨t2,rfl⟩:=r2;obtain⟨t3,rfl⟩:=r3;refine call_range_3 hc ⟨.ref _,_,m8 I,rfl,q _ hf⟩ (.inl (PyProof.noPylong_of_log2 ?_));have:c.natAbs.log2<60:=(Nat.log2_lt ⋯).mpr hc2;lia
abbrev dE(a c:Int)(n:Nat):List V:=(List.range n).map fun(i:Nat)=>V.int (a+(i:Int)*c)
def CI{a c:Int}{n:Nat}{acc:Array Value}(hI:ItemsOf (fun i v=>∃ t,v=.int (a+i*c) t) acc n):Vals (dE a c n) acc.toList:=by
 have len:(dE a c (n)).length=acc.toList.length:=by
  simp only[dE,List.length_map,List.length_range,Array.length_toList,hI.1]
 have gen:∀ (xs:List V) (us:List Value),xs.length=us.length->(∀ (i:Nat) u,us[i]?=some u->∃ x,xs[i]?=some x/\RelV x u)->Vals xs us:=by
  intro xs
  induction xs with
  | nil=>intro us h _;cases us with
   | nil=>exact .nil
   | cons _ _=>cases h
  | cons x r ih=>intro us h g;cases us with
   | nil=>cases h
   |cons u us=>
    obtain⟨x',e1,e2⟩:=g 0 u rfl;cases e1
    exact .cons e2 (ih us (by simpa using h) fun i u hu=>by
     obtain⟨y,e3,e4⟩:=g (i+1) u (by simpa using hu)
     exact#[y,by simpa using e3,e4])
 refine gen _ _ len fun i u hu=>?_
 have hu':acc[i]?=some u:=by simpa using hu
 obtain⟨tk,rfl⟩:=hI.2 i u hu'
 have hi:i<n:=by
  have:=(Array.getElem?_eq_some_iff.mp hu').1;rw[hI.1]at this;exact this
 exact#[.int (a+(i:Int)*c),by simp[dE,hi],tk,rfl]
def gK(hc:X.calm=true):bK X (.type "list") (fun xs H Q=>∃ p a b c,xs=[.ref p]/\H p=some (pZ p a b c)/\Builtin.Range.small a b c=true/\RL.bN c a b<=RL.most /\
  ∀ l,H l=none->Q (.ref l) (upd H l (.lst (dE a c (RL.bN c a b))))):=by
 by_in;obtain⟨p,a,b,c,rfl,hp,hs,hn,q⟩:=h
 cases r with
 |cons r rr=>
  cases rr;cases r;obtain⟨⟨t,u,v,hR⟩,_,_⟩:=I.hok p _ hp;refine call_list_range (I.ok.hd.1 hc) hR hs (kK a b c).symm (Qr hn ∅) fun h' tk acc c' hk hS hI=>?_;have hf:H s.heap.objs.size=none:=I.hok.fresh (Qc _);refine#[.ref s.heap.objs.size,upd H s.heap.objs.size (.lst (dE a c (RL.bN c a b))),I.laid hk (Qc _) (show _/\_ from#[?_,acc.toList,c',?_,?_]),rfl,q _ hf]
  ·simp only[dE,List.length_map,List.length_range];exact Qr hn cA
  ·exact CI hI
  ·rw[Array.toArray_toList];exact hS
def qf{P:Addr->Prop}{K:W.Frag}:∀ (n:Nat) (a c:Int),af P K H (RL.cm c a n) (dE a c n)
 | 0,a,c=>af.nil
 | n+1,a,c=>by
  have e:dE a c (n+1)=V.int a::dE (a+c) c n:=by
   simp only[dE,List.range_succ_eq_map,List.map_cons,List.map_map];congr 1
   ·simp
   ·apply QK;intro i _;show V.int (a+((i+1:Nat):Int)*c)=V.int (a+c+(i:Int)*c);congr 1;rw[show((i+1:Nat):Int)=(i:Int)+1 by lia,Int.add_mul];lia
  rw[RL.cm,e];exact af.cons bh (qf n (a+c) c)
def mX:∀ (n:Nat) (a:Int),RL.cO a n=RL.cm 1 a n
 | 0,_=>rfl
 | n+1,a=>by rw[RL.cO,RL.cm,mX n]
def gW(a b:Int):RL.bN 1 a b=(b-a).toNat:=by
 have h:=kK a b 1;rw[rangeSize_one]at h;split at h<;>lia
def sU{QP:RL.St}{Y:L2.St}{H H1:Hp}{e:RL.E}{Q:VK}{vs:List V}{a b c:Int}{ds:List RL.D}(hv:rL vs a b c)(hd:ds=RL.cm c a (RL.bN c a b))(hn:RL.bN c a b<=RL.most)(hs:Builtin.Range.small a b c=true)(sm:aw H H1)
 (hav:∀ M,RL.avE M e=false)(k:∀ v H',Res X.K QP Y H e (.lst ds) v H'->Q v H') :
  ∃ a b c,rL vs a b c/\∀ p,H1 p=none->(fun xs H Q=>∃ p a b c,xs=[V.ref p]/\H p=some (pZ p a b c)/\Builtin.Range.small a b c=true/\RL.bN c a b<=RL.most/\∀ l,H l=none->Q (.ref l) (upd H l (.lst (dE a c (RL.bN c a b))))) [.ref p] (upd H1 p (pZ p a b c)) Q:=by
 refine#[a,b,c,hv,fun p hp=>#[p,a,b,c,rfl,aT,hs,hn,fun l hl=>k _ _ ?_]];subst hd;exact et (sm.trans (aw.bV hp)) hl (qf _ _ _) hav
def DL(hc:X.calm=true)(hgl:Gl X "list")(hml:X.mg "list" = none)(hg:Gl X "range")(hm:X.mg "range" = none)(ha:SE X cl a a')(hn:noStar a=true){p2 pos2:Pos}:SE X cl (.Call (.Name "list" p2) [.Call (.Name "range" p) [a] [] pos] [] pos2) (.rng1 a'):=by
 refine PE.weak (cN (gK hc) hgl hml (by decide +kernel) (bu (cN jW hg hm boot_range (bM (cl:=cl) ha cY hn) ∅ ∅ (ay [] hn) rfl) cL rfl) ∅ ∅ rfl rfl) fun Y H Q h=>?_;kd_p;x_go;obtain⟨ds,e1,e2⟩:=map_some e;subst e2;obtain⟨i,j,e3,rfl,hb,hm2,rfl⟩:=oa e1;cases e3
 have hb2:-(2 ^ 60)<=j/\j<2 ^ 60:=by
  simp only[RL.cW]at e1;split at e1
  ·lia
  ·cases e1
 refine one rv ea fun v H1 s1 r1=>?_;exact sU (a:=0) (b:=j) (c:=1) (.inl #[by rw[ah r1],rfl,rfl]) (by rw[mX,gW]) (by rw[gW];exact hm2) (kT ∅ ∅ hb2.1 hb2.2 ∅ ∅) s1 (fun _=>rfl) k
def DX(hc:X.calm=true)(hgl:Gl X "list")(hml:X.mg "list" = none)(hg:Gl X "range")(hm:X.mg "range" = none)(ha:SE X cl a a')(hb:SE X cl b b')(hn:noStar a=true)(hn2:noStar b=true){p2 pos2:Pos}:SE X cl (.Call (.Name "list" p2) [.Call (.Name "range" p) [a,b] [] pos] [] pos2) (.rng2 a' b'):=by
 refine PE.weak (cN (gK hc) hgl hml (by decide +kernel) (bu (cN jW hg hm boot_range (bM (cl:=cl) ha (bM hb cY hn2) hn) ∅ ∅ (ay _ hn) (cU (by simp[hn2]))) cL rfl) ∅ ∅ rfl rfl) fun Y H Q h=>?_;kd_p;x_go;gn_on;obtain⟨ds,e1,e2⟩:=map_some e;subst e2;obtain⟨i,j,rfl,rfl,hb,hm2,rfl⟩:=oa e1
 have hb2:(-(2 ^ 60)<=i/\i<2 ^ 60)/\-(2 ^ 60)<=j/\j<2 ^ 60:=by
  simp only[RL.cW]at e1;split at e1
  ·lia
  ·cases e1
 refine pair rv ea eb fun v u H1 s1 r1 r2=>?_;exact sU (a:=i) (b:=j) (c:=1) (.inr (.inl #[by rw[ah r1,ah r2],rfl])) (by rw[mX,gW]) (by rw[gW];exact hm2) (kT hb2.1.1 hb2.1.2 hb2.2.1 hb2.2.2 ∅ ∅) s1 (fun _=>rfl) k
abbrev gw(c:Int):Expr->Bool
 | .Constant (.int i) _ _=>i == c
 | .UnaryOp .USub (.Constant (.int i) _ _) _=>-i == c
 | _=>false
def j4(h:gw c e=true):PE X e (tC (.int c))/\noStar e=true:=by
 unfold gw at h;split at h
 ·rw[beq_iff_eq]at h;subst h;exact#[sA,rfl]
 ·rw[beq_iff_eq]at h;subst h;exact#[PE.weak (Cq yX sA) fun Y H Q q=>#[_,rfl,q],rfl]
 ·cases h
def uS(h:RL.gg c x y=some ds):∃ i j:Int,x=.int i/\y=.int j/\c≠0/\c.natAbs<2 ^ 60/\Builtin.Range.small i j c=true/\RL.bN c i j<=RL.most/\ds=RL.cm c i (RL.bN c i j):=by
 cases x<;>cases y<;>simp only[RL.gg]at h<;>first
  | (cases h;done)
  | (split at h
     ·rename_i i j hc;cases h;exact#[i,j,rfl,rfl,hc.1,by omega,kT hc.2.2.2.2.1 hc.2.2.2.2.2.1 hc.2.2.2.2.2.2.1 hc.2.2.2.2.2.2.2 (by omega) hc.2.2.1,hc.2.2.2.1,rfl]
     ·cases h)
def vM(ha:SE X cl a a')(hb:SE X cl b b')(hn:noStar a=true)(hn2:noStar b=true)(h3:gw c e3=true):PA X [a,b,e3] (fun Y H R=>tE X.K cl a' Y H fun v H1=>tE X.K cl b' Y H1 fun u H2=>R [v,u,.int c] H2) :=
 bu ha (bu hb (bu (j4 h3).1 cL (ay [] (j4 (X:=X) h3).2)) (ay _ hn2)) (ay _ hn)
def CH{c:Int}{e3:Expr}(hc:X.calm=true)(hgl:Gl X "list")(hml:X.mg "list" = none)(hg:Gl X "range")(hm:X.mg "range" = none)(ha:SE X cl a a')(hb:SE X cl b b')(hn:noStar a=true)(hn2:noStar b=true)(h3:gw c e3=true){p2 pos2:Pos} :
  SE X cl (.Call (.Name "list" p2) [.Call (.Name "range" p) [a,b,e3] [] pos] [] pos2) (.rng3 c a' b'):=by
 refine PE.weak (cN (gK hc) hgl hml (by decide +kernel) (bu (cN jW hg hm boot_range (vM (cl:=cl) ha hb hn hn2 h3) ∅ ∅ (ay _ hn) (cU (by simp[hn2,(j4 (X:=X) h3).2]))) cL rfl) ∅ ∅ rfl rfl) fun Y H Q h=>?_;kd_p;x_go;gn_on;obtain⟨ds,e1,e2⟩:=map_some e;subst e2;obtain⟨i,j,rfl,rfl,h0,h1,h2,h3,rfl⟩:=uS e1;refine two rv ea eb fun v u H1 H2 s1 s2 rx ry _ _=>?_;exact sU (a:=i) (b:=j) (c:=c) (.inr (.inr #[by rw[ah rx,ah ry],h0,h1])) rfl h3 h2 (s1.trans s2) (fun _=>rfl) k
def C8(hg:Gl X "range")(hm:X.mg "range" = none)(ha:SE X cl a a')(hb:SE X cl b b')(hn:noStar a=true)(hn2:noStar b=true)(h3:gw c e3=true) :
  SI X cl tg (.Call (.Name "range" p) [a,b,e3] [] pos) (.rng3 c a' b'):=by
 intro pins s Y H R I h;obtain⟨QP,ds,rv,e,k⟩:=h;x_go;gn_on;obtain⟨i,j,rfl,rfl,h0,h1,hs,hl,rfl⟩:=uS e;refine thn (cN jW hg hm boot_range (vM (cl:=cl) ha hb hn hn2 h3) ∅ ∅ (ay _ hn) (cU (by simp[hn2,(j4 (X:=X) h3).2])) pins s Y H (fun x H2=>∃ p,x=.ref p/\H2 p=some (pZ p i j c)/\aw H H2) I ?_) ?_
 ·exact two rv ea eb fun v u H1 H2 s1 s2 rx ry _ _=>#[i,j,c,.inr (.inr #[by rw[ah rx,ah ry],h0,h1]),fun p hp=>#[p,rfl,aT,(s1.trans s2).trans (aw.bV hp)]]
 ·rintro v s1 ⟨x,H1,I1,r1,q,rfl,hq,sm⟩;cases r1;obtain⟨⟨t,u,v,hR⟩,_,_⟩:=I1.hok q _ hq;refine wpAny_pyIter_range hR hs ⟨s1.heap.objs.size,[s1.heap.objs.size],_,Its c i (RL.bN c i j),H1,rfl,I1.kept (t':=s1.toks) fun b o e=>Qa _ e,xY _ c i _,?_,fun b hb=>?_,k _ _ sm ⟨uT,fun _ _ _ _ _=>uT⟩⟩
  ·have e1:i+((0:Nat):Int)*c=i:=by simp
   have e2:((RL.bN c i j:Nat):Int)-((0:Nat):Int)=Builtin.Range.rangeSize i j c:=by rw[kK];simp
   show IsRangeIter _ _ (i+((0:Nat):Int)*c) (((RL.bN c i j:Nat):Int)-((0:Nat):Int)) c;rw[e1,e2];exact Qe _ rfl
  ·rw[show b=s1.heap.objs.size by simpa using hb];exact I1.oM (Qc _) (I1.hok.fresh (Qc _))
def D4(hl:SE X cl l e'):SI X cl tg l (.seq e'):=by
 refine PI.weak (FG (cl:=cl) hl trivial) fun Y H R h=>?_;obtain⟨QP,ds,rv,e,k⟩:=h;gp_on;exact#[QP,d,ds,rv,e1,e2,k]
def Hc(ha:SE X cl a a'):SE X cl (.UnaryOp .USub a pos) (.neg a'):=by
 refine PE.weak (Cq yX ha) fun Y H Q h=>?_;kd_p;x_go
 cases x with
 | int i=>cases e;exact#[QP,_,rv,ea,fun v H1 r1=>#[i,ah r1.rep,k _ _ (dh r1.same bh rfl)]]
 | _=>cases e
end
abbrev mAt(mp:List Nat)(vs:List V):Addr->Prop:=fun a=>∃ p,p∈mp/\vs[p]?=some (.ref a)
structure FP(K:W.Frag)(mp:List Nat)(ds:List RL.D)(vs:List V)(H:Hp):Prop where
 kD:af nP K H ds vs
 own:∀ p∈mp,∃ d a,ds[p]?=some d/\vs[p]?=some (.ref a)/\Own K H d (.ref a)
 sep:∀ p∈mp,∀ q∈mp,∀ a,vs[p]?=some (.ref a)->vs[q]?=some (.ref a)->p=q
 oth:∀ (q:Nat) d v,q∉mp->ds[q]?=some d->vs[q]?=some v->Rep (mAt mp vs) K H d v
structure JG(K:W.Frag)(mp:List Nat)(outs:List RL.D)(vs:List V)(H:Hp):Prop where
 len:outs.length=mp.length
 own:∀ (k p:Nat) o,mp[k]?=some p->outs[k]?=some o->∃ a,vs[p]?=some (.ref a)/\Own K H o (.ref a)
abbrev spM(K:W.Frag)(cl:RL.Cl)(mp:List Nat)(f:Nat):Sp:=fun vs H Q _=>∃ ds d outs,cl f ds=some (.tup (d::outs))/\FP K mp ds vs H/\∀ v H',Off (mAt mp vs) H H'->Rep nP K H' d v->d.imm=true->JG K mp outs vs H'->Q v H'
abbrev sO(K:W.Frag)(cl:RL.Cl):RL.E->TE
 | .var j=>j8 j
 | e=>tE K cl e
abbrev jZ(K:W.Frag)(cl:RL.Cl):RL.Es->TA
 | .nil=>lg
 | .cons e es=>iP (sO K cl e) (jZ K cl es)
abbrev cT(K:W.Frag)(M:List Nat)(Y:L2.St)(ps:List Nat)(H:Hp):Nat->RL.Es->List RL.D->List V->Prop
 | _,.nil,[],[]=>True
 | q,.cons e es,d::ds,v::vs=>Rep nP K H d v/\(if ps.contains q=true then ∃ j,e=.var j/\Y[j]?=some (some v)else Rep (aY M Y) K H d v)/\cT K M Y ps H (q+1) es ds vs
 | _,_,_,_=>False
section
variable{K:W.Frag}
def za(e:RL.ev cl QP (.var j)=some d):QP[j]?=some (some d):=by
 exact slot_get e
def Ey(rv:RVm K M QP Y H)(r1:Res K QP Y H e' d v H1)(ok:RL.aV M e' d=true):Rep (aY M Y) K H1 d v:=by
 unfold RL.aV at ok;rw[Bool.or_eq_true,Bool.or_eq_true,Bool.and_eq_true]at ok;rcases ok with(q | ⟨q1,q2⟩) | q
 ·exact r1.rep.imm q
 ·have rp:=r1.rep;have fr:m6 d=true->∀ a,v=.ref a->¬ aY M Y a:=fun m a z p=>rv.uf a p (r1.fresh q2 m a z)
  cases d with
  | lst ds=>obtain⟨a,xs,e1,e0,e2,e3⟩:=aG rp;rw[Rep];exact#[a,xs,e1,fr rfl a e1,e2,e3.imm q1]
  | dK ks ds=>rw[Rep]at rp ⊢;obtain⟨a,xs,e1,e0,e2,el,e3⟩:=rp;exact#[a,xs,e1,fr rfl a e1,e2,el,e3.imm q1]
  | dT ks ds=>rw[Rep]at rp ⊢;obtain⟨a,xs,e1,e0,e2,el,e3⟩:=rp;exact#[a,xs,e1,fr rfl a e1,e2,el,e3.imm q1]
  | _=>cases q1
 ·refine r1.av M q _ rv.uf fun j dj vj hj h1 h2=>?_;obtain⟨v',h3,h4⟩:=rv.val j dj h1;rw[h2]at h3;cases h3;rw[if_neg (by rw[hj];decide)]at h4;exact h4
def Ee{e:RL.E}{d:RL.D}{ps:List Nat}(rv:RVm K M QP Y H)(he:RL.ev cl QP e=some d)(ok:(if ps.contains q=true then RL.isVar e else RL.aV M e d)=true)
 (k:∀ v H1,aw H H1->Rep nP K H1 d v->(if ps.contains q=true then ∃ j,e=.var j/\Y[j]?=some (some v)else Rep (aY M Y) K H1 d v)->R v H1):sO K cl e Y H R:=by
 have other:sO K cl e=tE K cl e->ps.contains q=false->sO K cl e Y H R:=fun z hq=>by
  rw[z];rw[if_neg (by rw[hq];decide)]at ok;refine#[QP,d,rv.rv0,he,fun v H1 r1=>k v H1 r1.same r1.rep ?_];rw[if_neg (by rw[hq];decide)];exact Ey rv r1 ok
 cases e with
 |var j=>
  have hj:=za he;obtain⟨v,h1,h2⟩:=rv.val j d hj;refine#[v,h1,k v H (aw.refl H) ?_ ?_]
  ·obtain⟨v',h3,h4⟩:=rv.rv0.2 j d hj;rw[h1]at h3;cases h3;exact h4
  ·by_cases hq:ps.contains q=true
   ·rw[if_pos hq];exact#[j,rfl,h1]
   ·rw[if_neg hq]at ok ⊢;by_cases hm:M.contains j=true
    ·rw[if_pos hm]at h2
     have im:d.imm=true:=by
      unfold RL.aV at ok;rw[Bool.or_eq_true,Bool.or_eq_true,Bool.and_eq_true]at ok;rcases ok with(z | ⟨_,z⟩) | z
      ·exact z
      ·cases z
      ·rw[RL.wa,hm]at z;cases z
     exact h2.2.2.imm im
    ·rw[if_neg hm]at h2;exact h2
 |_=>
  refine other rfl ?_
  cases hq:ps.contains q with
  | false=>rfl
  |true=>
   rw[if_pos hq]at ok;cases ok
def uk:∀ {es:RL.Es} {q:Nat} {ds:List RL.D} {H:Hp} {R:List V->Hp->Prop},RVm K M QP Y H->RL.evs cl QP es=some ds->RL.eL M ps q es ds=true ->
  (∀ vs H1,aw H H1->cT K M Y ps H1 q es ds vs->R vs H1)->jZ K cl es Y H R
 | .nil,q,ds,H,R,rv,he,ok,k=>by
  cases he;exact k [] H (aw.refl H) (by rw[cT];trivial)
 | .cons e es,q,ds,H,R,rv,he,ok,k=>by
  obtain⟨d,e1,he⟩:=bind_some he;obtain⟨ds',e2,e3⟩:=map_some he;subst e3;rw[RL.eL,Bool.and_eq_true]at ok;refine Ee rv e1 ok.1 fun v H1 s1 r1 x1=>?_;refine uk (rv.same s1) e2 ok.2 fun vs H2 s2 r2=>k (v::vs) H2 (s1.trans s2) ?_;rw[cT];refine#[r1.same s2,?_,r2];by_cases hq:ps.contains q=true
  ·rw[if_pos hq]at x1 ⊢;exact x1
  ·rw[if_neg hq]at x1 ⊢;exact x1.same s2
abbrev lR:RL.Es->Nat->Option RL.E
 | .nil,_=>none
 | .cons e _,0=>some e
 | .cons _ es,n+1=>lR es n
def cT.kD:∀ {q:Nat} {es:RL.Es} {ds:List RL.D} {vs:List V},cT K M Y ps H q es ds vs->af nP K H ds vs
 | _,.nil,[],[],h=>af.nil
 | q,.cons e es,d::ds,v::vs,h=>by
  rw[cT]at h;exact af.cons h.1 (cT.kD h.2.2)
 | _,.nil,_::_,_,h=>by simp[cT]at h
 | _,.nil,[],_::_,h=>by simp[cT]at h
 | _,.cons _ _,[],_,h=>by simp[cT]at h
 | _,.cons _ _,_::_,[],h=>by simp[cT]at h
def cT.get:∀ {q:Nat} {es:RL.Es} {ds:List RL.D} {vs:List V} (n:Nat) {d:RL.D} {v:V},cT K M Y ps H q es ds vs->ds[n]?=some d->vs[n]?=some v ->
  Rep nP K H d v/\(if ps.contains (q+n)=true then ∃ j,lR es n=some (.var j)/\Y[j]?=some (some v)else Rep (aY M Y) K H d v)
 | _,.nil,[],[],n,_,_,h,e,_=>by simp at e
 | q,.cons e es,d::ds,v::vs,0,_,_,h,e1,e2=>by
  simp at e1 e2;subst e1 e2;rw[cT]at h;refine#[h.1,?_];have h2:=h.2.1;rw[Nat.add_zero];by_cases hq:ps.contains q=true
  ·rw[if_pos hq]at h2 ⊢;obtain⟨j,z,y⟩:=h2;subst z;exact#[j,rfl,y]
  ·rw[if_neg hq]at h2 ⊢;exact h2
 | q,.cons e es,d::ds,v::vs,n+1,_,_,h,e1,e2=>by
  rw[cT]at h;have:=cT.get n h.2.2 (by simpa using e1) (by simpa using e2);rw[show q+1+n=q+(n+1) by lia]at this;exact this
 | _,.nil,_::_,_,_,_,_,h,_,_=>by simp[cT]at h
 | _,.nil,[],_::_,_,_,_,h,_,_=>by simp[cT]at h
 | _,.cons _ _,[],_,_,_,_,h,_,_=>by simp[cT]at h
 | _,.cons _ _,_::_,[],_,_,_,h,_,_=>by simp[cT]at h
def Own.off(h:Own K H d (.ref a))(hm:∀ b o,P b->H b=some o->cX o)(k:Off P H H1)(n:¬ P a):Own K H1 d (.ref a):=by
 obtain⟨q1,q2,q3⟩:=h;refine#[q1,q2,?_];have im:∀ {ds:List RL.D} {xs:List V},RL.au ds=true->af nP K H ds xs->af nP K H1 ds xs:=fun hi r=>((r.imm hi).off hm k).imm hi
 cases d with
 | lst ds=>obtain⟨b',xs,e1,e0,e2,e3⟩:=aG q3;cases e1;rw[Rep];exact#[a,xs,rfl,fun z=>z,k _ _ n e2,im q2 e3]
 | dK ks ds=>rw[Rep]at q3 ⊢;obtain⟨b',xs,e1,e0,e2,el,e3⟩:=q3;cases e1;exact#[a,xs,rfl,fun z=>z,k _ _ n e2,el,im q2 e3]
 | dT ks ds=>rw[Rep]at q3 ⊢;obtain⟨b',xs,e1,e0,e2,el,e3⟩:=q3;cases e1;exact#[a,xs,rfl,fun z=>z,k _ _ n e2,el,im q2 e3]
 | _=>cases q1
def pW:∀ {ms:List Nat} {outs:List RL.D} {QP:RL.St} {k i:Nat} {o:RL.D},ms.Nodup->ms[k]?=some i->outs[k]?=some o->i<QP.length->(eU ms outs QP)[i]?=some (some o)
 | [],_,_,_,_,_,_,e,_,_=>by simp at e
 | m::ms,[],_,_,_,_,_,_,e,_=>by simp at e
 | m::ms,d::ds,QP,0,i,o,nd,e1,e2,hl=>by
  simp at e1 e2;subst e1 e2;rw[eU,lS _ _ _ _ (by simpa using(List.nodup_cons.mp nd).1),Qj hl]
 | m::ms,d::ds,QP,k+1,i,o,nd,e1,e2,hl=>by
  rw[eU];exact pW (List.nodup_cons.mp nd).2 (by simpa using e1) (by simpa using e2) (by simpa using hl)
def RVm.changed(h:RVm K M QP Y H)(hms:∀ i∈ms,M.contains i=true)(nd:ms.Nodup)(len:ms.length=outs.length)(k:Off (fun a=>∃ i∈ms,Y[i]?=some (some (.ref a))) H H1)
 (ow:∀ (k i:Nat) o,ms[k]?=some i->outs[k]?=some o->∃ a,Y[i]?=some (some (.ref a))/\Own K H1 o (.ref a)):RVm K M (eU ms outs QP) Y H1/\Fr' M Y H Y H1:=by
 have sub:∀ a,(∃ i∈ms,Y[i]?=some (some (.ref a)))->aY M Y a:=fun a ⟨i,hi,e⟩=>#[i,hms i hi,e]
 have offA:Off (aY M Y) H H1:=fun b o n e=>k b o (fun z=>n (sub b z)) e
 have hmA:∀ b o,aY M Y b->H b=some o->cX o:=fun b o p e=>by
  obtain⟨o',e',m⟩:=h.we b p;rw[e]at e';cases e';exact m
 have at_:∀ i,i∈ms->∃ (kk:Nat) (o:RL.D),ms[kk]?=some i/\outs[kk]?=some o:=fun i hi=>by
  obtain⟨kk,hk,e⟩:=List.getElem_of_mem hi;exact#[kk,outs[kk]'⋯,by simp[hk,e],by simp]
 refine#[#[by rw[mC];exact h.len,fun i d e=>?_,fun i v e=>?_,h.sep],#[fun b o e n=>#[offA b o n e,n],fun _ _=>rfl]]
 ·by_cases hi:i∈ms
  ·obtain⟨kk,o,e1,e2⟩:=at_ i hi
   have hl:i<QP.length:=by
    k_all;rw[mC]at this;exact this
   rw[pW nd e1 e2 hl]at e;cases e;obtain⟨a,q1,q2⟩:=ow kk i _ e1 e2;exact#[.ref a,q1,by rw[if_pos (hms i hi)];exact q2]
  ·rw[lS _ _ _ _ (by simpa using hi)]at e;obtain⟨v,h1,h2⟩:=h.val i d e;refine#[v,h1,?_];by_cases hm:M.contains i=true
   ·rw[if_pos hm]at h2 ⊢;obtain⟨a,o,rfl,_,_⟩:=h2.ref;refine h2.off (fun b o p e=>hmA b o (sub b p) e) k fun⟨j,hj,ej⟩=>?_;exact hi (h.sep i j a hm (hms j hj) h1 ej▸hj)
   ·rw[if_neg hm]at h2 ⊢;exact h2.off hmA offA
 ·obtain⟨d,hd⟩:=h.non i v e;by_cases hi:i∈ms
  ·obtain⟨kk,o,e1,e2⟩:=at_ i hi;exact#[o,pW nd e1 e2 (List.getElem?_eq_some_iff.mp hd).1]
  ·exact#[d,by rw[lS _ _ _ _ (by simpa using hi)];exact hd]
end
section rules
variable{X:Cx}{st:Stmt}
abbrev cC(es:RL.Es):List Nat->List Nat->Bool
 | [],[]=>true
 | p::ps,m::ms=>(match lR es p with | some (.var j)=>j == m | _=>false)&&cC es ps ms
 | _,_=>false
def mf:∀ {ps ms:List Nat} {k p:Nat},cC es ps ms=true->ps[k]?=some p->∃ m,ms[k]?=some m/\lR es p=some (.var m)
 | [],_,_,_,_,e=>by simp at e
 | _::_,[],_,_,h,_=>by simp[cC]at h
 | p::ps,m::ms,0,q,h,e=>by
  rw[cC,Bool.and_eq_true]at h;simp at e;subst e;have h1:=h.1;split at h1
  ·rename_i j hj;rw[beq_iff_eq]at h1;subst h1;exact#[j,rfl,hj]
  ·cases h1
 | p::ps,m::ms,k+1,q,h,e=>by
  rw[cC,Bool.and_eq_true]at h;obtain⟨m',h1,h2⟩:=mf (k:=k) h.2 (by simpa using e);exact#[m',by simpa using h1,h2]
def iX:∀ {ps ms:List Nat},cC es ps ms=true->ps.length=ms.length
 | [],[],_=>rfl
 | [],_::_,h=>by simp[cC]at h
 | _::_,[],h=>by simp[cC]at h
 | p::ps,m::ms,h=>by
  rw[cC,Bool.and_eq_true]at h;rw[List.length_cons,List.length_cons,iX h.2]
def A8(rv:RVm X.K M QP Y H)(he:RL.evs cl QP es=some ds)(ok:RL.eL M ps 0 es ds=true)(hc:cl f ds=some (.tup (d::outs)))
 (hs:cC es ps ms=true)(hms:∀ i∈ms,M.contains i=true)(nd:ms.Nodup)(ndp:ps.Nodup)(hset:RL.bF ms outs QP=some QR)
 (k:∀ v H',Rep nP X.K H' d v->d.imm=true->RVm X.K M QR Y H'->Fr' M Y H Y H'->Q v H'):rj (spM X.K cl ps f) [] E0 (jZ X.K cl es) Y H Q:=by
 refine uk rv he ok fun vs H1 s1 ar=>?_;show spM X.K cl ps f (vs++[]) H1 Q E0;rw[QD];have rv1:=rv.same s1;have rps:=ar.kD;obtain⟨hlen,Q7⟩:=gA hset;subst Q7
 have adr:∀ (k p:Nat),ps[k]?=some p->∃ m a d',ms[k]?=some m/\Y[m]?=some (some (.ref a))/\vs[p]?=some (.ref a)/\ds[p]?=some d'/\Own X.K H1 d' (.ref a)/\lR es p=some (.var m):=by
  intro k p hk;obtain⟨m,h1,h2⟩:=mf hs hk
  have evg:∀ (es:RL.Es) (ds:List RL.D) (n:Nat) (e:RL.E),RL.evs cl QP es=some ds->lR es n=some e->∃ d',ds[n]?=some d'/\RL.ev cl QP e=some d':=by
   intro es
   induction es using RL.Es.rec (motive_1:=fun _=>True) (motive_3:=fun _=>True)with
   | nil=>intro ds n e _ z;cases z
   |cons e0 es0 _ ih=>
    intro ds n e h z;obtain⟨d0,y1,h⟩:=bind_some h;obtain⟨ds0,y2,y3⟩:=map_some h;subst y3
    cases n with
    | zero=>cases z;exact#[d0,rfl,y1]
    | succ n=>exact ih ds0 n e y2 z
   | _=>trivial
  obtain⟨d',g1,g2⟩:=evg es ds p _ he h2;obtain⟨v,g3,g4⟩:=rps.get g1
  have hpc:ps.contains (0+p)=true:=by
   rw[Nat.zero_add];simpa using Qz hk
  have g5:=(ar.get p g1 g3).2;rw[if_pos hpc]at g5;obtain⟨j,z1,z2⟩:=g5;rw[h2]at z1;cases z1;have hm:M.contains m=true:=hms m (Qz h1);obtain⟨v',z3,z4⟩:=rv1.val m d' (za g2);rw[z2]at z3;cases z3;rw[if_pos hm]at z4;obtain⟨a,o,rfl,_,_⟩:=z4.ref;exact#[m,a,d',h1,z2,g3,g1,z4,h2]
 have adr':∀ a,mAt ps vs a->∃ i∈ms,Y[i]?=some (some (.ref a)):=fun a ⟨p,hp,e⟩=>by
  obtain⟨k,hk,z⟩:=List.getElem_of_mem hp;obtain⟨m,a',d',h1,h2,h3,_⟩:=adr k p (by simp[hk,z]);rw[e]at h3;cases h3;exact#[m,Qz h1,h2]
 refine#[ds,d,outs,hc,#[rps,fun p hp=>?_,fun p hp q hq a e1 e2=>?_,fun q dq v hq e1 e2=>?_],fun v H' off rp im mo=>?_]
 ·obtain⟨k,hk,z⟩:=List.getElem_of_mem hp;obtain⟨m,a',d',h1,h2,h3,h4,h5,_⟩:=adr k p (by simp[hk,z]);exact#[d',a',h4,h3,h5]
 ·obtain⟨k,hk,z⟩:=List.getElem_of_mem hp;obtain⟨l,hl,y⟩:=List.getElem_of_mem hq
  have gk:ps[k]?=some p:=by simp[hk,z]
  have gl:ps[l]?=some q:=by simp[hl,y]
  obtain⟨m,a1,d1,h1,h2,h3,_⟩:=adr k p gk;obtain⟨m',a2,d2,h1',h2',h3',_⟩:=adr l q gl;rw[e1]at h3;cases h3;rw[e2]at h3';cases h3';have hmm:=rv1.sep m m' a (hms m (Qz h1)) (hms m' (Qz h1')) h2 h2';subst hmm;have hkl:k=l:=(List.getElem?_inj (by rw[<-iX hs];exact hk) nd).mp (by rw[h1,h1']);subst hkl;rw[gk]at gl;exact Option.some.inj gl
 ·have hpc:ps.contains (0+q)=false:=by
   rw[Nat.zero_add];simpa using hq
  have g5:=(ar.get q e1 e2).2;rw[if_neg (by rw[hpc];decide)]at g5
  exact g5.weak fun a ha=>by
   obtain⟨i,hi,e⟩:=adr' a ha;exact#[i,hms i hi,e]
 ·obtain⟨g1,g2⟩:=rv1.changed (outs:=outs) (H1:=H') hms nd hlen (fun b o n e=>off b o (fun z=>n (adr' b z)) e) fun k i o hk ho=>by
   have hkl:k<ps.length:=by
    rw[iX hs];exact(List.getElem?_eq_some_iff.mp hk).1
   obtain⟨m,a1,d1,h1,h2,h3,_⟩:=adr k ps[k] (by simp[hkl]);rw[hk]at h1;cases h1;obtain⟨a,q1,q2⟩:=mo.own k ps[k] o (by simp[hkl]) ho;rw[q1]at h3;cases h3;exact#[_,h2,q2]
  exact k v H' rp im g1 ((Fr'.same s1).trans g2)
def DQ(h:PS X st (qT (rj (spM X.K cl ps f) [] E0 (jZ X.K cl es))))(hs:cC es ps ms=true)(hms:∀ i∈ms,M.contains i=true)(nd:ms.Nodup)(ndp:ps.Nodup):SS X cl M st (.mexc f es ps ms):=by
 refine PS.weak h fun D Y H h=>?_;f_tup;obtain⟨ds,e1,e⟩:=bind_some e;split at e
 ·rename_i ok;obtain⟨r,e2,e⟩:=bind_some e;split at e
  ·rename_i d outs;obtain⟨QR,e3,e4⟩:=map_some e;cases e4;exact A8 rv e1 ok e2 hs hms nd ndp e3 fun v H' _ _ rv' fr'=>k _ _ rv' fr'
  ·cases e
 ·cases e
end rules
end RS
namespace L2
open PySem PySem.Spec PyProof.Rows
abbrev eS(A:Around)(h:Heap):Prop:=A.handled=none\/∃ x o vs,A.handled=some (.ref x)/\h.get? x=some o/\o.data=.fields vs/\vs[2]?=some .none
def eS.keeps(x:eS A h)(k:∀ b o vs,h.get? b=some o->o.data=.fields vs->A.handled=some (.ref b)->h'.get? b=some o):eS A h':=by
 rcases x with z | ⟨y,o,vs,h1,h2,h3,h4⟩
 ·exact .inl z
 ·exact .inr #[y,o,vs,h1,k _ _ _ h2 h3 h1,h3,h4]
section
def qP:entryFor table "proto.unchain" = some Builtin.«proto.unchain»:=entryFor_of_tree (by kernel_rfl)
def Bn(hd:eS A s.heap)(he:s.heap.get? e=some oe)(hf:oe.data=.fields vs)(hz:2<vs.size)(ne:A.handled≠some (.ref e))
 (k:∀ h',Heap.SameBut e s.heap h'->(∃ o,h'.get? e=some o/\o.cls=oe.cls)->E (.ref e) { s with heap:=h' }):wpAny (model prog w) A (raiseNew (.ref e):Sem α) Q E s:=by
 unfold raiseNew;refine Qb (wpAny_handled ?_)
 rcases hd with z | ⟨x,o,ws,h1,h2,h3,h4⟩
 ·rw[z];exact Qb (Qd (wpAny_throw (k s.heap (.refl ..) ⟨oe,he,rfl⟩)))
 ·rw[h1]
  have nx:(Value.ref x != Value.ref e)=true:=by
   rw[bne_iff_ne];intro q;exact ne (by rw[h1,q])
  dsimp only;rw[if_pos nx];refine Qb (wpAny_holding (wpAny_runValue (codeAny_builtin qP ?_)));unfold Builtin.«proto.unchain»;refine Qb (wpAny_field h2 h3 h4 ?_);rw[if_pos ∅];refine Qb (Qd (Qd ?_));show wpAny _ _ _ _ _ _;refine Qb ?_;show wpAny _ _ (setField (.ref e) 2 (.ref x)) _ _ _;refine wpAny_setField he hf hz (wpAny_throw (k _ (.update ..) ⟨_,Qt _ he (Obj.isFreed_of_fields (Obj.data_mapFields hf _)),Obj.cls_mapFields ..⟩))
def oV(hd:eS A s.heap)(k:∀ h' e,(∀ b o,s.heap.get? b=some o->h'.get? b=some o)->(∃ o,h'.get? e=some o/\o.cls=.type "StopIteration")->E (.ref e) { s with heap:=h' }) :
  wpAny (model prog w) A (newExc (.type "StopIteration") []) (fun e s'=>wpAny (model prog w) A (raiseNew e:Sem α) Q E s') E s:=by
 simp only[newExc,newTuple];f_are;refine wpAny_newObj_type ?_ (by size_fits);apply Qb (m:=firstArgMember _ _);refine wpAny_of_eq (a:=Value.none) (by first | rfl | (simp only[firstArgMember];rfl)) ?_;refine wpAny_newObj_type ?_ (by size_fits);have hs:∀ b o,s.heap.get? b=some o->b≠(s.heap.push { cls:=.type "tuple",data:=.seq ([]:List Value).toArray }).objs.size:=fun b o e=>Qn (by rw[QA];exact Nat.lt_succ_of_lt (Qg e));refine Bn (hd.keeps fun b o vs e _ _=>Qa _ (Qa _ e)) (Qe _ rfl) rfl (Qh (by decide:2<6) (by simp)) (fun q=>?_) fun h' sb ho=>k h' _ (fun b o e=>(sb.2 b (hs b o e)).trans (Qa _ (Qa _ e))) ho
 rcases hd with z | ⟨x,o,ws,h1,h2,_,_⟩
 ·rw[z]at q;cases q
 ·rw[h1]at q;cases q;exact hs _ _ h2 rfl
def kq{it l:Addr}{i:Nat}(hd:eS A s.heap)(ni:A.handled≠some (.ref it))(ho:s.heap.get? it=some o)(hdt:o.data=.fields (List.toArray [.ref l,.int i 0]))(hol:s.heap.get? l=some ol)(hdl:ol.data=.seq its nl)(hx:its[i]?=none)
 (k:∀ h' e,Heap.ExtBut it s.heap h'->(∃ o,h'.get? e=some o/\o.cls=.type "StopIteration")->E (.ref e) { s with heap:=h' }):wpAny (model prog w) A (Builtin.«list_iterator.__next__» ⟨[.ref it],[]⟩) Q E s:=by
 have n0:¬ ((Value.ref l == Value.none)=true):=Qi;refine show wpAny _ _ (field (.ref it) 0 >>= _) _ _ s from Qb (wpAny_field ho hdt (x:=.ref l) rfl ?_);refine show wpAny _ _ (if(Value.ref l == Value.none)=true then _ else _) _ _ s from ?_;rw[if_neg n0];refine show wpAny _ _ (field (.ref it) 1 >>= _) _ _ s from Qb (wpAny_field ho hdt (x:=.int i 0) rfl ?_);refine show wpAny _ _ (seqItems? (.ref l) >>= _) _ _ s from Qb (wpAny_seqItems hol hdl ?_);simp only[Int.toNat_natCast,hx];refine Qb (wpAny_rule (Qb (wpAny_setField ho hdt (by simp) ?_)));refine show wpAny _ _ (newExc (.type "StopIteration") [] >>= _) _ _ _ from Qb ?_;have sb:=Heap.SameBut.update s.heap it (Obj.mapFields (·.setIfInBounds 0 Value.none));refine oV (hd.keeps fun b u vs e _ hb=>(sb.2 b fun z=>ni (z▸hb)).trans e) fun h' e kk he=>k h' e (fun b u hb q=>kk b u ((sb.2 b hb).trans q)) he
def qK{it l:Addr}{i:Nat}(hd:eS A s.heap)(ni:A.handled≠some (.ref it))(hit:s.heap.IsListIter it l i)(hl:s.heap.IsList l its)(hx:its[i]?=none)
 (k:∀ h' e,Heap.ExtBut it s.heap h'->(∃ o,h'.get? e=some o/\o.cls=.type "StopIteration")->E (.ref e) { s with heap:=h' }):wpAny (model prog w) A (Builtin.SmallTypes.nextOf (.ref it)) Q E s:=by
 obtain⟨o,ho,hc,hdt⟩:=id hit;obtain⟨ol,hol,_,nl,hdl⟩:=hl;unfold Builtin.SmallTypes.nextOf;f_are;apply wpAny_callSpecial?_slot (name:=Str.ofString "__next__") hit.typeIs slot_listiter_next;refine wpAny_call_entry slot_listiter_next hit.typeIs entry_listiter_next ?_ (args_listiter_next _);exact kq hd ni ho hdt hol hdl hx k
def uO{it l:Addr}{i:Nat}(hd:eS A s.heap)(ni:A.handled≠some (.ref it))(hit:s.heap.IsListIter it l i)(hl:s.heap.IsList l its)(hx:its[i]?=none)
 (k:∀ h',Heap.ExtBut it s.heap h'->Q none { s with heap:=h' }):wpAny (model prog w) A (pyNext (.ref it)) Q E s:=by
 obtain⟨o,ho,hc,hdt⟩:=id hit;obtain⟨ol,hol,_,nl,hdl⟩:=hl;unfold pyNext;f_are;apply wpAny_attempt;apply wpAny_callSpecial?_slot (name:=Str.ofString "__next__") hit.typeIs slot_listiter_next;refine wpAny_call_entry slot_listiter_next hit.typeIs entry_listiter_next ?_ (args_listiter_next _);refine kq hd ni ho hdt hol hdl hx fun h' e eb he=>?_;f_are;refine wpAny_isInstance (T := "StopIteration") (b:=true) he isSubtype_stop ?_;exact Qd (k h' eb)
end
section
def sR(hi:z.heap.IsTupleIter ti tp i)(ht:z.heap.IsTuple tp its)(hx:its[i]?=some x)
 (k:∀ g,g.IsTupleIter ti tp (i+1)->Heap.SameBut ti z.heap g->Q x { z with heap:=g }):wpAny (model prog w) A (Builtin.SmallTypes.nextOf (.ref ti)) Q E z:=by
 have hty:=hi.typeIs;obtain⟨⟨c1,d1,f1,s1⟩,g1,c1',f1'⟩:=hi;obtain⟨⟨c2,d2,f2,s2⟩,g2,c2',n2,f2'⟩:=ht;dsimp only at c1' f1' c2' f2';subst c1' f1' c2' f2';obtain⟨hp,g,d,tk,os⟩:=z;unfold Builtin.SmallTypes.nextOf;refine Qb (wpAny_callSpecial?_slot (name:=Str.ofString "__next__") hty F.slot_tuple_iterator_next (wpAny_call_entry F.slot_tuple_iterator_next hty F.entry_tuple_iterator_next ?_ (F.args_tuple_iterator_next_1 _)));unfold Builtin.«tuple_iterator.__next__»
 wp_walk using AutoSeq1.wpAny_loadPart' g1,AutoSeq1.wpAny_loadPart' g2
 have e:its[((i:Nat):Int).toNat]?=some x:=hx;rw[e];dsimp only;f_are;apply wpAny_setField g1 rfl (by simp);apply Qd;refine#[x,rfl,?_];apply Qd;apply k
 ·exact#[_,Qt _ g1 rfl,rfl,by simp[Obj.mapFields,rawInt]]
 ·exact Heap.SameBut.update ..
def vS(hd:eS A z.heap)(ni:A.handled≠some (.ref ti))(hi:z.heap.IsTupleIter ti tp i)(ht:z.heap.IsTuple tp its)(hx:its[i]?=none)
 (k:∀ g e,Heap.ExtBut ti z.heap g->(∃ o,g.get? e=some o/\o.cls=.type "StopIteration")->E (.ref e) { z with heap:=g }):wpAny (model prog w) A (Builtin.SmallTypes.nextOf (.ref ti)) Q E z:=by
 have hty:=hi.typeIs;obtain⟨⟨c1,d1,f1,s1⟩,g1,c1',f1'⟩:=hi;obtain⟨⟨c2,d2,f2,s2⟩,g2,c2',n2,f2'⟩:=ht;dsimp only at c1' f1' c2' f2';subst c1' f1' c2' f2';obtain⟨hp,g,d,tk,os⟩:=z;unfold Builtin.SmallTypes.nextOf;refine Qb (wpAny_callSpecial?_slot (name:=Str.ofString "__next__") hty F.slot_tuple_iterator_next (wpAny_call_entry F.slot_tuple_iterator_next hty F.entry_tuple_iterator_next ?_ (F.args_tuple_iterator_next_1 _)));unfold Builtin.«tuple_iterator.__next__»
 wp_walk using AutoSeq1.wpAny_loadPart' g1,AutoSeq1.wpAny_loadPart' g2
 have e:its[((i:Nat):Int).toNat]?=none:=hx;rw[e];dsimp only;f_are;apply wpAny_rule;f_are;apply wpAny_setField g1 rfl (by simp);unfold Builtin.SmallTypes.stopIteration;f_are;refine oV (hd.keeps fun b u vs e _ hb=>(Heap.SameBut.update ..).extBut b u (fun z=>ni (z▸hb)) e) fun g e kp hc=>k g e (fun b o hb q=>kp b o ?_) hc;exact(Heap.SameBut.update ..).extBut b o hb q
def rh(h:wpAny (model prog w) A m S (fun _ _=>False) z)(k:∀ a z1,S a z1->Q a z1):wpAny (model prog w) A m Q E z:=wpAny_mono h k fun _ _ f=>f.elim
def yF(h:∀ b,Q b z):wpAny (model prog w) A (pure b) Q E z:=Qd (h b)
def AG{x:Value}{S:Addr->Shared->Prop}(hx:∀ A:Around,wpAny (model prog w) A (pyIter x) (fun v z1=>∃ it,v=.ref it/\S it z1) (fun _ _=>False) z)
 (k:∀ it z1,S it z1->Q (.ref z1.heap.objs.size) { z1 with heap:=z1.heap.push { cls:=.type "enumerate",data:=.fields (List.toArray [.none,.bool false,.ref it,rawInt 0,.none,.none]) } }):wpAny (model prog w) A (call (.type "enumerate") [x]) Q E z:=by
 have body:MeetsIn prog w (Builtin.«enumerate.__new__» ⟨[.type "enumerate",x],[]⟩) (fun A R s=>s=z/\∀ it z1,S it z1->R (.ok (.ret (.ref z1.heap.objs.size))) { z1 with heap:=z1.heap.push { cls:=.type "enumerate",data:=.fields (List.toArray [.none,.bool false,.ref it,rawInt 0,.none,.none]) } }):=by
  rintro A R s ⟨rfl,hR⟩;have hsub:=sub_enumerate;have iter:=hx A.in1;obtain⟨hp,g,d,tk,os⟩:=s
  wp_walk
  refine wpAny_stack_any fun st=>yF fun b=>?_
  have done:∀ it z1,S it z1->wpAny (model prog w) A.in1 (do let r <- Builtin.SmallTypes.newRecord (.type "enumerate") (Builtin.SmallTypes.ownedTupleFields++[.ref it,rawInt 0,.none,.none]);ret r)
    (fun fin s'=>match fin with | .done f=>R (.ok f) s' | .again c'=>c'.quiet=true/\codeAny (model prog w) A c' R s') (fun e s'=>R (.error e) s') z1:=by
   intro it z1 h1;have:=hR it z1 h1;obtain⟨hp1,gg1,dd1,tk1,os1⟩:=z1
   wp_walk
   exact this
  cases b
  ·wp_walk using rh iter
   rintro _ z1 ⟨it,rfl,h1⟩;exact done it z1 h1
  ·wp_walk using rh iter
   rintro _ z1 ⟨it,rfl,h1⟩;exact done it z1 h1
 refine callType_newIn F.called_enumerate ∅ (F.typeCall_enumerate_1 _) (F.newCall_enumerate_1 _) (fun obj=>F.args_object_init_2 obj _) F.entry_enumerate_new body ⟨rfl,fun it z1 h=>?_⟩;exact#[#[_,Qe _ rfl,rfl],k it z1 h]
def u5:l0 prog w where
 draws:=fun hh ti tp hne its=>{
  live:=fun i h st=>let ⟨o,e,_⟩:=st.1;⟨o,e⟩
  frame:=fun i h h' st kp=>by
   obtain⟨⟨o1,e1,r1⟩,⟨o2,e2,r2⟩⟩:=st;exact#[#[o1,kp ti (by simp) _ e1,r1],#[o2,kp tp (by simp) _ e2,r2]]
  item:=fun i s Q E hi st k=>by
   refine sR st.1 st.2 (x:=its[i]) (by simp[hi]) fun g h1 h2=>k its[i] g s.toks (by simp[hi]) ⟨h1,st.2.extBut h2.extBut hne⟩ h2
  done:=fun s Q E st k=>vS (.inl hh) (by rw[hh];exact fun z=>nomatch z) st.1 st.2 (by simp) fun g e h1 h2=>k g e h1 h2 }
 call:=fun {A E z tp its Q} ht k=>by
  refine AG (S:=fun it z1=>it=z.heap.objs.size/\z1={ z with heap:=z.heap.push { cls:=.type "tuple_iterator",data:=.fields (List.toArray [.ref tp,rawInt 0]) } }) (fun A=>wpAny_pyIter_tuple ht ⟨_,rfl,rfl,rfl⟩) ?_;rintro it z1 ⟨rfl,rfl⟩;have hz:(z.heap.push { cls:=.type "tuple_iterator",data:=.fields (List.toArray [.ref tp,rawInt 0]) }).objs.size=z.heap.objs.size+1:=QA ..;dsimp only;rw[hz];refine k _ ?_ ⟨_,Qa _ (Qe _ rfl),rfl,rfl⟩ fun b o e=>Qa _ (Qa _ e);have:=Qe (z.heap.push { cls:=.type "tuple_iterator",data:=.fields (List.toArray [.ref tp,rawInt 0]) }) (o:={ cls:=.type "enumerate",data:=.fields (List.toArray [.none,.bool false,.ref z.heap.objs.size,rawInt 0,.none,.none]) }) rfl;rw[hz]at this;exact this
end
end L2
namespace RS
open PySem PySem.Spec PyProof.Rows L2
section
variable{X:Cx}
def uR:∀ {bs:List Bool} {us:List Value},Vals (bs.map V.bl) us->us=bs.map Value.bool
 | [],_,h=>by cases h;rfl
 | b::bs,_,h=>by
  cases h with
  |cons r t=>
   cases r;rw[uR t];rfl
def Ab{A:Around}{bs:List Bool}:TruthOf X.prog X.w A (fun i v=>(bs.map Value.bool).toArray[i]?=some v) (fun i=>bs.getD i false):=by
 intro i v s Q E hP q
 have hP':(bs.map Value.bool)[i]?=some v:=by simpa using hP
 rw[List.getElem?_map]at hP';obtain⟨b,h1,h2⟩:=map_some hP';subst h2
 have:bs.getD i false=b:=by rw[List.getD_eq_getElem?_getD,h1];rfl
 have q':Q b s:=this▸q;exact wpAny_truthy_bool q'
def range_all(bs:List Bool):(List.range bs.length).all (fun i=>bs.getD i false)=bs.all id:=by
 have:bs=(List.range bs.length).map fun i=>bs.getD i false:=by
  apply List.ext_getElem
  ·simp
  ·intro i h1 h2;simp[List.getD_eq_getElem?_getD,h1]
 conv=>rhs;rw[this]
 rw[List.all_map];rfl
abbrev Gb(f:List Bool->Bool):List V->Hp->VK->Prop:=fun xs H Q=>∃ p bs,xs=[.ref p]/\H p=some (.lst (bs.map V.bl))/\Q (.bl (f bs)) H
def B9(hc:X.calm=true):bK X (.builtin "all") (Gb fun bs=>bs.all id):=by
 by_in;obtain⟨p,bs,rfl,hp,q⟩:=h
 cases r with
 |cons r rr=>
  cases rr;cases r;obtain⟨its,rv,hl,hz⟩:=I.list (SqL.of hp);have hits:=uR rv;subst hits
  have hlt:p<s.heap.objs.size:=by obtain⟨o,ho,_⟩:=hl.isList;exact Qg ho
  refine call_all_walk (wpAny_pyIter_list hl.isList ?_);refine#[s.heap.objs.size,_,[s.heap.objs.size],_,_,_,_,rfl,Walks.list (A:=X.A.in1) (I.ok.hd.1 hc) s.heap.objs.size p (Qn hlt) (bs.map Value.bool).toArray,#[#[_,Qe _ rfl,rfl,rfl],hl.isList.push _],Ab,fun h' tk hk=>?_];refine#[.bl (bs.all id),H,I.kept (t':=tk) (fun b o e=>hk b o (fun z=>?_) (Qa _ e)),?_,q]
  ·rw[List.mem_singleton.mp z]at e;exact absurd (Qg e) (QC _)
  ·have:=range_all bs;show Value.bool _=Value.bool _;rw[<-this];simp
def ub{P:Addr->Prop}{K:W.Frag}:∀ {ds:List RL.D} {bs:List Bool} {xs:List V},RL.dF ds=some bs->af P K H ds xs->xs=bs.map V.bl
 | [],bs,xs,h,r=>by rw[RL.dF]at h;cases h;rw[af]at r;exact r
 | d::ds,bs,xs,h,r=>by
  cases d<;>simp only[RL.dF]at h<;>first | (cases h;done) | skip
  rename_i b;obtain⟨bs',h1,h2⟩:=map_some h;subst h2;rw[af]at r;obtain⟨x,t,rfl,r1,r2⟩:=r;rw[bb r1,ub h1 r2];rfl
def GW(hc:X.calm=true)(hg:Gl X "all")(hm:X.mg "all" = none)(ha:SE X cl a a')(hn:noStar a=true):SE X cl (.Call (.Name "all" p) [a] [] pos) (.bi .all a'):=by
 refine qq (B9 hc) hg hm (by decide +kernel) ha hn ∅ ∅ fun QP Y H H1 y d v Q e s1 r1 k=>?_
 cases y<;>first | (cases e;done) | skip
 case lst ds =>
  obtain⟨bs,e1,e2⟩:=map_some e;subst e2;obtain⟨q,xs,rfl,_,f2,f3⟩:=aG r1;rw[ub e1 f3]at f2;exact#[q,bs,rfl,f2,k _ _ (dh s1 rK rfl)]
def CQ(hg:Gl X "enumerate")(hm:X.mg "enumerate" = none)(ha:SE X cl a a')(hn:noStar a=true):SI X cl (.Tuple elts kx tp) (.Call (.Name "enumerate" p) [a] [] pos) (.enm a'):=HC u5 hg hm ha hn
def vI{P:Addr->Prop}{K:W.Frag}:∀ {ds:List RL.D} {is:List Int} {xs:List V},RL.fq ds=some is->af P K H ds xs->xs=is.map V.int
 | [],is,xs,h,r=>by rw[RL.fq]at h;cases h;rw[af]at r;exact r
 | d::ds,is,xs,h,r=>by
  cases d<;>simp only[RL.fq]at h<;>first | (cases h;done) | skip
  rename_i b;obtain⟨bs',h1,h2⟩:=map_some h;subst h2;rw[af]at r;obtain⟨x,t,rfl,r1,r2⟩:=r;rw[ah r1,vI h1 r2];rfl
abbrev p6(ns:List Int):List Int:=firstMet (fun i=>ns.getD i 0) ns.length
def DG(ns:List Int):p6 ns=RL.il ns:=by
 unfold p6 firstMet RL.il
 have:(List.range ns.length).map (fun i=>ns.getD i 0)=ns:=by
  apply List.ext_getElem
  ·simp
  ·intro i h1 h2;simp[List.getD_eq_getElem?_getD,h2]
 rw[this];rfl
def xE(hc:X.calm=true):bK X (.type "set") (fun xs H Q=>∃ p ns,xs=[.ref p]/\H p=some (.lst (ns.map V.int))/\ns.length<=1000/\∀ l,H l=none->Q (.ref l) (upd H l (.set (fun k=>(p6 ns).any (· == k)) (p6 ns).length))):=by
 by_in;obtain⟨p,ns,rfl,hp,hn,q⟩:=h
 cases r with
 |cons r rr=>
  cases rr;cases r;obtain⟨its,rv,hl,hz⟩:=I.list (SqL.of hp)
  have hlen:its.length=ns.length:=by
   have:=rv.length;simp at this;exact this.symm
  have hf:H s.heap.objs.size=none:=I.hok.fresh (Qc _);refine call_set_list (I.ok.hd.1 hc) hl.isList (ns:=ns) (by simpa using intsAre_of rv) (by rw[List.size_toArray,hlen];show ns.length+1<4096;lia) fun h' tk hS hk=>?_
  have hsz:its.toArray.size=ns.length:=by rw[List.size_toArray];exact hlen
  rw[hsz]at hS;exact#[.ref s.heap.objs.size,_,I.laid (o:=.set (fun k=>(p6 ns).any (· == k)) (p6 ns).length) (t':=tk) (fun b u e=>hk b u (Qg e) e) (Qc _) hS,rfl,q _ hf]
def zN:bK X (.builtin "len") (fun xs H Q=>∃ p S n,xs=[.ref p]/\H p=some (.set S n)/\Q (.int (n:Nat)) H):=by
 by_in;obtain⟨p,S,n,rfl,hp,q⟩:=h
 cases r with
 |cons r rr=>
  cases rr;cases r;obtain⟨o,es,ep,t,h1,h2,h3,h4,h5,h6,h7,h8⟩:=I.hok p _ hp;refine call_len_set h1 h2 h3 h7 (by have:scanBound=4096:=rfl;lia) ?_;rw[h8];exact#[.int n,H,I.tok _,#[_,rfl],q]
def ye(hc:X.calm=true)(hgl:Gl X "len")(hml:X.mg "len" = none)(hg:Gl X "set")(hm:X.mg "set" = none)(ha:SE X cl a a')(hn:noStar a=true):SE X cl (.Call (.Name "len" p2) [.Call (.Name "set" p) [a] [] pos] [] pos2) (.bi .lenSet a'):=by
 refine PE.weak (fY zN hgl hml PySem.boot_len (bu (cN (xE hc) hg hm (by decide +kernel) (bM (cl:=cl) ha cY hn) ∅ ∅ (ay [] hn) rfl) cL rfl) ∅ ∅ rfl rfl) fun Y H Q h=>?_;kd_p;obtain⟨y,ea,e⟩:=bind_some e;refine one rv ea fun v H1 s1 r1=>?_
 cases y<;>first | (cases e;done) | skip
 case lst ds =>
  rw[RL.Cy]at e;split at e
  ·rename_i hl;obtain⟨is,e1,e2⟩:=map_some e;subst e2;obtain⟨q,xs,rfl,_,f2,f3⟩:=aG r1;have hx:=vI e1 f3;rw[hx]at f2
   have hil:is.length<=1000:=by
    have:=f3.length;rw[hx]at this;simp at this;lia
   refine#[q,is,rfl,f2,hil,fun l hl2=>#[l,_,_,rfl,aT,?_]];rw[DG];exact k _ _ (dh (s1.trans (aw.bV hl2)) bh rfl)
  ·cases e
def E5(hl:PE X l (Bm X.K "list" B2 (j8 i)))(he:SE X cl e e')(ha:SSs X cl M A A')(hb:SSs X cl M B B')(hi:M.contains i=true):SS X cl M (.If (.Compare l [.NotEq] [e] pos) A B pos2) (.ifp i e' A' B'):=by
 refine PS.weak (wX (l6 Ii hl he (rH _ ∅ ∅)) ha hb) fun D Y H h=>?_;obtain⟨QP,o,QT,rv,ev,k⟩:=h;obtain⟨l,e3,ev⟩:=bind_some ev
 cases l with
 |lst ds=>
  obtain⟨d,e4,ev⟩:=bind_some ev;obtain⟨y,e5,ev⟩:=bind_some ev;obtain⟨v,h1,h2⟩:=rv.val i _ (slot_get e3);rw[if_pos hi]at h2;obtain⟨q1,q2,q3⟩:=h2;obtain⟨a,xs,rfl,_,f2,f3⟩:=aG q3;obtain⟨u,f4,f5⟩:=f3.get e4;have im:=pb q2;obtain⟨g1,g2⟩:=rv.jz (d':=.lst ds.dropLast) (o':=.lst xs.dropLast) hi h1 f2 (.inl #[_,rfl]) (pB (ds:=ds) f2 im f3.dropLast)
  cases d with
  |int m=>
   cases y with
   |int n=>
    refine#[.ref a,h1,.inl #[rfl,xs,SqL.of f2],a,xs,u,rfl,rfl,f2,by rw[<-f3.length];exact f4,?_];refine#[_,_,g1.rv0,e5,fun w H1 r1=>?_];rw[ah f5,ah r1.rep];have k1:=k.from (g2.trans (Fr'.same (Y:=Y) r1.same));refine#[rfl,_,rfl,?_];dsimp only at ev;by_cases hmn:m=n
    ·rw[if_pos (by simpa using hmn)]at ev
     have hd:(!decide (V.int m=V.int n))=false:=by rw[hmn];simp
     rw[hd];exact fX ⟨_,o,QT,g1.same r1.same,ev,k1⟩
    ·rw[if_neg (by simpa using hmn)]at ev
     have hd:(!decide (V.int m=V.int n))=true:=by
      have:V.int m≠V.int n:=fun z=>hmn (by injection z);simp[this]
     rw[hd];exact fI ⟨_,o,QT,g1.same r1.same,ev,k1⟩
   | _=>cases ev
  | _=>cases ev
 | _=>cases ev
end
end RS
namespace L2
open PySem PySem.Spec PyProof.Rows
section
variable{prog:Program}{w:World}{A:Around}{E:Value->Shared->Prop}
def DB{x y:Value}{S1:Addr->Shared->Prop}{S2:Addr->Addr->Shared->Prop}{z:Shared}{Q:Value->Shared->Prop}(hx:∀ A:Around,wpAny (model prog w) A (pyIter x) (fun v z1=>∃ it,v=.ref it/\S1 it z1) (fun _ _=>False) z)
 (hy:∀ it z1,S1 it z1->∀ A:Around,wpAny (model prog w) A (pyIter y) (fun v z2=>∃ jt,v=.ref jt/\S2 it jt z2) (fun _ _=>False) z1)
 (k:∀ it jt z2,S2 it jt z2->Q (.ref (((z2.heap.push { cls:=.type "tuple",data:=.seq (List.toArray [.ref it,.ref jt]) }).push { cls:=.type "tuple",data:=.seq (List.toArray [.none,.none]) })).objs.size)
   { z2 with heap:=((z2.heap.push { cls:=.type "tuple",data:=.seq (List.toArray [.ref it,.ref jt]) }).push { cls:=.type "tuple",data:=.seq (List.toArray [.none,.none]) }).push { cls:=.type "zip",data:=.fields (List.toArray [.none,.bool false,.bool false,.ref z2.heap.objs.size,.ref (z2.heap.push { cls:=.type "tuple",data:=.seq (List.toArray [.ref it,.ref jt]) }).objs.size]) } }) :
  wpAny (model prog w) A (call (.type "zip") [x,y]) Q E z:=by
 have body:MeetsIn prog w (Builtin.«zip.__new__» ⟨[.type "zip",x,y],[]⟩) (fun A R s=>s=z/\∀ it jt z2,S2 it jt z2->R (.ok (.ret (.ref (((z2.heap.push { cls:=.type "tuple",data:=.seq (List.toArray [.ref it,.ref jt]) }).push { cls:=.type "tuple",data:=.seq (List.toArray [.none,.none]) })).objs.size)))
   { z2 with heap:=((z2.heap.push { cls:=.type "tuple",data:=.seq (List.toArray [.ref it,.ref jt]) }).push { cls:=.type "tuple",data:=.seq (List.toArray [.none,.none]) }).push { cls:=.type "zip",data:=.fields (List.toArray [.none,.bool false,.bool false,.ref z2.heap.objs.size,.ref (z2.heap.push { cls:=.type "tuple",data:=.seq (List.toArray [.ref it,.ref jt]) }).objs.size]) } }):=by
  rintro A R s ⟨rfl,hR⟩;have hsub:=sub_zip;have iter:=hx A.in1;obtain⟨hp,g,d,tk,os⟩:=s
  wp_walk using rh iter
  rintro _ z1 ⟨it,rfl,h1⟩;have iter2:=hy it z1 h1 A.in1;obtain⟨hp1,gg1,dd1,tk1,os1⟩:=z1
  wp_walk using rh iter2
  rintro _ z2 ⟨jt,rfl,h2⟩;have fin:=hR it jt z2 h2;obtain⟨hp2,gg2,dd2,tk2,os2⟩:=z2
  wp_walk
  exact fin
 refine callType_newIn F.called_zip ∅ (F.typeCall_zip_2 _ _) (F.newCall_zip_2 _ _) (fun obj=>F.args_object_init_3 obj _ _) F.entry_zip_new body ⟨rfl,fun it jt z2 h=>?_⟩;exact#[#[_,Qe _ rfl,rfl],k it jt z2 h]
structure jm(z TI TO i1 i2:Addr)(fp1 fp2:List Addr):Prop where
 zTI:TI≠z
 zTO:TO≠z
 TT:TI≠TO
 i1z:i1≠z
 i2z:i2≠z
 Kc:i1≠TO
 Kd:i2≠TO
 i12:i1≠i2
 z1:z∉fp1
 z2:z∉fp2
 TO1:TO∉fp1
 TO2:TO∉fp2
 i1f:i1∉fp2
 i2f:i2∉fp1
def AZ{z TI TO i1 i2:Addr}{fp1 fp2:List Addr}{n1 n2 k:Nat}{P1 P2:Nat->Value->Prop}{S1 S2:Nat->Heap->Prop}{a b:Value}{s:Shared}{Q:Value->Shared->Prop}(Z:jm z TI TO i1 i2 fp1 fp2)
 (D1:Draws prog w A i1 fp1 n1 P1 S1)(D2:Draws prog w A i2 fp2 n2 P2 S2)(hz:IsZip s.heap z TI TO .none)(hTI:IsPair s.heap TI (.ref i1) (.ref i2))(hTO:IsPair s.heap TO a b)(s1:S1 k s.heap)(s2:S2 k s.heap)(k1:k<n1)(k2:k<n2)
 (hQ:∀ x y g tk,P1 k x->P2 k y->IsZip g z TI TO (rawInt s.heap.objs.size)->IsPair g TO x y->S1 (k+1) g->S2 (k+1) g->IsPair g s.heap.objs.size x y->g.objs.size=s.heap.objs.size+1->(∀ c o,c≠z->c≠TO->c≠i1->c≠i2->s.heap.get? c=some o->g.get? c=some o)->Q (.ref s.heap.objs.size) { s with heap:=g,toks:=tk }) :
  wpAny (model prog w) A (Builtin.«zip.__next__» ⟨[.ref z],[]⟩) (fun fin s'=>∃ v,fin=.done (.ret v)/\Q v s') E s:=by
 obtain⟨hp,g,d,tk,os⟩:=s;have off:∀ (f:Obj->Obj) b o,b≠z->hp.get? b=some o->(hp.update z f).get? b=some o:=fun f b o hb e=>(Heap.SameBut.update ..).extBut b o hb e;have st1:∀ f:Obj->Obj,S1 k (hp.update z f):=fun f=>D1.frame k _ _ s1 fun b hb o e=>off f b o (fun q=>Z.z1 (q▸hb)) e;have st2:∀ f:Obj->Obj,S2 k (hp.update z f):=fun f=>D2.frame k _ _ s2 fun b hb o e=>off f b o (fun q=>Z.z2 (q▸hb)) e;unfold Builtin.«zip.__next__»
 wp_walk using AutoSeq1.wpAny_loadPart' hz,AutoSeq1.wpAny_loadPart' hTI,wpAny_onRaise,(D1.item k _ _ _ k1 (st1 _))
 intro x h1 t1 px st1' sb1;have q1:IsPair h1 TO a b:=sb1.extBut _ _ (Ne.symm Z.Kc) (off _ TO _ Z.zTO hTO);have z1:IsZip h1 z TI TO .ellipsis:=sb1.extBut _ _ (Ne.symm Z.i1z) (Qt _ hz rfl);have u1:=sb1.1;have c1:∀ c o,c≠z->c≠i1->hp.get? c=some o->h1.get? c=some o:=fun c o n1 n2 e=>sb1.extBut _ _ n2 (off _ c o n1 e);clear sb1 st1 st2
 wp_walk using AutoSeq1.wpAny_loadPart' q1,(wpAny_updateSeq_pair q1)
 intro h2 q2 sb2
 replace q2:IsPair h2 TO x b:=q2
 have z2:IsZip h2 z TI TO .ellipsis:=sb2.extBut _ _ (Ne.symm Z.zTO) z1;have c2:∀ c o,c≠z->c≠TO->c≠i1->hp.get? c=some o->h2.get? c=some o:=fun c o n1 n2 n3 e=>sb2.extBut _ _ n2 (c1 c o n1 n3 e);have e1:S1 (k+1) h2:=D1.frame _ _ _ st1' fun b hb o e=>sb2.extBut _ _ (fun q=>Z.TO1 (q▸hb)) e;have e2:S2 k h2:=D2.frame _ _ _ s2 fun b hb o e=>c2 b o (fun q=>Z.z2 (q▸hb)) (fun q=>Z.TO2 (q▸hb)) (fun q=>Z.i1f (q▸hb)) e;have u2:=sb2.1.trans u1;clear sb2 u1 c1 z1 q1
 wp_walk using wpAny_onRaise,(D2.item k _ _ _ k2 e2)
 intro y h3 t3 py f2 sb3;have q3:IsPair h3 TO x b:=sb3.extBut _ _ (Ne.symm Z.Kd) q2;have z3:IsZip h3 z TI TO .ellipsis:=sb3.extBut _ _ (Ne.symm Z.i2z) z2;have f1:S1 (k+1) h3:=D1.frame _ _ _ e1 fun b hb o e=>sb3.extBut _ _ (fun q=>Z.i2f (q▸hb)) e;have c3:∀ c o,c≠z->c≠TO->c≠i1->c≠i2->hp.get? c=some o->h3.get? c=some o:=fun c o n1 n2 n3 n4 e=>sb3.extBut _ _ n4 (c2 c o n1 n2 n3 e);have u3:=sb3.1.trans u2;clear sb3 u2 c2 z2 q2 e1 e2
 wp_walk using AutoSeq1.wpAny_loadPart' q3,(wpAny_updateSeq_pair q3)
 intro h4 q4 sb4
 replace q4:IsPair h4 TO x y:=q4
 have z4:IsZip h4 z TI TO .ellipsis:=sb4.extBut _ _ (Ne.symm Z.zTO) z3;have g1:S1 (k+1) h4:=D1.frame _ _ _ f1 fun b hb o e=>sb4.extBut _ _ (fun q=>Z.TO1 (q▸hb)) e;have g2:S2 (k+1) h4:=D2.frame _ _ _ f2 fun b hb o e=>sb4.extBut _ _ (fun q=>Z.TO2 (q▸hb)) e;have c4:∀ c o,c≠z->c≠TO->c≠i1->c≠i2->hp.get? c=some o->h4.get? c=some o:=fun c o n1 n2 n3 n4 e=>sb4.extBut _ _ n2 (c3 c o n1 n2 n3 n4 e);have u4:=sb4.1.trans u3;clear sb4 u3 c3 z3 q3 f1 f2
 wp_walk using AutoSeq1.wpAny_loadPart' q4
 have u0:h4.objs.size=hp.objs.size:=u4.trans (Heap.SameBut.update ..).1;refine#[_,rfl,?_];show Q (.ref h4.objs.size) _;have zp:IsZip (h4.push { cls:=.type "tuple",data:=.seq (List.toArray [x,y]).toList.toArray }) z TI TO .ellipsis:=Qa _ z4;have zlt:z<h4.objs.size:=Qg z4
 have up:∀ (f f':Obj->Obj) c o,c≠z->(h4.push { cls:=.type "tuple",data:=.seq (List.toArray [x,y]).toList.toArray }).get? c=some o->(((h4.push { cls:=.type "tuple",data:=.seq (List.toArray [x,y]).toList.toArray }).update z f).update z f').get? c=some o:=fun f f' c o hc e =>
  (Heap.SameBut.update ..).extBut c o hc ((Heap.SameBut.update ..).extBut c o hc e)
 have goal:=hQ x y (((h4.push { cls:=.type "tuple",data:=.seq (List.toArray [x,y]).toList.toArray }).update z (Obj.mapFields (·.setIfInBounds 0 (rawInt h4.objs.size)))).update z (Obj.mapFields (·.setIfInBounds 1 (.bool false)))) t3 px py ?_ ?_ ?_ ?_ ?_ ?_ ?_
 ·rw[u0]at goal ⊢;exact goal
 ·rw[<-u0];exact Qt _ (Qt _ zp rfl) rfl
 ·exact up _ _ _ _ Z.zTO (Qa _ q4)
 ·exact D1.frame _ _ _ g1 fun b hb o e=>up _ _ _ _ (fun q=>Z.z1 (q▸hb)) (Qa _ e)
 ·exact D2.frame _ _ _ g2 fun b hb o e=>up _ _ _ _ (fun q=>Z.z2 (q▸hb)) (Qa _ e)
 ·show IsPair _ hp.objs.size x y;rw[<-u0];exact up _ _ _ _ (Nat.ne_of_gt zlt) (Qe _ rfl)
 ·refine((Heap.SameBut.update ..).1.trans ((Heap.SameBut.update ..).1.trans ((QA ..).trans ?_)));show h4.objs.size+1=hp.objs.size+1;rw[u0]
 ·exact fun c o n1 n2 n3 n4 e=>up _ _ _ _ n1 (Qa _ (c4 c o n1 n2 n3 n4 e))
def CG{z TI TO i1 i2:Addr}{fp1 fp2:List Addr}{n1:Nat}{P1:Nat->Value->Prop}{S1:Nat->Heap->Prop}{a b:Value}{s:Shared}{Q:Fin->Shared->Prop}(Z:jm z TI TO i1 i2 fp1 fp2)
 (D1:Draws prog w A i1 fp1 n1 P1 S1)(hz:IsZip s.heap z TI TO .none)(hTI:IsPair s.heap TI (.ref i1) (.ref i2))(hTO:IsPair s.heap TO a b)(s1:S1 n1 s.heap)
 (hE:∀ g e,(∀ c o,c≠z->c≠i1->s.heap.get? c=some o->g.get? c=some o)->(∃ o,g.get? e=some o/\o.cls=.type "StopIteration")->E (.ref e) { s with heap:=g }) :
  wpAny (model prog w) A (Builtin.«zip.__next__» ⟨[.ref z],[]⟩) Q E s:=by
 obtain⟨hp,g,d,tk,os⟩:=s;have off:∀ (f:Obj->Obj) b o,b≠z->hp.get? b=some o->(hp.update z f).get? b=some o:=fun f b o hb e=>(Heap.SameBut.update ..).extBut b o hb e;have st1:∀ f:Obj->Obj,S1 n1 (hp.update z f):=fun f=>D1.frame n1 _ _ s1 fun b hb o e=>off f b o (fun q=>Z.z1 (q▸hb)) e;unfold Builtin.«zip.__next__»
 wp_walk using AutoSeq1.wpAny_loadPart' hz,AutoSeq1.wpAny_loadPart' hTI,wpAny_onRaise,(D1.done _ _ _ (st1 _))
 rintro h1 e eb ⟨oe,he,hce⟩;have z1:IsZip h1 z TI TO .ellipsis:=eb _ _ (Ne.symm Z.i1z) (Qt _ hz rfl)
 have ez:e≠z:=fun q=>by
  rw[q,z1]at he;have:=Option.some.inj he;rw[<-this]at hce;simp at hce
 refine wpAny_setField_rec z1 (by simp) fun h2 _ sb2=>?_;exact hE h2 e (fun c o n1 n2 q=>sb2.extBut _ _ n1 (eb _ _ n2 (off _ _ _ n1 q))) ⟨oe,sb2.extBut _ _ ez he,hce⟩
end
section
variable{prog:Program}{w:World}{A:Around}{E:Value->Shared->Prop}{z TI TO i1 i2:Addr}{fp1 fp2:List Addr}{n1 n2 k:Nat}{P1 P2:Nat->Value->Prop}{S1 S2:Nat->Heap->Prop}{a b:Value}{s:Shared}
def BA{Q:Option Value->Shared->Prop}(Z:jm z TI TO i1 i2 fp1 fp2)(D1:Draws prog w A.in1 i1 fp1 n1 P1 S1)(D2:Draws prog w A.in1 i2 fp2 n2 P2 S2)(hz:IsZip s.heap z TI TO .none)(hTI:IsPair s.heap TI (.ref i1) (.ref i2))(hTO:IsPair s.heap TO a b)(s1:S1 k s.heap)(s2:S2 k s.heap)(k1:k<n1)(k2:k<n2)
 (hQ:∀ x y g tk,P1 k x->P2 k y->IsZip g z TI TO (rawInt s.heap.objs.size)->IsPair g TO x y->S1 (k+1) g->S2 (k+1) g->IsPair g s.heap.objs.size x y->g.objs.size=s.heap.objs.size+1->(∀ c o,c≠z->c≠TO->c≠i1->c≠i2->s.heap.get? c=some o->g.get? c=some o)->Q (some (.ref s.heap.objs.size)) { s with heap:=g,toks:=tk }) :
  wpAny (model prog w) A (pyNext (.ref z)) Q E s:=by
 have hT:s.TypeIs (.ref z) "zip" := #[_,hz,rfl]
 unfold pyNext;f_are;apply wpAny_attempt;apply wpAny_callSpecial?_slot (name:=Str.ofString "__next__") hT F.slot_zip_next;refine wpAny_call_entry F.slot_zip_next hT F.entry_zip_next ?_ (F.args_zip_next_1 _);refine AZ Z D1 D2 hz hTI hTO s1 s2 k1 k2 fun x y g tk px py q1 q2 q3 q4 q5 q6 q7=>?_;apply Qd;exact hQ x y g tk px py q1 q2 q3 q4 q5 q6 q7
def B3{Q:Option Value->Shared->Prop}(Z:jm z TI TO i1 i2 fp1 fp2)(D1:Draws prog w A.in1 i1 fp1 n1 P1 S1)(hz:IsZip s.heap z TI TO .none)(hTI:IsPair s.heap TI (.ref i1) (.ref i2))(hTO:IsPair s.heap TO a b)(s1:S1 n1 s.heap)
 (hQ:∀ g,(∀ c o,c≠z->c≠i1->s.heap.get? c=some o->g.get? c=some o)->Q none { s with heap:=g }):wpAny (model prog w) A (pyNext (.ref z)) Q E s:=by
 have hT:s.TypeIs (.ref z) "zip" := #[_,hz,rfl]
 unfold pyNext;f_are;apply wpAny_attempt;apply wpAny_callSpecial?_slot (name:=Str.ofString "__next__") hT F.slot_zip_next;refine wpAny_call_entry F.slot_zip_next hT F.entry_zip_next ?_ (F.args_zip_next_1 _);refine CG Z D1 hz hTI hTO s1 fun g e hk ⟨o,he,hc⟩=>?_;f_are;refine wpAny_isInstance (T := "StopIteration") (b:=true) ⟨_,he,hc⟩ isSubtype_stop ?_;apply Qd;exact hQ g hk
end
section
variable{s:Shared}
def eS.yR(hd:eS A s.heap):A.handled≠some (.ref s.heap.objs.size):=fun q=>by
 rcases hd with z | ⟨x,o,ws,h1,h2,_,_⟩
 ·rw[z]at q;cases q
 ·rw[h1]at q;cases q;exact QC _ (Qg h2)
def wW(hd:eS A s.heap)(ni:A.handled≠some (.ref it))(hit:IsTupIter s.heap it t i)(ht:IsTup s.heap t its)(hx:its[i]?=none)
 (k:∀ h',Heap.ExtBut it s.heap h'->Q none { s with heap:=h' }):wpAny (model prog w) A (pyNext (.ref it)) Q E s:=by
 obtain⟨o,ho,hc,hdt⟩:=id hit;obtain⟨ol,hol,_,nl,hdl⟩:=ht;unfold pyNext;f_are;apply wpAny_attempt;apply wpAny_callSpecial?_slot (name:=Str.ofString "__next__") hit.typeIs slot_tupleiter_next;refine wpAny_call_entry slot_tupleiter_next hit.typeIs entry_tupleiter_next ?_ (args_tupleiter_next _);have n0:¬ ((Value.ref t == Value.none)=true):=Qi;refine show wpAny _ _ (field (.ref it) 0 >>= _) _ _ s from Qb (wpAny_field ho hdt (x:=.ref t) rfl ?_);refine show wpAny _ _ (if(Value.ref t == Value.none)=true then _ else _) _ _ s from ?_;rw[if_neg n0];refine show wpAny _ _ (field (.ref it) 1 >>= _) _ _ s from Qb (wpAny_field ho hdt (x:=.int i 0) rfl ?_);refine show wpAny _ _ (seqItems? (.ref t) >>= _) _ _ s from Qb (wpAny_seqItems hol hdl ?_);simp only[Int.toNat_natCast,hx];refine Qb (wpAny_rule (Qb (wpAny_setField ho hdt (by simp) ?_)));refine show wpAny _ _ (newExc (.type "StopIteration") [] >>= _) _ _ _ from Qb ?_;have sb:=Heap.SameBut.update s.heap it (Obj.mapFields (·.setIfInBounds 0 Value.none));refine oV (hd.keeps fun b u vs e _ hb=>(sb.2 b fun z=>ni (z▸hb)).trans e) fun h' e kk he=>?_;f_are;refine wpAny_isInstance (T := "StopIteration") (b:=true) he isSubtype_stop ?_;exact Qd (k h' fun b u hb q=>kk b u ((sb.2 b hb).trans q))
def take_all{its:Array Value}:List.take its.size (List.drop 0 its.toList)=its.toList:=by
 rw[List.drop_zero,QB (by simp)]
def wt{t:Addr}(hd:eS A s.heap)(ht:IsTup s.heap t its)(k:∀ h',Heap.ExtBut s.heap.objs.size s.heap h'->Q its.toList { s with heap:=h' }):wpAny (model prog w) A (unpackItems (.ref t) its.size none) Q E s:=by
 have hlt:t≠s.heap.objs.size:=Qn ht.lt;have nn:=hd.yR;unfold unpackItems;f_are;unfold notIterableAtAll;f_are;refine wpAny_specialOf ht.typeIs slot_tuple_iter.lookup (Qd ?_);simp only[Bool.false_eq_true,if_false];f_are;refine wpAny_holding (iter_tuple ht ?_);f_are;refine wpAny_holding (draw_tuple hlt its.size 0 _ _ ⟨_,Qe _ rfl,rfl,rfl⟩ (ht.push _) (by omega) fun g hit sb=>?_);rw[take_all,if_neg (by simp)];f_are;refine wpAny_holding (wW (hd.keeps fun b o vs e _ hb=>(sb.2 b fun z=>nn (z▸hb)).trans (Qa _ e)) nn hit ((ht.push _).extBut sb.extBut hlt) (by simp) fun g2 eb=>?_);simp only[Option.isSome_none,Bool.false_eq_true,if_false];exact Qd (k g2 fun b o hb e=>eb b o hb (sb.extBut b o hb (Qa _ e)))
def wU{l:Addr}(hd:eS A s.heap)(hl:s.heap.IsList l its)(k:∀ h',Heap.ExtBut s.heap.objs.size s.heap h'->Q its.toList { s with heap:=h' }):wpAny (model prog w) A (unpackItems (.ref l) its.size none) Q E s:=by
 have hlt:l≠s.heap.objs.size:=let ⟨o,ho,_⟩:=hl;Qn (Qg ho);have nn:=hd.yR;unfold unpackItems;f_are;unfold notIterableAtAll;f_are;refine wpAny_specialOf hl.typeIs slot_list_iter.lookup (Qd ?_);simp only[Bool.false_eq_true,if_false];f_are;refine wpAny_holding (wpAny_pyIter_list hl ?_);f_are;refine wpAny_holding (W.kun_draw hlt its.size 0 _ _ ⟨_,Qe _ rfl,rfl,rfl⟩ (hl.push _) (by omega) fun g hit sb=>?_);rw[take_all,if_neg (by simp)];f_are;refine wpAny_holding (uO (hd.keeps fun b o vs e _ hb=>(sb.2 b fun z=>nn (z▸hb)).trans (Qa _ e)) nn hit ((hl.push _).extBut sb.extBut hlt) (by simp) fun g2 eb=>?_);simp only[Option.isSome_none,Bool.false_eq_true,if_false];exact Qd (k g2 fun b o hb e=>eb b o hb (sb.extBut b o hb (Qa _ e)))
def Ax(hh:A.handled=some (.ref x))(hd:ox.data=.fields xs)(h2:xs[2]?=some .none)(nx:x≠it)(hne:l≠it)(its:Array Value) :
  Draws prog w A it [it,l,x] its.size (fun i v=>its[i]?=some v) (fun i h=>(h.IsListIter it l i/\h.IsList l its)/\h.get? x=some ox) where
 live:=fun _ _ st=>let ⟨o,ho,_⟩:=st.1.1;⟨o,ho⟩
 frame:=fun _ _ _ st hk=>#[#[st.1.1.at fun o e=>hk it (by simp) o e,st.1.2.at fun o e=>hk l (by simp) o e],hk x (by simp) _ st.2]
 item:=fun i s Q E hi st hQ=>wpAny_nextOf_list_item st.1.1 st.1.2 (x:=its[i]) (by simp[hi]) fun h' hit' hs'=>hQ _ h' s.toks (by simp[hi]) ⟨⟨hit',st.1.2.extBut hs'.extBut hne⟩,(hs'.2 x nx).trans st.2⟩ hs'
 done:=fun s Q E st hE=>qK (.inr #[x,ox,xs,hh,st.2,hd,h2]) (fun q=>by rw[hh]at q;cases q;exact nx rfl) st.1.1 st.1.2 (by simp) hE
def xZ(hh:A.handled=some (.ref x))(hd:ox.data=.fields xs)(h2:xs[2]?=some .none)(nx:x≠it)(hne:l≠it)(its:Array Value) :
  Draws prog w A it [it,l,x] its.size (fun i v=>its[i]?=some v) (fun i h=>(h.IsTupleIter it l i/\h.IsTuple l its)/\h.get? x=some ox) where
 live:=fun _ _ st=>let ⟨o,ho,_⟩:=st.1.1;⟨o,ho⟩
 frame:=fun _ _ _ st hk=>by
  obtain⟨⟨⟨o1,e1,r1⟩,⟨o2,e2,r2⟩⟩,e3⟩:=st;exact#[#[#[o1,hk it (by simp) _ e1,r1],#[o2,hk l (by simp) _ e2,r2]],hk x (by simp) _ e3]
 item:=fun i s Q E hi st k=>sR st.1.1 st.1.2 (x:=its[i]) (by simp[hi]) fun g g1 g2=>k its[i] g s.toks (by simp[hi]) ⟨⟨g1,st.1.2.extBut g2.extBut hne⟩,(g2.2 x nx).trans st.2⟩ g2
 done:=fun s Q E st hE=>vS (.inr #[x,ox,xs,hh,st.2,hd,h2]) (fun q=>by rw[hh]at q;cases q;exact nx rfl) st.1.1 st.1.2 (by simp) hE
end
section
def Inv.hd(I:Inv X pins Y H s):eS X.A s.heap:=by
 rcases I.ok.hd.2 with z | ⟨h,o,u,vs,h1,h2,h3,h4⟩
 ·exact .inl z
 ·exact .inr #[h,o,vs,h1,(I.hok _ _ (I.base.da _ _ _ h2)).1,h3,h4]
end
abbrev eI(t:Bool)(xs:List V):HO:=if t then .tup xs else .lst xs
abbrev je(t:Bool)(it l:Addr)(i:Nat)(h:Heap):Prop:=if t then h.IsTupleIter it l i else h.IsListIter it l i
def je.obj(st:je t it l i h):∃ o,h.get? it=some o/\∀ v,o.data≠.cell v:=by
 cases t with
 | true=>exact let ⟨o,ho,_,hd⟩:=(show h.IsTupleIter it l i from st);⟨o,ho,fun v q=>by rw[hd]at q;cases q⟩
 | false=>exact let ⟨o,ho,_,hd⟩:=(show h.IsListIter it l i from st);⟨o,ho,fun v q=>by rw[hd]at q;cases q⟩
def je.keep(st:je t it l i h)(k:∀ o,h.get? it=some o->h'.get? it=some o):je t it l i h':=by
 cases t with
 | true=>exact let ⟨o,ho,r⟩:=(show h.IsTupleIter it l i from st);⟨o,k o ho,r⟩
 | false=>exact(show h.IsListIter it l i from st).at fun o q=>k o q
def iU(I:Inv X pins Y H s)(hi:H it=none)(hx:H l=some (eI t xs)) :
  ∃ (fp:List Addr) (Pv:Nat->Value->Prop) (St:Nat->Heap->Prop),Draws X.prog X.w X.A.in1 it fp xs.length Pv St/\(∀ b∈fp,b=it\/H b≠none)/\(∀ i,je t it l i s.heap->St i s.heap)/\(∀ i h,St i h->je t it l i h)/\∀ i v,Pv i v->∃ x,xs[i]?=some x/\RelV x v:=by
 have back:∀ {its:List Value},Vals xs its->∀ (i:Nat) (v:Value),its.toArray[i]?=some v->∃ x,xs[i]?=some x/\RelV x v:=fun {its} rv i v hv=>by
  have hv:its[i]?=some v:=by simpa using hv
  have hlt:i<xs.length:=by rw[rv.length];exact(List.getElem?_eq_some_iff.mp hv).1
  obtain⟨u,h1,h2⟩:=rv.get (i:=i) (x:=xs[i]) (by simp[hlt]);rw[hv]at h1;cases h1;exact#[xs[i],by simp[hlt],h2]
 have two:∀ {u:HO},H l=some u->∀ b∈[it,l],b=it\/H b≠none:=fun {u} e b hb=>by
  rcases List.mem_cons.mp hb with z | z
  ·exact .inl z
  ·rw[List.mem_singleton.mp z,e]
   exact .inr fun z=>nomatch z
 rcases I.ok.hd.2 with hh | ⟨x,ox,ux,ws,hh,g1,g2,g3⟩
 ·cases t with
  |true=>
   have hx:H l=some (.tup xs):=hx;obtain⟨its,rv,p,hz⟩:=I.tuple (SqT.of hx);have D:=u5.draws (prog:=X.prog) (w:=X.w) (A:=X.A.in1) hh it l (aR hx hi) its.toArray;rw[show its.toArray.size=xs.length by rw[List.size_toArray,rv.length]]at D;exact#[_,_,_,D,two hx,fun i st=>#[st,p],fun i h st=>st.1,back rv]
  |false=>
   have hx:H l=some (.lst xs):=hx;obtain⟨its,rv,p,hz⟩:=I.list (SqL.of hx);have D:=Draws.list (prog:=X.prog) (w:=X.w) (A:=X.A.in1) hh it l (aR hx hi) its.toArray;rw[show its.toArray.size=xs.length by rw[List.size_toArray,rv.length]]at D;exact#[_,_,_,D,two hx,fun i st=>#[st,p.isList],fun i h st=>st.1,back rv]
 ·have hxx:=I.base.da _ _ _ g1;have hxo:s.heap.get? x=some ox:=(I.hok _ _ hxx).1;have nx:x≠it:=aR hxx hi
  have three:∀ {u:HO},H l=some u->∀ b∈[it,l,x],b=it\/H b≠none:=fun {u} e b hb=>by
   simp only[List.mem_cons,List.mem_nil_iff,or_false]at hb;rcases hb with z | z | z
   ·exact .inl z
   ·rw[z,e]
    exact .inr fun z=>nomatch z
   ·rw[z,hxx]
    exact .inr fun z=>nomatch z
  cases t with
  |true=>
   have hx:H l=some (.tup xs):=hx;obtain⟨its,rv,p,hz⟩:=I.tuple (SqT.of hx);have D:=xZ (prog:=X.prog) (w:=X.w) (A:=X.A.in1) hh g2 g3 nx (aR hx hi) its.toArray;rw[show its.toArray.size=xs.length by rw[List.size_toArray,rv.length]]at D;exact#[_,_,_,D,three hx,fun i st=>#[#[st,p],hxo],fun i h st=>st.1.1,back rv]
  |false=>
   have hx:H l=some (.lst xs):=hx;obtain⟨its,rv,p,hz⟩:=I.list (SqL.of hx);have D:=Ax (prog:=X.prog) (w:=X.w) (A:=X.A.in1) hh g2 g3 nx (aR hx hi) its.toArray;rw[show its.toArray.size=xs.length by rw[List.size_toArray,rv.length]]at D;exact#[_,_,_,D,three hx,fun i st=>#[#[st,p.isList],hxo],fun i h st=>st.1.1,back rv]
abbrev Itz(t1 t2:Bool)(l1 l2:Addr):It :=
 ⟨fun i H=>∃ xs ys x y,H l1=some (eI t1 xs)/\H l2=some (eI t2 ys)/\xs[i]?=some x/\ys[i]?=some y,
   fun i H v H'=>∃ p x y,H p=none/\v=.ref p/\H'=upd H p (.tup [x,y])/\(∀ xs,H l1=some (eI t1 xs)->xs[i]?=some x)/\∀ ys,H l2=some (eI t2 ys)->ys[i]?=some y,
   fun i H=>∃ xs ys,H l1=some (eI t1 xs)/\H l2=some (eI t2 ys)/\xs.length=i/\ys.length=i⟩
def rO(h:eI t xs=eI t ys):xs=ys:=by
 cases t<;>(injection h)
def Ag{P:Program}{w:World}{K:W.Frag}{elts:List Expr}{kx:Nat}{tp:Pos}{t1 t2:Bool}{z TI TO i1 i2 l1 l2:Addr}(n1:TI≠z)(n2:TO≠z)(n3:TI≠TO)(n4:i1≠z)(n5:i2≠z)(n6:i1≠TO)(n7:i2≠TO)(n8:i1≠i2)(n9:i1≠TI)(n10:i2≠TI) :
  oF (fun _=>True) P w K (.Tuple elts kx tp) (Itz t1 t2 l1 l2) [z,TI,TO,i1,i2] z (fun i h=>IsZip h z TI TO .none/\IsPair h TI (.ref i1) (.ref i2)/\(∃ a b,IsPair h TO a b)/\je t1 i1 l1 i h/\je t2 i2 l2 i h) where
 mem:=by simp
 obj:=fun i h st b hb=>by
  obtain⟨h1,h2,⟨a,c,h3⟩,h4,h5⟩:=st;simp only[List.mem_cons,List.mem_nil_iff,or_false]at hb;rcases hb with rfl | rfl | rfl | rfl | rfl
  ·exact⟨_,h1,fun v q=>by cases q⟩
  ·exact⟨_,h2,fun v q=>by cases q⟩
  ·exact⟨_,h3,fun v q=>by cases q⟩
  ·exact h4.obj
  ·exact h5.obj
 keep:=fun i h h' st k=>by
  obtain⟨h1,h2,⟨a,c,h3⟩,h4,h5⟩:=st;exact#[k z (by simp) _ h1,k TI (by simp) _ h2,#[a,c,k TO (by simp) _ h3],h4.keep fun o q=>k i1 (by simp) o q,h5.keep fun o q=>k i2 (by simp) o q]
 item:=by
  k_go;subst hP hw hK;obtain⟨h1,h2,⟨a,c,h3⟩,h4,h5⟩:=st;obtain⟨xs,ys,x,y,hx,hy,ex,ey⟩:=hg;have f:∀ b∈[z,TI,TO,i1,i2],H b=none:=fun b hb=>(hf b hb).1;obtain⟨fp1,Pv1,St1,D1,m1,a1,a2,a3⟩:=iU I (f i1 (by simp)) hx;obtain⟨fp2,Pv2,St2,D2,m2,b1,b2,b3⟩:=iU I (f i2 (by simp)) hy;have no:∀ {fp:List Addr} {i b:Addr},(∀ b∈fp,b=i\/H b≠none)->b∈[z,TI,TO,i1,i2]->b≠i->b∉fp:=fun m hb n z=>(m _ z).elim n fun q=>q (f _ hb)
  have Z:jm z TI TO i1 i2 fp1 fp2:=#[n1,n2,n3,n4,n5,n6,n7,n8,no m1 (by simp) (Ne.symm n4),no m2 (by simp) (Ne.symm n5),no m1 (by simp) (Ne.symm n6),no m2 (by simp) (Ne.symm n7),no m2 (by simp) n8,no m1 (by simp) (Ne.symm n8)]
  refine BA Z D1 D2 h1 h2 h3 (a1 i h4) (b1 i h5) (List.getElem?_eq_some_iff.mp ex).1 (List.getElem?_eq_some_iff.mp ey).1 fun u v g tk pu pv g1 g2 g3 g4 g5 g6 g7=>?_;obtain⟨x',ex',rx⟩:=a3 i u pu;obtain⟨y',ey',ry⟩:=b3 i v pv;rw[ex]at ex';rw[ey]at ey';cases ex';cases ey';refine#[.ref s.heap.objs.size,rfl,wpAny_letOwnedTupleGo_zip g1 fun g' gz' sb=>?_];have hn:H s.heap.objs.size=none:=I.hok.fresh (Qc _)
  have I1:Inv X pins Y (upd H s.heap.objs.size (.tup [x,y])) { s with heap:=s.heap.push { cls:=.type "tuple",data:=.seq (List.toArray [u,v]) },toks:=tk } :=
   I.laid (t':=tk) (fun b o q=>Qa _ q) (Qc _) ⟨by show 2<=sizeLine;decide,[u,v],.cons rx (.cons ry .nil),⟨_,Qe _ rfl,rfl,_,rfl⟩⟩
  have lt:∀ b∈[z,TI,TO,i1,i2],b≠s.heap.objs.size:=fun b hb=>by
   have:∃ o,s.heap.get? b=some o:=by
    simp only[List.mem_cons,List.mem_nil_iff,or_false]at hb;rcases hb with rfl | rfl | rfl | rfl | rfl
    ·exact#[_,h1]
    ·exact#[_,h2]
    ·exact#[_,h3]
    ·exact let ⟨o,q,_⟩:=h4.obj;⟨o,q⟩
    ·exact let ⟨o,q,_⟩:=h5.obj;⟨o,q⟩
   obtain⟨o,q⟩:=this;exact Qn (Qg q)
  have stat:∀ b∈[z,TI,TO,i1,i2],upd H s.heap.objs.size (.tup [x,y]) b=none/\(b∈X.ex\/X.s₀.heap.objs.size<=b)/\b≠X.env.locals/\(∀ x c,X.env.cells.lookup x=some c->c≠b)/\∀ p∈X.pn++pins,p.1≠b:=fun b hb=>by
   obtain⟨f0,f1,f2,f3,f4,f5⟩:=hf b hb;exact#[by rw[aO (lt b hb)];exact f0,f3,f1,f4,f5]
  have I2:Inv X pins Y (upd H s.heap.objs.size (.tup [x,y])) { s with heap:=g',toks:=tk }:=by
   refine Inv.oO (s:={ s with heap:=s.heap.push { cls:=.type "tuple",data:=.seq (List.toArray [u,v]) },toks:=tk }) (h':=g') (t':=tk) (fp:=[z,TI,TO,i1,i2]) I1 (fun b o hb q=>?_) stat;simp only[List.mem_cons,List.mem_nil_iff,or_false,not_or]at hb;refine sb.extBut b o hb.1 ?_;by_cases hbT:b=s.heap.objs.size
   ·subst hbT;have q':(s.heap.push { cls:=.type "tuple",data:=.seq (List.toArray [u,v]) }).get? s.heap.objs.size=some o:=q;rw[Qe _ rfl]at q';cases q';exact g5
   ·exact g7 b o hb.1 hb.2.2.1 hb.2.2.2.1 hb.2.2.2.2 ((Heap.get?_push_ne _ _ _ hbT).symm.trans q)
  have kp:∀ b∈[TI,TO,i1,i2],∀ o,g.get? b=some o->g'.get? b=some o:=fun b hb o q=>sb.extBut b o (fun e=>by
   subst e;simp only[List.mem_cons,List.mem_nil_iff,or_false]at hb;rcases hb with e | e | e | e
   ·exact n1 e.symm
   ·exact n2 e.symm
   ·exact n4 e.symm
   ·exact n5 e.symm) q
  refine#[.ref s.heap.objs.size,_,I2,rfl,#[s.heap.objs.size,x,y,hn,rfl,rfl,fun xs' hx'=>?_,fun ys' hy'=>?_],#[gz',kp TI (by simp) _ (g7 TI _ n1 n3 (Ne.symm n9) (Ne.symm n10) h2),#[u,v,kp TO (by simp) _ g2],(a2 _ _ g3).keep fun o q=>kp i1 (by simp) o q,(b2 _ _ g4).keep fun o q=>kp i2 (by simp) o q],fun b hb=>(stat b hb).1]
  ·rw[hx]at hx';rw[<-rO (Option.some.inj hx')];exact ex
  ·rw[hy]at hy';rw[<-rO (Option.some.inj hy')];exact ey
 done:=by
  k_go;subst hP hw hK;obtain⟨h1,h2,⟨a,c,h3⟩,h4,h5⟩:=st;obtain⟨xs,ys,hx,hy,ex,ey⟩:=hg;have f:∀ b∈[z,TI,TO,i1,i2],H b=none:=fun b hb=>(hf b hb).1;obtain⟨fp1,Pv1,St1,D1,m1,a1,a2,a3⟩:=iU I (f i1 (by simp)) hx;obtain⟨fp2,_,_,_,m2,_⟩:=iU I (f i2 (by simp)) hy;have no:∀ {fp:List Addr} {i b:Addr},(∀ b∈fp,b=i\/H b≠none)->b∈[z,TI,TO,i1,i2]->b≠i->b∉fp:=fun m hb n z=>(m _ z).elim n fun q=>q (f _ hb)
  have Z:jm z TI TO i1 i2 fp1 fp2:=#[n1,n2,n3,n4,n5,n6,n7,n8,no m1 (by simp) (Ne.symm n4),no m2 (by simp) (Ne.symm n5),no m1 (by simp) (Ne.symm n6),no m2 (by simp) (Ne.symm n7),no m2 (by simp) n8,no m1 (by simp) (Ne.symm n8)]
  subst ex
  refine B3 Z D1 h1 h2 h3 (a1 _ h4) fun g hk=>#[rfl,?_]
  refine Inv.oO (h':=g) (t':=s.toks) (fp:=[z,i1]) I (fun b o hb q=>?_) fun b hb=>?_
  ·simp only[List.mem_cons,List.mem_nil_iff,or_false,not_or]at hb;exact hk b o hb.1 hb.2 q
  ·have hb':b∈[z,TI,TO,i1,i2]:=by
    simp only[List.mem_cons,List.mem_nil_iff,or_false]at hb ⊢;rcases hb with q | q
    ·exact .inl q
    ·exact .inr (.inr (.inr (.inl q)))
   obtain⟨f0,f1,f2,f3,f4,f5⟩:=hf b hb';exact#[f0,f3,f1,f4,f5]
 self:=fun A i s Q E st h=>wpAny_pyIter_zip st.1 h
def oF.calm{P:Program}{w:World}{K:W.Frag}(T:oF (fun _=>True) P w K tg J fp it tn):Turn P w K tg J fp it tn where
 mem:=T.mem
 obj:=T.obj
 keep:=T.keep
 item:=fun X a b c hc i pins s Y H E I=>T.item X a b c trivial i pins s Y H E I
 done:=fun X a b c hc i pins s Y H E I=>T.done X a b c trivial i pins s Y H E I
 self:=T.self
def PI'.calm(h:PI' (fun _=>True) X tg iter wi):PI X tg iter wi:=fun pins s Y H R I q =>
 thn (h pins s Y H R I q) fun v s1 h1=>thn h1 fun itv s2 ⟨it,fp,tn,J,H',e,I',T,r⟩=>#[it,fp,tn,J,H',e,I',T.calm,r]
abbrev du(t:Bool)(l:Addr):Obj:=if t then { cls:=.type "tuple_iterator",data:=.fields (List.toArray [.ref l,rawInt 0]) } else { cls:=.type "list_iterator",data:=.fields (List.toArray [.ref l,.int 0 0]) }
def sN(e:h.get? it=some (du t l)):je t it l 0 h:=by
 cases t with
 | true=>exact#[_,e,rfl,rfl]
 | false=>exact#[_,e,rfl,rfl]
def sI(I:Inv X pins Y H s)(hx:H l=some (eI t xs))(q:Q (.ref s.heap.objs.size) { s with heap:=s.heap.push (du t l) }):wpAny (model X.prog X.w) A (pyIter (.ref l)) Q E s:=by
 cases t with
 |true=>
  obtain⟨its,rv,p,hz⟩:=I.tuple (SqT.of (show H l=some (.tup xs)from hx));exact wpAny_pyIter_tuple p q
 |false=>
  obtain⟨its,rv,p,hz⟩:=I.list (SqL.of (show H l=some (.lst xs)from hx));exact wpAny_pyIter_list p.isList q
section
abbrev JL(ta:TA):TI:=fun Y H R=>ta Y H fun vs H1=>∃ t1 t2 l1 l2 xs ys,vs=[.ref l1,.ref l2]/\H1 l1=some (eI t1 xs)/\H1 l2=some (eI t2 ys)/\R (Itz t1 t2 l1 l2) H1
def far(n a b:Nat)(h:a≠b):n+a≠n+b:=fun q=>h (Nat.add_left_cancel q)
def yW:bootBuiltins "zip" = some (.type "zip"):=by decide +kernel
def Ho(hg:Gl X "zip")(hm:X.mg "zip" = none)(ha:PA X [a,b] ta)(hs:starEach [a,b] X.env=[(false,eval a X.env),(false,eval b X.env)])(hs2:starEach [b] X.env=[(false,eval b X.env)]):PI' (fun _=>True) X (.Tuple elts kx tp) (.Call (.Name "zip" p) [a,b] [] pos) (JL ta):=by
 intro pins s0 Y H0 R I0 h;refine Call_ (iA I0 hg hm yW (PyProof.Rows.callWith_type1 (thn (ha pos pins s0 Y H0 _ I0 h) fun us s ⟨vs,H,I,r1,q1⟩=>?_) (by rw[hs,hs2]) (by rw[hs2];rfl)) ∅ ∅);obtain⟨t1,t2,l1,l2,xs,ys,rfl,hx,hy,q⟩:=q1
 cases r1 with
 |cons r rr=>
  cases rr with
  |cons r2 rr=>
   cases rr;cases r;cases r2;have I1:Inv X pins Y H { s with heap:=s.heap.push (du t1 l1) }:=I.kept (t':=s.toks) fun b o e=>Qa _ e
   refine DB (S1:=fun it z1=>it=s.heap.objs.size/\z1={ s with heap:=s.heap.push (du t1 l1) }) (S2:=fun it jt z2=>it=s.heap.objs.size/\jt=(s.heap.push (du t1 l1)).objs.size/\z2={ s with heap:=(s.heap.push (du t1 l1)).push (du t2 l2) })
    (fun A=>sI I hx ⟨_,rfl,rfl,rfl⟩) (fun it z1 h1 A=>?_) fun it jt z2 h2=>?_
   ·obtain⟨rfl,rfl⟩:=h1;exact sI I1 hy ⟨_,rfl,rfl,rfl,rfl⟩
   ·obtain⟨rfl,rfl,rfl⟩:=h2;have z1:(s.heap.push (du t1 l1)).objs.size=s.heap.objs.size+1:=QA ..;generalize e1:s.heap.push (du t1 l1)=g1 at *
    have p1:g1.get? s.heap.objs.size=some (du t1 l1):=by
     rw[<-e1];exact Qe _ (by cases t1<;>rfl)
    have k1:∀ b o,s.heap.get? b=some o->g1.get? b=some o:=fun b o e=>by rw[<-e1];exact Qa _ e
    have z2:(g1.push (du t2 l2)).objs.size=s.heap.objs.size+2:=by rw[QA,z1]
    have p2:(g1.push (du t2 l2)).get? (s.heap.objs.size+1)=some (du t2 l2):=by
     rw[<-z1];exact Qe _ (by cases t2<;>rfl)
    have k2:∀ b o,g1.get? b=some o->(g1.push (du t2 l2)).get? b=some o:=fun b o e=>Qa _ e;generalize e2:g1.push (du t2 l2)=g2 at *;dsimp only;rw[z1]
    have z3:(g2.push { cls:=.type "tuple",data:=.seq (List.toArray [.ref s.heap.objs.size,.ref (s.heap.objs.size+1)]) }).objs.size=s.heap.objs.size+3:=by rw[QA,z2]
    have p3:(g2.push { cls:=.type "tuple",data:=.seq (List.toArray [.ref s.heap.objs.size,.ref (s.heap.objs.size+1)]) }).get? (s.heap.objs.size+2)=some { cls:=.type "tuple",data:=.seq (List.toArray [.ref s.heap.objs.size,.ref (s.heap.objs.size+1)]) }:=by
     rw[<-z2];exact Qe _ rfl
    have k3:∀ b o,g2.get? b=some o->(g2.push { cls:=.type "tuple",data:=.seq (List.toArray [.ref s.heap.objs.size,.ref (s.heap.objs.size+1)]) }).get? b=some o:=fun b o e=>Qa _ e;rw[z2];generalize e3:g2.push { cls:=.type "tuple",data:=.seq (List.toArray [.ref s.heap.objs.size,.ref (s.heap.objs.size+1)]) }=g3 at *;rw[z3]
    have z4:(g3.push { cls:=.type "tuple",data:=.seq (List.toArray [.none,.none]) }).objs.size=s.heap.objs.size+4:=by rw[QA,z3]
    have p4:(g3.push { cls:=.type "tuple",data:=.seq (List.toArray [.none,.none]) }).get? (s.heap.objs.size+3)=some { cls:=.type "tuple",data:=.seq (List.toArray [.none,.none]) }:=by
     rw[<-z3];exact Qe _ rfl
    have k4:∀ b o,g3.get? b=some o->(g3.push { cls:=.type "tuple",data:=.seq (List.toArray [.none,.none]) }).get? b=some o:=fun b o e=>Qa _ e;generalize e4:g3.push { cls:=.type "tuple",data:=.seq (List.toArray [.none,.none]) }=g4 at *;rw[z4]
    have p5:(g4.push { cls:=.type "zip",data:=.fields (List.toArray [.none,.bool false,.bool false,.ref (s.heap.objs.size+2),.ref (s.heap.objs.size+3)]) }).get? (s.heap.objs.size+4)=some { cls:=.type "zip",data:=.fields (List.toArray [.none,.bool false,.bool false,.ref (s.heap.objs.size+2),.ref (s.heap.objs.size+3)]) }:=by
     rw[<-z4];exact Qe _ rfl
    have k5:∀ b o,g4.get? b=some o->(g4.push { cls:=.type "zip",data:=.fields (List.toArray [.none,.bool false,.bool false,.ref (s.heap.objs.size+2),.ref (s.heap.objs.size+3)]) }).get? b=some o:=fun b o e=>Qa _ e;generalize e5:g4.push { cls:=.type "zip",data:=.fields (List.toArray [.none,.bool false,.bool false,.ref (s.heap.objs.size+2),.ref (s.heap.objs.size+3)]) }=g5 at *
    refine wpAny_pyIter_zip (TI:=s.heap.objs.size+2) (TO:=s.heap.objs.size+3) (f0:=.none) p5 ⟨s.heap.objs.size+4,[s.heap.objs.size+4,s.heap.objs.size+2,s.heap.objs.size+3,s.heap.objs.size,s.heap.objs.size+1],_,Itz t1 t2 l1 l2,H,rfl,I.kept (t':=s.toks) fun b o e=>k5 _ _ (k4 _ _ (k3 _ _ (k2 _ _ (k1 _ _ e)))),Ag (far _ 2 4 ∅) (far _ 3 4 ∅) (far _ 2 3 ∅) (far _ 0 4 ∅) (far _ 1 4 ∅) (far _ 0 3 ∅) (far _ 1 3 ∅) (far _ 0 1 ∅) (far _ 0 2 ∅) (far _ 1 2 ∅),
     ⟨p5,k5 _ _ (k4 _ _ p3),⟨_,_,k5 _ _ p4⟩,sN (k5 _ _ (k4 _ _ (k3 _ _ (k2 _ _ p1)))),sN (k5 _ _ (k4 _ _ (k3 _ _ p2)))⟩,fun b hb=>?_,q⟩
    have hb':s.heap.objs.size<=b:=by
     simp only[List.mem_cons,List.mem_nil_iff,or_false]at hb
     rcases hb with rfl | rfl | rfl | rfl | rfl<;>first | exact Qc _ | exact Nat.le_add_right _ _
    exact I.oM hb' (I.hok.fresh hb')
end
end L2
namespace RS
open PySem PySem.Spec PyProof.Rows L2
def jG:∀ (ds es:List RL.D),ds.length=es.length->(RL.fL ds es).length=ds.length
 | [],[],_=>rfl
 | [],_::_,h=>by cases h
 | _::_,[],h=>by cases h
 | d::ds,e::es,h=>by rw[RL.fL,List.length_cons,List.length_cons,jG ds es (by simpa using h)]
def uF:∀ (ds es:List RL.D) (i:Nat) (d:RL.D),(RL.fL ds es)[i]?=some d->∃ x y,ds[i]?=some x/\es[i]?=some y/\d=.tup [x,y]
 | [],es,i,d,h=>by cases es<;>simp[RL.fL]at h
 | _::_,[],i,d,h=>by simp[RL.fL]at h
 | x::ds,y::es,0,d,h=>by simp[RL.fL]at h;exact#[x,y,rfl,rfl,h.symm]
 | x::ds,y::es,i+1,d,h=>by
  rw[RL.fL,List.getElem?_cons_succ]at h;obtain⟨x',y',h1,h2,h3⟩:=uF ds es i d h;exact#[x',y',by simpa using h1,by simpa using h2,h3]
def xR{K:W.Frag}(hl:ds.length=es.length)(h1:H l1=some (eI t1 xs))(h2:H l2=some (eI t2 ys))(n1:¬ P l1)(n2:¬ P l2)(r1:af nP K H ds xs)(r2:af nP K H es ys)(hm:∀ b o,P b->H b=some o->cX o) :
  ja K (Itz t1 t2 l1 l2) (RL.fL ds es) P H where
 go:=fun H' i k hi=>by
  rw[jG ds es hl]at hi;obtain⟨x,e,_⟩:=r1.get (i:=i) (d:=ds[i]) (by simp[hi]);obtain⟨y,e',_⟩:=r2.get (i:=i) (d:=es[i]'⋯) (by simp);exact#[xs,ys,x,y,k _ _ n1 h1,k _ _ n2 h2,e,e']
 stop:=fun H' k=>#[xs,ys,k _ _ n1 h1,k _ _ n2 h2,by rw[jG ds es hl,r1.length],by rw[jG ds es hl,hl,r2.length]]
 yld:=fun H' i d v H2 k e y=>by
  obtain⟨p,x,w,hp,rfl,rfl,hx,hw⟩:=y;obtain⟨dx,dw,g1,g2,rfl⟩:=uF ds es i d e;obtain⟨x',g3,g4⟩:=r1.get g1;obtain⟨w',g5,g6⟩:=r2.get g2;rw[hx xs (k _ _ n1 h1)]at g3;rw[hw ys (k _ _ n2 h2)]at g5;cases g3;cases g5;refine#[aw.bV hp,fun q=>?_]
  have re:Rep nP K H' dx x/\Rep nP K H' dw w:=by
   rcases q with q | q
   ·have q:(dx.imm&&(dw.imm&&true))=true:=q;rw[Bool.and_true,Bool.and_eq_true]at q;exact#[ip hm k g4 q.1,ip hm k g6 q.2]
   ·exact#[g4.same q,g6.same q]
  rw[Rep];exact#[p,[x,w],rfl,aT,af.cons (re.1.same (aw.bV hp)) (af.cons (re.2.same (aw.bV hp)) af.nil)]
def qI{P:Addr->Prop}{K:W.Frag}(h:RL.items d=some ds)(r:Rep P K H d v):∃ t l xs,v=.ref l/\H l=some (eI t xs)/\af P K H ds xs/\(t=false->d=.lst ds):=by
 obtain⟨p,xs,rfl,hp,rs⟩:=fP h r
 rcases hp with⟨q,rfl⟩ | ⟨q,rfl⟩
 ·exact#[false,p,xs,rfl,q,rs,fun _=>rfl]
 ·exact⟨true,p,xs,rfl,q,rs,fun z=>by cases z⟩
section rules
def yb(hg:Gl X "zip")(hm:X.mg "zip" = none)(ha:SE X cl a a')(hb:SE X cl b b')(hn:noStar a=true)(hn2:noStar b=true):PI' (fun _=>True) X (.Tuple elts kx tp) (.Call (.Name "zip" p) [a,b] [] pos) (tI X.K cl (.zip a' b')):=by
 intro pins s Y H R I h;obtain⟨QP,ds,rv,e,k⟩:=h;x_go;gn_on;obtain⟨xs,e1,e⟩:=bind_some e;obtain⟨ys,e2,e⟩:=bind_some e;split at e
 ·rename_i hl;cases e;have hpa:PA X [a,b] (iP (tE X.K cl a') (iP (tE X.K cl b') lg)):=bu ha (bu hb cL (ay [] hn2)) (ay _ hn);refine Ho hg hm hpa (by rw[ay _ hn,ay _ hn2];rfl) (ay [] hn2) pins s Y H R I ?_;refine#[QP,x,rv,ea,fun v H1 r1=>#[QP,y,rv.same r1.same,eb,fun u H2 r2=>?_]];obtain⟨t1,l1,vs,rfl,h1,p1,c1⟩:=qI e1 (r1.rep.same r2.same);obtain⟨t2,l2,us,rfl,h2,p2,c2⟩:=qI e2 r2.rep;refine#[t1,t2,l1,l2,vs,us,rfl,h1,h2,k _ _ (r1.same.trans r2.same) #[xR hl h1 h2 (fun z=>z) (fun z=>z) p1 p2 iw,fun M P z hP av=>?_]];have hP2:=eT (r1.same.trans r2.same) hP;unfold RL.tY at z;rw[Bool.and_eq_true]at z
  have notT:∀ (t:Bool) l zs,H2 l=some (eI t zs)->t=true->¬ P l:=fun t l zs hl ht q=>by
   subst ht;rcases hP2 l _ q hl with⟨_,q⟩ | ⟨_,q⟩ | ⟨_,q⟩<;>cases q
  refine xR hl h1 h2 ?_ ?_ p1 p2 hP2
  ·cases ht:t1 with
   | true=>exact notT t1 l1 vs h1 ht
   | false=>exact nD r1 z.1 hP av _ _ (c1 ht) rfl
  ·cases ht:t2 with
   | true=>exact notT t2 l2 us h2 ht
   |false=>
    refine nD r2 z.2 (fun b q=>?_) (fun j dj vj hj h3 h4=>(av j dj vj hj h3 h4).same r1.same) _ _ (c2 ht) rfl;obtain⟨o,ho,hmu⟩:=hP b q;exact#[o,r1.same _ _ ho,hmu]
 ·cases e
end rules
end RS
namespace L2
open PySem PySem.Spec PyProof.Rows
def qe(xs:List α):∀ k:Nat,k<=xs.length->((List.range k).map fun(j:Nat)=>(((xs.length:Int)-1)+(-1)*(j:Int)).toNat).filterMap (xs.toArray[·]?)=xs.reverse.take k:=by
 intro k
 induction k with
 | zero=>intro _;simp
 |succ k ih=>
  intro hk;rw[List.range_succ,QL,List.filterMap_append,ih ⋯,List.take_succ];congr 1
  have e1:(((xs.length:Int)-1)+(-1)*(k:Int)).toNat=xs.length-1-k:=by lia
  simp only[List.map_cons,List.map_nil,List.filterMap_cons,List.filterMap_nil,e1];rw[List.getElem?_reverse ⋯];simp only[List.getElem?_toArray];rw[List.getElem?_eq_getElem (by omega)];rfl
def AQ(its:List Value):slicePick its.toArray none none (some (-1))=its.reverse.toArray:=by
 have h:=qe its its.length (Qc _);rw[QB (by simp)]at h;unfold slicePick
 have hb:sliceBounds none none (some (-1)) its.toArray.size=((its.length:Int)-1,-1,-1):=by
  simp[sliceBounds]
 rw[hb];dsimp only;unfold sliceRange
 have hc:(if(-1:Int) > 0 then(if(its.length:Int)-1 < -1 then(-1-((its.length:Int)-1)+-1-1) / -1 else 0)else(if(its.length:Int)-1 > -1 then((its.length:Int)-1 - -1 - -1-1) / (- -1)else 0)).toNat=its.length:=by
  rw[if_neg ∅];rw[show(- -1:Int)=1 from rfl];split
  ·rw[Int.ediv_one];lia
  ·lia
 dsimp only;rw[hc,h]
section
def zC(n:Nat):Builtin.Slice.sliceAdjust none none (-1) (n:Int)=((n:Int)-1,-1):=by
 unfold Builtin.Slice.sliceAdjust;rfl
def wm(n:Nat):Builtin.Slice.slicePlaces ((n:Int)-1) (-1) (-1)=n:=by
 unfold Builtin.Slice.slicePlaces;rw[if_neg ∅];rw[show(- -1:Int)=1 from rfl];split
 ·rw[Int.ediv_one];lia
 ·lia
def lY{prog:Program}{w:World}{A:Around}{E:Value->Shared->Prop}{s:Shared}{t sl:Addr}{its:List Value}{k:Tok}{Q:Value->Shared->Prop}(ht:IsTup s.heap t its.toArray)(hs:s.heap.IsSliceOf sl .none .none (.int (-1) k))
 (h:Q (.ref s.heap.objs.size) { s with heap:=s.heap.push { cls:=.type "tuple",data:=.seq its.reverse.toArray } })
 (hsz:its.length<=sizeLine):wpAny (model prog w) A (getItem (.ref t) (.ref sl)) Q E s:=by
 have htake:sizeOk (.seq its.reverse.toArray):=by
  show its.reverse.toArray.size<=sizeLine;rw[List.size_toArray,List.length_reverse];exact hsz
 obtain⟨os,hos,hcs,hds⟩:=id hs
 have hTs:s.TypeIs (.ref sl) "slice" := #[os,hos,hcs]
 unfold getItem
 try with_reducible refine wpAny_holding ?_
 first | refine Qb (Qd ?_) | skip
 refine Qb (wpAny_sequenceKey ht.typeIs ∅ ?_)
 refine Qb (wpAny_callSpecial?_slot (name:=Str.ofString "__getitem__") ht.typeIs PyProof.Rows.slot_tuple_getitem
  (wpAny_call_entry PyProof.Rows.slot_tuple_getitem ht.typeIs entry_tuple_getitem ?_ (args_tuple_getitem _ _)))
 show wpAny _ _ (Builtin.Tuple.tupleItemsOf (.ref t) >>= _) _ _ s;refine Qb (tupleItemsOf_ ht ?_);refine Qb (wpAny_typeOf hTs ?_);rw[if_pos ∅];refine Qb ?_;unfold Builtin.Slice.sliceApplied Builtin.Slice.sliceFields;refine Qb (Qb (wpAny_field hos hds (x:=.none) rfl (Qb (wpAny_field hos hds (x:=.none) rfl (Qb (wpAny_field hos hds (x:=.int (-1) k) rfl (Qd ?_)))))));refine Qb (HT.fh (.int (-1) k) ?_);show wpAny _ _ (if((-1:Int) == 0)=true then _ else _) _ _ s;rw[if_neg ∅];refine Qb (HT.fh .none (Qb (HT.fh .none (Qb (Qd ?_)))));show wpAny _ _ (match Builtin.Slice.sliceAdjust none none (-1) (its.toArray.size:Int)with | (lo,hi)=>pure (lo,(-1:Int),Builtin.Slice.slicePlaces lo hi (-1))) _ _ s;rw[List.size_toArray,zC];show wpAny _ _ (pure ((its.length:Int)-1,(-1:Int),Builtin.Slice.slicePlaces ((its.length:Int)-1) (-1) (-1))) _ _ s;rw[wm];refine Qd ?_;show wpAny _ _ (if(((its.length:Int)-1 == 0)&&(-1:Int) == 1&&its.length == its.toArray.size)=true then _ else _) _ _ s;rw[if_neg (by rw[show((-1:Int) == 1)=false from rfl,Bool.and_false,Bool.false_and];exact Qi)]
 have pk:((List.range its.length).filterMap fun(m:Nat)=>its.toArray[((its.length:Int)-1+(m:Int)*-1).toNat]?).toArray=its.reverse.toArray:=by
  have h:=qe its its.length (Qc _);rw[QB (by simp),List.filterMap_map]at h;rw[<-h];congr 2;funext m;simp only[Function.comp];congr 2;lia
 rw[pk]
 first
  | exact Qb (m:=Builtin.Tuple.tupleExact _) (wpAny_newObj_type (Qd ⟨_,rfl,Qd h⟩) htake)
  | exact Qb (m:=Builtin.Tuple.tupleExact _) (wpAny_newObj_type (Qb (Qd (Qd ⟨_,rfl,Qd h⟩))) htake)
  | exact Qb (Qb (m:=Builtin.Tuple.tupleExact _) (wpAny_newObj_type (Qd (Qd ⟨_,rfl,Qd h⟩)) htake))
  | exact Qb (Qb (m:=Builtin.Tuple.tupleExact _) (wpAny_newObj_type (Qd ⟨_,rfl,Qd h⟩) htake))
abbrev JA(K:W.Frag)(te:TE):TE:=fun Y H Q=>te Y H fun x H1=>∃ a xs,x=.ref a/\((SqL K H1 a xs/\∀ p,H1 p=none->Q (.ref p) (upd H1 p (.lst xs.reverse)))\/(SqT K H1 a xs/\∀ p,H1 p=none->Q (.ref p) (upd H1 p (.tup xs.reverse))))
def EA(h3:PE X e3 (tC (.int (-1))))(he:PE X e te):PE X (.Subscript e (.Slice none none (some e3) p2) pos) (JA X.K te):=by
 kt_k;refine Subscript_ (thn (he pins s Y H _ I h) fun v s1 ⟨x,H1,I1,r1,q1⟩=>?_);refine wpAny_Slice ?_;rw[evalPart_none];refine Qd (Qd ?_);rw[evalPart_some];refine thn (h3 pins s1 Y H1 (fun y H2=>y=.int (-1)/\H2=H1) I1 ⟨rfl,rfl⟩) fun vs s3 ⟨y,H3,I3,r3,q3⟩=>?_;obtain⟨rfl,rfl⟩:=q3;obtain⟨t,rfl⟩:=r3;obtain⟨a,xs,rfl,q⟩:=q1;cases r1;have I4:Inv X pins Y H3 { s3 with heap:=s3.heap.push { cls:=.type "slice",data:=.fields (List.toArray [.none,.none,.int (-1) t]) } }:=I3.kept (t':=s3.toks) fun b ob q=>Qa _ q;show wpAny (model X.prog X.w) X.A (subscriptTail e (.Slice none none (some e3) p2) (.ref a) (.ref s3.heap.objs.size)) (EP X pins Y Q) X.xe { s3 with heap:=s3.heap.push { cls:=.type "slice",data:=.fields (List.toArray [.none,.none,.int (-1) t]) } }
 rcases q with⟨hx,q⟩ | ⟨hx,q⟩
 ·obtain⟨its,r,ht,hz⟩:=I4.list hx;have hlen:=r.length;refine tail_any (ops:=[.ref a,.ref s3.heap.objs.size]) ht.isList.typeIs slot_list_getitem.lookup ?_ (by with_unfolding_all rfl);refine wpAny_getItem_list_slice ht.isList (Heap.IsSliceOf.new ..) .none .none (.int (-1) t) (by simp) ?_ (by rw[List.size_toArray]<;>lia);rw[AQ];refine#[.ref _,_,I4.laid (t':=s3.toks) (o:=.lst xs.reverse) (fun b ob q=>Qa _ q) (Qc _) ?_,rfl,q _ (I4.hok.fresh (Qc _))];exact#[by rw[List.length_reverse];exact hz,_,0,r.reverse,Qe _ rfl]
 ·obtain⟨its,r,ht,hz⟩:=I4.tuple hx;have hlen:=r.length;refine tail_any (ops:=[.ref a,.ref s3.heap.objs.size]) ht.typeIs PyProof.Rows.slot_tuple_getitem.lookup ?_ (by with_unfolding_all rfl);refine lY ht (Heap.IsSliceOf.new ..) ?_ ⋯;refine#[.ref _,_,I4.laid (t':=s3.toks) (o:=.tup xs.reverse) (fun b ob q=>Qa _ q) (Qc _) ?_,rfl,q _ (I4.hok.fresh (Qc _))];exact#[by rw[List.length_reverse];exact hz,_,r.reverse,IsTup.new _ _]
end
end L2
namespace RS
open PySem PySem.Spec PyProof.Rows L2
section
def Gh(ha:SE X cl a a')(h3:gw (-1) e3=true):SE X cl (.Subscript a (.Slice none none (some e3) p2) pos) (.rev a'):=by
 refine PE.weak (EA (j4 h3).1 ha) fun Y H Q h=>?_;kd_p;x_go;refine#[QP,x,rv,ea,fun v H1 r1=>?_]
 cases x with
 |lst xs=>
  cases e;obtain⟨q,ys,rfl,_,f2,f3⟩:=aG r1.rep;exact#[q,ys,rfl,.inl #[SqL.of f2,fun l hl=>k _ _ (et r1.same hl f3.rev fun _=>rfl)]]
 |tup xs=>
  cases e;obtain⟨q,ys,rfl,f2,f3⟩:=br r1.rep;exact#[q,ys,rfl,.inr #[SqT.of f2,fun l hl=>k _ _ (gf r1.same hl f3.rev fun _=>rfl)]]
 | _=>cases e
def AU{c:Expr}{body:List Stmt}{b:RL.Ss}(hx:X.xe=fun _ _=>False)(hc:ST X cl c c')(hb:SSs X cl M body b):SS X cl M (.While c body [] pos) (.whil c' b):=by
 refine PS.weak (A9 (by rw[hx];exact PassesOwn.never) hc hb) fun D Y H h=>?_;obtain⟨QP,r,QT,rv,e,k⟩:=h;refine#[fun m QS H2=>∃ QV,RVm X.K M QV QS H2/\Fr' M Y H QS H2/\RL.whF (fun Y=>(RL.ev cl Y c').bind RL.truth) (RL.ag cl M b) m QV=some (r,QT),#[_,QP,rv,Fr'.same (aw.refl _),e],?_];rintro m QS H2 ⟨QV,rv2,fr2,hl⟩
 cases m with
 | zero=>rw[RL.whF]at hl;cases hl
 |succ m=>
  rw[RL.whF]at hl;obtain⟨t,e1,hl⟩:=bind_some hl;refine#[QV,t,rv2.rv0,e1,fun H3 s3=>?_];have fr3:=fr2.trans (Fr'.same (M:=M) (Y:=QS) s3)
  cases t with
  |true=>
   rw[if_pos rfl]at hl;dsimp only;rw[if_pos rfl];obtain⟨⟨o,Q3⟩,e2,hl⟩:=bind_some hl;refine#[fun QQ H'=>∃ m',m'<m+1/\∃ Q4,RVm X.K M Q4 QQ H'/\Fr' M Y H QQ H'/\RL.whF (fun Y=>(RL.ev cl Y c').bind RL.truth) (RL.ag cl M b) m' Q4=some (r,QT),fun _ _ h=>h,QV,o,Q3,rv2.same s3,e2,?_]
   cases o with
   | nx=>exact fun QQ H' rv' fr'=>#[m,by lia,Q3,rv',fr3.trans fr',hl]
   |rt d=>
    cases hl;exact fun QQ H' v H4 rv' fr' sm rp=>k QQ H' v H4 rv' (fr3.trans fr') sm rp
  |false=>
   rw[if_neg ∅]at hl;dsimp only;rw[if_neg ∅];cases hl;exact k QS H3 (rv2.same s3) fr3
end
end RS
namespace L2
open PySem PySem.Spec PyProof.Rows
section
end
section
end
end L2
namespace RS
open PySem PySem.Spec PyProof.Rows L2
section
end
section
variable{st:Stmt}
end
section
variable{X:Cx}
end
end RS
namespace L2
open PySem PySem.Spec PyProof.Rows
end L2
namespace RS
open PySem PySem.Spec PyProof.Rows L2
end RS
namespace L2
open PySem PySem.Spec PyProof.Rows
section
variable{prog:Program}{w:World}{A:Around}{E:Value->Shared->Prop}{s:Shared}
end
end L2
namespace RS
open PySem PySem.Spec PyProof.Rows L2
end RS
namespace L2
open PySem PySem.Spec PyProof.Rows
end L2
namespace RS
open PySem PySem.Spec PyProof.Rows L2
end RS
namespace L2
open PySem PySem.Spec PyProof.Rows
end L2
namespace RS
open PySem PySem.Spec PyProof.Rows L2
section
open PySem.Builtin.Str
end
section
variable{X:Cx}{cl:RL.Cl}{a b:Expr}{a' b' e':RL.E}{pos p2:Pos}{M:List Nat}{st:Stmt}{i:Nat}
end
section
variable{X:Cx}{cl:RL.Cl}{a b c d:Expr}{a' b' c' d':RL.E}{pos apos p p2 p3:Pos}
end
def nos{α:Type}{P:Prop}{x:α}(h:(none:Option α)=some x):P:=by cases h
def ak{α:Type}{o:Option α}{f:α->Bool}(h:o.any f=true):∃ x,o=some x/\f x=true:=by
 cases o with
 | none=>cases h
 | some x=>exact#[x,rfl,h]
def ae{a b:Bool}(h:(a&&b)=true):a=true/\b=true:=by rw[Bool.and_eq_true]at h;exact h
abbrev eE:Expr->Option Str
 | .Name x _=>some x
 | _=>none
def cE{e:Expr}{x:Str}(h:eE e=some x):∃ p,e=.Name x p:=by
 cases e
 case Name=>cases h;exact#[_,rfl]
 k_ne
abbrev pA:Expr->Option Const
 | .Constant k _ _=>some k
 | _=>none
def jg{e:Expr}{k:Const}(h:pA e=some k):∃ j p,e=.Constant k j p:=by
 cases e
 case Constant=>cases h;exact#[_,_,rfl]
 k_ne
abbrev FH:Expr->Option (Expr × Operator × Expr)
 | .BinOp l o r _=>some (l,o,r)
 | _=>none
def Dq{e:Expr}{l r:Expr}{o:Operator}(h:FH e=some (l,o,r)):∃ p,e=.BinOp l o r p:=by
 cases e
 case BinOp=>cases h;exact#[_,rfl]
 k_ne
abbrev vUn:Expr->Option (UnaryOp × Expr)
 | .UnaryOp o x _=>some (o,x)
 | _=>none
def tO{e x:Expr}{o:UnaryOp}(h:vUn e=some (o,x)):∃ p,e=.UnaryOp o x p:=by
 cases e
 case UnaryOp=>cases h;exact#[_,rfl]
 k_ne
abbrev mV:Expr->Option (Expr × List CmpOp × List Expr)
 | .Compare l o r _=>some (l,o,r)
 | _=>none
def ie{e l:Expr}{r:List Expr}{o:List CmpOp}(h:mV e=some (l,o,r)):∃ p,e=.Compare l o r p:=by
 cases e
 case Compare=>cases h;exact#[_,rfl]
 k_ne
abbrev vBool:Expr->Option (BoolOp × List Expr × Pos)
 | .BoolOp o es p=>some (o,es,p)
 | _=>none
def jF{e:Expr}{es:List Expr}{o:BoolOp}{p:Pos}(h:vBool e=some (o,es,p)):e=.BoolOp o es p:=by
 cases e
 case BoolOp=>cases h;exact rfl
 k_ne
abbrev Fb:Expr->Option (Expr × Expr × Expr)
 | .IfExp c a b _=>some (c,a,b)
 | _=>none
def Du{e a b c:Expr}(h:Fb e=some (c,a,b)):∃ p,e=.IfExp c a b p:=by
 cases e
 case IfExp=>cases h;exact#[_,rfl]
 k_ne
abbrev kM:Expr->Option (List Expr)
 | .Tuple es _ _=>some es
 | _=>none
def e8{e:Expr}{es:List Expr}(h:kM e=some es):∃ k p,e=.Tuple es k p:=by
 cases e
 case Tuple=>cases h;exact#[_,_,rfl]
 k_ne
abbrev G0:Expr->Option (List Expr)
 | .List es _=>some es
 | _=>none
def C3{e:Expr}{es:List Expr}(h:G0 e=some es):∃ p,e=.List es p:=by
 cases e
 case List=>cases h;exact#[_,rfl]
 k_ne
abbrev mU:Expr->Option (Expr × Expr)
 | .Subscript a b _=>some (a,b)
 | _=>none
def fZ{e a b:Expr}(h:mU e=some (a,b)):∃ p,e=.Subscript a b p:=by
 cases e
 case Subscript=>cases h;exact#[_,rfl]
 k_ne
abbrev vSl:Expr->Option (Option Expr × Option Expr × Option Expr)
 | .Slice a b c _=>some (a,b,c)
 | _=>none
def uz{e:Expr}{a b c:Option Expr}(h:vSl e=some (a,b,c)):∃ p,e=.Slice a b c p:=by
 cases e
 case Slice=>cases h;exact#[_,rfl]
 k_ne
abbrev kg:Expr->Option (Expr × List Expr × List Keyword × Pos)
 | .Call f as ks p=>some (f,as,ks,p)
 | _=>none
def eP{e f:Expr}{as:List Expr}{ks:List Keyword}{p:Pos}(h:kg e=some (f,as,ks,p)):e=.Call f as ks p:=by
 cases e
 case Call=>cases h;exact rfl
 k_ne
abbrev xw:Expr->Option (Expr × Str × Pos)
 | .Attribute o x p=>some (o,x,p)
 | _=>none
def sL{e o:Expr}{x:Str}{p:Pos}(h:xw e=some (o,x,p)):e=.Attribute o x p:=by
 cases e
 case Attribute=>cases h;exact rfl
 k_ne
abbrev wg:Expr->Option (Expr × List Comprehension × Scope × Pos)
 | .ListComp e gs sc p=>some (e,gs,sc,p)
 | _=>none
def ud{e x:Expr}{gs:List Comprehension}{sc:Scope}{p:Pos}(h:wg e=some (x,gs,sc,p)):e=.ListComp x gs sc p:=by
 cases e
 case ListComp=>cases h;exact rfl
 k_ne
abbrev xB:Expr->Option (List (Option Expr) × List Expr)
 | .Dict ks vs _=>some (ks,vs)
 | _=>none
def tj{e:Expr}{ks:List (Option Expr)}{vs:List Expr}(h:xB e=some (ks,vs)):∃ p,e=.Dict ks vs p:=by
 cases e
 case Dict=>cases h;exact#[_,rfl]
 k_ne
abbrev of1{α:Type}(xs:List α)(f:α->Bool):Bool:=match xs with
 | [a]=>f a
 | _=>false
abbrev of2{α:Type}(xs:List α)(f:α->α->Bool):Bool:=match xs with
 | [a,b]=>f a b
 | _=>false
abbrev of3{α:Type}(xs:List α)(f:α->α->α->Bool):Bool:=match xs with
 | [a,b,c]=>f a b c
 | _=>false
def aN{α:Type}:∀ {xs:List α} {f:α->Bool},of1 xs f=true->∃ a,xs=[a]/\f a=true
 | [a],_,h=>#[a,rfl,h]
def eg{α:Type}:∀ {xs:List α} {f:α->α->Bool},of2 xs f=true->∃ a b,xs=[a,b]/\f a b=true
 | [a,b],_,h=>#[a,b,rfl,h]
def xV{α:Type}:∀ {xs:List α} {f:α->α->α->Bool},of3 xs f=true->∃ a b c,xs=[a,b,c]/\f a b c=true
 | [a,b,c],_,h=>#[a,b,c,rfl,h]
abbrev ofM{α:Type}(xs:List α)(f:α->α->List α->Bool):Bool:=match xs with
 | a::b::r=>f a b r
 | _=>false
def ng{α:Type}:∀ {xs:List α} {f:α->α->List α->Bool},ofM xs f=true->∃ a b r,xs=a::b::r/\f a b r=true
 | a::b::r,_,h=>#[a,b,r,rfl,h]
abbrev m9:Stmt->Option (List Expr × Expr)
 | .Assign ts e _=>some (ts,e)
 | _=>none
def eA{st:Stmt}{ts:List Expr}{e:Expr}(h:m9 st=some (ts,e)):∃ p,st=.Assign ts e p:=by
 cases st
 case Assign=>cases h;exact#[_,rfl]
 k_ne
abbrev Fm:Stmt->Option (Expr × Operator × Expr)
 | .AugAssign t o e _=>some (t,o,e)
 | _=>none
def DY{st:Stmt}{t e:Expr}{o:Operator}(h:Fm st=some (t,o,e)):∃ p,st=.AugAssign t o e p:=by
 cases st
 case AugAssign=>cases h;exact#[_,rfl]
 k_ne
abbrev wq:Stmt->Option Expr
 | .Expr e _=>some e
 | _=>none
def lG{st:Stmt}{e:Expr}(h:wq st=some e):∃ p,st=.Expr e p:=by
 cases st
 case Expr=>cases h;exact#[_,rfl]
 k_ne
abbrev wIf:Stmt->Option (Expr × List Stmt × List Stmt)
 | .If c a b _=>some (c,a,b)
 | _=>none
def tP{st:Stmt}{c:Expr}{a b:List Stmt}(h:wIf st=some (c,a,b)):∃ p,st=.If c a b p:=by
 cases st
 case If=>cases h;exact#[_,rfl]
 k_ne
abbrev Hz:Stmt->Option (Expr × Expr × List Stmt × List Stmt)
 | .For t i b o _=>some (t,i,b,o)
 | _=>none
def vQ{st:Stmt}{t i:Expr}{b o:List Stmt}(h:Hz st=some (t,i,b,o)):∃ p,st=.For t i b o p:=by
 cases st
 case For=>cases h;exact#[_,rfl]
 k_ne
abbrev FK:Stmt->Option (Expr × List Stmt × List Stmt)
 | .While c b o _=>some (c,b,o)
 | _=>none
def DN{st:Stmt}{c:Expr}{b o:List Stmt}(h:FK st=some (c,b,o)):∃ p,st=.While c b o p:=by
 cases st
 case While=>cases h;exact#[_,rfl]
 k_ne
abbrev Fi:Stmt->Option (Option Expr)
 | .Return e _=>some e
 | _=>none
def vP{st:Stmt}{e:Option Expr}(h:Fi st=some e):∃ p,st=.Return e p:=by
 cases st
 case Return=>cases h;exact#[_,rfl]
 k_ne
end RS
namespace L2
open PySem PySem.Spec PyProof.Rows
def zI{o:Obj}:(o.mapFields f).dict=o.dict:=by
 obtain⟨c,d,dt,sl⟩:=o;cases dt<;>rfl
abbrev Exc(P:Addr->Prop)(e:Addr)(C:Addr)(tb:Bool)(h:Heap):Prop :=
 ∃ oe vs,h.get? e=some oe/\(oe.cls=.ref C/\oe.dict=none)/\oe.data=.fields vs/\vs[2]?=some .none/\¬ P e /\
  ((tb=false/\vs[1]?=some .none)\/∃ T oT ts,vs[1]?=some (.ref T)/\T≠e/\h.get? T=some oT/\oT.data=.fields ts/\ts[3]?=some .none/\¬ P T)
structure Off1(P:Addr->Prop)(fs:List Addr)(h h':Heap):Prop where
 sz:h.objs.size<=h'.objs.size
 keep:∀ b o,P b->b∉fs->h.get? b=some o->h'.get? b=some o
 slot:∀ b o,P b->b∈fs->h.get? b=some o->∃ sl,h'.get? b=some { o with slots:=sl }
def Off1.trans(a:Off1 P fs h h1)(b:Off1 P fs h1 h2):Off1 P fs h h2 where
 sz:=Qr a.sz b.sz
 keep:=fun c o p n e=>b.keep c o p n (a.keep c o p n e)
 slot:=fun c o p n e=>by
  obtain⟨sl,e1⟩:=a.slot c o p n e;obtain⟨sl2,e2⟩:=b.slot c _ p n e1;exact#[sl2,e2]
def Off1.wQ(n:¬ P a)(f:Obj->Obj):Off1 P fs h (h.update a f) where
 sz:=by rw[(Heap.SameBut.update ..).1];exact Qc _
 keep:=fun b o p _ e=>by rw[Qw _ _ (show a≠b from fun z=>n (z.symm▸p))];exact e
 slot:=fun b o p _ e=>#[o.slots,by rw[Qw _ _ (show a≠b from fun z=>n (z.symm▸p))];exact e]
def Off1.ext(o:Obj):Off1 P fs h (h.push o) where
 sz:=by rw[QA];exact Nat.le_succ _
 keep:=fun b _ _ _ e=>Qa _ e
 slot:=fun b o _ _ e=>#[o.slots,Qa _ e]
def Off1.slots(x:Heap.SlotsOnly fs h h'):Off1 P fs h h' where
 sz:=Nat.le_of_eq x.1.symm
 keep:=fun b o _ n e=>(x.2.1 b n).trans e
 slot:=fun b o _ _ e=>x.2.2 b o e
section
def uC(hfr:A.frames=some (env::outer))(hl:s.heap.FunFrames base (env::outer))(hf:env.frame=some L)(he:s.heap.get? e=some oe)(hc:oe.cls=.ref C/\oe.dict=none)(hd:oe.data=.fields vs)(h2:vs[2]?=some .none)
 (ne:¬ P e)(hP:∀ b,P b->b<s.heap.objs.size)(k:∀ h',Exc P e C true h'->Off1 P (frs (env::outer)) s.heap h'->Q () { s with heap:=h' }) :
  wpAny M A (do let fr <- frameOf env;let q <- entryPlaceOf L had;let t <- EntryCells.newEntry head fr .none (rawInt L) .none q;setField (.ref e) 1 t) (fun _ s2=>wpAny M A (setFlight (.ref e) none) Q E s2) E s:=by
 have efr:e∉(env::outer).filterMap (·.frame):=fun z=>by
  obtain⟨_,o,ho,hn⟩:=hl.mem z;rw[he]at ho;cases ho;exact hn vs hd
 have z1:1<vs.size:=Nat.lt_trans ∅ (Array.getElem?_eq_some_iff.mp h2).1;f_are;refine wpAny_frameOf_fun hfr hl hf fun g1 sl=>?_;f_are;refine wpAny_entryPlaceOf fun q hq=>?_;unfold EntryCells.newEntry newFields;f_are;refine wpAny_newObj_type ?_ (hq.sizeOk5 _ _ _ _ _);have e1:g1.get? e=some oe:=(sl.2.1 e efr).trans he;generalize hto:({ cls:=.type "traceback",dict:=none,data:=.fields ([head,.ref L,.none,rawInt L,.none]++(if q.isEmpty then List.replicate 6 Value.none else q)).toArray }:Obj)=to;have e2:(g1.push to).get? e=some oe:=Qa _ e1;have te:g1.objs.size≠e:=Nat.ne_of_gt (Qg e1);refine wpAny_setField e2 hd z1 ?_;have d3:=Obj.data_mapFields hd (·.setIfInBounds 1 (Value.ref g1.objs.size));have e3:=Qt (Obj.mapFields (·.setIfInBounds 1 (Value.ref g1.objs.size))) e2 (Obj.isFreed_of_fields d3)
 have tod:to.data=.fields ([head,.ref L,.none,rawInt L,.none]++(if q.isEmpty then List.replicate 6 Value.none else q)).toArray:=by rw[<-hto]
 have t3:=(Qw (g1.push to) (Obj.mapFields (·.setIfInBounds 1 (Value.ref g1.objs.size))) (Ne.symm te)).trans (Qe g1 (by rw[<-hto];rfl));unfold setFlight;f_are;refine wpAny_field e3 d3 (x:=.ref g1.objs.size) (by simp[z1]) ?_;rw[if_pos (show(Value.ref g1.objs.size != Value.none)=true from by simp)];refine wpAny_setField t3 tod (by simp only[List.size_toArray,List.length_append,List.length_cons,List.length_nil]<;>omega) (k _ ?_ ?_)
 ·refine#[_,_,(Qw _ _ te).trans e3,#[(Obj.cls_mapFields _ _).trans hc.1,zI.trans hc.2],d3,by rw[Array.getElem?_setIfInBounds_ne ∅];exact h2,ne,.inr #[g1.objs.size,_,_,by simp[z1],te,Qt _ t3 (Obj.isFreed_of_fields (Obj.data_mapFields tod _)),Obj.data_mapFields tod _,?_,fun z=>?_]]
  ·rw[Array.getElem?_setIfInBounds_self_of_lt (by simp only[List.size_toArray,List.length_append,List.length_cons,List.length_nil]<;>omega)];rfl
  ·have:=hP _ z;rw[sl.1]at this;exact QC _ this
 ·refine(((Off1.slots sl).trans (Off1.ext _)).trans (Off1.wQ ne _)).trans (Off1.wQ (fun z=>?_) _);have:=hP _ z;rw[sl.1]at this;exact QC _ this
def qd(hfr:A.frames=some (env::outer))(hl:s.heap.FunFrames base (env::outer))(hf:env.frame=some L)(x:Exc P e C tb s.heap)(hP:∀ b,P b->b<s.heap.objs.size)
 (k:∀ h',Exc P e C true h'->Off1 P (frs (env::outer)) s.heap h'->Q () { s with heap:=h' }) :
  wpAny M A (noteFrame (.ref e) env) (fun _ s2=>wpAny M A (setFlight (.ref e) none) Q E s2) E s:=by
 obtain⟨oe,vs,he,hc,hd,h2,ne,x⟩:=x;unfold noteFrame;simp only[hf];f_are
 rcases x with⟨_,h1⟩ | ⟨T,oT,ts,h1,hTe,hT,hdT,h3,nT⟩
 ·refine wpAny_field he hd h1 ?_;rw[if_neg ∅];exact uC hfr hl hf he hc hd h2 ne hP k
 ·refine wpAny_field he hd h1 ?_;rw[if_pos (show(Value.ref T != Value.none)=true from by simp)];f_are;refine wpAny_field hT hdT h3 ?_;rw[if_neg (show ¬ ((Value.none == rawInt L)=true)from by simp[rawInt])];f_are;refine wpAny_setField hT hdT (Array.getElem?_eq_some_iff.mp h3).1 ?_;have oth:∀ b,b≠T->(s.heap.update T (Obj.mapFields (·.setIfInBounds 3 Value.none))).get? b=s.heap.get? b:=fun b hb=>Qw _ _ (Ne.symm hb);have up:Off1 P (frs (env::outer)) s.heap (s.heap.update T (Obj.mapFields (·.setIfInBounds 3 Value.none))):=Off1.wQ nT _
  have hl':(s.heap.update T (Obj.mapFields (·.setIfInBounds 3 Value.none))).FunFrames base (env::outer):=hl.of_keeps fun b o hb hn=>⟨o,(oth b fun z=>by
   rw[z,hT]at hb;cases hb
   exact hn ts hdT).trans hb,rfl⟩
  exact uC (s:={ s with heap:=s.heap.update T (Obj.mapFields (·.setIfInBounds 3 Value.none)) }) hfr hl' hf ((oth e (Ne.symm hTe)).trans he) hc hd h2 ne (fun b hb=>Qh (hP b hb) up.sz) fun h' x' o'=>k h' x' (up.trans o')
def yB(hfr:A.frames=some (env::outer))(hl:s.heap.FunFrames base (env::outer))(hf:env.frame=some L)(x:Exc P e C tb s.heap)(hP:∀ b,P b->b<s.heap.objs.size)
 (k:∀ h',Exc P e C true h'->Off1 P (frs (env::outer)) s.heap h'->Q () { s with heap:=h' }):wpAny M A (leaving env (.ref e)) Q E s:=by
 unfold leaving;exact Qb (qd hfr hl hf x hP k)
end
def bC.there(x:bC P w H h a o):∃ u,h.get? a=some u:=by
 cases o with
 | lst xs=>obtain⟨_,_,_,_,e⟩:=x;exact#[_,e]
 | tup xs=>obtain⟨_,_,_,o,e,_⟩:=x;exact#[_,e]
 | dK kvs=>obtain⟨_,_,_,_,o,_,_,e,_⟩:=x;exact#[_,e]
 | dT kvs=>obtain⟨_,_,_,_,o,_,_,e,_⟩:=x;exact#[_,e]
 | set S n=>obtain⟨o,_,_,_,e,_⟩:=x;exact#[_,e]
 | ins C dx fs=>obtain⟨_,_,_,e,_⟩:=x;exact#[_,e]
 | own y=>exact x
 | xd fs=>obtain⟨_,⟨_,_,_,e,_⟩,_⟩:=x;exact#[_,e]
 | rng lo hi=>obtain⟨_,_,_,e⟩:=x;exact#[_,e]
 | frz ob u=>exact#[_,x.1]
 | tbl ps=>exact#[_,x]
 | met f y=>exact#[_,x]
 | ext φ=>exact x.2.1
abbrev gM(h:Heap)(H:Hp)(b:Addr):Prop:=(∃ o,h.get? b=some o)\/H b≠none
def Exc.mono(x:Exc P e C tb h)(k:∀ b,P' b->P b):Exc P' e C tb h:=by
 obtain⟨oe,vs,h1,h2,h3,h4,h5,h6⟩:=x;refine#[oe,vs,h1,h2,h3,h4,fun z=>h5 (k _ z),h6.imp (fun z=>z) fun#[T,oT,ts,a1,a2,a3,a4,a5,a6]=>#[T,oT,ts,a1,a2,a3,a4,a5,fun z=>a6 (k _ z)]]
abbrev CXE(P:Program)(w:World):CXT:=fun outer H s E e s'=>∃ x C H',e=.ref x/\E (.ref C) none H'/\s'.os=s.os/\AllBare s'.gens/\Un (frs outer) [] H H' s.heap s'.heap/\HOk P w H' s'.heap/\Exc (gM s.heap H') x C true s'.heap
section
def Inv.old(I:Inv X pins Y H s)(hex:X.ex=[])(e:X.s₀.heap.get? b=some o):∃ o',s.heap.get? b=some o':=I.base.there b o e (by rw[hex];simp)
def sH(I:Inv X pins Y H s)(hst:X.stack=X.env::X.outer)(hfrm:X.env.frame=some X.env.locals)(hex:X.ex=[])(x:Exc (gM X.s₀.heap H) e C tb s.heap)(hE:EE (.ref C) none H)(hA:A.frames=some (X.env::X.outer)) :
  wpAny (model X.prog X.w) A (leaving X.env (.ref e)) (fun _ s2=>CXE X.prog X.w X.outer X.H₀ X.s₀ EE (.ref e) s2) E' s:=by
 have hl:=I.stack;rw[hst]at hl
 have hfr:∀ b∈frs (X.env::X.outer),H b=none:=by
  have:=I.lj;rw[hst]at this;exact this
 have hP:∀ b,gM X.s₀.heap H b->b<s.heap.objs.size:=fun b hb=>by
  rcases hb with⟨o,e⟩ | hb
  ·exact Qh (Qg e) I.sz
  ·obtain⟨o,ho⟩:=Option.ne_none_iff_exists'.mp hb;exact I.hok.lt ho
 refine yB hA hl hfrm x hP fun h' x' o'=>?_;have fsE:X.fs=frs X.outer:=rfl
 have mem:∀ b o,X.s₀.heap.get? b=some o->b∉frs X.outer->b∉frs (X.env::X.outer):=fun b o e n z=>by
  unfold frs at z;rw[List.filterMap_cons,hfrm]at z;rcases List.mem_cons.mp z with z | z
  ·have h1:=Qg e;have h2:=I.ok.above;rw[z]at h1;exact QC _ (Qh h1 h2)
  ·exact n z
 have mem2:∀ b,b∈frs X.outer->b∈frs (X.env::X.outer):=fun b z=>by
  unfold frs;rw[List.filterMap_cons,hfrm];exact Ql _ z
 have nex:∀ b:Addr,b∉X.ex:=fun b=>by rw[hex];simp
 refine#[e,C,H,rfl,hE,I.os,I.bare,#[fun b o q n hb _=>?_,fun b o q n hb _=>?_,fun b o q n _=>I.base.free b o q n (nex b),fun b o q _=>?_,I.base.eV,I.base.da,I.base.eQ],fun a o q=>?_,x']
 ·exact o'.keep b o (.inl #[o,q]) (mem b o q hb) (I.base.keep b o q n hb (nex b))
 ·obtain⟨sl,q2⟩:=I.base.slot b o q n hb (nex b);obtain⟨sl2,q3⟩:=o'.slot b _ (.inl #[o,q]) (mem2 b hb) q2;exact#[sl2,q3]
 ·obtain⟨o1,q1⟩:=I.base.there b o q (nex b);by_cases hb:b∈frs (X.env::X.outer)
  ·obtain⟨sl,q2⟩:=o'.slot b _ (.inl #[o,q]) hb q1;exact#[_,q2]
  ·exact#[_,o'.keep b _ (.inl #[o,q]) hb q1]
 ·refine(I.hok a o q).jE (fun b u hb r=>?_) (fun _ z=>z) fun _ _ z=>z
  have hn:H b≠none:=by
   rcases hb with rfl | hb
   ·rw[q];exact fun z=>nomatch z
   ·rw[hb];exact fun z=>nomatch z
  exact o'.keep b u (.inr hn) (fun z=>hn (hfr b z)) r
def Inv.refused(I:Inv X pins Y H s)(hex:X.ex=[])(h:CXE X.prog X.w X.stack H s E e s'):∃ x C H',e=.ref x/\E (.ref C) none H'/\Inv X pins Y H' s'/\Exc (gM X.s₀.heap H') x C true s'.heap/\Exc (gM s.heap H') x C true s'.heap/\Un (frs X.stack) [] H H' s.heap s'.heap:=by
 obtain⟨x,C,H',rfl,hE,os,bare,un,hok,ex⟩:=h;obtain⟨hh,g,d,t,os'⟩:=s';obtain rfl:os'=s.os:=os;refine#[x,C,H',rfl,hE,I.call (h':=hh) (g':=g) (d':=d) (t':=t) (ch:=[]) un hok bare (fun b z=>absurd z (by simp)),ex.mono fun b hb=>?_,ex,un];rcases hb with⟨o,q⟩ | hb
 ·exact .inl (I.old hex q)
 ·exact .inr hb
def um(hok:HOk P w H h)(m:Heap.MadeExcOf h h' e (.ref C) vs):Exc (gM h H) e C false h':=by
 obtain⟨t,he,_,_⟩:=m.there;refine#[_,_,he,#[rfl,rfl],rfl,rfl,fun z=>?_,.inl #[rfl,rfl]];have hn:=m.new;rcases z with⟨o,q⟩ | z
 ·rw[hn]at q;cases q
 ·obtain⟨o,ho⟩:=Option.ne_none_iff_exists'.mp z;obtain⟨u,q⟩:=(hok e o ho).there;rw[hn]at q;cases q
def Inv.newExc(I:Inv X pins Y H s)(hex:X.ex=[])(m:Heap.MadeExcOf s.heap h' e (.ref C) vs):Inv X pins Y H { s with heap:=h' }/\Exc (gM X.s₀.heap H) e C false h' :=
 ⟨I.kept (t':=s.toks) m.keeps,(um I.hok m).mono fun b hb=>hb.imp (fun⟨o,q⟩=>I.old hex q) fun z=>z⟩
end
open PySem.W
section
variable{K:W.Frag}
structure rS(K:W.Frag)(D:Addr):Prop where
 ga:findIn K (.ref D) "__getattribute__" = some (some (.builtin "BaseException.__getattribute__"))
 gn:findIn K (.ref D) "__getattr__" = some none
 fo:findObj K D none "__class__" = some (.bind (.builtin "getset_descriptor.__get__") (.builtin "object.__class__"))
 mo:mroIn K D (.type "object")=some true
 mb:subIn K (.ref D) (.type "BaseException")=some true
 is:(clsIn K D).isSome=true
def EZ(F:rS K D)(X:K.In s.heap)(I:InstAt s.heap x ox D none)(h:Q (some (.ref D)) { s with toks:=s.toks+1 }):wpAny (model prog w) A (getAttr? (.ref x) "__class__") Q E s:=by
 have L0:=I.type (M:=model prog w);have L1:=looks_findIn (M:=model prog w) X F.ga;have L2:=looks_findIn (M:=model prog w) X F.gn;have L3:=looks_find (M:=model prog w) X I F.fo;have L4:=looks_subIn (M:=model prog w) X F.mb;have cg:=fun(A:Around) (R:Result->Shared->Prop) (t:Nat)=>class_get (prog:=prog) (w:=w) (A:=A) (R:=R) (tp:=.ref D) (s:={ s with toks:=t }) X I F.mo;obtain⟨hh,g,d,t,os⟩:=s;unfold getAttr? getAttrBy? getAttrBy;refine Qb (wpAny_mkText (Qb (wpAny_attempt (wpAny_holding (Qb (L0.at (Qb (L1.at ?_))))))))
 have n0:¬ ((onTheHeap (Value.ref D)&&(Value.builtin "BaseException.__getattribute__" == Value.builtin "object.__getattribute__"))=true):=by
  have:(Value.builtin "BaseException.__getattribute__" == Value.builtin "object.__getattribute__")=false:=by decide +kernel
  rw[this,Bool.and_false];exact Qi
 dsimp only;rw[if_neg n0];unfold getAttrByItsOwn hookBefore;rw[if_pos (show onTheHeap (Value.ref D)=true from rfl)];refine Qb (L2.at ?_);unfold callGetattribute boundAndCalled;rw[if_neg (show ¬ ((false&&onTheHeap (Value.builtin "BaseException.__getattribute__"))=true)from Qi)];refine Qb (wpAny_attempt (wpAny_holding (Qb (wpAny_of_eq (PySem.F.attrBase_ValueError.ga.bind (.ref x)) ?_))));refine wpAny_call (codeAny_call_builtin PySem.F.attrBase_ValueError.ga.plain PySem.F.entry_bexc_ga ?_)
 have hk:builtinKind "BaseException.__getattribute__" = some .slot:=by decide +kernel
 have hsplit:splitId "BaseException.__getattribute__" = some ("BaseException", "__getattribute__"):=by decide +kernel
 have ha:=PySem.F.args_bexc_ga (.ref x) (.str "__class__" t);simp only[checkBuiltinCall,hk,hsplit];unfold isInstance
 repeat (any_goals (first | assumption | exact L0 | (with_reducible refine L0.at ?_) | (with_reducible refine L4.at ?_) | (with_reducible refine L3.at ?_) | (with_reducible refine Qb (L3.at ?_)) | wp_step))
 refine cg _ _ _ ?_;refine Qd ?_;exact wpAny_of_eq (handedOut_of rfl) (Qd h)
def sV(F:rS K D):KitX K (.ref x) (.ref D) (fun h=>InstAt h x ox D none) where
 ty:=fun _ _ _ I=>I.type
 it:=fun M h X _=>by
  have z:=F.is;unfold clsIn at z;split at z
  ·rename_i ho;intro A' Q' E' s' k q;unfold isType loadHead;exact Qb (wpAny_loadPart (k _ _ (X _ _ ho)) (Qd q))
  ·cases z
 ne:=fun h tp dd its n sl X htp=>by
  refine Bool.eq_false_iff.mpr fun q=>?_;have e:D=tp:=Value.ref.inj (beq_iff_eq.mp q);subst e;have z:=F.is;unfold clsIn at z;split at z
  ·rename_i ho;cases(X _ _ ho).symm.trans htp
  ·cases z
 ca:=fun X I k=>EZ F X I k
end
section
def oN(h:PGs X es t)(hn:(assignEach es X.env).length=n)(hst:(assignEach es X.env).findIdx? (·.1)=none):PG X (.Tuple es k pos) (pR X.K n t):=by
 intro pins s Y H v u Q I r hw;obtain⟨a,xs,e1,hq,hl,hw⟩:=hw;subst e1;cases r;obtain⟨its,rv,ht,hz⟩:=I.tuple hq
 have hsz:(assignEach es X.env).length=its.toArray.size:=by rw[hn,<-hl,rv.length,List.size_toArray]
 rw[PyProof.Rows.assign_Tuple];refine Qb (wpAny_standAt ?_);unfold unpack;rw[hsz,hst];refine Qb (wpAny_holding (wt I.hd ht fun h' hx=>?_));exact h pins _ Y H xs _ Q (I.kept (t':=s.toks) fun b o e=>hx b o (Qn (Qg e)) e) (by simpa using rv) hw
def pC(h:PGs X es t)(hn:(assignEach es X.env).length=n)(hst:(assignEach es X.env).findIdx? (·.1)=none):PG X (.Tuple es k pos) (RS.pP X.K n t):=by
 intro pins s Y H v u Q I r hw;obtain⟨a,xs,e1,hq,hl,hw⟩:=hw;subst e1;cases r;obtain⟨its,rv,ht,hz⟩:=I.list hq
 have hsz:(assignEach es X.env).length=its.toArray.size:=by rw[hn,<-hl,rv.length,List.size_toArray]
 rw[PyProof.Rows.assign_Tuple];refine Qb (wpAny_standAt ?_);unfold unpack;rw[hsz,hst];refine Qb (wpAny_holding (wU I.hd ht.isList fun h' hx=>?_));exact h pins _ Y H xs _ Q (I.kept (t':=s.toks) fun b o e=>hx b o (Qn (Qg e)) e) (by simpa using rv) hw
end
section
def PA.nox(h:PA X.nox es t):PA X es t:=fun pos pins s Y H Q I hw =>
 wpAny_mono (h pos pins s Y H Q (I.eG _) hw) (fun _ _ ⟨v,H',I',r,q⟩=>#[v,H',I'.cP,r,q]) fun _ _ z=>False.elim z
def PS.nox{st:Stmt}(h:PS X.nox st t):PS X st t:=fun pins s Y H D I hw =>
 wpAny_mono (h pins s Y H D (I.eG _) hw) (fun _ _ q=>q.cP) fun _ _ z=>False.elim z
def PG.nox(h:PG X.nox tg t):PG X tg t:=fun pins s Y H v u Q I r hw =>
 wpAny_mono (h pins s Y H v u Q (I.eG _) r hw) (fun _ _ ⟨QQ,H',I',q⟩=>#[QQ,H',I'.cP,q]) fun _ _ z=>False.elim z
def PI.nox(h:PI X.nox tg iter wi):PI X tg iter wi:=fun pins s Y H R I hw =>
 wpAny_mono (h pins s Y H R (I.eG _) hw) (fun _ _ h1=>wpAny_mono h1 (fun _ _ ⟨it,fp,tn,J,H',e,I',T,t0,f,r⟩=>#[it,fp,tn,J,H',e,I'.cP,T,t0,f,r]) fun _ _ z=>False.elim z) fun _ _ z=>False.elim z
def uy{CX:CXT}{k:Nat}{f:Addr}{fd:FuncData}{ps:List Str}{sp:Sp}{EX:St->XK}{x:Str}{p pos:Pos}{e:Expr}{es:List Expr}{t:TA}(F:eJ X.prog X.w X.K X.mg X.base CX k f fd ps sp)(hr:cJ k X.A)(hg:Gl X x)(hm:X.mg x=some (.ref f))(hk:W.keepIn X.K (.ref f)=true)
 (hb:Binds X.K fd ps [])(hx:∀ pins Y H s e s',Inv X pins Y H s->CX X.stack H s (EX Y) e s'->X.xe e s')(ha:PA X (e::es) t)(hdb:(x == ("__debug__" : Str))=false)(he:starEach (e::es) X.env=(false,eval e X.env)::starEach es X.env)(hpl:(backTo pos (starEach es X.env)).any (·.1)=false) :
  PE X (.Call (.Name x p) (e::es) [] pos) (fun Y H Q=>t Y H fun vs H1=>sp vs H1 Q (EX Y)):=by
 kt_k;refine wpAny_Call_Name_kw (hV I hg hm ?_ hdb);refine W.callWith_K (h₀:=X.base) I.ok.mod.kin hk (thn (ha pos pins s Y H _ I h) fun us s1 ⟨vs,H1,I1,r,q⟩=>#[I1.kIn,?_]) he hpl
 have hl:us.length=ps.length:=by rw[<-r.length];exact F.len _ _ _ _ q
 have hbb:=hb s1 us I1.kIn (by rw[QD];exact hl);rw[QD]at hbb;refine wpAny_call (codeAny_mono (F.run X.A X.stack s1 H1 ⟨us,[]⟩ us vs Q (EX Y) hr I1.BD hbb r q) fun r s' hq=>?_)
 cases r with
 | error e=>exact hx pins Y H1 s1 e s' I1 hq
 |ok fl=>
  cases fl with
  | ret u=>exact I1.after hq
  | next=>exact False.elim hq
  | brk=>exact False.elim hq
  | cont=>exact False.elim hq
end
end L2
namespace RS
open PySem PySem.Spec PyProof.Rows L2
abbrev spX(K:W.Frag)(cl:RL.Cl)(f:Nat):Sp:=fun vs H _ E=>∃ ds x,af nP K H ds vs/\RL.clX cl f ds=some x/\∀ C H',Cls K x C->aw H H'->E (.ref C) none H'
abbrev tXE(K:W.Frag)(cl:RL.Cl)(EX:L2.St->XK)(e:RL.E):TE:=fun Y H _=>∃ QP x,RV0 K QP Y H/\RL.evX cl QP e=some x/\∀ C H1,Cls K x C->aw H H1->EX Y (.ref C) none H1
abbrev tXA(K:W.Frag)(cl:RL.Cl)(EX:L2.St->XK)(es:RL.Es):TA:=fun Y H _=>∃ QP x,RV0 K QP Y H/\RL.pS cl QP es=some x/\∀ C H1,Cls K x C->aw H H1->EX Y (.ref C) none H1
abbrev RE(X:Cx)(EX:L2.St->XK)(cl:RL.Cl)(e:Expr)(e':RL.E):Prop:=PE X e (tXE X.K cl EX e')
abbrev RA(X:Cx)(EX:L2.St->XK)(cl:RL.Cl)(es:List Expr)(es':RL.Es):Prop:=PA X es (tXA X.K cl EX es')
abbrev tXS(K:W.Frag)(M:List Nat)(EX:L2.St->XK)(r:RL.St->Option (Str × RL.St)):TS:=fun _ Y H=>∃ QP x QT,RVm K M QP Y H/\r QP=some (x,QT)/\∀ QR H1 C,Cls K x C->RVm K M QT QR H1->Fr' M Y H QR H1->EX QR (.ref C) none H1
abbrev RZ(X:Cx)(EX:L2.St->XK)(cl:RL.Cl)(M:List Nat)(st:Stmt)(s:RL.S):Prop:=PS X st (tXS X.K M EX (RL.kW cl M s))
abbrev RZs(X:Cx)(EX:L2.St->XK)(cl:RL.Cl)(M:List Nat)(st:List Stmt)(s:RL.Ss):Prop:=PSs X st (tXS X.K M EX (RL.bP cl M s))
section
variable{st:Stmt}
def bo(h:∀ QP,RL.evX cl QP e'=none):RE X EX cl e e':=fun pins s Y H Q I ⟨QP,x,_,z,_⟩=>by
 rw[h]at z;cases z
def gh(h:∀ QP,RL.kW cl M s' QP=none):RZ X EX cl M st s':=fun pins s Y H Q I ⟨QP,x,_,_,z,_⟩=>by
 rw[h]at z;cases z
def Hk:RA X EX cl es .nil:=fun pos pins s Y H Q I ⟨QP,x,_,z,_⟩=>by
 rw[RL.pS]at z;cases z
def Di(he:SE X cl e e')(hx:RE X EX cl e e')(hr:RA X EX cl es es')(hs:starEach (e::es) X.env=(false,eval e X.env)::starEach es X.env):RA X EX cl (e::es) (.cons e' es'):=by
 intro pos pins s Y H Q I h;obtain⟨QP,x,rv,z,k⟩:=h;rw[RL.pS]at z
 cases hev:RL.ev cl QP e' with
 |some d=>
  rw[hev]at z;exact bu he hr hs pos pins s Y H Q I ⟨QP,d,rv,hev,fun v H1 r1=>#[QP,x,rv.same r1.same,z,fun C H2 hc sm=>k C H2 hc (r1.same.trans sm)]⟩
 |none=>
  rw[hev]at z;exact bu hx hr hs pos pins s Y H Q I ⟨QP,x,rv,z,k⟩
def CZ(F:eJ X.prog X.w X.K X.mg X.base (CXE X.prog X.w) k fa fd ps (spX X.K cl f))(hr:cJ k X.A)(hg:Gl X x)
 (hm:X.mg x=some (.ref fa))(hk:W.keepIn X.K (.ref fa)=true)(hb:Binds X.K fd ps [])(hx:∀ pins Y H s e s',Inv X pins Y H s->CXE X.prog X.w X.stack H s (EX Y) e s'->X.xe e s')(he:SEs X cl (e::es) es')(ha:RA X EX cl (e::es) es')(hdb:(x == ("__debug__" : Str))=false)(hn:noStar e=true)(hns:es.all noStar=true) :
  RE X EX cl (.Call (.Name x p) (e::es) [] pos) (.call f es'):=by
 kt_k;obtain⟨QP,y,rv,z,k⟩:=h;rw[RL.evX]at z
 cases hev:RL.evs cl QP es' with
 |some ds=>
  rw[hev]at z;exact uy F hr hg hm hk hb hx he hdb (ay es hn) (cU hns) pins s Y H Q I ⟨QP,ds,rv,hev,fun vs H1 s1 r1=>#[ds,y,r1,z,fun C H2 hc sm=>k C H2 hc (s1.trans sm)]⟩
 |none=>
  rw[hev]at z;exact uy F hr hg hm hk hb hx ha hdb (ay es hn) (cU hns) pins s Y H Q I ⟨QP,y,rv,z,k⟩
def qV{s':RL.S}{g:Ends->L2.St->VK}(h:PS X st (fun D Y H=>tXE X.K cl EX e' Y H (g D Y)))(he:∀ QP,RL.kW cl M s' QP=(RL.evX cl QP e').map fun x=>(x,QP)):RZ X EX cl M st s':=by
 refine PS.weak h fun D Y H h=>?_;obtain⟨QP,x,QT,rv,z,k⟩:=h;rw[he]at z;obtain⟨y,z1,z2⟩:=map_some z;cases z2;exact#[QP,x,rv.rv0,z1,fun C H1 hc sm=>k Y H1 C hc (rv.same sm) (Fr'.same sm)]
def DW:RZs X EX cl M sts .nil:=fun pins s Y H Q I ⟨QP,x,_,_,z,_⟩=>by
 rw[RL.bP]at z;cases z
def Aw(h1:SS X cl M st s)(h2:RZ X EX cl M st s)(h3:RZs X EX cl M sts r):RZs X EX cl M (st::sts) (.cons s r):=by
 intro pins sh Y H D I h;obtain⟨QP,x,QT,rv,z,k⟩:=h;rw[RL.bP]at z
 cases hev:RL.evS cl M s QP with
 |some p=>
  obtain⟨o,QR⟩:=p;rw[hev]at z
  cases o with
  | nx=>exact mz h1 h3 pins sh Y H D I ⟨QP,.nx,QR,rv,hev,fun QS H2 rv2 fr2=>#[QR,x,QT,rv2,z,fun QU H3 C hc rv3 fr3=>k QU H3 C hc rv3 (fr2.trans fr3)]⟩
  | rt d=>cases z
 |none=>
  rw[hev]at z;exact mz h2 h3 pins sh Y H D I ⟨QP,x,QT,rv,z,k⟩
def IA(hc:ST X cl c c')(ha:RZs X EX cl M a a')(hb:RZs X EX cl M b b'):RZ X EX cl M (.If c a b pos) (.ife c' a' b'):=by
 refine PS.weak (wX hc ha hb) fun D Y H h=>?_;obtain⟨QP,x,QT,rv,z,k⟩:=h;rw[RL.kW]at z;obtain⟨t,z1,z2⟩:=bind_some z;refine#[QP,t,rv.rv0,z1,fun H1 sm=>?_];have kk:∀ QR H2 C,Cls X.K x C->RVm X.K M QT QR H2->Fr' M Y H1 QR H2->EX QR (.ref C) none H2:=fun QR H2 C hc r f=>k QR H2 C hc r ((Fr'.same sm).trans f)
 cases t with
 | true=>exact fI ⟨QP,x,QT,rv.same sm,z2,kk⟩
 | false=>exact fX ⟨QP,x,QT,rv.same sm,z2,kk⟩
end
section
def wG(h:RL.dP f fx tg (d::ds) Y=some p):d.imm=true/\∃ QR,RL.aX tg d Y=some QR /\
  ((∃ QS,f QR=some (.nx,QS)/\RL.dP f fx tg ds QS=some p)\/fx QR=some p):=by
 rw[RL.dP]at h;by_cases him:d.imm=true
 case neg=>rw[if_neg him]at h;cases h
 rw[if_pos him]at h;obtain⟨QR,h1,h⟩:=bind_some h;refine#[him,QR,h1,?_]
 cases hf:f QR with
 | none=>rw[hf]at h;exact .inr h
 |some q=>
  obtain⟨o,QS⟩:=q;rw[hf]at h
  cases o with
  | nx=>exact .inl #[QS,rfl,h]
  | rt d=>cases h
def Fq(hp:PassesOwn (model X.prog X.w) X.A X.env X.xe)(hc:X.calm=true)(hi:SI X cl tgE iter it)(hg:PG X tgE (gT X.K tg))(hb:SSs X cl M body b)(hbx:RZs X EX cl M body b)(hs:∀ x,foldedSetIterable iter X.env x=pure x)(hav:RL.tY M it=true)(hM:∀ i∈tg,M.contains i=false) :
  RZ X EX cl M (.For tgE iter body [] pos) (.forr tg it b):=by
 have both:PSs X body (fun D Y H=>tS X.K M (RL.ag cl M b) D Y H\/tXS X.K M EX (RL.bP cl M b) D Y H):=fun pins s Y H D I h=>h.elim (hb pins s Y H D I) (hbx pins s Y H D I);refine PS.weak (yA hp hc hi hg both hs) fun D Y H h=>?_;obtain⟨QP,x,QT,rv,e,k⟩:=h;rw[RL.kW]at e;obtain⟨ds,e1,e2⟩:=bind_some e;refine#[QP,ds,rv.rv0,e1,fun J H1 s1 src=>?_]
 have ok:ja X.K J ds (aY M Y) H1:=src.2 M (aY M Y) hav rv.we fun j dj vj hj h1 h2=>by
  obtain⟨v',h3,h4⟩:=rv.val j dj h1;rw[h2]at h3;cases h3;rw[if_neg (by rw[hj];decide)]at h4;exact h4
 refine#[fun i m QS H2=>∃ QV,m=ds.length-i/\i<=ds.length/\RVm X.K M QV QS H2/\Fr' M Y H1 QS H2/\RL.dP (RL.ag cl M b) (RL.bP cl M b) tg (ds.drop i) QV=some (x,QT),#[_,QP,rfl,Nat.zero_le _,rv.same s1,Fr'.same (aw.refl _),e2],?_];rintro i m QS H2 ⟨QV,rfl,hi2,rv2,fr2,hl⟩;have off:Off (aY M Y) H1 H2:=fun b o n e=>(fr2.1 b o e n).1;by_cases hlt:i<ds.length
 ·refine .inr #[ok.go H2 i off hlt,fun QQ H'=>∃ m',m'<ds.length-i/\∃ QV,m'=ds.length-(i+1)/\i+1<=ds.length/\RVm X.K M QV QQ H'/\Fr' M Y H1 QQ H'/\RL.dP (RL.ag cl M b) (RL.bP cl M b) tg (ds.drop (i+1)) QV=some (x,QT),fun QQ H' z=>z,fun y H3 yl=>?_];rw[List.drop_eq_getElem_cons hlt]at hl;obtain⟨him,QU,h1,h2⟩:=wG hl;obtain⟨s3,rp⟩:=ok.yld H2 i ds[i] y H3 off (by simp[hlt]) yl;obtain⟨dv,vs,q1,q2,q3,q4,q5⟩:=xk h1 (rp (.inl him));refine q5 _ _ ?_;obtain⟨rv3,as3⟩:=(rv2.same s3).bF hM q2 (q4 him) q3
  have fr3:Fr' M Y H1 (df tg vs QS) H3:=#[fun b o e n=>#[s3 _ _ (fr2.1 b o e n).1,by rw[as3];exact(fr2.1 b o e n).2],fun j hj=>(mO hM hj).trans (fr2.2 j hj)]
  rcases h2 with⟨QX,h2,h3⟩ | h2
  ·exact .inl #[QU,.nx,QX,by rw[q1];exact rv3,h2,fun QQ H' rv' fr'=>#[_,by lia,QX,rfl,hlt,rv',fr3.trans fr',h3]]
  ·exact .inr #[QU,x,QT,by rw[q1];exact rv3,h2,fun QQ H' C hc rv' fr'=>k QQ H' C hc rv' (((Fr'.same s1).trans fr3).trans fr')]
 ·have e:i=ds.length:=by lia
  subst e;rw[List.drop_length,RL.dP]at hl;cases hl
end
end RS
namespace L2
open PySem PySem.Spec PyProof.Rows
open RS (VE)
def uY{K:W.Frag}(X:K.In h)(q:W.excIn K C VE "ValueError.__new__" = true):∃ bm N nm qn bs hdct sn sub ab col dd k0 k1 k2 k3 k5 mN,h.get? C=some (excClassObj nm qn C N bs bm hdct sn sub ab col dd k0 k1 k2 k3 k5 "ValueError.__new__")/\h.Ns N mN/\mN "__init__" = none/\OwnTail h VE bm:=by
 unfold W.excIn at q;split at q
 ·rename_i dd cd sl ho;split at q
  ·rename_i C' bm k0 k1 k2 k3 n k5 hm hs;simp only[Bool.and_eq_true,beq_iff_eq,Bool.not_eq_true']at q;obtain⟨⟨⟨⟨⟨rfl,rfl⟩,hdel⟩,ht⟩,hok⟩,hni⟩:=q;obtain⟨nm,bs,mro,ns,qn,hd,sn,sub,ab,col,del⟩:=cd;dsimp only at hm hdel hok hni;subst hm hdel;obtain⟨l⟩:=sl;simp only at hs;subst hs;exact#[bm,ns,nm,qn,bs,hd,sn,sub,ab,col,dd,k0,k1,k2,k3,k5,_,X _ _ ho,.of_isNs (W.isNs_of_in X hok),W.nsMap_none_of_in X hok hni,W.tail_of_in X ht]
  ·cases q
 ·cases q
section
variable{EX:St->XK}
def Af(hh:X.A.handled=none)(hg:Gl X x)(hm:X.mg x=some (.ref C))(hdb:(x == ("__debug__" : Str))=false)(q:W.excIn X.K C VE "ValueError.__new__" = true)(hk:∀ pins Y H s h' e vs,Inv X pins Y H s->Heap.MadeExcOf s.heap h' e (.ref C) vs->EX Y (.ref C) none H->X.xe (.ref e) { s with heap:=h' })
 (ha:PA X [arg] (iP ta lg))(hs:starEach [arg] X.env=[(false,eval arg X.env)]):PS X (.Raise (some (.Call (.Name x np) [arg] [] cpos)) none pos) (fun _ Y H=>ta Y H fun v H1=>[v].length<=sizeLine/\EX Y (.ref C) none H1):=by
 intro pins s Y H D I h;obtain⟨bm,N,nm,qn,bs,hdct,sn,sub,ab,col,dd,k0,k1,k2,k3,k5,mN,hC,hN,hni,T⟩:=uY I.ok.mod.kin q;refine wpAny_Raise_call_subT (C:=C) (nm:=nm) (q:=qn) (N:=N) (bs:=bs) (bm:=bm) (hdct:=hdct) (sn:=sn) (sub:=sub) (ab:=ab) (col:=col) (dd:=dd) (k0:=k0) (k1:=k1) (k2:=k2) (k3:=k3) (k5:=k5) PySem.F.excBase_ValueError (mN:=mN) (T.hasType PySem.F.excBase_ValueError.hasBase) hh (by rw[hs];rfl) hni (hV I hg hm ⟨rfl,?_⟩ hdb);have ha':=ha cpos pins s Y H (fun vs H1=>vs.length<=sizeLine/\EX Y (.ref C) none H1) I h;rw[hs]at ha' ⊢;refine Calls.evalArgs_plain (thn ha' fun us s1 ⟨vs,H1,I1,r,q1⟩=>?_);exact#[rfl,by rw[<-r.length];exact q1.1,I1.bk _ _ hC,hN.keeps I1.bk,T.keeps I1.bk,fun h' e m=>hk pins Y H1 s1 h' e us I1 m q1.2]
abbrev PJ(X:Cx)(vs:List Expr)(t:TA):Prop:=∀ (pins:List (Addr × Obj)) (s:Shared) (Y:St) (H:Hp) (Q:Hp->Prop) (out:Str),Inv X pins Y H s->t Y H (fun _ H1=>Q H1)->out.length+3000*vs.length<=sizeLine->wpAny (model X.prog X.w) X.A (joinParts out (evalEach vs X.env)) (EP X pins Y fun v H1=>(∃ x,v=.str x)/\Q H1) X.xe s
def HA:PJ X [] lg:=fun pins s Y H Q out I h z=>joinParts_nil (out:=out) ⟨.str out,H,I.tok _,⟨_,rfl⟩,⟨_,rfl⟩,h⟩ (by simpa using z)
def Dd(h:PJ X vs t)(hy:y.length<=3000):PJ X (.Constant (.str y) k p::vs) t:=fun pins s Y H Q out I q z=>by
 have hz:(out++y).length+3000*vs.length<=sizeLine:=by
  rw[strLen_append];rw[List.length_cons]at z;omega
 refine joinParts_cons (Calls.Constant_str ⟨by omega,?_⟩);exact h pins _ Y H Q (out++y) (I.tok _) q hz
abbrev zf(te:TE)(t:TA):TA:=fun Y H Q=>te Y H fun v H1=>∃ i,v=.int i/\i.natAbs<2 ^ 1900/\t Y H1 Q
def Hh(he:PE X e te)(h:PJ X vs t):PJ X (.FormattedValue e (-1) none p::vs) (zf te t):=fun pins s Y H Q out I q z=>by
 refine joinParts_cons (FormattedValue_plain (thn (he pins s Y H _ I q) fun u s1 ⟨v,H1,I1,r1,i,hv,hi,q1⟩=>?_));subst hv;obtain⟨tk,rfl⟩:=r1
 have hl:i.natAbs.log2<1920:=by
  by_cases h0:i.natAbs=0
  ·rw[h0];decide
  ·exact Nat.lt_trans ((Nat.log2_lt h0).mpr hi) ∅
 have hy:(Str.ofString (toString i)).length<=1921:=by
  rw[PySem.ofString_length];exact int_text_length_le ∅ hl
 have hz:(out++Str.ofString (toString i)).length+3000*vs.length<=sizeLine:=by
  rw[strLen_append];rw[List.length_cons]at z;omega
 refine formatField_int_small hl ⟨?_,?_⟩
 ·exact Qr (Nat.le_add_right _ _) hz
 ·exact h pins _ Y H1 Q _ ((I1.tok _).tok _) q1 hz
def yZ(h:PJ X (v::v2::vs) t)(hn:vs.length<=100):PE X (.JoinedStr (v::v2::vs) pos) (fun Y H Q=>t Y H fun _ H1=>∀ x,Q (.str x) H1):=by
 intro pins s Y H Q I q;refine JoinedStr_many (thn (h pins s Y H (fun H1=>∀ x,Q (.str x) H1) Str.empty I q ?_) fun u s1 ⟨v,H1,I1,r1,⟨x,hv⟩,q1⟩=>#[v,H1,I1,r1,by rw[hv];exact q1 x]);rw[List.length_cons,List.length_cons,sizeLine_eq];have:Str.empty.length=0:=rfl;omega
end
section
variable{os:OsState}
def Bv
 (hR:h.get? R=some (excClassObj nm q R N bs bm hdct sn sub ab col dd k0 k1 k2 k3 k5 newId))(he:h.get? e=some oe)(hc:oe.cls=.ref C)(hb:bm.contains (.type "BaseException")=true)(L:W.Looks M h (isSubtype (.ref C) (.ref R)) b)(hq:Q b ⟨h,g,d,t,os⟩) :
  wpAny M A (excMatches (.ref e) (.ref R)) Q E ⟨h,g,d,t,os⟩:=by
 have hcB:(Value.ref R::bm).contains (.type "BaseException")=true:=by rw[List.contains_cons,hb,Bool.or_true]
 have f:=tc_notTuple;unfold excMatches
 repeat (first | (with_reducible refine wpAny_loadPart_at he ?_;rw[hc]) | with_reducible refine wpAny_loadPart_at hR ?_ | (with_reducible refine wpAny_isSubtype_exc hR ?_;rw[hcB]) | (with_reducible refine L.at ?_) | wp_step)
 cases b<;>(wp_walk;exact hq)
end
section
def vD(I:Inv X pins Y H s)(hN:X.N.Nodup)(hi:X.N[i]?=some n)(hl:X.env.scope.names.lookup n=some .local)
 (k:∀ s',Inv X pins (Y.set i none) H s'->Q () s'):wpAny M A (do bindName X.env n .none;unbindBehindTheSuite X.env n pos) Q E s:=by
 obtain⟨m,hn,hlk⟩:=id I.loc
 have hcls:(X.env.scope.kind == .class || (X.env.scope.kind == .module&&X.env.locals != X.env.globals))=false:=by rw[I.ok.kind];rfl
 refine wpAny_nameGoes_keeps hl hn hcls fun h' v hn' hs=>k _ ?_;have up:∀ b o,X.s₀.heap.get? b=some o->b≠X.env.locals:=fun b o e=>Qn (Qh (Qg e) I.ok.above);have cne:=I.cne;refine#[I.ok,I.os,I.bare,#[fun b o e nn hb hx=>(hs.2 b (up b o e)).trans (I.base.keep b o e nn hb hx),fun b o e nn hb hx=>?_,I.base.free,fun b o e hx=>?_,I.base.eV,I.base.da,I.base.eQ],#[_,hn',fun j y v' e1 e2 e3=>?_],fun y c e=>?_,I.free,I.cQ,fun p hp=>?_,fun a o e=>?_,by simpa using I.len]
 ·obtain⟨sl,e1⟩:=I.base.slot b o e nn hb hx;exact#[sl,(hs.2 b (up b o e)).trans e1]
 ·obtain⟨o',e1⟩:=I.base.there b o e hx;exact#[o',(hs.2 b (up b o e)).trans e1]
 ·have hj:j≠i:=fun z=>by
   subst z;rw[Qj (by rw[I.len];exact(List.getElem?_eq_some_iff.mp hi).1)]at e2;cases e2
  rw[Qf (Ne.symm hj)]at e2;obtain⟨u,r,lk⟩:=hlk j y v' e1 e2 e3;refine#[u,r,?_]
  rcases lk with⟨a1,a2⟩ | ⟨a1,c,a2,a3⟩
  ·have hy:y≠n:=fun z=>hj (mZ hN e1 (z▸hi));exact .inl #[a1,by simp[hy,a2]]
  ·exact .inr #[a1,c,a2,a3.sameBut hs (cne y c a2)]
 ·obtain⟨v,q⟩:=I.cell y c e;exact#[v,q.sameBut hs (cne y c e)]
 ·obtain⟨p1,p2,p3,p4⟩:=I.pin p hp;exact#[(hs.2 p.1 p3).trans p1,p2,p3,p4]
 ·refine(I.hok a o e).jE (fun c w hc q=>(hs.2 c fun z=>?_).trans q) (fun _ z=>z) fun _ _ z=>z;subst z;rcases hc with z | z
  ·rw[<-z,I.free]at e;cases e
  ·rw[I.free]at z;cases z
@[reducible]noncomputable def Fz(oe:Obj):HO:=.frz oe (.ext fun _=>True)
@[reducible]noncomputable def Cx.bZ(X:Cx)(e:Addr)(oe:Obj):Cx:={ X with A:=X.A.mark (some (.ref e)),calm:=false,H₀:=upd X.H₀ e (Fz oe) }
def qF(I0:Inv X pins Y H0 s0)(hst:X.stack=X.env::X.outer)(hex:X.ex=[])(un:Un (frs X.stack) [] H0 H' s0.heap h1)(hok:HOk X.prog X.w H' h1)(bare:AllBare g)
 (o:Off1 (gM s0.heap H') (frs (X.env::X.outer)) h1 h2)(he:h2.get? e=some oe)(hd:oe.data=.fields vs)(hv:vs[2]?=some .none)(ne:¬ gM s0.heap H' e) :
  Inv (X.bZ e oe) pins Y (upd H' e (Fz oe)) ⟨h2,g,dr,tk,s0.os⟩:=by
 have hne:H' e=none:=Classical.byContradiction fun z=>ne (.inr z);have n0:∀ b u,s0.heap.get? b=some u->b≠e:=fun b u q z=>ne (.inl #[u,z▸q]);have n1:∀ b u,X.s₀.heap.get? b=some u->b≠e:=fun b u q=>let ⟨u',q'⟩:=I0.old hex q;n0 b u' q';have off:∀ {b:Addr},b≠e->upd H' e (Fz oe) b=H' b:=fun z=>aO z
 have nfr:∀ b,H' b≠none->b∉frs (X.env::X.outer):=fun b hb z=>by
  rw[<-hst]at z;obtain⟨_,ob,hob,_⟩:=I0.stack.mem z;exact hb (un.free b ob hob (I0.lj b z) (by simp))
 have un2:Un (frs X.stack) [] H0 (upd H' e (Fz oe)) s0.heap h2:=by
  refine#[fun b u q n hb hx=>?_,fun b u q n hb hx=>?_,fun b u q n hx=>by rw[off (n0 b u q)];exact un.free b u q n hx,fun b u q hx=>?_,fun b xs q=>?_,fun b ob u q=>?_,fun b ps q=>?_]
  ·exact o.keep b u (.inl #[u,q]) (by rw[<-hst];exact hb) (un.keep b u q n hb hx)
  ·obtain⟨sl,q1⟩:=un.slot b u q n hb hx;obtain⟨sl2,q2⟩:=o.slot b _ (.inl #[u,q]) (by rw[<-hst];exact hb) q1;exact#[sl2,q2]
  ·obtain⟨u1,q1⟩:=un.there b u q hx;by_cases hb:b∈frs (X.env::X.outer)
   ·obtain⟨sl,q2⟩:=o.slot b _ (.inl #[u,q]) hb q1;exact#[_,q2]
   ·exact#[_,o.keep b _ (.inl #[u,q]) hb q1]
  ·have:=un.eV b xs q;rw[off (fun z=>by rw[z,hne]at this;cases this)];exact this
  ·have:=un.da b ob u q;rw[off (fun z=>by rw[z,hne]at this;cases this)];exact this
  ·obtain⟨more,this⟩:=un.eQ b ps q;rw[off (fun z=>by rw[z,hne]at this;cases this)];exact#[more,this]
 have hok2:HOk X.prog X.w (upd H' e (Fz oe)) h2:=fun a ob q=>by
  by_cases ha:a=e
  ·subst ha;rw[aT]at q;cases q;exact#[he,trivial,#[_,he],fun _ _ _ _=>trivial]
  ·rw[off ha]at q
   have up:∀ (b:Addr) (u:HO),H' b=some u->upd H' e (Fz oe) b=some u:=fun b u z=>by rw[off (aR z hne)];exact z
   refine(hok a ob q).jE (fun b u hb r=>?_) (fun b z=>up b _ z) fun b xs z=>up b _ z
   have hn:H' b≠none:=by
    rcases hb with rfl | hb
    ·rw[q];exact fun z=>nomatch z
    ·rw[hb];exact fun z=>nomatch z
   exact o.keep b u (.inr hn) (nfr b hn) r
 have J:=I0.call (h':=h2) (g':=g) (d':=dr) (t':=tk) (ch:=[]) un2 hok2 bare (fun b z=>absurd z (by simp));have offH:∀ {b:Addr} {u:Obj},X.s₀.heap.get? b=some u->upd X.H₀ e (Fz oe) b=X.H₀ b:=fun q=>aO (n1 _ _ q);refine#[#[J.ok.mod,J.ok.kind,J.ok.glob,J.ok.blt,J.ok.above,J.ok.inj,J.ok.has,J.ok.cab,#[fun z=>(nomatch z),.inr #[e,oe,_,vs,rfl,aT,hd,hv]],J.ok.frames,J.ok.stk,J.ok.exf,fun b ob q=>?_,J.ok.bsz,J.ok.jS,J.ok.jD,J.ok.dZ,fun b hb=>?_],J.os,J.bare,#[fun b u q n=>?_,fun b u q n=>?_,fun b u q n=>?_,J.base.there,fun b xs q=>?_,fun b ob u q=>?_,fun b ps q=>?_],J.loc,J.cell,J.free,J.cQ,J.pin,J.hok,J.len]
 ·obtain⟨q1,q2⟩:=J.ok.bs b ob q;exact#[q1,(offH q1).trans q2]
 ·obtain⟨_,ob,q,_⟩:=J.ok.dZ.mem hb;exact(offH q).trans (J.ok.frf b hb)
 ·exact J.base.keep b u q ((offH q).symm.trans n)
 ·exact J.base.slot b u q ((offH q).symm.trans n)
 ·exact J.base.free b u q ((offH q).symm.trans n)
 ·by_cases hb:b=e
  ·subst hb;rw[show(X.bZ b oe).H₀ b=some (Fz oe)from aT]at q;cases q
  ·exact J.base.eV b xs ((aO hb).symm.trans q)
 ·by_cases hb:b=e
  ·subst hb;rw[show(X.bZ b oe).H₀ b=some (Fz oe)from aT]at q;cases q;exact aT
  ·exact J.base.da b ob u ((aO hb).symm.trans q)
 ·by_cases hb:b=e
  ·subst hb;rw[show(X.bZ b oe).H₀ b=some (Fz oe)from aT]at q;cases q
  ·exact J.base.eQ b ps ((aO hb).symm.trans q)
def nG(J:Inv (X.bZ e oe) pins Y H s)(ok:X.Ok)(hn:X.s₀.heap.get? e=none)(h1:∀ xs,X.H₀ e≠some (.tup xs))(h2:∀ o u,X.H₀ e≠some (.frz o u))(h3:∀ ps,X.H₀ e≠some (.tbl ps)):Inv X pins Y H s:=by
 have offH:∀ {b:Addr} {u:Obj},X.s₀.heap.get? b=some u->upd X.H₀ e (Fz oe) b=X.H₀ b:=fun {b u} q=>aO fun z=>by rw[z,hn]at q;cases q
 have up:∀ (b:Addr) (u:HO),b≠e->X.H₀ b=some u->(X.bZ e oe).H₀ b=some u:=fun b u hb z=>(aO hb).trans z
 exact⟨ok,J.os,J.bare,⟨fun b u q n=>J.base.keep b u q ((offH q).trans n),fun b u q n=>J.base.slot b u q ((offH q).trans n),fun b u q n=>J.base.free b u q ((offH q).trans n),J.base.there,
  fun b xs q=>J.base.eV b xs (up b _ (fun z=>h1 xs (z▸q)) q),fun b o u q=>J.base.da b o u (up b _ (fun z=>h2 o u (z▸q)) q),fun b ps q=>J.base.eQ b ps (up b _ (fun z=>h3 ps (z▸q)) q)⟩,J.loc,J.cell,J.free,J.cQ,J.pin,J.hok,J.len⟩
end
end L2
namespace RS
open PySem PySem.Spec PyProof.Rows L2
def Cls.kin{K:W.Frag}(h:Cls K x C):rS K C:=by
 have:=h.ok;simp only[iM,Bool.and_eq_true,beq_iff_eq]at this;obtain⟨⟨⟨⟨⟨⟨⟨⟨_,a1⟩,a2⟩,a3⟩,a4⟩,a5⟩,a6⟩,_⟩,_⟩:=this;refine#[a1,a2,?_,a4,a5,a6];unfold t7 at a3;split at a3
 ·rename_i a b e;simp only[Bool.and_eq_true,beq_iff_eq]at a3;rw[e,a3.1,a3.2]
 ·cases a3
section
def wx(I0:Inv X pins Y H0 s0)(hst:X.stack=X.env::X.outer)(hfrm:X.env.frame=some X.env.locals)(hex:X.ex=[])
 (os:s1.os=s0.os)(bare:AllBare s1.gens)(un:Un (frs X.stack) [] H0 H' s0.heap s1.heap)(hok:HOk X.prog X.w H' s1.heap)(xx:Exc (gM s0.heap H') e C tb s1.heap)(hc:Cls X.K x C)(hR:Cls X.K c R)(hcr:c∈d8)(hsub:RL.c7 x c=true)(hg:Gl X c)(hm:X.mg c=some (.ref R))(hdb:(c == ("__debug__" : Str))=false)
 (hN:X.N.Nodup)(hi:X.N[i]?=some n)(hl:X.env.scope.names.lookup n=some .local)
 (k:∀ oe vs s4,(oe.cls=.ref C/\oe.dict=none)->oe.data=.fields vs->vs[2]?=some .none->H' e=none->X.s₀.heap.get? e=none->(∀ xs,X.H₀ e≠some (.tup xs))->(∀ o u,X.H₀ e≠some (.frz o u))->(∀ ps,X.H₀ e≠some (.tbl ps))->Inv (X.bZ e oe) pins (Y.set i (some (.ref e))) (upd H' e (Fz oe)) s4 ->
   wpAny (model X.prog X.w) (X.A.mark (some (.ref e))) (execs (b0::bZ) X.env) (fun f s5=>wpAny (model X.prog X.w) X.A (do bindName X.env n .none;unbindBehindTheSuite X.env n hpos) (fun _ s6=>Q f s6) E s5) (fun _ _=>False) s4) :
  wpAny (model X.prog X.w) X.A (noteFrame (.ref e) X.env) (fun _ s2=>wpAny (model X.prog X.w) X.A (setFlight (.ref e) none) (fun _ s3=>wpAny (model X.prog X.w) X.A (handleBy (.ref e) X.env [.ExceptHandler (some (.Name c np)) (some n) (b0::bZ) hpos]) Q E s3) E s2) E s1:=by
 have I1:Inv X pins Y H' s1:=I0.wj (ch:=[]) os un hok bare (fun b z=>absurd z (by simp));have hls:=I1.stack;have hfr:=I1.ok.frames;rw[hst]at hls hfr
 have hP:∀ b,gM s0.heap H' b->b<s1.heap.objs.size:=fun b hb=>by
  rcases hb with⟨o,q⟩ | hb
  ·obtain⟨o',q'⟩:=un.there b o q (by simp);exact Qg q'
  ·obtain⟨o,ho⟩:=Option.ne_none_iff_exists'.mp hb;exact hok.lt ho
 refine qd hfr hls hfrm xx hP fun h2 x2 o2=>?_;obtain⟨oe,vs,he,hcd,hd,hv,ne,xt⟩:=x2;obtain⟨hp,g,d,tk,os'⟩:=s1;obtain rfl:os'=s0.os:=os;have J2:Inv (X.bZ e oe) pins Y (upd H' e (Fz oe)) ⟨h2,g,d,tk,s0.os⟩:=qF I0 hst hex un hok bare o2 he hd hv ne;refine wpAny_handleBy_cons (codeAny_handlers_test ?_) (by intro q;cases q);refine hV J2 hg hm ?_ hdb;obtain⟨bm,N,nm,qn,bs,hdct,sn,sub,ab,col,dd,k0,k1,k2,k3,k5,mN,g1,g2,g3,T⟩:=uY J2.kIn hR.exc;have L:=W.looks_subIn (M:=model X.prog X.w) J2.kIn (hc.ref hcr hR.ns).2;rw[hsub]at L;refine Bv g1 he hcd.1 (T.hasType PySem.F.excBase_ValueError.hasBase) L ?_;refine codeAny_handlers_suite_as ?_
 rcases xt with⟨z,_⟩ | ⟨T,oT,ts,h1,hTe,hT,hdT,h3,nT⟩
 ·cases z
 unfold setFlight;refine Qb (wpAny_field he hd h1 ?_);rw[if_pos (show(Value.ref T != Value.none)=true from by simp)];refine wpAny_setField hT hdT (Array.getElem?_eq_some_iff.mp h3).1 ?_;have he3:(h2.update T (Obj.mapFields (·.setIfInBounds 3 Value.none))).get? e=some oe:=(Qw _ _ hTe).trans he;have J3:Inv (X.bZ e oe) pins Y (upd H' e (Fz oe)) ⟨h2.update T (Obj.mapFields (·.setIfInBounds 3 Value.none)),g,d,tk,s0.os⟩:=qF I0 hst hex un hok bare (o2.trans (Off1.wQ nT _)) he3 hd hv ne;have hne:H' e=none:=Classical.byContradiction fun z=>ne (.inr z)
 have tup:∀ u,X.H₀ e=some u->(∀ b,X.H₀ b=some u->H' b=some u)->False:=fun u q z=>by
  have:=z e q;rw[hne]at this;cases this
 refine fV (X:=X.bZ e oe) (v:=.ref e) J3 hN hi (.inl hl) rfl (fun s4 J4=>?_) (.inr hl);refine wpAny_mono (k oe vs s4 hcd hd hv hne ?_ (fun xs q=>?_) (fun o u q=>?_) (fun ps q=>?_) J4) (fun f s5 z=>z) fun _ _ z=>z.elim
 ·cases q:X.s₀.heap.get? e with
  | none=>rfl
  |some u=>
   obtain⟨u',q'⟩:=I0.old hex q;exact(ne (.inl #[u',q'])).elim
 ·have:=un.eV e xs (I0.base.eV e xs q);rw[hne]at this;cases this
 ·have:=un.da e o u (I0.base.da e o u q);rw[hne]at this;cases this
 ·obtain⟨m1,q1⟩:=I0.base.eQ e ps q;obtain⟨m2,q2⟩:=un.eQ e _ q1;rw[hne]at q2;cases q2
end
section
variable{K:W.Frag}
def aY.unset(hi:M.contains i=false):aY M (Y.set i none)=aY M Y:=by
 funext a;apply propext
 have hne:∀ {j},M.contains j=true->i≠j:=fun hj z=>by subst z;rw[hi]at hj;cases hj
 constructor
 ·rintro⟨j,hj,e⟩;rw[Qf (hne hj)]at e;exact#[j,hj,e]
 ·rintro⟨j,hj,e⟩;exact#[j,hj,by rw[Qf (hne hj)];exact e]
def jM{α:Type}{l:List (Option α)}{i j:Nat}{v:α}(h:(l.set i none)[j]?=some (some v)):i≠j/\l[j]?=some (some v):=by
 by_cases hj:i=j
 ·subst hj;rw[List.getElem?_set]at h;split at h
  ·split at h<;>cases h
  ·exact absurd rfl ‹_›
 ·rw[Qf hj]at h;exact#[hj,h]
def RVm.unset(h:RVm K M QP Y H)(hi:M.contains i=false):RVm K M (QP.set i none) (Y.set i none) H where
 len:=by simpa using h.len
 val:=fun j d e=>by
  obtain⟨hj,e⟩:=jM e;obtain⟨v,e1,e2⟩:=h.val j d e;exact#[v,by rw[Qf hj];exact e1,by rw[aY.unset hi];exact e2]
 non:=fun j v e=>by
  obtain⟨hj,e⟩:=jM e;obtain⟨d,e1⟩:=h.non j v e;exact#[d,by rw[Qf hj];exact e1]
 sep:=fun j k a hj hk e1 e2=>h.sep j k a hj hk (jM e1).2 (jM e2).2
def Fr'.unset(hi:M.contains i=false):Fr' M Y H (Y.set i none) H:=⟨fun b o e n=>#[e,by rw[aY.unset hi];exact n],fun j hj=>Qf fun z=>by subst z;rw[j2 hj]at hi;cases hi⟩
end
section
@[reducible]noncomputable def CxX(X:Cx)(pn:List (Addr × Obj))(E:Value->Shared->Prop):Cx:={ X with pn:=pn,xe:=E }
def EY(hx:X.xe=fun _ _=>False)(hst:X.stack=X.env::X.outer)(hfrm:X.env.frame=some X.env.locals)(hex:X.ex=[])(hb:SSs X cl M body b)
 (hbx:∀ (pn:List (Addr × Obj)) (E:Value->Shared->Prop) (EX:L2.St->XK),(∀ pins Y H s e s',Inv (CxX X pn E) pins Y H s->CXE X.prog X.w X.stack H s (EX Y) e s'->E e s')->(∀ pins Y H s h' e C vs,Inv (CxX X pn E) pins Y H s->Heap.MadeExcOf s.heap h' e (.ref C) vs->EX Y (.ref C) none H->E (.ref e) { s with heap:=h' }) ->
   PassesOwn (model X.prog X.w) X.A X.env E->RZs (CxX X pn E) EX cl M body b)
 (hsu:∀ e oe,SSs (X.bZ e oe) cl M (b0::bZ) h)(hR:Cls X.K c R)(hcr:c∈d8)(hg:Gl X c)(hm:X.mg c=some (.ref R))(hdb:(c == ("__debug__" : Str))=false)(hN:X.N.Nodup)(hi:X.N[i]?=some n)(hl:X.env.scope.names.lookup n=some .local)(hM:M.contains i=false) :
  SS X cl M (.Try body [.ExceptHandler (some (.Name c np)) (some n) (b0::bZ) hpos] [] [] pos) (.tryc b c i h):=by
 intro pins s Y H D I hh;obtain⟨QP,r,QT,rv,ev,post⟩:=hh;rw[RL.yD]at ev;refine wpAny_Try_except ?_
 cases hev:RL.ag cl M b QP with
 |some p=>
  rw[hev]at ev;cases ev
  refine wpAny_mono (hb pins s Y H D I ⟨QP,r,QT,rv,hev,post⟩) (fun f s1 q=>?_) fun e s1 z=>by rw[hx]at z;exact z.elim
  cases f with
  | next=>exact wpAny_execs_nil q
  | ret u=>exact q
  | brk=>exact q
  | cont=>exact q
 |none=>
  rw[hev]at ev;obtain⟨⟨x,QY⟩,hev2,ev⟩:=bind_some ev;by_cases hs:RL.c7 x c=true
  case neg=>rw[if_neg hs]at ev;cases ev
  rw[if_pos hs]at ev;obtain⟨⟨rr,Q5⟩,hev3,ev⟩:=map_some ev;cases ev;dsimp only at hev3 post;generalize hE:(fun(e:Value) (s₁:Shared)=>wpAny (model X.prog X.w) X.A (noteFrame e X.env) (fun _ s₂=>wpAny (model X.prog X.w) X.A (setFlight e none) (fun _ s₃=>wpAny (model X.prog X.w) X.A (handleBy e X.env [.ExceptHandler (some (.Name c np)) (some n) (b0::bZ) hpos]) (SP X pins D) X.xe s₃) X.xe s₂) X.xe s₁)=E1
  have own:PassesOwn (model X.prog X.w) X.A X.env E1:=by
   rw[<-hE];exact PassesOwn.looking
  have hand:∀ (pins':List (Addr × Obj)) (QR:L2.St) (H0 H':Hp) (s0 s1:Shared) (e C:Addr) (tb:Bool),Inv (CxX X (X.pn++pins) E1) pins' QR H0 s0->s1.os=s0.os->AllBare s1.gens->Un (frs X.stack) [] H0 H' s0.heap s1.heap->HOk X.prog X.w H' s1.heap->Exc (gM s0.heap H') e C tb s1.heap ->
    (Cls X.K x C/\RVm X.K M QY QR H'/\Fr' M Y H QR H')->E1 (.ref e) s1:=by
   intro pins' QR H0 H' s0 s1 e C tb J os bare un hok ex ⟨hc,rv1,fr1⟩
   have I0:Inv X pins QR H0 s0:=#[#[J.ok.mod,J.ok.kind,J.ok.glob,J.ok.blt,J.ok.above,J.ok.inj,J.ok.has,J.ok.cab,J.ok.hd,J.ok.frames,J.ok.stk,J.ok.exf,J.ok.bs,J.ok.bsz,J.ok.jS,J.ok.jD,J.ok.dZ,J.ok.frf],J.os,J.bare,J.base,J.loc,J.cell,J.free,J.cQ,fun p hp=>J.pin p (List.mem_append_left _ hp),J.hok,J.len]
   rw[<-hE];refine wx I0 hst hfrm hex os bare un hok ex hc hR hcr hs hg hm hdb hN hi hl fun oe vs s4 hcd hd hv hne hn0 n1 n2 n3 J4=>?_
   have sm:aw H' (upd H' e (Fz oe)):=fun a u q=>by rw[aO (aR q hne)];exact q
   have rv4:RVm X.K M (QY.set i (some (.exc x))) (QR.set i (some (.ref e))) (upd H' e (Fz oe)):=(rv1.same sm).bind hM (by
    rw[Rep]
    exact#[e,oe,_,C,vs,rfl,aT,hcd,hd,hv,hc])
   have fr4:Fr' M Y H (QR.set i (some (.ref e))) (upd H' e (Fz oe)):=fr1.trans (Fr'.bind hM sm)
   have post2:sC X.K M { nx:=fun QQ H5=>D.nx (QQ.set i none) H5,rt:=D.rt } (QR.set i (some (.ref e))) (upd H' e (Fz oe)) rr Q5:=by
    cases rr with
    | nx=>exact fun QQ H5 rv5 fr5=>post (QQ.set i none) H5 (rv5.unset hM) ((fr4.trans fr5).trans (Fr'.unset hM))
    | rt d=>exact fun QQ H5 v H6 rv5 fr5 sm5 rp=>post (QQ.set i none) H5 v H6 (rv5.unset hM) ((fr4.trans fr5).trans (Fr'.unset hM)) sm5 fun P hP=>rp P fun p hp=>by rw[<-aY.unset hM];exact hP p hp
   refine wpAny_mono (hsu e oe pins s4 _ _ _ J4 ⟨_,rr,Q5,rv4,hev3,post2⟩) (fun f s5 q=>?_) fun e s5 z=>by
    have z:X.xe e s5:=z;rw[hx]at z;exact z.elim
   cases f with
   |next=>
    obtain⟨QQ,H5,J5,q⟩:=q
    exact vD (nG J5 I0.ok hn0 n1 n2 n3) hN hi hl fun s6 J6=>#[_,H5,J6,q]
   |ret u=>
    obtain⟨v,QQ,H5,J5,rel,q⟩:=q
    exact vD (nG J5 I0.ok hn0 n1 n2 n3) hN hi hl fun s6 J6=>#[v,_,H5,J6,rel,q]
   |brk=>
    obtain⟨_,_,_,q⟩:=q;exact q.elim
   |cont=>
    obtain⟨_,_,_,q⟩:=q;exact q.elim
  have rz:=hbx (X.pn++pins) E1 (fun QR Cv _ H1=>∃ C,Cv=.ref C/\Cls X.K x C/\RVm X.K M QY QR H1/\Fr' M Y H QR H1) (fun pins' QR H0 s0 e s1 J z=>by
    obtain⟨x',C,H',rfl,⟨C',q,hc⟩,os,bare,un,hok,ex⟩:=z;cases q
    exact hand pins' QR H0 H' s0 s1 x' C true J os bare un hok ex hc) (fun pins' QR H0 s0 h' e C vs J m z=>by
    obtain⟨C',q,hc⟩:=z;cases q
    exact hand pins' QR H0 H0 s0 _ e C false J rfl J.bare (Un.kept m.keeps) (J.hok.kept m.keeps) (um J.hok m) hc) own
  have I1:Inv (CxX X (X.pn++pins) E1) [] Y H s:=#[#[I.ok.mod,I.ok.kind,I.ok.glob,I.ok.blt,I.ok.above,I.ok.inj,I.ok.has,I.ok.cab,I.ok.hd,I.ok.frames,I.ok.stk,I.ok.exf,I.ok.bs,I.ok.bsz,I.ok.jS,I.ok.jD,I.ok.dZ,I.ok.frf],I.os,I.bare,I.base,I.loc,I.cell,I.free,I.cQ,fun p hp=>I.pin p (by rw[QD]at hp;exact hp),I.hok,I.len]
  refine wpAny_mono (rz [] s Y H { nx:=fun _ _=>False,rt:=fun _ _=>False } I1 ⟨QP,x,QY,rv,hev2,fun QR H1 C hc rv1 fr1=>#[C,rfl,hc,rv1,fr1]⟩) (fun f s1 q=>?_) fun e s1 z=>by
   have z:E1 e s1:=z;subst hE;exact z
  cases f with
  |next=>
   obtain⟨_,_,_,q⟩:=q;exact q.elim
  |ret u=>
   obtain⟨_,_,_,_,_,q⟩:=q;exact q.elim
  |brk=>
   obtain⟨_,_,_,q⟩:=q;exact q.elim
  |cont=>
   obtain⟨_,_,_,q⟩:=q;exact q.elim
end
section
variable{X:Cx}
def sk:bK X (.builtin "isinstance") (fun xs H Q=>∃ b o u C vs t k,xs=[.ref b,t]/\H b=some (.frz o u)/\(o.cls=.ref C/\o.dict=none)/\o.data=.fields vs/\rS X.K C/\((∃ D,t=.ref D/\W.kitOne X.K (.ref C) (.ref D)=some k)\/∃ T,t=.ty T/\W.kitOne X.K (.ref C) (.type T)=some k)/\Q (.bl k) H):=by
 by_in;obtain⟨b,o,u,C,vs,t,k,rfl,hb,hcd,hd,F,hk,q⟩:=h
 cases r with
 |cons r1 r2=>
  cases r2 with
  |cons r2 r3=>
   cases r3;cases r1
   have J:W.InstAt s.heap b o C none:=#[(I.hok _ _ hb).1,hcd.1,by unfold W.notCls;rw[hd],by rw[hcd.2];trivial]
   rcases hk with⟨D,rfl,e⟩ | ⟨T,rfl,e⟩
   ·cases r2
    exact W.kia_one (sV F) I.kIn J e (fun z=>nomatch z) fun tk=>#[.bl k,H,I.tok tk,rfl,q]
   ·cases r2
    exact W.kia_one (sV F) I.kIn J e (fun z=>nomatch z) fun tk=>#[.bl k,H,I.tok tk,rfl,q]
def yk(ht:∀ x C,Cls X.K x C->(∃ D,t=.ref D/\W.kitOne X.K (.ref C) (.ref D)=some (RL.c7 x c))\/∃ T,t=.ty T/\W.kitOne X.K (.ref C) (.type T)=some (RL.c7 x c))(h:tE X.K cl (.isx a' c) Y H Q) :
  tCB (fun xs H Q=>∃ b o u C vs t k,xs=[.ref b,t]/\H b=some (.frz o u)/\(o.cls=.ref C/\o.dict=none)/\o.data=.fields vs/\rS X.K C/\((∃ D,t=.ref D/\W.kitOne X.K (.ref C) (.ref D)=some k)\/∃ T,t=.ty T/\W.kitOne X.K (.ref C) (.type T)=some k)/\Q (.bl k) H) (iP (tE X.K cl a') (iP (tC t) lg)) Y H Q:=by
 kd_p;x_go
 cases x with
 |exc n=>
  cases e;refine#[QP,_,rv,ea,fun v H1 r1=>?_];have rp:=r1.rep;rw[Rep]at rp;obtain⟨b,o,u,C,vs,rfl,h1,h2,h3,h4,h5⟩:=rp;exact#[b,o,u,C,vs,t,_,rfl,h1,h2,h3,h5.kin,ht n C h5,k _ _ (dJ r1.same)]
 | _=>cases e
def Hv(hg:Gl X "isinstance")(hm:X.mg "isinstance" = none)(hgc:Gl X c)(hmc:X.mg c=some (.ref D))(hns:W.nsIn X.K mainGlobals c=some (some (.ref D)))(hcr:c∈d8)(hdb:(c == ("__debug__" : Str))=false)(ha:SE X cl a a')(hn:noStar a=true) :
  SE X cl (.Call (.Name "isinstance" p) [a,.Name c p2] [] pos) (.isx a' c) :=
 PE.weak (fY sk hg hm (by decide +kernel) (bu ha (bu (vG (v:=.ref D) hgc hmc rfl hdb) cL rfl) (ay _ hn)) ∅ ∅ (ay _ hn) rfl) fun Y H Q h=>yk (fun x C hc=>.inl #[D,rfl,(hc.ref hcr hns).1]) h
def Gq(hg:Gl X "isinstance")(hm:X.mg "isinstance" = none)(hgc:Gl X "ValueError")(hmc:X.mg "ValueError" = none)(ha:SE X cl a a')(hn:noStar a=true):SE X cl (.Call (.Name "isinstance" p) [a,.Name "ValueError" p2] [] pos) (.isx a' "ValueError") :=
 PE.weak (fY sk hg hm (by decide +kernel) (bu ha (bu (vy (v:=.ty "ValueError") hgc hmc PyProof.Rows.Boot.«ValueError» rfl ∅ ∅) cL rfl) (ay _ hn)) ∅ ∅ (ay _ hn) rfl) fun Y H Q h=>yk (fun x C hc=>.inr #[_,rfl,by rw[hc.val];simp[RL.c7]]) h
end
def qt:∀ ys:List Str,Str.join ⟨(List.toArray [])⟩ ys=⟨(ys.flatMap fun s=>s.cps.toList).toArray⟩
 | []=>rfl
 | [x]=>by simp[Str.join]
 | x::y::r=>by
  have ih:=qt (y::r);show x++(⟨(List.toArray [])⟩:Str)++Str.join ⟨(List.toArray [])⟩ (y::r)=_;rw[ih];show(⟨(x.cps ++ (List.toArray []))++(List.flatMap (fun s=>s.cps.toList) (y::r)).toArray⟩:Str)=_;simp
def vR:∀ {ys:List Str} {us:List Value},Vals (ys.map V.str) us->StrsAre us ys
 | [],_,r=>by cases r;exact .nil
 | y::ys,_,r=>by
  cases r with
  |cons a b=>
   obtain⟨t,rfl⟩:=a;exact .cons y t (vR b)
def uc{P:Addr->Prop}{K:W.Frag}:∀ {ds:List RL.D} {ss:List Str} {xs:List V},RL.strs? ds=some ss->af P K H ds xs->xs=ss.map V.str
 | [],ss,xs,h,r=>by
  rw[RL.strs?]at h;cases h;rw[af]at r;exact r
 | d::ds,ss,xs,h,r=>by
  rw[af]at r;obtain⟨x,t,rfl,r1,r2⟩:=r
  cases d with
  |str y=>
   rw[RL.strs?]at h;obtain⟨q,h1,h2⟩:=map_some h;subst h2;rw[aQ r1,uc h1 r2];rfl
  | _=>cases h
section
def Dv:MtR X "str.join" (fun x xs H Q=>∃ b ys,x=.str ⟨(List.toArray [])⟩/\xs=[.ref b]/\H b=some (.lst (ys.map V.str))/\(ys.map (·.length)).sum<=16777216/\Q (.str (Str.join ⟨(List.toArray [])⟩ ys)) H):=by
 intro pins s Y H x xs v us Q I rx r h;obtain⟨b,ys,rfl,rfl,hb,hz,q⟩:=h;obtain⟨t,rfl⟩:=rx;obtain⟨u,rfl,ru⟩:=vals1 r;cases ru;obtain⟨its,rv,ht,_⟩:=I.list (SqL.of hb)
 refine join_list (items:=its.toArray) ht.isList (by simpa using vR rv) (by show _+_*0<=_;rw[Nat.mul_zero];exact hz) fun t' k=>#[.str (Str.join #[(List.toArray [])] ys),H,I.tok _,#[t',?_],q]
 show Value.str (Builtin.Str.glued ⟨(List.toArray [])⟩ ys) t'=_;rw[PySem.StrLaws.glued_eq_join]
def xP:∀ {ss:List Str},ss.all (fun s=>decide (s.length<=100))=true->(ss.map (·.length)).sum<=100*ss.length
 | [],_=>Qc _
 | x::r,h=>by
  rw[Qx,Bool.and_eq_true,decide_eq_true_eq]at h;have:=xP h.2;rw[List.map_cons,List.sum_cons,List.length_cons];omega
def Dk(ha:SE X cl a a')(hn:noStar a=true)(hline:(apos.endLine == pos.line)=true):SE X cl (.Call (.Attribute (.Constant (.str ⟨(List.toArray [])⟩) j p) "join" apos) [a] [] pos) (.join a'):=by
 refine PE.weak (Cs PySem.F.plainAttrs_str PySem.F.slot_str_join PySem.F.type_str_join Dv uv (bu ha cL (ay [] hn)) rfl ?_ hline (ay [] hn) rfl) fun Y H Q h=>?_
 ·rw[ay [] hn];rfl
 kd_p;x_go
 cases x with
 |lst ds=>
  obtain⟨ss,e1,e2⟩:=bind_some e;split at e2
  ·rename_i hz;cases e2;refine#[rfl,QP,_,rv,ea,fun v H1 r1=>?_];obtain⟨b,xs,rfl,_,f2,f3⟩:=aG r1.rep;rw[uc e1 f3]at f2;have hs:=xP hz.2;have hm:RL.most=100000:=rfl;refine#[b,ss,rfl,rfl,f2,by omega,?_];rw[qt];exact k _ _ (dh r1.same hU rfl)
  ·cases e2
 | _=>cases e
end
end RS
namespace L2
open PySem PySem.Spec PyProof.Rows
structure j9(k:Nat)(A:Around):Prop where
 dp:A.depth+3*k+5<recursionLimit
 un:A.units+16*k+200<cLine
def cJ.h(r:cJ k A):j9 k A:=#[r.dp,r.un]
abbrev HXH(A:Around)(H:Hp):Prop:=A.handled=none\/∃ h o u vs,A.handled=some (.ref h)/\H h=some (.frz o u)/\o.data=.fields vs/\vs[2]?=some .none
structure oj(P:Program)(w:World)(K:W.Frag)(mg:Str->Option Value)(base:Heap)(k:Nat)(f:Addr)(fd:FuncData)(ps:List Str)(sp:Sp):Prop where
 len:∀ vs H Q,sp vs H Q E0->vs.length=ps.length
 run:∀ (A:Around) (outer:List Env) (s:Shared) (H:Hp) (us:List Value) (vs:List V) (Q:VK),j9 k A->HXH A H->rM P w K mg base A outer s H->BindsTo s fd ⟨us,[]⟩ (ps.zip us)->Vals vs us->sp vs H Q E0->codeAny (model P w) A (.call (.ref f) ⟨us,[]⟩) (CR CX0 outer P w H s Q E0) s
@[reducible]noncomputable def cxH(P:Program)(w:World)(K:W.Frag)(mg:Str->Option Value)(base:Heap)(N:List Str)(qual:Str)(scope:Scope)(f:Addr)(cd:Value)(A:Around)(outer:List Env)(s:Shared)(H:Hp):Cx:={ (iJ CX0 P w K mg base N qual scope f cd A outer s H E0).nox with calm:=false }
section
variable{K:W.Frag}{st:Stmt}
def Fun.okH(F:Fun K x qual st f fd)(S:fO N ps (aP st))(len:∀ vs H Q,sp vs H Q E0->vs.length=ps.length)
 (hbody:∀ (cdv:Value) (A:Around) (outer:List Env) (s:Shared) (H:Hp) (vs:List V) (Q:VK),j9 k (A.deeper (envOfC qual (aP st) s.heap.objs.size f cdv))->sp vs H Q E0->∃ t,PSs (cxH P w K mg base N qual (aP st) f cdv A outer s H) (cB st) t/\t { nx:=fun _ H'=>Q .non H',rt:=Q } (start N vs) H):oj P w K mg base (k+1) f fd ps sp:=by
 obtain⟨oc,od,kV,doc,pm,an,cdv,ct,osl,rfl,lk,hcd⟩:=F.ex;refine#[len,fun A outer s H us vs Q hr hx e0 hb r hsp=>?_];have hl:=len _ _ _ hsp;have KX:K.In s.heap:=e0.mod.kin.keeps fun b o e=>(e0.bs b o e).1
 have kinds:∀ y∈ps.zip us,(aP st).names.lookup y.1=some .local\/((aP st).names.lookup y.1=some .cell/\((cellsFrom (s.heap.objs.size+1) (aP st).names []).lookup y.1).isSome=true):=fun⟨n,v⟩ hy=>(S.par n (List.of_mem_zip hy).1).imp (fun q=>q) fun q=>#[q,W.cellsFrom_some _ _ _ (.inl q)]
 refine codeAny_call_function (by have:=hr.dp;omega) (KX _ _ lk) rfl S.co S.gen rfl (W.codeRec_of KX hcd) (hb _ _ _ _ ?_);refine wpAny_newFunctionEnv_cells S.kind kinds fun env he s1 y=>?_;subst he;refine#[(e0.mod.nolimit.keeps fun b o e=>(e0.bs b o e).1).keeps y.toInCall.keep,codeAny_func ?_]
 have hr':j9 k (A.deeper (envOfC qual (aP st) s.heap.objs.size f cdv)):=⟨by have:=hr.dp;show A.depth+1+3*k+5<_;omega,by have:=hr.un;show A.units+3+16*k+200<_;omega⟩
 obtain⟨t,ht,hq⟩:=hbody cdv A outer s H vs Q hr' hsp;have I0:Inv (iJ CX0 P w K mg base N qual (aP st) f cdv { A with handled:=none } outer s H E0) [] (start N vs) H s1:=qo (A:={ A with handled:=none }) S rfl ⟨e0.frames,e0.mod,e0.bs,e0.bsz,e0.dZ,e0.frf,e0.hok,e0.bare⟩ hl r y
 have I:Inv (cxH P w K mg base N qual (aP st) f cdv A outer s H) [] (start N vs) H s1:=#[#[I0.ok.mod,I0.ok.kind,I0.ok.glob,I0.ok.blt,I0.ok.above,I0.ok.inj,I0.ok.has,I0.ok.cab,#[fun z=>(nomatch z),hx],Around.frames_deeper e0.frames,I0.ok.stk,I0.ok.exf,I0.ok.bs,I0.ok.bsz,I0.ok.jS,I0.ok.jD,I0.ok.dZ,I0.ok.frf],I0.os,I0.bare,I0.base,I0.loc,I0.cell,I0.free,I0.cQ,I0.pin,I0.hok,I0.len]
 refine wpAny_mono (ht [] s1 (start N vs) H _ I hq) (fun fl s' hs=>?_) fun e s' hs=>hs.elim
 cases fl with
 |ret u=>
  obtain⟨v,QQ,H',J,rv,q⟩:=hs;exact#[v,H',J.os,J.bare,J.base,J.hok,rv,q]
 |next=>
  obtain⟨QQ,H',J,q⟩:=hs;exact#[.non,H',J.os,J.bare,J.base,J.hok,rfl,q]
 |brk=>
  obtain⟨_,_,_,q⟩:=hs;exact q.elim
 |cont=>
  obtain⟨_,_,_,q⟩:=hs;exact q.elim
def Fun.okX(F:Fun K x qual st f fd)(S:fO N ps (aP st))(len:∀ vs H Q E,sp vs H Q E->vs.length=ps.length)
 (hbody:∀ (cdv:Value) (A:Around) (outer:List Env) (s:Shared) (H:Hp) (vs:List V) (Q:VK) (E:XK),cJ k (A.deeper (envOfC qual (aP st) s.heap.objs.size f cdv))->sp vs H Q E->∃ t,PSs (iJ (CXE P w) P w K mg base N qual (aP st) f cdv A outer s H E) (cB st) t/\t { nx:=fun _ H'=>Q .non H',rt:=Q } (start N vs) H):eJ P w K mg base (CXE P w) (k+1) f fd ps sp:=by
 obtain⟨oc,od,kV,doc,pm,an,cdv,ct,osl,rfl,lk,hcd⟩:=F.ex;exact BO lk hcd S len fun A outer s H vs Q E hr hsp=>hbody cdv A outer s H vs Q E hr hsp
end
def AF(F:oj X.prog X.w X.K X.mg X.base k f fd ps sp)(hr:j9 k X.A)(hg:Gl X x)(hm:X.mg x=some (.ref f))(hk:W.keepIn X.K (.ref f)=true)
 (hb:Binds X.K fd ps [])(ha:PA X (e::es) t)(hdb:(x == ("__debug__" : Str))=false)(he:starEach (e::es) X.env=(false,eval e X.env)::starEach es X.env)(hpl:(backTo pos (starEach es X.env)).any (·.1)=false) :
  PE X (.Call (.Name x p) (e::es) [] pos) (fun Y H Q=>t Y H fun vs H1=>sp vs H1 Q E0):=by
 kt_k;refine wpAny_Call_Name_kw (hV I hg hm ?_ hdb);refine W.callWith_K (h₀:=X.base) I.ok.mod.kin hk (thn (ha pos pins s Y H _ I h) fun us s1 ⟨vs,H1,I1,r,q⟩=>#[I1.kIn,?_]) he hpl
 have hl:us.length=ps.length:=by rw[<-r.length];exact F.len _ _ _ q
 have hbb:=hb s1 us I1.kIn (by rw[QD];exact hl);rw[QD]at hbb
 have hx:HXH X.A H1:=by
  rcases I1.ok.hd.2 with z | ⟨h,o,u,vs,h1,h2,h3⟩
  ·exact .inl z
  ·exact .inr #[h,o,u,vs,h1,I1.base.da _ _ _ h2,h3]
 refine wpAny_call (codeAny_mono (F.run X.A X.stack s1 H1 us vs Q hr hx I1.BD hbb r q) fun r s' hq=>?_)
 cases r with
 | error e=>exact hq.elim
 |ok fl=>
  cases fl with
  | ret u=>exact I1.after hq
  | next=>exact False.elim hq
  | brk=>exact False.elim hq
  | cont=>exact False.elim hq
end L2
namespace RS
open PySem PySem.Spec PyProof.Rows L2
abbrev Cb:Expr->Option (List Expr)
 | .JoinedStr vs _=>some vs
 | _=>none
def B7{e:Expr}{vs:List Expr}(h:Cb e=some vs):∃ p,e=.JoinedStr vs p:=by
 cases e
 case JoinedStr=>cases h;exact#[_,rfl]
 k_ne
abbrev Eh:Expr->Option (Expr × Int × Option Expr)
 | .FormattedValue e c s _=>some (e,c,s)
 | _=>none
def CP{e x:Expr}{c:Int}{s:Option Expr}(h:Eh e=some (x,c,s)):∃ p,e=.FormattedValue x c s p:=by
 cases e
 case FormattedValue=>cases h;exact#[_,rfl]
 k_ne
abbrev y8:Stmt->Option (Option Expr × Option Expr)
 | .Raise e c _=>some (e,c)
 | _=>none
def xJ{st:Stmt}{e c:Option Expr}(h:y8 st=some (e,c)):∃ p,st=.Raise e c p:=by
 cases st
 case Raise=>cases h;exact#[_,rfl]
 k_ne
abbrev Ew:Stmt->Option (List Stmt × List ExceptHandler × List Stmt × List Stmt)
 | .Try b h o f _=>some (b,h,o,f)
 | _=>none
def DS{st:Stmt}{b o f:List Stmt}{h:List ExceptHandler}(z:Ew st=some (b,h,o,f)):∃ p,st=.Try b h o f p:=by
 cases st
 case Try=>cases z;exact#[_,rfl]
 all_goals exact nos z
abbrev rB:ExceptHandler->Option Expr × Option Str × List Stmt
 | .ExceptHandler t n b _=>(t,n,b)
structure CC where
 N:List Str
 sc:Scope
 B:List Str
 G:List (Str × Int)
 F:List (Str × List Nat)
 calm:Bool
 hf:List Nat
 Xr:List Str
 Xs:List Str
abbrev GF(scope sc:Scope):Scope:={ scope with names:=scope.names.map fun(n,k)=>if(k == NameKind.free&&sc.kind == .function&&sc.names.lookup n == some .cell)then(n,NameKind.cell)else(n,k) }
abbrev CC.inner(C:CC)(scope:Scope):CC:={ C with sc:=GF scope C.sc }
abbrev j6(x:Str):Bool:=!(x == ("__debug__" : Str)) && !(x == ("__classdict__" : Str))
abbrev Ai(C:CC)(x:Str):Bool:=C.sc.names.lookup x == some .local || C.sc.names.lookup x == some .cell
abbrev zX(C:CC)(x:Str):Bool:=C.sc.names.lookup x == some .local || C.sc.names.lookup x == some .cell || C.sc.names.lookup x == some .free
abbrev glB(C:CC)(x:Str):Bool:=C.sc.names.lookup x == some .globalImplicit&&j6 x
abbrev mr(C:CC)(x:Str):Bool:=glB C x&&C.B.contains x
abbrev nmB(C:CC)(i:Nat)(x:Str):Bool:=C.N[i]? == some x&&j6 x
structure XOk(C:CC)(X:Cx)(cl:RL.Cl):Prop where
 scope:X.env.scope=C.sc
 names:X.N=C.N
 nd:C.N.Nodup
 calm:C.calm=true->X.calm=true
 xe:X.xe=fun _ _=>False
 hu:X.A.units+100<cLine
 blt:∀ x∈C.B,X.mg x=none
 glb:∀ x i,C.G.lookup x=some i->∃ u,X.mg x=some u/\RelV (.int i) u
 fns:∀ (f:Nat) (x:Str) (mp:List Nat),C.calm=true->C.F[f]?=some (x,mp)->∃ k fa fd ps,eJ X.prog X.w X.K X.mg X.base CX0 k fa fd ps (if mp=[]then spF X.K cl f else spM X.K cl mp f)/\cJ k X.A/\X.mg x=some (.ref fa)/\W.keepIn X.K (.ref fa)=true/\Binds X.K fd ps []
 hfn:∀ (f:Nat) (x:Str),C.hf.contains f=true->C.F[f]?=some (x,[])->∃ k fa fd ps,oj X.prog X.w X.K X.mg X.base k fa fd ps (spF X.K cl f)/\j9 k X.A/\X.mg x=some (.ref fa)/\W.keepIn X.K (.ref fa)=true/\Binds X.K fd ps []
 cls:∀ c,C.Xr.contains c=true->∃ D,X.mg c=some (.ref D)/\Cls X.K c D
 ref:∀ c,C.Xs.contains c=true->∃ D,X.mg c=some (.ref D)/\W.nsIn X.K mainGlobals c=some (some (.ref D))
section
variable{C:CC}{X:Cx}{cl:RL.Cl}{e:Expr}
def XOk.vis(h:XOk C X cl){x:Str}(v:zX C x=true):Vis X.env.scope x:=by
 unfold zX at v;rw[<-h.scope,Bool.or_eq_true,Bool.or_eq_true,beq_iff_eq,beq_iff_eq,beq_iff_eq]at v;rcases v with(v | v) | v
 ·exact .inl v
 ·exact .inr (.inl v)
 ·exact .inr (.inr v)
def XOk.loc(h:XOk C X cl){x:Str}(v:Ai C x=true):Loc X.env.scope x:=by
 unfold Ai at v;rw[<-h.scope,Bool.or_eq_true,beq_iff_eq,beq_iff_eq]at v;exact v
def bX{x:Str}(h:j6 x=true):(x == ("__debug__" : Str))=false/\(x == ("__classdict__" : Str))=false:=by
 unfold j6 at h;rw[Bool.and_eq_true,Bool.not_eq_true',Bool.not_eq_true']at h;exact h
def XOk.gl(h:XOk C X cl){x:Str}(v:glB C x=true):Gl X x/\j6 x=true:=by
 unfold glB at v;rw[<-h.scope,Bool.and_eq_true,beq_iff_eq]at v;exact v
def XOk.bl(h:XOk C X cl){x:Str}(v:mr C x=true):Gl X x/\X.mg x=none:=by
 unfold mr at v;rw[Bool.and_eq_true]at v;exact#[(h.gl v.1).1,h.blt x (by simpa using v.2)]
def XOk.nm(h:XOk C X cl){i:Nat}{x:Str}(v:nmB C i x=true):X.N[i]?=some x/\j6 x=true:=by
 unfold nmB at v;rw[<-h.names,Bool.and_eq_true,beq_iff_eq]at v;exact v
def XOk.ndX(h:XOk C X cl):X.N.Nodup:=by rw[h.names];exact h.nd
def XOk.blk(h:XOk C X cl){scope:Scope}(cls:List (Str × Addr))(Ca:Addr)(fp:List Addr)(s:Shared)(H:Hp):XOk (C.inner scope) (L2.blk X scope cls Ca fp s H) cl where
 scope:=by
  show relabel scope X.env=GF scope C.sc;rw[<-h.scope];rfl
 names:=h.names
 nd:=h.nd
 calm:=h.calm
 xe:=rfl
 hu:=h.hu
 blt:=h.blt
 glb:=h.glb
 fns:=h.fns
 hfn:=h.hfn
 cls:=h.cls
 ref:=h.ref
abbrev iL:RL.D->Const->Bool
 | .int i,.int j=>i == j
 | .bl i,.bool j=>i == j
 | .non,.none=>true
 | .str x,.str y=>x == y
 | _,_=>false
abbrev plainT:Expr->Bool
 | .UnaryOp .Not _ _=>false
 | .BoolOp _ _ _=>false
 | .IfExp _ _ _ _=>false
 | .Compare _ _ _ _=>false
 | _=>true
abbrev sf:Expr->Bool
 | .BoolOp _ _ _=>true
 | _=>false
abbrev nL:Expr->Bool
 | .Set _ _ _=>false
 | _=>true
abbrev wF:RL.Bi->Option Str
 | .len=>some "len"
 | .list=>some "list"
 | .tuple=>some "tuple"
 | .int=>some "int"
 | .all=>some "all"
 | _=>none
abbrev rN:RL.Ty->Str
 | .int => "int"
 | .bool => "bool"
 | .list => "list"
 | .tuple => "tuple"
 | .str => "str"
abbrev Kp(neg:Bool):CmpOp:=if neg then .IsNot else .Is
abbrev F5(neg:Bool):CmpOp:=if neg then .NotIn else .In
abbrev qZ(C:CC)(i:Nat)(e:Expr):Bool:=(eE e).any fun x=>nmB C i x&&zX C x
abbrev gR(C:CC)(i:Nat)(e:Expr):Bool:=(eE e).any fun x=>nmB C i x&&Ai C x
abbrev lI(C:CC):List Nat->List Expr->Bool
 | [],es=>es.isEmpty
 | i::is,es=>match es with
  | e::es=>gR C i e&&lI C is es
  | []=>false
abbrev pN(C:CC)(tg:List Nat)(e:Expr):Bool :=
 match tg with
 | [i]=>gR C i e
 | tg=>(kM e).any fun es=>lI C tg es
abbrev nF(C:CC)(scope:Scope)(tg:List Nat):Bool:=tg.all fun i=>match C.N[i]? with
 | some x=>scope.names.lookup x == some .local || scope.names.lookup x == some .cell
 | none=>false
abbrev nI(C:CC)(scope:Scope)(tg:List Nat):Bool:=(List.range C.N.length).all fun i=>match C.N[i]? with
 | some x=>!(scope.names.lookup x == some .local || scope.names.lookup x == some .cell) || tg.contains i
 | none=>true
abbrev scB(scope sc:Scope):Bool:=scope.kind == .function&&scope.names.all (fun x=>(!(x.2 == .cell) || scope.names.lookup x.1 == some .cell)&&(!(x.2 == .local) || scope.names.lookup x.1 == some .local)&&(!(x.2 == .free) || sc.names.lookup x.1 == some .cell || sc.names.lookup x.1 == some .free))
abbrev bL(C:CC)(e:Expr)(nm:Str)(f:List Expr->Bool):Bool:=(kg e).any fun q=>(eE q.1).any (fun x=>x == nm&&mr C x)&&q.2.2.1.isEmpty&&q.2.1.all noStar&&f q.2.1
def bE{nm:Str}{f:List Expr->Bool}(h:XOk C X cl)(z:bL C e nm f=true):∃ p as pos,e=.Call (.Name nm p) as [] pos/\Gl X nm/\X.mg nm=none/\as.all noStar=true/\f as=true:=by
 unfold bL at z;obtain⟨⟨g,as,ks,pos⟩,z0,z⟩:=ak z;have e0:=eP z0;subst e0;z_go;fin2;cbv;obtain⟨x,y0,z1⟩:=ak z1;obtain⟨p,rfl⟩:=cE y0;obtain⟨y1,y2⟩:=ae z1;rw[beq_iff_eq]at y1;subst y1;obtain⟨b1,b2⟩:=h.bl y2;rw[Qp]at z2;subst z2;exact#[p,as,pos,rfl,b1,b2,z3,z4]
def all1{a:Expr}(h:[a].all noStar=true):noStar a=true:=by simpa using h
def all2{a b:Expr}(h:[a,b].all noStar=true):noStar a=true/\noStar b=true:=by simpa using h
def oX{a b c:Expr}(h:[a,b,c].all noStar=true):noStar a=true/\noStar b=true/\noStar c=true:=by simpa using h
end
abbrev wV:RL.It->Bool
 | .zip _ _=>true
 | _=>false
mutual
noncomputable def chk(C:CC)(t:Bool):RL.E->Expr->Bool
 | .var i=>fun e=>qZ C i e
 | .cst d=>fun e=>(pA e).any fun k=>iL d k
 | .glb y i=>fun e=>(eE e).any fun x=>x == y&&glB C x&&C.G.lookup x == some i
 | .bin o a b=>fun e=>(FH e).any fun q=>q.2.1 == tw o&&chk C false a q.1&&chk C false b q.2.2
 | .neg a=>fun e=>(vUn e).any fun q=>q.1 == .USub&&chk C false a q.2
 | .cmp c a b=>fun e=>(mV e).any fun q=>of1 q.2.1 fun op=>of1 q.2.2 fun r=>op == dX c&&chk C false a q.1&&chk C false b r
 | .chain c c' a b d=>fun e=>(mV e).any fun q=>of2 q.2.1 fun op op'=>of2 q.2.2 fun r s=>op == dX c&&op' == dX c'&&chk C false a q.1&&chk C false b r&&chk C false d s
 | .isN neg a=>fun e=>(mV e).any fun q=>of1 q.2.1 fun op=>of1 q.2.2 fun r=>op == Kp neg&&(pA r).any (fun k=>iL .non k)&&chk C false a q.1
 | .inn neg a b=>fun e=>(mV e).any fun q=>of1 q.2.1 fun op=>of1 q.2.2 fun r=>op == F5 neg&&mJ r&&chk C false a q.1&&chk C false b r
 | .inD neg a b=>fun e=>(mV e).any fun q=>of1 q.2.1 fun op=>of1 q.2.2 fun r=>op == F5 neg&&mJ r&&chk C false a q.1&&chk C false b r
 | .and a b=>fun e=>(vBool e).any fun q=>ofM q.2.1 fun l r rest=>q.1 == .And&&chk C t a l&&(if rest.isEmpty then chk C t b r else chk C t b (.BoolOp .And (r::rest) q.2.2))
 | .or a b=>fun e=>(vBool e).any fun q=>ofM q.2.1 fun l r rest=>q.1 == .Or&&chk C t a l&&(if rest.isEmpty then chk C t b r else chk C t b (.BoolOp .Or (r::rest) q.2.2))
 | .not a=>fun e=>(vUn e).any fun q=>q.1 == .Not&&chk C t a q.2
 | .ifx c a b=>fun e=>(Fb e).any fun q=>!t&&chk C true c q.1&&chk C false a q.2.1&&chk C false b q.2.2
 | .tup es=>fun e=>(kM e).any fun xs=>lQ C es xs&&decide (eO es<=1000)
 | .lst es=>fun e=>(G0 e).any fun xs=>lQ C es xs&&decide (eO es<=1000)
 | .ix a b=>fun e=>(mU e).any fun q=>mR q.2&&chk C false a q.1&&chk C false b q.2
 | .ixD a b=>fun e=>(mU e).any fun q=>mR q.2&&chk C false a q.1&&chk C false b q.2
 | .slT a b=>fun e=>(mU e).any fun q=>chk C false a q.1&&(vSl q.2).any fun s=>s.1.isNone&&s.2.2.isNone&&s.2.1.any fun r=>chk C false b r
 | .slF a b=>fun e=>(mU e).any fun q=>chk C false a q.1&&(vSl q.2).any fun s=>s.2.1.isNone&&s.2.2.isNone&&s.1.any fun r=>chk C false b r
 | .rev a=>fun e=>(mU e).any fun q=>chk C false a q.1&&(vSl q.2).any fun s=>s.1.isNone&&s.2.1.isNone&&s.2.2.any fun r=>gw (-1) r
 | .call f es=>fun e=>(C.calm || C.hf.contains f)&&(kg e).any fun q=>(eE q.1).any (fun x=>glB C x&&C.F[f]? == some (x,[]))&&q.2.2.1.isEmpty && !q.2.1.isEmpty&&lQ C es q.2.1
 | .bi b a=>fun e=>C.calm&&match b with
  | .lenSet=>bL C e "len" fun ys=>of1 ys fun y=>bL C y "set" fun zs=>of1 zs fun z=>chk C false a z
  | b=>(wF b).any fun x=>bL C e x fun ys=>of1 ys fun y=>chk C false a y
 | .max a b=>fun e=>C.calm&&bL C e "max" fun ys=>of2 ys fun y z=>chk C false a y&&chk C false b z
 | .isi a ty=>fun e=>bL C e "isinstance" fun ys=>of2 ys fun y z=>(eE z).any (fun x=>x == rN ty&&mr C x)&&chk C false a y
 | .rng1 a=>fun e=>C.calm&&bL C e "list" fun ys=>of1 ys fun y=>bL C y "range" fun zs=>of1 zs fun z=>chk C false a z
 | .rng2 a b=>fun e=>C.calm&&bL C e "list" fun ys=>of1 ys fun y=>bL C y "range" fun zs=>of2 zs fun z u=>chk C false a z&&chk C false b u
 | .rng3 c a b=>fun e=>C.calm&&bL C e "list" fun ys=>of1 ys fun y=>bL C y "range" fun zs=>of3 zs fun z u q=>gw c q&&chk C false a z&&chk C false b u
 | .comp d tg it c=>fun e=>(wg e).any fun q=>of1 q.2.1 fun g=>of1 g.ifs fun w=>g.is_async == 0&&scB q.2.2.1 C.sc&&nI C q.2.2.1 tg&&nL g.iter&&pN (C.inner q.2.2.1) tg g.target&&nF C q.2.2.1 tg&&uj C it g.target g.iter&&chk (C.inner q.2.2.1) false d q.1&&chk (C.inner q.2.2.1) true c w&&(C.calm || wV it)
 | .compA d tg it=>fun e=>(wg e).any fun q=>of1 q.2.1 fun g=>g.ifs.isEmpty&&g.is_async == 0&&scB q.2.2.1 C.sc&&nI C q.2.2.1 tg&&nL g.iter&&pN (C.inner q.2.2.1) tg g.target&&nF C q.2.2.1 tg&&uj C it g.target g.iter&&chk (C.inner q.2.2.1) false d q.1&&C.calm
 | .dk0=>fun e=>(xB e).any fun q=>q.1.isEmpty&&q.2.isEmpty
 | .dt0=>fun e=>(xB e).any fun q=>q.1.isEmpty&&q.2.isEmpty
 | .join a=>fun e=>(kg e).any fun q=>(xw q.1).any (fun u=>u.2.1 == ("join" : Str)&&u.2.2.endLine == q.2.2.2.line&&(pA u.1).any fun k=>iL (.str ⟨(List.toArray [])⟩) k)&&q.2.2.1.isEmpty&&of1 q.2.1 fun y=>noStar y&&chk C false a y
 | .isx a c=>fun e=>bL C e "isinstance" fun ys=>of2 ys fun y z=>(eE z).any (fun x=>x == c&&(if c == ("ValueError" : Str)then mr C x else glB C x&&C.Xs.contains x&&d8.contains x))&&chk C false a y
noncomputable def lQ(C:CC):RL.Es->List Expr->Bool
 | .nil=>fun xs=>xs.isEmpty
 | .cons e es=>fun xs=>match xs with
  | x::xs=>noStar x&&chk C false e x&&lQ C es xs
  | []=>false
noncomputable def uj(C:CC):RL.It->Expr->Expr->Bool
 | .seq a=>fun _ e=>chk C false a e
 | .rng1 a=>fun _ e=>bL C e "range" fun ys=>of1 ys fun y=>chk C false a y
 | .rng2 a b=>fun _ e=>bL C e "range" fun ys=>of2 ys fun y z=>chk C false a y&&chk C false b z
 | .rng3 c a b=>fun _ e=>bL C e "range" fun ys=>of3 ys fun y z q=>gw c q&&chk C false a y&&chk C false b z
 | .enm a=>fun tg e=>(kM tg).isSome&&bL C e "enumerate" fun ys=>of1 ys fun y=>chk C false a y
 | .zip a b=>fun tg e=>(kM tg).isSome&&bL C e "zip" fun ys=>of2 ys fun y z=>chk C false a y&&chk C false b z
end
abbrev uD(X:Cx)(cl:RL.Cl)(e:Expr)(e':RL.E)(b b':Bool):Prop:=(b=true->SE X cl e e')/\(b'=true->ST X cl e e'/\(sf e=true->SW X cl e e'))
section
variable{C:CC}{X:Cx}{cl:RL.Cl}{e:Expr}{e':RL.E}{b:Bool}
def wN{env:Env}(h:plainT e=true)(whole:Sem Value):isTrue e env whole=(do let v <- whole;standAt e.pos;holding [v] (truthy v)):=by
 cases e<;>first
  | rfl
  | (cases h;done)
  | (rename_i op _ _;cases op<;>first | rfl | (cases h;done))
def aH(h:b=true->SE X cl e e'/\plainT e=true):uD X cl e e' b b :=
 ⟨fun z=>(h z).1,fun z=>⟨Bu (h z).1 (wN (h z).2),fun q=>by
  have:=(h z).2
  cases e<;>first | (cases q;done) | (cases this;done)⟩⟩
def i9(h:b=true->SE X cl e e'/\ST X cl e e'/\sf e=false):uD X cl e e' b b :=
 ⟨fun z=>(h z).1,fun z=>⟨(h z).2.1,fun q=>by rw[(h z).2.2]at q;cases q⟩⟩
def Kt(h:b=false){b':Bool}(h':b'=false):uD X cl e e' b b':=⟨fun z=>(by rw[h]at z;cases z),fun z=>(by rw[h']at z;cases z)⟩
def GC{d:RL.D}{k:Const}{j:Nat}{pos:Pos}(h:iL d k=true):SE X cl (.Constant k j pos) (.cst d):=by
 cases d<;>cases k<;>simp only[iL]at h<;>first | (cases h;done) | skip
 case non.none=>exact oh u9 (fun P H=>by rw[Rep]) rfl
 case bl.bool i j=>rw[beq_iff_eq]at h;subst h;exact oh Ic (fun P H=>rK) rfl
 case int.int i j=>rw[beq_iff_eq]at h;subst h;exact oh sA (fun P H=>bh) rfl
 case str.str i j=>rw[beq_iff_eq]at h;subst h;exact oh uv (fun P H=>hU) rfl
def De{k:Const}(h:iL .non k=true):k=.none:=by
 cases k<;>simp only[iL]at h<;>first | (cases h;done) | rfl
def yr(t:RL.Ty):bootBuiltins (rN t)=some (.type (tyN t))/\rN t ≠ "__name__" /\ (rN t == ("__debug__" : Str))=false:=by
 cases t<;>exact#[by decide +kernel,by decide +kernel,by decide +kernel]
def dY(h:nL e=true)(env:Env)(x:Value):foldedSetIterable e env x=pure x:=by
 cases e<;>first | rfl | (cases h;done)
def Iw(hcalm:X.calm=true){o:RL.Bi}{x:Str}{p pos:Pos}{y:Expr}{a':RL.E}(hx:wF o=some x)(hb:Gl X x)(hb2:X.mg x=none)(ha:SE X cl y a')(hn:noStar y=true):SE X cl (.Call (.Name x p) [y] [] pos) (.bi o a'):=by
 cases o<;>simp only[wF]at hx<;>first | (cases hx;done) | skip
 case len=>cases hx;exact Fy hb hb2 ha hn
 case list=>cases hx;exact D8 hb hb2 ha hn
 case tuple=>cases hx;exact AR hb hb2 ha hn
 case int=>cases hx;exact Fg hb hb2 ha hn
 case all=>cases hx;exact GW hcalm hb hb2 ha hn
def yu{r:Expr}(h:mR r=true):xA r:=by
 cases r<;>first | (cases h;done) | (intro a b;rfl) | skip
def j1{i:Nat}(h:XOk C X cl)(z:qZ C i e=true):∃ x p,e=.Name x p/\X.N[i]?=some x/\Vis X.env.scope x/\(x == ("__debug__" : Str))=false/\(x == ("__classdict__" : Str))=false:=by
 obtain⟨x,z0,z⟩:=ak z;obtain⟨p,rfl⟩:=cE z0;cbv;obtain⟨g1,g2⟩:=h.nm z1;exact#[x,p,rfl,g1,h.vis z2,(bX g2).1,(bX g2).2]
def gc{i:Nat}(h:XOk C X cl)(z:gR C i e=true):∃ x p,e=.Name x p/\X.N[i]?=some x/\Loc X.env.scope x:=by
 obtain⟨x,z0,z⟩:=ak z;obtain⟨p,rfl⟩:=cE z0;cbv;exact#[x,p,rfl,(h.nm z1).1,h.loc z2]
def lT(h:XOk C X cl){T:List Nat}(hf:∀ i x,i∈T->X.N[i]?=some x->X.fn x=true\/X.env.scope.names.lookup x=some .local):∀ {is:List Nat} {es:List Expr},(∀ i∈is,i∈T)->lI C is es=true->PGs X es (gs is)/\(assignEach es X.env).length=is.length/\(assignEach es X.env).findIdx? (·.1)=none
 | [],es,_,z=>by
  rw[lI,Qp]at z;subst z;exact#[Ef,rfl,rfl]
 | i::is,[],_,z=>by cases z
 | i::is,e::es,hs,z=>by
  rw[lI]at z;cbv;obtain⟨x,p,rfl,g1,g2⟩:=gc h z1;obtain⟨h1,h2,h3⟩:=lT h hf (fun j hj=>hs j (Ql _ hj)) z2;refine#[Bc (vK h.ndX g1 g2 (hf i x (hs i Qq) g1)) h1 rfl,?_,?_]
  ·show(assignEach es X.env).length+1=is.length+1;rw[h2]
  ·show List.findIdx? (·.1) ((false,assign (.Name x p) X.env)::assignEach es X.env)=none;rw[List.findIdx?_cons];simp only[Bool.false_eq_true,if_false,h3,Option.map_none]
def rX{tg:List Nat}{tgE:Expr}(h:XOk C X cl)(hf:∀ i x,i∈tg->X.N[i]?=some x->X.fn x=true\/X.env.scope.names.lookup x=some .local)(hc:pN C tg tgE=true):PG X tgE (gT X.K tg):=by
 unfold pN at hc;split at hc
 ·obtain⟨x,p,rfl,g1,g2⟩:=gc h hc;exact vK h.ndX g1 g2 (hf _ x (by simp) g1)
 ·rename_i hne;obtain⟨es,z0,z⟩:=ak hc;obtain⟨k,p,rfl⟩:=e8 z0;obtain⟨h1,h2,h3⟩:=lT h hf (fun i hi=>hi) z
  have e:gT X.K tg=fun v Y H Q=>pR X.K tg.length (gs tg) v Y H Q\/pP X.K tg.length (gs tg) v Y H Q:=by
   unfold gT;split
   ·rename_i i;exact absurd rfl (hne i)
   ·rfl
  rw[e];exact uE (oN h1 h2 h3) (pC h1 h2 h3)
section rulesH
variable{pos:Pos}
def Az(F:oj X.prog X.w X.K X.mg X.base k fa fd ps (spF X.K cl f))(hr:j9 k X.A)(hg:Gl X x)
 (hm:X.mg x=some (.ref fa))(hk:W.keepIn X.K (.ref fa)=true)(hb:Binds X.K fd ps [])(he:SEs X cl (e::es) (.cons e' es'))(hdb:(x == ("__debug__" : Str))=false)(hn:noStar e=true)(hns:es.all noStar=true) :
  SE X cl (.Call (.Name x p) (e::es) [] pos) (.call f (.cons e' es')):=by
 refine PE.weak (AF F hr hg hm hk hb he hdb (ay es hn) (cU hns)) fun Y H Q h=>?_;obtain⟨QP,d,rv,ev,q⟩:=h;obtain⟨ds,e1,e2⟩:=bind_some ev;refine#[QP,ds,rv,e1,fun vs H1 s1 r1=>?_];refine#[ds,d,r1,e2,fun v H2 s2 r2=>q v H2 #[s1.trans s2,r2.none,fun _ m a z=>?_,fun M _ P hP _=>?_]]
 ·subst z
  have hh:H1 a=none:=by
   cases d with
   | lst ds=>obtain⟨p,xs,e1,e2,_⟩:=aG r2;cases e1;exact Classical.byContradiction e2
   | dK ks ds=>rw[Rep]at r2;obtain⟨p,xs,e1,e2,_⟩:=r2;cases e1;exact Classical.byContradiction e2
   | dT ks ds=>rw[Rep]at r2;obtain⟨p,xs,e1,e2,_⟩:=r2;cases e1;exact Classical.byContradiction e2
   | _=>cases m
  exact s1.free hh
 ·refine r2.weak fun a z=>?_;obtain⟨o,ho⟩:=Option.ne_none_iff_exists'.mp (hP a z);rw[s1 _ _ ho]
  exact fun q=>nomatch q
end rulesH
def Gf{x:Str}{i:Int}{pos:Pos}(h:XOk C X cl)(hg:glB C x=true)(hl:C.G.lookup x=some i):SE X cl (.Name x pos) (.glb x i):=by
 obtain⟨u,h1,h2⟩:=h.glb x i hl;obtain⟨g1,g2⟩:=h.gl hg;exact EF (u:=u) (vG g1 h1 h2 (bX g2).1)
def DE{x:Str}{f:Nat}(hcal:(C.calm || C.hf.contains f)=true){p pos:Pos}{y:Expr}{ys:List Expr}{es:RL.Es}(h:XOk C X cl)(hg:glB C x=true)(hf:C.F[f]?=some (x,[]))(he:SEs X cl (y::ys) es)(hl:eO es=ys.length+1)(hn:noStar y=true)(hns:ys.all noStar=true) :
  SE X cl (.Call (.Name x p) (y::ys) [] pos) (.call f es):=by
 obtain⟨g1,g2⟩:=h.gl hg;by_cases hc:C.calm=true
 ·obtain⟨k,fa,fd,ps,F,hr,hm,hk,hb⟩:=h.fns f x [] hc hf;rw[if_pos rfl]at F
  cases es with
  | nil=>simp[eO]at hl
  | cons e' es'=>exact DO F hr g1 hm hk hb he (bX g2).1 hn hns
 ·have hh:C.hf.contains f=true:=by simpa[hc]using hcal
  obtain⟨k,fa,fd,ps,F,hr,hm,hk,hb⟩:=h.hfn f x hh hf
  cases es with
  | nil=>simp[eO]at hl
  | cons e' es'=>exact Az F hr g1 hm hk hb he (bX g2).1 hn hns
def nt{scope sc:Scope}(h:scB scope sc=true):pL scope sc:=by
 unfold scB at h;obtain⟨h1,h2⟩:=ae h;rw[Qu]at h2;refine#[by simpa using h1,fun x hx z=>?_,fun x hx z=>?_,fun x hx z=>?_]
 ·have:=h2 x hx;rw[z]at this;simpa using this
 ·have:=h2 x hx;rw[z]at this;simpa using this
 ·have:=h2 x hx;rw[z]at this;simpa using this
def jR{scope:Scope}{tg:List Nat}(h:nI C scope tg=true)(i:Nat)(x:Str)(hx:C.N[i]?=some x)(hl:scope.names.lookup x=some .local\/scope.names.lookup x=some .cell):tg.contains i=true:=by
 unfold nI at h;rw[Qu]at h;have:=h i (List.mem_range.mpr (List.getElem?_eq_some_iff.mp hx).1);rw[hx]at this;rcases hl with hl | hl
 ·simp only[hl,beq_self_eq_true,Bool.true_or,Bool.not_true,Bool.false_or]at this;exact this
 ·simp only[hl,beq_self_eq_true,Bool.or_true,Bool.not_true,Bool.false_or]at this;exact this
def qC{X:Cx}{cls:List (Str × Addr)}{scope:Scope}{Ca:Addr}{fp:List Addr}{s:Shared}{H:Hp}{pins:List (Addr × Obj)}{s':Shared}{Y:L2.St}{H':Hp}{Q:Bool->Hp->Prop}(I:Inv (L2.blk X scope cls Ca fp s H) pins Y H' s')(q:nR Y H' Q) :
  wpAny (model X.prog X.w) X.A (iD [] (compEnvC scope cls Ca X.env)) (TP (L2.blk X scope cls Ca fp s H) pins Y Q) (fun _ _=>False) s':=by
 unfold iD;exact Qd ⟨H',I,q⟩
def qg{X:Cx}{cls:List (Str × Addr)}{scope:Scope}{Ca:Addr}{fp:List Addr}{s:Shared}{H:Hp}{pins:List (Addr × Obj)}{s':Shared}{Y:L2.St}{H':Hp}{Q:Bool->Hp->Prop}{c:Expr}{t:TT}(hc:PT (L2.blk X scope cls Ca fp s H) c t)(I:Inv (L2.blk X scope cls Ca fp s H) pins Y H' s')(q:t Y H' Q) :
  wpAny (model X.prog X.w) X.A (iD [c] (compEnvC scope cls Ca X.env)) (TP (L2.blk X scope cls Ca fp s H) pins Y Q) (fun _ _=>False) s':=by
 have h:=hc pins s' Y H' Q I q;unfold iD;simp only[List.forIn_cons,List.forIn_nil,if_true];refine Qb (Qb (thn h fun b s1 hb=>Qd ?_));exact Qd hb
def nv(h:XOk C X cl){scope:Scope}{cls:List (Str × Addr)}{Ca:Addr}{fp:List Addr}{s:Shared}{H:Hp}{tg:List Nat}(ha:nF C scope tg=true){tgE:Expr}(hc:pN (C.inner scope) tg tgE=true):PG (L2.blk X scope cls Ca fp s H) tgE (gT X.K tg):=by
 have hb:=h.blk (scope:=scope) cls Ca fp s H;unfold nF at ha;rw[Qu]at ha;refine rX hb (fun i x hi hx=>?_) hc;have:=ha i hi;have hx:X.N[i]?=some x:=hx;rw[h.names]at hx;rw[hx]at this;simp only[Bool.or_eq_true,beq_iff_eq]at this;rcases this with z | z
 ·exact .inr (lookup_relabel_local z)
 ·exact .inl (by show(scope.names.lookup x == some .cell)=true;rw[z];rfl)
def eX{α:Type}{o:Option α}(h:o.isNone=true):o=none:=by
 cases o with
 | none=>rfl
 | some _=>cases h
end
mutual
theorem aj{cl:RL.Cl}:∀ (e':RL.E) {C:CC} {X:Cx} (h:XOk C X cl) (e:Expr),uD X cl e e' (chk C false e' e) (chk C true e' e)
 | .var i,C,X,h,e=>aH (b:=chk C false (.var i) e) fun z=>by
  obtain⟨x,p,rfl,g1,g2,g3,g4⟩:=j1 h z;exact#[HK g1 g2 g3 g4,rfl]
 | .cst d,C,X,h,e=>aH (b:=chk C false (.cst d) e) fun z=>by
  obtain⟨k,z0,z⟩:=ak z;obtain⟨j,p,rfl⟩:=jg z0;exact#[GC z,rfl]
 | .glb y i,C,X,h,e=>aH (b:=chk C false (.glb y i) e) fun z=>by
  obtain⟨x,z0,z⟩:=ak z;obtain⟨p,rfl⟩:=cE z0;fin2;cbv;rw[beq_iff_eq]at z1 z3;subst z1;exact#[Gf h z2 z3,rfl]
 | .bin o a b,C,X,h,e=>aH (b:=chk C false (.bin o a b) e) fun z=>by
  obtain⟨⟨l,op,r⟩,z0,z⟩:=ak z;obtain⟨p,rfl⟩:=Dq z0;fin2;cbv;rw[beq_iff_eq]at z1;have z1:op=tw o:=z1;subst z1;exact#[Hf ((aj a h l).1 z2) ((aj b h r).1 z3),rfl]
 | .neg a,C,X,h,e=>aH (b:=chk C false (.neg a) e) fun z=>by
  obtain⟨⟨op,x⟩,z0,z⟩:=ak z;obtain⟨p,rfl⟩:=tO z0;cbv;rw[beq_iff_eq]at z1;have z1:op=.USub:=z1;subst z1;exact#[Hc ((aj a h x).1 z2),rfl]
 | .cmp c a b,C,X,h,e=>i9 (b:=chk C false (.cmp c a b) e) fun z=>by
  obtain⟨⟨l,os,rs⟩,z0,z⟩:=ak z;obtain⟨p,rfl⟩:=ie z0;obtain⟨op,y1,z⟩:=aN z;obtain⟨r,y2,z⟩:=aN z;have y1:os=[op]:=y1;have y2:rs=[r]:=y2;subst y1 y2;fin2;cbv;rw[beq_iff_eq]at z1;subst z1;exact#[FY h.hu ((aj a h l).1 z2) ((aj b h r).1 z3),EM h.hu ((aj a h l).1 z2) ((aj b h r).1 z3),rfl]
 | .chain c c' a b d,C,X,h,e=>i9 (b:=chk C false (.chain c c' a b d) e) fun z=>by
  obtain⟨⟨l,os,rs⟩,z0,z⟩:=ak z;obtain⟨p,rfl⟩:=ie z0;obtain⟨op,op',y1,z⟩:=eg z;obtain⟨r,s,y2,z⟩:=eg z;have y1:os=[op,op']:=y1;have y2:rs=[r,s]:=y2;subst y1 y2;obtain⟨z,z5⟩:=ae z;z_go;fin2;cbv;rw[beq_iff_eq]at z1 z2;subst z1 z2;exact#[Bf h.hu ((aj a h l).1 z3) ((aj b h r).1 z4) ((aj d h s).1 z5),By h.hu ((aj a h l).1 z3) ((aj b h r).1 z4) ((aj d h s).1 z5),rfl]
 | .isN neg a,C,X,h,e=>i9 (b:=chk C false (.isN neg a) e) fun z=>by
  obtain⟨⟨l,os,rs⟩,z0,z⟩:=ak z;obtain⟨p,rfl⟩:=ie z0;obtain⟨op,y1,z⟩:=aN z;obtain⟨r,y2,z⟩:=aN z;have y1:os=[op]:=y1;have y2:rs=[r]:=y2;subst y1 y2;fin2;cbv;rw[beq_iff_eq]at z1;subst z1;obtain⟨k,w0,w⟩:=ak z2;obtain⟨j,q,rfl⟩:=jg w0;have w:=De w;subst w;exact#[G3 ((aj a h l).1 z3),FW ((aj a h l).1 z3),rfl]
 | .inn neg a b,C,X,h,e=>i9 (b:=chk C false (.inn neg a b) e) fun z=>by
  obtain⟨⟨l,os,rs⟩,z0,z⟩:=ak z;obtain⟨p,rfl⟩:=ie z0;obtain⟨op,y1,z⟩:=aN z;obtain⟨r,y2,z⟩:=aN z;have y1:os=[op]:=y1;have y2:rs=[r]:=y2;subst y1 y2;z_go;fin2;cbv;rw[beq_iff_eq]at z1;subst z1;exact#[Gr ((aj a h l).1 z3) ((aj b h r).1 z4) z2,Fp ((aj a h l).1 z3) ((aj b h r).1 z4) z2,rfl]
 | .inD neg a b,C,X,h,e=>i9 (b:=chk C false (.inD neg a b) e) fun z=>by
  obtain⟨⟨l,os,rs⟩,z0,z⟩:=ak z;obtain⟨p,rfl⟩:=ie z0;obtain⟨op,y1,z⟩:=aN z;obtain⟨r,y2,z⟩:=aN z;have y1:os=[op]:=y1;have y2:rs=[r]:=y2;subst y1 y2;z_go;fin2;cbv;rw[beq_iff_eq]at z1;subst z1;exact#[Hl h.hu ((aj a h l).1 z3) ((aj b h r).1 z4) z2,HM h.hu ((aj a h l).1 z3) ((aj b h r).1 z4) z2,rfl]
 | .and a b,C,X,h,e=>⟨(fun z=>by
   obtain⟨⟨op,es,p⟩,z0,z⟩:=ak z;obtain⟨l,r,rest,y1,z⟩:=ng z;have e0:=jF z0;have y1:es=l::r::rest:=y1;fin2;cbv;rw[beq_iff_eq]at z1;have z1:op=.And:=z1;subst y1 z1 e0;refine F0 ((aj a h l).1 z2) ?_;split at z3
   ·rename_i hr;rw[Qp]at hr;subst hr;exact yg ((aj b h r).1 z3)
   ·exact(aj b h _).1 z3),(fun z=>by
   obtain⟨⟨op,es,p⟩,z0,z⟩:=ak z;obtain⟨l,r,rest,y1,z⟩:=ng z;have e0:=jF z0;have y1:es=l::r::rest:=y1;fin2;cbv;rw[beq_iff_eq]at z1;have z1:op=.And:=z1;subst y1 z1 e0
   have w:SW X cl (.BoolOp .And (l::r::rest) p) (.and a b):=by
    refine FN ((aj a h l).2 z2).1 ?_;split at z3
    ·rename_i hr;rw[Qp]at hr;subst hr;exact xU ((aj b h r).2 z3).1
    ·exact((aj b h _).2 z3).2 rfl
   exact#[w.pt,fun _=>w])⟩
 | .or a b,C,X,h,e=>⟨(fun z=>by
   obtain⟨⟨op,es,p⟩,z0,z⟩:=ak z;obtain⟨l,r,rest,y1,z⟩:=ng z;have e0:=jF z0;have y1:es=l::r::rest:=y1;fin2;cbv;rw[beq_iff_eq]at z1;have z1:op=.Or:=z1;subst y1 z1 e0;refine Je ((aj a h l).1 z2) ?_;split at z3
   ·rename_i hr;rw[Qp]at hr;subst hr;exact yg ((aj b h r).1 z3)
   ·exact(aj b h _).1 z3),(fun z=>by
   obtain⟨⟨op,es,p⟩,z0,z⟩:=ak z;obtain⟨l,r,rest,y1,z⟩:=ng z;have e0:=jF z0;have y1:es=l::r::rest:=y1;fin2;cbv;rw[beq_iff_eq]at z1;have z1:op=.Or:=z1;subst y1 z1 e0
   have w:SW X cl (.BoolOp .Or (l::r::rest) p) (.or a b):=by
    refine IG ((aj a h l).2 z2).1 ?_;split at z3
    ·rename_i hr;rw[Qp]at hr;subst hr;exact xU ((aj b h r).2 z3).1
    ·exact((aj b h _).2 z3).2 rfl
   exact#[w.pt,fun _=>w])⟩
 | .not a,C,X,h,e=>⟨(fun z=>by
   obtain⟨⟨op,x⟩,z0,z⟩:=ak z;obtain⟨p,rfl⟩:=tO z0;cbv;rw[beq_iff_eq]at z1;have z1:op=.Not:=z1;subst z1
   exact EG ((aj a h x).1 z2)),(fun z=>by
   obtain⟨⟨op,x⟩,z0,z⟩:=ak z;obtain⟨p,rfl⟩:=tO z0;cbv;rw[beq_iff_eq]at z1;have z1:op=.Not:=z1;subst z1
   exact⟨G1 ((aj a h x).2 z2).1,fun q=>by cases q⟩)⟩
 | .ifx c a b,C,X,h,e=>⟨(fun z=>by
   obtain⟨⟨q,l,r⟩,z0,z⟩:=ak z;obtain⟨p,rfl⟩:=Du z0;z_go;fin2;cbv
   exact Ek ((aj c h q).2 z2).1 ((aj a h l).1 z3) ((aj b h r).1 z4)),(fun z=>by
   obtain⟨⟨q,l,r⟩,z0,z⟩:=ak z;z_go;fin2;cbv
   cases z1)⟩
 | .tup es,C,X,h,e=>aH (b:=chk C false (.tup es) e) fun z=>by
  obtain⟨xs,z0,z⟩:=ak z;obtain⟨k,p,rfl⟩:=e8 z0;cbv;exact#[E4 (i8 es h _ z1).1 (by simpa using z2),rfl]
 | .lst es,C,X,h,e=>aH (b:=chk C false (.lst es) e) fun z=>by
  obtain⟨xs,z0,z⟩:=ak z;obtain⟨p,rfl⟩:=C3 z0;cbv;exact#[Eg (i8 es h _ z1).1 (by simpa using z2),rfl]
 | .ix a b,C,X,h,e=>aH (b:=chk C false (.ix a b) e) fun z=>by
  obtain⟨⟨l,r⟩,z0,z⟩:=ak z;obtain⟨p,rfl⟩:=fZ z0;fin2;cbv;exact#[IQ ((aj a h l).1 z2) ((aj b h r).1 z3) z1,rfl]
 | .ixD a b,C,X,h,e=>aH (b:=chk C false (.ixD a b) e) fun z=>by
  obtain⟨⟨l,r⟩,z0,z⟩:=ak z;obtain⟨p,rfl⟩:=fZ z0;fin2;cbv;exact#[FR h.hu ((aj a h l).1 z2) ((aj b h r).1 z3) (yu z1),rfl]
 | .slT a b,C,X,h,e=>aH (b:=chk C false (.slT a b) e) fun z=>by
  obtain⟨⟨l,s⟩,z0,z⟩:=ak z;obtain⟨p,rfl⟩:=fZ z0;obtain⟨z1,z⟩:=ae z;obtain⟨⟨s1,s2,s3⟩,z0,z⟩:=ak z;obtain⟨q,e0⟩:=uz z0;have e0:s=.Slice s1 s2 s3 q:=e0;z_go;obtain⟨z2,z3⟩:=ae z;have w2:s1=none:=eX z2;have w3:s3=none:=eX z3;obtain⟨r,y0,z4⟩:=ak z4;have y1:s2=some r:=y0;rw[w2,w3,y1]at e0;subst e0;exact#[GV ((aj a h l).1 z1) ((aj b h r).1 z4),rfl]
 | .slF a b,C,X,h,e=>aH (b:=chk C false (.slF a b) e) fun z=>by
  obtain⟨⟨l,s⟩,z0,z⟩:=ak z;obtain⟨p,rfl⟩:=fZ z0;obtain⟨z1,z⟩:=ae z;obtain⟨⟨s1,s2,s3⟩,z0,z⟩:=ak z;obtain⟨q,e0⟩:=uz z0;have e0:s=.Slice s1 s2 s3 q:=e0;z_go;obtain⟨z2,z3⟩:=ae z;have w2:s2=none:=eX z2;have w3:s3=none:=eX z3;obtain⟨r,y0,z4⟩:=ak z4;have y1:s1=some r:=y0;rw[w2,w3,y1]at e0;subst e0;exact#[F6 ((aj a h l).1 z1) ((aj b h r).1 z4),rfl]
 | .rev a,C,X,h,e=>aH (b:=chk C false (.rev a) e) fun z=>by
  obtain⟨⟨l,s⟩,z0,z⟩:=ak z;obtain⟨p,rfl⟩:=fZ z0;obtain⟨z1,z⟩:=ae z;obtain⟨⟨s1,s2,s3⟩,z0,z⟩:=ak z;obtain⟨q,e0⟩:=uz z0;have e0:s=.Slice s1 s2 s3 q:=e0;z_go;obtain⟨z2,z3⟩:=ae z;have w2:s1=none:=eX z2;have w3:s2=none:=eX z3;obtain⟨r,y0,z4⟩:=ak z4;have y1:s3=some r:=y0;rw[w2,w3,y1]at e0;subst e0;exact#[Gh ((aj a h l).1 z1) z4,rfl]
 | .call f es,C,X,h,e=>aH (b:=chk C false (.call f es) e) fun z=>by
  obtain⟨zc,z⟩:=ae z;obtain⟨⟨g,as,ks,p⟩,z0,z⟩:=ak z;have z0:=eP z0;subst z0;z_go;fin2;cbv;obtain⟨x,y0,z1⟩:=ak z1;obtain⟨q,e0⟩:=cE y0;have e0:g=.Name x q:=e0;obtain⟨y1,y2⟩:=ae z1;rw[beq_iff_eq]at y2
  have w2:ks=[]:=by rw[Qp]at z2;exact z2
  subst e0 w2;obtain⟨q1,q2,q3⟩:=i8 es h _ z4;dsimp only at z3 q1 q2 q3
  cases as with
  | nil=>cases z3
  |cons y ys=>
   rw[Qx]at q3;exact#[DE zc h y1 y2 q1 q2 (ae q3).1 (ae q3).2,rfl]
 | .bi o a,C,X,h,e=>by
  have gen:(∀ t,chk C t (.bi o a) e=(C.calm&&(wF o).any fun x=>bL C e x fun ys=>of1 ys fun y=>chk C false a y))->uD X cl e (.bi o a) (chk C false (.bi o a) e) (chk C true (.bi o a) e):=fun heq=>by
   rw[heq,heq];refine aH fun z=>?_;obtain⟨zc,z⟩:=ae z;obtain⟨x,y0,z⟩:=ak z;f_int;obtain⟨y,rfl,z4⟩:=aN z4;exact#[Iw (h.calm zc) y0 b1 b2 ((aj a h y).1 z4) (all1 z3),rfl]
  cases o
  case lenSet =>
   refine aH (b:=chk C false (.bi .lenSet a) e) fun z=>?_;obtain⟨zc,z⟩:=ae z;f_int;obtain⟨y,rfl,z5⟩:=aN z4;obtain⟨p',as',pos',rfl,b1',b2',z3',z6⟩:=bE h z5;obtain⟨y,rfl,z7⟩:=aN z6;exact#[ye (h.calm zc) b1 b2 b1' b2' ((aj a h y).1 z7) (all1 z3'),rfl]
  all_goals exact gen fun t=>rfl
 | .max a b,C,X,h,e=>aH (b:=chk C false (.max a b) e) fun z=>by
  obtain⟨zc,z⟩:=ae z;f_int;obtain⟨y,u,rfl,z4⟩:=eg z4;exact#[GS (h.calm zc) b1 b2 ((aj a h y).1 (ae z4).1) ((aj b h u).1 (ae z4).2) (all2 z3).1 (all2 z3).2,rfl]
 | .isi a ty,C,X,h,e=>aH (b:=chk C false (.isi a ty) e) fun z=>by
  have z:(bL C e "isinstance" fun ys=>of2 ys fun y z=>(eE z).any (fun x=>x == rN ty&&mr C x)&&chk C false a y)=true:=z;f_int;obtain⟨y,u,rfl,z4⟩:=eg z4;obtain⟨z5,z6⟩:=ae z4;obtain⟨x,w0,w⟩:=ak z5;obtain⟨q,rfl⟩:=cE w0;obtain⟨w1,w2⟩:=ae w;rw[beq_iff_eq]at w1;subst w1;obtain⟨t1,t2,t3⟩:=yr ty;exact#[Ex b1 b2 (h.bl w2).1 (h.bl w2).2 t1 t2 t3 ((aj a h y).1 z6) (all2 z3).1,rfl]
 | .rng1 a,C,X,h,e=>aH (b:=chk C false (.rng1 a) e) fun z=>by
  obtain⟨zc,z⟩:=ae z;f_int;obtain⟨y,rfl,z5⟩:=aN z4;obtain⟨p',as',pos',rfl,b1',b2',z3',z6⟩:=bE h z5;obtain⟨y,rfl,z7⟩:=aN z6;exact#[DL (h.calm zc) b1 b2 b1' b2' ((aj a h y).1 z7) (all1 z3'),rfl]
 | .rng2 a b,C,X,h,e=>aH (b:=chk C false (.rng2 a b) e) fun z=>by
  obtain⟨zc,z⟩:=ae z;f_int;obtain⟨y,rfl,z5⟩:=aN z4;obtain⟨p',as',pos',rfl,b1',b2',z3',z6⟩:=bE h z5;obtain⟨y,u,rfl,z7⟩:=eg z6;exact#[DX (h.calm zc) b1 b2 b1' b2' ((aj a h y).1 (ae z7).1) ((aj b h u).1 (ae z7).2) (all2 z3').1 (all2 z3').2,rfl]
 | .rng3 c a b,C,X,h,e=>aH (b:=chk C false (.rng3 c a b) e) fun z=>by
  obtain⟨zc,z⟩:=ae z;f_int;obtain⟨y,rfl,z5⟩:=aN z4;obtain⟨p',as',pos',rfl,b1',b2',z3',z6⟩:=bE h z5;obtain⟨y,u,q,rfl,z7⟩:=xV z6;obtain⟨z7,z9⟩:=ae z7;obtain⟨z7,z8⟩:=ae z7;exact#[CH (h.calm zc) b1 b2 b1' b2' ((aj a h y).1 z8) ((aj b h u).1 z9) (oX z3').1 (oX z3').2.1 z7,rfl]
 | .comp d tg it c,C,X,h,e=>aH (b:=chk C false (.comp d tg it c) e) fun z=>by
  obtain⟨⟨elt,gens,scope,p⟩,z0,z⟩:=ak z;have z0:=ud z0;subst z0;obtain⟨⟨tgE,iter,ifs,asy⟩,y1,z⟩:=aN z;have y1:gens=[⟨tgE,iter,ifs,asy⟩]:=y1;obtain⟨w,y2,z⟩:=aN z;have y2:ifs=[w]:=y2;obtain⟨z,zc⟩:=ae z;obtain⟨z,z8⟩:=ae z;obtain⟨z,z7⟩:=ae z;obtain⟨z,z6⟩:=ae z;obtain⟨z,z5⟩:=ae z;z_go;fin2;obtain⟨z,z2⟩:=ae z;obtain⟨z0,z1⟩:=ae z;rw[beq_iff_eq]at z0;have w0:asy=0:=z0;subst y1 w0;subst y2
  have B:jX X cl scope tgE tg elt d (tT X.K cl c) [w]:=#[fun cls Ca fp s H=>nv h z5 z4,fun cls Ca fp s H pins s' Y H' Q I q=>qg ((aj c (h.blk cls Ca fp s H) _).2 z8).1 I q,fun cls Ca fp s H=>(aj d (h.blk cls Ca fp s H) _).1 z7,fun i x hx hl=>jR z2 i x (by rw[<-h.names];exact hx) hl]
  by_cases hc:C.calm=true
  ·exact#[sr (fun _ _ _ _=>h.calm hc) (by rw[h.scope];exact nt z1) (hX it h _ _ z6) B (dY z3 _),rfl]
  ·have hz:wV it=true:=by simpa[hc]using zc
   exact#[sr (CM:=fun _=>True) (fun _ _ _ _=>trivial) (by rw[h.scope];exact nt z1) (CJ it h _ _ z6 hz) B (dY z3 _),rfl]
 | .compA d tg it,C,X,h,e=>aH (b:=chk C false (.compA d tg it) e) fun z=>by
  obtain⟨⟨elt,gens,scope,p⟩,z0,z⟩:=ak z;have z0:=ud z0;subst z0;obtain⟨⟨tgE,iter,ifs,asy⟩,y1,z⟩:=aN z;have y1:gens=[⟨tgE,iter,ifs,asy⟩]:=y1;obtain⟨z,zc⟩:=ae z;obtain⟨z,z7⟩:=ae z;obtain⟨z,z6⟩:=ae z;obtain⟨z,z5⟩:=ae z;z_go;fin2;obtain⟨z,z2⟩:=ae z;obtain⟨z,z1⟩:=ae z;obtain⟨y2,z0⟩:=ae z;rw[beq_iff_eq]at z0;have w0:asy=0:=z0
  have w2:ifs=[]:=by rw[Qp]at y2;exact y2
  subst y1 w0;subst w2;refine#[Au (h.calm zc) (by rw[h.scope];exact nt z1) (hX it h _ _ z6) ?_ (dY z3 _),rfl];exact#[fun cls Ca fp s H=>nv h z5 z4,fun cls Ca fp s H pins s' Y H' Q I q=>qC I q,fun cls Ca fp s H=>(aj d (h.blk cls Ca fp s H) _).1 z7,fun i x hx hl=>jR z2 i x (by rw[<-h.names];exact hx) hl]
 | .dk0,C,X,h,e=>aH (b:=chk C false .dk0 e) fun z=>by
  obtain⟨⟨ks,vs⟩,z0,z⟩:=ak z;obtain⟨p,rfl⟩:=tj z0;cbv;rw[Qp]at z1 z2;have z1:ks=[]:=z1;have z2:vs=[]:=z2;subst z1 z2;exact#[FZ,rfl]
 | .dt0,C,X,h,e=>aH (b:=chk C false .dt0 e) fun z=>by
  obtain⟨⟨ks,vs⟩,z0,z⟩:=ak z;obtain⟨p,rfl⟩:=tj z0;cbv;rw[Qp]at z1 z2;have z1:ks=[]:=z1;have z2:vs=[]:=z2;subst z1 z2;exact#[FE,rfl]
 | .join a,C,X,h,e=>aH (b:=chk C false (.join a) e) fun z=>by
  obtain⟨⟨g,as,ks,p⟩,z0,z⟩:=ak z;have z0:=eP z0;fin2;cbv;obtain⟨⟨o,nm,apos⟩,y0,z1⟩:=ak z1;have e1:=sL y0;have e1:g=.Attribute o nm apos:=e1;obtain⟨z1,y3⟩:=ae z1;obtain⟨y1,y2⟩:=ae z1;rw[beq_iff_eq]at y1;have y1:nm = "join" := y1;obtain⟨kk,w0,w⟩:=ak y3;obtain⟨j,q,e2⟩:=jg w0;have e2:o=.Constant kk j q:=e2
  have e4:kk=.str ⟨(List.toArray [])⟩:=by
   cases kk<;>simp only[iL]at w<;>first | (cases w;done) | skip
   rw[beq_iff_eq]at w;rw[<-w]
  have w2:ks=[]:=by rw[Qp]at z2;exact z2
  obtain⟨y,e3,z3⟩:=aN z3;have e3:as=[y]:=e3;obtain⟨z3,z5⟩:=ae z3;rw[e1,y1,e2,e4,w2,e3]at z0;subst z0;exact#[Dk ((aj a h y).1 z5) z3 y2,rfl]
 | .isx a c,C,X,h,e=>aH (b:=chk C false (.isx a c) e) fun z=>by
  have z:(bL C e "isinstance" fun ys=>of2 ys fun y z=>(eE z).any (fun x=>x == c&&(if c == ("ValueError" : Str)then mr C x else glB C x&&C.Xs.contains x&&d8.contains x))&&chk C false a y)=true:=z;f_int;obtain⟨y,u,rfl,z4⟩:=eg z4;obtain⟨z5,z6⟩:=ae z4;obtain⟨x,w0,w⟩:=ak z5;obtain⟨q,rfl⟩:=cE w0;obtain⟨w1,w2⟩:=ae w;rw[beq_iff_eq]at w1;subst w1;split at w2
  ·rename_i hv;rw[beq_iff_eq]at hv;subst hv;exact#[Gq b1 b2 (h.bl w2).1 (h.bl w2).2 ((aj a h y).1 z6) (all2 z3).1,rfl]
  ·obtain⟨w2,w4⟩:=ae w2;obtain⟨w2,w3⟩:=ae w2;obtain⟨D,d1,d2⟩:=h.ref x w3;exact#[Hv b1 b2 (h.gl w2).1 d1 d2 (by simpa using w4) (bX (h.gl w2).2).1 ((aj a h y).1 z6) (all2 z3).1,rfl]
theorem i8{cl:RL.Cl}:∀ (es':RL.Es) {C:CC} {X:Cx} (h:XOk C X cl) (es:List Expr),lQ C es' es=true->SEs X cl es es'/\eO es'=es.length/\es.all noStar=true
 | .nil,C,X,h,es,z=>by
  have z:es=[]:=Qp.mp z;subst z;exact#[cY,rfl,rfl]
 | .cons e' es',C,X,h,es,z=>by
  cases es with
  | nil=>cases z
  |cons e es=>
   fin2;cbv;obtain⟨q1,q2,q3⟩:=i8 es' h es z3;exact#[bM ((aj e' h e).1 z2) q1 z1,by rw[eO,q2,List.length_cons],by rw[Qx,z1,q3];rfl]
theorem hX{cl:RL.Cl}:∀ (it:RL.It) {C:CC} {X:Cx} (h:XOk C X cl) (tg e:Expr),uj C it tg e=true->SI X cl tg e it
 | .seq a,C,X,h,tg,e,z=>D4 ((aj a h e).1 z)
 | .rng1 a,C,X,h,tg,e,z=>by
  have z:(bL C e "range" fun ys=>of1 ys fun y=>chk C false a y)=true:=z;f_int;obtain⟨y,rfl,z4⟩:=aN z4;exact DP b1 b2 ((aj a h y).1 z4) (all1 z3)
 | .rng2 a b,C,X,h,tg,e,z=>by
  have z:(bL C e "range" fun ys=>of2 ys fun y z=>chk C false a y&&chk C false b z)=true:=z;f_int;obtain⟨y,u,rfl,z4⟩:=eg z4;exact CD b1 b2 ((aj a h y).1 (ae z4).1) ((aj b h u).1 (ae z4).2) (all2 z3).1 (all2 z3).2
 | .rng3 c a b,C,X,h,tg,e,z=>by
  have z:(bL C e "range" fun ys=>of3 ys fun y z q=>gw c q&&chk C false a y&&chk C false b z)=true:=z;f_int;obtain⟨y,u,q,rfl,z4⟩:=xV z4;obtain⟨z4,z6⟩:=ae z4;obtain⟨z4,z5⟩:=ae z4;exact C8 b1 b2 ((aj a h y).1 z5) ((aj b h u).1 z6) (oX z3).1 (oX z3).2.1 z4
 | .enm a,C,X,h,tg,e,z=>by
  obtain⟨z0,zz⟩:=ae z;obtain⟨ts,z0⟩:=Option.isSome_iff_exists.mp z0;obtain⟨k,tp,rfl⟩:=e8 z0;obtain⟨p,as,pos,rfl,b1,b2,z3,z4⟩:=bE h zz;obtain⟨y,rfl,z4⟩:=aN z4;exact CQ b1 b2 ((aj a h y).1 z4) (all1 z3)
 | .zip a b,C,X,h,tg,e,z=>by
  obtain⟨z0,zz⟩:=ae z;obtain⟨ts,z0⟩:=Option.isSome_iff_exists.mp z0;obtain⟨k,tp,rfl⟩:=e8 z0;obtain⟨p,as,pos,rfl,b1,b2,z3,z4⟩:=bE h zz;obtain⟨y,u,rfl,z4⟩:=eg z4;exact PI'.calm (yb b1 b2 ((aj a h y).1 (ae z4).1) ((aj b h u).1 (ae z4).2) (all2 z3).1 (all2 z3).2)
theorem CJ{cl:RL.Cl}:∀ (it:RL.It) {C:CC} {X:Cx} (h:XOk C X cl) (tg e:Expr),uj C it tg e=true->wV it=true->PI' (fun _=>True) X tg e (tI X.K cl it)
 | .zip a b,C,X,h,tg,e,z,_=>by
  obtain⟨z0,zz⟩:=ae z;obtain⟨ts,z0⟩:=Option.isSome_iff_exists.mp z0;obtain⟨k,tp,rfl⟩:=e8 z0;obtain⟨p,as,pos,rfl,b1,b2,z3,z4⟩:=bE h zz;obtain⟨y,u,rfl,z4⟩:=eg z4;exact yb b1 b2 ((aj a h y).1 (ae z4).1) ((aj b h u).1 (ae z4).2) (all2 z3).1 (all2 z3).2
 | .seq _,C,X,h,tg,e,z,w=>by cases w
 | .rng1 _,C,X,h,tg,e,z,w=>by cases w
 | .rng2 _ _,C,X,h,tg,e,z,w=>by cases w
 | .rng3 _ _ _,C,X,h,tg,e,z,w=>by cases w
 | .enm _,C,X,h,tg,e,z,w=>by cases w
end
abbrev eD:Expr->Bool
 | .ListComp _ _ _ _=>false
 | .SetComp _ _ _ _=>false
 | .DictComp _ _ _ _ _=>false
 | _=>true
abbrev xN:Expr->Bool
 | .Tuple _ _ _=>false
 | _=>true
abbrev vY(e:Expr):Bool:=match e with
 | .SetComp _ _ _ _=>false
 | .DictComp _ _ _ _ _=>false
 | _=>true
abbrev Bg(C:CC)(x y:Str)(px py:Pos)(a b:Expr):Bool :=
 C.sc.kind == .function&&C.sc.names.lookup x == some .local&&C.sc.names.lookup y == some .local&&px.line == py.line && !(x == y)&&noStar a&&noStar b && !(foldedForSure 8 a&&foldedForSure 8 b) && !(constantsAlone 8 a&&constantsAlone 8 b)
abbrev vL(M:List Nat):RL.E->Bool
 | .var i=>M.contains i
 | _=>false
abbrev vZ(C:CC):RL.Es->List Expr->Bool
 | .nil=>fun xs=>xs.isEmpty
 | .cons e es=>fun xs=>match xs with
  | x::xs=>noStar x&&chk C false e x&&vZ C es xs
  | []=>false
abbrev C2:RL.Bop->Operator->Bool
 | .add,.Add=>true
 | .sub,.Sub=>true
 | _,_=>false
abbrev u7:Expr->Option (Str × Pos)
 | .Name x p=>some (x,p)
 | _=>none
def qj{e:Expr}{x:Str}{p:Pos}(h:u7 e=some (x,p)):e=.Name x p:=by
 cases e
 case Name=>cases h;rfl
 k_ne
abbrev nj(C:CC)(i:Nat)(nm:Str)(e:Expr)(f:List Expr->Bool):Bool:=(kg e).any fun q=>(xw q.1).any (fun a=>qZ C i a.1&&a.2.1 == nm&&a.2.2.endLine == q.2.2.2.line)&&q.2.2.1.isEmpty&&f q.2.1
abbrev tX(C:CC)(M:List Nat)(f:Nat)(es:RL.Es)(ps ms:List Nat)(e:Expr):Bool:=(kg e).any fun q=>(eE q.1).any (fun x=>glB C x&&C.F[f]? == some (x,ps))&&q.2.2.1.isEmpty && !q.2.1.isEmpty && !ps.isEmpty&&vZ C es q.2.1&&cC es ps ms&&ms.all (fun i=>M.contains i)&&decide ms.Nodup&&decide ps.Nodup&&C.calm
abbrev tH(C:CC):List Expr->RL.Es->Bool
 | [],ps=>match ps with
  | .nil=>true
  | _=>false
 | v::vs,ps=>match pA v with
  | some (.str y)=>decide (y.length<=3000)&&tH C vs ps
  | some _=>false
  | none=>(Eh v).any fun q=>q.2.1 == -1&&q.2.2.isNone&&match ps with
   | .cons e es=>chk C false e q.1&&tH C vs es
   | .nil=>false
abbrev HL:Const->Bool
 | .str _=>true
 | _=>false
abbrev isNil:RL.Es->Bool
 | .nil=>true
 | _=>false
abbrev Bq(C:CC)(ps:RL.Es)(a:Expr):Bool:=((pA a).any HL&&isNil ps) || (Cb a).any fun vs=>decide (2<=vs.length)&&decide (vs.length<=100)&&tH C vs ps
mutual
noncomputable def AN(C:CC)(M:List Nat):RL.S->Stmt->Bool
 | .asg i e'=>fun st=>(m9 st).any fun q=>of1 q.1 fun t=>gR C i t && !M.contains i&&vY q.2&&chk C false e' q.2&&(C.calm || eD q.2)
 | .own i e'=>fun st=>(m9 st).any fun q=>of1 q.1 fun t=>gR C i t&&M.contains i&&decide (M.count i<2)&&vY q.2&&chk C false e' q.2&&(C.calm || eD q.2)
 | .unp is e'=>fun st=>(m9 st).any fun q=>of1 q.1 fun t=>(kM t).any fun ts=>lI C is ts&&is.all (fun i=>!M.contains i)&&xN q.2&&chk C false e' q.2
 | .par i j a' b'=>fun st=>(m9 st).any fun q=>of1 q.1 fun t=>(kM t).any fun ts=>of2 ts fun s u=>(u7 s).any fun x=>(u7 u).any fun y=>(kM q.2).any fun vs=>of2 vs fun a b=>nmB C i x.1&&nmB C j y.1 && !(i == j) && !M.contains i && !M.contains j&&Bg C x.1 y.1 x.2 y.2 a b&&chk C false a' a&&chk C false b' b&&C.calm
 | .app i e'=>fun st=>(wq st).any fun e=>nj C i "append" e fun as=>of1 as fun y=>M.contains i&&noStar y&&chk C false e' y
 | .put i k' e'=>fun st=>(m9 st).any fun q=>of1 q.1 fun t=>(mU t).any fun u=>qZ C i u.1&&M.contains i&&mR u.2&&eD q.2&&chk C false k' u.2&&chk C false e' q.2
 | .pop i j=>fun st=>(m9 st).any fun q=>of1 q.1 fun t=>gR C j t&&M.contains i && !M.contains j&&nj C i "pop" q.2 fun as=>as.isEmpty
 | .aug i o e'=>fun st=>(Fm st).any fun q=>gR C i q.1 && !M.contains i&&C2 o q.2.1&&chk C false e' q.2.2
 | .ife c' a' b'=>fun st=>(wIf st).any fun q=>chk C true c' q.1&&cM C M a' q.2.1&&cM C M b' q.2.2
 | .forr tg it b'=>fun st=>(Hz st).any fun q=>q.2.2.2.isEmpty&&uj C it q.1 q.2.1&&pN C tg q.1&&nL q.2.1&&RL.tY M it&&tg.all (fun i=>!M.contains i)&&cM C M b' q.2.2.1&&C.calm
 | .mexc f es ps ms=>fun st=>(wq st).any fun e=>tX C M f es ps ms e
 | .ret e'=>fun st=>(Fi st).any fun o=>o.any fun e=>chk C false e' e
 | .exc e'=>fun st=>(wq st).any fun e=>eD e&&chk C false e' e
 | .ifp i e' a' b'=>fun st=>(wIf st).any fun q=>(mV q.1).any fun u=>of1 u.2.1 fun op=>of1 u.2.2 fun e=>op == .NotEq&&M.contains i&&chk C false e' e&&cM C M a' q.2.1&&cM C M b' q.2.2&&nj C i "pop" u.1 fun as=>as.isEmpty
 | .whil c' b'=>fun st=>(FK st).any fun q=>q.2.2.isEmpty&&chk C true c' q.1&&cM C M b' q.2.1
 | .rais c ps=>fun st=>(y8 st).any fun q=>C.calm&&C.Xr.contains c&&glB C c&&q.2.isNone&&q.1.any fun e=>(kg e).any fun u=>(eE u.1).any (fun x=>x == c)&&u.2.2.1.isEmpty&&of1 u.2.1 fun a=>noStar a&&Bq C ps a
 | .tryc b c i hh=>fun st=>(Ew st).any fun q=>C.calm&&q.2.2.1.isEmpty&&q.2.2.2.isEmpty&&C.Xr.contains c&&d8.contains c&&glB C c && !M.contains i&&of1 q.2.1 (fun hd=>(rB hd).1.any (fun t=>(eE t).any fun x=>x == c)&&(rB hd).2.1.any (fun n=>nmB C i n&&C.sc.names.lookup n == some .local) && !(rB hd).2.2.isEmpty&&cM { C with calm:=false } M hh (rB hd).2.2)&&cM C M b q.1
noncomputable def cM(C:CC)(M:List Nat):RL.Ss->List Stmt->Bool
 | .nil=>fun xs=>xs.isEmpty
 | .cons s r=>fun xs=>match xs with
  | x::xs=>AN C M s x&&cM C M r xs
  | []=>false
end
structure YOk(C:CC)(X:Cx)(cl:RL.Cl):Prop extends XOk C X cl where
 fn:∀ x,X.fn x=true
 st:X.stack=X.env::X.outer/\X.env.frame=some X.env.locals/\X.ex=[]
 fnx:∀ (f:Nat) (x:Str),C.calm=true->C.F[f]?=some (x,[])->∃ k fa fd ps,eJ X.prog X.w X.K X.mg X.base (CXE X.prog X.w) k fa fd ps (spX X.K cl f)/\cJ k X.A/\X.mg x=some (.ref fa)/\W.keepIn X.K (.ref fa)=true/\Binds X.K fd ps []
structure ROk(C:CC)(X:Cx)(cl:RL.Cl)(EX:L2.St->XK):Prop where
 y:YOk C X.nox cl
 cal:C.calm=true
 pass:∀ pins Y H s e s',Inv X pins Y H s->CXE X.prog X.w X.stack H s (EX Y) e s'->X.xe e s'
 made:∀ pins Y H s h' e C vs,Inv X pins Y H s->Heap.MadeExcOf s.heap h' e (.ref C) vs->EX Y (.ref C) none H->X.xe (.ref e) { s with heap:=h' }
 own:PassesOwn (model X.prog X.w) X.A X.env X.xe
section
variable{C:CC}{X:Cx}{cl:RL.Cl}{M:List Nat}{st:Stmt}{e:Expr}{e' k':RL.E}{i:Nat}
def eR{t:Option Expr}{l:Nat}{env:Env}(h:eD e=true):swapsWith e t l env=pure false:=by
 cases e<;>first | rfl | (cases h;done)
def Ce{t:Expr}{spos:Pos}(hcal:(C.calm || eD e)=true)(h:YOk C X cl)(hn:gR C i t=true)(ha:vY e=true)(hc:chk C false e' e=true):SA X cl (.Assign [t] e spos) i e':=by
 obtain⟨y,py,rfl,hN,hl⟩:=gc h.toXOk hn
 have plain:swapsWith e (some (.Name y py)) spos.line X.env=pure false->SA X cl (.Assign [.Name y py] e spos) i e':=fun z =>
  BB h.ndX hN hl ((aj e' h.toXOk e).1 hc) (.inl (h.fn y)) z trivial
 by_cases hcomp:eD e=true
 ·exact plain (eR hcomp)
 ·have hcm:X.calm=true:=h.calm (by simpa[hcomp]using hcal)
  have:∃ elt gens scope p,e=.ListComp elt gens scope p:=by
   cases e<;>first | exact absurd rfl hcomp | exact Bool.noConfusion ha | exact#[_,_,_,_,rfl]
  obtain⟨elt,gens,scope,p,rfl⟩:=this;have hsw:swapsWith (.ListComp elt gens scope p) (some (.Name y py)) spos.line X.env=pure (X.env.blockKind == .function&&X.env.kindOf y == some .local&&py.line == p.line && !(scope.names.any fun(n,k)=>n == y&&(k == .local || k == .cell))):=rfl;by_cases hb:(X.env.blockKind == .function&&X.env.kindOf y == some .local&&py.line == p.line && !(scope.names.any fun(n,k)=>n == y&&(k == .local || k == .cell)))=true
  ·have hy:X.env.scope.names.lookup y=some .local:=by
    obtain⟨q,_⟩:=ae (ae hb).1;have q2:=(ae q).2;rw[beq_iff_eq]at q2;exact q2
   rw[hb]at hsw;by_cases hk:∃ d tg it c,e'=.comp d tg it c
   ·obtain⟨d,tg,it,c,rfl⟩:=hk;obtain⟨⟨tgE,iter,ifs,asy⟩,y1,z⟩:=aN hc;have y1:gens=[⟨tgE,iter,ifs,asy⟩]:=y1;obtain⟨w,y2,z⟩:=aN z;have y2:ifs=[w]:=y2;obtain⟨z,zc⟩:=ae z;obtain⟨z,z8⟩:=ae z;obtain⟨z,z7⟩:=ae z;obtain⟨z,z6⟩:=ae z;obtain⟨z,z5⟩:=ae z;z_go;fin2;obtain⟨z,z2⟩:=ae z;obtain⟨z0,z1⟩:=ae z;rw[beq_iff_eq]at z0;have w0:asy=0:=z0;subst y1 w0;subst y2;refine A6 hcm h.ndX hN hy (by rw[h.scope];exact nt z1) (hX it h.toXOk _ _ z6) ?_ (dY z3 _) hsw;exact#[fun cls Ca fp s H=>nv h.toXOk z5 z4,fun cls Ca fp s H pins s' Y H' Q I q=>qg ((aj c (h.toXOk.blk cls Ca fp s H) _).2 z8).1 I q,fun cls Ca fp s H=>(aj d (h.toXOk.blk cls Ca fp s H) _).1 z7,fun i x hx hl=>jR z2 i x (by rw[<-h.names];exact hx) hl]
   ·by_cases hk2:∃ d tg it,e'=.compA d tg it
    ·obtain⟨d,tg,it,rfl⟩:=hk2;obtain⟨⟨tgE,iter,ifs,asy⟩,y1,z⟩:=aN hc;have y1:gens=[⟨tgE,iter,ifs,asy⟩]:=y1;obtain⟨z,zc⟩:=ae z;obtain⟨z,z7⟩:=ae z;obtain⟨z,z6⟩:=ae z;obtain⟨z,z5⟩:=ae z;z_go;fin2;obtain⟨z,z2⟩:=ae z;obtain⟨z,z1⟩:=ae z;obtain⟨y2,z0⟩:=ae z;rw[beq_iff_eq]at z0;have w0:asy=0:=z0
     have w2:ifs=[]:=by rw[Qp]at y2;exact y2
     subst y1 w0;subst w2;refine AE hcm h.ndX hN hy (by rw[h.scope];exact nt z1) (hX it h.toXOk _ _ z6) ?_ (dY z3 _) hsw;exact#[fun cls Ca fp s H=>nv h.toXOk z5 z4,fun cls Ca fp s H pins s' Y H' Q I q=>qC I q,fun cls Ca fp s H=>(aj d (h.toXOk.blk cls Ca fp s H) _).1 z7,fun i x hx hl=>jR z2 i x (by rw[<-h.names];exact hx) hl]
    ·cases e'<;>first | exact Bool.noConfusion hc | exact absurd ⟨_,_,_,_,rfl⟩ hk | exact absurd ⟨_,_,_,rfl⟩ hk2 | (obtain⟨_,hc⟩:=ae hc;exact Bool.noConfusion hc) | (rename_i b a;cases b<;>(obtain⟨_,hc⟩:=ae hc;exact Bool.noConfusion hc))
  ·have hb':=Bool.not_eq_true _▸hb;rw[hb']at hsw;exact plain hsw
def rE(h:XOk C X cl):∀ {es':RL.Es} {es:List Expr},vZ C es' es=true->PA X es (jZ X.K cl es')/\es.all noStar=true
 | .nil,es,z=>by
  have z:es=[]:=Qp.mp z;subst z;exact#[cL,rfl]
 | .cons _ _,[],z=>by cases z
 | .cons e' es',e::es,z=>by
  fin2;cbv;obtain⟨q1,q2⟩:=rE h z3;refine#[?_,by rw[Qx,z1,q2];rfl];rw[jZ];refine bu ?_ q1 (ay es z1);by_cases hv:∃ j,e'=.var j
  ·obtain⟨j,rfl⟩:=hv;obtain⟨x,p,rfl,g1,g2,g3,g4⟩:=j1 h z2;exact i5 g1 g2 g3 g4
  ·have ht:sO X.K cl e'=tE X.K cl e':=by
    cases e'<;>first | rfl | exact absurd ⟨_,rfl⟩ hv
   rw[ht];exact(aj _ h e).1 z2
def pM{is:List Nat}(h:is.all (fun i=>!M.contains i)=true):∀ i∈is,M.contains i=false:=fun i hi=>by
 rw[Qu]at h;simpa using h i hi
def Gp{is:List Nat}(h:is.all (fun i=>M.contains i)=true):∀ i∈is,M.contains i=true:=fun i hi=>by
 rw[Qu]at h;exact h i hi
def iq{b:Bool}(h:(!b)=true):b=false:=by simpa using h
def An{f:Nat}{ps ms:List Nat}{es:RL.Es}(h:XOk C X cl)(z:tX C M f es ps ms e=true):PE X e (rj (spM X.K cl ps f) [] E0 (jZ X.K cl es))/\cC es ps ms=true/\(∀ i∈ms,M.contains i=true)/\ms.Nodup/\ps.Nodup/\eD e=true:=by
 unfold tX at z;obtain⟨⟨g,as,ks,pos⟩,z0,z⟩:=ak z;have e0:=eP z0;obtain⟨z,zc⟩:=ae z;obtain⟨z,z9⟩:=ae z;obtain⟨z,z8⟩:=ae z;obtain⟨z,z7⟩:=ae z;obtain⟨z,z6⟩:=ae z;obtain⟨z,z5⟩:=ae z;z_go;fin2;cbv;obtain⟨x,y0,z1⟩:=ak z1;obtain⟨p,e1⟩:=cE y0;have e1:g=.Name x p:=e1;obtain⟨y1,y2⟩:=ae z1;rw[beq_iff_eq]at y2
 have w2:ks=[]:=by rw[Qp]at z2;exact z2
 rw[e1,w2]at e0;subst e0;refine#[?_,z6,Gp z7,by simpa using z8,by simpa using z9,rfl];obtain⟨k,fa,fd,pn,F,hr,hm,hk,hb⟩:=h.fns f x ps zc y2;rw[if_neg (fun z=>by subst z;cases z4)]at F;obtain⟨q1,q2⟩:=rE h z5;obtain⟨g1,g2⟩:=h.gl y1
 cases as with
 | nil=>cases z3
 |cons y ys=>
  rw[Qx]at q2;exact vA F hr g1 hm hk hb .nil Cj q1 (bX g2).1 (ay ys (ae q2).1) (cU (ae q2).2)
def pJ{nm:Str}{f:List Expr->Bool}(h:XOk C X cl)(z:nj C i nm e f=true):∃ x p apos as pos,e=.Call (.Attribute (.Name x p) nm apos) as [] pos/\X.N[i]?=some x/\Vis X.env.scope x/\(x == ("__debug__" : Str))=false/\(x == ("__classdict__" : Str))=false/\(apos.endLine == pos.line)=true/\f as=true:=by
 unfold nj at z;obtain⟨⟨g,as,ks,pos⟩,z0,z⟩:=ak z;have e0:=eP z0;fin2;cbv;obtain⟨⟨o,a,apos⟩,y0,z1⟩:=ak z1;have e1:=sL y0;have e1:g=.Attribute o a apos:=e1;obtain⟨z1,y3⟩:=ae z1;obtain⟨y1,y2⟩:=ae z1;rw[beq_iff_eq]at y2;have y2:a=nm:=y2
 have w2:ks=[]:=by rw[Qp]at z2;exact z2
 obtain⟨x,p,e2,g1,g2,g3,g4⟩:=j1 h y1;have e2:o=.Name x p:=e2;rw[e1,w2,y2,e2]at e0;exact#[x,p,apos,as,pos,e0,g1,g2,g3,g4,y3,z3]
def Ec(h1:PS X st (p8 (tE X.K cl e') (Ba (j8 i) (tE X.K cl k') wB)))(h2:PS X st (wR (j8 i) (tE X.K cl k') (tE X.K cl e')))(hi:M.contains i=true):SS X cl M st (.put i k' e'):=by
 have a1:=Gj h1 hi trivial;have a2:=D5 h2 hi;intro pins s Y H D I h;f_tup;obtain⟨d,e1,e⟩:=bind_some e;obtain⟨kk,e2,e⟩:=bind_some e;obtain⟨l,e3,e⟩:=bind_some e
 cases l with
 | lst ds=>exact a1 pins s Y H D I ⟨QP,o,QT,rv,by dsimp only;rw[e1];dsimp only[Option.bind_some];rw[e2];dsimp only[Option.bind_some];rw[e3];exact e,k⟩
 | _=>exact a2 pins s Y H D I ⟨QP,o,QT,rv,by dsimp only;rw[e1];dsimp only[Option.bind_some];rw[e2];dsimp only[Option.bind_some];rw[e3];exact e,k⟩
def xf{o k:Expr}{pos:Pos}{env:Env}(h:mR k=true)(v:Value):assign (.Subscript o k pos) env v=(do
   let ov <- holding [v] (eval o env)
   let iv <- holding [v,ov] (eval k env)
   standAt pos
   holding [v,ov,iv] (setItem ov iv v)
   release [v,ov,iv] []):=by
 cases k<;>first | rfl | (cases h;done)
def ql{us:List Expr}{kk:Nat}{tp:Pos}{env:Env}(h:xN e=true):swappedStores [.Tuple us kk tp] e env=pure none:=by
 cases e<;>first | rfl | (cases h;done)
def ES{x y:Str}{px py pt pt2:Pos}{kt k2:Nat}{a b:Expr}(h:XOk C X cl)(hp:Bg C x y px py a b=true):swappedStores [.Tuple [.Name x px,.Name y py] kt pt] (.Tuple [a,b] k2 pt2) X.env=pure (some [x,y]) /\
  X.env.scope.names.lookup x=some .local/\X.env.scope.names.lookup y=some .local/\noStar a=true/\noStar b=true:=by
 unfold Bg at hp;obtain⟨hp,h9⟩:=ae hp;obtain⟨hp,h8⟩:=ae hp;obtain⟨hp,h7⟩:=ae hp;obtain⟨hp,h6⟩:=ae hp;obtain⟨hp,h5⟩:=ae hp;obtain⟨hp,h4⟩:=ae hp;obtain⟨hp,h3⟩:=ae hp;obtain⟨h1,h2⟩:=ae hp;rw[beq_iff_eq]at h1 h2 h3 h4;rw[<-h.scope]at h1 h2 h3;refine#[?_,h2,h3,h6,h7]
 have bk:X.env.blockKind=.function:=by
  unfold Env.blockKind;rw[h1];rfl
 have k1:X.env.kindOf x=some .local:=h2;have k2:X.env.kindOf y=some .local:=h3
 have hxy:x≠y:=by simpa using h5
 have fs':foldedForSure 8 a=true->foldedForSure 8 b=false:=fun z=>by simpa[z]using h8
 have ca':constantsAlone 8 a=true->constantsAlone 8 b=false:=fun z=>by simpa[z]using h9
 have ed:[x,y].eraseDups=[x,y]:=by
  rw[List.eraseDups_cons];simp[Ne.symm hxy];rfl
 unfold swappedStores;simp only[bk];simp[show ∀ (x:Str) (p:Pos),(Expr.Name x p).pos=p from fun _ _=>rfl,k1,k2,h4,ed];refine(if_neg ?_).trans ((if_neg ?_).trans (if_neg ?_))
 ·intro hh;rcases hh with hh | hh
  ·cases a<;>first | exact Bool.noConfusion (show false=true from hh) | exact Bool.noConfusion (show false=true from h6)
  ·cases b<;>first | exact Bool.noConfusion (show false=true from hh) | exact Bool.noConfusion (show false=true from h7)
 ·intro hh;have:=fs' hh.1;rw[hh.2]at this;cases this
 ·intro hh;have:=ca' hh.1;rw[hh.2]at this;cases this
end
section
variable{cl:RL.Cl}
def CK{X:Cx}{C:CC}{EX:L2.St->XK}{x:Str}{f:Nat}{p pos:Pos}{y:Expr}{ys:List Expr}{es:RL.Es}(h:ROk C X cl EX)(hg:glB C x=true)(hf:C.F[f]?=some (x,[]))(he:SEs X.nox cl (y::ys) es)(ha:RA X EX cl (y::ys) es)(hn:noStar y=true)(hns:ys.all noStar=true) :
  RE X EX cl (.Call (.Name x p) (y::ys) [] pos) (.call f es):=by
 obtain⟨k,fa,fd,ps,F,hr,hm,hk,hb⟩:=h.y.fnx f x h.cal hf;obtain⟨g1,g2⟩:=h.y.gl hg;exact CZ F hr g1 hm hk hb h.pass (PA.nox he) ha (bX g2).1 hn hns
mutual
theorem ic:∀ (e':RL.E) {X:Cx} {C:CC} {EX:L2.St->XK} (h:ROk C X cl EX) (e:Expr),chk C false e' e=true->RE X EX cl e e'
 | .call f es,X,C,EX,h,e,z=>by
  obtain⟨zc,z⟩:=ae z;obtain⟨⟨g,as,ks,p⟩,z0,z⟩:=ak z;have z0:=eP z0;subst z0;z_go;fin2;cbv;obtain⟨x,y0,z1⟩:=ak z1;obtain⟨q,e0⟩:=cE y0;have e0:g=.Name x q:=e0;obtain⟨y1,y2⟩:=ae z1;rw[beq_iff_eq]at y2
  have w2:ks=[]:=by rw[Qp]at z2;exact z2
  subst e0 w2;obtain⟨q1,q2,q3⟩:=i8 es h.y.toXOk _ z4;have ha:=qu es h _ z4;dsimp only at z3 q1 q2 q3 ha
  cases as with
  | nil=>cases z3
  |cons y ys=>
   rw[Qx]at q3;exact CK h y1 y2 q1 ha (ae q3).1 (ae q3).2
 | .ix a b,X,C,EX,h,e,z=>by
  obtain⟨⟨l,r⟩,z0,z⟩:=ak z;obtain⟨p,rfl⟩:=fZ z0;fin2;cbv;exact PE.weak (BJ yE (ic a h l z2) (PE.nox ((aj b h.y.toXOk r).1 z3)) (vg z1)) fun Y H Q q=>q
 | .var _,X,C,EX,h,e,z=>bo fun _=>rfl
 | .cst _,X,C,EX,h,e,z=>bo fun _=>rfl
 | .glb _ _,X,C,EX,h,e,z=>bo fun _=>rfl
 | .bin _ _ _,X,C,EX,h,e,z=>bo fun _=>rfl
 | .cmp _ _ _,X,C,EX,h,e,z=>bo fun _=>rfl
 | .chain _ _ _ _ _,X,C,EX,h,e,z=>bo fun _=>rfl
 | .isN _ _,X,C,EX,h,e,z=>bo fun _=>rfl
 | .inn _ _ _,X,C,EX,h,e,z=>bo fun _=>rfl
 | .inD _ _ _,X,C,EX,h,e,z=>bo fun _=>rfl
 | .and _ _,X,C,EX,h,e,z=>bo fun _=>rfl
 | .or _ _,X,C,EX,h,e,z=>bo fun _=>rfl
 | .not _,X,C,EX,h,e,z=>bo fun _=>rfl
 | .ifx _ _ _,X,C,EX,h,e,z=>bo fun _=>rfl
 | .tup _,X,C,EX,h,e,z=>bo fun _=>rfl
 | .lst _,X,C,EX,h,e,z=>bo fun _=>rfl
 | .ixD _ _,X,C,EX,h,e,z=>bo fun _=>rfl
 | .slT _ _,X,C,EX,h,e,z=>bo fun _=>rfl
 | .slF _ _,X,C,EX,h,e,z=>bo fun _=>rfl
 | .rev _,X,C,EX,h,e,z=>bo fun _=>rfl
 | .bi _ _,X,C,EX,h,e,z=>bo fun _=>rfl
 | .max _ _,X,C,EX,h,e,z=>bo fun _=>rfl
 | .isi _ _,X,C,EX,h,e,z=>bo fun _=>rfl
 | .rng1 _,X,C,EX,h,e,z=>bo fun _=>rfl
 | .rng2 _ _,X,C,EX,h,e,z=>bo fun _=>rfl
 | .rng3 _ _ _,X,C,EX,h,e,z=>bo fun _=>rfl
 | .neg _,X,C,EX,h,e,z=>bo fun _=>rfl
 | .comp _ _ _ _,X,C,EX,h,e,z=>bo fun _=>rfl
 | .compA _ _ _,X,C,EX,h,e,z=>bo fun _=>rfl
 | .join _,X,C,EX,h,e,z=>bo fun _=>rfl
 | .isx _ _,X,C,EX,h,e,z=>bo fun _=>rfl
 | .dk0,X,C,EX,h,e,z=>bo fun _=>rfl
 | .dt0,X,C,EX,h,e,z=>bo fun _=>rfl
theorem qu:∀ (es':RL.Es) {X:Cx} {C:CC} {EX:L2.St->XK} (h:ROk C X cl EX) (es:List Expr),lQ C es' es=true->RA X EX cl es es'
 | .nil,X,C,EX,h,es,z=>Hk
 | .cons e' es',X,C,EX,h,es,z=>by
  cases es with
  | nil=>cases z
  |cons e es=>
   fin2;cbv;exact Di (PE.nox ((aj e' h.y.toXOk e).1 z2)) (ic e' h e z2) (qu es' h es z3) (ay es z1)
end
section
variable{X:Cx}{C:CC}{EX:L2.St->XK}{M:List Nat}
def CU{X:Cx}{st:Stmt}{c:Str}{ps:RL.Es}:SS X cl M st (.rais c ps):=fun pins s Y H D I ⟨QP,r,QT,_,e,_⟩=>by
 cases e
def yq{t e:Expr}{spos:Pos}{i:Nat}{e':RL.E}{s:RL.S}(h:ROk C X cl EX)(hn:gR C i t=true)(ha:vY e=true)(hc:chk C false e' e=true)(he:∀ QP,RL.kW cl M s QP=(RL.evX cl QP e').map fun x=>(x,QP)):RZ X EX cl M (.Assign [t] e spos) s:=by
 obtain⟨y,py,rfl,hN,hl⟩:=gc h.y.toXOk hn;by_cases hcomp:eD e=true
 ·exact qV (se (X:=X) h.y.ndX hN hl (ic e' h e hc) (eR hcomp) (.inl (h.y.fn y))) he
 ·refine gh fun QP=>?_;rw[he]
  have:∃ elt gens scope p,e=.ListComp elt gens scope p:=by
   cases e<;>first | exact absurd rfl hcomp | exact Bool.noConfusion ha | exact#[_,_,_,_,rfl]
  obtain⟨elt,gens,scope,p,rfl⟩:=this
  cases e' with
  |call f es=>
   obtain⟨_,z⟩:=ae hc;exact Bool.noConfusion z
  | ix a b=>exact Bool.noConfusion hc
  | _=>rfl
abbrev tW(K:W.Frag)(cl:RL.Cl):RL.Es->TA
 | .nil=>lg
 | .cons e es=>zf (tE K cl e) (tW K cl es)
def BU{K:W.Frag}{QP:RL.St}{Y:L2.St}:∀ {ps:RL.Es} {ds:List RL.D} {H:Hp} {Q:List V->Hp->Prop},RV0 K QP Y H->RL.evs cl QP ps=some ds->ds.all RL.written=true->(∀ vs H1,aw H H1->Q vs H1)->tW K cl ps Y H Q
 | .nil,ds,H,Q,rv,e,w,k=>k [] H (aw.refl _)
 | .cons p ps,ds,H,Q,rv,e,w,k=>by
  rw[RL.evs]at e;obtain⟨d,e1,e⟩:=bind_some e;obtain⟨ds',e2,e3⟩:=map_some e;subst e3;rw[Qx,Bool.and_eq_true]at w
  cases d with
  |int i=>
   refine#[QP,.int i,rv,e1,fun v H1 r1=>#[i,ah r1.rep,by simpa[RL.written]using w.1,BU (rv.same r1.same) e2 w.2 fun vs H2 sm=>k vs H2 (r1.same.trans sm)]]
  | _=>cases w.1
def pY{X:Cx}(h:XOk C X cl):∀ {vs:List Expr} {ps:RL.Es},tH C vs ps=true->PJ X vs (tW X.K cl ps)
 | [],.nil,z=>HA
 | [],.cons _ _,z=>by cases z
 | v::vs,ps,z=>by
  rw[tH]at z;split at z
  ·rename_i y hv;obtain⟨j,p,rfl⟩:=jg hv;cbv;exact Dd (pY h z2) (by simpa using z1)
  ·cases z
  ·obtain⟨⟨e,cv,sp⟩,z0,z⟩:=ak z;obtain⟨p,rfl⟩:=CP z0;fin2;cbv;rw[beq_iff_eq]at z1;have y1:cv=-1:=z1;have y2:sp=none:=eX z2;clear z1 z2 z z0;subst y1 y2
   cases ps with
   | nil=>cases z3
   |cons q qs=>
    obtain⟨z4,z5⟩:=ae z3;exact Hh ((aj q h e).1 z4) (pY h z5)
def Am{c:Str}{ps:RL.Es}{a:Expr}{np cpos pos:Pos}(h:ROk C X cl EX)(z1:C.calm=true)(z2:C.Xr.contains c=true)(z3:glB C c=true)(hn:noStar a=true)(z4:Bq C ps a=true):RZ X EX cl M (.Raise (some (.Call (.Name c np) [a] [] cpos)) none pos) (.rais c ps):=by
 obtain⟨D,d1,d2⟩:=h.y.cls c z2;obtain⟨g1,g2⟩:=h.y.gl z3
 have key:∀ {ta:TE},PE X a ta->(∀ QP Y H ds (Q:VK),RV0 X.K QP Y H->RL.evs cl QP ps=some ds->ds.all RL.written=true->(∀ v H1,aw H H1->Q v H1)->ta Y H Q)->RZ X EX cl M (.Raise (some (.Call (.Name c np) [a] [] cpos)) none pos) (.rais c ps):=fun {ta} pe rd=>by
  intro pins s Y H Dn I q;refine PS.weak (Af (np:=np) (cpos:=cpos) (pos:=pos) (I.ok.hd.1 (h.y.calm z1)) g1 d1 (bX g2).1 d2.exc (fun pins Y H s h' e vs I m q=>h.made pins Y H s h' e D vs I m q) (bu pe cL (ay [] hn)) (ay [] hn)) (fun Dn Y H q=>?_) pins s Y H Dn I q;obtain⟨QP,x,QT,rv,e,k⟩:=q;obtain⟨ds,e1,e2⟩:=bind_some e;obtain⟨hw,e2⟩:=cS e2;cases e2
  exact rd QP Y H ds _ rv.rv0 e1 hw fun v H1 sm=>#[by show 1<=sizeLine;decide,k Y H1 D d2 (rv.same sm) (Fr'.same sm)]
 unfold Bq at z4;rcases Bool.or_eq_true_iff.mp z4 with z | z
 ·obtain⟨w1,w2⟩:=ae z;obtain⟨kk,q0,q⟩:=ak w1;obtain⟨j,p,rfl⟩:=jg q0
  cases kk with
  | str y=>exact key uv fun QP Y H ds Q rv e w k=>k _ H (aw.refl _)
  | _=>cases q
 ·obtain⟨vs,q0,z⟩:=ak z;obtain⟨p,rfl⟩:=B7 q0;obtain⟨z,w3⟩:=ae z;obtain⟨w1,w2⟩:=ae z;rw[decide_eq_true_eq]at w1 w2
  match vs,w1,w2,w3 with
  |v::v2::vs,_,w2,w3=>
   exact key (PE.nox (yZ (pY h.y.toXOk w3) (by simp at w2;omega))) fun QP Y H ds Q rv e w k=>BU rv e w fun vs H1 sm x=>k _ H1 sm
end
def YOk.rok{C:CC}{X:Cx}(h:YOk C X cl)(pn:List (Addr × Obj))(E:Value->Shared->Prop)(EX:L2.St->XK)(hc:C.calm=true)(ps:∀ pins Y H s e s',Inv (CxX X pn E) pins Y H s->CXE X.prog X.w X.stack H s (EX Y) e s'->E e s')(md:∀ pins Y H s h' e C vs,Inv (CxX X pn E) pins Y H s->Heap.MadeExcOf s.heap h' e (.ref C) vs->EX Y (.ref C) none H->E (.ref e) { s with heap:=h' })(ow:PassesOwn (model X.prog X.w) X.A X.env E):ROk C (CxX X pn E) cl EX where
 y:={ scope:=h.scope,names:=h.names,nd:=h.nd,calm:=h.calm,xe:=rfl,hu:=h.hu,blt:=h.blt,glb:=h.glb,fns:=h.fns,hfn:=h.hfn,cls:=h.cls,ref:=h.ref,fn:=h.fn,st:=h.st,fnx:=h.fnx }
 cal:=hc
 pass:=ps
 made:=md
 own:=ow
def YOk.bZ{C:CC}{X:Cx}(h:YOk C X cl)(e:Addr)(oe:Obj):YOk { C with calm:=false } (X.bZ e oe) cl where
 scope:=h.scope
 names:=h.names
 nd:=h.nd
 calm:=fun z=>nomatch z
 xe:=h.xe
 hu:=h.hu
 blt:=h.blt
 glb:=h.glb
 fns:=fun _ _ _ z=>nomatch z
 hfn:=fun f x a b=>by
  obtain⟨k,fa,fd,ps,F,hr,r⟩:=h.hfn f x a b;exact#[k,fa,fd,ps,F,#[hr.dp,hr.un],r]
 cls:=h.cls
 ref:=h.ref
 fn:=h.fn
 st:=h.st
 fnx:=fun _ _ z=>nomatch z
end
section
variable{cl:RL.Cl}
mutual
theorem vF:∀ (s:RL.S) {X:Cx} {C:CC} {M:List Nat} (h:YOk C X cl) (st:Stmt),AN C M s st=true->SS X cl M st s
 | .asg i e',X,C,M,h,st,z=>by
  obtain⟨⟨ts,e⟩,z0,z⟩:=ak z;obtain⟨p,rfl⟩:=eA z0;obtain⟨t,y1,z⟩:=aN z;have y1:ts=[t]:=y1;obtain⟨z,zc⟩:=ae z;z_go;fin2;cbv;subst y1;exact GH (Ce zc h z1 z3 z4) (iq z2)
 | .own i e',X,C,M,h,st,z=>by
  obtain⟨⟨ts,e⟩,z0,z⟩:=ak z;obtain⟨p,rfl⟩:=eA z0;obtain⟨t,y1,z⟩:=aN z;have y1:ts=[t]:=y1;obtain⟨z,zc⟩:=ae z;obtain⟨z,z5⟩:=ae z;z_go;fin2;cbv;subst y1;exact HQ (Ce zc h z1 z4 z5) z2 (by simpa using z3)
 | .unp is e',X,C,M,h,st,z=>by
  obtain⟨⟨ts,e⟩,z0,z⟩:=ak z;obtain⟨p,rfl⟩:=eA z0;obtain⟨t,y1,z⟩:=aN z;have y1:ts=[t]:=y1;obtain⟨us,y2,z⟩:=ak z;obtain⟨k,tp,rfl⟩:=e8 y2;z_go;fin2;cbv;subst y1;obtain⟨g1,g2,g3⟩:=lT h.toXOk (T:=is) (fun i x _ _=>.inl (h.fn x)) (fun _ h=>h) z1;refine DU (tM ((aj e' h.toXOk e).1 z4) (uE (oN g1 g2 g3) (pC g1 g2 g3)) ?_ (ql z3) rfl) (pM z2);cases e<;>rfl
 | .par i j a' b',X,C,M,h,st,z=>by
  obtain⟨⟨ts,e⟩,z0,z⟩:=ak z;obtain⟨p,rfl⟩:=eA z0;obtain⟨t,y1,z⟩:=aN z;have y1:ts=[t]:=y1;obtain⟨us,y2,z⟩:=ak z;obtain⟨k,tp,e2⟩:=e8 y2;obtain⟨s1,s2,y3,z⟩:=eg z;obtain⟨⟨x,px⟩,y4,z⟩:=ak z;obtain⟨⟨y,py⟩,y5,z⟩:=ak z;obtain⟨vs,y6,z⟩:=ak z;obtain⟨k',tp',e6⟩:=e8 y6;have e6:e=.Tuple vs k' tp':=e6;obtain⟨a,b,y7,w⟩:=eg z;rw[qj y4,qj y5]at y3;rw[y3]at e2
  have e7:e=.Tuple [a,b] k' tp':=by rw[<-y7];exact e6
  rw[e2]at y1;subst y1 e7;obtain⟨w,zc⟩:=ae w;obtain⟨w,z8⟩:=ae w;obtain⟨w,z7⟩:=ae w;obtain⟨w,z6⟩:=ae w;obtain⟨w,z5⟩:=ae w;obtain⟨w,z4⟩:=ae w;obtain⟨w,z3⟩:=ae w;obtain⟨z1,z2⟩:=ae w;obtain⟨g1,g2,g3,g4,g5⟩:=ES h.toXOk z6;exact FL (G7 (h.calm zc) h.ndX (h.nm z1).1 (h.nm z2).1 (by simpa using z3) g2 g3 (bM (cl:=cl) ((aj a' h.toXOk a).1 z7) (bM ((aj b' h.toXOk b).1 z8) cY g5) g4) g1 rfl) (iq z4) (iq z5)
 | .app i e',X,C,M,h,st,z=>by
  obtain⟨e,z0,z8⟩:=ak z;obtain⟨p0,rfl⟩:=lG z0;obtain⟨x,p,apos,as,pos,rfl,g1,g2,g3,g4,z6,z7⟩:=pJ h.toXOk z8;obtain⟨y,rfl,z9⟩:=aN z7;obtain⟨z9,z7⟩:=ae z9;obtain⟨z4,z5⟩:=ae z9;refine E8 (lD (Cs PySem.F.plainAttrs_list PySem.F.slot_list_append PySem.F.type_list_append qA (i5 g1 g2 g3 g4) (bM (cl:=cl) ((aj e' h.toXOk y).1 z7) cY z5) rfl ?_ z6 (ay [] z5) rfl) rfl) z4;rw[ay [] z5];rfl
 | .put i k' e',X,C,M,h,st,z=>by
  obtain⟨⟨ts,e⟩,z0,z⟩:=ak z;obtain⟨p,rfl⟩:=eA z0;obtain⟨t,y1,z⟩:=aN z;have y1:ts=[t]:=y1;obtain⟨⟨o,k⟩,y2,z⟩:=ak z;obtain⟨sp,e2⟩:=fZ y2;obtain⟨z,z7⟩:=ae z;obtain⟨z,z6⟩:=ae z;obtain⟨z,z5⟩:=ae z;z_go;obtain⟨z1,z3⟩:=ae z;obtain⟨x,px,e3,g1,g2,g3,g4⟩:=j1 h.toXOk z1;have e3:o=.Name x px:=e3;rw[e3]at e2;rw[e2]at y1;subst y1;have pv:=fun pos=>i5 (X:=X) (pos:=pos) g1 g2 g3 g4;refine Ec (tM ((aj e' h.toXOk e).1 z7) (Hq (pv _) ((aj k' h.toXOk k).1 z6) set_list (xf z4)) ?_ ?_ rfl) (Dz (Nat.lt_of_le_of_lt ⋯ h.hu) (pv _) ((aj k' h.toXOk k).1 z6) ((aj e' h.toXOk e).1 z7) (eR z5)) z3
  ·unfold swapsWithSole;exact eR z5
  ·rfl
 | .pop i j,X,C,M,h,st,z=>by
  obtain⟨⟨ts,e⟩,z0,z⟩:=ak z;obtain⟨p,rfl⟩:=eA z0;obtain⟨t,y1,z⟩:=aN z;have y1:ts=[t]:=y1;z_go;fin2;cbv;obtain⟨y,py,rfl,l1,l2⟩:=gc h.toXOk z1;obtain⟨x,px,apos,as,pos,e2,g1,g2,g3,g4,z6,z5⟩:=pJ h.toXOk z4;have e2:e=.Call (.Attribute (.Name x px) "pop" apos) as [] pos:=e2;have z5:as=[]:=Qp.mp z5;subst y1 z5 e2;exact HP (se h.ndX l1 l2 (zB PySem.F.plainAttrs_list PySem.F.slot_list_pop PySem.F.type_list_pop zm (i5 g1 g2 g3 g4) rfl z6) rfl (.inl (h.fn _))) z2 (iq z3)
 | .aug i o e',X,C,M,h,st,z=>by
  obtain⟨⟨t,op,e⟩,z0,z⟩:=ak z;obtain⟨p,rfl⟩:=DY z0;z_go;fin2;cbv;obtain⟨x,px,e1,l1,l2⟩:=gc h.toXOk z1;have e1:t=.Name x px:=e1;subst e1;have z3:C2 o op=true:=z3;have z4:chk C false e' e=true:=z4;clear z0 z1 z
  cases o<;>cases op<;>first | (cases z3;done) | skip
  ·exact yO (f:=fun a b=>a+b) (fun a b=>rfl) (yS h.ndX l1 l2 ((aj e' h.toXOk e).1 z4) F3 (.inl (h.fn x))) (iq z2)
  ·exact yO (f:=fun a b=>a-b) (fun a b=>rfl) (yS h.ndX l1 l2 ((aj e' h.toXOk e).1 z4) EK (.inl (h.fn x))) (iq z2)
 | .ife c' a' b',X,C,M,h,st,z=>by
  obtain⟨⟨c,a,b⟩,z0,z⟩:=ak z;obtain⟨p,rfl⟩:=tP z0;fin2;cbv;exact IK ((aj c' h.toXOk c).2 z1).1 (cz a' h a z2) (cz b' h b z3)
 | .forr tg it b',X,C,M,h,st,z=>by
  obtain⟨⟨t,it',b,o⟩,z0,z⟩:=ak z;obtain⟨p,rfl⟩:=vQ z0;obtain⟨z,zc⟩:=ae z;obtain⟨z,z7⟩:=ae z;obtain⟨z,z6⟩:=ae z;obtain⟨z,z5⟩:=ae z;z_go;fin2;cbv;have z1:o=[]:=Qp.mp z1;subst z1;exact Gi h.xe (h.calm zc) (hX it h.toXOk t it' z2) (rX h.toXOk (fun i x _ _=>.inl (h.fn x)) z3) (cz b' h b z7) (dY z4 _) z5 (pM z6)
 | .mexc f es ps ms,X,C,M,h,st,z=>by
  obtain⟨e,z0,z⟩:=ak z;obtain⟨p0,rfl⟩:=lG z0;obtain⟨g1,g2,g3,g4,g5,g6⟩:=An h.toXOk z;exact DQ (lD g1 (eR g6)) g2 g3 g4 g5
 | .ret e',X,C,M,h,st,z=>by
  obtain⟨o,z0,z⟩:=ak z;obtain⟨p,rfl⟩:=vP z0;obtain⟨e,rfl,zz⟩:=ak z;by_cases hv:vL M e'=true
  ·have:∃ i,e'=.var i:=by
    cases e'<;>first | exact#[_,rfl] | exact Bool.noConfusion hv
   obtain⟨i,rfl⟩:=this;obtain⟨x,q,rfl,g1,g2,g3,g4⟩:=j1 h.toXOk zz;exact DV g1 g2 g3 g4 hv
  ·exact Fe ((aj e' h.toXOk e).1 zz) fun i hi=>by
    subst hi;simpa[vL]using hv
 | .exc e',X,C,M,h,st,z=>by
  obtain⟨e,z0,z⟩:=ak z;obtain⟨p0,rfl⟩:=lG z0;cbv;exact Fw (lD ((aj e' h.toXOk e).1 z2) (eR z1))
 | .ifp i e' a' b',X,C,M,h,st,z=>by
  obtain⟨⟨c,a,b⟩,z0,z⟩:=ak z;obtain⟨p,rfl⟩:=tP z0;obtain⟨⟨l,os,rs⟩,z0,z⟩:=ak z;obtain⟨cp,ec⟩:=ie z0;have ec:c=.Compare l os rs cp:=ec;obtain⟨op,y1,z⟩:=aN z;obtain⟨e,y2,z⟩:=aN z;have y1:os=[op]:=y1;have y2:rs=[e]:=y2;obtain⟨z,z6⟩:=ae z;obtain⟨z,z5⟩:=ae z;z_go;fin2;cbv;rw[beq_iff_eq]at z1;obtain⟨x,px,apos,as,pos,e2,g1,g2,g3,g4,z7,z8⟩:=pJ h.toXOk z6;have e2:l=.Call (.Attribute (.Name x px) "pop" apos) as [] pos:=e2;have z8:as=[]:=Qp.mp z8;rw[z8]at e2;rw[y1,y2,z1,e2]at ec;subst ec;exact E5 (zB PySem.F.plainAttrs_list PySem.F.slot_list_pop PySem.F.type_list_pop zm (i5 g1 g2 g3 g4) rfl z7) ((aj e' h.toXOk e).1 z3) (cz a' h a z4) (cz b' h b z5) z2
 | .whil c' b',X,C,M,h,st,z=>by
  obtain⟨⟨c,b,o⟩,z0,z⟩:=ak z;obtain⟨p,rfl⟩:=DN z0;fin2;cbv;have z1:o=[]:=Qp.mp z1;subst z1;exact AU h.xe ((aj c' h.toXOk c).2 z2).1 (cz b' h b z3)
 | .rais _ _,X,C,M,h,st,z=>CU
 | .tryc b c i hh,X,C,M,h,st,z=>by
  obtain⟨⟨bd,hs,oe,fi⟩,z0,z⟩:=ak z;obtain⟨p,rfl⟩:=DS z0;obtain⟨z,z9⟩:=ae z;obtain⟨z,z8⟩:=ae z;obtain⟨z,z7⟩:=ae z;obtain⟨z,z6⟩:=ae z;obtain⟨z,z5⟩:=ae z;z_go;fin2;cbv;have v2:oe=[]:=Qp.mp z2;have v3:fi=[]:=Qp.mp z3;obtain⟨hd,y1,z8⟩:=aN z8;have v1:hs=[hd]:=y1;obtain⟨ht,hn,hb,hp⟩:=hd;obtain⟨w,w4⟩:=ae z8;obtain⟨w,w3⟩:=ae w;obtain⟨w1,w2⟩:=ae w;obtain⟨te,q1,w5⟩:=ak w1;have u1:ht=some te:=q1;obtain⟨x,q2,w6⟩:=ak w5;obtain⟨np,q4⟩:=cE q2;rw[beq_iff_eq]at w6;clear w1 w5 q2;subst q4 w6;obtain⟨n,q3,w7⟩:=ak w2;have u3:hn=some n:=q3;obtain⟨n1,n2⟩:=ae w7;rw[beq_iff_eq]at n2;have z9:cM C M b bd=true:=z9;have w4:cM { C with calm:=false } M hh hb=true:=w4;have w3:(!hb.isEmpty)=true:=w3;clear z2 z3 y1 q1 q3 z0 z;subst v2 v3 u1 u3
  cases hb with
  | nil=>cases w3
  |cons b0 bZ=>
   subst v1;obtain⟨R,r1,r2⟩:=h.cls x z4;refine EY h.xe h.st.1 h.st.2.1 h.st.2.2 (cz b h bd z9) (fun pn E EX ps md ow=>eW b (h.rok pn E EX z1 ps md ow) bd z9) (fun e oe=>cz hh (h.bZ e oe) (b0::bZ) w4) r2 (by simpa using z5) (h.gl z6).1 r1 (bX (h.gl z6).2).1 h.ndX (h.nm n1).1 (by rw[h.scope];exact n2) (iq z7)
theorem cz:∀ (s:RL.Ss) {X:Cx} {C:CC} {M:List Nat} (h:YOk C X cl) (st:List Stmt),cM C M s st=true->SSs X cl M st s
 | .nil,X,C,M,h,st,z=>by
  have z:st=[]:=Qp.mp z;subst z;exact DH
 | .cons s r,X,C,M,h,st,z=>by
  cases st with
  | nil=>cases z
  |cons x xs=>
   cbv;exact A3 (vF s h x z1) (cz r h xs z2)
theorem Aj:∀ (s:RL.S) {X:Cx} {C:CC} {M:List Nat} {EX:L2.St->XK} (h:ROk C X cl EX) (st:Stmt),AN C M s st=true->RZ X EX cl M st s
 | .asg i e',X,C,M,EX,h,st,z=>by
  obtain⟨⟨ts,e⟩,z0,z⟩:=ak z;obtain⟨p,rfl⟩:=eA z0;obtain⟨t,y1,z⟩:=aN z;have y1:ts=[t]:=y1;obtain⟨z,zc⟩:=ae z;z_go;fin2;cbv;subst y1;exact yq h z1 z3 z4 (fun _=>rfl)
 | .own i e',X,C,M,EX,h,st,z=>by
  obtain⟨⟨ts,e⟩,z0,z⟩:=ak z;obtain⟨p,rfl⟩:=eA z0;obtain⟨t,y1,z⟩:=aN z;have y1:ts=[t]:=y1;obtain⟨z,zc⟩:=ae z;obtain⟨z,z5⟩:=ae z;z_go;fin2;cbv;subst y1;exact yq h z1 z4 z5 (fun _=>rfl)
 | .unp is e',X,C,M,EX,h,st,z=>by
  obtain⟨⟨ts,e⟩,z0,z⟩:=ak z;obtain⟨p,rfl⟩:=eA z0;obtain⟨t,y1,z⟩:=aN z;have y1:ts=[t]:=y1;obtain⟨us,y2,z⟩:=ak z;obtain⟨k,tp,rfl⟩:=e8 y2;z_go;fin2;cbv;subst y1;obtain⟨g1,g2,g3⟩:=lT h.y.toXOk (T:=is) (fun i x _ _=>.inl (h.y.fn x)) (fun _ h=>h) z1;refine qV (tM (ic e' h e z4) (PG.nox (uE (oN g1 g2 g3) (pC g1 g2 g3))) ?_ (ql z3) rfl) fun _=>rfl;cases e<;>rfl
 | .exc e',X,C,M,EX,h,st,z=>by
  obtain⟨e,z0,z⟩:=ak z;obtain⟨p0,rfl⟩:=lG z0;cbv;exact qV (lD (ic e' h e z2) (eR z1)) fun _=>rfl
 | .ret e',X,C,M,EX,h,st,z=>by
  obtain⟨o,z0,z⟩:=ak z;obtain⟨p,rfl⟩:=vP z0;obtain⟨e,rfl,zz⟩:=ak z;exact qV (g:=fun D _=>D.rt) (tR (ic e' h e zz)) fun _=>rfl
 | .ife c' a' b',X,C,M,EX,h,st,z=>by
  obtain⟨⟨c,a,b⟩,z0,z⟩:=ak z;obtain⟨p,rfl⟩:=tP z0;fin2;cbv;exact IA (PT.nox ((aj c' h.y.toXOk c).2 z1).1) (eW a' h a z2) (eW b' h b z3)
 | .forr tg it b',X,C,M,EX,h,st,z=>by
  obtain⟨⟨t,it',b,o⟩,z0,z⟩:=ak z;obtain⟨p,rfl⟩:=vQ z0;obtain⟨z,zc⟩:=ae z;obtain⟨z,z7⟩:=ae z;obtain⟨z,z6⟩:=ae z;obtain⟨z,z5⟩:=ae z;z_go;fin2;cbv;have z1:o=[]:=Qp.mp z1;subst z1;exact Fq h.own (h.y.calm zc) (PI.nox (hX it h.y.toXOk t it' z2)) (PG.nox (rX h.y.toXOk (fun i x _ _=>.inl (h.y.fn x)) z3)) (PSs.nox (cz b' h.y b z7)) (eW b' h b z7) (dY z4 _) z5 (pM z6)
 | .rais c ps,X,C,M,EX,h,st,z=>by
  obtain⟨⟨eo,co⟩,z0,z⟩:=ak z;obtain⟨p,rfl⟩:=xJ z0;obtain⟨z,z5⟩:=ae z;z_go;fin2;cbv;have z4:co=none:=eX z4;obtain⟨e,q1,z5⟩:=ak z5;have q1:eo=some e:=q1;obtain⟨⟨g,as,ks,cp⟩,w0,w⟩:=ak z5;have w0:=eP w0;obtain⟨w,w3⟩:=ae w;obtain⟨w1,w2⟩:=ae w;obtain⟨x,q2,w1⟩:=ak w1;obtain⟨np,q3⟩:=cE q2;have q3:g=.Name x np:=q3;rw[beq_iff_eq]at w1;subst w1;have w2:ks=[]:=Qp.mp w2;obtain⟨a,q4,w3⟩:=aN w3;have q4:as=[a]:=q4;obtain⟨w3,w4⟩:=ae w3;rw[q3,w2,q4]at w0;subst w0 z4 q1;exact Am h z1 z2 z3 w3 w4
 | .par _ _ _ _,X,C,M,EX,h,st,z=>gh fun _=>rfl
 | .app _ _,X,C,M,EX,h,st,z=>gh fun _=>rfl
 | .put _ _ _,X,C,M,EX,h,st,z=>gh fun _=>rfl
 | .pop _ _,X,C,M,EX,h,st,z=>gh fun _=>rfl
 | .aug _ _ _,X,C,M,EX,h,st,z=>gh fun _=>rfl
 | .ifp _ _ _ _,X,C,M,EX,h,st,z=>gh fun _=>rfl
 | .whil _ _,X,C,M,EX,h,st,z=>gh fun _=>rfl
 | .mexc _ _ _ _,X,C,M,EX,h,st,z=>gh fun _=>rfl
 | .tryc _ _ _ _,X,C,M,EX,h,st,z=>gh fun _=>rfl
theorem eW:∀ (s:RL.Ss) {X:Cx} {C:CC} {M:List Nat} {EX:L2.St->XK} (h:ROk C X cl EX) (st:List Stmt),cM C M s st=true->RZs X EX cl M st s
 | .nil,X,C,M,EX,h,st,z=>DW
 | .cons s r,X,C,M,EX,h,st,z=>by
  cases st with
  | nil=>cases z
  |cons x xs=>
   cbv;exact Aw (PS.nox (vF s h.y x z1)) (Aj s h x z1) (eW r h xs z2)
end
end
structure eF where
 name:Str
 st:Stmt
 ps:List Str
 N:List Str
 h:Bool
structure PT' where
 B:List Str
 G:List (Str × Int)
 Ds:List eF
 T:List RL.Fn
 Xr:List Str
 Xs:List Str
abbrev PT'.F(p:PT'):List (Str × List Nat):=(p.Ds.zip p.T).map fun q=>(q.1.name,q.2.mp)
abbrev PT'.hf(p:PT'):List Nat:=(List.range p.Ds.length).filter fun f=>(p.Ds[f]?).any (·.h)
abbrev PT'.cc(p:PT')(d:eF):CC:=#[d.N,aP d.st,p.B,p.G,p.F,true,p.hf,p.Xr,p.Xs]
abbrev sX(N ps:List Str)(sc:Scope):Bool :=
 sc.kind == .function && !sc.isCoroutine && !sc.isGenerator&&decide N.Nodup&&N.take ps.length == ps&&ps.all (fun x=>sc.names.lookup x == some .local || sc.names.lookup x == some .cell)&&sc.names.all (fun y=>!(y.2 == .free))
abbrev fnB(p:PT')(d:eF)(fn:RL.Fn):Bool :=
 sX d.N d.ps (aP d.st)&&fn.ps == d.ps.length&&fn.nn == d.N.length&&decide (d.ps.length<=d.N.length)&&(List.range fn.ps).all (fun i=>!fn.M.contains i || fn.mp.contains i)&&fn.mp.all (fun i=>decide (i<fn.ps)&&decide (2<=fn.M.count i))&&cM (p.cc d) fn.M fn.body (cB d.st)&&(!d.h || cM { p.cc d with calm:=false } fn.M fn.body (cB d.st))
abbrev PT'.ok(p:PT'):Bool:=decide (p.T.length<=1000)&&p.Ds.length == p.T.length&&(p.Ds.zip p.T).all fun q=>fnB p q.1 q.2
def B1{N ps:List Str}{sc:Scope}(h:sX N ps sc=true):fO N ps sc:=by
 unfold sX at h;obtain⟨h,h7⟩:=ae h;obtain⟨h,h6⟩:=ae h;obtain⟨h,h5⟩:=ae h;obtain⟨h,h4⟩:=ae h;obtain⟨h,h3⟩:=ae h;obtain⟨h1,h2⟩:=ae h;refine#[by simpa using h1,by simpa using h2,by simpa using h3,by simpa using h4,by simpa using h5,fun x hx=>?_,fun y hy=>?_]
 ·rw[Qu]at h6;have:=h6 x hx;rw[Bool.or_eq_true,beq_iff_eq,beq_iff_eq]at this;exact this
 ·rw[Qu]at h7;have:=h7 y hy;intro z;rw[z]at this;simp at this
structure wy(p:PT')(K:W.Frag)(mg:Str->Option Value):Prop where
 defs:∀ (f:Nat) (d:eF),p.Ds[f]?=some d->∃ fa fd,mg d.name=some (.ref fa)/\Fun K d.name d.name d.st fa fd/\W.keepIn K (.ref fa)=true/\Binds K fd d.ps []
 blt:∀ x∈p.B,mg x=none
 glb:∀ x i,p.G.lookup x=some i->∃ u,mg x=some u/\RelV (.int i) u
 cls:∀ c,p.Xr.contains c=true->∃ D,mg c=some (.ref D)/\Cls K c D
 ref:∀ c,p.Xs.contains c=true->∃ D,mg c=some (.ref D)/\W.nsIn K mainGlobals c=some (some (.ref D))
section
variable{p:PT'}{K:W.Frag}{mg:Str->Option Value}{base:Heap}{P:Program}{w:World}
abbrev oU(K:W.Frag)(cl:RL.Cl)(mp:List Nat)(f:Nat):Sp:=if mp=[]then spF K cl f else spM K cl mp f
def bp{α:Type}(vs:List α)(k:Nat)(i:Nat)(v:α):(vs.map some++List.replicate k none)[i]?=some (some v)↔vs[i]?=some v:=by
 by_cases h:i<vs.length
 ·rw[Qm (by simpa using h)];simp[h]
 ·rw[Qo (by simpa using h)];constructor
  ·intro e;rw[List.getElem?_replicate]at e;split at e<;>cases e
  ·intro e;k_all;lia
def v8{ds:List RL.D}{vs:List V}{H:Hp}{M:List Nat}{k n:Nat}(r:af nP K H ds vs)(hM:∀ i,i<n->M.contains i=false)(hn:ds.length=n):RVm K M (ds.map some++List.replicate k none) (vs.map some++List.replicate k none) H:=by
 have nA:∀ a,¬ aY M (vs.map some++List.replicate k none) a:=fun a ⟨i,hi,e⟩=>by
  rw[bp]at e;k_all;rw[hM i (by rw[<-hn,r.length];exact this)]at hi;cases hi
 refine#[by simp[r.length],fun i d e=>?_,fun i v e=>?_,fun i j a hi hj e1 e2=>(nA a #[i,hi,e1]).elim]
 ·rw[bp]at e;obtain⟨v,h1,h2⟩:=r.get e;have hl:=(List.getElem?_eq_some_iff.mp e).1;refine#[v,(bp _ _ _ _).mpr h1,?_];rw[if_neg (by rw[hM i ⋯];decide)];exact h2.weak fun a ha=>nA a ha
 ·rw[bp]at e;have hl:=(List.getElem?_eq_some_iff.mp e).1;exact#[ds[i]'(by rw[r.length];exact hl),(bp _ _ _ _).mpr (by simp)]
def Dy{ds:List RL.D}{vs:List V}{H:Hp}{M mp:List Nat}{k n:Nat}(a:FP K mp ds vs H)(hM:∀ i,i<n->M.contains i=true->i∈mp)(hp:∀ i∈mp,M.contains i=true)(hn:ds.length=n):RVm K M (ds.map some++List.replicate k none) (vs.map some++List.replicate k none) H:=by
 have r:=a.kD
 have inM:∀ i v,(vs.map some++List.replicate k none)[i]?=some (some v)->M.contains i=true->i∈mp/\vs[i]?=some v:=fun i v e hi=>by
  rw[bp]at e;k_all;exact#[hM i (by rw[<-hn,r.length];exact this) hi,e]
 refine#[by simp[r.length],fun i d e=>?_,fun i v e=>?_,fun i j b hi hj e1 e2=>?_]
 ·rw[bp]at e;obtain⟨v,h1,h2⟩:=r.get e;have hl:=(List.getElem?_eq_some_iff.mp e).1;refine#[v,(bp _ _ _ _).mpr h1,?_];by_cases hm:M.contains i=true
  ·rw[if_pos hm];obtain⟨d',b,g1,g2,g3⟩:=a.own i (hM i ⋯ hm);rw[e]at g1;cases g1;rw[h1]at g2;cases g2;exact g3
  ·rw[if_neg hm];refine(a.oth i d v (fun z=>hm (hp i z)) e h1).weak fun b ⟨j,hj,ej⟩=>?_;obtain⟨q1,q2⟩:=inM j _ ej hj;exact#[j,q1,q2]
 ·rw[bp]at e;have hl:=(List.getElem?_eq_some_iff.mp e).1;exact#[ds[i]'(by rw[r.length];exact hl),(bp _ _ _ _).mpr (by simp)]
 ·obtain⟨q1,q2⟩:=inM i _ e1 hi;obtain⟨q3,q4⟩:=inM j _ e2 hj;exact a.sep i q1 j q3 b q2 q4
def uo{Y:RL.St}:∀ {mp:List Nat} {outs:List RL.D},RL.gG Y mp=some outs->outs.length=mp.length/\∀ (k i:Nat) o,mp[k]?=some i->outs[k]?=some o->Y[i]?=some (some o)
 | [],outs,h=>by
  rw[RL.gG]at h;cases h;exact#[rfl,fun k i o e=>by simp at e]
 | m::mp,outs,h=>by
  rw[RL.gG]at h;obtain⟨d,h1,h⟩:=bind_some h;obtain⟨os,h2,h3⟩:=map_some h;subst h3;obtain⟨g1,g2⟩:=uo h2;refine#[by simp[g1],fun k i o e1 e2=>?_]
  cases k with
  |zero=>
   simp at e1 e2;subst e1 e2;exact slot_get h1
  | succ k=>exact g2 k i o (by simpa using e1) (by simpa using e2)
def yQ{fn:RL.Fn}{d r:RL.D}{Y:RL.St}(h:RL.bf fn d Y=some r)(hm:fn.mp=[]):r=d:=by
 unfold RL.bf at h;rw[hm]at h;simpa using h.symm
def ED{fn:RL.Fn}{d r:RL.D}{Y:RL.St}(h:RL.bf fn d Y=some r)(hm:fn.mp≠[]):d.imm=true/\∃ outs,RL.gG Y fn.mp=some outs/\r=.tup (d::outs):=by
 unfold RL.bf at h;rw[if_neg (by simpa using hm)]at h;split at h
 ·rename_i im;obtain⟨os,h1,h2⟩:=map_some h;exact#[im,os,h1,h2.symm]
 ·cases h
structure FnB(p:PT')(d:eF)(fn:RL.Fn):Prop where
 sc:fO d.N d.ps (aP d.st)
 ps:fn.ps=d.ps.length
 nn:fn.nn=d.N.length
 hM:∀ i,i<fn.ps->fn.M.contains i=true->i∈fn.mp
 mp:∀ i∈fn.mp,i<fn.ps/\2<=fn.M.count i
 body:cM (p.cc d) fn.M fn.body (cB d.st)=true
 hb:d.h=true->cM { p.cc d with calm:=false } fn.M fn.body (cB d.st)=true
def GL{d:eF}{fn:RL.Fn}(hB:fnB p d fn=true):FnB p d fn:=by
 unfold fnB at hB;obtain⟨hB,b8⟩:=ae hB;obtain⟨hB,b7⟩:=ae hB;obtain⟨hB,b6⟩:=ae hB;obtain⟨hB,b5⟩:=ae hB;obtain⟨hB,b4⟩:=ae hB;obtain⟨hB,b3⟩:=ae hB;obtain⟨b1,b2⟩:=ae hB;rw[beq_iff_eq]at b2 b3;rw[Qu]at b5 b6;refine#[B1 b1,b2,b3,fun i hi hm=>?_,fun i hi=>by simpa using b6 i hi,b7,fun hh=>by simpa[hh]using b8];have:=b5 i (List.mem_range.mpr hi);rw[hm]at this;simpa using this
def yd{f:Nat}(h:p.hf.contains f=true):∃ d,p.Ds[f]?=some d/\d.h=true:=by
 unfold PT'.hf at h;rw[List.contains_iff_mem,List.mem_filter]at h;exact ak h.2
def zo{cl:RL.Cl}{f:Nat}{d:eF}{fn:RL.Fn}{vs:List V}{H:Hp}{Q:VK}{ds:List RL.D}{r:RL.D}{o:RL.Out}{QQ:RL.St}(B:FnB p d fn)(hmp:fn.mp=[])(r1:af nP K H ds vs)(hlen:ds.length=fn.ps)(e2:(match o with | .nx=>RL.bf fn .non QQ | .rt d=>RL.bf fn d QQ)=some r)(e1:RL.ag cl fn.M fn.body (ds.map some++List.replicate (fn.nn-fn.ps) none)=some (o,QQ))
 (k:∀ v H',aw H H'->Rep (fun p=>H p≠none) K H' r v->Q v H'):tS K fn.M (RL.ag cl fn.M fn.body) { nx:=fun _ H'=>Q .non H',rt:=Q } (start d.N vs) H:=by
 have hst:start d.N vs=vs.map some++List.replicate (d.N.length-vs.length) none:=rfl
 have hvl:vs.length=fn.ps:=by rw[<-r1.length];exact hlen
 refine#[_,o,QQ,?_,e1,?_]
 ·rw[hst,hvl,<-B.nn]
  exact v8 r1 (fun i hi=>by
   cases hc:fn.M.contains i with
   | false=>rfl
   |true=>
    have:=B.hM i hi hc;rw[hmp]at this
    cases this) hlen
 ·have noA:∀ a,¬ aY fn.M (start d.N vs) a:=fun a ⟨i,hi,ei⟩=>by
   rw[hst,bp]at ei;have h3:=(List.getElem?_eq_some_iff.mp ei).1;have:=B.hM i ⋯ hi;rw[hmp]at this;cases this
  cases o with
  |nx=>
   have hr':=yQ (d:=.non) e2 hmp;subst hr';intro QR H1 rv1 fr1;refine k .non H1 (fun b u eb=>(fr1.1 b u eb (noA b)).1) (by rw[Rep])
  |rt d0=>
   have hr':=yQ (d:=d0) e2 hmp;subst hr';intro QR H1 v H' rv1 fr1 sm rp;refine k v H' (fun b u eb=>sm _ _ (fr1.1 b u eb (noA b)).1) (rp _ fun q hq=>?_);obtain⟨u,hu⟩:=Option.ne_none_iff_exists'.mp hq;have:=fr1.1 q u hu (noA q);exact#[(by rw[this.1];exact fun z=>nomatch z),this.2]
def Hm{cl:RL.Cl}{d:eF}{fn:RL.Fn}{vs:List V}{H:Hp}{E:XK}{ds:List RL.D}{x:Str}{QQ:RL.St}{D:Ends}(B:FnB p d fn)(hmp:fn.mp=[])(r1:af nP K H ds vs)(hlen:ds.length=fn.ps)(e1:RL.bP cl fn.M fn.body (ds.map some++List.replicate (fn.nn-fn.ps) none)=some (x,QQ))
 (k:∀ C H',Cls K x C->aw H H'->E (.ref C) none H'):tXS K fn.M (fun _=>E) (RL.bP cl fn.M fn.body) D (start d.N vs) H:=by
 have hst:start d.N vs=vs.map some++List.replicate (d.N.length-vs.length) none:=rfl
 have hvl:vs.length=fn.ps:=by rw[<-r1.length];exact hlen
 refine#[_,x,QQ,?_,e1,fun QR H1 C hc rv1 fr1=>k C H1 hc fun b u eb=>(fr1.1 b u eb fun#[i,hi,ei]=>?_).1]
 ·rw[hst,hvl,<-B.nn]
  exact v8 r1 (fun i hi=>by
   cases hc:fn.M.contains i with
   | false=>rfl
   |true=>
    have:=B.hM i hi hc;rw[hmp]at this
    cases this) hlen
 ·rw[hst,bp]at ei;have h3:=(List.getElem?_eq_some_iff.mp ei).1;have:=B.hM i ⋯ hi;rw[hmp]at this;cases this
structure Jx(P:Program)(w:World)(K:W.Frag)(mg:Str->Option Value)(base:Heap)(p:PT')(n f:Nat)(d:eF)(fn:RL.Fn)(fa:Addr)(fd:FuncData):Prop where
 nor:eJ P w K mg base CX0 n fa fd d.ps (oU K (RL.aq p.T n) fn.mp f)
 ref:fn.mp=[]->eJ P w K mg base (CXE P w) n fa fd d.ps (spX K (RL.aq p.T n) f)
 sui:d.h=true->fn.mp=[]->oj P w K mg base n fa fd d.ps (spF K (RL.aq p.T n) f)
def jw(hok:p.ok=true)(tp:wy p K mg):∀ (n f:Nat) (d:eF) (fn:RL.Fn),p.Ds[f]?=some d->p.T[f]?=some fn->∀ fa fd,Fun K d.name d.name d.st fa fd->Jx P w K mg base p n f d fn fa fd
 | 0,f,d,fn,hd,hf,fa,fd,F=>by
  have no:∀ vs H Q E,¬ oU K (RL.aq p.T 0) fn.mp f vs H Q E:=fun vs H Q E h=>by
   unfold oU at h;split at h
   ·obtain⟨ds,r,_,e,_⟩:=h;cases e
   ·obtain⟨ds,r,o,e,_⟩:=h;cases e
  have noF:∀ vs H Q E,¬ spF K (RL.aq p.T 0) f vs H Q E:=fun vs H Q E h=>by
   obtain⟨ds,r,_,e,_⟩:=h;cases e
  have noX:∀ vs H Q E,¬ spX K (RL.aq p.T 0) f vs H Q E:=fun vs H Q E h=>by
   obtain⟨ds,r,_,e,_⟩:=h;cases e
  exact#[#[fun vs H Q E h=>(no vs H Q E h).elim,fun A outer s H args us vs Q E _ _ _ _ h=>(no vs H Q E h).elim],fun _=>#[fun vs H Q E h=>(noX vs H Q E h).elim,fun A outer s H args us vs Q E _ _ _ _ h=>(noX vs H Q E h).elim],fun _ _=>#[fun vs H Q h=>(noF vs H Q E0 h).elim,fun A outer s H us vs Q _ _ _ _ _ h=>(noF vs H Q E0 h).elim]]
 | n+1,f,d,fn,hd,hf,fa,fd,F=>by
  have hok':=hok;unfold PT'.ok at hok';obtain⟨hok',hall⟩:=ae hok';obtain⟨hT,hl⟩:=ae hok';rw[beq_iff_eq]at hl;rw[decide_eq_true_eq]at hT;rw[Qu]at hall
  have hz:(p.Ds.zip p.T)[f]?=some (d,fn):=by
   rw[List.getElem?_zip_eq_some];exact#[hd,hf]
  have B:=GL (hall (d,fn) (Qz hz))
  have unf:∀ ds r,RL.aq p.T (n+1) f ds=some r->ds.length=fn.ps/\∃ o QQ,RL.ag (RL.aq p.T n) fn.M fn.body (ds.map some++List.replicate (fn.nn-fn.ps) none)=some (o,QQ)/\(match o with | .nx=>RL.bf fn .non QQ | .rt d=>RL.bf fn d QQ)=some r:=by
   intro ds r h;rw[RL.aq,hf]at h;dsimp only at h;split at h
   ·rename_i hlen;obtain⟨⟨o,QQ⟩,h1,h2⟩:=bind_some h;exact#[hlen,o,QQ,h1,h2]
   ·cases h
  have unx:∀ ds x,RL.clX (RL.aq p.T (n+1)) f ds=some x->ds.length=fn.ps/\fn.mp=[]/\∃ QQ,RL.bP (RL.aq p.T n) fn.M fn.body (ds.map some++List.replicate (fn.nn-fn.ps) none)=some (x,QQ):=by
   intro ds x h;unfold RL.clX at h;obtain⟨r,h1,h2⟩:=bind_some h;have hT2:p.T[f+1000]?=none:=List.getElem?_eq_none_iff.mpr ⋯;rw[RL.aq,hT2]at h1;dsimp only at h1;rw[Nat.add_sub_cancel,hf]at h1;dsimp only[Option.bind_some]at h1;split at h1
   ·rename_i hlen;obtain⟨⟨y,QQ⟩,h3,h4⟩:=map_some h1;subst h4;cases h2;exact#[hlen.1,hlen.2,QQ,h3]
   ·cases h1
  have look:∀ {g:Nat} {x:Str} {mp:List Nat},p.F[g]?=some (x,mp)->∃ d' fn',p.Ds[g]?=some d'/\p.T[g]?=some fn'/\d'.name=x/\fn'.mp=mp:=fun {g x mp} hg=>by
   unfold PT'.F at hg;rw[List.getElem?_map]at hg;obtain⟨⟨d',fn'⟩,q1,q2⟩:=map_some hg;cases q2;rw[List.getElem?_zip_eq_some]at q1;exact#[d',fn',q1.1,q1.2,rfl,rfl]
  have QO:∀ (CX:CXT) (E:XK) (cdv:Value) (A:Around) (outer:List Env) (s:Shared) (H:Hp),cJ n (A.deeper (envOfC d.name (aP d.st) s.heap.objs.size fa cdv))->YOk (p.cc d) (iJ CX P w K mg base d.N d.name (aP d.st) fa cdv A outer s H E).nox (RL.aq p.T n):=fun CX E cdv A outer s H hr=>{
   scope:=rfl
   names:=rfl
   nd:=B.sc.nd
   calm:=fun _=>rfl
   xe:=rfl
   hu:=by
    have:=hr.un;show(A.deeper _).units+100<cLine;lia
   blt:=tp.blt
   glb:=tp.glb
   fns:=fun g x mp _ hg=>by
    obtain⟨d',fn',q1,q2,rfl,rfl⟩:=look hg;obtain⟨fa',fd',t1,t2,t3,t4⟩:=tp.defs g d' q1;exact#[n,fa',fd',d'.ps,(jw hok tp n g d' fn' q1 q2 fa' fd' t2).nor,hr,t1,t3,t4]
   hfn:=fun g x hh hg=>by
    obtain⟨d',fn',q1,q2,rfl,q3⟩:=look hg;obtain⟨d2,q4,q5⟩:=yd hh;rw[q1]at q4;cases q4;obtain⟨fa',fd',t1,t2,t3,t4⟩:=tp.defs g d' q1;exact#[n,fa',fd',d'.ps,(jw hok tp n g d' fn' q1 q2 fa' fd' t2).sui q5 q3,hr.h,t1,t3,t4]
   cls:=tp.cls
   ref:=tp.ref
   fn:=fun _=>rfl
   st:=#[rfl,rfl,rfl]
   fnx:=fun g x _ hg=>by
    obtain⟨d',fn',q1,q2,rfl,q3⟩:=look hg;obtain⟨fa',fd',t1,t2,t3,t4⟩:=tp.defs g d' q1
    exact#[n,fa',fd',d'.ps,(jw hok tp n g d' fn' q1 q2 fa' fd' t2).ref q3,hr,t1,t3,t4] }
  refine#[?_,fun hmp=>?_,fun hh hmp=>?_]
  ·refine Fun.ok F B.sc (fun vs H Q E h=>?_) fun cdv A outer s H vs Q E hr h=>?_
   ·unfold oU at h;split at h
    ·obtain⟨ds,r,r1,e,_⟩:=h;rw[<-r1.length,(unf ds r e).1,B.ps]
    ·obtain⟨ds,r,o,e,a,_⟩:=h;rw[<-a.kD.length,(unf ds _ e).1,B.ps]
   ·refine#[_,cz fn.body (QO CX0 E cdv A outer s H hr) (M:=fn.M) _ B.body,?_];have hst:start d.N vs=vs.map some++List.replicate (d.N.length-vs.length) none:=rfl;unfold oU at h;split at h
    ·rename_i hmp;obtain⟨ds,r,r1,e,k⟩:=h;obtain⟨hlen,o,QQ,e1,e2⟩:=unf ds r e;exact zo (f:=f) B hmp r1 hlen e2 e1 k
    ·rename_i hmp;obtain⟨ds,r,outs,e,a,k⟩:=h;obtain⟨hlen,o,QQ,e1,e2⟩:=unf ds _ e
     have hvl:vs.length=fn.ps:=by rw[<-a.kD.length];exact hlen
     refine#[_,o,QQ,?_,e1,?_]
     ·rw[hst,hvl,<-B.nn];exact Dy a B.hM (fun i hi=>j2 (B.mp i hi).2) hlen
     ·-- the lists behind it
      have fin:∀ (d0:RL.D) (QR:L2.St) (H1 H':Hp) (v:V),RL.bf fn d0 QQ=some (.tup (r::outs))->RVm K fn.M QQ QR H1->Fr' fn.M (start d.N vs) H QR H1->aw H1 H'->(d0.imm=true->Rep nP K H' d0 v)->Q v H':=by
       intro d0 QR H1 H' v ht rv1 fr1 sm rp;obtain⟨im,os,g1,g2⟩:=ED ht hmp;cases g2;obtain⟨l1,l2⟩:=uo g1;refine k v H' (fun b u nb eb=>sm _ _ (fr1.1 b u eb fun⟨i,hi,ei⟩=>?_).1) (rp im) im ⟨l1,fun kk pp oo hk ho=>?_⟩
       ·rw[hst,bp]at ei;have h3:=(List.getElem?_eq_some_iff.mp ei).1;exact nb ⟨i,B.hM i ⋯ hi,ei⟩
       ·have hpm:=Qz hk;obtain⟨dp,ap,g3,g4,g5⟩:=a.own pp hpm;have g6:=fr1.2 pp (B.mp pp hpm).2
        have g7:(start d.N vs)[pp]?=some (some (.ref ap)):=by rw[hst,bp];exact g4
        rw[g7]at g6;obtain⟨v',g8,g9⟩:=rv1.val pp oo (l2 kk pp oo hk ho);rw[g6]at g8;cases g8;rw[if_pos (j2 (B.mp pp hpm).2)]at g9;exact#[ap,g4,g9.same sm]
      cases o with
      |nx=>
       intro QR H1 rv1 fr1
       exact fin .non QR H1 H1 .non e2 rv1 fr1 (aw.refl _) fun _=>by rw[Rep]
      |rt d0=>
       intro QR H1 v H' rv1 fr1 sm rp;exact fin d0 QR H1 H' v e2 rv1 fr1 sm fun im=>rp nP fun _ z=>z.elim
  ·refine Fun.okX F B.sc (fun vs H Q E h=>?_) fun cdv A outer s H vs Q E hr h=>?_
   ·obtain⟨ds,x,r1,e,_⟩:=h;rw[<-r1.length,(unx ds x e).1,B.ps]
   ·have R:ROk (p.cc d) (iJ (CXE P w) P w K mg base d.N d.name (aP d.st) fa cdv A outer s H E) (RL.aq p.T n) (fun _=>E):={
     y:=QO (CXE P w) E cdv A outer s H hr
     cal:=rfl
     pass:=fun pins Y H1 s1 e s' I z=>by
      obtain⟨x,C,H',rfl,hE,I',ex,_⟩:=I.refused rfl z;exact sH I' rfl rfl rfl ex hE I'.ok.frames
     made:=fun pins Y H1 s1 h' e C vs I m z=>by
      obtain⟨I',ex⟩:=I.newExc rfl m;exact sH I' rfl rfl rfl ex z I'.ok.frames
     own:=PassesOwn.leaving }
    obtain⟨ds,x,r1,e,k⟩:=h;obtain⟨hlen,_,QQ,e1⟩:=unx ds x e;exact#[_,eW fn.body R (M:=fn.M) _ B.body,Hm B hmp r1 hlen e1 k]
  ·refine Fun.okH F B.sc (fun vs H Q h=>?_) fun cdv A outer s H vs Q hr h=>?_
   ·obtain⟨ds,r,r1,e,_⟩:=h;rw[<-r1.length,(unf ds r e).1,B.ps]
   ·have Z:YOk { p.cc d with calm:=false } (cxH P w K mg base d.N d.name (aP d.st) fa cdv A outer s H) (RL.aq p.T n):={
     scope:=rfl
     names:=rfl
     nd:=B.sc.nd
     calm:=fun z=>(nomatch z)
     xe:=rfl
     hu:=by
      have:=hr.un;show(A.deeper _).units+100<cLine;lia
     blt:=tp.blt
     glb:=tp.glb
     fns:=fun _ _ _ z=>(nomatch z)
     hfn:=fun g x hh hg=>by
      obtain⟨d',fn',q1,q2,rfl,q3⟩:=look hg;obtain⟨d2,q4,q5⟩:=yd hh;rw[q1]at q4;cases q4;obtain⟨fa',fd',t1,t2,t3,t4⟩:=tp.defs g d' q1;exact#[n,fa',fd',d'.ps,(jw hok tp n g d' fn' q1 q2 fa' fd' t2).sui q5 q3,hr,t1,t3,t4]
     cls:=tp.cls
     ref:=tp.ref
     fn:=fun _=>rfl
     st:=#[rfl,rfl,rfl]
     fnx:=fun _ _ z=>(nomatch z) }
    obtain⟨ds,r,r1,e,k⟩:=h;obtain⟨hlen,o,QQ,e1,e2⟩:=unf ds r e;exact#[_,cz fn.body Z (M:=fn.M) _ (B.hb hh),zo (f:=f) B hmp r1 hlen e2 e1 k]
def Gz(hok:p.ok=true)(tp:wy p K mg):∀ (n f:Nat) (d:eF) (fn:RL.Fn),p.Ds[f]?=some d->p.T[f]?=some fn->∀ fa fd,Fun K d.name d.name d.st fa fd->eJ P w K mg base CX0 n fa fd d.ps (oU K (RL.aq p.T n) fn.mp f):=fun n f d fn a b fa fd F=>(jw hok tp n f d fn a b fa fd F).nor
end
abbrev spL(n:Nat)(p:PT')(f:Nat)(K:W.Frag):Sp:=spF K (RL.aq p.T n) f
def Fo{n:Nat}{p:PT'}{f:Nat}{K:W.Frag}{H:Hp}{a:Addr}{ns:List Int}(hO:sD H)(hS:SqL K H a (ns.map V.int))(h:RL.aq p.T n f [.scr (ns.map RL.D.int)]=some (.bl true)):spL n p f K [.ref a] H (fun v _=>v=.bl true) fun _ _ _=>False:=by
 refine#[_,_,?_,h,fun v H' _ r=>bb r];refine af.cons ?_ af.nil;rw[Rep];refine#[a,ns.map V.int,rfl,?_,?_]
 ·rcases hS with(z | ⟨o,z⟩) | z
  ·rcases hO a with q | ⟨o,xs,q⟩
   ·rw[q]at z;cases z
   ·rw[q]at z;cases z
  ·exact .inl #[o,z]
  ·exact .inr (.inr z)
 ·clear hS h
  induction ns with
  | nil=>exact af.nil
  | cons i r ih=>exact af.cons bh ih
end RS
namespace K09
open PySem PySem.Spec PyProof.Rows L2
abbrev top(i:Nat):Stmt:=PySem.Challenge.pw_ribbonloft_k09_rows_of_frames_hung.main.body.getD i (.Pass ⟨0,0,0,0⟩)
abbrev mkD(x:Str)(i n:Nat)(N:List Str)(b:Bool:=false):RS.eF:=#[x,top i,N.take n,N,b]
abbrev Ds:List RS.eF:=[
 mkD "is_number" 19 1 ["value"],
 mkD "is_peg_count" 20 1 ["value"],
 mkD "check_pegs" 21 1 ["pegs"],
 mkD "is_pairing" 23 1 ["row", "place"],
 mkD "names_back" 24 2 ["row", "place", "other"],
 mkD "is_uncrossed" 25 1 ["row", "waiting", "place", "other"],
 mkD "run" 26 3 ["one", "other", "start", "places", "onward", "side"],
 mkD "rings_of" 27 2 ["one", "other", "seen", "start", "many"],
 mkD "mark" 28 2 ["seen", "places", "place"],
 mkD "is_frame" 30 1 ["frame", "pegs", "alone", "peg", "other"],
 mkD "check_frame" 31 1 ["frame"],
 mkD "pegs_of" 32 1 ["frame"],
 mkD "plain" 33 1 ["pegs"],
 mkD "round_place" 34 2 ["pegs", "peg"],
 mkD "in_round" 35 1 ["frame", "pegs", "peg"],
 mkD "moved" 36 2 ["frame", "to", "ends", "peg", "other"],
 mkD "stacked" 38 2 ["pegs", "frames", "frame", "whole", "rings", "fallen"],
 mkD "put_under" 39 2 ["upper", "lower", "pegs", "ribbons", "joints", "outer", "ends", "frame", "peg", "end"],
 mkD "joints_between" 40 1 ["pegs", "top", "above", "beneath", "bottom"],
 mkD "_law_kin" 42 1 ["_law_e", "_law_found", "_law_words", "_law_word", "_law_kin_here"] true,
 mkD "_law_mix" 43 1 ["_law_seed", "_law_one", "_law_two"],
 mkD "_law_raw" 44 2 ["_law_script", "_law_k", "_law_cell", "_law_found", "_law_turn"],
 mkD "_law_digits" 45 3 ["_law_script", "_law_k", "_law_sizes", "_law_rest", "_law_found", "_law_size"],
 mkD "_law_plain" 46 1 ["_law_pegs", "_law_peg"],
 mkD "_law_hook" 47 2 ["_law_pegs", "_law_number", "_law_found", "_law_start"],
 mkD "_law_circle" 48 1 ["_law_pegs"],
 mkD "_law_from_text" 49 1 ["_law_text_here", "_law_pegs", "_law_circle_here", "_law_found", "_law_line", "_law_place", "_law_sign", "_law_peg", "_law_other"],
 mkD "_law_text" 50 2 ["_law_raw_here", "_law_pegs", "_law_text_here", "_law_deep", "_law_left", "_law_up", "_law_step"],
 mkD "_law_rings_by" 51 3 ["_law_high", "_law_low", "_law_inner", "_law_pegs", "_law_head", "_law_peg", "_law_other", "_law_one", "_law_keep", "_law_go"],
 mkD "_law_hung" 52 2 ["_law_high", "_law_low", "_law_pegs", "_law_near", "_law_peg", "_law_found", "_law_gone", "_law_here", "_law_turn"],
 mkD "_law_over" 53 1 ["_law_frame_here", "_law_pegs", "_law_peg"],
 mkD "_law_frame" 54 3 ["_law_script", "_law_k", "_law_pegs", "_law_found", "_law_way", "_law_raw_here", "_law_number"],
 mkD "_law_frames" 55 4 ["_law_script", "_law_k", "_law_pegs", "_law_count", "_law_at"],
 mkD "_law_same" 56 2 ["_law_told", "_law_due", "_law_one", "_law_other"],
 mkD "_law_stacked" 57 2 ["_law_pegs", "_law_frames_here", "_law_frame_here", "_law_found", "_law_rings", "_law_more"],
 mkD "_law_tried" 58 2 ["_law_pegs", "_law_frames_here", "_law_word", "_law_e"],
 mkD "law" 59 1 ["_law_script", "_law_pegs", "_law_frames_here", "_law_handed", "_law_at", "_law_other", "_law_few", "_law_most"]]
abbrev p:RS.PT':=#[["ValueError", "all", "bool", "enumerate", "int", "isinstance", "len", "list", "max", "range", "set", "str", "tuple", "zip"],[("MOST_PEGS",10)],Ds,T,["BadFrame", "BadPegs", "RibbonError"],["BadFrame", "BadHalf", "BadHook", "BadName", "BadPage", "BadPegs", "BadTrade", "Full", "Hangs", "NoFrame", "NoNumber", "NoPlace", "NoStack", "NothingThere", "Taken"]]
def JU:p.ok=true:=by decide +kernel
def all1{P:List Value->Prop}(h:∀ a0,P [a0]):∀ us:List Value,us.length=1->P us
 | [a0],_=>h a0
def all2{P:List Value->Prop}(h:∀ a0 a1,P [a0,a1]):∀ us:List Value,us.length=2->P us
 | [a0,a1],_=>h a0 a1
def oX{P:List Value->Prop}(h:∀ a0 a1 a2,P [a0,a1,a2]):∀ us:List Value,us.length=3->P us
 | [a0,a1,a2],_=>h a0 a1 a2
def Kn{P:List Value->Prop}(h:∀ a0 a1 a2 a3,P [a0,a1,a2,a3]):∀ us:List Value,us.length=4->P us
 | [a0,a1,a2,a3],_=>h a0 a1 a2 a3
section
variable{K:W.Frag}{h:Heap}{mg:Str->Option Value}{x:Str}{st:Stmt}{f:Addr}{oc kV dc pm cd ct:Value}{od an:Option Addr}{sl:Array (Option Value)}{ps:List Str}
abbrev At(K:W.Frag)(mg:Str->Option Value)(x:Str)(st:Stmt)(ps:List Str):Prop:=∃ f fd,mg x=some (.ref f)/\Fun K x x st f fd/\W.keepIn K (.ref f)=true/\Binds K fd ps []
def FD(X:K.In h)(G:h.Ns mainGlobals mg)(a:W.nsIn K mainGlobals x=some (some (.ref f)))(l:K.lookup f=some ⟨oc,od,.func (W.fnOf x x (hJ st) (cB st) (aP st) .none kV dc pm an cd ct),sl⟩)(c:W.codeIn K cd x=true)(k:W.keepIn K (.ref f)=true)
 (b:∀ (kV doc pm:Value) (an:Option Addr) (cdv ct:Value) (us:List Value),us.length=ps.length->bindArgs (W.fnOf x x (hJ st) (cB st) (aP st) .none kV doc pm an cdv ct) ⟨us,[]⟩=pure (ps.zip us)):At K mg x st ps :=
 ⟨f,_,W.mg_of X G a,zl (st:=st) l c k,k,(zl (st:=st) l c k).binds b⟩
abbrev pj(K:W.Frag)(mg:Str->Option Value):List RS.eF->Prop
 | []=>True
 | d::r=>At K mg d.name d.st d.ps/\pj K mg r
def pj.get:∀ {l:List RS.eF} {f:Nat} {d:RS.eF},pj K mg l->l[f]?=some d->At K mg d.name d.st d.ps
 | [],_,_,_,e=>by cases e
 | _::_,0,_,h,e=>by cases e;exact h.1
 | _::_,f+1,_,h,e=>pj.get (f:=f) h.2 e
abbrev AllP(P:Str->Prop):List Str->Prop
 | []=>True
 | x::r=>P x/\AllP P r
def AllP.get{P:Str->Prop}:∀ {l:List Str},AllP P l->x∈l->P x
 | _::_,h,e=>(List.mem_cons.mp e).elim (fun z=>z▸h.1) fun z=>AllP.get h.2 z
abbrev pz(K:W.Frag):List (Str × Int)->Prop
 | []=>True
 | q::r=>(∃ t,W.nsIn K mainGlobals q.1=some (some (.int q.2 t)))/\pz K r
def pz.get{i:Int}:∀ {l:List (Str × Int)},pz K l->l.lookup x=some i->∃ t,W.nsIn K mainGlobals x=some (some (.int i t))
 | [],_,e=>by cases e
 | q::_,h,e=>by
  rw[List.lookup_cons]at e
  cases hb:x == q.1 with
  | true=>rw[hb]at e;cases e;rw[eq_of_beq hb];exact h.1
  | false=>rw[hb]at e;exact pz.get h.2 e
structure Tp(K:W.Frag)(mg:Str->Option Value):Prop where
 t1:pj K mg Ds
 t2:AllP (fun x=>W.nsIn K mainGlobals x=some none) p.B
 t3:pz K p.G
 t4:AllP (fun c=>∃ D,W.nsIn K mainGlobals c=some (some (.ref D))/\RS.iM K c D=true) p.Xr
 t5:AllP (fun c=>∃ D,W.nsIn K mainGlobals c=some (some (.ref D))) p.Xs
def Gy(X:K.In h)(G:h.Ns mainGlobals mg)(A:Tp K mg):RS.wy p K mg where
 defs:=fun f d e=>A.t1.get e
 blt:=fun x hx=>W.mg_none_of X G (A.t2.get hx)
 glb:=fun x i hx=>let ⟨t,ht⟩:=A.t3.get hx;⟨_,W.mg_of X G ht,t,rfl⟩
 cls:=fun c hc=>let ⟨D,a,b⟩:=A.t4.get (by simpa using hc);⟨D,W.mg_of X G a,⟨a,b⟩⟩
 ref:=fun c hc=>let ⟨D,a⟩:=A.t5.get (by simpa using hc);⟨D,W.mg_of X G a,a⟩
end
end K09
end
namespace PySem.W.Fast
local macro_rules|`(universe $x*)=>do pure (Lean.mkNullNode (<-x.mapM fun x=>`(theorem $(Lean.mkIdent (.mkSimple s!"tw{x.getId.toString.foldl (fun a c=>52*a+c.toNat-if c.toNat<97 then 65 else 71) 0}")) :True:=trivial)))
universe BoUXAnlynFDU CCQduWLOYXvk BGtvKYVYayDk JZrpTeVIkzE BNbnnrLsdwMw CSWgEslSJHQQ BWKvjnYCtrfE BLpTpMZfbolc BWvWZKJigdNs BMnCKcNEzpMA QWZGvvtYBIQ CfDYQtSnnXE HXGtBpUBMkw ELlHDpmwUQh CUMMHULtsCTF BjPaZgdxyjpd BPfIzEZuDtXF BaOZTegphEwh CFCvfBjMEDwx BCIAVaMLmwaZ SbtEFNWzfIR BIIBuQBGgHjV BzWbxoylnlOZ CVDjHtgzGYmJ BFrrHNHoxUjl CSDMubpxqrAR BtmaoDimQZIx BPZtuIWmlWQi CLCjKKxmPlWa BlVokPLXlHZe CGORzHFEYJlu BqKEAlfaVXvm BdIUQGQAIKbm BeIkgjRPpPCq ZQCHjpuEuYC COLNydqwHOuK CCXSmYjRTlzW BlrRBqWnUSnW sMOWXJZEMHW BGzWjtzmUNKq BgGCcgtrwDnm BYvPpgiHKORO BZaiWZFGPUhu BXRUHAyXBIKa BvdLADjYxwNe BmjYSvHlxuky BzOOOFzIRQbG CNbrzokhqeuK qigSZoVmhiL BObKXQtCEfKr CQRJdbKTwybH Bshoyyscopdv BzIAjHazdiNf jvFEOJuKNvH oIBFILouqVf CHeKOHLekpHn BFrsifkmqckz CTpbXRZyPnsj BmQXduGGABGb CUkKinsjyqFf zghCYBwasGL ZIzgIOxTOJP BwhBJuRaMpEj eueQejWgFoz BJrweocHhPqL HqVDTIEElSL BVodUQtOGbFv UasDrwpnwjo QIagDaMFmqc CAOUbzdwZqGs ckTieOPuVxA BFEZNTJuPmes BosvUDYjSKGM BxkgLtYXSYbI VvYbeYwEDSs BBwucoDjtXgU CVDMLTEzbwFg IdpxbWGIRtw CBIfMKfwgkDo nrMzBAfQzRA CPfcQGFubpVw BmbDwRGEimGs BzabmLJtuCwk CNPJihMOVrQU CNLgiYYxoQJQ CMkTfBsuhxFQ BdtqzURdsgnY CBiIxAjtGFsE WKZvJBvuXis COFayqRlbmgk QrJoDxLnxcE CXBrBHGOjOwE BdTelfcHlTwU krZFTfNVxkF zTLIyCtDphB COuPatdrhkUV dKVamrscrmd FtavGpXOlJh BAhirtVwbgvZ enywINGonat BGoONNfHoHgV BFLLZlekuskV BbkFBoHXYTTZ BxeFjMfCPtxB BfOIPCUVxsQF FirzJfWaOAF BjCrnEfXIvFR BJzSrnCURsWN NXYWUMvgfpB fBUiYceHgid bvFMwIhnmDJ sAKEDtAoQEV dGXShbFxVXK BLnXewHTfUCe BJYvHvzXmTza BfUpmkOJgnXq BZMZbvaMfiTq FWVYtzyzrKO BKaTUYfUXBiO BPIblHHFQuTK yyYdTDvvaie aBrWJWuMVEG BfLuAqDmFyRz BrypWBTDXtaP COqySXRdetgX pSgGYNIqMZz hdLEbuQkbMn uaouSgPoGpz pGJiDktYEAH zpaVgqyAOTL CNUziAStKCjL sUUvnSxYubL BMpmLxwhLAlj BcFyrZdWPbDb dIMhXIlQetj rJWbxgFLWAn xySfDulpVwX oGiTaMmFvTc TNLxubKDBWA BTHniPjZRNvs BMLHmNajbHMo NdHqfFiTpfs BcZsoOoyRjCQ xFgAkwYFWhU yBmYHJEHArM QBREYBHgTKw hcGAFVDOmpU BBYthsuCqRCw BOXHzmMbSmw BRfJNLpwtmyg BvNlyaWkhlTd CFnkZtBLVlVV BGIPJrTeMLRl CLSNQNwuodOB CVkQscYjSKKh CKLNicgHLoyh CNHZSrFiRmYp fRsvGjJitiR BoYmOROTzXpl CGQRprfpGjCR CBrGSeiNFnRF BviwhnQHlpWB ITiWrjlQNXN CJMzTXpKedGB CXEudacNvZkJ vraELnEcqqh CVffKojDHWPd BtgKKDRbCDKx EhBaHVfBfSx BYzWfVmBMzEp CNmTKmyUVDxF BahMvfbTfKDu DFbrZikeqii RQpnvNiaxoa sBKOfaklqzu eFDCritTnTe JKqZMIdomEa crMTrwgJiOy BzivKtaKVntW BINGVWousGsa BErfpZdYBsSi BthojToUQTtW CRonTHEGHdvO BNUvYHVkOAtG BnnsHkesELvO SCZfHARfSru CMDyexKusmVm CQTvsSZzWYii jKAodvCDVRm CURQxMGdLITO BTGxeDuMwaWy BeXYLucPBYuy YXYaCnLKMFG IGbCffSUfYa CNzHjFwmtieS ByIqPZZPNRqy wFRfNnhyQii BcWCjNFzQXwa BgTLqSTitPiy CAqsfkHIGHhH dopcchEFHUr BTQoipaQJmTP hixvjRtvtHP JhVZYMOxqwL BJRiEIXFFJzf GssJbuHomzv BSYMnRMmWsgr waGoFJuMCOT hDNnJIkXnpH DacoGaAssvf CMmNAnHAQAxX wnddnNCTyDP CJnpBzphblYb PswdNyagsBX CIinyLXDdHxH BwlyJEHixitH ICERSxMQIOz CJnyTJdkgfYc BushIfgPUtHQ uWnoTkJoHUM MFtayTbEkYM xxmNlocmncs COZKIrulqdxI cBxrnQbHaRY BimZeHwfahJI CEZdECVZenTA ZwGljjcZKbQ GPGpHYmjyDQ RtKFdOIgJRo BaLOfZdrvLtY BApjaEXLfJfQ BbzmlInFeOHA OMPgvnrdSzw zPGxocXmWZZ BHnKAVPDCKtJ CDqcclFsOoBZ BGqwHqYDNzzh BbtXZSfWJRmF CNLfkDTuoQlJ jZUZNlZIziV pDSnvZUIiTR BqTzRWjFBYHh BVWfZZmxsgQt BKelkQDqHUlJ shhjKdgXLDB CHPsBKRCqvPR BERugWKiAPJJ rCbWybyCxZp CRvznjjIoXMt VfpqjPeLRod cEMXelMOaSl xQxGrUcTZDC yZjqQmFNOG SDoGAwLAXku gwDybJnonqW BBDgyWfTGpOG CFkMtBaqUqSm BMlzlRGcknvy BLMBTqcJaXMO BJuFewzLuuHC xwutsVmkFof PLZvpEeAeHj dDradtoIlmn CDSpdzuofFbj BiZypoQPjSov YJQjnfqAgtL BzpsZuYzboxb BujqyIHQBNiX BpwRefDFyqMf CEaeLiBqejYf CEkXMdKLoSQv tgOhbriygVr CNjZDVRMBmov BPQgjKvQdwmX CObXQwPQgrGn lDuOtPCcYFL gFgCudeXPfT BUIjFoiTOqlr BFmdjPJsdCLz JVDezljlVXz CLwiDujgrkxc CVZoFPMJNzZM BeWJsoYbWBAg BnVdZzWoslmI BduEwiMEuQPE BCLoxTuRfzjk CSxZfhbLHfzk GOoAHEBgGuY DRhlxHFVTxs jKWVjObeWHE BuBVXjqpmMlM dInUAvykBKY itttAjwYfzk BMDwlKeKwEox CIBANPTRudSZ BILbWpiiQqip cXGymGKgmch BVZSnZwoSUSJ CDHoAhwgukUB BUbtGuQWYOeZ CNwdoHqRJtgB CCrTzoWTiSgx BJRgURpMlUYR BgIYRQqYZINN BkiwcfYQTLiZ JyAkfDFtgnF VfDMKpuUVQC BBSVTgTluYUi YjkEANBTdGK CUcIqFxFYqci BghLPTTnxIma BSgHEpStdCNO BOEBygsUlmKK BuVnrUxdyKDW BUPfroGrMLTm BlkCsXXfvdeK NklrSfWZYlO BmOZYQccofsy CSYPEalJjwiq CHgCaYymlbHW WaviCScGJpO QvHrLAaAKQy BsOvkMZqbJoi mysxvXkjHJO QggAKgccyWa StgTlnDbKHm BvJewYylbWYz iZhMYPANVyb BMBRFoANdvOL gTIKKXAgvBP RLlRyEHDWIT CPgyKxipsRZv LqlEvgDhuPn BlvjYlnMXKPn nHCOpAmgSvn BGVakURAPYbX BBWnLYxcgsHH CAHMaJJqnVwj BGxLbYNBswlP IZnjMsFjdRv KDqgnEDekdv EQOigjoszur BuompRKOqxPX cFHDxRuvZOr deUWeHztkVP BeKXyzeiPGno BPnqeMqVwYxg BtxmrZVHzNFA OPGbVTAYzDo NEGhSBbtNFg xjmXWSGNFhQ CNoUnnIicUdQ BpIzyluekMk BCFVyfmhMXkU BYFfpnJNGAxA BqmIeMqFFdEU CGHhwBnKWjSc ssoudaZezdA xFIrXbhbSzY CDltfelXtSdw zEFYGUpwyys CRDitMXgjzZQ BekaLzCEJtGM nopsQHQiLZw CQZwxQeurDEV mRKLDUVLWvJ cDgOgoBbuVR wUSjQtqxNWN QbTQKqXvnol BNxrrciRIuFx CPgYQuDlMxqd rboloPGVQZh NcqXIRilpR BjILRYqkkjBx jKcgiozXUph CJBpCHlToSvq TvrftslZzdC CNjbazZYTRcW BmGYUEcFZkWe CckdTxwsQue BHlQdwxErxMW CEntwJhKePTq BpByslMZpuZi BNcbtSYrQaJi xwdqsGnGpTq gkuqGDrOMpi CBkliByVIJJS mGoPsbjGsXr OcgJflhLPlD BJNSlWOmoxQH KtfZBXoIgXr CSdxlCDkVILb BAxqzeGsBJbL grNSLXlVcOf BHopMZNQAsGf BrBSgzWpOtBz BwidFtHJWmsH BZKKWydZJJRz BXamMHYCCONT CJsPoLRjVhuP lqHaNOckczb BeJoJaTCUiuf BhKUhEJGpbvc qNeYcnJxeso BqDLakrErnNE zyzGDOmxwyQ BJRVQECKUYAY CHlLzSdJZqFU KdBmQTdyUMo CPoigbNInICQ bXnIacuBMTc BAmUFgcwdDew yqaTjMEmMWg xlfAnPTDPyA BELtkrCwkNtE WfCautQAKco BvBapRxRpnlE KEJbyRAyvDs BCjgKzEvFYFU nLhIMPLdWBE BRSemXGxhGOh vPzYOiSMxLt smCQBfEkVKh UJYmzsfNKBF NiOezUMBUqR askASotQnWx BXEihikdWqHt BocROiHPEjBV BYiqpoQJkRWR BFnPuvowZCJl BSsmLkvbxCFV GGSWOQZJBAp nnzmQAelrDN BHsZCMTbWKRF COZmHerHWjRV wgASOomLnAJ BVaWXZtxDuJG CWHJwsgcaBGy BZdUcJfSYPdm CEoyMIVhRije BFRGZwyVFEQa CLvkYMHqujBW RltQuNCKloK LBBKpHxvRgK EJUaCOHgoBm CKscLHNZopKC BlYftjJASjxW CJWozyeUifqC BXYvLdjPFhFG BRnKnCQeWOvu BmlNCTPyGfO BHhdxpbntmje BpVhPcDskMBn bvbAEjPEBvf BaHakYtiwiRn wtOoCZsOMWj BHdWlqLRWYPP UPKBvIrrzcb BJwOVGqcBmhn BcElGXzYcyML sVGHMoJTJX BEAWxaiNirpX BEWeQOEawPIr BXsbpSjcTvyD BZLESpfAzBAr leIMEzBfkgb fohLPtQHTbP BmqAyLSfvPiD DQzKdifgHLv BVPKqsuVMGTf oNYYAkhAvez BrOoSDZnOUDA BWtYjibMUhSk dycaVsAvECU CMbKNOeAitVo CTecRsoslSJo jEhDdhnJknQ BaUrGTpzUIKU ZwoTuKxwZvg CXKlyDUkyXHA BttOQIMuTHkc CVnyfNsOFefQ ShylpIEdwUs BmcNWbEksXwM BNzWfDgwwXYM BDdjRaYfriE HhOARNKrpQN BzdpARzNJKel CPRjNDJAXGVZ BymUXivmcGZJ BCFeihPbkqJJ FqZekhghSeF BFzOjQGerljR BUgjDSYzjUTh BRlYmLFNNMxp BCiLPAIPsmOF BVvHCotQcZQt BvfTZCKqTFTR grdrXiCWAEt EZvxWIwtCtZ BuwhvJRueDnB BAooTnZCmYsN BcxHQFSZSMId BnWzfyhSrFmW JidFRdjdVnC CQgsGmKODSZq BEBPIsCQDHlK RXgyIqBddwO BqhKngAdhzVq BpzvzmmCFKRK CACOnjvKldOW BQKPPpelSdSG CWIUPSuZxQfS BMiXpwvEVWjC BgkqqkxpHreW BKxvUpZUMMBq CWKtFZNfaJSG BULHRnQZoQzC CEpylZuznSuG BrrBCUxxJszC ejXEIqBVIRq BRyIHZNxKsGG BekHULHudpVK VEPAzfUfeUO nCwaHdSPNce BranYegJSlHi BTOsvnwFYuiW PDsaOJjeiDj BMMEXrvDKqGH zQFGKHlYfdr BBvBhiyrJCtb gbseBTgmPhb BxSMZGBiGrtL CDWoswKpLbEf cdtLDAlNUCX BPurHkuaqwkv BnnkIhLXYlGX UkNyIZlNPJb NxzRWUJaCjD hHGZlmtzZYv YgkkFCfzSGH BlTINvUJcpZb BddaxhfSLCbD CPnaYMcnMiuH BTsusKftDCYf CLZHzkvJTAP CRbErGOzXyPT BIndDyNMNKbj CTkVXvFsskpr CUPuIsuSWUPT QNfryYKRies
end PySem.W.Fast
open PySem PySem.W PyProof.Rows
set_option maxRecDepth 100000 in
set_option maxHeartbeats 0 in
theorem PySem.Challenge.cw_ribbonloft_k09_rows_of_frames_hung_holds : PySem.Challenge.rw_ribbonloft_k09_rows_of_frames_hung.Holds := by
 w_on;o_law;k_head;(case hw=>w_witness2)
 k_fill
 refine L2.AK (l:=PySem.Challenge.rw_ribbonloft_k09_rows_of_frames_hung) (n:=63) (k:=30) (x := "_law_script") (CX:=L2.CX0) (sp:=RS.spL 30 K09.p 36) rfl (by decide) rfl ⟨rfl,by decide,by decide⟩ (fun w h Y=>PySem.W.kIn_of Y) ?F ?S ?C
 case F =>
  intro w mg fa h KX G hmg
  have T:K09.Tp (L2.KOf KX) mg:=by
   dsimp only[L2.KOf];constructor
   ·dsimp only[K09.pj,K09.Ds,K09.mkD,List.take]
    iterate 37 (refine' ⟨K09.FD KX G ?a ?l ?c ?k ?b,?_⟩;(case a=>k_is);(case l=>k_is);(case c=>k_is);(case k=>k_is);(case b=>first | exact fun _ _ _ _ _ _=>K09.all1 fun _=>rfl | exact fun _ _ _ _ _ _=>K09.all2 fun _ _=>rfl | exact fun _ _ _ _ _ _=>K09.oX fun _ _ _=>rfl | exact fun _ _ _ _ _ _=>K09.Kn fun _ _ _ _=>rfl))
    exact True.intro
   ·dsimp only[K09.AllP,K09.p]
    iterate 14 (refine' ⟨?a,?_⟩;(case a=>k_is))
    exact True.intro
   ·dsimp only[K09.pz,K09.p]
    iterate 1 (refine⟨⟨_,by k_is⟩,?_⟩)
    exact True.intro
   ·dsimp only[K09.AllP,K09.p]
    iterate 3 (refine' ⟨⟨_,?n,RS.F4 ?c⟩,?_⟩;(case n=>k_is);(case c=>constructor;k_exc;(iterate 7 k_is);kit_is;(iterate 16 (refine' RS.Hd ?n ?k ?s ?e;(case n=>k_is);(case k=>kit_is);(case s=>k_is);(case e=>decide +kernel)))))
    exact True.intro
   ·dsimp only[K09.AllP,K09.p]
    iterate 15 (refine⟨⟨_,by k_is⟩,?_⟩)
    exact True.intro
  have tp:=K09.Gy KX G T;obtain⟨fa',fd,h1,h2,h3,h4⟩:=tp.defs 36 _ rfl;have e0:=hmg.symm.trans h1;cases e0;refine⟨fd,fun s u=>?_,fun base kb nb=>RS.Gz K09.JU tp 30 36 _ _ rfl rfl _ _ h2⟩;obtain⟨oc,od,kV,doc,pm,an,cdv,ct,osl,e9,_,_⟩:=h2.ex;subst e9;exact .of_eq rfl
 case S=>exact fun K H a ns hl hO hS=>RS.Fo hO hS (K09.main ns hl)
 case C=>exact fun _ _ _ _ h=>h
