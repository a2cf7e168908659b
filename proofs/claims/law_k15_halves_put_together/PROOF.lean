import PyProof.Rows.All
import OpenK.KLine
import Wide.FinOn
import OpenK.KOwn
import KE.RegKIsAll
import KE.KItem
import KE.KUnpack
import KE.KDictOf
import PyProof.EqAt
import PyProof.EqKinds
import PyProof.TupleCall
import PySem.Str
import PyProof.NeKinds
import PyProof.CompMap
import PyProof.CompFree
import PyProof.EnumMake
import PyProof.Draws
import PyProof.ListRange
import PyProof.ConsumeWalk
import PyProof.Rows.SetFrom
import PyProof.SetRoads
import PyProof.ZipIter
import PyProof.Rows.SumAny
import PyProof.Rows.SortWalk
import PyProof.Rows.SeqMore2
import PyProof.ExcAttrAll.ValueError
import PyProof.ExcBaseAll.ValueError
import PyProof.Rows.FStr
import OpenK.KMake
import PyProof.InstStoreFacts
import PyProof.ExcClass3
import KE.KSortAsk
import PyProof.Rows.SeqMore
import PyProof.StrWalks
import PyProof.SliceStr2
import PyProof.StrBlockI
import PyProof.StrOps2
import PySem.SetOps
import PyProof.SetScanFacts
import KE.KDictSum
import PyProof.DictWalks
import PyProof.DictRoadsH
import PyProof.MeetsSeq3
import PyProof.MinMaxWalk
import PyProof.WalkInts
import PyProof.MeetsIn
import PyProof.Rows.TupDisplay
import PyProof.Rows.TupIter
import PyProof.CollectIter
import PyProof.WalksS
import PyProof.WalksMore
import PyProof.Rows.StrJoin2
import PyProof.TableCode
import PySem.Challenge.RW_ribbonloft_k15_halves_put_together
set_option Elab.async false
set_option linter.all false
set_option maxRecDepth 100000
set_option maxHeartbeats 4000000
set_option autoImplicit true
set_option relaxedAutoImplicit true
set_option genSizeOf false
set_option genSizeOfSpec false
set_option genInjectivity false
namespace PySem.W.Fast
local macro_rules|`(universe $x*)=>do pure (Lean.mkNullNode (<-x.mapM fun x=>`(theorem $(Lean.mkIdent (.mkSimple s!"tw{x.getId.toString.foldl (fun a c=>52*a+c.toNat-if c.toNat<97 then 65 else 71) 0}")) :True:=trivial)))
universe BoflJdPOyjfE ceomIfKptWY UgrptMpaXuY RhhtZefoCTk LKMrCdaKUCY CDfHzKdzYoA mnDgSToGxHk BODspoJfajKI McVwXxXhErE ktIqXvpuagg BqQUDrQuJAmJ LTaqVFWriep CUWmmrTcOTkh taAxVCkbiYh YraVXqvULJd BztXdmUOEOJ BnVXuTyQyGDl BgMXnROxaxVN CCvMsXNQLVTV CNbqLjXCbawC CCuFTeIzBIDm WitaxOrbyDm CMOkrcNJTUMy BvpoXBYCrfki BZpKxpgVFRVu CVYQBowtrDtO rIxaUooUxaK CLgHksTOWqib CVcoulTYjCCb pZhwTHOqefX CBNbZFOObyMT zMSKXpmzsBP DjeZNLxPNdP sjJKNSHxEpv BvwMLPSYngWr NiNoHATTMJP ZYFbCCzGuib IKvmyXphVlv BOkZIIXeZFjY BFqIQWJAUZCM BXMJoajqzsjI XScKzEiOAes FAgdBeWycdg BFxSbGQPScZw BhKNnZpZnUcU BfbBafdjTHo wySsBpyjwNA CWTctsjuRtxh SZRqkvJgqAl BoejajAzTYWN BfcmXqBeCqZR jbupBssRpit sVcrvZkGbud BDEbhAPhglMF BNcGmFqiiYWN BMeZLApDOrSt BAuLMGiazrhh jlIIaQqAFBB BcynjMpBbLBh UjxdQNoOVVx CVINfnaHRWmO nmlEBALDmFC hJImGIVyNDa NtvzPvKvhoW BXoEnBABipvK WgYUBcpNtJC CPKuQNJGmpnK BlcRukyvlhsm wMyIPMLhySf BaWMGLWbkImP BwOVPNktVTdz BbVRfUVAnIsX BREcaoHBdtdT BoMTrytyjVRD BWrlwwuVicUX BRipVPZIikDr GZnqDUwlIKg BwSpRrjZByPc BiyBarkYhmiA BOPpEauVFTjc LmgDDRRjWyA jPQyCfZasOR BxshVcTTVkpV CRhHXWLNVUSh VoBfUvQyll UYeXqIkvmNl BOYEFvGoWGWx ZLiASAetdix CMGZdScUJyEa BYZKWFJBENsq BvNmztDFfIDO BpoVEWNMpdSS dpTtmAfRIYK BfYEynskovje BoQrnPIdXFPu BMuDKbspsUgq BMpgTzfgpjFW KewCNwQfiai CFkCZycEPSOy BPebneGFcQjP CVMtHSIJuDOD jnhouUrVhQb BPwHrsKYaoyj gDFDBzwWjpn BnYJVfuWVwgL CJUlHSTQYWQr ikwvpUthsjP BCBytrrGDsoL BXmKzTVatMKD lQwbhiWlrZn PaNZJGrADMM wqYHAhzKYAs BBjCPpXrZOjQ kZzpqlQJwmU CyzmcKREUYs CSExUkObQMGU BTohDDxEyEPA hmPfiBQpjml BPoDKkUthFyV DefSQzjQtjh TpFtscZJGzR BaeACuHWgOEd BVVBuJSlpzCV BHwsDhjGgCFK QRzCtbsxBEO QlNcBTNWBHy tCLtqWHABQe CUBCMonBZnXS CLeCSHVzZFJq CXSTPjaEXImW BufjuZxwCmfi uFBOYVmchcu zvHHCytoSzS BIZHbmmaGmrS CBtZxUXDshGG CBrbskTBBRKW ZfVUMBMqVKX BfwPvspmAUf CVFOLbdzMkfj uOXIYkgtbGH bQYRCbKBqrT EmYornucgXD XXIHCdXFvLk BwoiNZhmDQHE oljuZLgCLuo WossMdbAmUA FhxSDzfcpIg DvAZGtipISo CTMkKKYYUsVM BgxRJiFotanE RjrGOMniOao LyZNLNkWTiY BgrvDVxyCyNs BriCBeuNeeXl WmNhlMSTraZ fmklRBUfQgR BTdcidUvjWQR BlNodGxXaGBd IqjmtUYcwcB CQWePYULzdjG CQxJPXclJiFO qGHfvdzANUy SwAqjkNjwdu BLijnrBXGKdu CRyypQPxBFmK BekNNfhfHrEy CUzbwGavVWHm mFmBcWuGTcS OImoMcIvAKr fyLzRBRfQj oqftzVNUPJP CSQPGEmCoZLH BiEHHrJGpUJf ZLtOHjBxfrn CAzlOwxUglWL BoSRZcjWKvDH buOzWQkHFeL BUWmMrfFxDcT ZewdxeMdYhA CRbaCamVHtSc CDoVPEChmPxQ mOgrMEhILzo vxCpoFiZbQk BZDEWaejkNZQ slExnIXFZuM CKnfdRLffsbZ BRnhlmurumMl CROmAQtZjgxh BEOrpMXfMNIl mQhXmNdyZxx oDihhLWHKHp XHNjeXfAaCN BCtYfaVMIRrp XGBYMkYCJZR sIBzlmDKSIV CKdxaNPeDlOt KWISkgRmfoG BvnaelKoxRSe BxjhsqwjrNgm oAOjRXqFmoW BcvYQHjWZqIW CRZyDvcaowlS LkqkXXgWXCe BteLlshtEbGv BRpxtDnoFDkX qqUthdredhT BELqBakrCIcn IHyeheJHtOP CNsEJcAPzvEY CRbcZyYefWRk IUfhqNmExrs CVolXgAwaXyg BkyjIgtNmpCg CQDiMUCGPKSw BkCxUoBcKUNU CUmYCNdeoco CVaMqMXFeGKQ CABmzkGvujIo WKaDsaBikrd BYBUwpsQYxFl sHWuILkIpeR BAeteoosTmIZ PBdGVreqMJl ChyuuIQoHVG CBwmVXCNLoUK sUlQsFPxyKS BoZprVNdLrbu BDlqOuIINLLu CUvPdQwxHukK CPCTogiRjsxm VGgdllwEHKD PjmhUBxSNVH KLdBPmRzXyD ilIuFqEmqhn CCCszubYXmsL CWlTUfDTXuwb OtjLbhsRpuT CMkvXJCKLaGj CFEzYVkWRXKE BXXiNoeMJSho CABUBNZcVWyU BsnqENxHvYJo SYVJwTFKfrQ BkYsIAkHMWRI BlhvmfEpHfrQ ejdfopOfhsc zkonfOjyUHw BTyxfrMiZUjg keYderwtuLh BicEQfOVwlYt BUqFLOrFKufR BUJSDLdZUQNZ BtrVtcbGhzal OmgNqtrgRFp BFWMHzSLkYzh WWGmRXzSgqW BhChBIxEGGwe oaPHHSTFWTC BbxsIVRuZdxa CCzRCyNAxsUO BjZoAQyRGBPi BOsdbweLniSW bQYAWozHVYu BidVXOvjQOFa CCjcZdZudHSm CNEmoCqYGIBr CXYKyLhGIcXz BfxrlxediTD bynKEQVenjT krUphBtlCun CBCLnwsmbQGn CWglCxiEvxfD NMWwuMXXjKn KdRelwgzYv BifmdrQeKRIv jlUYKMYVHSn pRrsKqrddMm
end PySem.W.Fast
section
open PySem PySem.W PyProof.Rows
set_option maxHeartbeats 0 in
open_top hdTop for PySem.Challenge.rw_ribbonloft_k15_halves_put_together
end
section
local macro_rules
|`(def $d $s:optDeclSig $v:declVal)=>`(theorem $d $(Lean.TSyntax.mk (Lean.mkNode ``Lean.Parser.Command.declSig #[s.raw[0],s.raw[1][0]])):declSig $v:declVal)
|`(abbrev $d $s:optDeclSig $v:declVal)=>`(noncomputable def $d $s:optDeclSig $v:declVal)
local macro_rules|`($i:num#$n)=>if n.raw.isNatLit?==some 0 then `(.var $i) else `(.cst (.int $i))
local macro_rules|`(%[$x,*|_])=>do pure (<-x.getElems.foldrM (fun x k=>`(.cons $x $k)) (<-`(.nil))).raw
set_option hygiene false
local macro_rules
|`(tactic|lk)=>`(tactic|intro pins s J H Q I h)
|`(tactic|cbv)=>`(tactic|apply wpAny_bind)
|`(tactic|fin2)=>`(tactic|intro pins s J H xs us Q I r h)
|`(tactic|k_go)=>`(tactic|obtain⟨y,z,h⟩:=bZ h)
|`(tactic|k_in)=>`(tactic|rw[List.nodup_iff_pairwise_ne,List.pairwise_map])
|`(tactic|k_ne)=>`(tactic|rw[Rep]at h ⊢)
|`(tactic|k_all)=>`(tactic|intro pins s J H D I h)
|`(tactic|k_asm)=>`(tactic|have n:b≠a:=mI I ha (by rcases m with⟨z,rfl⟩ | ⟨z,rfl⟩ | ⟨z,rfl⟩<;>(intro q;cases q)))
|`(tactic|k_cls)=>`(tactic|obtain⟨p,S,M,rfl,b1,b2,O,Y⟩:=bw h z)
|`(tactic|k_get)=>`(tactic|obtain⟨z1,z2⟩:=aC z)
|`(tactic|k_mem)=>`(tactic|refine wpAny_bind (wpAny_callSpecial?_slot (name:=Str.ofString "__next__") I F.slot_tuple_iterator_next (wpAny_call_entry F.slot_tuple_iterator_next I F.entry_tuple_iterator_next ?_ (F.args_tuple_iterator_next_1 _))))
|`(⋯)=>`(by lia)
|`(∅)=>`(by decide)
set_option hygiene true
local macro_rules|`(#[$x,*])=>`(⟨$x,*⟩)
open List (all_map any_cons contains_cons filterMap_cons foldl_cons getElem?_append_left getElem?_cons_succ getElem?_cons_zero getElem?_map length_append length_cons length_map length_range length_take length_zip map_cons map_map map_nil mem_cons mem_filter mem_nil_iff mem_range nil_append nodup_range of_mem_zip range' range_succ_eq_map replicate size_toArray zipWith zipWith_cons_cons zip_cons_cons)
open Nat (add_comm le_antisymm le_of_eq le_of_lt lt_trans min_self ne_of_gt zero_add zero_le)
open Bool (and_eq_true false_eq_true noConfusion not_eq_true not_eq_true' or_eq_true)
open Option (isSome_map isSome_some)
open Array (length_toList)
abbrev J2:=@PySem.Heap.get?_push_of_some
abbrev Qa:=@PySem.wpAny_bind
abbrev Qb:=@Nat.le_refl
abbrev Qc:=@PySem.Heap.get?_push_size
abbrev Qd:=@PySem.wpAny_pure
abbrev Qe:=@List.getElem?_set_ne
abbrev Qf:=@PySem.Heap.lt_size
abbrev Qg:=@Nat.lt_of_lt_of_le
abbrev Qh:=@decide_eq_false
abbrev Qi:=@List.getElem?_set_self
abbrev Qj:=@Bool.false_ne_true
abbrev Qk:=@List.mem_cons_of_mem
abbrev Ql:=@Nat.ne_of_lt
abbrev Qm:=@List.getElem?_append_right
abbrev Qn:=@Nat.le_trans
abbrev Qo:=@List.lookup_cons
abbrev Qp:=@List.isEmpty_iff
abbrev Qq:=@List.mem_cons_self
abbrev Qr:=@List.mem_append_right
abbrev Qs:=@List.mem_of_getElem?
abbrev Qt:=@PySem.Heap.get?_update_self
abbrev Qu:=@List.all_eq_true
abbrev Qv:=@PySem.Heap.get?_update_other
abbrev Qw:=@PySem.Heap.size_push
abbrev Qx:=@List.all_cons
abbrev Qy:=@Nat.lt_irrefl
abbrev Qz:=@List.length_set
abbrev QA:=@List.append_nil
abbrev QB:=@Nat.add_sub_cancel_left
abbrev QC:=@List.filter_cons
abbrev QD:=@List.map_congr_left
abbrev QE:=@Nat.mod_eq_of_lt
abbrev QF:=@List.pairwise_append
abbrev QG:=@Bool.eq_iff_iff
abbrev QH:=@List.getElem_of_mem
abbrev QI:=@List.getElem?_eq_none
abbrev QJ:=@List.append_assoc
namespace RL
open PySem
abbrev mkR(c:Str)(k:Nat):Str:=#[c.cps.push (1114112+k)]
abbrev jB(x:Str):Option Nat:=match x.cps.back? with
 | some n=>if 1114112<=n then some (n-1114112)else none
 | none=>none
abbrev baseOf(x:Str):Str:=if(jB x).isSome then⟨x.cps.pop⟩else x
def EM(h:jB x=none):baseOf x=x:=by
 unfold baseOf;rw[h];rfl
open PySem (Str)
@[reducible]noncomputable def Ky:=Sum Int Str
set_option genInjectivity true in
inductive D where
 | non
 | bl (b:Bool)
 | int (i:Int)
 | str (x:Str)
 | tup (xs:List D)
 | lst (xs:List D)
 | dK (ks:List Ky) (vs:List D)
 | dT (ks:List (List Ky)) (vs:List D)
 | scr (xs:List D)
 | exc (c:Str)
 | fT (ks:List (List Ky)) (vs:List D)
 | fL (xs:List D)
 | obj
 deriving Inhabited
mutual
noncomputable def D.imm:D->Bool
 | .tup xs=>au xs
 | .lst _=>false
 | .dK _ _=>false
 | .dT _ _=>false
 | .scr xs=>au xs
 | .fT _ vs=>au vs
 | .fL xs=>au xs
 | _=>true
noncomputable def au:List D->Bool
 | []=>true
 | d::r=>d.imm&&au r
end
inductive Bop where | add | sub | mul | fdiv | mod | pow
 deriving DecidableEq
inductive Cop where | lt | le | gt | ge | eq | ne
 deriving DecidableEq
inductive Bi where | len | list | tuple | int | all | any | lenSet | sorted | sortedSet | abs | sum | sortedS
 deriving DecidableEq
inductive Ty where | int | bool | list | tuple | str
 deriving DecidableEq
mutual
inductive E where
 | var (i:Nat)
 | cst (d:D)
 | glb (x:Str) (i:Int)
 | bin (o:Bop) (a b:E)
 | cmp (c:Cop) (a b:E)
 | chain (c c':Cop) (a b e:E)
 | isN (neg:Bool) (a:E)
 | inn (neg:Bool) (a b:E)
 | inD (neg:Bool) (a b:E)
 | and (a b:E)
 | or (a b:E)
 | not (a:E)
 | ifx (t a b:E)
 | tup (es:Es)
 | lst (es:Es)
 | ix (a b:E)
 | ixD (a b:E)
 | slT (a b:E)
 | call (f:Nat) (es:Es)
 | bi (b:Bi) (a:E)
 | max (a b:E)
 | isi (a:E) (t:Ty)
 | rng1 (a:E)
 | rngT (a:E)
 | rng2 (a b:E)
 | rng3 (c:Int) (a b:E)
 | neg (a:E)
 | comp (e:E) (tg:List Nat) (it:It) (c:E)
 | compA (e:E) (tg:List Nat) (it:It)
 | join (a:E)
 | isx (a:E) (c:Str)
 | dk0
 | dt0
inductive Es where
 | nil
 | cons (e:E) (es:Es)
inductive It where
 | seq (e:E)
 | rng1 (a:E)
 | rng2 (a b:E)
 | rng3 (c:Int) (a b:E)
 | enm (e:E)
 | zip (a b:E)
end
mutual
inductive S where
 | asg (i:Nat) (e:E)
 | own (i:Nat) (e:E)
 | unp (is:List Nat) (e:E)
 | par (i j:Nat) (a b:E)
 | app (i:Nat) (e:E)
 | put (i:Nat) (k e:E)
 | pop (i j:Nat)
 | aug (i:Nat) (o:Bop) (e:E)
 | ife (t:E) (a b:Ss)
 | ifp (i:Nat) (e:E) (a b:Ss)
 | forr (tg:List Nat) (it:It) (b:Ss)
 | whil (t:E) (b:Ss)
 | mexc (f:Nat) (es:Es) (ps ms:List Nat)
 | ret (e:E)
 | exc (e:E)
 | rais (c:Str) (ps:Es)
 | tryc (b:Ss) (c:Str) (i:Nat) (h:Ss)
inductive Ss where
 | nil
 | cons (s:S) (r:Ss)
 | act (i:Nat) (g:Str) (tbl:List (Str × Nat)) (a:E) (es:Es)
 | opn (j:Nat) (e:E) (r:Sq)
inductive Sq where
 | cls (r:Ss)
 | cons (s:S) (r:Sq)
 | opn (j:Nat) (e:E) (r:Sq)
 | frz (j:Nat) (r:Ss)
 | fz (j:Nat) (r:Sq)
end
@[reducible]noncomputable def St:=List (Option D)
@[reducible]noncomputable def Cl:=Nat->List D->Option D
abbrev most:Nat:=100000
abbrev cF{α:Type}(xs:List α)(i:Int):Option α :=
 if 0<=i then xs[i.toNat]? else if -(xs.length:Int)<=i then xs[(i+xs.length).toNat]? else none
abbrev nY(n:Nat)(i:Int):Option Nat :=
 if 0<=i then(if i<n then some i.toNat else none)else if -(n:Int)<=i then some (i+n).toNat else none
abbrev cutAt(n:Nat)(i:Int):Nat:=if 0<=i then min i.toNat n else(i+n).toNat
abbrev aF:Bop->D->D->Option D
 | .add,.int a,.int b=>some (.int (a+b))
 | .add,.str a,.str b=>if a.length+b.length<=most then some (.str (a++b))else none
 | .add,.lst a,.lst b=>if a.length+b.length<=most then some (.lst (a++b))else none
 | .add,.tup a,.tup b=>if a.length+b.length<=most/\0<a.length then some (.tup (a++b))else none
 | .sub,.int a,.int b=>some (.int (a-b))
 | .mul,.int a,.int b=>if(-(2 ^ 64)<a/\a<2 ^ 64)\/(-(2 ^ 64)<b/\b<2 ^ 64)then some (.int (a*b))else none
 | .mul,.lst a,.int b=>if 0<=b/\b<=most/\a.length*b.toNat<=most then some (.lst (replicate b.toNat a).flatten)else none
 | .fdiv,.int a,.int b=>if 0<b/\b<2 ^ 200 then some (.int (a / b))else none
 | .mod,.int a,.int b=>if 0<b then some (.int (a%b))else none
 | .pow,.int a,.int b=>if 0<=b/\b<=1000/\a.natAbs<2 ^ 64 then some (.int (a ^ b.toNat))else none
 | _,_,_=>none
abbrev eqs(f:D->D->Option Bool):List D->List D->Option Bool
 | a::r,b::s=>(f a b).bind fun e=>(eqs f r s).map fun k=>e&&k
 | _,_=>some true
abbrev eqD:Nat->D->D->Option Bool
 | _,.int a,.int b=>some (a == b)
 | _,.str a,.str b=>some (a == b)
 | _,.bl a,.bl b=>some (a == b)
 | n+1,.tup a,.tup b=>(eqs (eqD n) a b).map fun k=>k&&a.length == b.length
 | n+1,.lst a,.lst b=>(eqs (eqD n) a b).map fun k=>k&&a.length == b.length
 | n+1,.fL a,.fL b=>(eqs (eqD n) a b).map fun k=>k&&a.length == b.length
 | n+1,.lst a,.fL b=>(eqs (eqD n) a b).map fun k=>k&&a.length == b.length
 | n+1,.fL a,.lst b=>(eqs (eqD n) a b).map fun k=>k&&a.length == b.length
 | _,_,_=>none
abbrev bc:Cop->D->D->Option Bool
 | .lt,.int a,.int b=>some (decide (a<b))
 | .le,.int a,.int b=>some (decide (a<=b))
 | .gt,.int a,.int b=>some (decide (b<a))
 | .ge,.int a,.int b=>some (decide (b<=a))
 | .eq,a,b=>eqD 8 a b
 | .ne,a,b=>(eqD 8 a b).map not
 | _,_,_=>none
abbrev truth:D->Option Bool
 | .bl b=>some b
 | .lst xs=>some (!xs.isEmpty)
 | .tup xs=>some (!xs.isEmpty)
 | .int i=>some (i != 0)
 | _=>none
abbrev dZ:List D->Option (List Int)
 | []=>some []
 | .int i::r=>(dZ r).map (i :: ·)
 | _=>none
abbrev dQ:List D->Option (List Bool)
 | []=>some []
 | .bl i::r=>(dQ r).map (i :: ·)
 | _=>none
abbrev strs?:List D->Option (List Str)
 | []=>some []
 | .str i::r=>(strs? r).map (i :: ·)
 | _=>none
abbrev wL(a:Int):List Int->List Int
 | []=>[a]
 | b::r=>if a<=b then a::b::r else b::wL a r
abbrev sortI:List Int->List Int
 | []=>[]
 | a::r=>wL a (sortI r)
abbrev fO(xs:List Int):List Int:=xs.foldl (fun m k=>if m.any (· == k)then m else m++[k]) []
abbrev items:D->Option (List D)
 | .lst xs=>some xs
 | .tup xs=>some xs
 | .fL xs=>some xs
 | _=>none
abbrev lT:D->Option (List D)
 | .fL xs=>some xs
 | .lst xs=>some xs
 | .tup xs=>some xs
 | _=>none
@[simp] theorem itemsS_lst:lT (.lst xs)=some xs:=rfl
@[simp] theorem itemsS_tup:lT (.tup xs)=some xs:=rfl
abbrev ie:D->Option (List D)
 | .lst xs=>some xs
 | .tup xs=>some xs
 | .str x=>some (x.cps.toList.map fun c=>.str ⟨(List.toArray [c])⟩)
 | _=>none
abbrev Ii:List Str->Bool
 | a::b::r=>!decide (b.cps.toList<a.cps.toList)&&Ii (b::r)
 | _=>true
abbrev biV:Bi->D->Option D
 | .len,.str x=>if x.length<=most then some (.int x.length)else none
 | .len,.dK ks _=>some (.int ks.length)
 | .len,.dT ks _=>some (.int ks.length)
 | .len,.fT ks _=>some (.int ks.length)
 | .len,d=>(items d).map fun xs=>.int xs.length
 | .list,d=>(items d).map .lst
 | .tuple,d=>(items d).map .tup
 | .int,.bl b=>some (.int (if b then 1 else 0))
 | .int,.int i=>some (.int i)
 | .int,_=>none
 | .all,.lst xs=>(dQ xs).map fun bs=>.bl (bs.all id)
 | .any,.lst xs=>(dQ xs).map fun bs=>.bl (bs.any id)
 | .all,_=>none
 | .any,_=>none
 | .lenSet,.lst xs=>if xs.length<=1000 then(dZ xs).map fun is=>.int (fO is).length else none
 | .lenSet,_=>none
 | .sorted,.lst xs=>if xs.length<64 then(dZ xs).map fun is=>.lst ((sortI is).map .int)else none
 | .sorted,_=>none
 | .sortedSet,.lst xs=>if xs.length<=5 then(dZ xs).map fun is=>.lst ((sortI (fO is)).map .int)else(dZ xs).bind fun is=>if(fO is).length<=4 then some (.lst ((sortI (fO is)).map .int))else none
 | .sortedSet,_=>none
 | .abs,.int i=>some (.int (if i<0 then -i else i))
 | .abs,_=>none
 | .sortedS,.lst xs=>(strs? xs).bind fun I=>if Ii I then some (.lst xs)else none
 | .sortedS,_=>none
 | .sum,.lst xs=>(dZ xs).map fun is=>.int is.sum
 | .sum,_=>none
abbrev gy:Ty->D->Option Bool
 | .int,.int _=>some true
 | .int,.bl _=>some true
 | .bool,.bl _=>some true
 | .list,.lst _=>some true
 | .list,.fL _=>some true
 | .tuple,.tup _=>some true
 | .str,.str _=>some true
 | _,.non=>some false
 | _,.bl _=>some false
 | _,.int _=>some false
 | _,.str _=>some false
 | _,.tup _=>some false
 | _,.lst _=>some false
 | _,.fL _=>some false
 | _,_=>none
abbrev keyOf:D->Option Ky
 | .int i=>some (.inl i)
 | .str x=>some (.inr x)
 | _=>none
abbrev keysOf:List D->Option (List Ky)
 | []=>some []
 | d::r=>(keyOf d).bind fun k=>(keysOf r).map (k :: ·)
abbrev aO{κ:Type} [DecidableEq κ]:List κ->List D->κ->Option D
 | k::ks,v::vs,x=>if k=x then some v else aO ks vs x
 | _,_,_=>none
abbrev putD{κ:Type} [DecidableEq κ](ks:List κ)(vs:List D)(x:κ)(d:D):List κ × List D :=
 if x∈ks then(ks,zipWith (fun k v=>if k=x then d else v) ks vs)else(ks++[x],vs++[d])
abbrev ixV:D->D->Option D
 | .lst xs,.int i=>cF xs i
 | .tup xs,.int i=>cF xs i
 | .str x,.int i=>if x.length<=most then(cF x.cps.toList i).map fun c=>.str ⟨(List.toArray [c])⟩else none
 | .fL xs,.int i=>if au xs then cF xs i else none
 | _,_=>none
abbrev lY:D->D->Option D
 | .dK ks vs,k=>(keyOf k).bind (aO ks vs)
 | .dT ks vs,.tup k=>(keysOf k).bind (aO ks vs)
 | .fT ks vs,.tup k=>(keysOf k).bind (aO ks vs)
 | _,_=>none
abbrev MD:D->D->D->Option D
 | .dK ks vs,k,z=>(keyOf k).map fun q=>(aO ks vs q).getD z
 | .dT ks vs,.tup k,z=>(keysOf k).map fun q=>(aO ks vs q).getD z
 | _,_,_=>none
abbrev qI:D->D->Option Bool
 | .dK ks vs,k=>(keyOf k).map fun k=>(aO ks vs k).isSome
 | .dT ks vs,.tup k=>(keysOf k).map fun k=>(aO ks vs k).isSome
 | .fT ks _,.tup k=>(keysOf k).map fun k=>ks.any fun x=>decide (x=k)
 | _,_=>none
abbrev flat:D->Bool
 | .int _=>true
 | .str _=>true
 | _=>false
abbrev eqF:D->D->Bool
 | .int a,.int b=>a == b
 | .str a,.str b=>a == b
 | _,_=>false
abbrev inV(a b:D):Option Bool :=
 (items b).bind fun xs=>if flat a&&xs.all flat then some (xs.any fun x=>eqF x a)else none
abbrev kI:D->D->Option D
 | .fL xs,.int k=>some (.lst (xs.take (cutAt xs.length k)))
 | .scr xs,.int k=>some (.lst (xs.take (cutAt xs.length k)))
 | .lst xs,.int k=>some (.lst (xs.take (cutAt xs.length k)))
 | .tup xs,.int k=>if cutAt xs.length k<xs.length then some (.tup (xs.take (cutAt xs.length k)))else none
 | _,_=>none
abbrev dC(lo:Int):Nat->List D
 | 0=>[]
 | n+1=>.int lo::dC (lo+1) n
abbrev cK(c lo:Int):Nat->List D
 | 0=>[]
 | n+1=>.int lo::cK c (lo+c) n
abbrev bJ(c a b:Int):Nat:=(if c > 0 then(if a<b then(b-a-1) / c+1 else 0)else(if a > b then(a-b-1) / (-c)+1 else 0)).toNat
abbrev cb:D->D->Option (List D)
 | .int a,.int b=>if(b-a).toNat<=most/\-(2 ^ 60)<=a/\a<2 ^ 60/\-(2 ^ 60)<=b/\b<2 ^ 60 then some (dC a (b-a).toNat)else none
 | _,_=>none
abbrev gM(c:Int):D->D->Option (List D)
 | .int a,.int b=>if c≠0/\-(2 ^ 60)<c/\c<2 ^ 60/\bJ c a b<=most/\-(2 ^ 60)<=a/\a<2 ^ 60/\-(2 ^ 60)<=b/\b<2 ^ 60 then some (cK c a (bJ c a b))else none
 | _,_=>none
abbrev dN(i:Int):List D->List D
 | []=>[]
 | d::r=>.tup [.int i,d]::dN (i+1) r
abbrev fw:List D->List D->List D
 | a::r,b::s=>.tup [a,b]::fw r s
 | _,_=>[]
abbrev bI:List Nat->List D->St->Option St
 | [],[],J=>some J
 | i::is,d::ds,J=>bI is ds (J.set i (some d))
 | _,_,_=>none
abbrev bu(tg:List Nat)(d:D)(J:St):Option St :=
 match tg with
 | [i]=>some (J.set i (some d))
 | tg=>match d with
  | .tup ds=>bI tg ds J
  | .lst ds=>bI tg ds J
  | _=>none
abbrev lE(y:Option D)(ys:List D):Option (List D) :=
 match y with
 | some e=>if e.imm then some (e::ys)else none
 | none=>some ys
abbrev bX(f:St->Option (Option D))(tg:List Nat)(J:St):List D->Option (List D)
 | []=>some []
 | d::r=>(bu tg d J).bind fun I=>(f I).bind fun y=>(bX f tg J r).bind (lE y)
abbrev aG:D->Bool
 | .lst xs=>au xs
 | .dK _ vs=>au vs
 | .dT _ vs=>au vs
 | _=>false
abbrev Li(f:St->Option D)(fr:Bool)(tg:List Nat)(J:St):List D->Option (List D)
 | []=>some []
 | d::r=>(bu tg d J).bind fun I=>(f I).bind fun y=>if aG y&&fr then(Li f fr tg J r).map (y :: ·)else none
abbrev fits(xs:List D):Option (List D):=if xs.length<=most then some xs else none
abbrev aM:E->Bool
 | .lst _=>true
 | .tup _=>true
 | .comp _ _ _ _=>true
 | .compA _ _ _=>true
 | .bin _ _ _=>true
 | .slT _ _=>true
 | .call _ _=>true
 | .bi _ _=>true
 | .rng1 _=>true
 | .rngT _=>true
 | .rng2 _ _=>true
 | .rng3 _ _ _=>true
 | .dk0=>true
 | .dt0=>true
 | _=>false
abbrev dh(n c:Str):Bool:=n == c || c == "RibbonError" || c == "ValueError"
abbrev i8(n c:Str):Bool:=dh (baseOf n) c
abbrev FO(neg:Bool):D->Option D
 | .non=>some (.bl (!neg))
 | .dK _ _=>none
 | .dT _ _=>none
 | .fT _ _=>none
 | _=>some (.bl neg)
abbrev xl(y:Option D):D->Option D
 | .bl true=>y
 | .bl false=>some (.bl false)
 | _=>none
abbrev orV(y:Option D):D->Option D
 | .bl false=>y
 | .bl true=>some (.bl true)
 | _=>none
abbrev Cz:D->Option D
 | .int i=>some (.int (-i))
 | _=>none
abbrev Cf:D->D->Option D
 | .int i,.int j=>some (.int (if j > i then j else i))
 | _,_=>none
abbrev Mv:D->D->D->Option D
 | .lst xs,.int i,.int j=>(dZ xs).bind fun is=>if 0<=j/\i∈is.drop j.toNat then some (.int (j.toNat+(is.drop j.toNat).idxOf i:Nat))else none
 | _,_,_=>none
abbrev Mz:D->D->Option D
 | .str x,.str y=>match y.cps.toList with
  | [c]=>some (.int (x.cps.toList.count c:Nat))
  | _=>none
 | _,_=>none
abbrev MC:D->D->Option D
 | .str x,.int k=>if 0<=k/\x.length<=most then some (.str ⟨(x.cps.toList.take k.toNat).toArray⟩)else none
 | _,_=>none
abbrev M9:D->D->Option D
 | .str x,.int k=>if 0<=k/\x.length<=most then some (.str ⟨(x.cps.toList.drop k.toNat).toArray⟩)else none
 | _,_=>none
abbrev MA:D->D->D->D->Option D
 | .str x,y,.str z,w=>if x≠z/\y.imm=true/\w.imm=true then some (.dK [.inr x,.inr z] [y,w])else none
 | _,_,_,_=>none
abbrev Mx:D->D->Option D
 | .str x,.int n=>if 1<n/\n<=1000/\0<x.length/\x.length<=100 then some (.str ⟨(replicate n.toNat x.cps.toList).flatten.toArray⟩)else none
 | _,_=>none
abbrev KI:D->Option D
 | .lst xs=>(strs? xs).bind fun I=>if I.length<=most/\I.all (fun s=>s.length<=100)then some (.str ⟨(I.flatMap fun s=>s.cps.toList).toArray⟩)else none
 | _=>none
abbrev LU(c:Str):D->Option D
 | .exc n=>some (.bl (i8 n c))
 | _=>none
abbrev ME:D->Option D
 | .exc n=>(jB n).bind fun k=>some (.int (Int.ofNat k))
 | _=>none
abbrev kyD:Ky->D
 | .inl i=>.int i
 | .inr x=>.str x
abbrev M6:D->Option (List D)
 | .fT ks _=>some (ks.map fun k=>.tup (k.map kyD))
 | _=>none
abbrev MB:D->Option D
 | .lst xs=>if au xs then some (.fL xs)else none
 | _=>none
abbrev M8:D->D->Option D
 | .fL a,.lst b=>if a.length+b.length<=most then some (.lst (a++b))else none
 | .lst a,.fL b=>if a.length+b.length<=most then some (.lst (a++b))else none
 | _,_=>none
abbrev MF:D->D->Option D
 | .tup k,v=>(keysOf k).bind fun q=>if v.imm then some (.dT [q] [v])else none
 | _,_=>none
abbrev DI:List D->Option (List (List Int))
 | []=>some []
 | .fL ds::r=>(dZ ds).bind fun is=>(DI r).map (is :: ·)
 | _=>none
abbrev ltL:List Int->List Int->Bool
 | [],[]=>false
 | [],_::_=>true
 | _::_,[]=>false
 | a::r,b::s=>if a=b then ltL r s else decide (a<b)
abbrev Gw:List Int->List (List Int)->List Int
 | b,[]=>b
 | b,x::r=>Gw (if ltL x b then x else b) r
abbrev Mw:D->Option D
 | .lst xs=>(DI xs).bind fun I=>match I with
  | []=>none
  | x::r=>some (.fL ((Gw x r).map .int))
 | _=>none
abbrev M5(ks:List Str):D->Option D
 | .str w=>some (.bl (ks.any fun k=>decide (k=w)))
 | _=>none
abbrev BC(tbl:List (Str × Nat)):D->Option Nat
 | .str w=>(tbl.find? fun q=>decide (q.1=w)).map (·.2)
 | _=>none
abbrev Mr:D->Option (D × D)
 | .tup (d::r)=>if d.imm&&au r then some (d,.fL r)else none
 | _=>none
abbrev HA:D->Option D
 | .dT ks vs=>some (.fT ks vs)
 | _=>none
@[simp] theorem sv_andt {y:Option D}:xl y (.bl true)=y:=rfl
@[simp] theorem sv_andf {y:Option D}:xl y (.bl false)=some (.bl false):=rfl
@[simp] theorem sv_ort {y:Option D}:orV y (.bl true)=some (.bl true):=rfl
@[simp] theorem sv_orf {y:Option D}:orV y (.bl false)=y:=rfl
@[simp] theorem sv_max {i j:Int}:Cf (.int i) (.int j)=some (.int (if j > i then j else i)):=rfl
@[simp] theorem sv_neg {i:Int}:Cz (.int i)=some (.int (-i)):=rfl
mutual
noncomputable def ev(cl:Cl)(J:St):E->Option D
 | .var i=>(J[i]?).bind id
 | .cst d=>some d
 | .glb _ i=>some (.int i)
 | .bin o a b=>(ev cl J a).bind fun x=>(ev cl J b).bind fun y=>aF o x y
 | .cmp c a b=>(ev cl J a).bind fun x=>(ev cl J b).bind fun y=>(bc c x y).map .bl
 | .chain c c' a b e=>(ev cl J a).bind fun x=>(ev cl J b).bind fun y=>(bc c x y).bind fun k=>if k then(ev cl J e).bind fun z=>(bc c' y z).map .bl else some (.bl false)
 | .isN neg a=>(ev cl J a).bind (FO neg)
 | .inn neg a b=>(ev cl J a).bind fun x=>(ev cl J b).bind fun y=>(inV x y).map fun k=>.bl (if neg then !k else k)
 | .inD neg a b=>(ev cl J a).bind fun x=>(ev cl J b).bind fun y=>(qI y x).map fun k=>.bl (if neg then !k else k)
 | .and a b=>(ev cl J a).bind (xl (ev cl J b))
 | .or a b=>(ev cl J a).bind (orV (ev cl J b))
 | .not a=>((ev cl J a).bind truth).map fun k=>.bl (!k)
 | .ifx t a b=>((ev cl J t).bind truth).bind fun k=>if k then ev cl J a else ev cl J b
 | .tup es=>(evs cl J es).map .tup
 | .lst es=>(evs cl J es).map .lst
 | .ix a b=>(ev cl J a).bind fun x=>(ev cl J b).bind fun y=>ixV x y
 | .ixD a b=>(ev cl J a).bind fun x=>(ev cl J b).bind fun y=>lY x y
 | .slT a b=>(ev cl J a).bind fun x=>(ev cl J b).bind fun y=>kI x y
 | .call f es=>(evs cl J es).bind fun ds=>cl f ds
 | .bi b a=>(ev cl J a).bind fun x=>biV b x
 | .max a b=>(ev cl J a).bind fun x=>(ev cl J b).bind fun y=>Cf x y
 | .isi a t=>(ev cl J a).bind fun x=>(gy t x).map .bl
 | .rng1 a=>(ev cl J a).bind fun x=>(cb (.int 0) x).map .lst
 | .rngT a=>(ev cl J a).bind fun x=>(cb (.int 0) x).map .tup
 | .rng2 a b=>(ev cl J a).bind fun x=>(ev cl J b).bind fun y=>(cb x y).map .lst
 | .rng3 c a b=>(ev cl J a).bind fun x=>(ev cl J b).bind fun y=>(gM c x y).map .lst
 | .neg a=>(ev cl J a).bind Cz
 | .comp e tg it c=>(bE cl J it).bind fun ds=>(fits ds).bind fun ds=>(bX (fun I=>((ev cl I c).bind truth).bind fun k=>if k then(ev cl I e).map some else some none) tg J ds).map .lst
 | .compA e tg it=>(bE cl J it).bind fun ds=>(fits ds).bind fun ds=>(bX (fun I=>(ev cl I e).map some) tg J ds).map .lst
 | .join a=>(ev cl J a).bind KI
 | .isx a c=>(ev cl J a).bind (LU c)
 | .dk0=>some (.dK [] [])
 | .dt0=>some (.dT [] [])
noncomputable def evs(cl:Cl)(J:St):Es->Option (List D)
 | .nil=>some []
 | .cons e es=>(ev cl J e).bind fun d=>(evs cl J es).map (d :: ·)
noncomputable def bE(cl:Cl)(J:St):It->Option (List D)
 | .seq e=>(ev cl J e).bind lT
 | .rng1 a=>(ev cl J a).bind fun x=>cb (.int 0) x
 | .rng2 a b=>(ev cl J a).bind fun x=>(ev cl J b).bind fun y=>cb x y
 | .rng3 c a b=>(ev cl J a).bind fun x=>(ev cl J b).bind fun y=>gM c x y
 | .enm e=>(ev cl J e).bind fun x=>(ie x).map (dN 0)
 | .zip a b=>(ev cl J a).bind fun x=>(ev cl J b).bind fun y=>(items x).bind fun xs=>(items y).bind fun ys=>if xs.length=ys.length then some (fw xs ys)else none
end
abbrev clX(cl:Cl)(f:Nat)(ds:List D):Option Str:=(cl (f+1000) ds).bind fun d=>match d with
 | .str x=>some x
 | _=>none
mutual
noncomputable def evX(cl:Cl)(J:St):E->Option Str
 | .call f es=>match evs cl J es with
  | some ds=>clX cl f ds
  | none=>uH cl J es
 | .ix a _=>evX cl J a
 | _=>none
noncomputable def uH(cl:Cl)(J:St):Es->Option Str
 | .nil=>none
 | .cons e es=>match ev cl J e with
  | some _=>uH cl J es
  | none=>evX cl J e
end
abbrev written:D->Bool
 | .int i=>decide (i.natAbs<2 ^ 1900)
 | _=>false
abbrev MG(c:Str):D->Option Str
 | .int i=>if 0<=i/\written (.int i)then some (mkR c i.toNat)else none
 | _=>none
inductive Out where
 | nx
 | rt (d:D)
abbrev avE(M:List Nat):E->Bool
 | .var j=>!M.contains j
 | .ix a _=>avE M a
 | .ixD a _=>avE M a
 | .call _ _=>true
 | .ifx _ a b=>avE M a&&avE M b
 | _=>false
abbrev sV(M:List Nat):It->Bool
 | .seq e=>avE M e || aM e
 | .enm e=>avE M e || aM e
 | .zip a b=>(avE M a || aM a)&&(avE M b || aM b)
 | _=>true
abbrev bf(M:List Nat)(e:E)(d:D):Bool :=
 d.imm || (aG d&&(aM e || match e with | .var i=>M.contains i | _=>false))
abbrev aX(M:List Nat)(e:E)(d:D):Bool:=d.imm || (aG d&&aM e) || avE M e
abbrev isVar:E->Bool
 | .var _=>true
 | _=>false
abbrev eW(M ps:List Nat):Nat->Es->List D->Bool
 | _,.nil,[]=>true
 | q,.cons e es,d::ds=>(if ps.contains q then isVar e else aX M e d)&&eW M ps (q+1) es ds
 | _,_,_=>false
abbrev eS:D->D->D->Option D
 | .lst xs,.int k,d=>(nY xs.length k).map fun j=>.lst (xs.set j d)
 | .dK ks vs,k,d=>(keyOf k).bind fun k=>if ks.length<most then some (.dK (putD ks vs k d).1 (putD ks vs k d).2)else none
 | .dT ks vs,.tup k,d=>(keysOf k).bind fun k=>if ks.length<most then some (.dT (putD ks vs k d).1 (putD ks vs k d).2)else none
 | _,_,_=>none
abbrev bp(f:St->Option (Out × St))(tg:List Nat):List D->St->Option (Out × St)
 | [],J=>some (.nx,J)
 | d::r,J=>if d.imm then(bu tg d J).bind fun I=>(f I).bind fun p=>match p.1 with
   | .nx=>bp f tg r p.2
   | .rt d=>some (.rt d,p.2)
  else none
abbrev whF(t:St->Option Bool)(f:St->Option (Out × St)):Nat->St->Option (Out × St)
 | 0,_=>none
 | n+1,J=>(t J).bind fun k=>if k then(f J).bind fun p=>match p.1 with
   | .nx=>whF t f n p.2
   | .rt d=>some (.rt d,p.2)
  else some (.nx,J)
abbrev j4(f:St->Option (Out × St))(fx:St->Option (Str × St))(tg:List Nat):List D->St->Option (Str × St)
 | [],_=>none
 | d::r,J=>if d.imm then(bu tg d J).bind fun I=>match f I with
   | some p=>match p.1 with
    | .nx=>j4 f fx tg r p.2
    | .rt _=>none
   | none=>fx I
  else none
abbrev M0:D->Option (D × D)
 | .lst xs=>(xs[xs.length-1]?).map fun d=>(d,.lst xs.dropLast)
 | _=>none
abbrev M3:D->D->Option D
 | .lst xs,.int k=>if 0<=k/\k<xs.length then some (.lst (xs.eraseIdx k.toNat))else none
 | _,_=>none
abbrev Mq:D->D->D->Option D
 | .lst xs,.int a,.int b=>if 0<=a/\a<=b/\b<=xs.length then some (.lst (xs.take a.toNat++xs.drop b.toNat))else none
 | _,_,_=>none
abbrev M4:D->Option D
 | .lst xs=>some (.lst xs.reverse)
 | _=>none
abbrev Ms(J:St)(r w:Nat)(l:D):D->Option (Out × St)
 | .tup [_,R]=>some (.nx,(J.set w (some l)).set r (some R))
 | _=>none
abbrev Mu:D->D->Option D
 | .str a,.str b=>if a.length+b.length<=most then some (.str (a++b))else none
 | _,_=>none
mutual
noncomputable def evS(cl:Cl)(M:List Nat):S->St->Option (Out × St)
 | .asg i e,J=>(ev cl J e).bind fun d=>if aX M e d then some (.nx,J.set i (some d))else none
 | .own i e,J=>(ev cl J e).bind fun d=>if aG d&&aM e then some (.nx,J.set i (some d))else none
 | .unp is e,J=>(ev cl J e).bind fun d=>(items d).bind fun ds=>if au ds then(bI is ds J).map fun I=>(.nx,I)else none
 | .par i j a b,J=>(ev cl J a).bind fun x=>(ev cl J b).bind fun y=>if x.imm&&y.imm then some (.nx,(J.set i (some x)).set j (some y))else none
 | .app i e,J=>(ev cl J e).bind fun d=>((J[i]?).bind id).bind fun l=>match l with
  | .lst xs=>if d.imm&&decide (xs.length<most)then some (.nx,J.set i (some (.lst (xs++[d]))))else none
  | _=>none
 | .put i k e,J=>(ev cl J e).bind fun d=>(ev cl J k).bind fun R=>((J[i]?).bind id).bind fun l=>if d.imm then(eS l R d).map fun O=>(.nx,J.set i (some O))else none
 | .pop i j,J=>((J[i]?).bind id).bind fun l=>match l with
  | .lst xs=>(xs[xs.length-1]?).map fun d=>(.nx,(J.set i (some (.lst xs.dropLast))).set j (some d))
  | _=>none
 | .aug i o e,J=>((J[i]?).bind id).bind fun x=>(ev cl J e).bind fun y=>match x,y with
  | .int a,.int b=>(aF o (.int a) (.int b)).map fun z=>(.nx,J.set i (some z))
  | _,_=>none
 | .ife t a b,J=>((ev cl J t).bind truth).bind fun k=>if k then af cl M a J else af cl M b J
 | .ifp i e a b,J=>((J[i]?).bind id).bind fun l=>match l with
  | .lst xs=>(xs[xs.length-1]?).bind fun d=>(ev cl (J.set i (some (.lst xs.dropLast))) e).bind fun y=>match d,y with
   | .int p,.int q=>if decide (p=q)then af cl M b (J.set i (some (.lst xs.dropLast)))else af cl M a (J.set i (some (.lst xs.dropLast)))
   | _,_=>none
  | _=>none
 | .forr tg it b,J=>(bE cl J it).bind fun ds=>bp (af cl M b) tg ds J
 | .whil t b,J=>whF (fun J=>(ev cl J t).bind truth) (af cl M b) most J
 | .mexc f es ps ms,J=>(evs cl J es).bind fun ds=>if eW M ps 0 es ds then(cl f ds).bind fun r=>match r with
  | .tup (_::outs)=>(bI ms outs J).map fun I=>(.nx,I)
  | _=>none
  else none
 | .ret e,J=>(ev cl J e).bind fun d=>if bf M e d then some (.rt d,J)else none
 | .exc e,J=>(ev cl J e).map fun _=>(.nx,J)
 | .rais _ _,_=>none
 | .tryc b c i h,J=>match af cl M b J with
  | some p=>some p
  | none=>(bY cl M b J).bind fun q=>if i8 q.1 c then(af cl M h (q.2.set i (some (.exc q.1)))).map fun r=>(r.1,r.2.set i none)else none
noncomputable def af(cl:Cl)(M:List Nat):Ss->St->Option (Out × St)
 | .nil,J=>some (.nx,J)
 | .cons s r,J=>(evS cl M s J).bind fun p=>match p.1 with
  | .nx=>af cl M r p.2
  | .rt d=>some (.rt d,p.2)
 | .opn j e r,J=>(ev cl J e).bind fun d=>if aG d&&aM e then yt cl M (j::M) r (J.set j (some d))else none
 | .act i _ tbl a es,J=>((ev cl J a).bind (BC tbl)).bind fun f=>(evs cl (J.set i none) es).bind fun ds=>(cl f ds).bind fun d=>if d.imm then some (.rt d,J)else none
noncomputable def yt(cl:Cl)(M:List Nat):List Nat->Sq->St->Option (Out × St)
 | _,.cls r,J=>af cl M r J
 | M1,.cons s r,J=>(evS cl M1 s J).bind fun p=>match p.1 with
  | .nx=>yt cl M M1 r p.2
  | .rt _=>none
 | M1,.opn j e r,J=>(ev cl J e).bind fun d=>if aG d&&aM e then yt cl M (j::M1) r (J.set j (some d))else none
 | _,.frz j r,J=>(((J[j]?).bind id).bind HA).bind fun d=>af cl M r (J.set j (some d))
 | M1,.fz j r,J=>(((J[j]?).bind id).bind HA).bind fun d=>yt cl M M1.tail r (J.set j (some d))
noncomputable def qS(cl:Cl)(M:List Nat):S->St->Option (Str × St)
 | .asg _ e,J=>(evX cl J e).map fun x=>(x,J)
 | .own _ e,J=>(evX cl J e).map fun x=>(x,J)
 | .unp _ e,J=>(evX cl J e).map fun x=>(x,J)
 | .exc e,J=>(evX cl J e).map fun x=>(x,J)
 | .ret e,J=>(evX cl J e).map fun x=>(x,J)
 | .ife t a b,J=>((ev cl J t).bind truth).bind fun k=>if k then bY cl M a J else bY cl M b J
 | .forr tg it b,J=>(bE cl J it).bind fun ds=>j4 (af cl M b) (bY cl M b) tg ds J
 | .rais c ps,J=>(evs cl J ps).bind fun ds=>if ds.all written then some (c,J)else none
 | _,_=>none
noncomputable def bY(cl:Cl)(M:List Nat):Ss->St->Option (Str × St)
 | .nil,_=>none
 | .cons s r,J=>match evS cl M s J with
  | some p=>match p.1 with
   | .nx=>bY cl M r p.2
   | .rt _=>none
  | none=>qS cl M s J
 | .opn _ _ _,_=>none
 | .act _ _ _ _ _,_=>none
end
def aY:ev cl J (.var i)=((J[i]?).bind id):=rfl
def du:ev cl J (.cst d)=(some d):=rfl
def K6:ev cl J (.glb y1 i)=(some (.int i)):=rfl
def cZ:ev cl J (.bin o a b)=((ev cl J a).bind fun x=>(ev cl J b).bind fun y=>aF o x y):=rfl
def eL:ev cl J (.cmp c a b)=((ev cl J a).bind fun x=>(ev cl J b).bind fun y=>(bc c x y).map .bl):=rfl
def qC:ev cl J (.chain c c' a b e)=((ev cl J a).bind fun x=>(ev cl J b).bind fun y=>(bc c x y).bind fun k=>if k then(ev cl J e).bind fun z=>(bc c' y z).map .bl else some (.bl false)):=rfl
def Kt:ev cl J (.isN neg a)=((ev cl J a).bind (FO neg)):=rfl
def KD:ev cl J (.inn neg a b)=((ev cl J a).bind fun x=>(ev cl J b).bind fun y=>(inV x y).map fun k=>.bl (if neg then !k else k)):=rfl
def xW:ev cl J (.inD neg a b)=((ev cl J a).bind fun x=>(ev cl J b).bind fun y=>(qI y x).map fun k=>.bl (if neg then !k else k)):=rfl
def p6:ev cl J (.and a b)=((ev cl J a).bind (xl (ev cl J b))):=rfl
def yu:ev cl J (.or a b)=((ev cl J a).bind (orV (ev cl J b))):=rfl
def sr:ev cl J (.not a)=(((ev cl J a).bind truth).map fun k=>.bl (!k)):=rfl
def yj:ev cl J (.ifx t a b)=(((ev cl J t).bind truth).bind fun k=>if k then ev cl J a else ev cl J b):=rfl
def mX:ev cl J (.tup es)=((evs cl J es).map .tup):=rfl
def mR:ev cl J (.lst es)=((evs cl J es).map .lst):=rfl
def kT:ev cl J (.ix a b)=((ev cl J a).bind fun x=>(ev cl J b).bind fun y=>ixV x y):=rfl
def xY:ev cl J (.ixD a b)=((ev cl J a).bind fun x=>(ev cl J b).bind fun y=>lY x y):=rfl
def Dy:ev cl J (.slT a b)=((ev cl J a).bind fun x=>(ev cl J b).bind fun y=>kI x y):=rfl
def cX:ev cl J (.call f es)=((evs cl J es).bind fun ds=>cl f ds):=rfl
def iu:ev cl J (.bi b a)=((ev cl J a).bind fun x=>biV b x):=rfl
def Ke:ev cl J (.max a b)=((ev cl J a).bind fun x=>(ev cl J b).bind fun y=>Cf x y):=rfl
def KA:ev cl J (.isi a t)=((ev cl J a).bind fun x=>(gy t x).map .bl):=rfl
def pB:ev cl J (.rng1 a)=((ev cl J a).bind fun x=>(cb (.int 0) x).map .lst):=rfl
def A8:ev cl J (.rng2 a b)=((ev cl J a).bind fun x=>(ev cl J b).bind fun y=>(cb x y).map .lst):=rfl
def Jw:ev cl J (.rng3 c a b)=((ev cl J a).bind fun x=>(ev cl J b).bind fun y=>(gM c x y).map .lst):=rfl
def Kz:ev cl J (.neg a)=((ev cl J a).bind Cz):=rfl
def pD:ev cl J (.comp e tg it c)=((bE cl J it).bind fun ds=>(fits ds).bind fun ds=>(bX (fun I=>((ev cl I c).bind truth).bind fun k=>if k then(ev cl I e).map some else some none) tg J ds).map .lst):=rfl
def m9:ev cl J (.compA e tg it)=((bE cl J it).bind fun ds=>(fits ds).bind fun ds=>(bX (fun I=>(ev cl I e).map some) tg J ds).map .lst):=rfl
def Kn:ev cl J (.dk0)=(some (.dK [] [])):=rfl
def Ku:ev cl J (.dt0)=(some (.dT [] [])):=rfl
def fS:evS cl M (.asg i e) J=((ev cl J e).bind fun d=>if aX M e d then some (.nx,J.set i (some d))else none):=rfl
def oR:evS cl M (.own i e) J=((ev cl J e).bind fun d=>if aG d&&aM e then some (.nx,J.set i (some d))else none):=rfl
def Kb:evS cl M (.unp is e) J=((ev cl J e).bind fun d=>(items d).bind fun ds=>if au ds then(bI is ds J).map fun I=>(.nx,I)else none):=rfl
def Kr:evS cl M (.par i j a b) J=((ev cl J a).bind fun x=>(ev cl J b).bind fun y=>if x.imm&&y.imm then some (.nx,(J.set i (some x)).set j (some y))else none):=rfl
def xG:evS cl M (.app i e) J=((ev cl J e).bind fun d=>((J[i]?).bind id).bind fun l=>match l with
  | .lst xs=>if d.imm&&decide (xs.length<most)then some (.nx,J.set i (some (.lst (xs++[d]))))else none
  | _=>none):=rfl
def mO:evS cl M (.put i k e) J=((ev cl J e).bind fun d=>(ev cl J k).bind fun O=>((J[i]?).bind id).bind fun l=>if d.imm then(eS l O d).map fun I=>(.nx,J.set i (some I))else none):=rfl
def s_pop:evS cl M (.pop i j) J=(((J[i]?).bind id).bind fun l=>match l with
  | .lst xs=>(xs[xs.length-1]?).map fun d=>(.nx,(J.set i (some (.lst xs.dropLast))).set j (some d))
  | _=>none):=rfl
def Kd:evS cl M (.aug i o e) J=(((J[i]?).bind id).bind fun x=>(ev cl J e).bind fun y=>match x,y with
  | .int a,.int b=>(aF o (.int a) (.int b)).map fun z=>(.nx,J.set i (some z))
  | _,_=>none):=rfl
def gK:evS cl M (.ife t a b) J=(((ev cl J t).bind truth).bind fun k=>if k then af cl M a J else af cl M b J):=rfl
def Ki:evS cl M (.ifp i e a b) J=(((J[i]?).bind id).bind fun l=>match l with
  | .lst xs=>(xs[xs.length-1]?).bind fun d=>(ev cl (J.set i (some (.lst xs.dropLast))) e).bind fun y=>match d,y with
   | .int p,.int q=>if decide (p=q)then af cl M b (J.set i (some (.lst xs.dropLast)))else af cl M a (J.set i (some (.lst xs.dropLast)))
   | _,_=>none
  | _=>none):=rfl
def iY:evS cl M (.forr tg it b) J=((bE cl J it).bind fun ds=>bp (af cl M b) tg ds J):=rfl
def Ih:evS cl M (.whil t b) J=(whF (fun J=>(ev cl J t).bind truth) (af cl M b) most J):=rfl
def FH:evS cl M (.mexc f es ps ms) J=((evs cl J es).bind fun ds=>if eW M ps 0 es ds then(cl f ds).bind fun r=>match r with
  | .tup (_::outs)=>(bI ms outs J).map fun I=>(.nx,I)
  | _=>none
  else none):=rfl
def dA:evS cl M (.ret e) J=((ev cl J e).bind fun d=>if bf M e d then some (.rt d,J)else none):=rfl
def mD:evS cl M (.exc e) J=((ev cl J e).map fun _=>(.nx,J)):=rfl
def Gr:evS cl M (.rais y1 y2) J=(none):=rfl
def zY:evS cl M (.tryc b c i h) J=(match af cl M b J with
  | some p=>some p
  | none=>(bY cl M b J).bind fun q=>if i8 q.1 c then(af cl M h (q.2.set i (some (.exc q.1)))).map fun r=>(r.1,r.2.set i none)else none):=rfl
def Mo:aF .add (.str a) (.str b)=(if a.length+b.length<=most then some (.str (a++b))else none):=rfl
def CB:aF .add (.lst a) (.lst b)=(if a.length+b.length<=most then some (.lst (a++b))else none):=rfl
def C5:aF .mul (.int a) (.int b)=(if(-(2 ^ 64)<a/\a<2 ^ 64)\/(-(2 ^ 64)<b/\b<2 ^ 64)then some (.int (a*b))else none):=rfl
def IA:aF .mul (.lst a) (.int b)=(if 0<=b/\b<=most/\a.length*b.toNat<=most then some (.lst (replicate b.toNat a).flatten)else none):=rfl
def L6:aF .fdiv (.int a) (.int b)=(if 0<b/\b<2 ^ 200 then some (.int (a / b))else none):=rfl
def Md:aF .mod (.int a) (.int b)=(if 0<b then some (.int (a%b))else none):=rfl
def IK:bc .ge (.int a) (.int b)=(some (decide (b<=a))):=rfl
def GI:bc .eq a b=(eqD 8 a b):=rfl
def Mk:eS (.lst xs) (.int k) d=((nY xs.length k).map fun j=>.lst (xs.set j d)):=rfl
def HH:eS (.dK ks vs) k d=((keyOf k).bind fun k=>if ks.length<most then some (.dK (putD ks vs k d).1 (putD ks vs k d).2)else none):=rfl
def FY:eS (.dT ks vs) (.tup k) d=((keysOf k).bind fun k=>if ks.length<most then some (.dT (putD ks vs k d).1 (putD ks vs k d).2)else none):=rfl
def gB:bu [i] d J=some (J.set i (some d)):=rfl
def IV:bu (a::b::t) (.tup ds) J=bI (a::b::t) ds J:=rfl
def GW:bI [] [] J=some J:=rfl
def Ic:bI (i::is) (d::ds) J=bI is ds (J.set i (some d)):=rfl
def yc:eqD n (.int a) (.int b)=some (a == b):=by cases n<;>rfl
def xO:eqD n (.str a) (.str b)=some (a == b):=by cases n<;>rfl
def x9:eqD n (.bl a) (.bl b)=some (a == b):=by cases n<;>rfl
def L7:eqD (n+1) (.tup a) (.tup b)=(eqs (eqD n) a b).map fun k=>k&&a.length == b.length:=rfl
def Lv:eqD (n+1) (.lst a) (.lst b)=(eqs (eqD n) a b).map fun k=>k&&a.length == b.length:=rfl
def Kp:biV .len (.lst xs)=some (.int xs.length):=rfl
def CV:biV .len (.tup xs)=some (.int xs.length):=rfl
def J7:biV .list d=(items d).map .lst:=rfl
def qo:biV .tuple d=(items d).map .tup:=rfl
def FI:biV .int (.bl b)=some (.int (if b then 1 else 0)):=rfl
def LJ:biV .all (.lst xs)=(dQ xs).map fun bs=>.bl (bs.all id):=rfl
def Dz:biV .lenSet (.lst xs)=if xs.length<=1000 then(dZ xs).map fun is=>.int (fO is).length else none:=rfl
def D9:biV .len (.str x)=if x.length<=most then some (.int x.length)else none:=rfl
def Ln:avE M (.call f es)=true:=rfl
def Ij:avE M (.ifx t a b)=(avE M a&&avE M b):=rfl
def xV:avE M (.var j)=!M.contains j:=rfl
set_option autoImplicit false
structure Fn where
 ps:Nat
 nn:Nat
 M:List Nat
 mp:List Nat
 body:Ss
abbrev jk(J:St):List Nat->Option (List D)
 | []=>some []
 | i::is=>((J[i]?).bind id).bind fun d=>(jk J is).map (d :: ·)
abbrev bh(fn:Fn)(d:D)(J:St):Option D :=
 if fn.mp.isEmpty then some d else if d.imm then(jk J fn.mp).map fun os=>.tup (d::os)else none
abbrev ak(T:List Fn):Nat->Cl
 | 0,_,_=>none
 | n+1,f,ds=>match T[f]? with
  | some fn=>if ds.length=fn.ps then(af (ak T n) fn.M fn.body (ds.map some++replicate (fn.nn-fn.ps) none)).bind fun p=>match p.1 with
   | .nx=>bh fn .non p.2
   | .rt d=>bh fn d p.2
   else none
  | none=>(T[f-1000]?).bind fun fn=>if ds.length=fn.ps/\fn.mp=[]then(bY (ak T n) fn.M fn.body (ds.map some++replicate (fn.nn-fn.ps) none)).map fun p=>.str p.1 else none
end RL
namespace RT
open RL
abbrev jK:Fn :=
 ⟨1,1,[],[],%[.ret (.and (.isi 0#0 .int) (.not (.isi 0#0 .bool)))|_]⟩
abbrev eR(I:Nat):Fn :=
 ⟨1,1,[],[],%[.ret (.and (.call I %[0#0|_]) (.chain .le .le 1#1 0#0 (.glb "MOST_PEGS" 10)))|_]⟩
abbrev cW(I:Nat):Fn :=
 ⟨1,1,[],[],%[.ife (.not (.call I %[0#0|_])) %[.rais "BadPegs" %[.glb "MOST_PEGS" 10|_]|_] .nil|_]⟩
abbrev mj:Fn :=
 ⟨1,1,[],[],%[.ret (.bin .fdiv (.bi .len 0#0) 2#1)|_]⟩
abbrev iM(I:Nat):Fn :=
 ⟨1,1,[],[],%[.exc (.call I %[0#0|_]),.ret (.bi .tuple (.bin .add (.rng2 0#0 (.bin .mul 2#1 0#0)) (.rng1 0#0)))|_]⟩
abbrev lP:Fn :=
 ⟨1,3,[],[],%[.asg 1 (.bin .mod (.bin .add (.bin .mul 0#0 48271#1) 11#1) 2147483647#1),.asg 2 (.bin .mod (.bin .add (.bin .add (.bin .mul 1#0 1#0) (.bin .mul 40692#1 1#0)) 0#0) 2147483399#1),.ret (.bin .mod (.bin .add (.bin .add (.bin .mul 2#0 2#0) (.bin .mul 69621#1 2#0)) 1#0) 2147483563#1)|_]⟩
abbrev kZ(I:Nat):Ss :=
 %[.asg 3 (.bin .add (.bin .mul 3#0 2147483563#1) (.call I %[.bin .add (.bin .add 2#0 (.bin .mul 1009#1 1#0)) (.bin .mul 7919#1 4#0)|_]))|_]
abbrev lJ(I:Nat):Fn :=
 ⟨2,5,[],[],%[.asg 2 (.bin .add (.bin .mul 7#1 1#0) 3#1),.ife (.cmp .gt (.bi .len 0#0) 0#1) %[.asg 2 (.bin .add (.ix 0#0 (.bin .mod 1#0 (.bi .len 0#0))) (.bin .mul 9973#1 (.bin .fdiv 1#0 (.bi .len 0#0))))|_] .nil,.ife (.and (.cmp .lt 1#0 (.bi .len 0#0)) (.cmp .ge 2#0 (.bin .pow 10#1 18#1))) %[.ret (.bin .sub 2#0 (.bin .pow 10#1 18#1))|_] .nil,.asg 3 0#1,.forr [4] (.rng1 40#1) (kZ I),.ret 3#0|_]⟩
abbrev iw(I:Nat):Ss :=
 %[.app 4 (.bin .mod 3#0 5#0),.asg 3 (.bin .fdiv 3#0 5#0)|_]
abbrev fP(I:Nat):Fn :=
 ⟨3,6,[4],[],%[.asg 3 (.call I %[0#0,1#0|_]),.own 4 (.lst .nil),.forr [5] (.seq 2#0) (iw I),.ret 4#0|_]⟩
abbrev gd(I:Nat):Fn :=
 ⟨1,2,[],[],%[.ret (.and (.isi 0#0 .tuple) (.bi .all (.compA (.call I %[0#0,1#0|_]) [1] (.rng1 (.bi .len 0#0)))))|_]⟩
abbrev fX(I:Nat):Fn :=
 ⟨2,3,[],[],%[.asg 2 (.ix 0#0 1#0),.ret (.and (.call I %[2#0|_]) (.and (.chain .le .lt 0#1 2#0 (.bi .len 0#0)) (.cmp .eq (.ix 0#0 2#0) 1#0)))|_]⟩
abbrev bT:Ss :=
 %[.ife (.cmp .gt 3#0 2#0) %[.app 1 2#0|_] %[.ife (.cmp .eq 3#0 2#0) %[.ife 1#0 %[.ret (.cst (.bl false))|_] .nil|_] %[.ifp 1 3#0 %[.ret (.cst (.bl false))|_] .nil|_]|_]|_]
abbrev eQ:Fn :=
 ⟨1,4,[1],[],%[.own 1 (.lst .nil),.forr [2,3] (.enm 0#0) (bT),.ret (.cst (.bl true))|_]⟩
abbrev iC(I U R O Y:Nat):Fn :=
 ⟨1,5,[],[],%[.asg 1 (.call Y %[0#0|_]),.ife (.or (.cmp .ne (.bi .len 0#0) (.bin .mul 2#1 1#0)) (.or (.not (.call O %[1#0|_])) (.not (.call R %[0#0|_])))) %[.ret (.cst (.bl false))|_] .nil,.asg 2 (.comp 3#0 [3,4] (.enm 0#0) (.cmp .eq 3#0 4#0)),.ret (.and (.not 2#0) (.call I %[.call U %[0#0|_]|_]))|_]⟩
abbrev fk(I:Nat):Fn :=
 ⟨1,1,[],[],%[.ife (.not (.call I %[0#0|_])) %[.rais "BadFrame" .nil|_] .nil|_]⟩
abbrev j0(O I:Nat):Fn :=
 ⟨1,3,[],[],%[.exc (.call I %[0#0|_]),.asg 1 (.call O %[0#0|_]),.ret (.bi .len (.comp 2#0 [2] (.seq (.slT 0#0 1#0)) (.cmp .ge 2#0 1#0)))|_]⟩
abbrev dP:Fn :=
 ⟨2,2,[],[],%[.ret (.ifx (.cmp .lt 1#0 0#0) 1#0 (.bin .sub (.bin .sub (.bin .mul 3#1 0#0) 1#1) 1#0))|_]⟩
abbrev gc(R I O:Nat):Fn :=
 ⟨1,3,[],[],%[.asg 1 (.call O %[0#0|_]),.ret (.call R %[0#0,.compA (.call I %[1#0,2#0|_]) [2] (.rng1 (.bin .mul 2#1 1#0))|_])|_]⟩
abbrev oA:Ss :=
 %[.put 2 (.ix 1#0 3#0) (.ix 1#0 4#0)|_]
abbrev kd:Fn :=
 ⟨2,5,[2],[],%[.own 2 (.bin .mul (.lst %[0#1|_]) (.bi .len 0#0)),.forr [3,4] (.enm 0#0) (oA),.ret (.bi .tuple 2#0)|_]⟩
abbrev fh:Fn :=
 ⟨1,2,[],[],%[.ret (.bi .tuple (.bin .add (.compA (.bin .add 0#0 1#0) [1] (.rng1 0#0)) (.rng1 0#0)))|_]⟩
abbrev nE(I:Nat):Ss :=
 %[.put 2 3#0 (.bin .add 3#0 1#1),.put 2 (.bin .add 3#0 1#1) 3#0|_]
abbrev iD(I:Nat):Fn :=
 ⟨2,4,[2],[],%[.own 2 (.bi .list (.call I %[0#0|_])),.forr [3] (.seq (.tup %[1#0,.bin .add 0#0 1#0|_])) (nE I),.ret (.bi .tuple 2#0)|_]⟩
abbrev fY:Fn :=
 ⟨1,1,[],[],%[.ret (.bin .add (.rng1 0#0) (.rng3 (-1) (.bin .sub (.bin .mul 2#1 0#0) 1#1) (.bin .sub 0#0 1#1)))|_]⟩
abbrev dH(I:Nat):Ss :=
 %[.ife (.cmp .eq 6#0 (.cst (.str "("))) %[.app 4 (.ix 2#0 5#0)|_] %[.pop 4 8,.put 3 8#0 (.ix 2#0 5#0),.put 3 (.ix 2#0 5#0) 8#0|_]|_]
abbrev eh(I:Nat):Fn :=
 ⟨1,9,[3,4],[],%[.asg 1 (.bin .fdiv (.bi .len 0#0) 2#1),.asg 2 (.call I %[1#0|_]),.own 3 (.compA 0#1 [7] (.seq 2#0)),.own 4 (.lst .nil),.forr [5,6] (.enm 0#0) (dH I),.ret (.bi .tuple 3#0)|_]⟩
abbrev gP:Ss :=
 %[.par 0 6 (.bin .fdiv 0#0 2#1) (.bin .mod 0#0 2#1),.asg 5 (.or (.cmp .eq 3#0 0#1) (.and (.cmp .lt 3#0 4#0) (.cmp .eq 6#0 1#1))),.asg 2 (.bin .add 2#0 (.ix (.lst %[.cst (.str ")"),.cst (.str "(")|_]) (.bi .int 5#0))),.asg 3 (.bin .add 3#0 (.ix (.lst %[.neg 1#1,1#1|_]) (.bi .int 5#0)))|_]
abbrev k7:Fn :=
 ⟨2,7,[],[],%[.asg 2 (.cst (.str "")),.asg 3 0#1,.forr [4] (.rng3 (-1) (.bin .mul 2#1 1#0) 0#1) (gP),.ret 2#0|_]⟩
abbrev gi:Ss :=
 %[.ife (.cmp .eq (.ixD 4#0 7#0) 9#0) %[.put 4 7#0 8#0|_] .nil|_]
abbrev gb:Ss :=
 %[.par 8 9 (.ixD 4#0 5#0) (.ixD 4#0 6#0),.forr [7] (.seq 2#0) (gi)|_]
abbrev jD:Ss :=
 %[.forr [6] (.seq (.tup %[.ix 1#0 5#0,.bin .sub (.ix 0#0 (.bin .add 3#0 5#0)) 3#0|_])) (gb)|_]
abbrev j5:Ss :=
 %[.put 4 5#0 5#0|_]
abbrev gq:Fn :=
 ⟨3,10,[4],[],%[.asg 3 (.bin .fdiv (.bi .len 0#0) 2#1),.own 4 .dk0,.forr [5] (.seq 2#0) (j5),.forr [5] (.seq 2#0) (jD),.ret (.bi .lenSet (.compA (.ixD 4#0 5#0) [5] (.seq 2#0)))|_]⟩
abbrev eZ(I:Nat):Ss :=
 %[.ife (.cmp .eq (.cmp .eq (.ix 7#0 0#1) (.cst (.str "high"))) (.cmp .ge (.ix 7#0 1#1) 2#0)) %[.put 6 (.bin .mod (.ix 7#0 1#1) 2#0) (.cst (.bl true)),.asg 7 (.ixD 3#0 (.tup %[.ix (.lst %[.cst (.str "high"),.cst (.str "low")|_]) (.bi .int (.cmp .eq (.ix 7#0 0#1) (.cst (.str "high")))),.bin .mod (.bin .add (.ix 7#0 1#1) 2#0) (.bin .mul 2#1 2#0)|_]))|_] .nil|_]
abbrev gJ(I:Nat):Ss :=
 %[.asg 7 (.ixD 3#0 (.tup %[.ix (.lst %[.cst (.str "high"),.cst (.str "low")|_]) (.bi .int (.cmp .ge 4#0 2#0)),4#0|_])),.forr [8] (.rng1 (.bin .mul 4#1 2#0)) (eZ I),.app 5 (.ix 7#0 1#1)|_]
abbrev gO(I:Nat):Ss :=
 %[.put 3 (.tup %[.cst (.str "high"),4#0|_]) (.tup %[.cst (.str "high"),.ix 0#0 4#0|_]),.put 3 (.tup %[.cst (.str "low"),4#0|_]) (.tup %[.cst (.str "low"),.ix 1#0 4#0|_])|_]
abbrev iE(I:Nat):Fn :=
 ⟨2,9,[3,5,6],[],%[.asg 2 (.bin .fdiv (.bi .len 0#0) 2#1),.own 3 .dt0,.forr [4] (.rng1 (.bin .mul 2#1 2#0)) (gO I),.own 5 (.lst .nil),.own 6 .dk0,.forr [4] (.rng1 (.bin .mul 2#1 2#0)) (gJ I),.ret (.tup %[.bi .tuple 5#0,.call I %[0#0,1#0,.comp 4#0 [4] (.rng1 2#0) (.inD true 4#0 6#0)|_]|_])|_]⟩
abbrev i5:Fn :=
 ⟨1,3,[],[],%[.asg 1 (.bin .fdiv (.bi .len 0#0) 2#1),.ret (.bi .tuple (.compA (.bin .mod (.bin .add (.ix 0#0 (.bin .mod (.bin .add 2#0 1#0) (.bin .mul 2#1 1#0))) 1#0) (.bin .mul 2#1 1#0)) [2] (.rng1 (.bin .mul 2#1 1#0))))|_]⟩
abbrev jM(Z Y I U a R O:Nat):Fn :=
 ⟨3,7,[],[],%[.unp [4,5,6] (.call O %[0#0,1#0,.lst %[8#1,.bin .pow 10#1 12#1,.max 1#1 (.bin .sub 2#0 1#1)|_]|_]),.ife (.cmp .eq 4#0 0#1) %[.ret (.call R %[2#0|_])|_] .nil,.ife (.and (.cmp .eq 4#0 1#1) (.cmp .gt 2#0 1#1)) %[.ret (.call a %[2#0,6#0|_])|_] .nil,.asg 3 (.call I %[.call U %[5#0,2#0|_]|_]),.ife (.cmp .eq 4#0 2#1) %[.ret (.ix (.call Z %[3#0,.call Y %[3#0|_]|_]) 0#1)|_] .nil,.ret 3#0|_]⟩
abbrev dI(I:Nat):Fn :=
 ⟨2,4,[],[],%[.ife (.isN false 1#0) %[.ret (.isN false 0#0)|_] .nil,.ife (.or (.cmp .ne (.isi 0#0 .bool) (.isi 1#0 .bool)) (.cmp .ne (.isi 0#0 .int) (.isi 1#0 .int))) %[.ret (.cst (.bl false))|_] .nil,.ife (.or (.cmp .ne (.isi 0#0 .list) (.isi 1#0 .list)) (.cmp .ne (.isi 0#0 .tuple) (.isi 1#0 .tuple))) %[.ret (.cst (.bl false))|_] .nil,.ife (.and (.not (.isi 1#0 .list)) (.not (.isi 1#0 .tuple))) %[.ret (.and (.cmp .eq (.isi 0#0 .str) (.isi 1#0 .str)) (.cmp .eq 0#0 1#0))|_] .nil,.ret (.and (.cmp .eq (.bi .len 0#0) (.bi .len 1#0)) (.bi .all (.compA (.call I %[2#0,3#0|_]) [2,3] (.zip 0#0 1#0))))|_]⟩
abbrev lM(U R O I:Nat):Fn :=
 ⟨1,1,[],[],%[.exc (.call I %[0#0|_]),.ret (.call U %[0#0,.call R %[.call O %[0#0|_]|_]|_])|_]⟩
abbrev Al:Ss :=
 %[.app 3 4#0,.asg 5 (.ifx (.cmp .eq (.bin .mod (.bi .len 3#0) 2#1) 0#1) 0#0 1#0),.asg 4 (.ix 5#0 4#0)|_]
abbrev m6:Fn :=
 ⟨3,6,[3],[],%[.own 3 (.lst %[2#0|_]),.asg 4 (.ix 1#0 2#0),.whil (.inn true 4#0 (.tup %[.ix 3#0 (.neg 1#1),2#0|_])) (Al),.ret 3#0|_]⟩
abbrev nF(I O:Nat):Ss :=
 %[.ife (.not (.ix 2#0 3#0)) %[.aug 4 .add 1#1,.mexc I %[2#0,.call O %[0#0,1#0,3#0|_]|_] [0] [2]|_] .nil|_]
abbrev nr(I O:Nat):Ss :=
 %[.ife (.cmp .eq (.ix 0#0 3#0) 3#0) %[.mexc I %[2#0,.call O %[0#0,1#0,3#0|_]|_] [0] [2]|_] .nil,.ife (.cmp .eq (.ix 1#0 3#0) 3#0) %[.mexc I %[2#0,.call O %[1#0,0#0,3#0|_]|_] [0] [2]|_] .nil|_]
abbrev iA(I O:Nat):Fn :=
 ⟨2,5,[2],[],%[.own 2 (.bin .mul (.lst %[.cst (.bl false)|_]) (.bi .len 0#0)),.forr [3] (.rng1 (.bi .len 0#0)) (nr I O),.asg 4 0#1,.forr [3] (.rng1 (.bi .len 0#0)) (nF I O),.ret 4#0|_]⟩
abbrev wY:Ss :=
 %[.put 0 2#0 (.cst (.bl true))|_]
abbrev pL:Fn :=
 ⟨2,3,[0,0],[0],%[.forr [2] (.seq 1#0) (wY)|_]⟩
abbrev hG(I:Nat):Fn :=
 ⟨2,2,[],[],%[.exc (.call I %[0#0|_]),.exc (.call I %[1#0|_]),.ife (.cmp .ne (.bi .len 0#0) (.bi .len 1#0)) %[.rais "BadPegs" .nil|_] .nil|_]⟩
abbrev zV(O I:Nat):Fn :=
 ⟨2,2,[],[],%[.exc (.call I %[0#0,1#0|_]),.ret (.call O %[0#0,1#0|_])|_]⟩
abbrev jJ(O U I R:Nat):Fn :=
 ⟨2,10,[],[],%[.asg 2 (.call R %[0#0|_]),.asg 3 (.bin .add (.bi .list 0#0) (.compA (.bin .add (.bin .mul 2#1 2#0) 8#0) [8] (.seq 1#0))),.asg 4 (.call I %[2#0|_]),.asg 5 (.bin .add (.rng1 2#0) (.rng2 (.bin .mul 3#1 2#0) (.bin .mul 4#1 2#0))),.asg 6 (.compA (.ix (.call U %[4#0,3#0,8#0|_]) (.neg 1#1)) [8] (.seq 5#0)),.asg 7 (.bi .tuple (.compA (.ifx (.cmp .lt 9#0 2#0) 9#0 (.bin .sub 9#0 (.bin .mul 2#1 2#0))) [9] (.seq 6#0))),.ret (.tup %[7#0,.call O %[4#0,3#0|_]|_])|_]⟩
abbrev fG:Fn :=
 ⟨1,5,[],[],%[.asg 1 (.rng1 0#0),.asg 2 (.rng2 0#0 (.bin .mul 2#1 0#0)),.asg 3 (.rng2 (.bin .mul 2#1 0#0) (.bin .mul 3#1 0#0)),.asg 4 (.rng2 (.bin .mul 3#1 0#0) (.bin .mul 4#1 0#0)),.ret (.bin .add (.bin .add (.bin .add 1#0 3#0) 2#0) 4#0)|_]⟩
abbrev iU(I:Nat):Fn :=
 ⟨4,5,[],[],%[.ret (.compA (.call I %[0#0,.bin .add 1#0 4#0,2#0|_]) [4] (.rng1 3#0))|_]⟩
abbrev lF(I R O:Nat):Fn :=
 ⟨1,1,[],[],%[.ret (.and (.call O %[.bi .len 0#0|_]) (.and (.call R %[0#0|_]) (.call I %[0#0|_])))|_]⟩
abbrev gY:Fn :=
 ⟨1,3,[],[],%[.asg 1 (.bin .fdiv (.bi .len 0#0) 2#1),.ret (.bi .tuple (.compA (.ix (.lst %[.ix 0#0 2#0,2#0|_]) (.bi .int (.cmp .ge (.ix 0#0 2#0) 1#0))) [2] (.rng1 1#0)))|_]⟩
abbrev nB(I O:Nat):Fn :=
 ⟨1,1,[],[],%[.ret (.call I %[.call O %[0#0|_]|_])|_]⟩
end RT
namespace M
abbrev hg(l r:Nat)(g:Nat->Nat):Nat->Nat:=fun x=>if g l=r then g x else if x=r then l else if x=l then r else if x=g r then g l else if x=g l then g r else g x
section
def Ip(e:g l=r):hg l r g=g:=by funext x;unfold hg;rw[if_pos e]
def CH(I:l≠r):hg l r g l=r:=by
 unfold hg;by_cases e:g l=r
 ·rw[if_pos e,e]
 ·rw[if_neg e,if_neg I,if_pos rfl]
def BU(I:l≠r)(h:∀ x,g (g x)=x):hg l r g r=l:=by
 unfold hg;by_cases e:g l=r
 ·rw[if_pos e,<-e,h]
 ·rw[if_neg e,if_pos rfl]
def sw{g:Nat->Nat}{x y:Nat}(h:∀ x,g (g x)=x):g x=y↔x=g y:=#[fun z=>by rw[<-z,h],fun z=>by rw[z,h]]
abbrev wk(l r:Nat)(g:Nat->Nat)(y:Nat):Nat:=if y=r then g l else if y=l then g r else y
def uY(h:∀ x,g (g x)=x)(a:x≠l)(b:x≠r):hg l r g x=wk l r g (g x):=by
 unfold hg wk;rw[if_neg b,if_neg a];by_cases e:g l=r
 ·rw[if_pos e,if_neg fun z=>a (by rw[<-h x,z,<-e,h]),if_neg fun z=>b (by rw[<-h x,z,e])]
 ·rw[if_neg e];simp only[sw h]
def DD(a:y≠l)(b:y≠r):wk l r g y=y:=by
 unfold wk;rw[if_neg b,if_neg a]
def GH(I:l≠r)(h:∀ x,g (g x)=x)(R:g l≠l)(O:g r≠r)(x:Nat):hg l r g (hg l r g x)=x:=by
 by_cases e:g l=r
 ·rw[Ip e];exact h x
 by_cases a:x=l
 ·rw[a,CH I,BU I h]
 by_cases b:x=r
 ·rw[b,BU I h,CH I]
 rw[uY h a b];have e':g r≠l:=fun z=>e (by rw[<-z,h]);by_cases c:g x=r
 ·rw[c,wk,if_pos rfl,uY h R e,h,wk,if_neg I,if_pos rfl,<-c,h]
 by_cases d:g x=l
 ·rw[d,wk,if_neg I,if_pos rfl,uY h e' O,h,wk,if_pos rfl,<-d,h]
 rw[DD d c,uY h d c,h,DD a b]
def Ba(I:l≠r)(h:∀ x,g (g x)=x)(R:g l≠l)(O:g r≠r)(nx:g x≠x):hg l r g x≠x:=by
 by_cases a:x=l
 ·rw[a,CH I];exact I.symm
 by_cases b:x=r
 ·rw[b,BU I h];exact I
 rw[uY h a b,wk];by_cases c:g x=r
 ·rw[if_pos c];exact fun z=>I (by rw[<-c,<-z,h])
 ·rw[if_neg c];by_cases d:g x=l
  ·rw[if_pos d];exact fun z=>c (by rw[<-z,h])
  ·rw[if_neg d];exact nx
end
end M
namespace RL
abbrev evF(cl:Cl)(fn:Fn)(ds:List D):Option D:=if ds.length=fn.ps then(af cl fn.M fn.body (ds.map some++replicate (fn.nn-fn.ps) none)).bind fun p=>match p.1 with
  | .nx=>bh fn .non p.2
  | .rt d=>bh fn d p.2
  else none
def ao(h:T[f]?=some fn):ak T (n+1) f ds=evF (ak T n) fn ds:=by
 rw[ak,h];rfl
abbrev L(xs:List Nat):List D:=xs.map fun(i:Nat)=>.int (i:Int)
def wW(I:List D->St->Prop):∀ (ds done:List D) (J:St),(∀ pre d post J,done++ds=pre++d::post->I pre J->d.imm=true/\∃ O,(bu tg d J).bind f=some (.nx,O)/\I (pre++[d]) O)->I done J->∃ R,bp f tg ds J=some (.nx,R)/\I (done++ds) R
 | [],done,J,_,h=>#[J,rfl,by simpa using h]
 | d::ds,done,J,hs,h=>by
  obtain⟨Z,O,U,g⟩:=hs done d ds J rfl h;obtain⟨R,c,b⟩:=wW I ds (done++[d]) O (fun pre e post J a=>hs pre e post J (by simpa using a)) g;refine#[R,?_,by simpa using b];rw[bp,if_pos Z]
  cases hb:bu tg d J with
  | none=>rw[hb]at U;cases U
  |some Y=>
   rw[hb]at U;simp only[Option.bind_some]at U ⊢;rw[U];exact c
def E2(I:List D->St->Prop)(Y:I [] J)(U:∀ pre d post J,ds=pre++d::post->I pre J->d.imm=true/\∃ O,(bu tg d J).bind f=some (.nx,O)/\I (pre++[d]) O):∃ R,bp f tg ds J=some (.nx,R)/\I ds R :=
 wW I ds [] J (by simpa using U) Y
@[simp] theorem tf_lst:aM (.lst a)=true:=rfl
@[simp] theorem tf_tup:aM (.tup a)=true:=rfl
@[simp] theorem tf_comp:aM (.comp a b c d)=true:=rfl
@[simp] theorem tf_compA:aM (.compA a b c)=true:=rfl
@[simp] theorem tf_bin:aM (.bin a b c)=true:=rfl
@[simp] theorem tf_slT:aM (.slT a b)=true:=rfl
@[simp] theorem tf_call:aM (.call a b)=true:=rfl
@[simp] theorem tf_bi:aM (.bi a b)=true:=rfl
@[simp] theorem tf_rng1:aM (.rng1 a)=true:=rfl
@[simp] theorem tf_rng2:aM (.rng2 a b)=true:=rfl
@[simp] theorem tf_rng3:aM (.rng3 a b c)=true:=rfl
@[simp] theorem tf_dk0:aM .dk0=true:=rfl
@[simp] theorem tf_dt0:aM .dt0=true:=rfl
end RL
namespace RM
open RL RT
section basics
def fB:bc .lt (.int a) (.int b)=some (decide (a<b)):=rfl
def xB:bc .le (.int a) (.int b)=some (decide (a<=b)):=rfl
def qG:bc .gt (.int a) (.int b)=some (decide (b<a)):=rfl
def kB:bc .ge (.int a) (.int b)=some (decide (b<=a)):=rfl
def dF:bc .eq (.int a) (.int b)=some (a == b):=rfl
def CQ:bc .ne (.int a) (.int b)=some (!(a == b)):=rfl
def cO:aF .add (.int a) (.int b)=some (.int (a+b)):=rfl
def lj:aF .sub (.int a) (.int b)=some (.int (a-b)):=rfl
def fV(h:0<b):aF .mod (.int a) (.int b)=some (.int (a%b)):=Md.trans (if_pos h)
def mw(h:0<b)(h':b<2 ^ 200):aF .fdiv (.int a) (.int b)=some (.int (a / b)):=L6.trans (if_pos ⟨h,h'⟩)
def cm(O:-(2 ^ 64)<a)(I:a<2 ^ 64):aF .mul (.int a) (.int b)=some (.int (a*b)):=C5.trans (if_pos (.inl #[O,I]))
def yF(O:-(2 ^ 64)<b)(I:b<2 ^ 64):aF .mul (.int a) (.int b)=some (.int (a*b)):=C5.trans (if_pos (.inr #[O,I]))
def M7(k:Bool):truth (.bl k)=some k:=rfl
end basics
def ET(h:L xs=pre++d::post):∃ p x q,xs=p++x::q/\pre=L p/\d=.int (x:Nat)/\post=L q:=by
 obtain⟨p,r,rfl,U,R⟩:=List.map_eq_append_iff.mp h;obtain⟨x,q,rfl,O,I⟩:=List.map_eq_cons_iff.mp R;exact#[p,x,q,rfl,U.symm,O.symm,I.symm]
def xw:∀ {a b:List Nat},L a=L b->a=b
 | [],[],_=>rfl
 | [],_::_,h=>by simp[L]at h
 | _::_,[],h=>by simp[L]at h
 | x::a,y::b,h=>by
  unfold L at h;rw[map_cons,map_cons,List.cons.injEq]at h
  have I:(x:Int)=y:=by injection h.1
  rw[xw h.2,Int.ofNat_inj.mp I]
def dk(I:List Nat->St->Prop)(c:I [] J)(Y:∀ p x q J,xs=p++x::q->I p J->∃ O,(bu tg (.int (x:Nat)) J).bind f=some (.nx,O)/\I (p++[x]) O):∃ R,bp f tg (L xs) J=some (.nx,R)/\I xs R:=by
 obtain⟨R,e,p,Z,hi⟩:=E2 (ds:=L xs) (J:=J) (fun pre J=>∃ p,pre=L p/\I p J) ⟨[],rfl,c⟩ (by
  rintro pre d post J hd ⟨g,U,hi⟩;obtain⟨p,x,q,rfl,rfl,rfl,rfl⟩:=ET hd;have:=xw U;subst this;obtain⟨O,b,a⟩:=Y p x q J rfl hi
  exact#[rfl,O,b,p++[x],by simp[L],a])
 have:=xw Z;subst this;exact#[R,e,hi]
def aL(xs:List Nat):(L xs).length=xs.length:=by simp[L]
def sI(xs:List Nat)(i:Nat):(L xs)[i]?=(xs[i]?).map fun(i:Nat)=>.int (i:Int):=by simp[L]
def Kx(xs:List Nat)(i j:Nat):(L xs).set i (.int j)=L (xs.set i j):=by simp[L]
def aS:∀ xs:List Nat,au (L xs)=true
 | []=>rfl
 | x::xs=>by
  show((D.int x).imm&&au (L xs))=true;rw[aS xs];rfl
def dz(xs ys:List Nat):L (xs++ys)=L xs++L ys:=by simp[L]
def gH(xs:List α)(i:Nat):cF xs (i:Int)=xs[i]?:=by
 rfl
def vh(h:i<n):nY n (i:Int)=some i:=by
 unfold nY;rw[if_pos (Int.natCast_nonneg i),if_pos ⋯];rfl
def oB(a:Nat):∀ n:Nat,dC (a:Int) n=L (range' a n)
 | 0=>rfl
 | n+1=>by
  rw[dC,List.range'_succ];have:=oB (a+1) n;rw[show((a+1:Nat):Int)=(a:Int)+1 by lia]at this;rw[this];rfl
def dE{a b:Nat}(O:a<=1000)(I:b<=1000):cb (.int a) (.int b)=some (L (range' a (b-a))):=by
 dsimp only[cb]
 have:((b:Int)-a).toNat=b-a:=by lia
 rw[if_pos ⟨by unfold most;lia,by lia,by lia,by lia,by lia⟩,this,oB]
section
def rY(i:Int):evF cl jK [.int i]=some (.bl true):=rfl
def oq(h:∀ i:Int,cl f [.int i]=some (.bl true))(i:Int):evF cl (eR f) [.int i]=some (.bl (decide (1<=i/\i<=10))):=by
 simp[evF,eR,af,dA,p6,cX,qC,du,K6,aY,evs,h,xB,bf,D.imm,bh];by_cases I:1<=i<;>simp[I,D.imm,bh]
def qi(h:cl f [.int i]=some (.bl true)):evF cl (cW f) [.int i]=some .non:=by
 simp[evF,cW,af,gK,cX,sr,aY,evs,h,truth,bh]
def t6(xs:List D):evF cl mj [.tup xs]=some (.int (xs.length / 2)):=rfl
abbrev bb(n:Nat):List Nat:=range' n n++range' 0 n
def run_plain{f:Nat}{n:Nat}(hn:n<=10)(h:cl f [.int n]=some .non):evF cl (iM f) [.int n]=some (.tup (L (bb n))):=by
 have O:=dE (a:=n) (b:=2*n) ⋯ ⋯;rw[show 2*n-n=n by lia,show((2*n:Nat):Int)=2*(n:Int) by lia]at O;have I:=dE (a:=0) (b:=n) ⋯ ⋯
 have U:aF .mul (.int 2) (.int n)=some (.int (2*n)):=by
  rw[C5];rw[if_pos ⋯]
 have R:aF .add (.lst (L (range' n n))) (.lst (L (range' 0 n)))=some (.lst (L (bb n))):=by
  rw[CB];rw[if_pos (by simp[aL,most];lia),bb,dz]
 simp only[Int.natCast_zero]at I;simp[evF,iM,af,mD,dA,iu,cZ,du,pB,A8,aY,cX,evs,h,O,I,U,R,J7,qo,items,bf,D.imm,aS,bh]
abbrev at'(f:List Nat)(x:Nat):Nat:=(f[x]?).getD x
abbrev kN(f:List Nat)(l:Nat):List Nat:=if at' f l=l+1 then f else(((f.set (at' f l) (at' f (l+1))).set (at' f (l+1)) (at' f l)).set l (l+1)).set (l+1) l
structure Frm(n:Nat)(f:List Nat):Prop where
 len:f.length=2*n
 lt:∀ x,x<2*n->at' f x<2*n
 inv:∀ x,at' f (at' f x)=x
 no:∀ x,x<2*n->at' f x≠x
def jT(h:x<f.length):f[x]?=some (at' f x):=by simp[at',h]
def gZ(h:f.length<=x):at' f x=x:=by simp[at',h]
def eB(h:i<f.length):at' (f.set i j) x=if x=i then j else at' f x:=by
 unfold at';by_cases e:i=x
 ·subst e;simp[h]
 ·simp[e,Ne.symm e]
def qH(F:Frm n f)(hl:l+1<2*n):at' (kN f l)=M.hg l (l+1) (at' f):=by
 funext x;unfold kN M.hg;have a1:=F.lt l ⋯;have a2:=F.lt (l+1) hl;have hlen:=F.len;by_cases e:at' f l=l+1
 ·rw[if_pos e,if_pos e]
 ·rw[if_neg e,if_neg e,eB (by simp;lia),eB (by simp;lia),eB (by simp;lia),eB ⋯]
def CG:(kN f l).length=f.length:=by
 unfold kN;split
 ·rfl
 ·simp
def BK(F:Frm n f)(hl:l+1<2*n):Frm n (kN f l):=by
 have R:=F.no l ⋯;have O:=F.no (l+1) hl;refine#[by rw[CG];exact F.len,fun x I=>?_,fun x=>?_,fun x I=>?_]
 ·rw[qH F hl];unfold M.hg;have a1:=F.lt l ⋯;have a2:=F.lt (l+1) hl;have a3:=F.lt x I
  repeat' split
  all_goals lia
 ·rw[qH F hl];exact M.GH ⋯ F.inv R O x
 ·rw[qH F hl];exact M.Ba ⋯ F.inv R O (F.no x I)
end
section
def plain_at(n x:Nat):at' (bb n) x=if x<n then n+x else if x<2*n then x-n else x:=by
 unfold at' bb;by_cases I:x<n
 ·rw[getElem?_append_left (by simpa using I),if_pos I];simp[I]
 ·rw[Qm (by simpa using I),if_neg I];by_cases O:x<2*n
  ·rw[if_pos O];simp[show x-n<n by lia]
  ·rw[if_neg O];simp[show ¬ x-n<n by lia]
def lB(n:Nat):Frm n (bb n):=by
 refine#[by simp[bb];lia,fun x I=>?_,fun x=>?_,fun x I=>?_]
 ·rw[plain_at];repeat' split
  all_goals lia
 ·rw[plain_at,plain_at];repeat' split
  all_goals lia
 ·rw[plain_at];repeat' split
  all_goals lia
end
end RM
namespace RL
section
def aH:af cl M .nil J=some (.nx,J):=by rw[af]
def dO(h:evS cl M s J=some (.nx,QM))(k:af cl M r QM=res):af cl M (.cons s r) J=res:=by
 rw[af,h];exact k
def sC(h:evS cl M s J=some (.rt d,QM)):af cl M (.cons s r) J=some (.rt d,QM):=by
 rw[af,h];rfl
def aE(h:ev cl J e=some d)(ok:aX M e d=true)(k:af cl M r (J.set i (some d))=res):af cl M (.cons (.asg i e) r) J=res :=
 dO (by rw[fS,h];show(if aX M e d=true then _ else _)=_;rw[if_pos ok]) k
def ip(h:ev cl J e=some d)(ok:(aG d&&aM e)=true)(k:af cl M r (J.set i (some d))=res):af cl M (.cons (.own i e) r) J=res :=
 dO (by rw[oR,h];show(if(aG d&&aM e)=true then _ else _)=_;rw[if_pos ok]) k
def js(h:ev cl J e=some d)(k:af cl M r J=res):af cl M (.cons (.exc e) r) J=res :=
 dO (by rw[mD,h];rfl) k
def aU(h:ev cl J e=some d)(ok:bf M e d=true):af cl M (.cons (.ret e) r) J=some (.rt d,J) :=
 sC (by rw[dA,h];show(if bf M e d=true then _ else _)=_;rw[if_pos ok])
def fM(h:(ev cl J t).bind truth=some true)(I:af cl M a J=some (.nx,QM))(k:af cl M r QM=res):af cl M (.cons (.ife t a b) r) J=res :=
 dO (by rw[gK,h];exact I) k
def gw(h:(ev cl J t).bind truth=some true)(I:af cl M a J=some (.rt d,QM)):af cl M (.cons (.ife t a b) r) J=some (.rt d,QM) :=
 sC (by rw[gK,h];exact I)
def lW(h:(ev cl J t).bind truth=some false)(I:af cl M b J=some (.nx,QM))(k:af cl M r QM=res):af cl M (.cons (.ife t a b) r) J=res :=
 dO (by rw[gK,h];exact I) k
def mH(h:(ev cl J t).bind truth=some false)(I:af cl M b J=some (.rt d,QM)):af cl M (.cons (.ife t a b) r) J=some (.rt d,QM) :=
 sC (by rw[gK,h];exact I)
def bQ(h:(ev cl J t).bind truth=some false)(k:af cl M r J=res):af cl M (.cons (.ife t a .nil) r) J=res:=lW h aH k
def pz(h:ev cl J e=some d)(hd:items d=some ds)(I:au ds=true)(O:bI is ds J=some QM)(k:af cl M r QM=res):af cl M (.cons (.unp is e) r) J=res :=
 dO (by rw[Kb,h,Option.bind_some,hd];show(if au ds=true then _ else _)=_;rw[if_pos I,O];rfl) k
def l7(h:ev cl J e=some x)(h':ev cl J e'=some y)(I:(x.imm&&y.imm)=true)(k:af cl M r ((J.set i (some x)).set j (some y))=res):af cl M (.cons (.par i j e e') r) J=res :=
 dO (by rw[Kr,h,Option.bind_some,h'];show(if(x.imm&&y.imm)=true then _ else _)=_;rw[if_pos I]) k
def uj(h:ev cl J e=some d)(hi:(J[i]?).bind id=some (.lst xs))(I:d.imm=true)(hl:xs.length<most)(k:af cl M r (J.set i (some (.lst (xs++[d]))))=res):af cl M (.cons (.app i e) r) J=res :=
 dO (by rw[xG,h,Option.bind_some,hi];show(if(d.imm&&decide (xs.length<most))=true then _ else _)=_;rw[if_pos (by rw[I,decide_eq_true hl];rfl)]) k
def iV(h:ev cl J e'=some x)(h':ev cl J e=some kk)(hi:(J[i]?).bind id=some l)(I:x.imm=true)(O:eS l kk x=some l')(k:af cl M r (J.set i (some l'))=res):af cl M (.cons (.put i e e') r) J=res :=
 dO (by rw[mO,h,Option.bind_some,h',Option.bind_some,hi,Option.bind_some,if_pos I,O];rfl) k
def IB(hi:(J[i]?).bind id=some (.int x))(h:ev cl J e=some (.int y))(hb:aF o (.int x) (.int y)=some (.int z))(k:af cl M r (J.set i (some (.int z)))=res):af cl M (.cons (.aug i o e) r) J=res :=
 dO (by rw[Kd,hi,Option.bind_some,h];show Option.map _ (aF o (.int x) (.int y))=_;rw[hb];rfl) k
def Gx(hi:(J[i]?).bind id=some (.lst (xs++[d])))(k:af cl M r ((J.set i (some (.lst xs))).set j (some d))=res):af cl M (.cons (.pop i j) r) J=res :=
 dO (by rw[s_pop,hi];simp) k
def cY(h:bE cl J it=some ds)(I:bp (af cl M b) tg ds J=some (.nx,QM))(k:af cl M r QM=res):af cl M (.cons (.forr tg it b) r) J=res :=
 dO (by rw[iY,h];exact I) k
def Eg(h:bE cl J it=some ds)(I:bp (af cl M b) tg ds J=some (.rt d,QM)):af cl M (.cons (.forr tg it b) r) J=some (.rt d,QM) :=
 sC (by rw[iY,h];exact I)
def JK(I:whF (fun J=>(ev cl J t).bind truth) (af cl M b) most J=some (.nx,QM))(k:af cl M r QM=res):af cl M (.cons (.whil t b) r) J=res :=
 dO (by rw[Ih];exact I) k
def qP(h:evs cl J es=some ds)(ok:eW M ps 0 es ds=true)(O:cl f ds=some (.tup (d::outs)))(I:bI ms outs J=some QM)(k:af cl M r QM=res):af cl M (.cons (.mexc f es ps ms) r) J=res :=
 dO (by rw[FH,h,Option.bind_some,if_pos ok,O,Option.bind_some];show Option.map _ (bI ms outs J)=_;rw[I];rfl) k
def aa(h:(J[i]?).bind id=some d):ev cl J (.var i)=some d:=by rw[aY];exact h
def aq:ev cl J (.cst d)=some d:=by rw[du]
def x_call(h:evs cl J es=some ds)(I:cl f ds=some d):ev cl J (.call f es)=some d:=by rw[cX,h];exact I
def bo:evs cl J .nil=some []:=by rw[evs]
def aA(h:ev cl J e=some d)(I:evs cl J es=some ds):evs cl J (.cons e es)=some (d::ds):=by rw[evs,h,Option.bind_some,I];rfl
def bO(h:ev cl J e=some d)(I:cl f [d]=some x):ev cl J (.call f %[e|_])=some x:=x_call (aA h bo) I
def dB(h:ev cl J e=some d)(h':ev cl J e'=some d')(I:cl f [d,d']=some x):ev cl J (.call f %[e,e'|_])=some x:=x_call (aA h (aA h' bo)) I
def lH(h:ev cl J e=some d)(h':ev cl J e'=some d')(I:ev cl J e''=some d'')(O:cl f [d,d',d'']=some x):ev cl J (.call f %[e,e',e''|_])=some x:=x_call (aA h (aA h' (aA I bo))) O
def az(h:ev cl J e=some x)(h':ev cl J e'=some y)(hb:aF o x y=some d):ev cl J (.bin o e e')=some d:=by rw[cZ,h,Option.bind_some,h'];exact hb
def aD(h:ev cl J e=some x)(h':ev cl J e'=some y)(hb:bc o x y=some k):ev cl J (.cmp o e e')=some (.bl k):=by rw[eL,h,Option.bind_some,h',Option.bind_some,hb];rfl
def bj(h:ev cl J e=some x)(h':ev cl J e'=some y)(hb:ixV x y=some d):ev cl J (.ix e e')=some d:=by rw[kT,h,Option.bind_some,h'];exact hb
def aZ(h:ev cl J e=some x)(hb:biV o x=some d):ev cl J (.bi o e)=some d:=by rw[iu,h];exact hb
def Df(h:ev cl J e=some x)(h':ev cl J e'=some y)(hb:kI x y=some d):ev cl J (.slT e e')=some d:=by rw[Dy,h,Option.bind_some,h'];exact hb
def k9(h:ev cl J e=some x)(h':ev cl J e'=some y)(hb:lY x y=some d):ev cl J (.ixD e e')=some d:=by rw[xY,h,Option.bind_some,h'];exact hb
def Kf(h:ev cl J e=some x)(h':ev cl J e'=some y)(hb:inV x y=some k):ev cl J (.inn n e e')=some (.bl (if n then !k else k)):=by rw[KD,h,Option.bind_some,h',Option.bind_some,hb];rfl
def d9{t:Ty}(h:ev cl J e=some x)(hb:gy t x=some k):ev cl J (.isi e t)=some (.bl k):=by rw[KA,h,Option.bind_some,hb];rfl
def xF(h:ev cl J e=some (.int k)):ev cl J (.neg e)=some (.int (-k)):=by rw[Kz,h];rfl
def KC(h:ev cl J e=some (.int x))(h':ev cl J e'=some (.int y)):ev cl J (.max e e')=some (.int (if y > x then y else x)):=by rw[Ke,h,Option.bind_some,h'];rfl
def wQ(h:ev cl J e=some x)(h':ev cl J e'=some y)(I:ev cl J e''=some z)(b1:bc c x y=some true)(b2:bc c' y z=some k):ev cl J (.chain c c' e e' e'')=some (.bl k):=by rw[qC,h,Option.bind_some,h',Option.bind_some,b1,Option.bind_some,if_pos rfl,I,Option.bind_some,b2];rfl
def Bt(h:ev cl J e=some x)(h':ev cl J e'=some y)(b1:bc c x y=some false):ev cl J (.chain c c' e e' e'')=some (.bl false):=by rw[qC,h,Option.bind_some,h',Option.bind_some,b1];rfl
def vZ(h:ev cl J e=some x)(I:cb (.int 0) x=some ds):ev cl J (.rng1 e)=some (.lst ds):=by rw[pB,h,Option.bind_some,I];rfl
def mV(h:ev cl J e=some x)(h':ev cl J e'=some y)(I:cb x y=some ds):ev cl J (.rng2 e e')=some (.lst ds):=by rw[A8,h,Option.bind_some,h',Option.bind_some,I];rfl
def dM(h:evs cl J es=some ds):ev cl J (.lst es)=some (.lst ds):=by rw[mR,h];rfl
def jA(h:evs cl J es=some ds):ev cl J (.tup es)=some (.tup ds):=by rw[mX,h];rfl
def cM(h:ev cl J e=some (.bl true))(h':ev cl J e'=some d):ev cl J (.and e e')=some d:=by rw[p6,h];exact h'
def fQ(h:ev cl J e=some (.bl false)):ev cl J (.and e e')=some (.bl false):=by rw[p6,h];rfl
def vb(h:ev cl J e=some (.bl false))(h':ev cl J e'=some d):ev cl J (.or e e')=some d:=by rw[yu,h];exact h'
def JU(h:ev cl J e=some (.bl true)):ev cl J (.or e e')=some (.bl true):=by rw[yu,h];rfl
def Kc(h:(ev cl J e).bind truth=some k):ev cl J (.not e)=some (.bl (!k)):=by rw[sr,h];rfl
def ff(h:ev cl J e=some (.bl k)):ev cl J (.not e)=some (.bl (!k)):=Kc (by rw[h];rfl)
def mL(h:(ev cl J t).bind truth=some k)(h':ev cl J (if k then e else e')=some d):ev cl J (.ifx t e e')=some d:=by
 rw[yj,h];cases k<;>exact h'
def aR(h:ev cl J e=some (.bl k)):(ev cl J e).bind truth=some k:=by rw[h];rfl
def de(h:bE cl J it=some ds)(hf:ds.length<=most)(hm:bX (fun I=>(ev cl I e).map some) tg J ds=some ys):ev cl J (.compA e tg it)=some (.lst ys):=by
 rw[m9,h,Option.bind_some,fits,if_pos hf,Option.bind_some,hm];rfl
def lR(h:bE cl J it=some ds)(hf:ds.length<=most)(hm:bX (fun I=>((ev cl I t).bind truth).bind fun k=>if k then(ev cl I e).map some else some none) tg J ds=some ys):ev cl J (.comp e tg it t)=some (.lst ys):=by
 rw[pD,h,Option.bind_some,fits,if_pos hf,Option.bind_some,hm];rfl
def eF(h:ev cl J e=some x)(I:cb (.int 0) x=some ds):bE cl J (.rng1 e)=some ds:=by rw[bE,h];exact I
def FG(h:ev cl J e=some x)(h':ev cl J e'=some y)(I:gM c x y=some ds):bE cl J (.rng3 c e e')=some ds:=by rw[bE,h,Option.bind_some,h'];exact I
def HL(h:ev cl J e=some x)(I:lT x=some ds):bE cl J (.seq e)=some ds:=by rw[bE,h];exact I
def eg(h:ev cl J e=some x)(I:items x=some ds):bE cl J (.seq e)=some ds:=HL h (by
 cases x with
 | lst _=>exact I
 | tup _=>exact I
 | fL _=>exact I
 | _=>cases I)
def CW(h:ev cl J e=some x)(h':ev cl J e'=some y)(O:items x=some xs)(I:items y=some ys)(hl:xs.length=ys.length):bE cl J (.zip e e')=some (fw xs ys):=by rw[bE,h,Option.bind_some,h',Option.bind_some,O,Option.bind_some,I,Option.bind_some,if_pos hl]
def JN(hk:(match x with | .non=>some (D.bl (!n)) | .dK _ _=>none | .dT _ _=>none | .fT _ _=>none | _=>some (.bl n))=some (D.bl k))(h:ev cl J e=some x):ev cl J (.isN n e)=some (.bl k):=by rw[Kt,h];exact hk
def oX(h:ev cl J e=some x)(I:ie x=some ds):bE cl J (.enm e)=some (dN 0 ds):=by rw[bE,h,Option.bind_some,I];rfl
end
def HQ:bp f tg [] J=some (.nx,J):=rfl
def vG(I:d.imm=true)(hb:bu tg d J=some QN)(h:f QN=some (.nx,QO))(k:bp f tg r QO=res):bp f tg (d::r) J=res:=by
 rw[bp,if_pos I,hb,Option.bind_some,h];exact k
def aT(hl:ds.length=fn.ps)(hm:fn.mp=[])(h:af cl fn.M fn.body (ds.map some++replicate (fn.nn-fn.ps) none)=some (.rt d,QM)):evF cl fn ds=some d:=by
 unfold evF;rw[if_pos hl,h];unfold bh;rw[hm];rfl
def uk(hl:ds.length=fn.ps)(hm:fn.mp=[])(h:af cl fn.M fn.body (ds.map some++replicate (fn.nn-fn.ps) none)=some (.nx,QM)):evF cl fn ds=some .non:=by
 unfold evF;rw[if_pos hl,h];unfold bh;rw[hm];rfl
end RL
namespace RM
open RL RT
abbrev LI(xs:List Int):List D:=xs.map D.int
def zO(xs:List Int):(LI xs).length=xs.length:=by simp[LI]
def AQ:∀ xs:List Int,au (LI xs)=true
 | []=>rfl
 | x::xs=>by
  show((D.int x).imm&&au (LI xs))=true;rw[AQ xs];rfl
section
def mod_lt{a b:Int}(h:0<b):0<=a%b/\a%b<b:=#[Int.emod_nonneg _ ⋯,Int.emod_lt_of_pos _ h]
def Fe(s:Int):∃ m:Int,evF cl lP [.int s]=some (.int m):=by
 have a1:=mod_lt (a:=s*48271+11) (b:=2147483647) ∅;generalize h1:(s*48271+11)%2147483647=one at a1;have a2:=mod_lt (a:=one*one+40692*one+s) (b:=2147483399) ∅;generalize h2:(one*one+40692*one+s)%2147483399=two at a2
 exact⟨_,aT rfl rfl (aE (az (az (az (aa rfl) aq (yF ∅ ∅)) aq cO) aq (by rw[fV ∅,h1])) rfl
  (aE (az (az (az (az (aa rfl) (aa rfl) (cm ⋯ ⋯)) (az aq (aa rfl) (cm ∅ ∅)) cO) (aa rfl) cO) aq (by rw[fV ∅,h2])) rfl
  (aU (az (az (az (az (aa rfl) (aa rfl) (cm (by omega) (by omega))) (az aq (aa rfl) (cm ∅ ∅)) cO) (aa rfl) cO) aq (fV ∅)) rfl)))⟩
def E5{f:Nat}(h:∀ s:Int,∃ m:Int,cl f [.int s]=some (.int m)){ns:List Int}(hl:ns.length<=63){k:Nat}(hk:k<=1000):∃ r:Int,evF cl (lJ f) [.lst (LI ns),.int k]=some (.int r):=by
 have Z:aF .pow (.int 10) (.int 18)=some (.int 1000000000000000000):=rfl
 have rest:∀ c:Int,∃ r I,af cl [] %[.asg 3 0#1,.forr [4] (.rng1 40#1) (kZ f),.ret 3#0|_] [some (.lst (LI ns)),some (.int k),some (.int c),none,none]=some (.rt (.int r),I):=by
  intro c;have O:=congrArg some (oB 0 40)
  obtain⟨I,e,r,o,rfl⟩:=dk (f:=af cl [] (kZ f)) (tg:=[4]) (J:=[some (.lst (LI ns)),some (.int k),some (.int c),some (.int 0),none])
   (fun p J=>∃ (r:Int) (o:Option D),J=[some (.lst (LI ns)),some (.int k),some (.int c),some (.int r),o]) ⟨0,none,rfl⟩ (by
    rintro p x q J u ⟨r,o,rfl⟩;obtain⟨m,hm⟩:=h (c+1009*k+7919*x)
    exact#[_,aE (az (az (aa rfl) aq (yF ∅ ∅)) (bO (az (az (aa rfl) (az aq (aa rfl) (cm ∅ ∅)) cO) (az aq (aa rfl) (cm ∅ ∅)) cO) hm) cO) rfl aH,_,_,rfl])
  exact#[r,_,aE aq rfl (cY (eF aq O) e (aU (aa rfl) rfl))]
 have len:=congrArg (fun n:Nat=>some (D.int n)) (zO ns)
 have first:ev cl [some (.lst (LI ns)),some (.int k),none,none,none] (.bin .add (.bin .mul 7#1 1#0) 3#1)=some (.int (7*k+3)):=az (az aq (aa rfl) (cm ∅ ∅)) aq cO
 by_cases w:0<ns.length
 ·have Y:=mod_lt (a:=(k:Int)) (b:=(ns.length:Int)) ⋯;obtain⟨j,t⟩:=Int.eq_ofNat_of_zero_le Y.1
  have d:j<ns.length:=by lia
  have ix:ixV (.lst (LI ns)) (.int ((k:Int)%ns.length))=some (.int ns[j]):=by
   show cF (LI ns) _=_;rw[t,gH];simp[LI,d]
  obtain⟨r,I,O⟩:=rest (ns[j]+9973*((k:Int) / ns.length));generalize hc:ns[j]+9973*((k:Int) / ns.length)=cell at O
  have R:∀ {g:Ss} {U:Option (Out × St)},af cl [] g [some (.lst (LI ns)),some (.int k),some (.int cell),none,none]=U->af cl [] (.cons (.asg 2 (.bin .add (.bin .mul 7#1 1#0) 3#1)) (.cons (.ife (.cmp .gt (.bi .len 0#0) 0#1) (.cons (.asg 2 (.bin .add (.ix 0#0 (.bin .mod 1#0 (.bi .len 0#0))) (.bin .mul 9973#1 (.bin .fdiv 1#0 (.bi .len 0#0))))) .nil) .nil) g)) [some (.lst (LI ns)),some (.int k),none,none,none]=U:=fun z =>
   aE first rfl (fM (aR (aD (aZ (aa rfl) len) aq (by rw[qG,decide_eq_true ⋯]))) (aE (az (bj (aa rfl) (az (aa rfl) (aZ (aa rfl) len) (fV ⋯)) ix) (az aq (az (aa rfl) (aZ (aa rfl) len) (mw ⋯ ⋯)) (cm ∅ ∅)) (by rw[cO,hc])) rfl aH) z)
  by_cases v:k<ns.length
  ·have l:bc .lt (.int (k:Nat)) (.int (ns.length:Nat))=some true:=by rw[fB,decide_eq_true ⋯]
   by_cases i:1000000000000000000<=cell
   ·exact#[_,aT rfl rfl (R (gw (aR (cM (aD (aa rfl) (aZ (aa rfl) len) l) (aD (aa rfl) (az aq aq Z) (by rw[kB,decide_eq_true i])))) (aU (az (aa rfl) (az aq aq Z) lj) rfl)))]
   ·exact#[r,aT rfl rfl (R (bQ (aR (cM (aD (aa rfl) (aZ (aa rfl) len) l) (aD (aa rfl) (az aq aq Z) (by rw[kB,Qh i])))) O))]
  ·exact#[r,aT rfl rfl (R (bQ (aR (fQ (aD (aa rfl) (aZ (aa rfl) len) (by rw[fB,Qh ⋯])))) O))]
 ·obtain⟨r,I,O⟩:=rest (7*k+3);exact#[r,aT rfl rfl (aE first rfl (bQ (aR (aD (aZ (aa rfl) len) aq (by rw[qG,Qh ⋯]))) (bQ (aR (fQ (aD (aa rfl) (aZ (aa rfl) len) (by rw[fB,Qh ⋯])))) O)))]
end
section
abbrev lD(ds I:List Nat):Prop:=ds.length=I.length/\∀ (i d s:Nat),ds[i]?=some d->I[i]?=some s->d<s
def lD.snoc(h:lD ds sizes)(hd:d<s):lD (ds++[d]) (sizes++[s]):=by
 refine#[by simp[h.1],fun i x y I O=>?_];by_cases hi:i<ds.length
 ·rw[getElem?_append_left hi]at I;rw[getElem?_append_left (by rw[<-h.1];exact hi)]at O;exact h.2 i x y I O
 ·rw[Qm ⋯]at I;rw[Qm (by rw[<-h.1];lia)]at O;rw[h.1]at I
  cases hk:i-sizes.length with
  | zero=>rw[hk]at I O;simp at I O;lia
  | succ k=>rw[hk]at I;simp at I
def yn(h:cl f [scr,.int k]=some (.int r))(g:∀ s∈I,0<s/\s<2 ^ 200)(hlen:I.length<=1000):∃ ds:List Nat,lD ds I/\evF cl (fP f) [scr,.int k,.lst (L I)]=some (.lst (L ds)):=by
 obtain⟨a,e,i,ds,o,O,rfl⟩:=dk (f:=af cl [4] (iw f)) (tg:=[5]) (xs:=I) (J:=[some scr,some (.int k),some (.lst (L I)),some (.int r),some (.lst []),none])
  (fun p J=>∃ (r:Int) (ds:List Nat) (o:Option D),lD ds p/\J=[some scr,some (.int k),some (.lst (L I)),some (.int r),some (.lst (L ds)),o]) ⟨r,[],none,⟨rfl,by simp⟩,rfl⟩ (by
   rintro p x q J Z ⟨r,ds,o,O,rfl⟩;have b:=g x (by rw[Z];simp)
   have c:p.length<1000:=by
    have:=congrArg List.length Z;simp at this;lia
   have R:(0:Int)<x:=by lia
   have U:(x:Int)<2 ^ 200:=by
    lia
   obtain⟨d,hd⟩:=Int.eq_ofNat_of_zero_le (Int.emod_nonneg r (show(x:Int)≠0 by lia))
   have Y:d<x:=by
    have:=Int.emod_lt_of_pos r R;lia
   refine#[[some scr,some (.int k),some (.lst (L I)),some (.int (r / x)),some (.lst (L (ds++[d]))),some (.int x)],?_,_,_,_,O.snoc Y,rfl]
   have hl:(L ds).length<most:=by
    rw[aL,O.1];unfold most;lia
   simp[gB,iw,af,xG,fS,cZ,aY,fV R,mw R U,hd,D.imm,hl,aX,dz]
   rfl)
 refine#[ds,O,?_];simp[evF,fP,af,fS,iY,oR,dA,mR,aY,cX,evs,bE,items,h,aX,D.imm,aG,au];simp[e,bf,aG,aS,bh]
end
section
def AL(xs:List Nat)(n:Nat):(L xs).take n=L (xs.take n):=by simp[L]
end
abbrev dpf:Nat->List Bool->Option Nat
 | d,[]=>some d
 | d,true::r=>dpf (d+1) r
 | 0,false::_=>none
 | d+1,false::r=>dpf d r
def gz(b:Bool):∀ (w:List Bool) (d:Nat),dpf d (w++[b])=(dpf d w).bind fun e=>dpf e [b]
 | [],d=>rfl
 | true::r,d=>by simpa[dpf]using gz b r (d+1)
 | false::r,0=>rfl
 | false::r,d+1=>by simpa[dpf]using gz b r d
abbrev sg(b:Bool):Nat:=if b then 40 else 41
abbrev tx(w:List Bool):PySem.Str:=#[(w.map sg).toArray]
def uM(w:List Bool):(tx w).length=w.length:=by simp[tx,PySem.Str.length]
def Jb(w v:List Bool):tx w++tx v=tx (w++v):=by
 show PySem.Str.mk _=_;simp[tx]
def xS:(PySem.Str.ofString "(")=tx [true]:=by decide +kernel
def JX:(PySem.Str.ofString ")")=tx [false]:=by decide +kernel
def lL:∀ (k a:Nat),k<=a->cK (-1) (a:Int) k=L ((List.range k).map fun i=>a-i)
 | 0,_,_=>rfl
 | k+1,a,h=>by
  rw[cK,range_succ_eq_map];have:=lL k (a-1) ⋯
  have e:a+-1=((a-1:Nat):Int):=by lia
  rw[e,this];simp[L];intro i hi;lia
def dU(h:(List.range k).map g=p++x::q):p.length<k/\x=g p.length:=by
 have l:((List.range k).map g).length=(p++x::q).length:=by rw[h]
 have e:((List.range k).map g)[p.length]?=(p++x::q)[p.length]?:=by rw[h]
 simp at l e;obtain⟨y,I,e⟩:=e;refine#[by lia,?_];rw[List.getElem?_range ⋯]at I;cases I;exact e.symm
def Ai(h:w.length+v.length<=most):aF .add (.str (tx w)) (.str (tx v))=some (.str (tx (w++v))):=by
 rw[Mo];rw[uM,uM,if_pos h,Jb]
def BV(hn:n<=10):∃ w:List Bool,w.length=2*n/\dpf 0 w=some 0/\evF cl k7 [.int r,.int n]=some (.str (tx w)):=by
 have v:aF .mul (.int 2) (.int n)=some (.int (2*n)):=cm ∅ ∅
 have u:gM (-1) (.int (2*(n:Int))) (.int 0)=some (L ((List.range (2*n)).map fun i=>2*n-i)):=by
  have s:bJ (-1) (2*(n:Int)) 0=2*n:=by
   unfold bJ;split<;>lia
  dsimp only[gM];rw[s];rw[if_pos ⟨by decide,by decide,by decide,by unfold most;lia,by lia,by lia,by lia,by lia⟩];have:=lL (2*n) (2*n) (Qb _);rw[<-this];rfl
 obtain⟨l,e,I⟩:=dk (f:=af cl [] gP) (tg:=[4]) (xs:=(List.range (2*n)).map fun i=>2*n-i) (J:=[some (.int r),some (.int n),some (.str (tx [])),some (.int 0),none,none,none])
  (fun p J=>∃ (r:Int) (w:List Bool) (d:Nat) (a O R:Option D),J=[some (.int r),some (.int n),some (.str (tx w)),some (.int d),a,O,R]/\w.length=p.length/\dpf 0 w=some d/\d+p.length<=2*n/\(d+p.length)%2=0) ⟨r,[],0,none,none,none,rfl,rfl,rfl,by simp,rfl⟩ (by
   rintro p x q J j ⟨r,w,d,a,O,R,rfl,U,hd,hl,m⟩;obtain⟨k,z⟩:=dU j;have h:aF .fdiv (.int r) (.int 2)=some (.int (r / 2)):=mw ∅ ∅;have b:aF .mod (.int r) (.int 2)=some (.int (r%2)):=fV ∅;generalize hr:r%2=st at b
   have Y:ixV (.lst [.str (PySem.Str.ofString ")"),.str (PySem.Str.ofString "(")]) (.int 1)=some (.str (tx [true])):=by rw[xS];rfl
   have Z:ixV (.lst [.str (PySem.Str.ofString ")"),.str (PySem.Str.ofString "(")]) (.int 0)=some (.str (tx [false])):=by rw[JX];rfl
   by_cases up:d=0\/(d<x/\st=1)
   ·have c:ev cl [some (.int (r / 2)),some (.int n),some (.str (tx w)),some (.int d),some (.int x),O,some (.int st)] (.or (.cmp .eq 3#0 0#1) (.and (.cmp .lt 3#0 4#0) (.cmp .eq 6#0 1#1)))=some (.bl true):=by
     by_cases t:d=0
     ·subst t;exact JU (aD (aa rfl) aq rfl)
     ·have g:d<x/\st=1:=by lia
      have hb:((d:Int) == 0)=false:=beq_eq_false_iff_ne.mpr ⋯;exact vb (aD (aa rfl) aq (by rw[dF,hb])) (cM (aD (aa rfl) (aa rfl) (by rw[fB,decide_eq_true ⋯])) (aD (aa rfl) aq (by rw[dF,g.2];rfl)))
    exact⟨_,show af cl [] gP [some (.int r),some (.int n),some (.str (tx w)),some (.int d),some (.int x),O,R]=some (.nx,_)from l7 (az (aa rfl) aq h) (az (aa rfl) aq b) rfl (aE c rfl (aE (az (aa rfl) (bj (dM (aA aq (aA aq bo))) (aZ (aa rfl) rfl) Y) (Ai (by simp[most];lia))) rfl (aE (az (aa rfl) (bj (dM (aA (xF aq) (aA aq bo))) (aZ (aa rfl) rfl) rfl) rfl) rfl aH))),
     r / 2,w++[true],d+1,_,_,_,rfl,by simp[U],by rw[gz,hd];rfl,by simp;omega,by simp;lia⟩
   ·have o:0<d:=by lia
    have c:ev cl [some (.int (r / 2)),some (.int n),some (.str (tx w)),some (.int d),some (.int x),O,some (.int st)] (.or (.cmp .eq 3#0 0#1) (.and (.cmp .lt 3#0 4#0) (.cmp .eq 6#0 1#1)))=some (.bl false):=by
     have hb:((d:Int) == 0)=false:=beq_eq_false_iff_ne.mpr ⋯;refine vb (aD (aa rfl) aq (by rw[dF,hb])) ?_;by_cases j:d<x
     ·have k:(st == 1)=false:=beq_eq_false_iff_ne.mpr ⋯;exact cM (aD (aa rfl) (aa rfl) (by rw[fB,decide_eq_true ⋯])) (aD (aa rfl) aq (by rw[dF,k]))
     ·exact fQ (aD (aa rfl) (aa rfl) (by rw[fB,Qh ⋯]))
    have es:aF .add (.int (d:Nat)) (.int (-1))=some (.int ((d-1:Nat):Int)):=by rw[cO];congr 2;lia
    exact⟨_,show af cl [] gP [some (.int r),some (.int n),some (.str (tx w)),some (.int d),some (.int x),O,R]=some (.nx,_)from l7 (az (aa rfl) aq h) (az (aa rfl) aq b) rfl (aE c rfl (aE (az (aa rfl) (bj (dM (aA aq (aA aq bo))) (aZ (aa rfl) rfl) Z) (Ai (by simp[most];lia))) rfl (aE (az (aa rfl) (bj (dM (aA (xF aq) (aA aq bo))) (aZ (aa rfl) rfl) rfl) es) rfl aH))),
     r / 2,w++[false],d-1,_,_,_,rfl,by simp[U],by rw[gz,hd];obtain⟨e,rfl⟩:∃ e,d=e+1:=#[d-1,by lia];rfl,by simp;lia,by simp;lia⟩)
 obtain⟨y,w,d,a,O,R,rfl,U,hd,hl,m⟩:=I;simp at U hl
 have:d=0:=by lia
 subst this;refine#[w,U,hd,?_];exact aT rfl rfl (aE aq rfl (aE aq rfl (cY (FG (az aq (aa rfl) v) aq u) e (aU (aa rfl) rfl))))
abbrev rd(n q:Nat):Nat:=if q<n then q else 3*n-1-q
def bF(h:q<2*n):rd n q<2*n:=by unfold rd;split<;>omega
def cw(h:q<2*n):rd n (rd n q)=q:=by
 unfold rd;by_cases e:q<n
 ·rw[if_pos e,if_pos e]
 ·rw[if_neg e,if_neg (by omega)];lia
def jQ(O:p<2*n)(I:q<2*n)(h:rd n p=rd n q):p=q:=by rw[<-cw O,h,cw I]
abbrev rnd(n:Nat)(f:List Nat)(q:Nat):Nat:=rd n (at' f (rd n q))
structure Val(n:Nat)(f:List Nat):Prop where
 frm:Frm n f
 nox:∀ q q',q<2*n->q'<2*n->¬ (q<q'/\q'<rnd n f q/\rnd n f q<rnd n f q')
structure Mt(n k:Nat)(f S:List Nat):Prop where
 len:f.length=2*n
 kn:k<=2*n
 up:S.Pairwise (·<·)
 lt:∀ s∈S,s<k
 ok:∀ q,q<k->q∉S->rnd n f q<k/\rnd n f q∉S/\rnd n f q≠q/\rnd n f (rnd n f q)=q
 bt:∀ q s,q<k->q∉S->s∈S->¬ (q<s/\s<rnd n f q)
 nox:∀ q q',q<k->q'<k->q∉S->q'∉S->¬ (q<q'/\q'<rnd n f q/\rnd n f q<rnd n f q')
def Mt.push{n k:Nat}{f S:List Nat}(m:Mt n k f S)(hk:k<2*n):Mt n (k+1) f (S++[k]):=by
 have nk:∀ q,q<k+1->q∉S++[k]->q<k/\q∉S:=by
  intro q O I;simp at I;exact#[by lia,I.1]
 refine#[m.len,by lia,?_,?_,?_,?_,?_]
 ·rw[QF];exact⟨m.up,by simp,fun a ha b hb=>by simp at hb;have:=m.lt a ha;lia⟩
 ·intro s R;simp at R;rcases R with h | h
  ·have:=m.lt s h;lia
  ·lia
 ·intro q O I;obtain⟨a,b⟩:=nk q O I;obtain⟨g,c2,c,Z⟩:=m.ok q a b;exact#[by lia,by simp;exact#[c2,by lia],c,Z]
 ·intro q s O I R;obtain⟨a,b⟩:=nk q O I;simp at R;rcases R with h | h
  ·exact m.bt q s a b h
  ·have:=(m.ok q a b).1;lia
 ·intro q q' O I Y U;obtain⟨a,b⟩:=nk q O Y;obtain⟨e,d⟩:=nk q' I U;exact m.nox q q' a e b d
def wM(hl:f.length=2*n)(hk:k<2*n)(hm:m<2*n)(R:q<2*n):rnd n ((f.set (rd n m) (rd n k)).set (rd n k) (rd n m)) q=if q=k then m else if q=m then k else rnd n f q:=by
 have Y:=bF hk;have U:=bF hm;unfold rnd;rw[eB (by simp;lia),eB ⋯];by_cases O:q=k
 ·subst O;rw[if_pos rfl,if_pos rfl,cw hm]
 ·rw[if_neg (fun h=>O (jQ R hk h)),if_neg O];by_cases I:q=m
  ·subst I;rw[if_pos rfl,if_pos rfl,cw hk]
  ·rw[if_neg (fun h=>I (jQ R hm h)),if_neg I]
def Mt.pop{n k m:Nat}{f S:List Nat}(h:Mt n k f (S++[m]))(hk:k<2*n):Mt n (k+1) ((f.set (rd n m) (rd n k)).set (rd n k) (rd n m)) S:=by
 have x:m<k:=h.lt m (by simp)
 have hm:m<2*n:=by lia
 have P:=fun q w=>wM h.len hk hm (q:=q) w;have up:=QF.mp h.up;have O:=fun s d=>up.2.2 s d m (by simp)
 have v:k∉S:=fun c=>by have:=O k c;lia
 have u:m∉S:=fun c=>by have:=O m c;lia
 have e:∀ q,q<k+1->q∉S->q=k\/q=m\/(q≠k/\q≠m/\q<k/\q∉S++[m]):=by
  intro q U I;by_cases Y:q=k
  ·exact .inl Y
  ·by_cases R:q=m
   ·exact .inr (.inl R)
   ·exact .inr (.inr #[Y,R,by lia,by simp;exact#[I,R]])
 have old:∀ q,q<k->q∉S++[m]->rnd n f q<k/\rnd n f q∉S/\rnd n f q≠m/\rnd n f q≠q/\rnd n f (rnd n f q)=q:=by
  intro q U I;obtain⟨t,c2,p,o⟩:=h.ok q U I;simp at c2;exact#[t,c2.1,c2.2,p,o]
 refine⟨by simp[h.len],by lia,up.1,fun s d=>by have:=O s d;lia,?_,?_,?_⟩
 ·intro q U I
  rcases e q U I with rfl | rfl | ⟨Y,R,b,Z⟩
  ·rw[P q hk,if_pos rfl,P m hm,if_neg ⋯,if_pos rfl];exact#[by lia,u,by lia,rfl]
  ·rw[P q hm,if_neg ⋯,if_pos rfl,P k hk,if_pos rfl];exact#[by lia,v,by lia,rfl]
  ·obtain⟨t,c2,p,o,z⟩:=old q b Z;rw[P q ⋯,if_neg Y,if_neg R,P _ ⋯,if_neg ⋯,if_neg p];exact#[by lia,c2,o,z]
 ·intro q s U I d;have:=O s d
  rcases e q U I with rfl | rfl | ⟨Y,R,b,Z⟩
  ·lia
  ·lia
  ·rw[P q ⋯,if_neg Y,if_neg R];exact h.bt q s b Z (by simp[d])
 ·intro q q' U I y r
  rcases e q U y with rfl | rfl | ⟨Y,R,b,Z⟩
  ·lia
  ·rw[P q hm,if_neg ⋯,if_pos rfl]
   rcases e q' I r with rfl | rfl | ⟨l,j,i,g⟩
   ·lia
   ·lia
   ·rw[P q' ⋯,if_neg l,if_neg j];have:=(old q' i g).1;lia
  ·rw[P q ⋯,if_neg Y,if_neg R];have a:=(old q b Z).1
   rcases e q' I r with rfl | rfl | ⟨l,j,i,g⟩
   ·lia
   ·have:=h.bt q q' b Z (by simp);lia
   ·rw[P q' ⋯,if_neg l,if_neg j];exact h.nox q q' b i Z g
def Mt.val(h:Mt n (2*n) f [])(I:∀ x,x<2*n->at' f x<2*n):Val n f:=by
 refine#[#[h.len,I,?_,?_],fun q q' U R=>h.nox q q' U R (by simp) (by simp)]
 ·intro x;by_cases O:x<2*n
  ·have a:=(h.ok (rd n x) (bF O) (by simp)).2.2.2;unfold rnd at a;rw[cw O,cw (I x O)]at a;exact jQ (I _ (I x O)) O a
  ·have e:at' f x=x:=gZ (by rw[h.len];lia);rw[e,e]
 ·intro x O e;have a:=(h.ok (rd n x) (bF O) (by simp)).2.2.1;unfold rnd at a;rw[cw O,e]at a;exact a rfl
def zS(g:β->D)(Y:∀ b,(g b).imm=true)(I:List β->St->Prop):∀ (w done:List β) (J:St),(∀ u b v J,done++w=u++b::v->I u J->∃ O,(bu tg (.tup [.int u.length,g b]) J).bind f=some (.nx,O)/\I (u++[b]) O)->I done J->∃ R,bp f tg (dN done.length (w.map g)) J=some (.nx,R)/\I (done++w) R
 | [],done,J,_,h=>#[J,rfl,by simpa using h]
 | b::w,done,J,hs,h=>by
  obtain⟨O,U,i⟩:=hs done b w J rfl h;obtain⟨R,Z,d⟩:=zS g Y I w (done++[b]) O (fun pre e post J c=>hs pre e post J (by simpa using c)) i;refine#[R,?_,by simpa using d];rw[map_cons,dN,bp,if_pos (by simp[D.imm,au,Y])];rw[show((done++[b]).length:Int)=(done.length:Int)+1 by simp]at Z
  cases hb:bu tg (.tup [.int done.length,g b]) J with
  | none=>rw[hb]at U;cases U
  |some a=>
   rw[hb]at U;simp only[Option.bind_some]at U ⊢;rw[U];exact Z
abbrev cR(n:Nat):List Nat:=(List.range (2*n)).map (rd n)
def uS(n:Nat):(cR n).length=2*n:=by simp[cR]
def EZ(h:1<=n):cR n=range' 0 n++(List.range n).map (fun i=>(2*n-1)-i):=by
 unfold cR;rw[show 2*n=n+n by lia,List.range_add,List.map_append,<-List.range_eq_range',map_map];congr 1
 ·conv=>rhs;rw[<-List.map_id (List.range n)]
  apply QD;intro i hi;simp at hi;simp[rd,hi]
 ·apply QD;intro i hi;show rd n (n+i)=_;unfold rd;lia
def EC{a b:Nat}(h:b<=a)(ha:a<=1000):gM (-1) (.int (a:Int)) (.int ((a:Int)-b))=some (L ((List.range b).map fun i=>a-i)):=by
 have I:bJ (-1) a (a-b)=b:=by
  unfold bJ;split<;>lia
 dsimp only[gM];rw[I];rw[if_pos ⟨by decide,by decide,by decide,by unfold most;lia,by lia,by lia,by lia,by lia⟩];rw[lL b a h]
def xJ{n:Nat}(R:1<=n)(hn:n<=10):evF cl fY [.int n]=some (.lst (L (cR n))):=by
 have Y:aF .mul (.int 2) (.int n)=some (.int (2*n)):=cm ∅ ∅;have O:=dE (a:=0) (b:=n) ⋯ ⋯;simp only[Int.natCast_zero]at O;have I:=EC (a:=2*n-1) (b:=n) ⋯ ⋯;rw[show((2*n-1:Nat):Int)=2*n-1 by lia,show 2*(n:Int)-1-n=n-1 by lia]at I
 have U:aF .add (.lst (L (range' 0 n))) (.lst (L ((List.range n).map fun i=>2*n-1-i)))=some (.lst (L (cR n))):=by
  rw[CB];rw[if_pos (by simp[aL,most];lia),EZ R,dz]
 simp[evF,fY,af,dA,cZ,du,pB,Jw,aY,evs,Y,O,I,U,lj,bf,D.imm,aG,aS,bh]
def qa{n q:Nat}(h:q<2*n):ixV (.lst (L (cR n))) (.int (q:Int))=some (.int ((rd n q:Nat):Int)):=by
 show cF _ _=_;rw[gH,sI];simp[cR,h]
def gf{f:List Nat}{i j:Nat}(h:i<f.length):eS (.lst (L f)) (.int (i:Int)) (.int (j:Int))=some (.lst (L (f.set i j))):=by
 rw[Mk];rw[aL,vh h];simp[Kx]
def kJ(v:List Bool):∀ (w:List Bool) (d:Nat),dpf d (w++v)=(dpf d w).bind fun e=>dpf e v
 | [],d=>rfl
 | true::r,d=>by simpa[dpf]using kJ v r (d+1)
 | false::r,0=>rfl
 | false::r,d+1=>by simpa[dpf]using kJ v r d
def u9:∀ (w:List Bool) (d:Nat) {e:Nat},dpf d w=some e->e<=d+w.length
 | [],d,e,h=>by cases h;simp
 | true::r,d,e,h=>by have:=u9 r (d+1) h;simp;lia
 | false::r,0,e,h=>nomatch h
 | false::r,d+1,e,h=>by have:=u9 r d h;simp;lia
def zeros(cl:Cl)(J:St):∀ xs:List Nat,bX (fun I=>(ev cl I 0#1).map some) [7] J (L xs)=some (L (replicate xs.length 0))
 | []=>rfl
 | x::r=>by
  rw[show L (x::r)=.int x::L r from rfl,bX,zeros cl J r];rfl
abbrev Wd(n:Nat)(u:List Bool)(f S:List Nat):Prop:=∀ q,q<u.length->u[q]?=some (decide (q∈S\/q<rnd n f q))
def Wd.push{S:List Nat}(h:Wd n u f S)(m:Mt n u.length f S):Wd n (u++[true]) f (S++[u.length]):=by
 intro q O;simp at O;by_cases c:q=u.length
 ·subst c;simp
 ·have I:q<u.length:=by lia
  rw[getElem?_append_left I,h q I];simp[c]
def Wd.pop{S:List Nat}{I:Nat}(h:Wd n u f (S++[I]))(m:Mt n u.length f (S++[I]))(hk:u.length<2*n):Wd n (u++[false]) ((f.set (rd n I) (rd n u.length)).set (rd n u.length) (rd n I)) S:=by
 have R:=m.lt I (by simp);have up:=QF.mp m.up;have U:=fun s Y=>up.2.2 s Y I (by simp);intro q Z;simp at Z;rw[wM m.len hk ⋯ ⋯];by_cases c:q=u.length
 ·subst c
  have:¬ (u.length∈S):=fun a=>by have:=U _ a;lia
  simp[this];lia
 ·have O:q<u.length:=by lia
  rw[getElem?_append_left O,h q O,if_neg c];by_cases c':q=I
  ·subst c';simp[R]
  ·simp[c']
def pA{o:Nat}(QK:1<=n)(hn:n<=10)(G:cl o [.int n]=some (.lst (L (cR n))))(t:w.length=2*n)(hd:dpf 0 w=some 0):∃ f:List Nat,(Val n f/\Wd n w f [])/\evF cl (eh o) [.str (tx w)]=some (.tup (L f)):=by
 obtain⟨A,e,I⟩:=zS (f:=af cl [3,4] (dH o)) (tg:=[5,6]) (fun b:Bool=>D.str (tx [b])) (fun _=>rfl)
  (fun u J=>∃ (f S:List Nat) (r p g:Option D),J=[some (.str (tx w)),some (.int n),some (.lst (L (cR n))),some (.lst (L f)),some (.lst (L (S.map (rd n)))),r,p,none,g]/\dpf 0 u=some S.length/\Mt n u.length f S/\(∀ x,x<2*n->at' f x<2*n)/\Wd n u f S)
  w [] [some (.str (tx w)),some (.int n),some (.lst (L (cR n))),some (.lst (L (replicate (2*n) 0))),some (.lst (L [])),none,none,none,none] (by
   rintro u b v J hu ⟨f,S,r,p,g,rfl,Y,m,R,l⟩
   have hk:u.length<2*n:=by
    rw[<-t];have:=congrArg List.length hu;simp at this;lia
   have Z:∃ d,dpf S.length [b]=some d:=by
    have:dpf 0 (u++b::v)=some 0:=by rw[<-hu];exact hd
    rw[kJ,Y]at this
    revert this
    cases b with
    | true=>exact fun _=>#[_,rfl]
    |false=>
     cases S.length with
     | zero=>exact fun h=>nomatch h
     | succ d=>exact fun _=>#[_,rfl]
   cases b with
   |true=>
    refine#[[some (.str (tx w)),some (.int n),some (.lst (L (cR n))),some (.lst (L f)),some (.lst (L ((S++[u.length]).map (rd n)))),some (.int u.length),some (.str (tx [true])),none,g],?_,f,S++[u.length],_,_,_,rfl,?_,by simpa using m.push hk,R,l.push m]
    ·have hl:S.length<most:=by have:=u9 u 0 Y;unfold most;lia
     have y:L ((S++[u.length]).map (rd n))=L (S.map (rd n))++[.int ((rd n u.length:Nat):Int)]:=by simp[L]
     rw[y];exact show af cl [3,4] (dH o) [some (.str (tx w)),some (.int n),some (.lst (L (cR n))),some (.lst (L f)),some (.lst (L (S.map (rd n)))),some (.int u.length),some (.str (tx [true])),none,g]=some (.nx,_)from fM (aR (aD (k:=true) (aa rfl) aq (by rw[xS];decide))) (uj (bj (aa rfl) (aa rfl) (qa hk)) rfl rfl (by rw[aL,length_map];exact hl) aH) aH
    ·rw[gz,Y];simp[dpf]
   |false=>
    obtain⟨d,Z⟩:=Z
    have U:S≠[]:=by
     rintro rfl;simp[dpf]at Z
    obtain⟨a,O,rfl⟩:∃ a O,S=a++[O]:=#[S.dropLast,S.getLast U,(List.dropLast_concat_getLast U).symm]
    have F:O<u.length:=m.lt O (by simp);have c:=qa hk;have C:=gf (f:=f) (i:=rd n O) (j:=rd n u.length) (by rw[m.len];exact bF ⋯);have B:=gf (f:=f.set (rd n O) (rd n u.length)) (i:=rd n u.length) (j:=rd n O) (by rw[Qz,m.len];exact bF ⋯);refine#[[some (.str (tx w)),some (.int n),some (.lst (L (cR n))),some (.lst (L ((f.set (rd n O) (rd n u.length)).set (rd n u.length) (rd n O)))),some (.lst (L (a.map (rd n)))),some (.int u.length),some (.str (tx [false])),none,some (.int ((rd n O:Nat):Int))],?_,_,a,_,_,_,rfl,?_,by simpa using m.pop hk,?_,l.pop m hk]
    ·have y:L ((a++[O]).map (rd n))=L (a.map (rd n))++[.int ((rd n O:Nat):Int)]:=by simp[L]
     rw[y];exact show af cl [3,4] (dH o) [some (.str (tx w)),some (.int n),some (.lst (L (cR n))),some (.lst (L f)),some (.lst (L (a.map (rd n))++[.int ((rd n O:Nat):Int)])),some (.int u.length),some (.str (tx [false])),none,g]=some (.nx,_)from lW (aR (aD (k:=false) (aa rfl) aq (by rw[xS];decide))) (Gx rfl (iV (bj (aa rfl) (aa rfl) c) (aa rfl) rfl rfl C (iV (aa rfl) (bj (aa rfl) (aa rfl) c) rfl rfl B aH))) aH
    ·rw[gz,Y];simp[dpf]
    ·intro x s;rw[eB (by simp[m.len];exact bF ⋯),eB (by rw[m.len];exact bF ⋯)];have:=bF (n:=n) (q:=O) ⋯;have:=bF (n:=n) (q:=u.length) ⋯;have:=R x s
     repeat' split
     all_goals lia)
  ⟨replicate (2*n) 0,[],none,none,none,rfl,rfl,⟨by simp,by simp,by simp,by simp,by simp,by simp,by simp⟩,fun x s=>by simp[at',s];lia,fun q E=>by simp at E⟩
 obtain⟨f,S,r,p,g,rfl,Y,m,R,l⟩:=I;simp only[nil_append]at Y m l;rw[hd]at Y;have U:S=[]:=List.eq_nil_of_length_eq_zero (by simpa using Y.symm);subst U;rw[t]at m;refine#[f,#[m.val R,l],?_]
 have len:biV .len (.str (tx w))=some (.int ((2*n:Nat):Int)):=by
  rw[D9];rw[uM,t,if_pos (by unfold most;lia)]
 have H:aF .fdiv (.int ((2*n:Nat):Int)) (.int 2)=some (.int (n:Nat)):=by
  rw[mw ∅ ∅];congr 2;lia
 have it:ie (.str (tx w))=some (w.map fun b=>D.str (tx [b])):=by
  simp[ie,tx,Function.comp_def]
 have z:=zeros cl [some (.str (tx w)),some (.int n),some (.lst (L (cR n))),none,none,none,none,none,none] (cR n);rw[uS]at z
 exact aT rfl rfl (aE (az (aZ (aa rfl) len) aq H) rfl (aE (bO (aa rfl) G) (by unfold aX;rw[show aG (.lst (L (cR n)))=true from aS _];rfl) (ip (de (eg (aa rfl) rfl) (by rw[aL,uS];unfold most;lia) z) (by rw[show aG (.lst (L (replicate (2*n) 0)))=true from aS _];rfl) (ip (dM bo) rfl
  (cY (oX (aa rfl) it) e (aU (aZ (aa rfl) rfl) (by unfold bf;rw[show(D.tup (L f)).imm=true from aS _];rfl)))))))
def rT{I:Nat}(U:1<=n)(hn:n<=10)(R:cl I [.int n]=some (.lst (L (cR n))))(O:w.length=2*n)(hd:dpf 0 w=some 0):∃ f:List Nat,Val n f/\evF cl (eh I) [.str (tx w)]=some (.tup (L f)):=by
 obtain⟨f,⟨V,_⟩,e⟩:=pA U hn R O hd;exact#[f,V,e]
def ky(I:∀ x,(g x).imm=true):∀ xs:List Nat,(∀ x∈xs,(bu tg (.int (x:Nat)) J).bind F=some (some (g x)))->bX F tg J (L xs)=some (xs.map g)
 | [],_=>rfl
 | x::r,h=>by
  have a:=h x (by simp);have b:=ky I r (fun y R=>h y (by simp[R]));rw[show L (x::r)=.int x::L r from rfl,bX]
  cases hb:bu tg (.int x) J with
  | none=>rw[hb]at a;cases a
  |some O=>
   rw[hb]at a;simp only[Option.bind_some]at a ⊢;rw[a,b];simp[lE,I]
def kj(I:∀ x,(g x).imm=true):∀ xs:List Nat,(∀ x∈xs,(bu tg (.int (x:Nat)) J).bind F=some (if c x then some (g x)else none))->bX F tg J (L xs)=some ((xs.filter c).map g)
 | [],_=>rfl
 | x::r,h=>by
  have a:=h x (by simp);have b:=kj I r (fun y R=>h y (by simp[R]));rw[show L (x::r)=.int x::L r from rfl,bX]
  cases hb:bu tg (.int x) J with
  | none=>rw[hb]at a;cases a
  |some O=>
   rw[hb]at a;simp only[Option.bind_some]at a ⊢;rw[a,b];cases hc:c x<;>simp[lE,I,hc]
def xQ(xs:List Nat)(g:Nat->Nat):(xs.map fun x=>D.int (g x:Nat))=L (xs.map g):=by simp[L]
def mr(h:xs.length<=1000):fits (L xs)=some (L xs):=by
 unfold fits;rw[if_pos (by rw[aL];unfold most;lia)]
def bM{n:Nat}(h:n<=1000):cb (.int 0) (.int n)=some (L (List.range n)):=by
 have I:=dE (a:=0) ⋯ h;rw[Nat.sub_zero,<-List.range_eq_range']at I;exact I
def qg{n:Nat}(hn:n<=100):evF cl fh [.int n]=some (.tup (L (bb n))):=by
 have Y:=bM (n:=n) ⋯
 have O:=ky (F:=fun I=>(ev cl I (.bin .add 0#0 1#0)).map some) (tg:=[1]) (J:=[some (.int n),none]) (g:=fun x=>.int ((n+x:Nat):Int)) (fun _=>rfl) (List.range n) (by
  intro x _
  simp[gB,cZ,aY,cO])
 rw[xQ]at O
 have U:aF .add (.lst (L ((List.range n).map fun x=>n+x))) (.lst (L (List.range n)))=some (.lst (L (bb n))):=by
  rw[CB];rw[if_pos (by simp[aL,most];lia),bb,dz];congr 3
  ·rw[List.range'_eq_map_range]
  ·rw[List.range_eq_range']
 have R:=mr (xs:=List.range n) (by simp;lia);simp only[evF,fh,af,dA,iu,cZ,m9,pB,aY,bE,itemsS_lst,itemsS_tup];simp[Y,R];simp[cZ,aY]at O;rw[O];simp[U,qo,items,bf,D.imm,aS,bh]
def rZ{n:Nat}(hn:n<=10):evF cl fh [.int n]=some (.tup (L (bb n))):=qg ⋯
def rf(h:q<2*n):rnd n (bb n) q=2*n-1-q:=by
 unfold rnd rd;by_cases c:q<n
 ·rw[if_pos c,plain_at,if_pos c,if_neg ⋯];lia
 ·have e:at' (bb n) (3*n-1-q)=2*n-1-q:=by rw[plain_at,if_neg (by omega),if_pos (by omega)];lia
  rw[if_neg c,e,if_pos (by omega)]
def Az(n:Nat):Val n (bb n):=by
 refine#[lB n,fun q q' O I=>?_];rw[rf O,rf I];omega
abbrev gW(n i:Nat):List Nat:=kN (bb n) (n+i)
set_option synthInstance.maxSize 10000 in
set_option synthInstance.maxHeartbeats 0 in
def CN:∀ n,n<11->∀ i,i<n->i+1<n->∀ q,q<2*n->∀ q',q'<2*n->¬ (q<q'/\q'<rnd n (gW n i) q/\rnd n (gW n i) q<rnd n (gW n i) q'):=by decide +kernel
def BH(hn:n<=10)(h:i+1<n):Val n (gW n i):=#[BK (lB n) ⋯,fun q q' O I=>CN n ⋯ i ⋯ h q O q' I]
def uf{fp:Nat}{n i:Nat}(hn:n<=10)(hi:i+1<n)(Y:cl fp [.int n]=some (.tup (L (bb n)))):evF cl (iD fp) [.int n,.int i]=some (.tup (L (gW n i))):=by
 have hl:=(lB n).len
 have e:gW n i=((((bb n).set i (i+1)).set (i+1) i).set (n+i) (n+i+1)).set (n+i+1) (n+i):=by
  unfold gW kN
  have a1:at' (bb n) (n+i)=i:=by rw[plain_at,if_neg ⋯,if_pos ⋯];lia
  have a2:at' (bb n) (n+i+1)=i+1:=by rw[plain_at,if_neg ⋯,if_pos ⋯];lia
  rw[a1,a2,if_neg ⋯]
 have U:=gf (f:=bb n) (i:=i) (j:=i+1) ⋯;have R:=gf (f:=(bb n).set i (i+1)) (i:=i+1) (j:=i) (by simp;lia);have O:=gf (f:=((bb n).set i (i+1)).set (i+1) i) (i:=n+i) (j:=n+i+1) (by simp;lia);have I:=gf (f:=(((bb n).set i (i+1)).set (i+1) i).set (n+i) (n+i+1)) (i:=n+i+1) (j:=n+i) (by simp;lia);rw[<-e]at I;simp only[Int.natCast_add,Int.natCast_one]at U R O I;simp[evF,iD,af,iY,oR,mO,dA,iu,cZ,du,mX,aY,cX,evs,Y,J7,qo,items,aG,aS,bE,cO,bp,D.imm,gB,nE,U,R,O,I,bf,bh]
abbrev fZ(n:Nat)(f:List Nat):List Nat:=(List.range (2*n)).map fun p=>(at' f ((p+n)%(2*n))+n)%(2*n)
def Fq(h:p<2*n):at' (fZ n f) p=(at' f ((p+n)%(2*n))+n)%(2*n):=by
 simp[at',fZ,h]
def half{xs:List D}(h:xs.length=2*n):biV .len (.tup xs)=some (.int (2*n)):=by
 simp[CV,h]
def Bp(n:Nat):aF .fdiv (.int (2*(n:Int))) (.int 2)=some (.int n):=by
 rw[mw ∅ ∅];congr 2;lia
def cC(h:x<f.length):ixV (.tup (L f)) (.int (x:Nat))=some (.int (at' f x:Nat)):=by
 show cF _ _=_;rw[gH,sI,jT h];rfl
def u6(e:1<=n)(hn:n<=10)(hf:f.length=2*n):evF cl i5 [.tup (L f)]=some (.tup (L (fZ n f))):=by
 have U:aF .mul (.int 2) (.int n)=some (.int (2*n)):=cm ∅ ∅;have R:=bM (n:=2*n) ⋯;rw[show((2*n:Nat):Int)=2*(n:Int) by lia]at R
 have O:=ky (F:=fun I=>(ev cl I (.bin .mod (.bin .add (.ix 0#0 (.bin .mod (.bin .add 2#0 1#0) (.bin .mul 2#1 1#0))) 1#0) (.bin .mul 2#1 1#0))).map some) (tg:=[2]) (J:=[some (.tup (L f)),some (.int n),none]) (g:=fun p=>.int (((at' f ((p+n)%(2*n))+n)%(2*n):Nat):Int)) (fun _=>rfl) (List.range (2*n)) (by
  intro x _
  have a:aF .mod (.int ((x:Int)+n)) (.int (2*(n:Int)))=some (.int (((x+n)%(2*n):Nat):Int)):=by
   rw[fV ⋯];simp
  have Z:=cC (f:=f) (x:=(x+n)%(2*n)) (by rw[hf];exact Nat.mod_lt _ ⋯)
  have Y:aF .mod (.int ((at' f ((x+n)%(2*n)):Nat)+(n:Int))) (.int (2*(n:Int)))=some (.int (((at' f ((x+n)%(2*n))+n)%(2*n):Nat):Int)):=by
   rw[fV ⋯];simp
  simp only[gB,cZ,du,kT,aY,List.set,Option.bind_some,getElem?_cons_zero,getElem?_cons_succ,id,U,cO,a,Z,Y,Option.map_some])
 rw[xQ]at O;have d:=mr (xs:=List.range (2*n)) (by simp;lia);have c:=half (xs:=L f) (n:=n) (by rw[aL,hf]);have b:=Bp n;simp only[evF,i5,af,fS,dA,iu,cZ,du,aY,m9,kT,bE,itemsS_lst,itemsS_tup];simp[R,d,U,c,b,aX,D.imm];simp[cZ,du,kT,aY]at O;rw[O];simp[qo,items,bf,D.imm,aS,bh,fZ]
section dicts
variable [DecidableEq κ]
def vo:∀ {ks:List κ} {vs:List D} {x:κ} {d:D} {y:κ},ks.length=vs.length->x∉ks->aO (ks++[x]) (vs++[d]) y=if x=y then some d else aO ks vs y
 | [],[],x,d,y,_,_=>by simp[aO]
 | k::ks,v::vs,x,d,y,h,hn=>by
  simp at h hn;have:=vo (d:=d) (y:=y) h hn.2;simp only[List.cons_append,aO];by_cases e:k=y
  ·rw[if_pos e,if_pos e,if_neg (fun c=>hn.1 (c.trans e.symm))]
  ·rw[if_neg e,if_neg e,this]
def vn:∀ {ks:List κ} {vs:List D} {x:κ} {d:D} {y:κ},ks.length=vs.length->x∈ks->aO ks (zipWith (fun k v=>if k=x then d else v) ks vs) y=if x=y then some d else aO ks vs y
 | k::ks,v::vs,x,d,y,h,hm=>by
  simp at h;simp only[zipWith_cons_cons,aO];by_cases e:k=y
  ·rw[if_pos e,if_pos e];by_cases e':k=x
   ·rw[if_pos e',if_pos (e'.symm.trans e)]
   ·rw[if_neg e',if_neg (fun c=>e' (e.trans c.symm))]
  ·rw[if_neg e,if_neg e];by_cases hx:x∈ks
   ·exact vn h hx
   ·have I:x=k:=by simpa[hx]using hm
    rw[if_neg (fun c=>e (I.symm.trans c))]
    have:zipWith (fun k v=>if k=x then d else v) ks vs=vs:=by
     clear e hm I
     induction ks generalizing vs with
     | nil=>cases vs with | nil=>rfl | cons _ _=>simp at h
     | cons a ks O=>cases vs with
      | nil=>simp at h
      |cons b vs=>
       simp at h hx;simp only[zipWith_cons_cons];rw[if_neg (fun c=>hx.1 c.symm),O (h:=h) (hx:=hx.2)]
    rw[this]
def gA{ks:List κ}(h:ks.length=vs.length):aO (putD ks vs x d).1 (putD ks vs x d).2 y=if x=y then some d else aO ks vs y:=by
 unfold putD;split
 ·exact vn h ‹_›
 ·exact vo h ‹_›
def iL{ks:List κ}(h:ks.length=vs.length):(putD ks vs x d).1.length=(putD ks vs x d).2.length/\(putD ks vs x d).1.length<=ks.length+1:=by
 unfold putD;split<;>simp[h]
end dicts
abbrev sd(b:Bool):PySem.Str:=if b then PySem.Str.ofString "high" else PySem.Str.ofString "low"
def sE(b:Bool):(sd b == PySem.Str.ofString "high")=b:=by cases b<;>decide +kernel
def Jv(h:sd a=sd b):a=b:=by
 have:=sE a;rw[h,sE]at this;exact this.symm
abbrev nk(b:Bool)(p:Nat):List Ky:=[.inr (sd b),.inl (p:Int)]
def uU(h:nk a p=nk b q):a=b/\p=q:=by
 injection h with O I;injection O with O;injection I with I;injection I with I;exact#[Jv O,by lia]
abbrev bH(b:Bool)(x:Nat):D:=.tup [.str (sd b),.int x]
abbrev pick(h l:List Nat)(b:Bool):List Nat:=if b then h else l
abbrev l9(h l:List Nat)(k:Nat)(ks:List (List Ky))(vs:List D):Prop:=ks.length=vs.length/\ks.length<=2*k/\∀ b p,p<k->aO ks vs (nk b p)=some (bH b (at' (pick h l b) p))
def l9.next{h l:List Nat}(N:l9 h l k ks vs):l9 h l (k+1) (putD (putD ks vs (nk true k) (bH true (at' h k))).1 (putD ks vs (nk true k) (bH true (at' h k))).2 (nk false k) (bH false (at' l k))).1 (putD (putD ks vs (nk true k) (bH true (at' h k))).1 (putD ks vs (nk true k) (bH true (at' h k))).2 (nk false k) (bH false (at' l k))).2:=by
 obtain⟨I,R,O⟩:=N;obtain⟨a1,a2⟩:=iL I;obtain⟨b1,b2⟩:=iL a1;refine#[b1,by lia,fun b p U=>?_];rw[gA a1,gA I];by_cases e:p=k
 ·subst e;cases b
  ·rw[if_pos rfl];rfl
  ·rw[if_neg (fun c=>by have:=(uU c).1;cases this),if_pos rfl];rfl
 ·rw[if_neg (fun c=>e (uU c).2.symm),if_neg (fun c=>e (uU c).2.symm)];exact O b p ⋯
def A6{fr:Nat}(hn:n<=10)(j:h.length=2*n)(hl:l.length=2*n):∃ ks vs o,l9 h l (2*n) ks vs/\bp (af cl [3,5,6] (gO fr)) [4] (L (List.range (2*n))) [some (.tup (L h)),some (.tup (L l)),some (.int n),some (.dT [] []),none,none,none,none,none]=some (.nx,[some (.tup (L h)),some (.tup (L l)),some (.int n),some (.dT ks vs),o,none,none,none,none]):=by
 obtain⟨I,e,ks,vs,o,rfl,N⟩:=dk (f:=af cl [3,5,6] (gO fr)) (tg:=[4]) (xs:=List.range (2*n)) (J:=[some (.tup (L h)),some (.tup (L l)),some (.int n),some (.dT [] []),none,none,none,none,none])
  (fun p J=>∃ ks vs o,J=[some (.tup (L h)),some (.tup (L l)),some (.int n),some (.dT ks vs),o,none,none,none,none]/\l9 h l p.length ks vs) ⟨[],[],none,rfl,rfl,by simp,by simp⟩ (by
   rintro p x q J c ⟨ks,vs,o,rfl,N⟩;obtain⟨k,i⟩:=dU (g:=id) (by simpa using c);subst i;have i1:=cC (f:=h) (x:=p.length) ⋯;have i2:=cC (f:=l) (x:=p.length) ⋯;have a:=iL (x:=nk true p.length) (d:=bH true (at' h p.length)) N.1
   have Y:ks.length<most:=by have:=N.2.1;unfold most;lia
   have U:(putD ks vs (nk true p.length) (bH true (at' h p.length))).1.length<most:=by have:=N.2.1;unfold most;lia
   refine#[_,?_,_,_,some (.int (p.length:Int)),rfl,by simpa using N.next];have b:keysOf [.str (PySem.Str.ofString "high"),.int (p.length:Int)]=some (nk true p.length):=rfl;have Z:keysOf [.str (PySem.Str.ofString "low"),.int (p.length:Int)]=some (nk false p.length):=rfl
   have R:eS (.dT ks vs) (.tup [.str (PySem.Str.ofString "high"),.int (p.length:Int)]) (.tup [.str (PySem.Str.ofString "high"),.int (at' h p.length:Nat)])=some (.dT (putD ks vs (nk true p.length) (bH true (at' h p.length))).1 (putD ks vs (nk true p.length) (bH true (at' h p.length))).2):=by
    rw[FY];rw[b,Option.bind_some,if_pos Y];rfl
   have O:∀ ks vs,ks.length<most->eS (.dT ks vs) (.tup [.str (PySem.Str.ofString "low"),.int (p.length:Int)]) (.tup [.str (PySem.Str.ofString "low"),.int (at' l p.length:Nat)])=some (.dT (putD ks vs (nk false p.length) (bH false (at' l p.length))).1 (putD ks vs (nk false p.length) (bH false (at' l p.length))).2):=by
    intro ks vs m;rw[FY];rw[Z,Option.bind_some,if_pos m];rfl
   simp only[gB,gO,af,mO,du,kT,mX,aY,evs,List.set,Option.bind_some,getElem?_cons_zero,getElem?_cons_succ,id,i1,i2,Option.map_some,D.imm,au,Bool.and_self,if_true,R,O _ _ U])
 simp only[length_range]at N;exact#[ks,vs,o,N,e]
abbrev stp(n:Nat)(h l:List Nat)(s:Bool × Nat):Bool × Nat:=if s.1=decide (n<=s.2)then(!s.1,at' (pick h l (!s.1)) ((s.2+n)%(2*n)))else s
abbrev itr(n:Nat)(h l:List Nat):Nat->Bool × Nat->Bool × Nat
 | 0,s=>s
 | i+1,s=>stp n h l (itr n h l i s)
abbrev Tr(n:Nat)(s:Bool × Nat)(m:Nat):Prop:=s.1=decide (n<=s.2)/\s.2%n=m
abbrev GD(I:List Ky)(O:List D)(k:Nat)(P:Nat->Prop):Prop:=I.length=O.length/\I.length<=k/\∀ m:Nat,(aO I O (.inl (m:Int))).isSome=true↔P m
def GD.put(G:GD gk gv k P)(I:Nat)(d:D):GD (putD gk gv (.inl (I:Int)) d).1 (putD gk gv (.inl (I:Int)) d).2 (k+1) (fun m=>P m\/I=m):=by
 obtain⟨O,U,R⟩:=G;obtain⟨a1,a2⟩:=iL O;refine#[a1,by lia,fun m=>?_];rw[gA O];by_cases e:I=m
 ·subst e;simp
 ·rw[if_neg (fun c=>e (by injection c;lia)),R];simp[e]
def GD.mono(G:GD gk gv k P)(hk:k<=k')(h:∀ m,P m↔Q m):GD gk gv k' Q :=
 ⟨G.1,by have:=G.2.1;lia,fun m=>(G.2.2 m).trans (h m)⟩
abbrev hst(n:Nat)(h l:List Nat)(ks:List (List Ky))(vs:List D)(U:Option D)(I:List Nat)(Z:List Ky)(Y:List D)(R O:Option D):St :=
 [some (.tup (L h)),some (.tup (L l)),some (.int n),some (.dT ks vs),U,some (.lst (L I)),some (.dK Z Y),R,O]
section
def tQ(b:Bool)(x:Nat):ixV (bH b x) (.int 0)=some (.str (sd b)):=rfl
def nZ(b:Bool)(x:Nat):ixV (bH b x) (.int 1)=some (.int (x:Nat)):=rfl
def nR(b:Bool):ixV (.lst [.str (PySem.Str.ofString "high"),.str (PySem.Str.ofString "low")]) (.int (if b=true then 1 else 0))=some (.str (sd !b)):=by cases b<;>rfl
def EY(i:1<=n)(hn:n<=10)(N:l9 h l (2*n) ks vs)(g:x<2*n)(G:GD gk gv k P)(hk:k<=2000)(U Z:Option D)(t:D) :
  ∃ R O,GD R O (k+1) (fun m=>P m\/Tr n (b,x) m)/\(bu [8] t (hst n h l ks vs U fnd gk gv (some (bH b x)) Z)).bind (af cl [3,5,6] (eZ fr))=some (.nx,hst n h l ks vs U fnd R O (some (bH (stp n h l (b,x)).1 (stp n h l (b,x)).2)) (some t)):=by
 have f:aF .mul (.int 2) (.int n)=some (.int (2*n)):=cm ∅ ∅
 have I:ev cl (hst n h l ks vs U fnd gk gv (some (bH b x)) (some t)) (.cmp .eq (.cmp .eq (.ix 7#0 0#1) (.cst (.str "high"))) (.cmp .ge (.ix 7#0 1#1) 2#0))=some (.bl (b == decide (n<=x))):=by
  simp only[hst,eL,kT,aY,du,Option.bind_some,getElem?_cons_zero,getElem?_cons_succ,id,tQ,nZ,IK,GI,xO,x9,yc,sE,Option.map_some];simp
 by_cases e:b=decide (n<=x)
 ·refine#[_,_,(G.put (x%n) (.bl true)).mono (Qb _) (fun m=>by simp[Tr,e]),?_]
  have c:aF .mod (.int (x:Nat)) (.int n)=some (.int ((x%n:Nat):Int)):=by rw[fV ⋯];simp
  have a:aF .mod (.int ((x:Nat)+(n:Int))) (.int (2*(n:Int)))=some (.int (((x+n)%(2*n):Nat):Int)):=by rw[fV ⋯];simp
  have u:eS (.dK gk gv) (.int ((x%n:Nat):Int)) (.bl true)=some (.dK (putD gk gv (.inl ((x%n:Nat):Int)) (.bl true)).1 (putD gk gv (.inl ((x%n:Nat):Int)) (.bl true)).2):=by
   rw[HH];dsimp only[keyOf];rw[Option.bind_some,if_pos (by have:=G.2.1;unfold most;lia)]
  have d:lY (.dT ks vs) (.tup [.str (sd !b),.int (((x+n)%(2*n):Nat):Int)])=some (bH (!b) (at' (pick h l !b) ((x+n)%(2*n)))):=by
   have:=N.2.2 (!b) ((x+n)%(2*n)) (Nat.mod_lt _ ⋯);rw[<-this];rfl
  have s1:stp n h l (b,x)=(!b,at' (pick h l !b) ((x+n)%(2*n))):=by unfold stp;rw[if_pos e]
  rw[s1]
  have Y:(b == decide (n<=x))=true:=by simp[e]
  rw[Y]at I;simp only[gB,hst,List.set,Option.bind_some,eZ,af,fS,gK,mO]at I ⊢;rw[I];simp only[Option.bind_some,truth,if_true,af,iu,cZ,eL,du,kT,xY,mR,mX,aY,evs,getElem?_cons_zero,getElem?_cons_succ,id,tQ,nZ,c,u,D.imm,Option.map_some,List.set,IK,GI,xO,x9,yc,sE,FI,nR,cO,f,a,d];have ok:aX [3,5,6] (.ixD 3#0 (.tup %[.ix (.lst %[.cst (.str "high"),.cst (.str "low")|_]) (.bi .int (.cmp .eq (.ix 7#0 0#1) (.cst (.str "high")))),.bin .mod (.bin .add (.ix 7#0 1#1) 2#0) (.bin .mul 2#1 2#0)|_])) (bH (!b) (at' (pick h l !b) ((x+n)%(2*n))))=true:=rfl;rfl
 ·refine#[gk,gv,G.mono ⋯ (fun m=>by simp[Tr,e]),?_]
  have s1:stp n h l (b,x)=(b,x):=by unfold stp;rw[if_neg e]
  rw[s1]
  have Y:(b == decide (n<=x))=false:=by simp[e]
  rw[Y]at I;simp only[gB,hst,List.set,Option.bind_some,eZ,af,fS,gK,mO]at I ⊢;rw[I];simp[truth,af]
def Ht(O:∀ x,x<2*n->at' h x<2*n)(hl:∀ x,x<2*n->at' l x<2*n)(I:s.2<2*n):(stp n h l s).2<2*n:=by
 unfold stp;split
 ·have m:(s.2+n)%(2*n)<2*n:=Nat.mod_lt _ ⋯;cases s.1
  ·exact O _ m
  ·exact hl _ m
 ·exact I
def iZ(O:∀ x,x<2*n->at' h x<2*n)(hl:∀ x,x<2*n->at' l x<2*n)(I:s.2<2*n):∀ i,(itr n h l i s).2<2*n
 | 0=>I
 | i+1=>Ht O hl (iZ O hl I i)
abbrev Met(n:Nat)(h l:List Nat)(s:Bool × Nat)(i:Nat)(m:Nat):Prop:=∃ j,j<i/\Tr n (itr n h l j s) m
def Ft(b:1<=n)(hn:n<=10)(N:l9 h l (2*n) ks vs)(t:∀ x,x<2*n->at' h x<2*n)(hl:∀ x,x<2*n->at' l x<2*n)(o:s.2<2*n)(G:GD gk gv k P)(hk:k<=1000)(U Z:Option D) :
  ∃ O I R,GD O I (k+4*n) (fun m=>P m\/Met n h l s (4*n) m)/\bp (af cl [3,5,6] (eZ fr)) [8] (L (List.range (4*n))) (hst n h l ks vs U fnd gk gv (some (bH s.1 s.2)) Z)=some (.nx,hst n h l ks vs U fnd O I (some (bH (itr n h l (4*n) s).1 (itr n h l (4*n) s).2)) R):=by
 obtain⟨f,e,O,I,R,rfl,Y⟩:=dk (xs:=List.range (4*n)) (J:=hst n h l ks vs U fnd gk gv (some (bH s.1 s.2)) Z)
  (fun p J=>∃ O I R,J=hst n h l ks vs U fnd O I (some (bH (itr n h l p.length s).1 (itr n h l p.length s).2)) R/\GD O I (k+p.length) (fun m=>P m\/Met n h l s p.length m))
  ⟨gk,gv,Z,rfl,G.mono (by simp) (fun m=>by simp[Met])⟩ (by
   rintro p x q J i ⟨O,I,R,rfl,Y⟩;obtain⟨a1,a2⟩:=dU (g:=id) (by simpa using i);obtain⟨d,c,v,u⟩:=EY (cl:=cl) (fr:=fr) b hn N (iZ t hl o p.length) Y ⋯ U R (.int x);refine#[_,u,d,c,_,by rw[length_append];rfl,v.mono (by simp;lia) (fun m=>?_)];simp only[Met,length_append,List.length_singleton];constructor
   ·rintro((a | ⟨j,b,h2⟩) | h2)
    ·exact .inl a
    ·exact .inr #[j,by lia,h2]
    ·exact .inr #[p.length,by lia,h2]
   ·rintro(a | ⟨j,b,h2⟩)
    ·exact .inl (.inl a)
    ·by_cases r:j=p.length
     ·subst r;exact .inr h2
     ·exact .inl (.inr #[j,by lia,h2]))
 simp only[length_range]at Y e;exact#[O,I,R,Y,e]
abbrev beg(n:Nat)(h l:List Nat)(p:Nat):Bool × Nat:=(decide (p<n),at' (pick h l (decide (p<n))) p)
abbrev aB(n:Nat)(h l:List Nat):List Nat:=(List.range (2*n)).map fun p=>(itr n h l (4*n) (beg n h l p)).2
abbrev Gn(n:Nat)(h l:List Nat)(k m:Nat):Prop:=∃ p,p<k/\Met n h l (beg n h l p) (4*n) m
def KY(b:Bool):ixV (.lst [.str (PySem.Str.ofString "high"),.str (PySem.Str.ofString "low")]) (.int (if b=true then 1 else 0))=some (.str (sd !b)):=nR b
def E8(s:1<=n)(hn:n<=10)(N:l9 h l (2*n) ks vs)(t:∀ x,x<2*n->at' h x<2*n)(hl:∀ x,x<2*n->at' l x<2*n)(r o k:Option D) :
  ∃ Y U R O I,GD Y U 1000 (Gn n h l (2*n))/\bp (af cl [3,5,6] (gJ fr)) [4] (L (List.range (2*n))) (hst n h l ks vs r [] [] [] o k)=some (.nx,hst n h l ks vs R (aB n h l) Y U O I):=by
 have u:aF .mul (.int 4) (.int n)=some (.int (4*n)):=cm ∅ ∅;have d:=bM (n:=4*n) ⋯;rw[show((4*n:Nat):Int)=4*(n:Int) by lia]at d
 obtain⟨w,e,Y,U,R,O,I,rfl,G⟩:=dk (f:=af cl [3,5,6] (gJ fr)) (tg:=[4]) (J:=hst n h l ks vs r [] [] [] o k)
  (fun p J=>∃ Y U R O I,J=hst n h l ks vs R ((List.range p.length).map fun p=>(itr n h l (4*n) (beg n h l p)).2) Y U O I/\GD Y U (40*p.length) (Gn n h l p.length))
  ⟨[],[],r,o,k,rfl,rfl,by simp,fun m=>by simp[aO,Gn]⟩ (by
   rintro p x q J A ⟨Y,U,R,O,I,rfl,G⟩;obtain⟨a1,a2⟩:=dU (g:=id) (by simpa using A);subst a2
   have hb:(beg n h l p.length).2<2*n:=by
    unfold beg pick;cases decide (p.length<n)
    ·exact hl _ a1
    ·exact t _ a1
   obtain⟨b,a,i,E,v⟩:=Ft (cl:=cl) (fr:=fr) (fnd:=(List.range p.length).map fun p=>(itr n h l (4*n) (beg n h l p)).2) s hn N t hl hb G ⋯ (some (.int (p.length:Nat))) I
   have C:bc .ge (.int (p.length:Nat)) (.int n)=some (!decide (p.length<n)):=by
    rw[kB];congr 1;by_cases c:p.length<n
    ·simp[c]
    ·simp[c];lia
   have z:lY (.dT ks vs) (.tup [.str (sd (decide (p.length<n))),.int (p.length:Nat)])=some (bH (beg n h l p.length).1 (beg n h l p.length).2):=by
    have:=N.2.2 (decide (p.length<n)) p.length a1;rw[show bH (beg n h l p.length).1 (beg n h l p.length).2=bH (decide (p.length<n)) (at' (pick h l (decide (p.length<n))) p.length)from rfl,<-this];rfl
   have sx:=nR (!decide (p.length<n));rw[Bool.not_not]at sx;refine#[hst n h l ks vs (some (.int (p.length:Nat))) ((List.range (p++[p.length]).length).map fun p=>(itr n h l (4*n) (beg n h l p)).2) b a (some (bH (itr n h l (4*n) (beg n h l p.length)).1 (itr n h l (4*n) (beg n h l p.length)).2)) i,?_,b,a,_,_,_,rfl,E.mono (by simp;lia) (fun m=>?_)]
   ·have ok:aX [3,5,6] (.ixD 3#0 (.tup %[.ix (.lst %[.cst (.str "high"),.cst (.str "low")|_]) (.bi .int (.cmp .ge 4#0 2#0)),4#0|_])) (bH (beg n h l p.length).1 (beg n h l p.length).2)=true:=rfl;simp only[gB,hst,List.set,Option.bind_some,gJ,af,xG,fS,iY,cZ,du,kT,aY,xY,mR,mX,iu,eL,evs,bE,itemsS_lst,itemsS_tup,getElem?_cons_zero,getElem?_cons_succ,id,C,Option.map_some,FI,sx,z,u,d]at v ⊢;rw[if_pos ok];simp only[Option.bind_some,u,d,getElem?_cons_zero,getElem?_cons_succ,id,v,nZ]
    have y:((D.int (((itr n h l (4*n) (beg n h l p.length)).2:Nat):Int)).imm&&decide ((L (List.map (fun p=>(itr n h l (4*n) (beg n h l p)).snd) (List.range p.length))).length<most))=true:=by
     simp[D.imm,aL,most];lia
    rw[if_pos y];simp[L,List.range_succ]
   ·simp only[Gn,length_append,List.length_singleton];constructor
    ·rintro(⟨j,s,Z⟩ | Z)
     ·exact#[j,by lia,Z]
     ·exact#[p.length,by lia,Z]
    ·rintro⟨j,s,Z⟩;by_cases B:j=p.length
     ·subst B;exact .inr Z
     ·exact .inl #[j,by lia,Z])
 simp only[length_range]at G e;exact#[Y,U,R,O,I,G.mono ⋯ (fun _=>Iff.rfl),e]
def BF(q:1<=n)(hn:n<=10)(b:h.length=2*n)(j:l.length=2*n)(p:∀ x,x<2*n->at' h x<2*n)(hl:∀ x,x<2*n->at' l x<2*n) :
  ∃ inner:List Nat,(∀ m,m∈inner↔m<n/\¬ Gn n h l (2*n) m)/\inner.length<=n/\∀ r:Int,cl fr [.tup (L h),.tup (L l),.lst (L inner)]=some (.int r)->evF cl (iE fr) [.tup (L h),.tup (L l)]=some (.tup [.tup (L (aB n h l)),.int r]):=by
 have d:aF .mul (.int 2) (.int n)=some (.int (2*n)):=cm ∅ ∅;have U:=bM (n:=2*n) ⋯;rw[show((2*n:Nat):Int)=2*(n:Int) by lia]at U;have e:=bM (n:=n) ⋯;obtain⟨ks,vs,o,N,s⟩:=A6 (cl:=cl) (fr:=fr) hn b j;obtain⟨O,I,i,g,f,G,Y⟩:=E8 (cl:=cl) (fr:=fr) q hn N p hl o none none;refine#[(List.range n).filter fun m:Nat=>!(aO O I (.inl (m:Int))).isSome,fun m=>?_,?_,?_]
 ·have:=G.2.2 m;simp[<-this]
 ·have:=List.length_filter_le (fun m:Nat=>!(aO O I (.inl (m:Int))).isSome) (List.range n);simpa using this
 ·intro r a;have u:=half (xs:=L h) (n:=n) (by rw[aL,b]);have t:=Bp n;have ft:=mr (xs:=List.range n) (by simp;lia)
  have Z:=kj (F:=fun R=>((ev cl R (.inD true 4#0 6#0)).bind truth).bind fun k=>if k then(ev cl R 4#0).map some else some none) (tg:=[4]) (J:=hst n h l ks vs i (aB n h l) O I g f) (c:=fun m=>!(aO O I (.inl (m:Int))).isSome) (fun _=>rfl) (List.range n) (by
   intro x _;simp only[gB,hst,List.set,Option.bind_some,xW,aY,getElem?_cons_zero,getElem?_cons_succ,id,qI,keyOf,Option.map_some,truth,if_true]
   cases(aO O I (.inl (x:Int))).isSome<;>rfl)
  simp only[evF,iE,af,fS,iY,oR,dA,iu,cZ,du,aY,mR,mX,Kn,Ku,bE,itemsS_lst,itemsS_tup];simp[u,t,aX,D.imm,aG,au,d,U];rw[s];simp[af,iu,cX,pD,aY,xW,evs,bE,d,U,aG,au,D.imm];simp[hst]at Y;rw[show L []=[]from rfl]at Y;rw[Y];simp[af,evs,bE,e,ft,qo,items];simp[xW,aY,hst]at Z;rw[Z];rw[show(List.map (fun m:Nat=>D.int (m:Int)) (List.filter (fun m:Nat=>(aO O I (Sum.inl (m:Int))).isNone) (List.range n)))=L (List.filter (fun m:Nat=>(aO O I (Sum.inl (m:Int))).isNone) (List.range n))from rfl];simp at a;simp[a,bf,D.imm,au,aS,bh]
end
def vg [DecidableEq κ]:∀ {ks:List κ} {vs:List D} {x:κ} {d:D},aO ks vs x=some d->x∈ks
 | k::ks,v::vs,x,d,h=>by
  rw[aO]at h;by_cases e:k=x
  ·simp[e]
  ·rw[if_neg e]at h;simp[vg h]
def BO{κ:Type} [DecidableEq κ]{ks:List κ}{vs:List D}{x:κ}(h:aO ks vs x=some d):(putD ks vs x e).1=ks:=by
 unfold putD;rw[if_pos (vg h)]
abbrev HI(inner:List Nat)(hk:List Ky)(I:List D):Prop:=hk.length=I.length/\hk.length<=10/\∀ m∈inner,∃ v:Int,aO hk I (.inl (m:Int))=some (.int v)
def HI.put{inner:List Nat}{hk:List Ky}{I:List D}(H:HI inner hk I){m:Nat}(hm:m∈inner)(v:Int):HI inner (putD hk I (.inl (m:Int)) (.int v)).1 (putD hk I (.inl (m:Int)) (.int v)).2:=by
 obtain⟨a,b,c⟩:=H;obtain⟨R,O⟩:=c m hm;refine#[(iL a).1,by rw[BO O];exact b,fun i hi=>?_];rw[gA a];by_cases e:(.inl m:Ky)=.inl i
 ·rw[if_pos e];exact#[v,rfl]
 ·rw[if_neg e];exact c i hi
abbrev rst(n:Nat)(h l inner:List Nat)(hk:List Ky)(Z:List D)(Y U R O I:Option D):St :=
 [some (.tup (L h)),some (.tup (L l)),some (.lst (L inner)),some (.int n),some (.dK hk Z),Y,U,R,O,I]
section
def mF(e:aO hk hv (.inl (m:Int))=some (.int v)):lY (.dK hk hv) (.int (m:Nat))=some (.int v):=e
def ints_map(v:Nat->Int):∀ xs:List Nat,dZ (xs.map fun m=>.int (v m))=some (xs.map v)
 | []=>rfl
 | x::r=>by simp[dZ,ints_map v r]
end
section
def yN(F:Frm n f)(h:q<n):rnd n f q=if at' f q<n then at' f q else 3*n-1-at' f q:=by
 unfold rnd;rw[show rd n q=q by simp[rd,h]];rfl
end
def AH(G:1<=n)(hn:n<=10)
 (hd:∃ ds:List Nat,lD ds [8,10 ^ 12,max 1 (n-1)]/\cl fdi [scr,.int k,.lst (L [8,10 ^ 12,max 1 (n-1)])]=some (.lst (L ds)))
 (R:cl fpl [.int n]=some (.tup (L (bb n))))
 (Z:∀ i:Nat,i+1<n->cl fho [.int n,.int i]=some (.tup (L (gW n i))))
 (O:∀ r:Int,∃ w:List Bool,w.length=2*n/\dpf 0 w=some 0/\cl ftx [.int r,.int n]=some (.str (tx w)))
 (l:∀ w:List Bool,w.length=2*n->dpf 0 w=some 0->∃ f:List Nat,Val n f/\cl ffr [.str (tx w)]=some (.tup (L f)))
 (U:∀ f:List Nat,f.length=2*n->cl fov [.tup (L f)]=some (.tup (L (fZ n f))))
 (Y:∀ f:List Nat,Val n f->∃ (g:List Nat) (r:Int),Val n g/\cl fhu [.tup (L f),.tup (L (fZ n f))]=some (.tup [.tup (L g),.int r])) :
  ∃ f:List Nat,Val n f/\evF cl (jM fhu fov ffr ftx fho fpl fdi) [scr,.int k,.int n]=some (.tup (L f)):=by
 obtain⟨ds,⟨A,B⟩,hd⟩:=hd
 match ds,A with
 |[a,b,c],_=>
  have F:c<max 1 (n-1):=B 2 c _ rfl rfl
  have mx:(if(n:Int)-1 > 1 then(n:Int)-1 else 1)=((max 1 (n-1):Nat):Int):=by
   split<;>lia
  have x:aF .pow (.int 10) (.int 12)=some (.int ((10 ^ 12:Nat):Int)):=rfl;obtain⟨w,v,u,t⟩:=O b;obtain⟨f,V,z⟩:=l w v u;obtain⟨g,r,C,hu⟩:=Y f V;have y:=U f V.frm.len
  have tl:∀ g:List Nat,bf [] (.cst .non) (.tup (L g))=true/\(D.tup (L g)).imm=true:=fun g=>by simp[bf,D.imm,aS]
  have ret:∀ (e:E) (g:List Nat),bf [] e (.tup (L g))=true:=fun e g=>by unfold bf;rw[(tl g).2];rfl
  have start:∀ {rest:Ss} {d:D},(∃ J,af cl [] rest [some scr,some (.int k),some (.int n),none,some (.int (a:Nat)),some (.int (b:Nat)),some (.int (c:Nat))]=some (.rt d,J))->evF cl ⟨3,7,[],[],.cons (.unp [4,5,6] (.call fdi (.cons 0#0 (.cons 1#0 (.cons (.lst (.cons 8#1 (.cons (.bin .pow 10#1 12#1) (.cons (.max 1#1 (.bin .sub 2#0 1#1)) .nil)))) .nil))))) rest⟩ [scr,.int k,.int n]=some d:=fun {rest d} ⟨J,h⟩ =>
   aT rfl rfl (pz (lH (aa rfl) (aa rfl) (dM (aA aq (aA (az aq aq x) (aA ((KC aq (az (aa rfl) aq lj)).trans (by rw[mx])) bo)))) hd) rfl rfl rfl h)
  have no:∀ {j:Nat},a≠j->∀ o,(ev cl [some scr,some (.int k),some (.int n),o,some (.int (a:Nat)),some (.int (b:Nat)),some (.int (c:Nat))] (.cmp .eq 4#0 (.cst (.int (j:Nat)))))=some (.bl false):=fun {j} h o=>aD (aa rfl) aq (by rw[dF,beq_eq_false_iff_ne.mpr ⋯]);have I:∀ {j:Nat},a=j->∀ o,(ev cl [some scr,some (.int k),some (.int n),o,some (.int (a:Nat)),some (.int (b:Nat)),some (.int (c:Nat))] (.cmp .eq 4#0 (.cst (.int (j:Nat)))))=some (.bl true):=fun {j} h o=>aD (aa rfl) aq (by rw[dF,h,beq_self_eq_true]);by_cases p:a=0
  ·exact#[bb n,Az n,start #[_,gw (aR (I p _)) (aU (bO (aa rfl) R) (ret ..))]]
  ·by_cases a1:a=1/\1<n
   ·exact#[gW n c,BH hn ⋯,start #[_,bQ (aR (no p _)) (gw (aR (cM (I a1.1 _) (aD (aa rfl) aq (by rw[qG,decide_eq_true ⋯])))) (aU (dB (aa rfl) (aa rfl) (Z c ⋯)) (ret ..)))]]
   ·have m:ev cl [some scr,some (.int k),some (.int n),none,some (.int a),some (.int b),some (.int c)] (.and (.cmp .eq 4#0 1#1) (.cmp .gt 2#0 1#1))=some (.bl false):=by
     by_cases s:a=1
     ·exact cM (I s _) (aD (aa rfl) aq (by rw[qG,Qh ⋯]))
     ·exact fQ (no s _)
    have q:∀ {rest:Ss} {d:D},(∃ J,af cl [] rest [some scr,some (.int k),some (.int n),some (.tup (L f)),some (.int (a:Nat)),some (.int (b:Nat)),some (.int (c:Nat))]=some (.rt d,J))->∃ J,af cl [] (.cons (.ife (.cmp .eq 4#0 0#1) (.cons (.ret (.call fpl (.cons 2#0 .nil))) .nil) .nil) (.cons (.ife (.and (.cmp .eq 4#0 1#1) (.cmp .gt 2#0 1#1)) (.cons (.ret (.call fho (.cons 2#0 (.cons 6#0 .nil)))) .nil) .nil) (.cons (.asg 3 (.call ffr (.cons (.call ftx (.cons 5#0 (.cons 2#0 .nil))) .nil))) rest))) [some scr,some (.int k),some (.int n),none,some (.int (a:Nat)),some (.int (b:Nat)),some (.int (c:Nat))]=some (.rt d,J):=fun⟨J,h⟩ =>
     ⟨J,bQ (aR (no p _)) (bQ (aR m) (aE (bO (dB (aa rfl) (aa rfl) t) z) (by unfold aX;rw[(tl f).2];rfl) h))⟩
    by_cases a2:a=2
    ·exact#[g,C,start (q #[_,gw (aR (I a2 _)) (aU (bj (dB (aa rfl) (bO (aa rfl) y) hu) aq rfl) (ret ..))])]
    ·exact#[f,V,start (q #[_,bQ (aR (no a2 _)) (aU (aa rfl) (ret ..))])]
def sU(I:∀ x,(g x).imm=true):∀ xs:List Nat,(∀ x∈xs,(bu tg (h x) J).bind F=some (if c x then some (g x)else none))->bX F tg J (xs.map h)=some ((xs.filter c).map g)
 | [],_=>rfl
 | x::r,hh=>by
  have a:=hh x (by simp);have b:=sU I r (fun y R=>hh y (by simp[R]));rw[map_cons,bX]
  cases hb:bu tg (h x) J with
  | none=>rw[hb]at a;cases a
  |some O=>
   rw[hb]at a;simp only[Option.bind_some]at a ⊢;rw[a,b];cases hc:c x<;>simp[lE,I,hc]
abbrev pr(f:List Nat)(p:Nat):D:=.tup [.int (p:Nat),.int (at' f p:Nat)]
def vQ:∀ (f:List Nat) (k:Nat),dN (k:Int) (L f)=(List.range f.length).map fun p=>.tup [.int ((k+p:Nat):Int),.int (at' f p:Nat)]
 | [],k=>rfl
 | x::r,k=>by
  rw[show L (x::r)=.int x::L r from rfl,dN,show(k:Int)+1=((k+1:Nat):Int) by lia,vQ r (k+1),length_cons,range_succ_eq_map,map_cons,map_map];congr 1;apply QD;intro p I;simp at I
  have e:at' (x::r) (p+1)=at' r p:=by simp[at',I]
  lia
def lC(h:f.length=m):dN 0 (L f)=(List.range m).map (pr f):=by
 have:=vQ f 0;rw[h]at this;simp only[zero_add]at this;exact this
def sX(g:β->D)(Y:∀ b,(g b).imm=true)(I:List β->St->Prop):∀ (w done:List β) (J:St),(∀ u b v J,done++w=u++b::v->I u J->∃ O,(bu tg (g b) J).bind f=some (.nx,O)/\I (u++[b]) O)->I done J->∃ R,bp f tg (w.map g) J=some (.nx,R)/\I (done++w) R
 | [],done,J,_,h=>#[J,rfl,by simpa using h]
 | b::w,done,J,hs,h=>by
  obtain⟨O,U,i⟩:=hs done b w J rfl h;obtain⟨R,d,c⟩:=sX g Y I w (done++[b]) O (fun pre e post J a=>hs pre e post J (by simpa using a)) i;refine#[R,?_,by simpa using c];rw[map_cons,bp,if_pos (Y b)]
  cases hb:bu tg (g b) J with
  | none=>rw[hb]at U;cases U
  |some Z=>
   rw[hb]at U;simp only[Option.bind_some]at U ⊢;rw[U];exact d
section
variable{n:Nat}
def p9(R:p<2*n):evF cl dP [.int n,.int (p:Nat)]=some (.int (rd n p:Nat)):=by
 have O:aF .mul (.int 3) (.int n)=some (.int (3*n)):=cm ∅ ∅;by_cases c:p<n
 ·have I:decide (p<n)=true:=by simp;lia
  simp[evF,dP,af,dA,eL,yj,aY,fB,I,truth,bf,D.imm,bh,rd,c]
 ·have I:decide (p<n)=false:=by simp;lia
  simp[evF,dP,af,dA,cZ,eL,du,yj,aY,fB,I,truth,O,lj,bf,D.imm,bh,rd,c];lia
def xE{T:D}{c:List D->D}{to:Nat->Nat}(d:c=.tup\/c=.lst)(hn:n<=10)(F:Frm n f)(hT:∀ p:Nat,p<2*n->ixV T (.int (p:Nat))=some (.int (to p:Nat)))(U:∀ p,p<2*n->to p<2*n)(inj:∀ p q,p<2*n->q<2*n->to p=to q->p=q) :
  ∃ E:List Nat,E.length=2*n/\(∀ p,p<2*n->at' E (to p)=to (at' f p))/\evF cl kd [c (L f),T]=some (.tup (L E)):=by
 have h:biV .len (c (L f))=some (.int (2*n)):=by rcases d with rfl | rfl<;>simp[Kp,CV,aL,F.len]
 have it:ie (c (L f))=some (L f):=by rcases d with rfl | rfl<;>rfl
 have k:=lC F.len
 have l:aF .mul (.lst [.int 0]) (.int (2*(n:Int)))=some (.lst (L (replicate (2*n) 0))):=by
  rw[IA];rw[if_pos ⟨by lia,by unfold most;lia,by simp[most];lia⟩]
  have:(2*(n:Int)).toNat=2*n:=by lia
  rw[this];simp[L]
 obtain⟨g,e,E,Z,Y,rfl,a,b⟩:=sX (f:=af cl [2] oA) (tg:=[3,4]) (pr f) (fun _=>rfl)
  (fun u J=>∃ (E:List Nat) (Z Y:Option D),J=[some (c (L f)),some T,some (.lst (L E)),Z,Y]/\E.length=2*n/\∀ p∈u,at' E (to p)=to (at' f p))
  (List.range (2*n)) [] [some (c (L f)),some T,some (.lst (L (replicate (2*n) 0))),none,none] (by
   rintro u p v J hu ⟨E,Z,Y,rfl,a,b⟩
   have O:p<2*n:=by
    have:p∈List.range (2*n):=by
     simp only[nil_append]at hu;rw[hu];simp
    simpa using this
   have R:∀ x∈u,x<2*n/\x≠p:=by
    intro x I;simp only[nil_append]at hu;have nd:(List.range (2*n)).Nodup:=nodup_range
    have m:x∈List.range (2*n):=by rw[hu];simp[I]
    rw[hu,List.nodup_append]at nd;exact#[by simpa using m,nd.2.2 x I p (by simp)]
   have t1:=hT p O;have t2:=hT (at' f p) (F.lt p O);have pt:=gf (f:=E) (i:=to p) (j:=to (at' f p)) (by have:=U p O;lia);refine#[_,?_,E.set (to p) (to (at' f p)),some (.int (p:Nat)),some (.int (at' f p:Nat)),rfl,by simp[a],fun x I=>?_]
   ·simp[IV,GW,Ic,pr,oA,af,mO,kT,aY,t1,t2,D.imm,pt]
   ·rw[eB (by have:=U p O;lia)];simp at I;rcases I with I | rfl
    ·rw[if_neg (fun c=>(R x I).2 (inj x p (R x I).1 O c))];exact b x I
    ·rw[if_pos rfl])
  ⟨_,none,none,rfl,by simp,by simp⟩
 refine#[E,a,fun p O=>b p (by simp[O]),?_];simp only[evF,kd,af,iY,oR,dA,iu,cZ,du,mR,aY,evs,bE,itemsS_lst,itemsS_tup];simp[evs,h,l,aG,aS,it,k];rw[e];simp[af,qo,items,bf,D.imm,aS,bh]
def yV{T:D}{to:Nat->Nat}(hn:n<=10)(F:Frm n f)(hT:∀ p:Nat,p<2*n->ixV T (.int (p:Nat))=some (.int (to p:Nat)))(I:∀ p,p<2*n->to p<2*n)(inj:∀ p q,p<2*n->q<2*n->to p=to q->p=q) :
  ∃ E:List Nat,E.length=2*n/\(∀ p,p<2*n->at' E (to p)=to (at' f p))/\evF cl kd [.tup (L f),T]=some (.tup (L E)):=xE (.inl rfl) hn F hT I inj
def rW{c:List D->D}(h:c=.tup\/c=.lst)(hn:n<=10)(F:Frm n f)(U:∀ xs:List D,cl fpo [c xs]=some (.int (xs.length / 2)))(R:∀ p:Nat,p<2*n->cl frp [.int n,.int (p:Nat)]=some (.int (rd n p:Nat)))
 (hm:∃ E:List Nat,E.length=2*n/\(∀ p,p<2*n->at' E (rd n p)=rd n (at' f p))/\cl fm [c (L f),.lst (L (cR n))]=some (.tup (L E))) :
  ∃ E:List Nat,E.length=2*n/\(∀ q,q<2*n->at' E q=rnd n f q)/\evF cl (gc fm frp fpo) [c (L f)]=some (.tup (L E)):=by
 obtain⟨E,d,e,hm⟩:=hm;refine#[E,d,fun q a=>?_,?_]
 ·have:=e (rd n q) (bF a);rw[cw a]at this;exact this
 ·have b:aF .mul (.int 2) (.int n)=some (.int (2*n)):=cm ∅ ∅;have Y:=bM (n:=2*n) ⋯;rw[show((2*n:Nat):Int)=2*(n:Int) by lia]at Y;have ft:=mr (xs:=List.range (2*n)) (by simp;lia);have po:=U (L f);rw[aL,F.len,show(((2*n:Nat):Int) / 2)=(n:Int) by lia]at po
  have O:=ky (F:=fun I=>(ev cl I (.call frp (.cons 1#0 (.cons 2#0 .nil)))).map some) (tg:=[2]) (J:=[some (c (L f)),some (.int n),none]) (g:=fun p=>.int (rd n p:Nat)) (fun _=>rfl) (List.range (2*n)) (by
   intro x Z;simp at Z;have:=R x Z
   simp[gB,cX,aY,evs,this])
  rw[xQ,show(List.range (2*n)).map (fun p=>rd n p)=cR n from rfl]at O;simp only[evF,gc,af,fS,dA,cX,aY,cZ,m9,du,evs,bE,itemsS_lst,itemsS_tup];simp[evs,po,aX,D.imm,b,Y,ft];simp[cX,aY,evs]at O;rw[O];simp[hm,bf,D.imm,aS,bh]
def uW(hn:n<=10)(F:Frm n f)(O:∀ xs:List D,cl fpo [.tup xs]=some (.int (xs.length / 2)))(I:∀ p:Nat,p<2*n->cl frp [.int n,.int (p:Nat)]=some (.int (rd n p:Nat)))
 (hm:∃ E:List Nat,E.length=2*n/\(∀ p,p<2*n->at' E (rd n p)=rd n (at' f p))/\cl fm [.tup (L f),.lst (L (cR n))]=some (.tup (L E))) :
  ∃ E:List Nat,E.length=2*n/\(∀ q,q<2*n->at' E q=rnd n f q)/\evF cl (gc fm frp fpo) [.tup (L f)]=some (.tup (L E)):=rW (.inl rfl) hn F O I hm
end
structure Op(r:Nat->Nat)(k:Nat)(W:List Nat):Prop where
 up:W.Pairwise (·<·)
 mem:∀ p,p∈W↔p<k/\k<=r p
section
def Op.push(O:Op r k W)(inv:∀ q,q<m->r (r q)=q)(hk:k<m)(h:k<r k):Op r (k+1) (W++[k]):=by
 refine#[?_,fun p=>?_]
 ·rw[QF];exact⟨O.up,by simp,fun a ha b hb=>by simp at hb;have:=(O.mem a).mp ha;lia⟩
 ·simp only[List.mem_append,List.mem_singleton,O.mem];constructor
  ·rintro(⟨a,b⟩ | rfl)
   ·refine#[by lia,?_];by_cases c:r p=k
    ·have:=inv p ⋯;lia
    ·lia
   ·lia
  ·rintro⟨a,b⟩;by_cases c:p=k
   ·exact .inr c
   ·exact .inl #[by lia,by lia]
end
section
def sY(r:1<=n)(hn:n<=10)(V:Val n f)(Z:∀ xs:List D,cl fo [.tup xs]=some (.int (xs.length / 2)))(j:cl fc [.int n]=some (.bl true))(i:cl fp [.tup (L f)]=some (.bl true))
 (hi:∃ E:List Nat,E.length=2*n/\(∀ q,q<2*n->at' E q=rnd n f q)/\cl fi [.tup (L f)]=some (.tup (L E)))
 (hu:∀ E:List Nat,E.length=2*n->(∀ q,q<2*n->at' E (at' E q)=q)->(∀ q,q<2*n->at' E q≠q)->(∀ q q',q<2*n->q'<2*n->¬ (q<q'/\q'<at' E q/\at' E q<at' E q'))->(∀ q,q<2*n->at' E q<2*n)->cl fu [.tup (L E)]=some (.bl true)) :
  evF cl (iC fu fi fp fc fo) [.tup (L f)]=some (.bl true):=by
 have F:=V.frm;obtain⟨E,o,O,hi⟩:=hi;have a:∀ q,q<2*n->rnd n f q<2*n:=fun q I=>bF (F.lt _ (bF I))
 have hu:=hu E o (fun q I=>by
   rw[O q I,O _ (a q I)];unfold rnd
   rw[cw (F.lt _ (bF I)),F.inv,cw I]) (fun q I e=>by
   rw[O q I]at e;unfold rnd at e;have:=congrArg (rd n) e;rw[cw (F.lt _ (bF I))]at this
   exact F.no _ (bF I) this) (fun q q' h h'=>by
   rw[O q h,O q' h']
   exact V.nox q q' h h') (fun q I=>by rw[O q I];exact a q I)
 have m:aF .mul (.int 2) (.int n)=some (.int (2*n)):=cm ∅ ∅;have d:=half (xs:=L f) (n:=n) (by rw[aL,F.len]);have po:=Z (L f);rw[aL,F.len,show(((2*n:Nat):Int) / 2)=(n:Int) by lia]at po;have l:=lC F.len
 have ft:fits ((List.range (2*n)).map (pr f))=some ((List.range (2*n)).map (pr f)):=by
  unfold fits;rw[if_pos (by simp[most];lia)]
 have Y:=sU (F:=fun R=>((ev cl R (.cmp .eq 3#0 4#0)).bind truth).bind fun k=>if k then(ev cl R 3#0).map some else some none) (tg:=[3,4]) (J:=[some (.tup (L f)),some (.int n),none,none,none]) (h:=pr f) (g:=fun p=>.int (p:Nat)) (c:=fun _=>false) (fun _=>rfl) (List.range (2*n)) (by
  intro x b;simp at b;have c2:((x:Int) == (at' f x:Nat))=false:=beq_eq_false_iff_ne.mpr (by have:=F.no x b;lia)
  simp[IV,GW,Ic,pr,eL,aY,dF,c2,truth])
 rw[show(List.range (2*n)).filter (fun _=>false)=[]from List.filter_eq_nil_iff.mpr (by simp),map_nil]at Y
 have U:bc .ne (.int (2*(n:Int))) (.int (2*(n:Int)))=some false:=by
  rw[CQ];simp
 simp only[evF,iC,af,fS,gK,dA,cX,aY,p6,iu,cZ,eL,pD,du,sr,yu,evs,bE,itemsS_lst,itemsS_tup];simp[evs,po,aX,D.imm,d,m,U,j,i,truth,af,bE,ie,l,ft];simp[eL,aY]at Y;rw[Y];simp[af,evs,aG,au,hi,hu,truth,bf,D.imm,bh,Ln]
def oQ(h:cl fi [x]=some (.bl true)):evF cl (fk fi) [x]=some .non:=by
 simp[evF,fk,af,gK,cX,sr,aY,evs,h,truth,bh]
abbrev thr(n:Nat)(f:List Nat):Nat:=((List.range n).filter fun p=>decide (n<=at' f p)).length
def Fl(F:Frm n f):f.take n=(List.range n).map (at' f):=by
 have hl:=F.len;apply List.ext_getElem?;intro i;by_cases hi:i<n
 ·rw[List.getElem?_take_of_lt hi,jT ⋯];simp[hi]
 ·rw[QI (by simp;lia),QI (by simp;lia)]
def v5(a:1<=n)(hn:n<=10)(F:Frm n f)(O:∀ xs:List D,cl fo [.tup xs]=some (.int (xs.length / 2)))(Y:cl fc [.tup (L f)]=some .non):evF cl (j0 fo fc) [.tup (L f)]=some (.int (thr n f:Nat)):=by
 have po:=O (L f);rw[aL,F.len,show(((2*n:Nat):Int) / 2)=(n:Int) by lia]at po
 have ct:cutAt (L f).length (n:Int)=n:=by
  unfold cutAt;rw[if_pos ⋯,aL,F.len];lia
 have sl:kI (.tup (L f)) (.int n)=some (.tup (L ((List.range n).map (at' f)))):=by
  dsimp only[kI];rw[ct,if_pos (by rw[aL,F.len];lia),AL,Fl F]
 have ft:=mr (xs:=(List.range n).map (at' f)) (by simp;lia)
 have R:=kj (F:=fun I=>((ev cl I (.cmp .ge 2#0 1#0)).bind truth).bind fun k=>if k then(ev cl I 2#0).map some else some none) (tg:=[2]) (J:=[some (.tup (L f)),some (.int n),none]) (g:=fun p=>.int (p:Nat)) (c:=fun p=>decide (n<=p)) (fun _=>rfl) ((List.range n).map (at' f)) (by
  intro x Z;by_cases c:n<=x
  ·have c2:decide ((n:Int)<=(x:Nat))=true:=by simp;lia
   simp[gB,eL,aY,kB,c2,truth,c]
  ·have c2:decide ((n:Int)<=(x:Nat))=false:=by simp;lia
   simp[gB,eL,aY,kB,c2,truth,c])
 have U:∀ xs:List D,biV .len (.lst xs)=some (.int xs.length):=fun _=>rfl;simp only[evF,j0,af,fS,mD,dA,cX,aY,iu,pD,Dy,eL,evs,bE,itemsS_lst,itemsS_tup];simp[evs,Y,af,bE,po,aX,D.imm,sl,items,ft];simp[eL,aY]at R;rw[R];simp[U,bf,D.imm,bh,thr,List.filter_map,Function.comp_def]
end
def jP{β:Type}{F:St->Option (Option D)}{tg:List Nat}{J:St}{h g:β->D}(I:∀ x,(g x).imm=true):∀ xs:List β,(∀ x∈xs,(bu tg (h x) J).bind F=some (some (g x)))->bX F tg J (xs.map h)=some (xs.map g)
 | [],_=>rfl
 | x::r,hh=>by
  have a:=hh x (by simp);have b:=jP I r (fun y R=>hh y (by simp[R]));rw[map_cons,bX]
  cases hb:bu tg (h x) J with
  | none=>rw[hb]at a;cases a
  |some O=>
   rw[hb]at a;simp only[Option.bind_some]at a ⊢;rw[a,b];simp[lE,I]
def sq(x:Bool):bc .ne (.bl x) (.bl x)=some false:=by cases x<;>rfl
def Dt(x:Bool):bc .eq (.bl x) (.bl x)=some true:=by cases x<;>rfl
section
def qh(O:(match d with | .non=>some (D.bl (!false)) | .dK _ _=>none | .dT _ _=>none | .fT _ _=>none | _=>some (.bl false))=some (D.bl false))(hb:gy .bool d=some kb)(hi:gy .int d=some ki)(hl:gy .list d=some kl)(I:gy .tuple d=some kt)
 (k:af cl [] r [some d,some d,none,none]=res):af cl [] (.cons (.ife (.isN false 1#0) %[.ret (.isN false 0#0)|_] .nil) (.cons (.ife (.or (.cmp .ne (.isi 0#0 .bool) (.isi 1#0 .bool)) (.cmp .ne (.isi 0#0 .int) (.isi 1#0 .int))) %[.ret (.cst (.bl false))|_] .nil) (.cons (.ife (.or (.cmp .ne (.isi 0#0 .list) (.isi 1#0 .list)) (.cmp .ne (.isi 0#0 .tuple) (.isi 1#0 .tuple))) %[.ret (.cst (.bl false))|_] .nil) r))) [some d,some d,none,none]=res :=
 bQ (aR (JN O (aa rfl))) (bQ (aR (vb (aD (d9 (aa rfl) hb) (d9 (aa rfl) hb) (sq _)) (aD (d9 (aa rfl) hi) (d9 (aa rfl) hi) (sq _)))) (bQ (aR (vb (aD (d9 (aa rfl) hl) (d9 (aa rfl) hl) (sq _)) (aD (d9 (aa rfl) I) (d9 (aa rfl) I) (sq _)))) k))
def lK(U:(match d with | .non=>some (D.bl (!false)) | .dK _ _=>none | .dT _ _=>none | .fT _ _=>none | _=>some (.bl false))=some (D.bl false))(hb:gy .bool d=some kb)(hi:gy .int d=some ki)(hl:gy .list d=some false)(I:gy .tuple d=some false)(O:gy .str d=some ks)(R:bc .eq d d=some true):evF cl (dI fs) [d,d]=some (.bl true) :=
 aT rfl rfl (qh U hb hi hl I (gw (aR (cM (ff (d9 (aa rfl) hl)) (ff (d9 (aa rfl) I)))) (aU (cM (aD (d9 (aa rfl) O) (d9 (aa rfl) O) (Dt _)) (aD (aa rfl) (aa rfl) R)) rfl)))
end
def same_int(a:Int):evF cl (dI fs) [.int a,.int a]=some (.bl true):=lK rfl rfl rfl rfl rfl rfl (by rw[dF,beq_self_eq_true])
def nW:∀ xs:List D,fw xs xs=xs.map fun x=>.tup [x,x]
 | []=>rfl
 | x::r=>by simp[fw,nW r]
def zL:∀ xs:List β,dQ (xs.map fun _=>D.bl true)=some (xs.map fun _=>true)
 | []=>rfl
 | x::r=>by simp[dQ,zL r]
def uT{fs:Nat}{d:D}{xs:List D}(hd:d=.tup xs\/d=.lst xs)(hl:xs.length<=1000)(h:∀ x∈xs,cl fs [x,x]=some (.bl true)):evF cl (dI fs) [d,d]=some (.bl true):=by
 have al:biV .all (.lst (xs.map fun _=>.bl true))=some (.bl true):=by
  simp only[LJ,zL];simp
 have R:=jP (F:=fun O=>(ev cl O (.call fs (.cons 2#0 (.cons 3#0 .nil)))).map some) (tg:=[2,3]) (J:=[some d,some d,none,none]) (h:=fun x=>.tup [x,x]) (fun _=>rfl) xs (by
  intro x a;show(ev cl [some d,some d,some x,some x] (.call fs %[2#0,3#0|_])).map some=_;rw[dB (aa rfl) (aa rfl) (h x a)]
  rfl)
 have it:items d=some xs:=by rcases hd with rfl | rfl<;>rfl
 have U:biV .len d=some (.int xs.length):=by rcases hd with rfl | rfl<;>rfl
 have Z:bc .eq (.int (xs.length:Int)) (.int (xs.length:Int))=some true:=by simp[dF]
 have Y:(fw xs xs).length<=most:=by rw[nW,length_map];unfold most;lia
 rw[<-nW]at R;have tl:∀ {I:Option (Out × St)},some (Out.rt (.bl true),[some d,some d,none,none])=I->af cl [] (.cons (.ret (.and (.cmp .eq (.bi .len 0#0) (.bi .len 1#0)) (.bi .all (.compA (.call fs (.cons 2#0 (.cons 3#0 .nil))) [2,3] (.zip 0#0 1#0))))) .nil) [some d,some d,none,none]=I:=fun e=>(aU (cM (aD (aZ (aa rfl) U) (aZ (aa rfl) U) Z) (aZ (de (CW (aa rfl) (aa rfl) it it rfl) Y R) al)) rfl).trans e;rcases hd with rfl | rfl
 ·exact aT rfl rfl (qh rfl rfl rfl rfl rfl (bQ (aR (cM (ff (k:=false) (d9 (aa rfl) rfl)) (ff (k:=true) (d9 (aa rfl) rfl)))) (tl rfl)))
 ·exact aT rfl rfl (qh rfl rfl rfl rfl rfl (bQ (aR (fQ (ff (k:=true) (d9 (aa rfl) rfl)))) (tl rfl)))
def yK(g:β->D)(Z:∀ b,(g b).imm=true)(I:List β->St->Prop):∀ (w done:List β) (J:St),(∀ u b v J,done++w=u++b::v->I u J->(∃ O,(bu tg (g b) J).bind f=some (.nx,O)/\I (u++[b]) O)\/(B/\∃ O,(bu tg (g b) J).bind f=some (.rt d,O)))->I done J->(∃ R,bp f tg (w.map g) J=some (.nx,R)/\I (done++w) R)\/(B/\∃ R,bp f tg (w.map g) J=some (.rt d,R))
 | [],done,J,_,h=>.inl #[J,rfl,by simpa using h]
 | b::w,done,J,hs,h=>by
  rcases hs done b w J rfl h with⟨O,U,k⟩ | ⟨a,O,U⟩
  ·have go:∀ {r:Option (Out × St)},bp f tg (w.map g) O=r->bp f tg ((b::w).map g) J=r:=fun {r} e=>by
    rw[map_cons,bp,if_pos (Z b)]
    cases hb:bu tg (g b) J with
    | none=>rw[hb]at U;cases U
    |some Y=>
     rw[hb]at U;simp only[Option.bind_some]at U ⊢;rw[U];exact e
   rcases yK (d:=d) (B:=B) g Z I w (done++[b]) O (fun pre e post J i=>hs pre e post J (by simpa using i)) k with⟨R,c,j⟩ | ⟨a,R,c⟩
   ·exact .inl #[R,go c,by simpa using j]
   ·exact .inr #[a,R,go c]
  ·refine .inr #[a,O,?_];rw[map_cons,bp,if_pos (Z b)]
   cases hb:bu tg (g b) J with
   | none=>rw[hb]at U;cases U
   |some Y=>
    rw[hb]at U;simp only[Option.bind_some]at U ⊢;rw[U];rfl
def zW(hi:(J[i]?).bind id=some (.lst (xs++[.int p])))(h:ev cl (J.set i (some (.lst xs))) e=some (.int q))(k:af cl M (.cons (.ife (.cst (.bl (decide (p=q)))) b a) r) (J.set i (some (.lst xs)))=res):af cl M (.cons (.ifp i e a b) r) J=res:=by
 have l:evS cl M (.ifp i e a b) J=if decide (p=q)=true then af cl M b (J.set i (some (.lst xs)))else af cl M a (J.set i (some (.lst xs))):=by
  rw[Ki,hi,Option.bind_some];show((xs++[D.int p])[(xs++[D.int p]).length-1]?).bind _=_;rw[show(xs++[D.int p])[(xs++[D.int p]).length-1]?=some (.int p) by simp,Option.bind_some,List.dropLast_concat,h];rfl
 have I:evS cl M (.ife (.cst (.bl (decide (p=q)))) b a) (J.set i (some (.lst xs)))=if decide (p=q)=true then af cl M b (J.set i (some (.lst xs)))else af cl M a (J.set i (some (.lst xs))):=by
  rfl
 rw[af,I,<-l,<-af]at k;exact k
abbrev Nx(r:Nat->Nat)(m:Nat):Prop:=∀ q q',q<q'->q'<r q->r q<m->¬ (r q<r q'\/r q'=q')
structure Oq(r:Nat->Nat)(k:Nat)(W:List Nat):Prop extends Op r k W where
 nx:Nx r k
 al:∀ q q',q<q'->q'<k->k<=r q->r q'≠q'
section
def Oq.push(O:Oq r k W)(inv:∀ q,q<m->r (r q)=q)(hk:k<m)(h:k<r k):Oq r (k+1) (W++[k]) where
 toOp:=O.toOp.push inv hk h
 nx:=fun q q' I R U=>by
  by_cases c:r q=k
  ·exfalso;have:=inv q ⋯;lia
  ·exact O.nx q q' I R ⋯
 al:=fun q q' I R U=>by
  by_cases c:q'=k
  ·subst c;lia
  ·exact O.al q q' I ⋯ ⋯
def Oq.alone(O:Oq r k [])(inv:∀ q,q<m->r (r q)=q)(hk:k<m)(h:r k=k):Oq r (k+1) []:=by
 have no:∀ q,q<k->k<=r q->False:=fun q R I=>by
  have:=(O.mem q).mpr ⟨R,I⟩;cases this
 refine⟨⟨.nil,fun p=>⟨fun h=>(by cases h),fun⟨a,b⟩=>?_⟩⟩,fun q q' R I U=>?_,fun q q' R I U=>?_⟩
 ·by_cases c:p=k
  ·subst c;lia
  ·exact(no p ⋯ ⋯).elim
 ·by_cases c:r q=k
  ·exfalso;have:=inv q ⋯;lia
  ·exact O.nx q q' R I ⋯
 ·exact(no q ⋯ ⋯).elim
def Oq.pop(O:Oq r k (W0++[r k]))(inv:∀ q,q<m->r (r q)=q)(hk:k<m)(h:r k<k):Oq r (k+1) W0:=by
 have up:=O.up;rw[QF]at up;refine#[#[up.1,fun p=>?_],fun q q' R Y Z=>?_,fun q q' R Y Z=>?_]
 ·constructor
  ·intro U;have lt:=up.2.2 p U (r k) (by simp);have:=(O.mem p).mp (by simp[U]);refine#[by lia,?_];by_cases c:r p=k
   ·have i:=inv p ⋯;lia
   ·lia
  ·rintro⟨a,b⟩
   have d:p≠k:=by rintro rfl;lia
   have:=(O.mem p).mpr ⟨by lia,by lia⟩;simp at this;rcases this with h | h
   ·exact h
   ·rw[h,inv k hk]at b;lia
 ·by_cases c:r q=k
  ·have i:=inv q ⋯;rw[c]at i;subst i;rintro(z | z)
   ·have I:=(O.mem q').mpr ⟨by lia,by lia⟩;simp at I;rcases I with I | I
    ·have:=up.2.2 q' I (r k) (by simp);lia
    ·lia
   ·exact O.al (r k) q' R ⋯ ⋯ z
  ·exact O.nx q q' R Y ⋯
 ·by_cases c:q'=k
  ·subst c;lia
  ·exact O.al q q' R ⋯ ⋯
end
def wC{cl:Cl}{m:Nat}{E:List Nat}(hm:m<=1000)(F:E.length=m)(inv:∀ q,q<m->at' E (at' E q)=q)(lt:∀ q,q<m->at' E q<m):∃ b:Bool,evF cl eQ [.tup (L E)]=some (.bl b)/\(b=true->Nx (at' E) m)/\(Nx (at' E) m->b=true):=by
 have A:=lC F
 have st:=yK (B:=¬ Nx (at' E) m) (f:=af cl [1] bT) (tg:=[2,3]) (d:=.bl false) (pr E) (fun _=>rfl)
  (fun u J=>∃ (W:List Nat) (Z Y:Option D),J=[some (.tup (L E)),some (.lst (L W)),Z,Y]/\Oq (at' E) u.length W/\W.length<=u.length)
  (List.range m) [] [some (.tup (L E)),some (.lst (L [])),none,none] (by
   rintro u p v J hu ⟨W,Z,Y,rfl,O,C⟩;obtain⟨hk,y⟩:=dU (g:=id) (by simpa using hu);subst y
   have s:(L W).length<most:=by rw[aL];unfold most;lia
   by_cases c:u.length<at' E u.length
   ·refine .inl #[_,show af cl [1] bT [some (.tup (L E)),some (.lst (L W)),some (.int (u.length:Nat)),some (.int (at' E u.length:Nat))]=some (.nx,_)from fM (aR (aD (k:=true) (aa rfl) (aa rfl) (by rw[qG,decide_eq_true ⋯]))) (uj (aa rfl) rfl rfl s aH) aH,W++[u.length],some (.int (u.length:Nat)),some (.int (at' E u.length:Nat)),?_,?_,?_]
    ·rw[dz];rfl
    ·rw[length_append];exact O.push inv hk c
    ·simp;lia
   ·have R:(ev cl [some (.tup (L E)),some (.lst (L W)),some (.int (u.length:Nat)),some (.int (at' E u.length:Nat))] (.cmp .gt 3#0 2#0)).bind truth=some false:=aR (aD (k:=false) (aa rfl) (aa rfl) (by rw[qG,Qh ⋯]));by_cases c2:at' E u.length=u.length
    ·have I:(ev cl [some (.tup (L E)),some (.lst (L W)),some (.int (u.length:Nat)),some (.int (at' E u.length:Nat))] (.cmp .eq 3#0 2#0)).bind truth=some true:=aR (aD (k:=true) (aa rfl) (aa rfl) (by rw[dF,c2,beq_self_eq_true]))
     cases W with
     |nil=>
      exact .inl #[_,show af cl [1] bT [some (.tup (L E)),some (.lst (L [])),some (.int (u.length:Nat)),some (.int (at' E u.length:Nat))]=some (.nx,_)from lW R (fM I (bQ (by rw[aa rfl];rfl) aH) aH) aH,[],_,_,rfl,by rw[length_append];exact O.alone inv hk c2,by simp]
     |cons w W=>
      exact .inr ⟨fun N=>by
       obtain⟨o,H⟩:=(O.mem w).mp (Qq ..)
       have wk:at' E w≠u.length:=fun z=>by
        have:=inv w ⋯;lia
       exact N w u.length o ⋯ (lt w ⋯) (.inr c2),_,show af cl [1] bT [some (.tup (L E)),some (.lst (L (w::W))),some (.int (u.length:Nat)),some (.int (at' E u.length:Nat))]=some (.rt (.bl false),_)from mH R (gw I (gw (by rw[aa rfl];rfl) (aU aq rfl)))⟩
    ·have I:(ev cl [some (.tup (L E)),some (.lst (L W)),some (.int (u.length:Nat)),some (.int (at' E u.length:Nat))] (.cmp .eq 3#0 2#0)).bind truth=some false:=aR (aD (k:=false) (aa rfl) (aa rfl) (by rw[dF,beq_eq_false_iff_ne.mpr ⋯]));have l:at' E u.length∈W:=(O.mem _).mpr ⟨by lia,by rw[inv _ hk];exact Qb _⟩;have ne:W≠[]:=List.ne_nil_of_mem l;have a:=List.dropLast_concat_getLast ne;generalize W.getLast ne=z at a;generalize W.dropLast=W0 at a;subst a
     have hi:(([some (D.tup (L E)),some (.lst (L (W0++[z]))),some (.int (u.length:Nat)),some (.int (at' E u.length:Nat))]:St)[1]?).bind id=some (.lst (L W0++[.int (z:Nat)])):=by rw[dz];rfl
     by_cases j:z=at' E u.length
     ·refine .inl #[_,show af cl [1] bT [some (.tup (L E)),some (.lst (L (W0++[z]))),some (.int (u.length:Nat)),some (.int (at' E u.length:Nat))]=some (.nx,_)from lW R (lW I (zW hi (aa rfl) (fM (by rw[aq,decide_eq_true ⋯];rfl) aH aH)) aH) aH,W0,_,_,rfl,?_,?_]
      ·rw[length_append];subst j;exact O.pop inv hk ⋯
      ·simp at C ⊢;lia
     ·exact .inr ⟨fun N=>by
       have up:=O.up;rw[QF]at up
       have t:at' E u.length∈W0:=by
        rcases List.mem_append.mp l with h | h
        ·exact h
        ·exact absurd (List.mem_singleton.mp h).symm j
       have x:=up.2.2 _ t z (by simp);have n:=(O.mem z).mp (by simp)
       have G:at' E z≠u.length:=fun q=>by
        have:=inv z ⋯;rw[q]at this;exact j this.symm
       have i:=inv u.length hk
       exact N (at' E u.length) z x (by rw[i];exact n.1) (by rw[i];exact hk) (.inl (by rw[i];lia)),_,show af cl [1] bT [some (.tup (L E)),some (.lst (L (W0++[z]))),some (.int (u.length:Nat)),some (.int (at' E u.length:Nat))]=some (.rt (.bl false),_)from mH R (mH I (zW hi (aa rfl) (mH (by rw[aq,Qh ⋯];rfl) (aU aq rfl))))⟩)
  ⟨[],none,none,rfl,⟨⟨by simp,by simp⟩,fun q q' _ _ h=>absurd h (Nat.not_lt_zero _),fun q q' _ h=>absurd h (Nat.not_lt_zero _)⟩,by simp⟩
 rw[<-A]at st
 rcases st with⟨U,e,W,Z,Y,rfl,O,_⟩ | ⟨r,U,e⟩
 ·refine#[true,aT rfl rfl (ip (dM bo) rfl (cY (oX (aa rfl) rfl) e (aU aq rfl))),fun _=>?_,fun _=>rfl];have:=O.nx;rw[nil_append,length_range]at this;exact this
 ·exact⟨false,aT rfl rfl (ip (dM bo) rfl (Eg (oX (aa rfl) rfl) e)),(fun h=>by cases h),fun N=>absurd N r⟩
abbrev xi(xs:List Int)(p:Nat):Int:=(xs[p]?).getD 0
abbrev nb(xs:List Int)(p:Nat):Bool:=decide (0<=xi xs p/\xi xs p<xs.length)&&decide (xi xs (xi xs p).toNat=p)
def DB(h:p<xs.length):ixV (.tup (LI xs)) (.int (p:Nat))=some (.int (xi xs p)):=by
 show cF _ _=_;rw[gH];simp[LI,xi,h]
def ud(xs:List Int):biV .len (.tup (LI xs))=some (.int (xs.length:Nat)):=congrArg (fun n:Nat=>some (D.int n)) (zO xs)
def bls(g:β->Bool):∀ xs:List β,dQ (xs.map fun x=>D.bl (g x))=some (xs.map g)
 | []=>rfl
 | x::r=>by rw[map_cons,dQ,bls g r];rfl
def EA(g:β->Bool)(xs:List β):biV .all (.lst (xs.map fun x=>D.bl (g x)))=some (.bl (xs.all g)):=by
 show(dQ (xs.map fun x=>D.bl (g x))).map _=_;rw[bls,Option.map_some,all_map];rfl
section
def A4(O:∀ i:Int,cl fn [.int i]=some (.bl true))(Y:p<xs.length):evF cl (fX fn) [.tup (LI xs),.int (p:Nat)]=some (.bl (nb xs p)):=by
 unfold nb;have a1:ev cl [some (.tup (LI xs)),some (.int (p:Nat)),some (.int (xi xs p))] (.call fn (.cons 2#0 .nil))=some (.bl true):=bO (aa rfl) (O _);have R:∀ {I:Option (Out × St)} {r:Ss},af cl [] r [some (.tup (LI xs)),some (.int (p:Nat)),some (.int (xi xs p))]=I->af cl [] (.cons (.asg 2 (.ix 0#0 1#0)) r) [some (.tup (LI xs)),some (.int (p:Nat)),none]=I:=fun h=>aE (bj (aa rfl) (aa rfl) (DB Y)) rfl h;by_cases c:0<=xi xs p/\xi xs p<xs.length
 ·rw[decide_eq_true c,Bool.true_and];obtain⟨j,Z⟩:=Int.eq_ofNat_of_zero_le c.1;rw[Z]at c R a1 ⊢;have i2:=DB (xs:=xs) (p:=j) ⋯
  exact aT rfl rfl (R (aU (cM a1 (cM (wQ aq (aa rfl) (aZ (aa rfl) (ud xs)) (by rw[xB,decide_eq_true c.1]) (by rw[fB,decide_eq_true c.2])) (aD (bj (aa rfl) (aa rfl) i2) (aa rfl) (by
   congr 1)))) rfl))
 ·rw[Qh c,Bool.false_and];by_cases U:0<=xi xs p
  ·exact aT rfl rfl (R (aU (cM a1 (fQ (wQ aq (aa rfl) (aZ (aa rfl) (ud xs)) (by rw[xB,decide_eq_true U]) (by rw[fB,Qh (fun z=>c ⟨U,z⟩)])))) rfl))
  ·exact aT rfl rfl (R (aU (cM a1 (fQ (Bt aq (aa rfl) (by rw[xB,Qh U])))) rfl))
def ny(hm:xs.length<=1000)(hb:∀ p:Nat,p<xs.length->cl fb [.tup (LI xs),.int (p:Nat)]=some (.bl (nb xs p))):evF cl (gd fb) [.tup (LI xs)]=some (.bl ((List.range xs.length).all (nb xs))):=by
 have O:=jP (F:=fun I=>(ev cl I (.call fb (.cons 0#0 (.cons 1#0 .nil)))).map some) (tg:=[1]) (J:=[some (.tup (LI xs)),none]) (fun _=>rfl) (List.range xs.length) (by
  intro p R;show(ev cl [some (.tup (LI xs)),some (.int (p:Nat))] (.call fb %[0#0,1#0|_])).map some=_;rw[dB (aa rfl) (aa rfl) (hb p (List.mem_range.mp R))]
  rfl)
 exact aT rfl rfl (aU (cM (d9 (aa rfl) rfl) (aZ (de (eF (aZ (aa rfl) (ud xs)) (bM hm)) (by rw[aL,length_range];unfold most;lia) O) (EA _ _))) rfl)
def Ho(f:List Nat):L f=LI (f.map Int.ofNat):=by unfold L LI;rw[map_map];rfl
def oK(len:h.length=m)(lt:∀ q,q<m->at' h q<m)(inv:∀ q,q<m->at' h (at' h q)=q):(List.range (h.map Int.ofNat).length).all (nb (h.map Int.ofNat))=true:=by
 have O:∀ q,q<m->xi (h.map Int.ofNat) q=(at' h q:Nat):=fun q I=>by simp[xi,at',show q<h.length by lia]
 rw[Qu,length_map,len];intro q I;have I:=List.mem_range.mp I;have l:=lt q I;unfold nb;rw[O q I,Int.toNat_natCast,O _ l,inv q I,length_map,len];rw[decide_eq_true ⟨by lia,by lia⟩];simp
end
structure Dg(T:List Fn)(mx rw dg:Nat):Prop where
 Lz:T[mx]?=some lP
 LK:T[rw]?=some (lJ mx)
 LQ:T[dg]?=some (fP rw)
def Dg.digits{T:List Fn}{mx rw dg:Nat}(h:Dg T mx rw dg){ns:List Int}(hl:ns.length<=63)(n:Nat){k:Nat}{sizes:List Nat}(hk:k<=1000)(R:∀ s∈sizes,0<s/\s<2 ^ 200)(I:sizes.length<=1000) :
  ∃ ds:List Nat,lD ds sizes/\ak T (n+3) dg [.lst (LI ns),.int k,.lst (L sizes)]=some (.lst (L ds)):=by
 obtain⟨r,O⟩:=E5 (fun s=>by
  obtain⟨m,hm⟩:=Fe (cl:=ak T n) s
  exact#[m,(ao h.Lz).trans hm]) hl hk
 obtain⟨ds,Y,U⟩:=yn ((ao h.LK).trans O) R I;exact#[ds,Y,(ao h.LQ).trans U]
structure Dr(T:List Fn)(mx rw dg pl hk ci ft tx rg hu ov fr:Nat):Prop extends Dg T mx rw dg where
 Lm:T[pl]?=some fh
 Me:T[hk]?=some (iD pl)
 KZ:T[ci]?=some fY
 Mh:T[ft]?=some (eh ci)
 L8:T[tx]?=some k7
 Br:T[rg]?=some gq
 BI:T[hu]?=some (iE rg)
 L5:T[ov]?=some i5
 LB:T[fr]?=some (jM hu ov ft tx hk pl dg)
section
variable{T:List Fn}{mx rw dg pl hk ci ft tx rg hu ov fr:Nat}
def Dr.plain(h:Dr T mx rw dg pl hk ci ft tx rg hu ov fr)(n:Nat){k:Nat}(hk:k<=10):ak T (n+1) pl [.int k]=some (.tup (L (bb k))):=(ao h.Lm).trans (rZ hk)
def Dr.hook(h:Dr T mx rw dg pl hk ci ft tx rg hu ov fr)(n:Nat){k i:Nat}(I:k<=10)(hi:i+1<k):ak T (n+2) hk [.int k,.int i]=some (.tup (L (gW k i))):=(ao h.Me).trans (uf I hi (h.plain n I))
def Dr.G3(h:Dr T mx rw dg pl hk ci ft tx rg hu ov fr)(n:Nat){k:Nat}(O:1<=k)(I:k<=10):ak T (n+1) ci [.int k]=some (.lst (L (cR k))):=(ao h.KZ).trans (xJ O I)
def Dr.over(h:Dr T mx rw dg pl hk ci ft tx rg hu ov fr)(n:Nat){k:Nat}{f:List Nat}(O:1<=k)(I:k<=10)(hf:f.length=2*k):ak T (n+1) ov [.tup (L f)]=some (.tup (L (fZ k f))):=(ao h.L5).trans (u6 O I hf)
def Dr.Gp(h:Dr T mx rw dg pl hk ci ft tx rg hu ov fr){ns:List Int}(hl:ns.length<=63)(n:Nat){k m:Nat}(O:k<=1000)(I:1<=m)(hm:m<=10)
 (U:∀ f:List Nat,Val m f->∃ (g:List Nat) (r:Int),Val m g/\ak T (n+3) hu [.tup (L f),.tup (L (fZ m f))]=some (.tup [.tup (L g),.int r])):∃ f:List Nat,Val m f/\ak T (n+4) fr [.lst (LI ns),.int k,.int m]=some (.tup (L f)):=by
 obtain⟨f,V,e⟩:=AH I hm
  (h.digits hl n O (by
   intro s R;simp only[mem_cons,List.not_mem_nil,or_false]at R;rcases R with rfl | rfl | rfl
   ·decide
   ·decide
   ·exact#[by omega,Nat.lt_of_le_of_lt (show max 1 (m-1)<=10 by lia) ∅]) (by simp))
  (h.plain (n+2) hm) (fun i hi=>h.hook (n+1) hm hi)
  (fun r=>by
   obtain⟨w,I,Z,Y⟩:=BV hm
   exact#[w,I,Z,(ao h.L8).trans Y])
  (fun w a b=>by
   obtain⟨f,V,e⟩:=rT I hm (h.G3 (n+1) I hm) a b
   exact#[f,V,(ao h.Mh).trans e])
  (fun f hf=>h.over (n+2) I hm hf) U
 exact#[f,V,(ao h.LB).trans e]
end
structure Ck(T:List Fn)(nu pc pa nb un if' cf po rp ir mv:Nat):Prop where
 Lk:T[nu]?=some jK
 Lf:T[pc]?=some (eR nu)
 LO:T[pa]?=some (gd nb)
 Ls:T[nb]?=some (fX nu)
 LH:T[un]?=some eQ
 Kq:T[if']?=some (iC un ir pa pc po)
 Ml:T[cf]?=some (fk if')
 Lq:T[po]?=some mj
 Mn:T[rp]?=some dP
 Ma:T[ir]?=some (gc mv rp po)
 Lw:T[mv]?=some kd
section
variable{T:List Fn}{nu pc pa nb un if' cf po rp ir mv:Nat}
def Ck.num(h:Ck T nu pc pa nb un if' cf po rp ir mv)(n:Nat)(i:Int):ak T (n+1) nu [.int i]=some (.bl true):=(ao h.Lk).trans (rY i)
def Ck.Bl(h:Ck T nu pc pa nb un if' cf po rp ir mv)(n:Nat)(i:Int):ak T (n+2) pc [.int i]=some (.bl (decide (1<=i/\i<=10))):=(ao h.Lf).trans (oq (h.num n) i)
def Ck.of(h:Ck T nu pc pa nb un if' cf po rp ir mv)(n:Nat)(xs:List D):ak T (n+1) po [.tup xs]=some (.int (xs.length / 2)):=(ao h.Lq).trans (t6 xs)
def Ck.half(h:Ck T nu pc pa nb un if' cf po rp ir mv)(n:Nat){k:Nat}{f:List Nat}(hf:f.length=2*k):ak T (n+1) po [.tup (L f)]=some (.int k):=by
 rw[h.of,aL,hf];congr 2;lia
def Ck.place(h:Ck T nu pc pa nb un if' cf po rp ir mv)(n:Nat){k p:Nat}(I:p<2*k):ak T (n+1) rp [.int k,.int (p:Nat)]=some (.int (rd k p:Nat)):=(ao h.Mn).trans (p9 I)
def Ck.move(h:Ck T nu pc pa nb un if' cf po rp ir mv)(n:Nat){k:Nat}{f:List Nat}{U:D}{to:Nat->Nat}(hk:k<=10)(F:Frm k f)(hT:∀ p:Nat,p<2*k->ixV U (.int (p:Nat))=some (.int (to p:Nat)))(I:∀ p,p<2*k->to p<2*k)(inj:∀ p q,p<2*k->q<2*k->to p=to q->p=q) :
  ∃ E:List Nat,E.length=2*k/\(∀ p,p<2*k->at' E (to p)=to (at' f p))/\ak T (n+1) mv [.tup (L f),U]=some (.tup (L E)):=by
 obtain⟨E,Y,R,O⟩:=yV hk F hT I inj;exact#[E,Y,R,(ao h.Lw).trans O]
def Ck.round(h:Ck T nu pc pa nb un if' cf po rp ir mv)(n:Nat){k:Nat}{f:List Nat}(hk:k<=10)(F:Frm k f):∃ E:List Nat,E.length=2*k/\(∀ q,q<2*k->at' E q=rnd k f q)/\ak T (n+2) ir [.tup (L f)]=some (.tup (L E)):=by
 obtain⟨E,Y,U,R⟩:=uW hk F (h.of n) (fun p I=>h.place n I) (h.move n hk F (fun p I=>qa I) (fun p I=>bF I) (fun p q I O h=>jQ I O h));exact#[E,Y,U,(ao h.Ma).trans R]
def Ck.frame(h:Ck T nu pc pa nb un if' cf po rp ir mv)(n:Nat){k:Nat}{f:List Nat}(O:1<=k)(hk:k<=10)(V:Val k f):ak T (n+4) if' [.tup (L f)]=some (.bl true) :=
 (ao h.Kq).trans (sY O hk V (h.of (n+2)) (by rw[h.Bl (n+1),decide_eq_true ⋯])
  (by
   have F:=V.frm;have p:=(ao h.LO).trans (ny (xs:=f.map Int.ofNat) (by rw[length_map,F.len];lia) fun q I=>(ao h.Ls).trans (A4 (h.num n) I));rw[oK F.len F.lt (fun q _=>F.inv q),<-Ho]at p
   exact p)
  (h.round (n+1) hk V.frm) (fun E a b c d l=>(ao h.LH).trans (by
   obtain⟨w,e,_,hb⟩:=wC ⋯ a b l
   rw[hb fun q q' x y z w=>by
    have:=d q q' ⋯ ⋯;have:=c q' ⋯
    lia]at e
   exact e)))
def Ck.check(h:Ck T nu pc pa nb un if' cf po rp ir mv)(n:Nat){k:Nat}{f:List Nat}(I:1<=k)(hk:k<=10)(V:Val k f):ak T (n+5) cf [.tup (L f)]=some .non:=(ao h.Ml).trans (oQ (h.frame n I hk V))
def Ck.Kh(h:Ck T nu pc pa nb un if' cf po rp ir mv){O:Nat}(I:T[O]?=some (cW pc))(n:Nat){k:Nat}(R:1<=k)(hk:k<=10):ak T (n+3) O [.int k]=some .non:=(ao I).trans (qi (by rw[h.Bl,decide_eq_true ⋯]))
def Ck.plain(h:Ck T nu pc pa nb un if' cf po rp ir mv){R pl:Nat}(O:T[R]?=some (cW pc))(I:T[pl]?=some (iM R))(n:Nat){k:Nat}(U:1<=k)(hk:k<=10):ak T (n+4) pl [.int k]=some (.tup (L (bb k))):=(ao I).trans (run_plain hk (h.Kh O n U hk))
def Ck.through(h:Ck T nu pc pa nb un if' cf po rp ir mv){th:Nat}(I:T[th]?=some (j0 po cf))(n:Nat){k:Nat}{f:List Nat}(O:1<=k)(hk:k<=10)(V:Val k f):ak T (n+6) th [.tup (L f)]=some (.int (thr k f:Nat)):=(ao I).trans (v5 O hk V.frm (h.of (n+4)) (h.check n O hk V))
end
inductive Pl:Nat->D->Prop
 | int (n:Nat) (i:Int):Pl n (.int i)
 | bl (n:Nat) (b:Bool):Pl n (.bl b)
 | str (n:Nat) (x:PySem.Str):Pl n (.str x)
 | tup (n:Nat) (xs:List D) (hl:xs.length<=1000) (h:∀ x∈xs,Pl n x):Pl (n+1) (.tup xs)
 | lst (n:Nat) (xs:List D) (hl:xs.length<=1000) (h:∀ x∈xs,Pl n x):Pl (n+1) (.lst xs)
def vR{cl:Cl}{fs:Nat}(a:Bool):evF cl (dI fs) [.bl a,.bl a]=some (.bl true):=lK rfl rfl rfl rfl rfl rfl (Dt a)
def same_str{cl:Cl}{fs:Nat}(x:PySem.Str):evF cl (dI fs) [.str x,.str x]=some (.bl true):=lK rfl rfl rfl rfl rfl rfl (show some (x == x)=some true by rw[beq_self_eq_true])
def sameAll{T:List Fn}{sm:Nat}(h:T[sm]?=some (dI sm)):∀ (k n:Nat) (d:D),Pl k d->k<=n->ak T (n+1) sm [d,d]=some (.bl true):=by
 intro k
 induction k with
 |zero=>
  intro n d p _
  cases p with
  | int=>exact(ao h).trans (same_int _)
  | bl=>exact(ao h).trans (vR _)
  | str=>exact(ao h).trans (same_str _)
 |succ k O=>
  intro n d p hn
  cases p with
  | int=>exact(ao h).trans (same_int _)
  | bl=>exact(ao h).trans (vR _)
  | str=>exact(ao h).trans (same_str _)
  |tup _ xs hl I=>
   obtain⟨m,rfl⟩:∃ m,n=m+1:=#[n-1,by lia]
   exact(ao h).trans (uT (.inl rfl) hl fun x hd=>O m x (I x hd) ⋯)
  |lst _ xs hl I=>
   obtain⟨m,rfl⟩:∃ m,n=m+1:=#[n-1,by lia]
   exact(ao h).trans (uT (.inr rfl) hl fun x hd=>O m x (I x hd) ⋯)
def Pl.L{n:Nat}{xs:List Nat}(h:xs.length<=1000):Pl (n+1) (.tup (L xs)):=.tup _ _ (by rw[aL];exact h) fun x I=>by
 obtain⟨a,_,rfl⟩:=List.mem_map.mp I;exact .int _ _
abbrev Cyc(a b c d:Nat):Prop:=(a<b/\b<c/\c<d)\/(b<c/\c<d/\d<a)\/(c<d/\d<a/\a<b)\/(d<a/\a<b/\b<c)
def wD{m:Nat}{r:Nat->Nat}(inv:∀ q,q<m->r (r q)=q)(nox:∀ q q',q<m->q'<m->¬ (q<q'/\q'<r q/\r q<r q'))(ha:a<m)(hb:b<m)(I:c<m)(hd:d<m)(R:r a=c)(O:r b=d):¬ Cyc a b c d:=by
 have Y:r c=a:=by rw[<-R];exact inv a ha
 have U:r d=b:=by rw[<-O];exact inv b hb
 rintro(h | h | h | h)
 ·exact nox a b ha hb ⟨h.1,by lia,by lia⟩
 ·exact nox b c hb I ⟨h.1,by lia,by lia⟩
 ·exact nox c d I hd ⟨h.1,by lia,by lia⟩
 ·exact nox d a hd ha ⟨h.1,by lia,by lia⟩
def kc(hf:f.length=n)(hg:g.length=n)(h:∀ x,x<n->at' f x=at' g x):f=g:=by
 refine List.ext_getElem? fun x=>?_;by_cases I:x<n
 ·rw[jT ⋯,jT ⋯,h x I]
 ·rw[QI ⋯,QI ⋯]
structure Way(n:Nat)(to ba:Nat->Nat):Prop where
 lt:∀ p,p<2*n->to p<2*n
 blt:∀ p,p<2*n->ba p<2*n
 tb:∀ p,p<2*n->to (ba p)=p
 bt:∀ p,p<2*n->ba (to p)=p
 cyc:∀ a b c d,a<2*n->b<2*n->c<2*n->d<2*n->a<b->b<c->c<d->Cyc (rd n (ba (rd n a))) (rd n (ba (rd n b))) (rd n (ba (rd n c))) (rd n (ba (rd n d)))\/Cyc (rd n (ba (rd n d))) (rd n (ba (rd n c))) (rd n (ba (rd n b))) (rd n (ba (rd n a)))
abbrev bS(n:Nat)(to ba:Nat->Nat)(f:List Nat):List Nat:=(List.range (2*n)).map fun p=>to (at' f (ba p))
def oz(n:Nat)(to ba:Nat->Nat)(f:List Nat):(bS n to ba f).length=2*n:=by simp[bS]
def dS(h:p<2*n):at' (bS n to ba f) p=to (at' f (ba p)):=by
 simp[bS,at',h]
def Way.inj(W:Way n to ba)(O:p<2*n)(I:q<2*n)(h:to p=to q):p=q:=by rw[<-W.bt p O,h,W.bt q I]
def Way.val{n:Nat}{to ba:Nat->Nat}(W:Way n to ba)(V:Val n f):Val n (bS n to ba f):=by
 have F:=V.frm;have hl:=oz n to ba f;refine#[#[hl,fun x R=>?_,fun x=>?_,fun x R e=>?_],fun q q' I O h=>?_]
 ·rw[dS R];exact W.lt _ (F.lt _ (W.blt _ R))
 ·by_cases R:x<2*n
  ·have U:=F.lt _ (W.blt _ R);rw[dS R,dS (W.lt _ U),W.bt _ U,F.inv,W.tb _ R]
  ·rw[gZ (x:=x) ⋯,gZ ⋯]
 ·rw[dS R]at e;have U:=F.lt _ (W.blt _ R)
  have:at' f (ba x)=ba x:=by rw[<-W.bt _ U,e]
  exact F.no _ (W.blt _ R) this
 ·obtain⟨U,j,i⟩:=h
  have Z:∀ q,q<2*n->rnd n f (rnd n f q)=q:=fun q I=>by
   unfold rnd;rw[cw (F.lt _ (bF I)),F.inv,cw I]
  have Y:∀ q,q<2*n->rnd n (bS n to ba f) q<2*n/\rnd n f (rd n (ba (rd n q)))=rd n (ba (rd n (rnd n (bS n to ba f) q))):=fun q I=>by
   have a1:=bF I;have a2:=W.blt _ a1;have a3:=F.lt _ a2;unfold rnd;rw[dS a1];refine#[bF (W.lt _ a3),?_];rw[cw a2,cw (W.lt _ a3),W.bt _ a3]
  obtain⟨b,g⟩:=Y q I;obtain⟨a,d⟩:=Y q' O;have bl:∀ q,q<2*n->rd n (ba (rd n q))<2*n:=fun q I=>bF (W.blt _ (bF I));rcases W.cyc q q' _ _ I O b a U j i with c | c
  ·exact wD Z V.nox (bl _ I) (bl _ O) (bl _ b) (bl _ a) g d c
  ·refine wD Z V.nox (bl _ a) (bl _ b) (bl _ O) (bl _ I) ?_ ?_ c
   ·rw[<-d,Z _ (bl _ O)]
   ·rw[<-g,Z _ (bl _ I)]
abbrev ovr(n p:Nat):Nat:=if p<n then p+n else p-n
def Dp(c:q<n):rd n q=q:=by unfold rd;rw[if_pos c]
def Dv(c:¬ q<n):rd n q=3*n-1-q:=by unfold rd;rw[if_neg c]
def ju(c:q<n):ovr n q=q+n:=by unfold ovr;rw[if_pos c]
def pf(c:¬ q<n):ovr n q=q-n:=by unfold ovr;rw[if_neg c]
def pE(I:p<2*n):ovr n p<2*n/\ovr n (ovr n p)=p:=by
 by_cases c:p<n
 ·rw[ju c,pf ⋯];exact#[by lia,by lia]
 ·rw[pf c,ju (by omega)];exact#[by lia,by lia]
def oU(I:q<2*n):rd n (ovr n (rd n q))=2*n-1-q:=by
 by_cases c:q<n
 ·rw[Dp c,ju c,Dv ⋯];lia
 ·rw[Dv c,pf (by omega),Dp (by omega)];lia
def gG(n:Nat):Way n (ovr n) (ovr n) :=
 ⟨fun p I=>(pE I).1,fun p I=>(pE I).1,fun p I=>(pE I).2,fun p I=>(pE I).2,fun a b c d ha hb O hd Y U R=>.inr (.inl (by
  rw[oU ha,oU hb,oU O,oU hd]
  exact#[by lia,by lia,by omega]))⟩
def uA(F:Frm n f):fZ n f=bS n (ovr n) (ovr n) f:=by
 refine kc (by simp[fZ]) (oz ..) fun p I=>?_;rw[Fq I,dS I]
 have e:∀ p,p<2*n->(p+n)%(2*n)=ovr n p:=fun p I=>by
  unfold ovr;split
  ·rw[QE ⋯]
  ·rw[Nat.mod_eq_sub_mod ⋯,QE ⋯];lia
 rw[e p I,e _ (F.lt _ ((gG n).lt p I))]
def cG:∀ {a b:List Nat},a.Nodup->(∀ x∈a,x∈b)->a.length<=b.length
 | [],_,_,_=>zero_le _
 | x::r,b,hn,h=>by
  rw[List.nodup_cons]at hn;have O:=h x Qq;have:=cG (b:=b.erase x) hn.2 fun y I=>(List.mem_erase_of_ne (fun e=>hn.1 (by rw[<-e];exact I))).mpr (h y (Qk _ I));rw[List.length_erase_of_mem O]at this;have:0<b.length:=List.length_pos_of_mem O;simp only[length_cons];lia
def ot:∀ xs:List D,(∀ x∈xs,f x x=some true)->eqs f xs xs=some true
 | [],_=>rfl
 | x::r,h=>by
  rw[eqs,h x Qq,Option.bind_some,ot r fun y I=>h y (Qk _ I)];rfl
def Ka:∀ (k n:Nat) (d:D),Pl k d->k<=n->eqD n d d=some true:=by
 intro k
 induction k with
 |zero=>
  intro n d p _
  cases p with
  | int i=>simp[yc]
  | bl i=>simp[x9]
  | str i=>simp[xO]
 |succ k O=>
  intro n d p hn
  obtain⟨m,rfl⟩:∃ m,n=m+1:=#[n-1,by lia]
  cases p with
  | int i=>simp[yc]
  | bl i=>simp[x9]
  | str i=>simp[xO]
  | tup _ xs hl h=>rw[L7,ot xs fun x I=>O m x (h x I) ⋯];simp
  | lst _ xs hl h=>rw[Lv,ot xs fun x I=>O m x (h x I) ⋯];simp
def JP(p:Pl k d)(h:k<=8):bc .ne d d=some false:=by
 show(eqD 8 d d).map not=some false;rw[Ka k 8 d p h];rfl
def Kk(hl:ns.length<=63):kI (.scr (LI ns)) (.int 63)=some (.lst (LI ns)):=by
 show some (D.lst ((LI ns).take (cutAt (LI ns).length 63)))=_;rw[List.take_of_length_le]
 have:(LI ns).length=ns.length:=by simp[LI]
 rw[this];unfold cutAt;rw[if_pos ∅];have:(63:Int).toNat=63:=rfl;lia
section
def Bw(h:p<2*n):ixV (.tup (L (bb n))) (.int (p:Nat))=some (.int (ovr n p:Nat)):=by
 rw[cC (by simp[bb];lia),plain_at];unfold ovr;split
 ·rw[add_comm]
 ·rfl
def BY(U:1<=n)(hn:n<=10)(F:Frm n f)(R:cl fc [.tup (L f)]=some .non)(O:cl fo [.tup (L f)]=some (.int n))(I:cl fp [.int n]=some (.tup (L (bb n))))
 (hm:cl fm [.tup (L f),.tup (L (bb n))]=some (.tup (L (bS n (ovr n) (ovr n) f)))):evF cl (lM fm fp fo fc) [.tup (L f)]=some (.tup (L (bS n (ovr n) (ovr n) f))):=by
 simp[evF,lM,af,mD,dA,cX,aY,evs,R,O,I,hm,bf,D.imm,aS,bh]
end
section
variable{nu pc pa nb un if' cf po rp ir mv:Nat}
def FZ{n:Nat}{to ba:Nat->Nat}{f E:List Nat}(W:Way n to ba)(R:E.length=2*n)(O:∀ p,p<2*n->at' E (to p)=to (at' f p)):E=bS n to ba f:=by
 refine kc R (oz ..) fun p I=>?_;rw[dS I];have:=O (ba p) (W.blt _ I);rw[W.tb _ I]at this;exact this
def Ck.K2(h:Ck T nu pc pa nb un if' cf po rp ir mv)(n:Nat){k:Nat}{f:List Nat}{U:D}(hk:k<=10)(F:Frm k f)(W:Way k to ba)(hT:∀ p:Nat,p<2*k->ixV U (.int (p:Nat))=some (.int (to p:Nat))):ak T (n+1) mv [.tup (L f),U]=some (.tup (L (bS k to ba f))):=by
 obtain⟨E,Z,Y,R⟩:=h.move n hk F hT W.lt fun p q O I e=>W.inj O I e;rw[R,FZ W Z Y]
def Ck.over(h:Ck T nu pc pa nb un if' cf po rp ir mv)(R:T[cp]?=some (cW pc))(I:T[pl]?=some (iM cp))(O:T[ov]?=some (lM mv pl po cf))(n:Nat)(U:1<=k)(hk:k<=10)(V:Val k f):ak T (n+6) ov [.tup (L f)]=some (.tup (L (bS k (ovr k) (ovr k) f))) :=
 (ao O).trans (BY U hk V.frm (h.check n U hk V) (h.half (n+4) V.frm.len) (h.plain R I (n+1) U hk) (h.K2 (n+4) hk V.frm (gG k) fun p Y=>Bw Y))
end
end RM
namespace RT
open RL
end RT
namespace RM
open RL RT
structure Two(m:Nat)(a b:Nat->Nat):Prop where
 al:∀ x,x<m->a x<m
 bl:∀ x,x<m->b x<m
 ai:∀ x,x<m->a (a x)=x
 bi:∀ x,x<m->b (b x)=x
def Two.swap(T:Two m a b):Two m b a:=#[T.bl,T.al,T.bi,T.ai]
abbrev wk(a b:Nat->Nat)(x:Nat):Nat->Nat
 | 0=>x
 | k+1=>if k%2=0 then b (wk a b x k)else a (wk a b x k)
abbrev Stp(a b:Nat->Nat)(x k:Nat):Prop:=wk a b x (k+1)=wk a b x k\/wk a b x (k+1)=x
noncomputable instance{a b:Nat->Nat}{x k:Nat}:Decidable (Stp a b x k):=inferInstanceAs (Decidable (_\/_))
section
def d8(h:k%2=0):wk a b x (k+1)=b (wk a b x k):=by rw[wk,if_pos h]
def gL(h:k%2=1):wk a b x (k+1)=a (wk a b x k):=by rw[wk,if_neg ⋯]
def eO(T:Two m a b)(I:x<m):∀ k,wk a b x k<m
 | 0=>I
 | k+1=>by
  rw[wk];split
  ·exact T.bl _ (eO T I k)
  ·exact T.al _ (eO T I k)
def ku(T:Two m a b)(I:x<m)(k:Nat):(if k%2=0 then b (wk a b x (k+1))else a (wk a b x (k+1)))=wk a b x k:=by
 have h:=eO T I k;rw[wk];split
 ·exact T.bi _ h
 ·exact T.ai _ h
def JL(T:Two m a b)(I:x<m)(O:i%2=j%2)(h:wk a b x (i+1)=wk a b x (j+1)):wk a b x i=wk a b x j:=by
 rw[<-ku T I i,<-ku T I j,h,O]
def wz(T:Two m a b)(I:x<m)(O:∀ j,j<k->¬ Stp a b x j)(hd:d%2=1):∀ i,i+(d+1)<=k->wk a b x i≠wk a b x (i+(d+1))
 | 0,hk,h=>O d ⋯ (.inr (by rw[zero_add]at h;exact h.symm))
 | i+1,hk,h=>wz T I O hd i ⋯ (JL T I (i:=i) (j:=i+(d+1)) ⋯ (by rw[h];congr 1;lia))
def zX(T:Two m a b)(I:x<m)(O:∀ j,j<k->¬ Stp a b x j):∀ (c i:Nat),i+(2*c+1)<=k->wk a b x i≠wk a b x (i+(2*c+1))
 | 0,i,hk,h=>O i ⋯ (.inl h.symm)
 | c+1,i,hk,h=>by
  refine zX T I O c (i+1) ⋯ ?_;have R:=ku T I (i+(2*c+2));rw[show i+(2*c+2)+1=i+(2*(c+1)+1) by lia,<-h]at R
  have U:wk a b x (i+1)=if(i+(2*c+2))%2=0 then b (wk a b x i)else a (wk a b x i):=by
   rw[wk]
   have:(i+(2*c+2))%2=i%2:=by lia
   rw[this]
  rw[U,R];congr 1;lia
def mM(T:Two m a b)(I:x<m)(O:∀ j,j<k->¬ Stp a b x j)(U:i<j)(R:j<=k):wk a b x i≠wk a b x j:=by
 obtain⟨d,rfl⟩:∃ d,j=i+(d+1):=#[j-i-1,by lia]
 by_cases c:d%2=1
 ·exact wz T I O c i R
 ·obtain⟨e,rfl⟩:∃ e,d=2*e:=#[d / 2,by lia]
  exact zX T I O e i R
def least{P:Nat->Prop} [DecidablePred P]:∀ n,P n->∃ k,k<=n/\P k/\∀ j,j<k->¬ P j:=by
 intro n
 induction n using Nat.strongRecOn with
 |_ n R=>
  intro h;by_cases c:∃ j,j<n/\P j
  ·obtain⟨j,O,I⟩:=c;obtain⟨k,Z,Y,U⟩:=R j O I;exact#[k,by lia,Y,U]
  ·exact#[n,Qb _,h,fun j O I=>c #[j,O,I]]
def fC(T:Two m a b)(R:x<m):∃ k,k<m/\Stp a b x k/\∀ j,j<k->¬ Stp a b x j:=by
 by_cases c:∃ k,k<m/\Stp a b x k
 ·obtain⟨k,g,e⟩:=c;obtain⟨j,f,d,Z⟩:=least k e;exact#[j,by lia,d,Z]
 ·exfalso;have Y:∀ j,j<m->¬ Stp a b x j:=fun j O h=>c ⟨j,O,h⟩
  have nd:((List.range (m+1)).map (wk a b x)).Nodup:=by
   k_in;refine List.Pairwise.imp_of_mem ?_ (List.pairwise_lt_range (n:=m+1));intro i j hi O I;exact mM T R Y I (by have:=List.mem_range.mp O;lia)
  have:=cG nd (b:=List.range m) fun y U=>by
   obtain⟨i,_,rfl⟩:=List.mem_map.mp U;exact List.mem_range.mpr (eO T R i)
  simp at this;lia
inductive Cn (a b:Nat->Nat) (x:Nat):Nat->Prop
 | refl:Cn a b x x
 | sa {y:Nat}:Cn a b x y->Cn a b x (a y)
 | sb {y:Nat}:Cn a b x y->Cn a b x (b y)
def Cn.lt(T:Two m a b)(O:x<m)(h:Cn a b x y):y<m:=by
 induction h with
 | refl=>exact O
 | sa _ I=>exact T.al _ I
 | sb _ I=>exact T.bl _ I
def Cn.trans(h:Cn a b x y)(h':Cn a b y z):Cn a b x z:=by
 induction h' with
 | refl=>exact h
 | sa _ I=>exact .sa I
 | sb _ I=>exact .sb I
def Cn.symm(T:Two m a b)(hx:x<m)(h:Cn a b x y):Cn a b y x:=by
 induction h with
 | refl=>exact .refl
 |@sa y h ih=>
  have:=Cn.sa (a:=a) (b:=b) (Cn.refl (x:=a y));rw[T.ai _ (h.lt T hx)]at this;exact this.trans ih
 |@sb y h ih=>
  have:=Cn.sb (a:=a) (b:=b) (Cn.refl (x:=b y));rw[T.bi _ (h.lt T hx)]at this;exact this.trans ih
def Cn.flip(h:Cn a b x y):Cn b a x y:=by
 induction h with
 | refl=>exact .refl
 | sa _ I=>exact .sb I
 | sb _ I=>exact .sa I
def jz:∀ k,Cn a b x (wk a b x k)
 | 0=>.refl
 | k+1=>by
  rw[wk];split
  ·exact .sb (jz k)
  ·exact .sa (jz k)
def jV(T:Two m a b)(O:x<m)(st:Stp a b x k)(d:∀ j,j<k->¬ Stp a b x j)(h:a x=x\/∀ y,Cn a b x y->a y≠y/\b y≠y)(Z:Cn a b x y):∃ i,i<=k/\wk a b x i=y:=by
 have f:∃ i,i<=k/\wk a b x i=b x:=by
  by_cases c:k=0
  ·subst c;refine#[0,Qb _,?_];rcases st with st | st
   ·rw[d8 rfl]at st;exact st.symm
   ·rw[d8 rfl]at st;exact st.symm
  ·exact#[1,by lia,d8 rfl]
 have I:∀ j,0<j->j<=k->(∃ i,i<=k/\wk a b x i=a (wk a b x j))/\∃ i,i<=k/\wk a b x i=b (wk a b x j):=by
  intro j n l;have prev:=ku T O (j-1);rw[show j-1+1=j by omega]at prev
  have next:∃ i,i<=k/\wk a b x i=wk a b x (j+1):=by
   by_cases c:j<k
   ·exact#[j+1,by lia,rfl]
   ·have:j=k:=by lia
    subst this;rcases st with st | st
    ·exact#[j,Qb _,st.symm]
    ·exact#[0,by lia,st.symm]
  by_cases c:j%2=0
  ·rw[if_neg ⋯]at prev
   rw[d8 c]at next
   exact#[#[j-1,by lia,prev.symm],next]
  ·rw[if_pos ⋯]at prev
   rw[gL ⋯]at next
   exact#[next,#[j-1,by omega,prev.symm]]
 have g:∃ i,i<=k/\wk a b x i=a x:=by
  rcases h with h | h
  ·exact#[0,by lia,h.symm]
  ·rcases st with st | st
   ·exfalso;have U:=h _ (jz k);by_cases c:k%2=0
    ·rw[d8 c]at st;exact U.2 st
    ·rw[gL ⋯]at st;exact U.1 st
   ·by_cases c:k%2=0
    ·exfalso;rw[d8 c]at st
     have e:wk a b x k=b x:=by
      have:=congrArg b st;rw[T.bi _ (eO T O k)]at this;exact this
     by_cases Y:k=0
     ·subst Y;exact(h x .refl).2 e.symm
     ·have:wk a b x 1=b x:=d8 rfl;exact mM T O d (i:=1) (j:=k) ⋯ (Qb _) (by rw[this,e])
    ·rw[gL ⋯]at st
     exact⟨k,Qb _,by
      have:=congrArg a st;rw[T.ai _ (eO T O k)]at this
      exact this⟩
 induction Z with
 | refl=>exact#[0,by lia,rfl]
 |sa _ R=>
  obtain⟨i,hi,rfl⟩:=R;by_cases c:i=0
  ·subst c;exact g
  ·exact(I i ⋯ hi).1
 |sb _ R=>
  obtain⟨i,hi,rfl⟩:=R;by_cases c:i=0
  ·subst c;exact f
  ·exact(I i ⋯ hi).2
def mZ(T:Two m a b)(I:x<m)(st:Stp a b x k)(R:∀ j,j<k->¬ Stp a b x j)(hb:∀ y,y<m->b y≠y)(ha:a x=x):k%2=1/\a (wk a b x k)=wk a b x k:=by
 have O:=eO T I k;by_cases c:k%2=0
 ·exfalso;rcases st with st | st
  ·rw[d8 c]at st;exact hb _ O st
  ·rw[d8 c]at st
   have e:wk a b x k=b x:=by
    have:=congrArg b st;rw[T.bi _ O]at this;exact this
   by_cases U:k=0
   ·subst U;exact hb x I e.symm
   ·have:wk a b x 1=b x:=d8 rfl;exact mM T I R (i:=1) (j:=k) ⋯ (Qb _) (by rw[this,e])
 ·refine#[by lia,?_];rcases st with st | st
  ·rw[gL ⋯]at st;exact st
  ·exfalso;rw[gL ⋯]at st
   have e:wk a b x k=x:=by rw[<-T.ai _ O,st,ha]
   exact mM T I R (i:=0) (j:=k) ⋯ (Qb _) e.symm
end
structure cN(m:Nat)(a b:Nat->Nat)(S:List Nat):Prop where
 lt:∀ s∈S,s<m
 nd:S.Pairwise fun s t=>¬ Cn a b s t
 ring:∀ s∈S,∀ y,Cn a b s y->a y≠y/\b y≠y
 all:∀ x,x<m->(∃ s,s<m/\(a s=s\/b s=s)/\Cn a b s x)\/∃ s∈S,Cn a b s x
def cN.le{m:Nat}{a b:Nat->Nat}(T:Two m a b){S Y:List Nat}(R:cN m a b S)(d:cN m a b Y):S.length<=Y.length:=by
 have pick:∀ s∈S,∃ t∈Y,Cn a b t s:=fun s I=>by
  rcases d.all s (R.lt s I)with⟨q,U,O,c⟩ | h
  ·exfalso;have:=R.ring s I q (c.symm T U);rcases O with O | O
   ·exact this.1 O
   ·exact this.2 O
  ·exact h
 have:∀ s,∃ t,s∈S->t∈Y/\Cn a b t s:=fun s=>by
  by_cases I:s∈S
  ·obtain⟨t,U,O⟩:=pick s I;exact#[t,fun _=>#[U,O]]
  ·exact#[0,fun z=>absurd z I]
 obtain⟨g,hg⟩:=Classical.axiomOfChoice this
 have nd:(S.map g).Nodup:=by
  k_in;refine List.Pairwise.imp_of_mem ?_ R.nd;intro s t I i hn e;obtain⟨U,O⟩:=hg s I;obtain⟨c,Z⟩:=hg t i;rw[<-e]at Z;exact hn ((O.symm T (d.lt _ U)).trans Z)
 have:=cG nd fun y f=>by
  obtain⟨s,I,rfl⟩:=List.mem_map.mp f;exact(hg s I).1
 simpa using this
def cN.one{m:Nat}{a b:Nat->Nat}(T:Two m a b){S I:List Nat}(R:cN m a b S)(O:cN m a b I):S.length=I.length:=le_antisymm (R.le T O) (O.le T R)
def CU{t:St->Option Bool}{f:St->Option (Out × St)}{J:Nat->St}(O:∀ i,i<k->t (J i)=some true/\f (J i)=some (.nx,J (i+1)))(I:t (J k)=some false):∀ (d i fuel:Nat),i+d=k->d<fuel->whF t f fuel (J i)=some (.nx,J k)
 | 0,i,0,_,h=>by lia
 | 0,i,fuel+1,hi,_=>by
  have:i=k:=by lia
  subst this;rw[whF,I];rfl
 | d+1,i,0,_,h=>by lia
 | d+1,i,fuel+1,hi,hf=>by
  obtain⟨U,R⟩:=O i ⋯;rw[whF,U,Option.bind_some,if_pos rfl,R,Option.bind_some];exact CU O I d (i+1) fuel ⋯ ⋯
section
abbrev Cd(A B:D):Nat->Option D
 | 0=>none
 | t+1=>some (if t%2=0 then A else B)
abbrev wks(a b:Nat->Nat)(x k:Nat):List Nat:=(List.range (k+1)).map (wk a b x)
def Bx(k:Nat):wks a b x (k+1)=wks a b x k++[wk a b x (k+1)]:=by
 unfold wks;rw[List.range_succ,List.map_append];rfl
def oa(k:Nat):ixV (.lst (L (wks a b x k))) (.int (-1))=some (.int (wk a b x k:Nat)):=by
 show cF (L (wks a b x k)) (-1)=_;unfold cF
 have hl:(L (wks a b x k)).length=k+1:=by simp[L,wks]
 rw[if_neg ∅,if_pos (by rw[hl];lia),hl,show((-1:Int)+((k+1:Nat):Int)).toNat=k by lia,sI];simp[wks]
def Bc:ev cl J (.neg 1#1)=some (.int (-1)):=xF aq
def mC(T:Two m a b)(hm:m<=1000)(p:∀ x:Nat,x<m->ixV A (.int (x:Nat))=some (.int (a x:Nat)))(e:∀ x:Nat,x<m->ixV B (.int (x:Nat))=some (.int (b x:Nat)))(I:x<m) :
  ∃ k,k<m/\Stp a b x k/\(∀ j,j<k->¬ Stp a b x j)/\evF cl m6 [A,B,.int (x:Nat)]=some (.lst (L (wks a b x k))):=by
 obtain⟨k,hk,st,Z⟩:=fC T I;refine#[k,hk,st,Z,?_]
 have cond:∀ (i:Nat) (o:Option D),(ev cl [some A,some B,some (.int (x:Nat)),some (.lst (L (wks a b x i))),some (.int (wk a b x (i+1):Nat)),o] (.inn true 4#0 (.tup (.cons (.ix 3#0 (.neg 1#1)) (.cons 2#0 .nil))))).bind truth=some (!decide (Stp a b x i)):=fun i o=>by
  have l:inV (.int (wk a b x (i+1):Nat)) (.tup [.int (wk a b x i:Nat),.int (x:Nat)])=some (decide (Stp a b x i)):=by
   show(if(flat (.int (wk a b x (i+1):Nat))&&[D.int (wk a b x i:Nat),.int (x:Nat)].all flat)=true then some ([D.int (wk a b x i:Nat),.int (x:Nat)].any fun y=>eqF y (.int (wk a b x (i+1):Nat)))else none)=_;rw[if_pos (by simp[flat])];congr 1;simp only[any_cons,List.any_nil,eqF,Bool.or_false];unfold Stp;rw[QG];simp only[or_eq_true,beq_iff_eq,decide_eq_true_eq,Int.ofNat_inj];exact#[fun h=>decide_eq_true (h.imp Eq.symm Eq.symm),fun h=>(of_decide_eq_true h).imp Eq.symm Eq.symm]
  exact aR (Kf (n:=true) (aa rfl) (jA (aA (bj (aa rfl) Bc (oa i)) (aA (aa rfl) bo))) l)
 have R:=CU (t:=fun J=>(ev cl J (.inn true 4#0 (.tup (.cons (.ix 3#0 (.neg 1#1)) (.cons 2#0 .nil))))).bind truth) (f:=af cl [3] Al) (J:=fun i=>[some A,some B,some (.int (x:Nat)),some (.lst (L (wks a b x i))),some (.int (wk a b x (i+1):Nat)),Cd A B i]) (k:=k) (fun i hi=>by
  refine#[by rw[cond];simp[Z i hi],?_]
  have hl:(L (wks a b x i)).length<most:=by simp[L,wks,most];lia
  have ha:L (wks a b x i)++[D.int (wk a b x (i+1):Nat)]=L (wks a b x (i+1)):=by rw[Bx,dz];rfl
  have Y:biV .len (.lst (L (wks a b x (i+1))))=some (.int ((i+2:Nat):Int)):=by
   show some (D.int ((L (wks a b x (i+1))).length:Nat))=_;simp[L,wks];lia
  have U:aF .mod (.int ((i+2:Nat):Int)) (.int 2)=some (.int (((i+2)%2:Nat):Int)):=by rw[fV ∅];simp
  have lt:=eO T I (i+1);refine uj (aa rfl) rfl rfl hl ?_;rw[ha];by_cases c:i%2=0
  ·have O:bc .eq (.int (((i+2)%2:Nat):Int)) (.int 0)=some true:=by
    rw[show(i+2)%2=0 by lia];rfl
   refine aE (d:=A) (mL (k:=true) (aR (aD (az (aZ (aa rfl) Y) aq U) aq O)) (aa rfl)) (by simp[aX,Ij,xV]) (aE (bj (aa rfl) (aa rfl) (p _ lt)) rfl ?_);rw[aH];rw[<-gL (a:=a) (b:=b) (x:=x) (k:=i+1) ⋯];simp[Cd,c]
  ·have O:bc .eq (.int (((i+2)%2:Nat):Int)) (.int 0)=some false:=by
    rw[show(i+2)%2=1 by lia];rfl
   refine aE (d:=B) (mL (k:=false) (aR (aD (az (aZ (aa rfl) Y) aq U) aq O)) (aa rfl)) (by simp[aX,Ij,xV]) (aE (bj (aa rfl) (aa rfl) (e _ lt)) rfl ?_);rw[aH];rw[<-d8 (a:=a) (b:=b) (x:=x) (k:=i+1) ⋯]
   simp[Cd,c]) (by rw[cond];simp[st]) k 0 most ⋯ (by unfold most;lia)
 have g:wk a b x (0+1)=b x:=d8 rfl;rw[g]at R;exact aT rfl rfl (ip (dM (aA (aa rfl) bo)) rfl (aE (bj (aa rfl) (aa rfl) (e x I)) rfl (JK R (aU (aa rfl) (by simp[bf,aG,aS,m6])))))
end
def Iy(hl:ds.length=fn.ps)(hm:fn.mp=[0])(h:af cl fn.M fn.body (ds.map some++replicate (fn.nn-fn.ps) none)=some (.nx,QM))(I:(QM[0]?).bind id=some o):evF cl fn ds=some (.tup [.non,o]):=by
 unfold evF;rw[if_pos hl,h];show bh fn .non QM=_;unfold bh;rw[hm];rw[if_pos (show D.non.imm=true from rfl),jk,I];rfl
abbrev BL(s:List Bool):List D:=s.map D.bl
def zo:∀ s:List Bool,au (BL s)=true
 | []=>rfl
 | x::r=>by
  show((D.bl x).imm&&au (BL r))=true;rw[zo r];rfl
abbrev Sn(m:Nat)(s:List Bool)(P:Nat->Prop):Prop:=s.length=m/\∀ y,y<m->(s[y]?=some true↔P y)
def Sn.set(h:Sn m s P)(U:p<m):Sn m (s.set p true) (fun y=>P y\/y=p):=by
 obtain⟨R,O⟩:=h;refine#[by simp[R],fun y I=>?_];rw[List.getElem?_set];by_cases c:p=y
 ·subst c;rw[if_pos rfl,if_pos ⋯];exact#[fun _=>.inr rfl,fun _=>rfl]
 ·rw[if_neg c,O y I];exact#[.inl,fun z=>z.resolve_right fun e=>c e.symm]
def Sn.congr(h:Sn m s P)(e:∀ y,y<m->(P y↔Q y)):Sn m s Q:=#[h.1,fun y I=>(h.2 y I).trans (e y I)]
section
variable{cl:Cl}
def vi(h:Sn m s P)(Y:∀ p∈ps,p<m):∃ s',Sn m s' (fun y=>P y\/y∈ps)/\evF cl pL [.lst (BL s),.lst (L ps)]=some (.tup [.non,.lst (BL s')]):=by
 obtain⟨U,e,s',o,rfl,R⟩:=dk (f:=af cl [0,0] wY) (tg:=[2]) (xs:=ps) (J:=[some (.lst (BL s)),some (.lst (L ps)),none]) (fun u J=>∃ (s':List Bool) (o:Option D),J=[some (.lst (BL s')),some (.lst (L ps)),o]/\Sn m s' fun y=>P y\/y∈u) ⟨s,none,rfl,h.congr fun y _=>by simp⟩ (by
  rintro u p v J hu ⟨s',o,rfl,R⟩;have O:=Y p (by rw[hu];simp)
  have hl:(BL s').length=m:=by simp[BL,R.1]
  have I:eS (.lst (BL s')) (.int p) (.bl true)=some (.lst (BL (s'.set p true))):=by
   show Option.map (fun j=>D.lst ((BL s').set j (.bl true))) (nY (BL s').length (p:Int))=_;rw[hl,vh O];simp[BL]
  refine#[_,iV aq (aa rfl) rfl rfl I aH,s'.set p true,_,rfl,(R.set O).congr fun y _=>by simp[or_assoc]])
 exact#[s',R,Iy rfl rfl (cY (eg (aa rfl) rfl) e aH) rfl]
def DX(h:Sn m s P)(I:p<m):∃ v:Bool,ixV (.lst (BL s)) (.int (p:Nat))=some (.bl v)/\(v=true↔P p):=by
 have hl:p<s.length:=by rw[h.1];exact I
 refine#[s[p],?_,?_]
 ·show cF (BL s) (p:Int)=_;rw[gH];simp[BL]
 ·rw[<-h.2 p I,List.getElem?_eq_getElem hl];simp
abbrev Pth(m:Nat)(a b:Nat->Nat)(y:Nat):Prop:=∃ s,s<m/\(a s=s\/b s=s)/\Cn a b s y
def qF:y∈wks a b x k↔∃ i,i<=k/\wk a b x i=y:=by
 unfold wks;rw[List.mem_map];constructor
 ·rintro⟨i,hi,e⟩;exact⟨i,by have:=List.mem_range.mp hi;lia,e⟩
 ·rintro⟨i,hi,e⟩;exact#[i,List.mem_range.mpr ⋯,e]
def qN(T:Two m a b)(U:∀ x:Nat,x<m->∃ k,k<m/\Stp a b x k/\(∀ j,j<k->¬ Stp a b x j)/\cl fr [A,B,.int (x:Nat)]=some (.lst (L (wks a b x k))))(I:x<m)(h:a x=x\/∀ y,Cn a b x y->a y≠y/\b y≠y) :
  ∃ ps:List Nat,(∀ p∈ps,p<m)/\(∀ y,y∈ps↔Cn a b x y)/\cl fr [A,B,.int (x:Nat)]=some (.lst (L ps)):=by
 obtain⟨k,_,st,R,e⟩:=U x I;refine#[_,fun p Y=>?_,fun y=>?_,e]
 ·obtain⟨i,_,rfl⟩:=qF.mp Y;exact eO T I i
 ·rw[qF];exact#[fun#[i,_,e]=>e▸jz i,fun O=>jV T I st R h O]
def lV(T:Two m a b)(hm:m<=1000)(Q:biV .len A=some (.int (m:Nat)))
 (hA:∀ x:Nat,x<m->ixV A (.int (x:Nat))=some (.int (a x:Nat)))(hB:∀ x:Nat,x<m->ixV B (.int (x:Nat))=some (.int (b x:Nat)))
 (hr:∀ x:Nat,x<m->∃ k,k<m/\Stp a b x k/\(∀ j,j<k->¬ Stp a b x j)/\cl fr [A,B,.int (x:Nat)]=some (.lst (L (wks a b x k))))
 (hr':∀ x:Nat,x<m->∃ k,k<m/\Stp b a x k/\(∀ j,j<k->¬ Stp b a x j)/\cl fr [B,A,.int (x:Nat)]=some (.lst (L (wks b a x k))))
 (hk:∀ (s:List Bool) (P:Nat->Prop) (ps:List Nat),Sn m s P->(∀ p∈ps,p<m)->∃ s',Sn m s' (fun y=>P y\/y∈ps)/\cl fm [.lst (BL s),.lst (L ps)]=some (.tup [.non,.lst (BL s')])) :
  ∃ S:List Nat,cN m a b S/\evF cl (iA fm fr) [A,B]=some (.int (S.length:Nat)):=by
 have e1:=bM (n:=m) hm
 obtain⟨QN,l1,s1,o1,rfl,hs1⟩:=dk (f:=af cl [2] (nr fm fr)) (tg:=[3]) (xs:=List.range m) (J:=[some A,some B,some (.lst (BL (replicate m false))),none,none]) (fun u J=>∃ (s:List Bool) (o:Option D),J=[some A,some B,some (.lst (BL s)),o,none]/\Sn m s fun y=>∃ x,x∈u/\(a x=x\/b x=x)/\Cn a b x y)
  ⟨_,none,rfl,by simp,fun y O=>by
   simp[ O]⟩ (by
  rintro u x v J hu ⟨s,o,rfl,q⟩
  have Y:x<m:=by
   have:x∈List.range m:=by rw[hu];simp
   simpa using this
  obtain⟨s2,l,k2⟩:∃ s2,Sn m s2 (fun y=>(∃ x,x∈u/\(a x=x\/b x=x)/\Cn a b x y)\/(a x=x/\Cn a b x y))/\∀ (r:Ss) (d:Option (Out × St)),af cl [2] r [some A,some B,some (.lst (BL s2)),some (.int (x:Nat)),none]=d->af cl [2] (.cons (.ife (.cmp .eq (.ix 0#0 3#0) 3#0) (.cons (.mexc fm (.cons 2#0 (.cons (.call fr (.cons 0#0 (.cons 1#0 (.cons 3#0 .nil)))) .nil)) [0] [2]) .nil) .nil) r) [some A,some B,some (.lst (BL s)),some (.int (x:Nat)),none]=d:=by
   by_cases c:a x=x
   ·obtain⟨ps,F,E,C⟩:=qN T hr Y (.inl c);obtain⟨s',Z,e⟩:=hk s _ ps q F;refine#[s',Z.congr fun y _=>by rw[E];simp[c],fun r d k=>fM (aR (aD (bj (aa rfl) (aa rfl) (hA x Y)) (aa rfl) (by rw[dF,c];simp))) (qP (aA (aa rfl) (aA (lH (aa rfl) (aa rfl) (aa rfl) C) bo)) (by simp[eW,isVar,aX,D.imm,aG,aS]) e rfl aH) k]
   ·refine#[s,q.congr fun y _=>by simp[c],fun r d k=>bQ (aR (aD (bj (aa rfl) (aa rfl) (hA x Y)) (aa rfl) (by rw[dF];congr 1;simp;lia))) k]
  obtain⟨QK,X,k3⟩:∃ QK,Sn m QK (fun y=>((∃ x,x∈u/\(a x=x\/b x=x)/\Cn a b x y)\/(a x=x/\Cn a b x y))\/(b x=x/\Cn a b x y))/\af cl [2] (.cons (.ife (.cmp .eq (.ix 1#0 3#0) 3#0) (.cons (.mexc fm (.cons 2#0 (.cons (.call fr (.cons 1#0 (.cons 0#0 (.cons 3#0 .nil)))) .nil)) [0] [2]) .nil) .nil) .nil) [some A,some B,some (.lst (BL s2)),some (.int (x:Nat)),none]=some (.nx,[some A,some B,some (.lst (BL QK)),some (.int (x:Nat)),none]):=by
   by_cases c:b x=x
   ·obtain⟨ps,F,E,C⟩:=qN T.swap hr' Y (.inl c);obtain⟨s',Z,e⟩:=hk s2 _ ps l F;refine#[s',Z.congr fun y _=>?_,fM (aR (aD (bj (aa rfl) (aa rfl) (hB x Y)) (aa rfl) (by rw[dF,c];simp))) (qP (aA (aa rfl) (aA (lH (aa rfl) (aa rfl) (aa rfl) C) bo)) (by simp[eW,isVar,aX,D.imm,aG,aS]) e rfl aH) aH];rw[E]
    have:Cn b a x y↔Cn a b x y:=#[Cn.flip,Cn.flip]
    simp[c,this]
   ·exact#[s2,l.congr fun y _=>by simp[c],bQ (aR (aD (bj (aa rfl) (aa rfl) (hB x Y)) (aa rfl) (by rw[dF];congr 1;simp;lia))) aH]
  refine#[_,k2 _ _ k3,QK,_,rfl,X.congr fun y _=>?_];constructor
  ·rintro((⟨z,I,R,g⟩ | ⟨I,R⟩) | ⟨I,R⟩)
   ·exact#[z,by simp[I],R,g]
   ·exact#[x,by simp,.inl I,R]
   ·exact#[x,by simp,.inr I,R]
  ·rintro⟨z,I,R,g⟩;rcases List.mem_append.mp I with I | I
   ·exact .inl (.inl #[z,I,R,g])
   ·have:z=x:=by simpa using I
    subst this;rcases R with R | R
    ·exact .inl (.inr #[R,g])
    ·exact .inr #[R,g])
 have G:Sn m s1 (Pth m a b):=hs1.congr fun y _=>#[fun#[x,I,R,g]=>#[x,by simpa using I,R,g],fun#[x,I,R,g]=>#[x,by simpa using I,R,g]]
 obtain⟨QO,l2,s2,o2,S,rfl,l,i,c2,H,K⟩:=dk (f:=af cl [2] (nF fm fr)) (tg:=[3]) (xs:=List.range m) (J:=[some A,some B,some (.lst (BL s1)),o1,some (.int ((([]:List Nat).length:Nat):Int))]) (fun u J=>∃ (s:List Bool) (o:Option D) (S:List Nat),J=[some A,some B,some (.lst (BL s)),o,some (.int (S.length:Nat))]/\Sn m s (fun y=>Pth m a b y\/∃ t∈S,Cn a b t y)/\(∀ t∈S,t<m)/\(S.Pairwise fun t M=>¬ Cn a b t M)/\(∀ t∈S,¬ Pth m a b t)/\∀ y∈u,Pth m a b y\/∃ t∈S,Cn a b t y)
  ⟨s1,o1,[],rfl,G.congr fun y _=>by simp,by simp,.nil,by simp,by simp⟩ (by
  rintro u x v J hu ⟨s,o,S,rfl,q,i,c2,H,K⟩
  have Y:x<m:=by
   have:x∈List.range m:=by rw[hu];simp
   simpa using this
  obtain⟨w,w1,w2⟩:=DX q Y
  cases w with
  |true=>
   refine#[_,bQ (aR (ff (bj (aa rfl) (aa rfl) w1))) aH,s,_,S,rfl,q,i,c2,H,fun y O=>?_];rcases List.mem_append.mp O with O | O
   ·exact K y O
   ·have:y=x:=by simpa using O
    subst this;exact w2.mp rfl
  |false=>
   have hn:¬ (Pth m a b x\/∃ t∈S,Cn a b t x):=fun z=>noConfusion (w2.mpr z);have N:¬ Pth m a b x:=fun z=>hn (.inl z)
   have ring:∀ y,Cn a b x y->a y≠y/\b y≠y:=fun y O=>#[fun e=>N #[y,O.lt T Y,.inl e,O.symm T Y],fun e=>N #[y,O.lt T Y,.inr e,O.symm T Y]]
   obtain⟨ps,F,E,C⟩:=qN T hr Y (.inr ring);obtain⟨s',Z,e⟩:=hk s _ ps q F;refine#[_,fM (aR (ff (bj (aa rfl) (aa rfl) w1))) (IB rfl aq cO (qP (aA (aa rfl) (aA (lH (aa rfl) (aa rfl) (aa rfl) C) bo)) (by simp[eW,isVar,aX,D.imm,aG,aS]) e rfl aH)) aH,s',_,S++[x],by simp;rfl,Z.congr fun y _=>?_,fun t U=>?_,?_,fun t U=>?_,fun y O=>?_]
   ·rw[E];constructor
    ·rintro((h | ⟨t,I,R⟩) | h)
     ·exact .inl h
     ·exact .inr #[t,by simp[I],R]
     ·exact .inr #[x,by simp,h]
    ·rintro(h | ⟨t,I,R⟩)
     ·exact .inl (.inl h)
     ·rcases List.mem_append.mp I with I | I
      ·exact .inl (.inr #[t,I,R])
      ·have:t=x:=by simpa using I
       subst this;exact .inr R
   ·rcases List.mem_append.mp U with U | U
    ·exact i t U
    ·have:t=x:=by simpa using U
     subst this;exact Y
   ·rw[QF];refine#[c2,by simp,fun t U M V z=>?_]
    have:M=x:=by simpa using V
    subst this;exact hn (.inr #[t,U,z])
   ·rcases List.mem_append.mp U with U | U
    ·exact H t U
    ·have:t=x:=by simpa using U
     subst this;exact N
   ·rcases List.mem_append.mp O with O | O
    ·rcases K y O with h | ⟨t,I,R⟩
     ·exact .inl h
     ·exact .inr #[t,by simp[I],R]
    ·have:y=x:=by simpa using O
     subst this
     exact .inr #[y,by simp,.refl])
 refine#[S,#[i,c2,fun t U y O=>#[fun e=>H t U #[y,O.lt T (i t U),.inl e,O.symm T (i t U)],fun e=>H t U #[y,O.lt T (i t U),.inr e,O.symm T (i t U)]],fun x Y=>K x (by simpa using Y)],?_]
 have e0:aF .mul (.lst [.bl false]) (.int (m:Nat))=some (.lst (BL (replicate m false))):=by
  rw[IA];rw[if_pos ⟨by lia,by unfold most;lia,by simp[most];lia⟩];simp[BL]
 exact aT rfl rfl (ip (az (dM (aA aq bo)) (aZ (aa rfl) Q) e0) (by simp[aG,zo]) (cY (eF (aZ (aa rfl) Q) e1) l1 (aE aq rfl (cY (eF (aZ (aa rfl) Q) e1) l2 (aU (aa rfl) rfl)))))
end
abbrev jn(n x:Nat):Nat:=if x<n then x else if x<2*n then x+n else if x<3*n then x-n else x
abbrev rb(n:Nat)(h l:List Nat)(x:Nat):Nat:=if x<2*n then at' h x else 2*n+at' l (x-2*n)
abbrev out(n p:Nat):Nat:=if p<n then p else p+2*n
section
def two(F:Frm n h)(G:Frm n l):Two (4*n) (jn n) (rb n h l):=by
 refine#[fun x I=>?_,fun x I=>?_,fun x I=>?_,fun x I=>?_]
 ·unfold jn;(repeat' split)<;>lia
 ·unfold rb;split
  ·have:=F.lt x ⋯;lia
  ·have:=G.lt (x-2*n) (by omega);lia
 ·unfold jn;(repeat' split)<;>lia
 ·unfold rb;by_cases c:x<2*n
  ·rw[if_pos c,if_pos (F.lt x c),F.inv]
  ·rw[if_neg c,if_neg ⋯,QB,G.inv];omega
def gN(F:Frm n h)(G:Frm n l)(I:x<4*n):rb n h l x≠x:=by
 unfold rb;split
 ·rename_i c;exact F.no x c
 ·have:=G.no (x-2*n) (by omega);lia
def bR(I:p<2*n):out n p<4*n:=by unfold out;split<;>lia
def eX(I:p<2*n):jn n (out n p)=out n p:=by unfold out jn;(repeat' split)<;>lia
def qe(e:out n p=out n q)(O:p<2*n)(I:q<2*n):p=q:=by unfold out at e;(repeat' split at e)<;>lia
def yP(I:x<4*n)(e:jn n x=x):∃ p,p<2*n/\x=out n p:=by
 by_cases c:x<n
 ·exact#[x,by lia,by unfold out;rw[if_pos c]]
 ·have:3*n<=x:=by
   unfold jn at e
   (repeat' split at e)<;>lia
  exact#[x-2*n,by lia,by unfold out;rw[if_neg ⋯];lia]
abbrev en2(n:Nat)(s:Bool × Nat):Nat:=if s.1 then s.2 else 2*n+s.2
def Hs(O:s.2<2*n)(c:s.1=decide (n<=s.2)):en2 n (stp n h l s)=rb n h l (jn n (en2 n s)):=by
 obtain⟨b,q⟩:=s;unfold stp;dsimp only at c O ⊢;rw[c];by_cases c:n<=q
 ·have e:(q+n)%(2*n)=q-n:=by rw[Nat.mod_eq_sub_mod ⋯,QE (by omega)];lia
  have I:jn n q=q+n:=by unfold jn;rw[if_neg ⋯,if_pos O]
  simp only[c,decide_true,Bool.not_true,en2,pick,if_true,false_eq_true,if_false,e,I,rb];rw[if_neg ⋯,show q+n-2*n=q-n by lia]
 ·have e:(q+n)%(2*n)=q+n:=QE ⋯
  have I:jn n (2*n+q)=n+q:=by unfold jn;rw[if_neg ⋯,if_neg ⋯,if_pos ⋯];lia
  simp only[c,decide_false,Bool.not_false,en2,pick,if_true,false_eq_true,if_false,e,I,rb];rw[if_pos ⋯,add_comm]
def xr(I:s.2<2*n):s.1=decide (n<=s.2)↔jn n (en2 n s)≠en2 n s:=by
 obtain⟨b,q⟩:=s;cases b
 ·simp only[en2,if_false];by_cases c:n<=q
  ·simp only[c,decide_true,false_eq_true,false_iff,Classical.not_not];unfold jn;rw[if_neg ⋯,if_neg ⋯,if_neg ⋯]
  ·simp only[c,true_iff];unfold jn;rw[if_neg ⋯,if_neg ⋯,if_pos ⋯];lia
 ·simp only[en2,if_true];by_cases c:n<=q
  ·simp only[c,true_iff];unfold jn;rw[if_neg ⋯,if_pos I];lia
  ·simp only[c,decide_false,Bool.true_eq_false,false_iff,Classical.not_not];unfold jn;rw[if_pos ⋯]
def Eb(c:¬ s.1=decide (n<=s.2)):stp n h l s=s:=by
 unfold stp;rw[if_neg c]
def HE(I:p<2*n):en2 n (beg n h l p)=rb n h l (out n p):=by
 unfold beg en2 rb out pick;by_cases c:p<n
 ·simp only[c,decide_true,if_true];rw[if_pos ⋯]
 ·simp only[c,decide_false,false_eq_true,if_false];rw[if_neg ⋯,show p+2*n-2*n=p by lia]
def la(F:Frm n h)(G:Frm n l)(O:p<2*n)(st:Stp (jn n) (rb n h l) (out n p) k)(U:∀ j,j<k->¬ Stp (jn n) (rb n h l) (out n p) j) :
  ∀ j,en2 n (itr n h l j (beg n h l p))=wk (jn n) (rb n h l) (out n p) (if 2*j+1<=k then 2*j+1 else k):=by
 have T:=two F G;obtain⟨d,Y⟩:=mZ T (bR O) st U (fun y Z=>gN F G Z) (eX O)
 have blt:(beg n h l p).2<2*n:=by
  unfold beg pick;split
  ·exact F.lt p O
  ·exact G.lt p O
 intro j
 induction j with
 |zero=>
  rw[if_pos ⋯];show en2 n (beg n h l p)=_;rw[HE O];exact(d8 (k:=0) rfl).symm
 |succ j I=>
  have hl:=iZ (fun x R=>F.lt x R) (fun x R=>G.lt x R) blt j;show en2 n (stp n h l (itr n h l j (beg n h l p)))=_;by_cases c:2*(j+1)+1<=k
  ·rw[if_pos ⋯]at I;rw[if_pos c]
   have ne:jn n (en2 n (itr n h l j (beg n h l p)))≠en2 n (itr n h l j (beg n h l p)):=by
    rw[I];intro e;exact U (2*j+1) ⋯ (.inl (by rw[gL ⋯];exact e))
   rw[Hs hl ((xr hl).mpr ne),I,<-gL (a:=jn n) (b:=rb n h l) (x:=out n p) (k:=2*j+1) ⋯,<-d8 (a:=jn n) (b:=rb n h l) (x:=out n p) (k:=2*j+1+1) ⋯];congr 1
  ·rw[if_neg c]
   have e:(if 2*j+1<=k then 2*j+1 else k)=k:=by split<;>lia
   rw[e]at I;rw[Eb (fun z=>(xr hl).mp z (by rw[I];exact Y)),I]
def hW:(aB n h l).length=2*n:=by simp[aB]
def Cu(I:p<2*n):at' (aB n h l) p=(itr n h l (4*n) (beg n h l p)).2:=by simp[aB,at',I]
def lI(F:Frm n h)(G:Frm n l)(I:p<2*n)(hk:k<4*n)(st:Stp (jn n) (rb n h l) (out n p) k)(R:∀ j,j<k->¬ Stp (jn n) (rb n h l) (out n p) j) :
  at' (aB n h l) p<2*n/\wk (jn n) (rb n h l) (out n p) k=out n (at' (aB n h l) p):=by
 have T:=two F G;obtain⟨Z,U⟩:=mZ T (bR I) st R (fun y Y=>gN F G Y) (eX I);have w:=la F G I st R (4*n);rw[show(if 2*(4*n)+1<=k then 2*(4*n)+1 else k)=k by split<;>lia]at w;rw[Cu I]
 have blt:(beg n h l p).2<2*n:=by
  unfold beg pick;dsimp only;split
  ·exact F.lt p I
  ·exact G.lt p I
 have hl:=iZ (fun x O=>F.lt x O) (fun x O=>G.lt x O) (h:=h) (l:=l) blt (4*n);refine#[hl,?_];rw[<-w];have no:¬ (itr n h l (4*n) (beg n h l p)).1=decide (n<=(itr n h l (4*n) (beg n h l p)).2):=fun z=>(xr hl).mp z (by rw[w];exact U);generalize itr n h l (4*n) (beg n h l p)=s at *;obtain⟨b,q⟩:=s;unfold en2 out;dsimp only at no hl ⊢;cases b
 ·rw[if_neg ∅];have:¬ q<n:=fun c=>no (by simp[show ¬ n<=q by lia]);rw[if_neg this];lia
 ·rw[if_pos rfl]
  have:q<n:=by
   apply Classical.byContradiction;intro c;exact no (by simp[show n<=q by lia])
  rw[if_pos this]
def found_iff(F:Frm n h)(G:Frm n l)(I:p<2*n)(R:q<2*n)(ne:p≠q):at' (aB n h l) p=q↔Cn (jn n) (rb n h l) (out n p) (out n q):=by
 have T:=two F G;obtain⟨k,hk,st,O⟩:=fC T (bR I);obtain⟨Z,U⟩:=lI F G I hk st O;constructor
 ·intro e;rw[<-e,<-U];exact jz k
 ·intro c;obtain⟨i,hi,e⟩:=jV T (bR I) st O (.inl (eX I)) c
  have fx:jn n (wk (jn n) (rb n h l) (out n p) i)=wk (jn n) (rb n h l) (out n p) i:=by rw[e];exact eX R
  have Y:i=k:=by
   apply Classical.byContradiction;intro z
   have a:i≠0:=fun z=>by
    subst z;exact ne (qe e I R)
   by_cases c:i%2=1
   ·exact O i ⋯ (.inl (by rw[gL c];exact fx))
   ·have:=ku T (bR I) (i-1);rw[show i-1+1=i by lia,if_neg ⋯,fx]at this;exact O (i-1) ⋯ (.inl (by rw[show i-1+1=i by lia];exact this))
  subst Y;rw[U]at e;exact(qe e Z R)
def ig(F:Frm n h)(G:Frm n l):Frm n (aB n h l):=by
 have T:=two F G
 have lt:∀ p,p<2*n->at' (aB n h l) p<2*n/\at' (aB n h l) p≠p:=fun p I=>by
  obtain⟨k,hk,st,O⟩:=fC T (bR I);obtain⟨a,Y⟩:=lI F G I hk st O;obtain⟨d,b⟩:=mZ T (bR I) st O (fun y Z=>gN F G Z) (eX I);refine#[a,fun e=>?_];rw[e]at Y;exact mM T (bR I) O (i:=0) ⋯ (Qb _) Y.symm
 refine#[hW,fun p I=>(lt p I).1,fun p=>?_,fun p I=>(lt p I).2];by_cases I:p<2*n
 ·obtain⟨U,R⟩:=lt p I;have c:=(found_iff F G I U (Ne.symm R)).mp rfl;exact(found_iff F G U I R).mpr (c.symm T (bR I))
 ·rw[gZ (x:=p) (by rw[hW];lia),gZ (by rw[hW];lia)]
end
section
def pY{β:Type}{J:St}{e:E}{i:Nat}{u g:β->D}(O:∀ x,(g x).imm=true)(xs:List β)(h:∀ x∈xs,ev cl (J.set i (some (u x))) e=some (g x)):bX (fun I=>(ev cl I e).map some) [i] J (xs.map u)=some (xs.map g) :=
 jP O xs fun x R=>by
  show Option.map some (ev cl (J.set i (some (u x))) e)=_;rw[h x R];rfl
def qu{J:St}{e:E}{i:Nat}{g:Nat->D}(O:∀ x,(g x).imm=true)(xs:List Nat)(h:∀ x∈xs,ev cl (J.set i (some (.int (x:Nat)))) e=some (g x)):bX (fun I=>(ev cl I e).map some) [i] J (L xs)=some (xs.map g) :=
 pY O xs h
abbrev jL(n:Nat):List Nat:=List.range n++range' (2*n) n++range' n n++range' (3*n) n
abbrev rbL(n:Nat)(h l:List Nat):List Nat:=h++l.map fun x=>2*n+x
def zB:(jL n).length=4*n:=by simp[jL];lia
def GX(R:x<4*n):(jL n)[x]?=some (jn n x):=by
 unfold jL jn;by_cases I:x<n
 ·rw[if_pos I,QJ,QJ,getElem?_append_left (by simpa using I),List.getElem?_range I]
 ·rw[if_neg I];by_cases c2:x<2*n
  ·rw[if_pos c2,QJ,QJ,Qm (by simp;lia),length_range,getElem?_append_left (by simp;omega),List.getElem?_range' (by omega)];congr 1;lia
  ·rw[if_neg c2];by_cases O:x<3*n
   ·rw[if_pos O,getElem?_append_left (by simp;lia),Qm (by simp;lia)];simp only[length_append,length_range,List.length_range'];rw[List.getElem?_range' (by omega)];congr 1;lia
   ·rw[if_neg O,Qm (by simp;lia)];simp only[length_append,length_range,List.length_range'];rw[List.getElem?_range' (by omega)];congr 1;lia
def K3(I:x<4*n):at' (jL n) x=jn n x:=by
 unfold at';rw[GX I];rfl
def F7(F:Frm n h)(G:Frm n l):(rbL n h l).length=4*n:=by simp[rbL,F.len,G.len];lia
def FR(F:Frm n h)(G:Frm n l)(I:x<4*n):at' (rbL n h l) x=rb n h l x:=by
 unfold rb rbL;by_cases c:x<2*n
 ·rw[if_pos c];unfold at';rw[getElem?_append_left (by rw[F.len];exact c)]
 ·rw[if_neg c];unfold at';rw[Qm (by rw[F.len];lia),F.len,getElem?_map]
  have:x-2*n<l.length:=by rw[G.len];omega
  simp[this]
def zq(I:x<f.length):ixV (.lst (L f)) (.int (x:Nat))=some (.int (at' f x:Nat)):=by
 show cF (L f) (x:Int)=_;rw[gH,sI,jT I];rfl
def i6(hk:k<100)(n:Nat):aF .mul (.int (k:Nat)) (.int (n:Nat))=some (.int ((k*n:Nat):Int)):=by
 rw[cm ⋯ ⋯];simp
def yz(hn:n<=10):evF cl fG [.int (n:Nat)]=some (.lst (L (jL n))):=by
 have a1:=bM (n:=n) ⋯;have a2:=dE (a:=n) (b:=2*n) ⋯ ⋯;have a3:=dE (a:=2*n) (b:=3*n) ⋯ ⋯;have a4:=dE (a:=3*n) (b:=4*n) ⋯ ⋯;rw[show 2*n-n=n by lia]at a2;rw[show 3*n-2*n=n by lia]at a3;rw[show 4*n-3*n=n by lia]at a4
 have O:∀ xs ys:List Nat,xs.length+ys.length<=1000->aF .add (.lst (L xs)) (.lst (L ys))=some (.lst (L (xs++ys))):=fun xs ys hl=>by
  show(if(L xs).length+(L ys).length<=most then some (D.lst (L xs++L ys))else none)=_;rw[if_pos (by rw[aL,aL];unfold most;lia),dz]
 have I:∀ (e:E) (xs:List Nat),aM e=true->aX [] e (.lst (L xs))=true:=fun e xs R=>by simp[aX,D.imm,aG,aS,R]
 refine aT rfl rfl (aE (vZ (aa rfl) a1) (I _ _ rfl) (aE (mV (aa rfl) (az aq (aa rfl) (i6 (k:=2) ∅ n)) a2) (I _ _ rfl) (aE (mV (az aq (aa rfl) (i6 (k:=2) ∅ n)) (az aq (aa rfl) (i6 (k:=3) ∅ n)) a3) (I _ _ rfl) (aE (mV (az aq (aa rfl) (i6 (k:=3) ∅ n)) (az aq (aa rfl) (i6 (k:=4) ∅ n)) a4) (I _ _ rfl) (aU (az (az (az (aa rfl) (aa rfl) (O _ _ ?_)) (aa rfl) (O _ _ ?_)) (aa rfl) (O _ _ ?_)) ?_)))))
 ·simp;lia
 ·simp;lia
 ·simp;lia
 ·simp[bf,aG,aS]
def rR{f fr Z fo:Nat}{r:Nat}(M:1<=n)(hn:n<=10)(F:Frm n h)(G:Frm n l)(A:cl fo [.tup (L h)]=some (.int (n:Nat)))(B:cl Z [.int (n:Nat)]=some (.lst (L (jL n))))
 (z:∀ x:Nat,x<4*n->∃ k,k<4*n/\Stp (jn n) (rb n h l) x k/\(∀ j,j<k->¬ Stp (jn n) (rb n h l) x j)/\cl fr [.lst (L (jL n)),.lst (L (rbL n h l)),.int (x:Nat)]=some (.lst (L (wks (jn n) (rb n h l) x k))))
 (hg:cl f [.lst (L (jL n)),.lst (L (rbL n h l))]=some (.int (r:Nat))):evF cl (jJ f fr Z fo) [.tup (L h),.tup (L l)]=some (.tup [.tup (L (aB n h l)),.int (r:Nat)]):=by
 have U:∀ xs:List Nat,xs.length<=1000->(L xs).length<=most:=fun xs hl=>by rw[aL];unfold most;lia
 have i:∀ xs ys:List Nat,xs.length+ys.length<=1000->aF .add (.lst (L xs)) (.lst (L ys))=some (.lst (L (xs++ys))):=fun xs ys hl=>by
  show(if(L xs).length+(L ys).length<=most then some (D.lst (L xs++L ys))else none)=_;rw[if_pos (by rw[aL,aL];unfold most;lia),dz]
 have R:∀ (e:E) (xs:List Nat),aM e=true->aX [] e (.lst (L xs))=true:=fun e xs y=>by simp[aX,D.imm,aG,aS,y]
 have a1:=bM (n:=n) ⋯;have a4:=dE (a:=3*n) (b:=4*n) ⋯ ⋯;rw[show 4*n-3*n=n by lia]at a4
 have m:List.range n++range' (3*n) n=(List.range (2*n)).map (out n):=by
  rw[show 2*n=n+n by lia,List.range_add,List.map_append];congr 1
  ·rw[<-List.map_id (List.range n),map_map];refine QD fun p O=>?_;unfold out;rw[Function.comp,id,if_pos (List.mem_range.mp O)]
  ·rw[List.range'_eq_map_range,map_map];refine QD fun p O=>?_;unfold out;simp only[Function.comp];rw[if_neg ⋯];lia
 have QK:bX (fun I=>(ev cl I (.bin .add (.bin .mul 2#1 2#0) 8#0)).map some) [8] [some (.tup (L h)),some (.tup (L l)),some (.int (n:Nat)),none,none,none,none,none,none,none] (L l)=some (L (l.map fun x=>2*n+x)):=by
  rw[qu (g:=fun x=>.int ((2*n+x:Nat):Int)) (fun _=>rfl),xQ];exact fun x _=>az (az aq (aa rfl) (i6 (k:=2) ∅ n)) (aa rfl) (show aF .add (.int ((2*n:Nat):Int)) (.int (x:Nat))=some (.int ((2*n+x:Nat):Int)) by rw[cO];simp)
 have c2:bX (fun I=>(ev cl I (.ix (.call fr (.cons 4#0 (.cons 3#0 (.cons 8#0 .nil)))) (.neg 1#1))).map some) [8] [some (.tup (L h)),some (.tup (L l)),some (.int (n:Nat)),some (.lst (L (rbL n h l))),some (.lst (L (jL n))),some (.lst (L ((List.range (2*n)).map (out n)))),none,none,none,none] (L ((List.range (2*n)).map (out n)))=some (L ((List.range (2*n)).map fun p=>out n (at' (aB n h l) p))):=by
  have e:L ((List.range (2*n)).map (out n))=(List.range (2*n)).map fun p=>D.int (out n p:Nat):=by simp[L]
  rw[e,pY (g:=fun p=>.int ((out n (at' (aB n h l) p):Nat):Int)) (fun _=>rfl)]
  ·simp[L]
  ·intro p O;rw[mem_range]at O;obtain⟨k,u,t,s,q⟩:=z (out n p) (bR O);obtain⟨N,C⟩:=lI F G O u t s;rw[<-C];exact bj (lH (aa rfl) (aa rfl) (aa rfl) q) Bc (oa k)
 have H:bX (fun I=>(ev cl I (.ifx (.cmp .lt 9#0 2#0) 9#0 (.bin .sub 9#0 (.bin .mul 2#1 2#0)))).map some) [9] [some (.tup (L h)),some (.tup (L l)),some (.int (n:Nat)),some (.lst (L (rbL n h l))),some (.lst (L (jL n))),some (.lst (L ((List.range (2*n)).map (out n)))),some (.lst (L ((List.range (2*n)).map fun p=>out n (at' (aB n h l) p)))),none,none,none] (L ((List.range (2*n)).map fun p=>out n (at' (aB n h l) p)))=some (L (aB n h l)):=by
  have e:L ((List.range (2*n)).map fun p=>out n (at' (aB n h l) p))=(List.range (2*n)).map fun p=>D.int (out n (at' (aB n h l) p):Nat):=by simp[L]
  have e':aB n h l=(List.range (2*n)).map (at' (aB n h l)):=kc hW (by simp) fun x w=>by simp[at',w]
  have K:=ig F G;rw[e,pY (g:=fun p=>.int ((at' (aB n h l) p:Nat):Int)) (fun _=>rfl)]
  ·conv=>rhs;rw[e']
   simp[L]
  ·intro p O;rw[mem_range]at O;have hl:=K.lt p O;by_cases c:at' (aB n h l) p<n
   ·have Y:out n (at' (aB n h l) p)=at' (aB n h l) p:=by unfold out;rw[if_pos c]
    have v:∀ {J:St},(J[9]?).bind id=some (D.int (out n (at' (aB n h l) p):Nat))->ev cl J 9#0 =some (.int (at' (aB n h l) p:Nat)):=fun h=>by rw[aa h,Y]
    exact mL (k:=true) (aR (aD (aa rfl) (aa rfl) (by rw[fB,decide_eq_true ⋯]))) (v rfl)
   ·have Y:out n (at' (aB n h l) p)=at' (aB n h l) p+2*n:=by unfold out;rw[if_neg c]
    exact mL (k:=false) (aR (aD (aa rfl) (aa rfl) (by rw[fB,Qh ⋯]))) (az (aa rfl) (az aq (aa rfl) (i6 (k:=2) ∅ n)) (by rw[lj,Y];congr 2;lia))
 have o:(L l).length<=most:=U l (by rw[G.len];lia);exact aT rfl rfl (aE (bO (aa rfl) A) rfl (aE (d:=.lst (L (rbL n h l))) (az (aZ (aa rfl) rfl) (de (eg (aa rfl) rfl) o QK) (i _ _ (by simp[F.len,G.len];lia))) (R _ _ rfl) (aE (bO (aa rfl) B) (R _ _ rfl) (aE (az (vZ (aa rfl) a1) (mV (az aq (aa rfl) (i6 (k:=3) ∅ n)) (az aq (aa rfl) (i6 (k:=4) ∅ n)) a4) (by rw[i _ _ (by simp;lia),m])) (R _ _ rfl) (aE (de (eg (aa rfl) rfl) (U _ (by simp;lia)) c2) (R _ _ rfl) (aE (aZ (de (eg (aa rfl) rfl) (U _ (by simp;lia)) H) rfl) (by simp[aX,D.imm,aS]) (aU (jA (aA (aa rfl) (aA (dB (aa rfl) (aa rfl) hg) bo))) (by simp[bf,D.imm,au,aS]))))))))
end
section
def Pth.step{m:Nat}{a b:Nat->Nat}{x y:Nat}(h:Pth m a b x)(c:Cn a b x y):Pth m a b y:=by
 obtain⟨s,R,O,I⟩:=h;exact#[s,R,O,I.trans c]
def gm(hm:m<n):jn n (n+m)=2*n+m:=by unfold jn;rw[if_neg ⋯,if_pos ⋯];lia
def kQ(hm:m<n):jn n (2*n+m)=n+m:=by unfold jn;rw[if_neg ⋯,if_neg ⋯,if_pos ⋯];lia
def sH(e:a x=y):Cn a b x y:=by rw[<-e];exact .sa .refl
def gS(e:b x=y):Cn a b x y:=by rw[<-e];exact .sb .refl
def tP(F:Frm n h)(G:Frm n l)(hm:m<n):Gn n h l (2*n) m↔Pth (4*n) (jn n) (rb n h l) (n+m):=by
 have T:=two F G;constructor
 ·rintro⟨p,I,j,t,t1,t2⟩;obtain⟨k,hk,st,R⟩:=fC T (bR I);have w:=la F G I st R j;refine#[out n p,bR I,.inl (eX I),?_]
  have c:Cn (jn n) (rb n h l) (out n p) (en2 n (itr n h l j (beg n h l p))):=by rw[w];exact jz _
  have blt:(beg n h l p).2<2*n:=by
   unfold beg pick;dsimp only;split
   ·exact F.lt p I
   ·exact G.lt p I
  have hl:=iZ (fun x O=>F.lt x O) (fun x O=>G.lt x O) (h:=h) (l:=l) blt j;generalize itr n h l j (beg n h l p)=s at *;obtain⟨b,q⟩:=s;dsimp only at t1 t2 hl;unfold en2 at c;cases b
  ·simp only[false_eq_true,if_false]at c
   have:q<n:=by
    apply Classical.byContradiction;intro z;rw[decide_eq_true ⋯]at t1;cases t1
   rw[QE this]at t2;subst t2;have:=Cn.sa c;rw[kQ hm]at this;exact this
  ·rw[if_pos rfl]at c;have:n<=q:=of_decide_eq_true t1.symm;rw[Nat.mod_eq_sub_mod this,QE ⋯]at t2;rw[show n+m=q by lia];exact c
 ·rintro⟨s,Z,Y,f⟩;have Y:jn n s=s:=Y.resolve_right (gN F G Z);obtain⟨p,I,rfl⟩:=yP Z Y;obtain⟨k,hk,st,R⟩:=fC T (bR I);obtain⟨g,a⟩:=mZ T (bR I) st R (fun y d=>gN F G d) (eX I);obtain⟨i,hi,e⟩:=jV T (bR I) st R (.inl (eX I)) f;have U:=gm hm
  have r:i≠0:=fun z=>by
   subst z;have:=eX I;rw[show out n p=n+m from e,U]at this;lia
  have o:i≠k:=fun z=>by
   subst z;rw[e,U]at a;lia
  have blt:(beg n h l p).2<2*n:=by
   unfold beg pick;dsimp only;split
   ·exact F.lt p I
   ·exact G.lt p I
  by_cases c:i%2=1
  ·obtain⟨j,rfl⟩:∃ j,i=2*j+1:=#[i / 2,by lia]
   have w:=la F G I st R j;have hl:=iZ (fun x O=>F.lt x O) (fun x O=>G.lt x O) (h:=h) (l:=l) blt j;refine#[p,I,j,by lia,?_];unfold Tr;generalize itr n h l j (beg n h l p)=s at *;obtain⟨b,q⟩:=s;unfold en2 at w;dsimp only at w hl ⊢;cases b
   ·rw[if_neg ∅]at w;lia
   ·rw[if_pos rfl]at w;subst w;exact#[(decide_eq_true ⋯).symm,by rw[Nat.mod_eq_sub_mod ⋯,QE ⋯];lia]
  ·obtain⟨j,rfl⟩:∃ j,i=2*j+1+1:=#[i / 2-1,by lia]
   have w:=la F G I st R j;rw[gL ⋯]at e
   have e':wk (jn n) (rb n h l) (out n p) (2*j+1)=2*n+m:=by
    have:=congrArg (jn n) e;rw[T.ai _ (eO T (bR I) _),U]at this;exact this
   have hl:=iZ (fun x O=>F.lt x O) (fun x O=>G.lt x O) (h:=h) (l:=l) blt j;refine#[p,I,j,by lia,?_];unfold Tr;generalize itr n h l j (beg n h l p)=s at *;obtain⟨b,q⟩:=s;unfold en2 at w;dsimp only at w hl ⊢;cases b
   ·rw[if_neg ∅]at w
    have:q=m:=by lia
    subst this;exact#[(Qh ⋯).symm,QE hm]
   ·rw[if_pos rfl]at w;lia
def og(F:Frm n h)(G:Frm n l)(O:x<4*n)(I:¬ Pth (4*n) (jn n) (rb n h l) x):∃ m,m<n/\(x=n+m\/x=2*n+m)/\¬ Pth (4*n) (jn n) (rb n h l) (n+m):=by
 have no:jn n x≠x:=fun e=>I ⟨x,O,.inl e,.refl⟩;by_cases c:x<2*n
 ·have:n<=x:=by
   apply Classical.byContradiction;intro z;exact no (by unfold jn;rw[if_pos ⋯])
  exact#[x-n,by omega,.inl ⋯,by rw[show n+(x-n)=x by lia];exact I]
 ·have:x<3*n:=by
   apply Classical.byContradiction;intro z;exact no (by unfold jn;rw[if_neg ⋯,if_neg ⋯,if_neg ⋯])
  refine#[x-2*n,by omega,.inr ⋯,fun z=>I (z.step ?_)];have:=gm (n:=n) (m:=x-2*n) (by omega);rw[show 2*n+(x-2*n)=x by lia]at this;exact sH this
def uZ(F:Frm n h)(G:Frm n l)(hm:m<n)(R:¬ Pth (4*n) (jn n) (rb n h l) (n+m)):at' l m<n/\¬ Pth (4*n) (jn n) (rb n h l) (n+at' l m)/\Cn (jn n) (rb n h l) (n+m) (n+at' l m):=by
 have T:=two F G;have hl:=G.lt m ⋯
 have e:rb n h l (2*n+m)=2*n+at' l m:=by unfold rb;rw[if_neg ⋯,show 2*n+m-2*n=m by lia]
 have c:=(sH (gm hm)).trans (gS e);have I:¬ Pth (4*n) (jn n) (rb n h l) (2*n+at' l m):=fun z=>R (z.step (c.symm T ⋯));obtain⟨j,O,Y | Y,U⟩:=og F G ⋯ I
 ·lia
 ·have:at' l m=j:=by lia
  rw[this];refine#[O,U,?_];rw[this]at c;have:=Cn.sa c;rw[kQ O]at this;exact this
def qX(F:Frm n h)(G:Frm n l)(hm:m<n)(R:¬ Pth (4*n) (jn n) (rb n h l) (n+m)):∃ j,j<n/\at' h (n+m)=n+j/\¬ Pth (4*n) (jn n) (rb n h l) (n+j)/\Cn (jn n) (rb n h l) (n+m) (n+j):=by
 have T:=two F G;have hl:=F.lt (n+m) ⋯
 have e:rb n h l (n+m)=at' h (n+m):=by unfold rb;rw[if_pos ⋯]
 have c:Cn (jn n) (rb n h l) (n+m) (at' h (n+m)):=gS e;have I:¬ Pth (4*n) (jn n) (rb n h l) (at' h (n+m)):=fun z=>R (z.step (c.symm T ⋯));obtain⟨j,U,O | O,Y⟩:=og F G ⋯ I
 ·exact#[j,U,O,Y,by rw[<-O];exact c]
 ·lia
def AW(F:Frm n h)(G:Frm n l){inner:List Nat}(I:∀ m,m∈inner↔m<n/\¬ Pth (4*n) (jn n) (rb n h l) (n+m))
 (f1:∀ x∈inner,∀ y∈inner,f x=f y->Cn (jn n) (rb n h l) (n+x) (n+y))(X:∀ m∈inner,f (at' l m)=f m)(V:∀ m∈inner,∀ j,at' h (n+m)=n+j->f j=f m) :
  ∃ S,cN (4*n) (jn n) (rb n h l) S/\(fO (inner.map f)).length=S.length:=by
 have T:=two F G
 have E:∀ x∈inner,∀ z,Cn (jn n) (rb n h l) (n+x) z->∃ m∈inner,(z=n+m\/z=2*n+m)/\f m=f x:=by
  intro x O z c
  induction c with
  | refl=>exact#[x,O,.inl rfl,rfl]
  |sa _ o=>
   obtain⟨m,hm,e | e,i⟩:=o
   ·exact#[m,hm,.inr (by rw[e,gm ((I m).mp hm).1]),i]
   ·exact#[m,hm,.inl (by rw[e,kQ ((I m).mp hm).1]),i]
  |sb _ o=>
   obtain⟨m,hm,e | e,i⟩:=o
   ·have mn:=((I m).mp hm).1;obtain⟨j,Z,Y,d,_⟩:=qX F G ((I m).mp hm).1 ((I m).mp hm).2;exact#[j,(I j).mpr #[Z,d],.inl (by rw[e];unfold rb;rw[if_pos ⋯,Y]),by rw[V m hm j Y,i]]
   ·obtain⟨Z,Y,_⟩:=uZ F G ((I m).mp hm).1 ((I m).mp hm).2;exact#[at' l m,(I _).mpr #[Z,Y],.inr (by rw[e];unfold rb;rw[if_neg ⋯,show 2*n+m-2*n=m by lia]),by rw[X m hm,i]]
 have lU:∀ xs:List Nat,∃ R:List Nat,(∀ r∈R,r∈xs)/\R.map f=fO (xs.map f)/\(R.Pairwise fun r t=>f r≠f t)/\∀ x∈xs,∃ r∈R,f r=f x:=by
  intro xs
  suffices H:∀ (ys:List Nat) (R:List Nat) (done:List Nat),(∀ r∈R,r∈done)->(R.Pairwise fun r t=>f r≠f t)->(∀ x∈done,∃ r∈R,f r=f x)->∃ g:List Nat,(∀ r∈g,r∈done++ys)/\g.map f=(ys.map f).foldl (fun m k=>if m.any (· == k)then m else m++[k]) (R.map f)/\(g.Pairwise fun r t=>f r≠f t)/\∀ x∈done++ys,∃ r∈g,f r=f x by
   obtain⟨R,Z,Y,d,Q⟩:=H xs [] [] (by simp) .nil (by simp);exact#[R,by simpa using Z,Y,d,by simpa using Q]
  intro ys
  induction ys with
  | nil=>intro R done Z Y d;exact#[R,by simpa using Z,rfl,Y,by simpa using d]
  |cons y ys o=>
   intro R done Z Y d;by_cases c:(R.map f).any (· == f y)=true
   ·obtain⟨g,B,A,w,v⟩:=o R (done++[y]) (fun r U=>by simp[Z r U]) Y (fun x O=>by
     rcases List.mem_append.mp O with O | O
     ·exact d x O
     ·have:x=y:=by simpa using O
      subst this
      simpa using c)
    exact#[g,by simpa using B,by rw[map_cons,foldl_cons,if_pos c];exact A,w,by simpa using v]
   ·obtain⟨g,B,A,w,v⟩:=o (R++[y]) (done++[y]) (fun r U=>by
     rcases List.mem_append.mp U with U | U
     ·simp[Z r U]
     ·simp at U;simp[U]) (by
     rw[QF];refine#[Y,by simp,fun r U t N e=>c ?_]
     have:t=y:=by simpa using N
     subst this
     simpa using⟨r,U,e⟩) (fun x O=>by
     rcases List.mem_append.mp O with O | O
     ·obtain⟨r,a1,a2⟩:=d x O;exact#[r,by simp[a1],a2]
     ·have:x=y:=by simpa using O
      subst this
      exact#[x,by simp,rfl])
    exact#[g,by simpa using B,by rw[map_cons,foldl_cons,if_neg c];simpa using A,w,by simpa using v]
 obtain⟨R,p,L,K,QK⟩:=lU inner;refine#[R.map fun m=>n+m,#[fun s u=>?_,?_,fun s u y M=>?_,fun x O=>?_],by rw[<-L];simp]
 ·obtain⟨m,hm,rfl⟩:=List.mem_map.mp u;have:=((I m).mp (p m hm)).1;lia
 ·rw[List.pairwise_map];refine List.Pairwise.imp_of_mem ?_ K;intro a b ha hb ne c;obtain⟨m,hm,e | e,i⟩:=E a (p a ha) _ c
  ·have:m=b:=by lia
   subst this;exact ne i.symm
  ·have:=((I m).mp hm).1;have:=((I b).mp (p b hb)).1;lia
 ·obtain⟨m,hm,rfl⟩:=List.mem_map.mp u;obtain⟨j,P,e,_⟩:=E m (p m hm) y M;have q:=((I j).mp P).1;refine⟨?_,gN F G (by rcases e with rfl | rfl<;>lia)⟩;rcases e with rfl | rfl
  ·rw[gm q];lia
  ·rw[kQ q];lia
 ·by_cases C:Pth (4*n) (jn n) (rb n h l) x
  ·exact .inl C
  ·obtain⟨m,hm,e,nm⟩:=og F G O C;have D:=(I m).mpr ⟨hm,nm⟩;obtain⟨r,U,er⟩:=QK m D;refine .inr #[n+r,List.mem_map.mpr #[r,U,rfl],?_];have c:=f1 r (p r U) m D er;rcases e with rfl | rfl
   ·exact c
   ·exact c.trans (sH (gm hm))
end
section
abbrev HF(inner:List Nat)(hk:List Ky)(I:List D)(f:Nat->Int):Prop:=hk.length=I.length/\hk.length<=10/\∀ m∈inner,aO hk I (.inl (m:Int))=some (.int (f m))
def HF.hi(H:HF inner hk hv f):HI inner hk hv:=#[H.1,H.2.1,fun m hm=>#[f m,H.2.2 m hm]]
def HF.put(H:HF inner hk hv f)(hm:m∈inner)(v:Int):HF inner (putD hk hv (.inl (m:Int)) (.int v)).1 (putD hk hv (.inl (m:Int)) (.int v)).2 (fun x=>if x=m then v else f x):=by
 obtain⟨O,I,_⟩:=H.hi.put hm v;refine#[O,I,fun x R=>?_];rw[gA H.1];dsimp only;by_cases c:x=m
 ·subst c;rw[if_pos rfl,if_pos rfl]
 ·rw[if_neg (fun e=>c (by injection e with e;lia)),if_neg c];exact H.2.2 x R
def AB(hl:hk.length<=10)(x:Nat)(d:D):eS (.dK hk hv) (.int (x:Nat)) d=some (.dK (putD hk hv (.inl (x:Int)) d).1 (putD hk hv (.inl (x:Int)) d).2):=by
 rw[HH];dsimp only[keyOf];rw[Option.bind_some,if_pos (by unfold most;lia)]
def tN(H:HF inner hk hv f)(Y U Z:Option D)(keep go:Int):∃ O I R,HF inner O I (fun x=>if f x=go then keep else f x)/\bp (af cl [4] gi) [7] (L inner) (rst n h l inner hk hv Y U Z (some (.int keep)) (some (.int go)))=some (.nx,rst n h l inner O I Y U R (some (.int keep)) (some (.int go))):=by
 obtain⟨b,e,O,I,R,g,rfl,H',hg⟩:=dk (f:=af cl [4] gi) (tg:=[7]) (xs:=inner) (J:=rst n h l inner hk hv Y U Z (some (.int keep)) (some (.int go)))
  (fun p J=>∃ (O:List Ky) (I:List D) (R:Option D) (g:Nat->Int),J=rst n h l inner O I Y U R (some (.int keep)) (some (.int go))/\HF inner O I g/\∀ x,g x=if x∈p then(if f x=go then keep else f x)else f x) ⟨hk,hv,Z,f,rfl,H,fun x=>by simp⟩ (by
   rintro p x q J d ⟨O,I,R,g,rfl,H',hg⟩
   have hm:x∈inner:=by rw[d];simp
   have a:=mF (H'.2.2 x hm);by_cases c:g x=go
   ·refine#[rst n h l inner (putD O I (.inl x) (.int keep)).1 (putD O I (.inl x) (.int keep)).2 Y U (some (.int x)) (some (.int keep)) (some (.int go)),fM (aR (aD (k9 (aa rfl) (aa rfl) a) (aa rfl) (by rw[dF];congr 1;simp[c]))) (iV (aa rfl) (aa rfl) rfl rfl (AB H'.2.1 x _) aH) aH,_,_,_,_,rfl,H'.put hm keep,fun y=>?_];by_cases e:y=x
    ·subst e;rw[if_pos rfl,if_pos (by simp)];rw[hg]at c;split at c
     ·split
      ·rfl
      ·rename_i z1 z2;rw[if_neg z2]at c;exact absurd c z2
     ·rw[if_pos c]
    ·rw[if_neg e,hg y];simp[e]
   ·refine#[rst n h l inner O I Y U (some (.int x)) (some (.int keep)) (some (.int go)),bQ (aR (aD (k9 (aa rfl) (aa rfl) a) (aa rfl) (by rw[dF];congr 1;simp[c]))) aH,_,_,_,_,rfl,H',fun y=>?_];by_cases e:y=x
    ·subst e;rw[if_pos (by simp)];rw[hg]at c ⊢;split at c
     ·rename_i z;rw[if_pos z]
     ·rename_i z;rw[if_neg z,if_neg c]
    ·rw[hg y]
     simp[e])
 refine#[O,I,R,#[H'.1,H'.2.1,fun m hm=>?_],e];rw[H'.2.2 m hm,hg m,if_pos hm]
abbrev Tog(n:Nat)(h l inner:List Nat)(f:Nat->Int):Prop:=∀ x∈inner,∀ y∈inner,f x=f y->Cn (jn n) (rb n h l) (n+x) (n+y)
abbrev mg(f:Nat->Int)(m o x:Nat):Int:=if f x=f o then f m else f x
def pb(e:f a=f b):mg f m o a=mg f m o b:=by unfold mg;rw[e]
def CY:mg f m o o=mg f m o m:=by
 unfold mg;rw[if_pos rfl];split<;>rfl
def Tog.merge(F:Frm n h)(G:Frm n l)(t:Tog n h l inner f)(R:∀ m∈inner,m<n)(hm:m∈inner)(Y:o∈inner)(c:Cn (jn n) (rb n h l) (n+m) (n+o)):Tog n h l inner (mg f m o):=by
 have T:=two F G;intro x O y I e;have a:=R m hm;unfold mg at e;split at e
 ·rename_i Z;split at e
  ·rename_i U;exact t x O y I (Z.trans U.symm)
  ·exact(t x O o Y Z).trans ((c.symm T ⋯).trans (t m hm y I e))
 ·split at e
  ·rename_i U;exact(t x O m hm e).trans (c.trans (t o Y y I U.symm))
  ·exact t x O y I e
def xP(h1:1<=n)(hn:n<=10)(F:Frm n h)(G:Frm n l)(hil:inner.length<=n)(O:∀ m,m∈inner↔m<n/\¬ Pth (4*n) (jn n) (rb n h l) (n+m)):∃ S:List Nat,cN (4*n) (jn n) (rb n h l) S/\evF cl gq [.tup (L h),.tup (L l),.lst (L inner)]=some (.int (S.length:Nat)):=by
 have e6:=half (xs:=L h) (n:=n) (by rw[aL,F.len])
 obtain⟨QN,l1,hk,I,k,rfl,QK,H1,H2⟩:=dk (f:=af cl [4] j5) (tg:=[5]) (xs:=inner) (J:=rst n h l inner [] [] none none none none none)
  (fun p J=>∃ hk I k,J=rst n h l inner hk I k none none none none/\hk.length=I.length/\hk.length<=p.length/\∀ m∈p,aO hk I (.inl (m:Int))=some (.int (m:Nat))) ⟨[],[],none,rfl,rfl,by simp,by simp⟩ (by
   rintro p x q J z ⟨hk,I,k,rfl,QK,H1,H2⟩
   have E:p.length<10:=by
    have:=congrArg List.length z;simp at this;lia
   have pl:=iL (x:=(.inl (x:Int):Ky)) (d:=.int (x:Nat)) QK;refine⟨rst n h l inner (putD hk I (.inl (x:Int)) (.int (x:Nat))).1 (putD hk I (.inl (x:Int)) (.int (x:Nat))).2 (some (.int (x:Nat))) none none none none,iV (cl:=cl) (M:=[4]) (J:=rst n h l inner hk I (some (.int (x:Nat))) none none none none) (r:=.nil) (aa rfl) (aa rfl) rfl rfl (AB ⋯ x _) aH,_,_,_,rfl,pl.1,by have:=pl.2;simp;lia,fun m hm=>?_⟩;rw[gA QK];by_cases e:(.inl (x:Int):Ky)=.inl (m:Int)
   ·rw[if_pos e];injection e with e
    have:x=m:=by lia
    rw[this]
   ·rw[if_neg e];simp at hm;rcases hm with hm | hm
    ·exact H2 m hm
    ·exact absurd (by rw[hm]) e)
 have H:HF inner hk I (fun m=>(m:Int)):=#[QK,by lia,H2]
 obtain⟨QO,K,b,a,w,g,U,Z,Y,f,rfl,H',t,pr⟩:=dk (f:=af cl [4] jD) (tg:=[5]) (xs:=inner) (J:=rst n h l inner hk I k none none none none)
  (fun p J=>∃ (hk:List Ky) (I:List D) (k o6 o7 o8 o9:Option D) (f:Nat->Int),J=rst n h l inner hk I k o6 o7 o8 o9/\HF inner hk I f/\Tog n h l inner f/\∀ m∈p,f (at' l m)=f m/\∀ j,at' h (n+m)=n+j->f j=f m) ⟨hk,I,k,none,none,none,none,_,rfl,H,fun x _ y _ e=>by
   have e:=e
   have:x=y:=by lia
   subst this
   exact .refl,by simp⟩ (by
   rintro p x q J z ⟨b,a,w,g,U,Z,Y,f,rfl,H',t,pr⟩
   have hm:x∈inner:=by rw[z];simp
   have s:∀ m∈inner,m<n:=fun m hm=>((O m).mp hm).1;have X:=s x hm;obtain⟨ln,lp,lc⟩:=uZ F G X ((O x).mp hm).2;obtain⟨j,N,T,jp,jc⟩:=qX F G X ((O x).mp hm).2;have li:=(O _).mpr ⟨ln,lp⟩;have ji:=(O _).mpr ⟨N,jp⟩;obtain⟨u,o,c,H2,e2⟩:=tN (cl:=cl) (n:=n) (h:=h) (l:=l) H' (some (.int (x:Nat))) (some (.int (at' l x:Nat))) U (f x) (f (at' l x));have t2:=t.merge F G s hm li lc;have H2:HF inner u o (mg f x (at' l x)):=H2;obtain⟨B,A,v,V,e3⟩:=tN (cl:=cl) (n:=n) (h:=h) (l:=l) H2 (some (.int (x:Nat))) (some (.int (j:Nat))) c (mg f x (at' l x) x) (mg f x (at' l x) j);have V:=V;have t3:=t2.merge F G s hm ji jc
   have s1:af cl [4] gb (rst n h l inner b a (some (.int (x:Nat))) (some (.int (at' l x:Nat))) U Z Y)=some (.nx,rst n h l inner u o (some (.int (x:Nat))) (some (.int (at' l x:Nat))) c (some (.int (f x))) (some (.int (f (at' l x))))) :=
    l7 (k9 (aa rfl) (aa rfl) (mF (H'.2.2 x hm))) (k9 (aa rfl) (aa rfl) (mF (H'.2.2 _ li))) rfl (cY (eg (aa rfl) rfl) e2 aH)
   have s2:af cl [4] gb (rst n h l inner u o (some (.int (x:Nat))) (some (.int (j:Nat))) c (some (.int (f x))) (some (.int (f (at' l x)))))=some (.nx,rst n h l inner B A (some (.int (x:Nat))) (some (.int (j:Nat))) v (some (.int (mg f x (at' l x) x))) (some (.int (mg f x (at' l x) j)))) :=
    l7 (k9 (aa rfl) (aa rfl) (mF (H2.2.2 x hm))) (k9 (aa rfl) (aa rfl) (mF (H2.2.2 _ ji))) rfl (cY (eg (aa rfl) rfl) e3 aH)
   have i1:=cC (f:=l) (x:=x) (by rw[G.len];lia);have i2:=cC (f:=h) (x:=n+x) (by rw[F.len];lia);rw[T]at i2;refine#[rst n h l inner B A (some (.int (x:Nat))) (some (.int (j:Nat))) v (some (.int (mg f x (at' l x) x))) (some (.int (mg f x (at' l x) j))),cY (cl:=cl) (M:=[4]) (J:=rst n h l inner b a (some (.int (x:Nat))) g U Z Y) (eg (x:=.tup [.int (at' l x:Nat),.int (j:Nat)]) (jA (aA (bj (aa rfl) (aa rfl) i1) (aA (az (bj (aa rfl) (az (aa rfl) (aa rfl) (by rw[cO];rfl)) i2) (aa rfl) (by rw[lj];congr 2;lia)) bo))) rfl) ?_ aH,_,_,_,_,_,_,_,_,rfl,V,t3,fun m Q=>?_]
   ·exact vG rfl rfl s1 (vG rfl rfl s2 HQ)
   ·rcases List.mem_append.mp Q with E | E
    ·obtain⟨q1,q2⟩:=pr m E;exact#[pb (pb q1),fun P C=>pb (pb (q2 P C))]
    ·have:m=x:=by simpa using E
     subst this;refine#[pb CY,fun P C=>?_]
     have:P=j:=by lia
     subst this
     exact CY)
 obtain⟨S,R,hS⟩:=AW F G O t (fun m hm=>(pr m hm).1) (fun m hm=>(pr m hm).2);refine#[S,R,?_];have mc:=qu (cl:=cl) (J:=rst n h l inner b a w g U Z Y) (e:=.ixD 4#0 5#0) (i:=5) (fun _=>rfl) inner (fun x z=>k9 (aa rfl) (aa rfl) (mF (H'.2.2 x z)))
 have ls:biV .lenSet (.lst (inner.map fun m=>.int (f m)))=some (.int (S.length:Nat)):=by
  rw[Dz];rw[if_pos (by simp;lia),ints_map,<-hS];rfl
 exact aT rfl rfl (aE (az (aZ (aa rfl) e6) aq (Bp n)) rfl (ip (d:=.dK [] []) rfl rfl (cY (eg (aa rfl) rfl) l1 (cY (eg (aa rfl) rfl) K (aU (aZ (de (eg (aa rfl) rfl) (by rw[aL];unfold most;lia) mc) ls) rfl)))))
end
structure Hg(T:List Fn)(cf po rn mk rg jb pu c2 hu:Nat):Prop where
 Gy:T[rn]?=some m6
 LS:T[mk]?=some pL
 Br:T[rg]?=some (iA mk rn)
 LZ:T[jb]?=some fG
 La:T[pu]?=some (jJ rg rn jb po)
 Lr:T[c2]?=some (hG cf)
 BI:T[hu]?=some (zV pu c2)
section
variable{nu pc pa nb un if' cf po rp ir mv rn mk rg jb pu c2 hu:Nat}
def Hg.under(H:Hg T cf po rn mk rg jb pu c2 hu)(C:Ck T nu pc pa nb un if' cf po rp ir mv)(n:Nat)(c:1<=k)(hk:k<=10)(F:Frm k f)(G:Frm k g) :
  ∃ S:List Nat,cN (4*k) (jn k) (rb k f g) S/\ak T (n+3) pu [.tup (L f),.tup (L g)]=some (.tup [.tup (L (aB k f g)),.int (S.length:Nat)]):=by
 have U:=two F G
 have O:∀ x:Nat,x<4*k->ixV (.lst (L (jL k))) (.int (x:Nat))=some (.int (jn k x:Nat)):=fun x I=>by rw[zq (by rw[zB];exact I),K3 I]
 have hb:∀ x:Nat,x<4*k->ixV (.lst (L (rbL k f g))) (.int (x:Nat))=some (.int (rb k f g x:Nat)):=fun x I=>by rw[zq (by rw[F7 F G];exact I),FR F G I]
 have Y:∀ (n x:Nat),x<4*k->∃ i,i<4*k/\Stp (jn k) (rb k f g) x i/\(∀ j,j<i->¬ Stp (jn k) (rb k f g) x j)/\ak T (n+1) rn [.lst (L (jL k)),.lst (L (rbL k f g)),.int (x:Nat)]=some (.lst (L (wks (jn k) (rb k f g) x i))):=fun n x I=>by
  obtain⟨i,a1,a2,a3,a4⟩:=mC U ⋯ O hb I;exact#[i,a1,a2,a3,(ao H.Gy).trans a4]
 have Z:∀ (n x:Nat),x<4*k->∃ i,i<4*k/\Stp (rb k f g) (jn k) x i/\(∀ j,j<i->¬ Stp (rb k f g) (jn k) x j)/\ak T (n+1) rn [.lst (L (rbL k f g)),.lst (L (jL k)),.int (x:Nat)]=some (.lst (L (wks (rb k f g) (jn k) x i))):=fun n x I=>by
  obtain⟨i,a1,a2,a3,a4⟩:=mC U.swap ⋯ hb O I;exact#[i,a1,a2,a3,(ao H.Gy).trans a4]
 obtain⟨S,R,e⟩:=lV U ⋯ (by
  show some (D.int ((L (jL k)).length:Nat))=_
  rw[aL,zB]) O hb (Y n) (Z n) (fun s P ps a b=>by
  obtain⟨s',b1,b2⟩:=vi a b
  exact#[s',b1,(ao H.LS).trans b2])
 exact#[S,R,(ao H.La).trans (rR c hk F G (C.half (n+1) F.len) ((ao H.LZ).trans (yz hk)) (Y (n+1)) ((ao H.Br).trans e))]
def Hg.yx(H:Hg T cf po rn mk rg jb pu c2 hu)(C:Ck T nu pc pa nb un if' cf po rp ir mv)(n:Nat)(I:1<=k)(hk:k<=10)(V:Val k f)(W:Val k g) :
  ∃ S:List Nat,cN (4*k) (jn k) (rb k f g) S/\ak T (n+7) hu [.tup (L f),.tup (L g)]=some (.tup [.tup (L (aB k f g)),.int (S.length:Nat)]):=by
 obtain⟨S,R,e⟩:=H.under C (n+3) I hk V.frm W.frm;refine#[S,R,(ao H.BI).trans ?_]
 have ck2:ak T (n+6) c2 [.tup (L f),.tup (L g)]=some .non:=by
  refine(ao H.Lr).trans (uk rfl rfl (js (bO (aa rfl) (C.check n I hk V)) (js (bO (aa rfl) (C.check n I hk W)) (bQ (aR (aD (aZ (aa rfl) (half (by rw[aL,V.frm.len]))) (aZ (aa rfl) (half (by rw[aL,W.frm.len]))) (by rw[CQ];simp))) aH))))
 exact aT rfl rfl (js (dB (aa rfl) (aa rfl) ck2) (aU (dB (aa rfl) (aa rfl) e) (by simp[bf,D.imm,au,aS])))
end
section
variable{mx rw dg pl hk ci ft tx rg hu ov fr:Nat}
def Dr.yx(U:Dr T mx rw dg pl hk ci ft tx rg hu ov fr)(n:Nat)(O:1<=k)(I:k<=10)(F:Frm k f)(G:Frm k g) :
  ∃ S:List Nat,cN (4*k) (jn k) (rb k f g) S/\ak T (n+2) hu [.tup (L f),.tup (L g)]=some (.tup [.tup (L (aB k f g)),.int (S.length:Nat)]):=by
 obtain⟨inner,i1,i2,Y⟩:=BF O I F.len G.len F.lt G.lt
 obtain⟨S,R,e⟩:=xP O I F G i2 (fun m=>by
  rw[i1 m]
  exact#[fun#[a,b]=>#[a,fun z=>b ((tP F G a).mpr z)],fun#[a,b]=>#[a,fun z=>b ((tP F G a).mp z)]])
 exact#[S,R,(ao U.BI).trans (Y _ ((ao U.Br).trans e))]
def K1(O:T[fs]?=some (iU fr))(n:Nat)(U:q<=100)(one:∀ i:Nat,i<=100->∃ f:List Nat,Val m f/\ak T (n+4) fr [.lst (LI ns),.int ((k+i:Nat):Int),.int m]=some (.tup (L f))) :
  ∃ I:List (List Nat),I.length=q/\(∀ f∈I,Val m f)/\ak T (n+5) fs [.lst (LI ns),.int k,.int m,.int q]=some (.lst (I.map fun f=>.tup (L f))):=by
 have:∀ i,∃ f:List Nat,i<=100->Val m f/\ak T (n+4) fr [.lst (LI ns),.int ((k+i:Nat):Int),.int m]=some (.tup (L f)):=fun i=>by
  by_cases c:i<=100
  ·obtain⟨f,V,e⟩:=one i c;exact#[f,fun _=>#[V,e]]
  ·exact#[[],fun z=>absurd z c]
 obtain⟨g,hg⟩:=Classical.axiomOfChoice this;refine#[(List.range q).map g,by simp,fun f hf=>?_,?_]
 ·obtain⟨i,hi,rfl⟩:=List.mem_map.mp hf;exact(hg i (by have:=List.mem_range.mp hi;lia)).1
 ·refine(ao O).trans (aT rfl rfl (aU (de (eF (aa rfl) (bM ⋯)) (by simp[L,most];lia) (qu (g:=fun i=>.tup (L (g i))) (fun x=>by simp[D.imm,aS]) _ fun i hi=>?_)) ?_)) |>.trans (by rw[map_map];rfl)
  ·have hi:=List.mem_range.mp hi;exact lH (aa rfl) (az (aa rfl) (aa rfl) (by rw[cO];rfl)) (aa rfl) (hg i ⋯).2
  ·have:∀ xs:List Nat,au (xs.map fun i=>D.tup (L (g i)))=true:=fun xs=>by
    induction xs with
    | nil=>rfl
    | cons x r R=>rw[map_cons,au,R];simp[D.imm,aS]
   simp[bf,aG,this]
end
def tH{xs:List Nat}{b:Nat->Nat}(nd:xs.Nodup)(cl:∀ x∈xs,b x∈xs)(bi:∀ x∈xs,b (b x)=x)(no:∀ x∈xs,b x≠x):xs.length%2=0:=by
 have a:(xs.filter fun x=>decide (x<b x)).length<=(xs.filter fun x=>decide (b x<x)).length:=by
  have:(xs.filter fun x=>decide (x<b x)).length=((xs.filter fun x=>decide (x<b x)).map b).length:=by simp
  rw[this];refine cG ?_ fun y O=>?_
  ·k_in;refine List.Pairwise.imp_of_mem ?_ (List.nodup_iff_pairwise_ne.mp (nd.filter _));intro x y I O R e;rw[mem_filter]at I O;exact R (by rw[<-bi x I.1,e,bi y O.1])
  ·obtain⟨x,I,rfl⟩:=List.mem_map.mp O;rw[mem_filter,decide_eq_true_eq]at I ⊢;exact#[cl x I.1,by rw[bi x I.1];exact I.2]
 have Z:(xs.filter fun x=>decide (b x<x)).length<=(xs.filter fun x=>decide (x<b x)).length:=by
  have:(xs.filter fun x=>decide (b x<x)).length=((xs.filter fun x=>decide (b x<x)).map b).length:=by simp
  rw[this];refine cG ?_ fun y O=>?_
  ·k_in;refine List.Pairwise.imp_of_mem ?_ (List.nodup_iff_pairwise_ne.mp (nd.filter _));intro x y I O R e;rw[mem_filter]at I O;exact R (by rw[<-bi x I.1,e,bi y O.1])
  ·obtain⟨x,I,rfl⟩:=List.mem_map.mp O;rw[mem_filter,decide_eq_true_eq]at I ⊢;exact#[cl x I.1,by rw[bi x I.1];exact I.2]
 have Y:∀ ys:List Nat,(∀ x∈ys,b x≠x)->ys.length=(ys.filter fun x=>decide (x<b x)).length+(ys.filter fun x=>decide (b x<x)).length:=by
  intro ys
  induction ys with
  | nil=>intro _;rfl
  |cons y ys U=>
   intro h;have i:=U fun x I=>h x (Qk _ I);have O:=h y Qq;rw[QC,QC];by_cases c:y<b y
   ·rw[if_pos (decide_eq_true c),if_neg (by rw[decide_eq_true_eq];lia)];simp only[length_cons];lia
   ·rw[if_neg (by rw[decide_eq_true_eq];exact c),if_pos (decide_eq_true ⋯)];simp only[length_cons];lia
 have:=Y xs no;lia
section
abbrev rp(n x:Nat):Nat:=if x<2*n then rd n x else 2*n+rd n (x-2*n)
abbrev phi(n:Nat)(Q:List Nat)(x:Nat):Nat:=(Q.filter fun y=>decide (y<2*n↔x<2*n)&&decide (rp n y<rp n x)).length
def hU(Q:List Nat)(P R:Nat->Bool):(Q.filter P).length=(Q.filter fun y=>P y&&R y).length+(Q.filter fun y=>P y && !R y).length:=by
 induction Q with
 | nil=>rfl
 |cons y Q I=>
  rw[QC,QC,QC];cases P y<;>cases R y<;>simp[]<;>lia
def bW{Q:List Nat}(e:∀ y∈Q,P y=R y):(Q.filter P).length=(Q.filter R).length:=by rw[List.filter_congr e]
def oO(R:x<4*n)(O:y<4*n)(e:rp n x=rp n y):x=y:=by
 unfold rp at e;have:∀ q,q<2*n->rd n q<2*n:=fun q I=>bF I;split at e<;>split at e
 ·exact jQ ⋯ ⋯ e
 ·have:=this x ⋯;lia
 ·have:=this y ⋯;lia
 ·have:=jQ (n:=n) (p:=x-2*n) (q:=y-2*n) (by omega) (by omega) ⋯;omega
def zt(V:Val n h)(W:Val n l)(f:x<4*n)(e:y<4*n):¬ (rp n x<rp n y/\rp n y<rp n (rb n h l x)/\rp n (rb n h l x)<rp n (rb n h l y)):=by
 have F:=V.frm;have G:=W.frm;have T:=two F G;rintro⟨Y,O,R⟩;have b:∀ q,q<2*n->rd n q<2*n:=fun q d=>bF d;by_cases U:x<2*n
 ·have ex:rb n h l x=at' h x:=by unfold rb;rw[if_pos U]
  have Z:=F.lt x U;by_cases I:y<2*n
  ·have a:rb n h l y=at' h y:=by unfold rb;rw[if_pos I]
   have c:=F.lt y I;rw[ex]at O R;rw[a]at R;unfold rp at Y O R;rw[if_pos U,if_pos I]at Y;rw[if_pos I,if_pos Z]at O;rw[if_pos Z,if_pos c]at R;refine V.nox (rd n x) (rd n y) (bF U) (bF I) ?_;unfold rnd;rw[cw U,cw I];exact#[Y,O,R]
  ·rw[ex]at O;unfold rp at O;rw[if_neg I,if_pos Z]at O;have:=b _ Z;lia
 ·have ex:rb n h l x=2*n+at' l (x-2*n):=by unfold rb;rw[if_neg U]
  have Z:=G.lt (x-2*n) (by omega);by_cases I:y<2*n
  ·unfold rp at Y;rw[if_neg U,if_pos I]at Y;have:=b _ I;lia
  ·have a:rb n h l y=2*n+at' l (y-2*n):=by unfold rb;rw[if_neg I]
   have c:=G.lt (y-2*n) (by omega);rw[ex]at O R;rw[a]at R;unfold rp at Y O R;rw[if_neg U,if_neg I]at Y;rw[if_neg I,if_neg ⋯,QB]at O;rw[if_neg ⋯,if_neg ⋯,QB,QB]at R;refine W.nox (rd n (x-2*n)) (rd n (y-2*n)) (bF (by omega)) (bF (by omega)) ?_;unfold rnd;rw[cw (by omega),cw (by omega)];exact#[by lia,by lia,by lia]
structure Cls(n:Nat)(h l Q:List Nat):Prop where
 nd:Q.Nodup
 lt:∀ y∈Q,y<4*n
 b:∀ y∈Q,rb n h l y∈Q
 a:∀ y∈Q,jn n y∈Q
def qB(F:Frm n h)(G:Frm n l)(I:x<4*n):rb n h l x<2*n↔x<2*n:=by
 unfold rb;split
 ·rename_i c;have:=F.lt x c;lia
 ·lia
def JV(V:Val n h)(W:Val n l){Q:List Nat}(C:Cls n h l Q)(I:x<4*n)(R:x∉Q):phi n Q (rb n h l x)%2=phi n Q x%2:=by
 have F:=V.frm;have G:=W.frm;have T:=two F G
 have U:∀ x,x<4*n->x∉Q->rp n x<rp n (rb n h l x)->phi n Q (rb n h l x)%2=phi n Q x%2:=by
  intro x I R lt;have bl:=T.bl x I;have d:rb n h l x∉Q:=fun z=>R (by have:=C.b _ z;rw[T.bi x I]at this;exact this);have sd:=qB F G (h:=h) (l:=l) I
  have e:phi n Q (rb n h l x)=phi n Q x+(Q.filter fun y=>decide (y<2*n↔x<2*n)&&(decide (rp n x<rp n y)&&decide (rp n y<rp n (rb n h l x)))).length:=by
   unfold phi;rw[hU Q (fun y=>decide (y<2*n↔rb n h l x<2*n)&&decide (rp n y<rp n (rb n h l x))) (fun y=>decide (rp n y<rp n x))];congr 1
   ·refine bW fun y O=>?_;rw[QG];simp only[and_eq_true,decide_eq_true_eq];rw[sd];lia
   ·refine bW fun y O=>?_;have ne:rp n y≠rp n x:=fun e=>R (oO (C.lt y O) I e▸O);rw[QG];simp only[and_eq_true,decide_eq_true_eq,not_eq_true',decide_eq_false_iff_not];rw[sd];lia
  have ev:=tH (b:=rb n h l) (xs:=Q.filter fun y=>decide (y<2*n↔x<2*n)&&(decide (rp n x<rp n y)&&decide (rp n y<rp n (rb n h l x)))) (C.nd.filter _) (fun y O=>by
   simp only[mem_filter,and_eq_true,decide_eq_true_eq]at O ⊢;obtain⟨Y,f,m,k⟩:=O;have Z:=C.lt y Y;have a:=T.bl y Z;refine#[C.b y Y,by rw[qB F G Z];exact f,?_];have o:=zt V W I Z;have j:=zt V W a I;rw[T.bi y Z]at j;have i:rp n (rb n h l y)≠rp n x:=fun e=>R (oO a I e▸C.b y Y);have g:rp n (rb n h l y)≠rp n (rb n h l x):=fun e=>d (oO a bl e▸C.b y Y)
   lia) (fun y O=>by
   simp only[mem_filter]at O
   exact T.bi y (C.lt y O.1)) (fun y O=>by
   simp only[mem_filter]at O
   exact gN F G (C.lt y O.1))
  lia
 by_cases c:rp n x<rp n (rb n h l x)
 ·exact U x I R c
 ·have bl:=T.bl x I;have d:rb n h l x∉Q:=fun z=>R (by have:=C.b _ z;rw[T.bi x I]at this;exact this);have ne:rp n (rb n h l x)≠rp n x:=fun e=>gN F G I (oO bl I e);have:=U (rb n h l x) bl d (by rw[T.bi x I];lia);rw[T.bi x I]at this;exact this.symm
def wX(F:Frm n h)(G:Frm n l){Q:List Nat}(C:Cls n h l Q):(Q.filter fun y=>decide (y<2*n)).length%2=0:=by
 have T:=two F G;refine tH (b:=rb n h l) (C.nd.filter _) (fun y I=>?_) (fun y I=>?_) (fun y I=>?_)
 ·simp only[mem_filter,decide_eq_true_eq]at I ⊢;exact#[C.b y I.1,(qB F G (C.lt y I.1)).mpr I.2]
 ·simp only[mem_filter]at I;exact T.bi y (C.lt y I.1)
 ·simp only[mem_filter]at I;exact gN F G (C.lt y I.1)
set_option synthInstance.maxSize 10000 in
set_option synthInstance.maxHeartbeats 0 in
def jY:∀ n,n<11->∀ m,m<n->∀ y,y<4*n->(decide (y<2*n↔2*n+m<2*n)&&decide (rp n y<rp n (2*n+m)))=decide (2*n<=y/\y<2*n+m) /\
  (y≠n+m->(decide (y<2*n) && !decide (rp n y<rp n (n+m)))=decide (n<=y/\y<n+m))/\(decide (y<2*n↔n+m<2*n)&&decide (rp n y<rp n (n+m)))=(decide (y<2*n)&&decide (rp n y<rp n (n+m))) /\
  (2*n<=y->y<2*n+m->n<=jn n y/\jn n y<n+m)/\(n<=y->y<n+m->2*n<=jn n y/\jn n y<2*n+m):=by decide +kernel
def vW(hn:n<11)(F:Frm n h)(G:Frm n l){Q:List Nat}(C:Cls n h l Q)(hm:m<n)(Z:n+m∉Q):phi n Q (2*n+m)%2=phi n Q (n+m)%2:=by
 have T:=two F G
 have swap:(Q.filter fun y=>decide (2*n<=y/\y<2*n+m)).length=(Q.filter fun y=>decide (n<=y/\y<n+m)).length:=by
  have go:∀ (P R:Nat->Bool),(∀ y,y<4*n->P y=true->R (jn n y)=true)->(Q.filter P).length<=(Q.filter R).length:=fun P R Y=>by
   have:(Q.filter P).length=((Q.filter P).map (jn n)).length:=by simp
   rw[this];refine cG ?_ fun y I=>?_
   ·k_in;refine List.Pairwise.imp_of_mem ?_ (List.nodup_iff_pairwise_ne.mp (C.nd.filter _));intro x y O I U e;rw[mem_filter]at O I;exact U (by rw[<-T.ai x (C.lt x O.1),e,T.ai y (C.lt y I.1)])
   ·obtain⟨x,O,rfl⟩:=List.mem_map.mp I;rw[mem_filter]at O ⊢;exact#[C.a x O.1,Y x (C.lt x O.1) O.2]
  refine le_antisymm (go _ _ fun y I e=>?_) (go _ _ fun y I e=>?_)
  ·rw[decide_eq_true_eq]at e ⊢;exact(jY n hn m hm y I).2.2.2.1 e.1 e.2
  ·rw[decide_eq_true_eq]at e ⊢;exact(jY n hn m hm y I).2.2.2.2 e.1 e.2
 have d:phi n Q (2*n+m)=(Q.filter fun y=>decide (2*n<=y/\y<2*n+m)).length:=bW fun y I=>(jY n hn m hm y (C.lt y I)).1
 have c:phi n Q (n+m)+(Q.filter fun y=>decide (n<=y/\y<n+m)).length=(Q.filter fun y=>decide (y<2*n)).length:=by
  rw[hU Q (fun y=>decide (y<2*n)) (fun y=>decide (rp n y<rp n (n+m)))];congr 1
  ·exact bW fun y I=>(jY n hn m hm y (C.lt y I)).2.2.1
  ·exact(bW fun y I=>(jY n hn m hm y (C.lt y I)).2.1 fun e=>Z (e▸I)).symm
 have b:=wX F G C;lia
def Jj(hn:n<11)(V:Val n h)(W:Val n l)(C:Cls n h l Q)(R:x<4*n)(Z:x∉Q)(c:Cn (jn n) (rb n h l) x z):z∉Q/\phi n Q z%2=phi n Q x%2:=by
 have F:=V.frm;have G:=W.frm;have T:=two F G
 induction c with
 | refl=>exact#[Z,rfl]
 |@sa y hy ih=>
  obtain⟨i1,i2⟩:=ih;have I:=hy.lt T R;have O:jn n y∉Q:=fun z=>i1 (by have:=C.a _ z;rw[T.ai y I]at this;exact this);refine#[O,?_];rw[<-i2];by_cases Y:y<n
  ·have:jn n y=y:=by unfold jn;rw[if_pos Y]
   rw[this]
  ·by_cases c2:y<2*n
   ·have e:y=n+(y-n):=by lia
    have:jn n y=2*n+(y-n):=by rw[e,gm ⋯];lia
    rw[this];have:=vW hn F G C (m:=y-n) ⋯ (by rw[<-e];exact i1);rw[<-e]at this;exact this
   ·by_cases d:y<3*n
    ·have e:y=2*n+(y-2*n):=by lia
     have U:jn n y=n+(y-2*n):=by rw[e,kQ ⋯];lia
     have:=vW hn F G C (m:=y-2*n) ⋯ (by rw[<-U];exact O);rw[<-e,<-U]at this;exact this.symm
    ·have:jn n y=y:=by unfold jn;rw[if_neg Y,if_neg c2,if_neg d]
     rw[this]
 |@sb y hy ih=>
  obtain⟨i1,i2⟩:=ih;have I:=hy.lt T R;exact⟨fun z=>i1 (by have:=C.b _ z;rw[T.bi y I]at this;exact this),by rw[JV V W C I i1,i2]⟩
end
section
def F1{Q:List Nat}(nd:Q.Nodup)(hu:u∈Q)(R:v∈Q)(ne:u≠v)(only:∀ y∈Q,P y=true->y=u\/y=v):(Q.filter P).length=([u,v].filter P).length:=by
 have O:[u,v].Nodup:=by simp[ne]
 refine le_antisymm (cG (nd.filter _) fun y I=>?_) (cG (O.filter _) fun y I=>?_)
 ·rw[mem_filter]at I ⊢;exact⟨by rcases only y I.1 I.2 with e | e<;>simp[e],I.2⟩
 ·rw[mem_filter]at I ⊢;refine#[?_,I.2];have:=I.1;simp only[mem_cons,List.not_mem_nil,or_false]at this;rcases this with rfl | rfl<;>assumption
abbrev psi(n p y:Nat):Bool:=(decide (y<n)&&decide (y<rd n p)) || (decide (3*n<=y)&&decide (rd n (y-2*n)<rd n p))
set_option synthInstance.maxSize 10000 in
set_option synthInstance.maxHeartbeats 0 in
def vY:∀ n,n<11->∀ p,p<2*n->∀ y,y<4*n->(p<n->(decide (y<2*n↔p<2*n)&&decide (rp n y<rp n p))=psi n p y) /\
  (¬ p<n->(decide (y<2*n↔p+2*n<2*n)&&decide (rp n y<rp n (p+2*n))&&decide (y<3*n))=decide (2*n<=y/\y<3*n) /\
   (decide (y<2*n↔p+2*n<2*n)&&decide (rp n y<rp n (p+2*n)) && !decide (y<3*n))=(decide (3*n<=y)&&decide (rd n (y-2*n)<rd n p)) /\
   (psi n p y&&decide (y<n))=decide (y<n)/\(psi n p y && !decide (y<n))=(decide (3*n<=y)&&decide (rd n (y-2*n)<rd n p))) /\
  (decide (y<2*n)&&decide (y<n))=decide (y<n)/\(decide (y<2*n) && !decide (y<n))=decide (n<=y/\y<2*n) /\
  (2*n<=y->y<3*n->n<=jn n y/\jn n y<2*n)/\(n<=y->y<2*n->2*n<=jn n y/\jn n y<3*n)/\(psi n p y=true->jn n y=y):=by decide +kernel
def xb(hn:n<11)(F:Frm n h)(G:Frm n l)(C:Cls n h l Q)(d:p<2*n):phi n Q (out n p)%2=(Q.filter (psi n p)).length%2:=by
 have T:=two F G;have O:=fun y (I:y∈Q)=>vY n hn p d y (C.lt y I);by_cases c:p<n
 ·have b:out n p=p:=by unfold out;rw[if_pos c]
  rw[b];congr 1;exact bW fun y I=>(O y I).1 c
 ·have b:out n p=p+2*n:=by unfold out;rw[if_neg c]
  have go:∀ (P R:Nat->Bool),(∀ y,y∈Q->P y=true->R (jn n y)=true)->(Q.filter P).length<=(Q.filter R).length:=fun P R Z=>by
   have:(Q.filter P).length=((Q.filter P).map (jn n)).length:=by simp
   rw[this];refine cG ?_ fun y I=>?_
   ·k_in;refine List.Pairwise.imp_of_mem ?_ (List.nodup_iff_pairwise_ne.mp (C.nd.filter _));intro x y U I Y e;rw[mem_filter]at U I;exact Y (by rw[<-T.ai x (C.lt x U.1),e,T.ai y (C.lt y I.1)])
   ·obtain⟨x,U,rfl⟩:=List.mem_map.mp I;rw[mem_filter]at U ⊢;exact#[C.a x U.1,Z x U.1 U.2]
  have swap:(Q.filter fun y=>decide (2*n<=y/\y<3*n)).length=(Q.filter fun y=>decide (n<=y/\y<2*n)).length:=by
   refine le_antisymm (go _ _ fun y I e=>?_) (go _ _ fun y I e=>?_)
   ·rw[decide_eq_true_eq]at e ⊢;exact(O y I).2.2.2.2.1 e.1 e.2
   ·rw[decide_eq_true_eq]at e ⊢;exact(O y I).2.2.2.2.2.1 e.1 e.2
  have j:phi n Q (p+2*n)=(Q.filter fun y=>decide (2*n<=y/\y<3*n)).length+(Q.filter fun y=>decide (3*n<=y)&&decide (rd n (y-2*n)<rd n p)).length:=by
   unfold phi;rw[hU Q (fun y=>decide (y<2*n↔p+2*n<2*n)&&decide (rp n y<rp n (p+2*n))) (fun y=>decide (y<3*n)),bW fun y I=>((O y I).2.1 c).1,bW fun y I=>((O y I).2.1 c).2.1]
  have i:(Q.filter (psi n p)).length=(Q.filter fun y=>decide (y<n)).length+(Q.filter fun y=>decide (3*n<=y)&&decide (rd n (y-2*n)<rd n p)).length:=by
   rw[hU Q (psi n p) (fun y=>decide (y<n)),bW fun y I=>((O y I).2.1 c).2.2.1,bW fun y I=>((O y I).2.1 c).2.2.2]
  have g:(Q.filter fun y=>decide (y<2*n)).length=(Q.filter fun y=>decide (y<n)).length+(Q.filter fun y=>decide (n<=y/\y<2*n)).length:=by
   rw[hU Q (fun y=>decide (y<2*n)) (fun y=>decide (y<n)),bW fun y I=>(O y I).2.2.1,bW fun y I=>(O y I).2.2.2.1]
  have f:=wX F G C;lia
def Gs(F:Frm n h)(G:Frm n l)(O:s<2*n):∃ Q,Cls n h l Q/\∀ y,y∈Q↔Cn (jn n) (rb n h l) (out n s) y:=by
 have T:=two F G;obtain⟨k,hk,st,hn⟩:=fC T (bR O)
 have mem:∀ y,y∈wks (jn n) (rb n h l) (out n s) k↔Cn (jn n) (rb n h l) (out n s) y:=fun y=>by
  rw[qF];exact#[fun#[i,_,e]=>e▸jz i,fun c=>jV T (bR O) st hn (.inl (eX O)) c]
 refine#[_,#[?_,fun y I=>((mem y).mp I).lt T (bR O),fun y I=>(mem _).mpr (.sb ((mem y).mp I)),fun y I=>(mem _).mpr (.sa ((mem y).mp I))],mem];unfold wks;k_in;refine List.Pairwise.imp_of_mem ?_ (List.pairwise_lt_range (n:=k+1));intro i j hi U R;exact mM T (bR O) hn R (by have:=List.mem_range.mp U;lia)
def mQ(O:p<2*n)(I:q<2*n):psi n p (out n q)=decide (rd n q<rd n p):=by
 unfold psi out;split
 ·rename_i c
  have:rd n q=q:=by unfold rd;rw[if_pos c]
  lia
 ·rename_i c;rw[show q+2*n-2*n=q by lia];lia
def lG(hn:n<=10)(V:Val n h)(W:Val n l):Val n (aB n h l):=by
 have F:=V.frm;have G:=W.frm;have R:=ig F G;refine#[R,fun q q' i Y o=>?_];obtain⟨w,c2,r⟩:=o;have I:=bF i;have s1:=bF Y;unfold rnd at c2 r;have v:rd n (rd n q)=q:=cw i;have es:rd n (rd n q')=q':=cw Y;generalize rd n q=p at *;generalize rd n q'=s at *;have U:=R.lt p I;have a:=R.lt s s1;obtain⟨Q,C,mem⟩:=Gs F G s1;have k:=(mem _).mpr .refl;have j:=(mem _).mpr ((found_iff F G s1 a (Ne.symm (R.no s s1))).mp rfl);have b:=fun e=>R.no s s1 (qe e s1 a).symm
 have only:∀ t,t<2*n->out n t∈Q->t=s\/t=at' (aB n h l) s:=fun t d hm=>by
  by_cases c:s=t
  ·exact .inl c.symm
  ·exact .inr ((found_iff F G s1 d c).mpr ((mem _).mp hm)).symm
 have m:out n p∉Q:=fun z=>by
  rcases only p I z with e | e
  ·subst e;lia
  ·subst e;lia
 have pc:=(found_iff F G I U (Ne.symm (R.no p I))).mp rfl;obtain⟨_,Z⟩:=Jj ⋯ V W C (bR I) m pc;rw[xb ⋯ F G C U,xb ⋯ F G C I]at Z
 have O:∀ t,t<2*n->(Q.filter (psi n t)).length=([out n s,out n (at' (aB n h l) s)].filter (psi n t)).length:=fun t d=>by
  refine F1 C.nd k j b fun y g e=>?_;have f:=C.lt y g;have:jn n y=y:=(vY n ⋯ t d y f).2.2.2.2.2.2 e;obtain⟨u,hu,rfl⟩:=yP f this;rcases only u hu g with e | e
  ·exact .inl (by rw[e])
  ·exact .inr (by rw[e])
 rw[O p I,O _ U,QC,QC,QC,QC,mQ U s1,mQ U a,mQ I s1,mQ I a]at Z;rw[if_pos (by rw[decide_eq_true_eq];lia),if_neg (by rw[decide_eq_true_eq];lia),if_neg (by rw[decide_eq_true_eq];lia),if_neg (by rw[decide_eq_true_eq];lia)]at Z;simp at Z
end
section
variable{mx rw dg pl hk ci ft tx rg hu ov fr:Nat}
def Dr.Ie(h:Dr T mx rw dg pl hk ci ft tx rg hu ov fr){ns:List Int}(hl:ns.length<=63)(n:Nat){k m:Nat}(I:k<=1000)(O:1<=m)(hm:m<=10):∃ f:List Nat,Val m f/\ak T (n+4) fr [.lst (LI ns),.int k,.int m]=some (.tup (L f)) :=
 h.Gp hl n I O hm fun f V=>by
  have W:Val m (fZ m f):=by rw[uA V.frm];exact(gG m).val V
  obtain⟨S,_,e⟩:=h.yx (n+1) O hm V.frm W.frm;exact#[_,_,lG hm V W,e]
def Dr.rows(Z:Dr T mx rw dg pl hk ci ft tx rg hu ov fr){fs:Nat}(O:T[fs]?=some (iU fr)){ns:List Int}(hl:ns.length<=63)(n:Nat){k m q:Nat}(U:k<=500)(Y:1<=m)(hm:m<=10)(R:q<=100) :
  ∃ I:List (List Nat),I.length=q/\(∀ f∈I,Val m f)/\ak T (n+5) fs [.lst (LI ns),.int k,.int m,.int q]=some (.lst (I.map fun f=>.tup (L f))) :=
 K1 O n R fun i hi=>Z.Ie hl n (k:=k+i) ⋯ Y hm
end
end RM
namespace RT
open RL
end RT
namespace RM
open RL RT
end RM
namespace RT
open RL
abbrev mT(O I:Nat):Fn :=
 ⟨1,4,[],[],%[.exc (.call I %[0#0|_]),.asg 1 (.call O %[0#0|_]),.ret (.bi .tuple (.compA (.ifx (.cmp .lt 3#0 1#0) 3#0 2#0) [2,3] (.enm (.slT 0#0 1#0))))|_]⟩
abbrev wx(I O:Nat):Fn :=
 ⟨1,1,[],[],%[.ret (.call I %[.call O %[0#0|_]|_])|_]⟩
end RT
namespace RM
open RL RT
abbrev up(n:Nat)(f:List Nat)(p:Nat):Nat:=if at' f p<n then at' f p else p
abbrev upL(n:Nat)(f:List Nat):List Nat:=(List.range n).map (up n f)
section
def iI:(upL n f).length=n:=by simp[upL]
def eY(h:p<n):at' (upL n f) p=up n f p:=by simp[upL,at',h]
def K7(F:Frm n f)(h:p<n):at' (f.take n) p=at' f p:=by
 simp[at',h]
def AF(b:1<=n)(hn:n<=10)(F:Frm n f)(a:cl fc [.tup (L f)]=some .non)(Z:cl fo [.tup (L f)]=some (.int (n:Nat))):evF cl (mT fo fc) [.tup (L f)]=some (.tup (L (upL n f))):=by
 have hl:(f.take n).length=n:=by rw[length_take,F.len];lia
 have U:=lC hl
 have sl:kI (.tup (L f)) (.int (n:Nat))=some (.tup (L (f.take n))):=by
  have c:cutAt (L f).length (n:Nat)=n:=by
   unfold cutAt;rw[if_pos ⋯,Int.toNat_natCast,aL,F.len];lia
  show(if cutAt (L f).length (n:Nat)<(L f).length then some (D.tup ((L f).take (cutAt (L f).length (n:Nat))))else none)=_;rw[c,if_pos (by rw[aL,F.len];lia),AL]
 have O:=jP (F:=fun I=>(ev cl I (.ifx (.cmp .lt 3#0 1#0) 3#0 2#0)).map some) (tg:=[2,3]) (J:=[some (.tup (L f)),some (.int (n:Nat)),none,none]) (h:=pr (f.take n)) (g:=fun p=>.int (up n f p:Nat)) (fun _=>rfl) (List.range n) (by
  intro p R;have R:=List.mem_range.mp R;show(ev cl [some (.tup (L f)),some (.int (n:Nat)),some (.int (p:Nat)),some (.int (at' (f.take n) p:Nat))] (.ifx (.cmp .lt 3#0 1#0) 3#0 2#0)).map some=_;rw[K7 F R];unfold up;by_cases c:at' f p<n
  ·rw[mL (k:=true) (aR (aD (aa rfl) (aa rfl) (by rw[fB];simp;exact c))) (aa rfl),if_pos c];rfl
  ·rw[mL (k:=false) (aR (aD (aa rfl) (aa rfl) (by rw[fB];simp;lia))) (aa rfl),if_neg c]
   rfl)
 rw[<-U]at O
 have Y:(dN 0 (L (f.take n))).length<=most:=by rw[U,length_map,length_range];unfold most;lia
 have e:((List.range n).map fun p=>D.int (up n f p:Nat))=L (upL n f):=by unfold upL L;rw[map_map];rfl
 rw[e]at O;exact aT rfl rfl (js (bO (aa rfl) a) (aE (bO (aa rfl) Z) rfl (aU (aZ (de (oX (Df (aa rfl) (aa rfl) sl) rfl) Y O) rfl) (by unfold bf;rw[show ∀ x:List Nat,(D.tup (L x)).imm=au (L x)from fun _=>rfl,aS];rfl))))
end
section
variable{nu pc pa nb un if' cf po rp ir mv:Nat}
def Ck.upper(C:Ck T nu pc pa nb un if' cf po rp ir mv)(I:T[up']?=some (mT po cf))(n:Nat)(O:1<=k)(hk:k<=10)(V:Val k f):ak T (n+6) up' [.tup (L f)]=some (.tup (L (upL k f))) :=
 (ao I).trans (AF O hk V.frm (C.check n O hk V) (C.half (n+4) V.frm.len))
def Ck.lower(C:Ck T nu pc pa nb un if' cf po rp ir mv)(I:T[up']?=some (mT po cf))(Y:T[cp]?=some (cW pc))(O:T[pl]?=some (iM cp))(R:T[ov]?=some (lM mv pl po cf))(U:T[lw]?=some (wx up' ov))(n:Nat)(Z:1<=k)(hk:k<=10)(V:Val k f):ak T (n+7) lw [.tup (L f)]=some (.tup (L (upL k (bS k (ovr k) (ovr k) f)))) :=
 (ao U).trans (aT rfl rfl (aU (bO (bO (aa rfl) (C.over Y O R n Z hk V)) (C.upper I n Z hk ((gG k).val V))) (by unfold bf;rw[show ∀ x:List Nat,(D.tup (L x)).imm=au (L x)from fun _=>rfl,aS];rfl)))
end
section
def Dk(F:Frm n f)(I:p<n):at' (bS n (ovr n) (ovr n) f) p=if at' f (n+p)<n then at' f (n+p)+n else at' f (n+p)-n:=by
 rw[dS ⋯,ju I,add_comm p n];rfl
end
structure Hf(n:Nat)(h:List Nat):Prop where
 len:h.length=n
 lt:∀ q,q<n->at' h q<n
 inv:∀ q,q<n->at' h (at' h q)=q
 nx:Nx (at' h) n
abbrev fx(n:Nat)(h:List Nat):List Nat:=(List.range n).filter fun q=>decide (at' h q=q)
section
variable{n:Nat}{f h a b:List Nat}
def sM{q:Nat}:q∈fx n h↔q<n/\at' h q=q:=by
 unfold fx;rw[mem_filter,mem_range,decide_eq_true_eq]
def KG:(fx n h).Pairwise (·<·):=by
 exact List.Pairwise.filter _ List.pairwise_lt_range
def eA{k:Nat}(hk:k<(fx n h).length):at' (fx n h) k<n/\at' h (at' (fx n h) k)=at' (fx n h) k:=by
 have e:at' (fx n h) k=(fx n h)[k]:=by simp[at',hk]
 rw[e];exact sM.mp (List.getElem_mem hk)
def DK{k m:Nat}(I:k<m)(hm:m<(fx n h).length):at' (fx n h) k<at' (fx n h) m:=by
 have e:at' (fx n h) k=(fx n h)[k]'⋯:=by simp[at',show k<(fx n h).length by lia]
 have e':at' (fx n h) m=(fx n h)[m]:=by simp[at',hm]
 rw[e,e'];exact List.pairwise_iff_getElem.mp KG k m ⋯ hm I
def oE{q:Nat}(I:q<n)(e:at' h q=q):∃ k,k<(fx n h).length/\at' (fx n h) k=q:=by
 obtain⟨k,hk,O⟩:=QH (sM.mpr ⟨I,e⟩);exact#[k,hk,by simp[at',hk,O]]
def Jp(V:Val n f){p q:Nat}(O:p<n)(I:q<n)(c:at' f p<n):¬ (p<q/\q<at' f p/\(at' f p<at' f q\/n<=at' f q)):=by
 rintro⟨Y,c2,U⟩;have F:=V.frm;have:=V.nox p q ⋯ ⋯;rw[yN F O,yN F I,if_pos c]at this;have R:=F.lt q ⋯;split at this<;>lia
def wG(V:Val n f):Hf n (upL n f):=by
 have F:=V.frm
 have hi:∀ q,q<n->at' f q<n->up n f q=at' f q:=fun q _ c=>by unfold up;rw[if_pos c]
 have lo:∀ q,¬ at' f q<n->up n f q=q:=fun q c=>by unfold up;rw[if_neg c]
 have lt:∀ q,q<n->up n f q<n:=fun q I=>by
  by_cases c:at' f q<n
  ·rw[hi q I c];exact c
  ·rw[lo q c];exact I
 refine#[iI,fun q I=>by rw[eY I];exact lt q I,fun q I=>?_,fun q q' U O R=>?_]
 ·rw[eY I,eY (lt q I)];by_cases c:at' f q<n
  ·rw[hi q I c];unfold up;rw[F.inv,if_pos I]
  ·rw[lo q c,lo q c]
 ·by_cases I:q<n
  ·rw[eY I]at O R ⊢;rw[eY (show q'<n by lia)];by_cases c:at' f q<n
   ·rw[hi q I c]at O R ⊢;have x:=Jp V I (show q'<n by lia) c;by_cases d:at' f q'<n
    ·rw[hi q' ⋯ d];have:=F.no q' ⋯;lia
    ·lia
   ·rw[lo q c]at O;lia
  ·rw[gZ (by rw[iI];omega)]at O;lia
structure Jn(n:Nat)(a b QK:List Nat):Prop where
 len:QK.length=2*n
 thr:∀ k,k<(fx n a).length->at' QK (at' (fx n a) k)=n+at' (fx n b) k/\at' QK (n+at' (fx n b) k)=at' (fx n a) k
 hi:∀ p,p<n->at' a p≠p->at' QK p=at' a p
 lo:∀ p,p<n->at' b p≠p->at' QK (n+p)=n+at' b p
def Jn.frm{QK:List Nat}(A:Hf n a)(B:Hf n b)(t:(fx n a).length=(fx n b).length)(j:Jn n a b QK):Frm n QK:=by
 have U:∀ x,x<2*n->(∃ k,k<(fx n a).length/\x=at' (fx n a) k)\/(x<n/\at' a x≠x)\/(∃ k,k<(fx n a).length/\x=n+at' (fx n b) k)\/∃ p,p<n/\at' b p≠p/\x=n+p:=fun x Y=>by
  by_cases c:x<n
  ·by_cases d:at' a x=x
   ·obtain⟨k,O,I⟩:=oE c d;exact .inl #[k,O,I.symm]
   ·exact .inr (.inl #[c,d])
  ·by_cases d:at' b (x-n)=x-n
   ·obtain⟨k,O,I⟩:=oE (show x-n<n by lia) d;exact .inr (.inr (.inl #[k,by lia,by lia]))
   ·exact .inr (.inr (.inr #[x-n,by lia,d,by lia]))
 refine#[j.len,fun x Y=>?_,fun x=>?_,fun x Y=>?_]
 ·rcases U x Y with⟨k,hk,rfl⟩ | ⟨O,I⟩ | ⟨k,hk,rfl⟩ | ⟨p,R,I,rfl⟩
  ·rw[(j.thr k hk).1];have:=(eA (h:=b) (n:=n) (k:=k) ⋯).1;lia
  ·rw[j.hi x O I];have:=A.lt x O;lia
  ·rw[(j.thr k hk).2];have:=(eA (h:=a) (n:=n) hk).1;lia
  ·rw[j.lo p R I];have:=B.lt p R;lia
 ·by_cases Y:x<2*n
  ·rcases U x Y with⟨k,hk,rfl⟩ | ⟨O,I⟩ | ⟨k,hk,rfl⟩ | ⟨p,R,I,rfl⟩
   ·rw[(j.thr k hk).1,(j.thr k hk).2]
   ·rw[j.hi x O I,j.hi _ (A.lt x O) (fun z=>I (by rw[A.inv x O]at z;exact z.symm)),A.inv x O]
   ·rw[(j.thr k hk).2,(j.thr k hk).1]
   ·rw[j.lo p R I,j.lo _ (B.lt p R) (fun z=>I (by rw[B.inv p R]at z;exact z.symm)),B.inv p R]
  ·rw[gZ (x:=x) (by rw[j.len];lia),gZ (by rw[j.len];lia)]
 ·rcases U x Y with⟨k,hk,rfl⟩ | ⟨O,I⟩ | ⟨k,hk,rfl⟩ | ⟨p,R,I,rfl⟩
  ·rw[(j.thr k hk).1];have:=(eA (h:=a) (n:=n) hk).1;lia
  ·rw[j.hi x O I];exact I
  ·rw[(j.thr k hk).2];have:=(eA (h:=a) (n:=n) hk).1;lia
  ·rw[j.lo p R I];lia
def Jn.up{QK:List Nat}(A:Hf n a)(t:(fx n a).length=(fx n b).length)(j:Jn n a b QK):upL n QK=a:=by
 refine kc iI A.len fun p I=>?_;rw[eY I];unfold RM.up;by_cases c:at' a p=p
 ·obtain⟨k,R,O⟩:=oE I c;have:=(j.thr k R).1;rw[O]at this;rw[this,if_neg ⋯,c]
 ·rw[j.hi p I c,if_pos (A.lt p I)]
def Jn.dn{QK:List Nat}(A:Hf n a)(B:Hf n b)(t:(fx n a).length=(fx n b).length)(j:Jn n a b QK):upL n (bS n (ovr n) (ovr n) QK)=b:=by
 refine kc iI B.len fun p I=>?_;rw[eY I];unfold RM.up;rw[Dk (j.frm A B t) I];by_cases c:at' b p=p
 ·obtain⟨k,R,O⟩:=oE I c;have e:=(j.thr k ⋯).2;rw[O]at e;have:=(eA (h:=a) (n:=n) (k:=k) ⋯).1;rw[e,if_pos this,if_neg ⋯,c]
 ·have:=B.lt p I
  have e:(if at' QK (n+p)<n then at' QK (n+p)+n else at' QK (n+p)-n)=at' b p:=by
   rw[j.lo p I c,if_neg ⋯];lia
  rw[e,if_pos this]
end
end RM
namespace RT
open RL
abbrev jm(I:Nat):Fn :=
 ⟨1,1,[],[],%[.ife (.not (.call I %[0#0|_])) %[.rais "BadHalf" .nil|_] .nil|_]⟩
abbrev cB(I:Nat):Fn :=
 ⟨2,2,[],[],%[.exc (.call I %[0#0|_]),.exc (.call I %[1#0|_]),.ife (.cmp .ne (.bi .len 0#0) (.bi .len 1#0)) %[.rais "BadPegs" .nil|_] .nil|_]⟩
abbrev qr:Fn :=
 ⟨1,3,[],[],%[.ret (.comp 1#0 [1,2] (.enm 0#0) (.cmp .eq 1#0 2#0))|_]⟩
end RT
namespace RM
open RL RT
section
variable{cl:Cl}{n:Nat}{h a b:List Nat}
def zP(hn:n<=10)(hl:h.length=n):evF cl qr [.tup (L h)]=some (.lst (L (fx n h))):=by
 have R:=lC hl
 have O:=sU (F:=fun I=>((ev cl I (.cmp .eq 1#0 2#0)).bind truth).bind fun k=>if k then(ev cl I 1#0).map some else some none) (tg:=[1,2]) (J:=[some (.tup (L h)),none,none]) (h:=pr h) (c:=fun p=>decide (at' h p=p)) (fun _=>rfl) (List.range n) (by
  intro p U;show((ev cl [some (.tup (L h)),some (.int (p:Nat)),some (.int (at' h p:Nat))] (.cmp .eq 1#0 2#0)).bind truth).bind (fun k=>if k then(ev cl [some (.tup (L h)),some (.int (p:Nat)),some (.int (at' h p:Nat))] 1#0).map some else some none)=_
  have q:bc .eq (.int p) (.int (at' h p:Nat))=some (decide (at' h p=p)):=by
   rw[dF];congr 1;lia
  rw[aR (aD (aa rfl) (aa rfl) q),Option.bind_some,aa rfl]
  split<;>rfl)
 rw[<-R]at O;exact aT rfl rfl (aU (lR (oX (aa rfl) rfl) (by rw[R,length_map,length_range];unfold most;lia) O) (by unfold bf;rw[show aG (.lst (L (fx n h)))=true from aS _];rfl))
def yk(H:Hf n h):(List.range (h.map Int.ofNat).length).all (nb (h.map Int.ofNat))=true:=oK H.len H.lt H.inv
def vD{I fp O:Nat}(Z:1<=n)(hn:n<=10)(H:Hf n h)(Y:∀ i:Int,cl O [.int i]=some (.bl (decide (1<=i/\i<=10))))(U:cl fp [.tup (L h)]=some (.bl true))(hu:cl I [.tup (L h)]=some (.bl true)):evF cl (lF I fp O) [.tup (L h)]=some (.bl true):=by
 have R:biV .len (.tup (L h))=some (.int n):=by
  show some (D.int ((L h).length:Nat))=_;rw[aL,H.len]
 have c:=Y n;rw[decide_eq_true ⋯]at c;exact aT rfl rfl (aU (cM (bO (aZ (aa rfl) R) c) (cM (bO (aa rfl) U) (bO (aa rfl) hu))) rfl)
def vN:∀ (xs ys:List Nat),xs.length=ys.length->fw (L xs) (L ys)=(List.range xs.length).map fun k=>.tup [.int (at' xs k:Nat),.int (at' ys k:Nat)]
 | [],[],_=>rfl
 | x::r,y::s,e=>by
  rw[show L (x::r)=.int x::L r from rfl,show L (y::s)=.int y::L s from rfl,fw,vN r s (by simpa using e),length_cons,range_succ_eq_map,map_cons,map_map];congr 1;apply QD;intro p I;have R:=List.mem_range.mp I
  have O:p<s.length:=by
   have:r.length=s.length:=by simpa using e
   lia
  have Y:at' (x::r) (p+1)=at' r p:=by simp[at',R]
  have U:at' (y::s) (p+1)=at' s p:=by simp[at',O]
  simp[Y,U]
end
end RM
namespace RL
open PySem (Str)
abbrev Rx(cl:Cl)(J:St)(e:E)(c:Str):Prop:=ev cl J e=none/\evX cl J e=some c
abbrev Rr(cl:Cl)(M:List Nat)(b:Ss)(J:St)(c:Str)(I:St):Prop:=af cl M b J=none/\bY cl M b J=some (c,I)
abbrev Rc(cl:Cl)(f:Nat)(ds:List D)(c:Str):Prop:=cl f ds=none/\cl (f+1000) ds=some (.str c)
section
def LW(h:evS cl M s J=some (.nx,QN))(k:Rr cl M r QN c QM):Rr cl M (.cons s r) J c QM:=by
 refine#[?_,?_]
 ·rw[af,h];exact k.1
 ·rw[bY,h];exact k.2
def sP(h:evS cl M s J=none)(k:qS cl M s J=some (c,QM)):Rr cl M (.cons s r) J c QM:=by
 refine#[?_,?_]
 ·rw[af,h];rfl
 ·rw[bY,h];exact k
def Ap(h:evs cl J ps=some ds)(w:ds.all written=true):Rr cl M (.cons (.rais c ps) r) J c J:=sP (by rw[Gr]) (by show(evs cl J ps).bind _=_;rw[h,Option.bind_some,if_pos w])
def sD(h:Rx cl J e c):Rr cl M (.cons (.exc e) r) J c J:=sP (by rw[mD,h.1];rfl) (by show(evX cl J e).map _=_;rw[h.2];rfl)
def DF(h:(ev cl J t).bind truth=some true)(k:Rr cl M a J c QM):Rr cl M (.cons (.ife t a b) r) J c QM:=sP (by rw[gK,h];exact k.1) (by show((ev cl J t).bind truth).bind _=_;rw[h];exact k.2)
def CD(h:ev cl J e=some d)(k:Rr cl M r J c QM):Rr cl M (.cons (.exc e) r) J c QM:=LW (by rw[mD,h];rfl) k
def zr(h:evs cl J es=some ds)(k:Rc cl f ds c):Rx cl J (.call f es) c:=by
 refine#[?_,?_]
 ·rw[cX,h];exact k.1
 ·show(match evs cl J es with | some ds=>clX cl f ds | none=>uH cl J es)=_;rw[h];show clX cl f ds=_;unfold clX;rw[k.2];rfl
def IP(h:ev cl J e=some d)(k:Rc cl f [d] c):Rx cl J (.call f %[e|_]) c:=zr (aA h bo) k
def Gb(h:ev cl J e=some d)(h':ev cl J e'=some d')(k:Rc cl f [d,d'] c):Rx cl J (.call f %[e,e'|_]) c:=zr (aA h (aA h' bo)) k
def EH(I:Rr cl M b J n QN)(O:i8 n c=true)(R:af cl M h (QN.set i (some (.exc n)))=some (.nx,QO))(k:af cl M r (QO.set i none)=res):af cl M (.cons (.tryc b c i h) r) J=res:=dO (by
 rw[zY,I.1];show(bY cl M b J).bind _=_;rw[I.2,Option.bind_some,if_pos O,R]
 rfl) k
end
def pP(h:T[f]?=some fn)(hT:T.length<=1000)(hl:ds.length=fn.ps)(hm:fn.mp=[])(k:Rr (ak T n) fn.M fn.body (ds.map some++replicate (fn.nn-fn.ps) none) c QM):Rc (ak T (n+1)) f ds c:=by
 refine#[?_,?_]
 ·rw[ak,h];show(if ds.length=fn.ps then _ else none)=none;rw[if_pos hl,k.1];rfl
 ·rw[ak,QI (by omega)];show(T[f+1000-1000]?).bind _=_;rw[Nat.add_sub_cancel,h,Option.bind_some,if_pos ⟨hl,hm⟩,k.2];rfl
end RL
namespace RT
open RL
abbrev ma:Fn :=
 ⟨1,5,[1],[],%[.own 1 (.lst %[.isx 0#0 "BadPegs",.isx 0#0 "BadFrame",.isx 0#0 "BadHalf",.isx 0#0 "BadHook"|_]),.own 1 (.bin .add 1#0 (.lst %[.isx 0#0 "BadName",.isx 0#0 "NoNumber",.isx 0#0 "NoFrame",.isx 0#0 "NoStack"|_])),.own 1 (.bin .add 1#0 (.lst %[.isx 0#0 "NoPlace",.isx 0#0 "Taken",.isx 0#0 "Full",.isx 0#0 "NothingThere"|_])),.own 1 (.bin .add 1#0 (.lst %[.isx 0#0 "BadTrade",.isx 0#0 "Hangs",.isx 0#0 "BadPage"|_])),.app 1 (.not (.isx 0#0 "ValueError")),.asg 2 (.lst %[.cst (.str "BadPegs"),.cst (.str "BadFrame"),.cst (.str "BadHalf"),.cst (.str "BadHook"),.cst (.str "BadName"),.cst (.str "NoNumber"),.cst (.str "NoFrame"),.cst (.str "NoStack"),.cst (.str "NoPlace")|_]),.asg 2 (.bin .add 2#0 (.lst %[.cst (.str "Taken"),.cst (.str "Full"),.cst (.str "NothingThere"),.cst (.str "BadTrade"),.cst (.str "Hangs"),.cst (.str "BadPage"),.cst (.str "odd")|_])),.ret (.join (.comp 3#0 [3,4] (.zip 2#0 1#0) 4#0))|_]⟩
end RT
namespace RM
open RL RT
def GO(h:c∈(["BadPegs", "BadFrame", "BadHalf", "BadHook", "BadName", "NoNumber", "NoFrame", "NoStack"]:List PySem.Str)):evF cl ma [.exc c]=some (.str c):=by
 simp only[mem_cons,List.not_mem_nil,or_false]at h;rcases h with rfl | rfl | rfl | rfl | rfl | rfl | rfl | rfl<;>rfl
end RM
namespace RT
open RL
end RT
namespace RM
open RL RT
section
variable{cl:Cl}
def GF{M:List Nat}{e:E}(i:Int):aX M e (.int i)=true:=rfl
end
def yL{M:List Nat}{e:E}(xs:List Nat):aX M e (.tup (L xs))=true:=by
 unfold aX;rw[show(D.tup (L xs)).imm=true from aS xs];rfl
def yD{M:List Nat}{e:E}(xs:List Nat):bf M e (.tup (L xs))=true:=by
 unfold bf;rw[show(D.tup (L xs)).imm=true from aS xs];rfl
section
variable{cl:Cl}{n:Nat}{f h:List Nat}
def l4(hn:n<=10)(F:Frm n f):evF cl gY [.tup (L f)]=some (.tup (L (upL n f))):=by
 have U:=half (by rw[aL,F.len])
 have R:=jP (F:=fun I=>(ev cl I (.ix (.lst (.cons (.ix 0#0 2#0) (.cons 2#0 .nil))) (.bi .int (.cmp .ge (.ix 0#0 2#0) 1#0)))).map some) (tg:=[2]) (J:=[some (.tup (L f)),some (.int n),none]) (g:=fun p=>.int (up n f p:Nat)) (fun _=>rfl) (List.range n) (by
  intro p O;have O:=List.mem_range.mp O;have ix:ixV (.tup (L f)) (.int (p:Nat))=some (.int (at' f p:Nat)):=cC (by rw[F.len];lia);show(ev cl [some (.tup (L f)),some (.int (n:Nat)),some (.int (p:Nat))] (.ix (.lst %[.ix 0#0 2#0,2#0|_]) (.bi .int (.cmp .ge (.ix 0#0 2#0) 1#0)))).map some=_;unfold up;by_cases c:at' f p<n
  ·rw[if_pos c,bj (dM (aA (bj (aa rfl) (aa rfl) ix) (aA (aa rfl) bo))) (aZ (aD (bj (aa rfl) (aa rfl) ix) (aa rfl) (by rw[kB,Qh ⋯])) rfl) (show ixV (.lst [.int (at' f p:Nat),.int p]) (.int 0)=some (.int (at' f p:Nat))from rfl)];rfl
  ·rw[if_neg c,bj (dM (aA (bj (aa rfl) (aa rfl) ix) (aA (aa rfl) bo))) (aZ (aD (bj (aa rfl) (aa rfl) ix) (aa rfl) (by rw[kB,decide_eq_true ⋯])) rfl) (show ixV (.lst [.int (at' f p:Nat),.int p]) (.int 1)=some (.int p)from rfl)]
   rfl)
 refine aT rfl rfl (aE (az (aZ (aa rfl) U) aq (by rw[mw ∅ ∅,show(2*(n:Int)) / 2=n by lia])) (GF _) (aU (aZ (de (eF (aa rfl) (bM ⋯)) (by rw[aL,length_range];unfold most;lia) R) ?_) (yD _)));unfold upL L;rw[map_map];rfl
end
end RM
namespace RT
open RL
abbrev iz:Ss :=
 %[.put 3 6#0 (.bin .add 2#0 7#0),.put 3 (.bin .add 2#0 7#0) 6#0|_]
abbrev gh:Fn :=
 ⟨2,10,[3],[],%[.asg 2 (.bi .len 0#0),.own 3 (.bin .add (.bi .list 0#0) (.compA (.bin .add 2#0 9#0) [9] (.seq 1#0))),.asg 4 (.comp 8#0 [8] (.rng1 2#0) (.cmp .eq (.ix 0#0 8#0) 8#0)),.asg 5 (.comp 8#0 [8] (.rng1 2#0) (.cmp .eq (.ix 1#0 8#0) 8#0)),.forr [6,7] (.zip 4#0 5#0) (iz),.ret (.bi .tuple 3#0)|_]⟩
end RT
namespace RM
open RL RT
abbrev jst(n:Nat)(a b:List Nat)(QK:List Nat)(k:Nat):List Nat:=(QK.set (at' (fx n a) k) (n+at' (fx n b) k)).set (n+at' (fx n b) k) (at' (fx n a) k)
abbrev jnL(n:Nat)(a b:List Nat):List Nat:=(List.range (fx n a).length).foldl (jst n a b) (a++b.map fun x=>n+x)
section
variable{cl:Cl}{n:Nat}{a b:List Nat}
def DZ(u:List Nat):∀ QK:List Nat,(u.foldl (jst n a b) QK).length=QK.length:=by
 induction u with
 | nil=>intro QK;rfl
 | cons k r I=>intro QK;rw[foldl_cons,I];unfold jst;rw[Qz,Qz]
def JS(h:List Nat):(fx n h).length<=n:=by
 exact Qn (List.length_filter_le _ _) (le_of_eq length_range)
def IC(xs:List Nat):biV .len (.tup (L xs))=some (.int (xs.length:Nat)):=by
 show some (D.int ((L xs).length:Nat))=_;rw[aL]
def Mj(xs:List Nat):biV .len (.lst (L xs))=some (.int (xs.length:Nat)):=by
 show some (D.int ((L xs).length:Nat))=_;rw[aL]
def sj(x y:Nat):bc .eq (.int (x:Nat)) (.int (y:Nat))=some (decide (x=y)):=by
 rw[dF];congr 1;rw[QG,beq_iff_eq,decide_eq_true_eq];exact Int.ofNat_inj
def kf(x y:Nat):aF .add (.int (x:Nat)) (.int (y:Nat))=some (.int ((x+y:Nat):Int)):=rfl
def AU(hn:n<=10)(A:a.length=n)(B:b.length=n):aF .add (.lst (L a)) (.lst (L (b.map fun x=>n+x)))=some (.lst (L (a++b.map fun x=>n+x))):=by
 show(if(L a).length+(L (b.map fun x=>n+x)).length<=most then some (D.lst (L a++L (b.map fun x=>n+x)))else none)=_;rw[aL,aL,length_map,A,B,if_pos (by unfold most;lia),dz]
def zK(b:List Nat):(b.map fun x=>D.int ((n+x:Nat):Int))=L (b.map fun x=>n+x):=by unfold L;rw[map_map];rfl
def jW(hn:n<=10)(A:Hf n a)(B:Hf n b)(t:(fx n a).length=(fx n b).length):evF cl gh [.tup (L a),.tup (L b)]=some (.tup (L (jnL n a b))):=by
 have o:=IC a;rw[A.len]at o
 have l:=ky (F:=fun I=>(ev cl I (.bin .add 2#0 9#0)).map some) (tg:=[9]) (J:=[some (.tup (L a)),some (.tup (L b)),some (.int (n:Nat)),none,none,none,none,none,none,none]) (g:=fun x=>.int ((n+x:Nat):Int)) (fun _=>rfl) b (by
  intro x _;show(ev cl [some (.tup (L a)),some (.tup (L b)),some (.int (n:Nat)),none,none,none,none,none,none,some (.int (x:Nat))] (.bin .add 2#0 9#0)).map some=_
  rfl)
 rw[zK]at l
 have O:∀ (i:Nat) (h:List Nat) (U R:Option D) (QK:D),(∀ C,(([some (.tup (L a)),some (.tup (L b)),some (.int (n:Nat)),some QK,U,R,none,none,C,none]:St)[i]?).bind id=some (.tup (L h)))->h.length=n ->
   bX (fun I=>((ev cl I (.cmp .eq (.ix (.var i) 8#0) 8#0)).bind truth).bind fun k=>if k then(ev cl I 8#0).map some else some none) [8] [some (.tup (L a)),some (.tup (L b)),some (.int (n:Nat)),some QK,U,R,none,none,none,none] (L (List.range n))=some (L (fx n h)):=fun i h U R QK hi hl =>
  kj (g:=fun x=>.int (x:Nat)) (c:=fun q=>decide (at' h q=q)) (fun _=>rfl) (List.range n) (by
   intro x r;have r:=List.mem_range.mp r;show((ev cl [some (.tup (L a)),some (.tup (L b)),some (.int (n:Nat)),some QK,U,R,none,none,some (.int (x:Nat)),none] (.cmp .eq (.ix (.var i) 8#0) 8#0)).bind truth).bind _=_;rw[aR (aD (bj (aa (hi _)) (aa rfl) (cC ⋯)) (aa rfl) (sj _ _)),Option.bind_some];rw[aa rfl]
   split<;>rfl)
 obtain⟨w,e,Z,Y,rfl⟩:=sX (f:=af cl [3] iz) (tg:=[6,7]) (fun k=>.tup [.int (at' (fx n a) k:Nat),.int (at' (fx n b) k:Nat)]) (fun _=>rfl)
  (fun u J=>∃ (Z Y:Option D),J=[some (.tup (L a)),some (.tup (L b)),some (.int (n:Nat)),some (.lst (L (u.foldl (jst n a b) (a++b.map fun x=>n+x)))),some (.lst (L (fx n a))),some (.lst (L (fx n b))),Z,Y,none,none])
  (List.range (fx n a).length) [] [some (.tup (L a)),some (.tup (L b)),some (.int (n:Nat)),some (.lst (L (a++b.map fun x=>n+x))),some (.lst (L (fx n a))),some (.lst (L (fx n b))),none,none,none,none] (by
   rintro u p v J hu ⟨Z,Y,rfl⟩;obtain⟨hk,s⟩:=dU (g:=id) (by simpa using hu);simp only[id]at s;subst s;have H:=(eA (n:=n) (h:=a) hk).1;have G:=(eA (n:=n) (h:=b) (k:=u.length) ⋯).1;have E:=DZ (n:=n) (a:=a) (b:=b) u (a++b.map fun x=>n+x);rw[length_append,length_map,A.len,B.len]at E;rw[List.foldl_append];generalize u.foldl (jst n a b) (a++b.map fun x=>n+x)=QK at *;have z:eS (.lst (L QK)) (.int (at' (fx n a) u.length:Nat)) (.int ((n+at' (fx n b) u.length:Nat):Int))=some (.lst (L (QK.set (at' (fx n a) u.length) (n+at' (fx n b) u.length)))):=gf ⋯;have y:eS (.lst (L (QK.set (at' (fx n a) u.length) (n+at' (fx n b) u.length)))) (.int ((n+at' (fx n b) u.length:Nat):Int)) (.int (at' (fx n a) u.length:Nat))=some (.lst (L (jst n a b QK u.length))):=gf (by rw[Qz];lia)
   exact#[_,show af cl [3] iz [some (.tup (L a)),some (.tup (L b)),some (.int (n:Nat)),some (.lst (L QK)),some (.lst (L (fx n a))),some (.lst (L (fx n b))),some (.int (at' (fx n a) u.length:Nat)),some (.int (at' (fx n b) u.length:Nat)),none,none]=some (.nx,_)from iV (az (aa rfl) (aa rfl) (kf _ _)) (aa rfl) rfl rfl z (iV (aa rfl) (az (aa rfl) (aa rfl) (kf _ _)) rfl rfl y aH),some (.int (at' (fx n a) u.length:Nat)),some (.int (at' (fx n b) u.length:Nat)),rfl])
  ⟨none,none,rfl⟩
 rw[<-vN _ _ t]at e;have j:cb (.int 0) (.int (n:Nat))=some (L (List.range n)):=bM ⋯
 have m:(L (List.range n)).length<=most:=by rw[aL,length_range];unfold most;lia
 have d:∀ xs:List Nat,aG (.lst (L xs))=true:=fun xs=>aS xs
 exact aT rfl rfl (aE (aZ (aa rfl) o) rfl
  (ip (az (aZ (aa rfl) rfl) (de (eg (aa rfl) rfl) (by rw[aL,B.len];unfold most;lia) l) (AU hn A.len B.len)) (by rw[d];rfl)
  (aE (lR (eF (aa rfl) j) m (O 0 a none none _ (fun _=>rfl) A.len)) (by unfold aX;rw[d];rfl)
  (aE (lR (eF (aa rfl) j) m (O 1 b _ none _ (fun _=>rfl) B.len)) (by unfold aX;rw[d];rfl)
  (cY (CW (aa rfl) (aa rfl) rfl rfl (by rw[aL,aL,t])) e (aU (aZ (aa rfl) rfl) (by unfold bf;rw[show(D.tup (L (jnL n a b))).imm=true from aS _];rfl)))))))
end
end RM
namespace RM
abbrev cI(n:Nat)(h:List Nat)(m:Nat):Nat:=if n<=at' h (n+m)then at' h (n+m)-n else m
abbrev upF(n:Nat)(l:List Nat)(m:Nat):Nat:=if at' l m<n then at' l m else m
abbrev ctF(n:Nat)(a b:Nat->Nat):Nat:=((List.range n).filter fun m=>@decide (a m=m/\∃ y,y<n/\b y=y/\Cn a b m y) (Classical.propDecidable _)).length
section
def kY{n:Nat}{a b:Nat->Nat}(T:Two n a b)(R:x<n)(Y:a x=x)(st:Stp a b x k)(I:∀ j,j<k->¬ Stp a b x j)(O:b y=y)(c:Cn a b x y):y=wk a b x k:=by
 obtain⟨i,hi,e⟩:=jV T R st I (.inl Y) c;by_cases U:i=k
 ·rw[<-U,e]
 ·exfalso;rcases Nat.mod_two_eq_zero_or_one i with h | h
  ·exact I i ⋯ (.inl (by rw[d8 h,e,O]))
  ·obtain⟨j,rfl⟩:∃ j,i=j+1:=#[i-1,by lia]
   have q:wk a b x (j+1)=b (wk a b x j):=d8 ⋯
   have:b (wk a b x (j+1))=wk a b x j:=by rw[q];exact T.bi _ (eO T R j)
   rw[e,O]at this;exact I j ⋯ (.inl (by rw[e];exact this))
def oS{n:Nat}{a b:Nat->Nat}(T:Two n a b)(I:x<n)(R:a x=x)(st:Stp a b x k)(O:∀ j,j<k->¬ Stp a b x j):b (wk a b x k)=wk a b x k↔∃ y,y<n/\b y=y/\Cn a b x y :=
 ⟨fun h=>#[_,eO T I k,h,jz k],fun⟨y,_,h,c⟩=>by rw[<-kY T I R st O h c];exact h⟩
def yd{n:Nat}{a b:Nat->Nat}(T:Two n a b)(I:x<n)(R:a x=x)(Y:b y=y)(U:b z=z)(c:Cn a b x y)(d:Cn a b x z):y=z:=by
 obtain⟨k,_,st,O⟩:=fC T I;rw[kY T I R st O Y c,kY T I R st O U d]
def uG{n:Nat}{a b:Nat->Nat}(T:Two n a b):ctF n a b<=ctF n b a:=by
 unfold ctF
 have:∀ m,∃ y,(m<n/\a m=m/\∃ y,y<n/\b y=y/\Cn a b m y)->y<n/\b y=y/\Cn a b m y:=fun m=>by
  by_cases h:m<n/\a m=m/\∃ y,y<n/\b y=y/\Cn a b m y
  ·obtain⟨y,U⟩:=h.2.2;exact#[y,fun _=>U]
  ·exact#[0,fun z=>absurd z h]
 obtain⟨g,hg⟩:=Classical.axiomOfChoice this
 have mem:∀ m,m∈((List.range n).filter fun m=>@decide (a m=m/\∃ y,y<n/\b y=y/\Cn a b m y) (Classical.propDecidable _))->m<n/\a m=m/\∃ y,y<n/\b y=y/\Cn a b m y:=fun m hm=>by
  obtain⟨O,I⟩:=List.mem_filter.mp hm;exact#[List.mem_range.mp O,by simpa using I]
 have nd:(((List.range n).filter fun m=>@decide (a m=m/\∃ y,y<n/\b y=y/\Cn a b m y) (Classical.propDecidable _)).map g).Nodup:=by
  k_in;refine List.Pairwise.imp_of_mem ?_ (List.Pairwise.filter _ (List.nodup_iff_pairwise_ne.mp nodup_range));intro s t Y d hn e;have ms:=mem s Y;have R:=mem t d;obtain⟨O,I,Z⟩:=hg s ms;obtain⟨i,f,c⟩:=hg t R;rw[<-e]at c;exact hn (yd T.swap O I ms.2.1 R.2.1 (Z.symm T ms.1).flip (c.symm T R.1).flip)
 have:=cG nd (b:=(List.range n).filter fun m=>@decide (b m=m/\∃ y,y<n/\a y=y/\Cn b a m y) (Classical.propDecidable _)) fun y U=>by
  obtain⟨s,Y,rfl⟩:=List.mem_map.mp U;have ms:=mem s Y;obtain⟨O,I,Z⟩:=hg s ms;exact List.mem_filter.mpr ⟨List.mem_range.mpr O,by simpa using⟨I,s,ms.1,ms.2.1,(Z.symm T ms.1).flip⟩⟩
 simpa using this
def yq{n:Nat}{a b:Nat->Nat}(T:Two n a b):ctF n a b=ctF n b a:=le_antisymm (uG T) (uG T.swap)
def rV(R:cN n a b S):cN n b a S where
 lt:=R.lt
 nd:=R.nd.imp fun h c=>h c.flip
 ring:=fun s Y y c=>(R.ring s Y y c.flip).symm
 all:=fun x U=>by
  rcases R.all x U with⟨s,O,I,Z⟩ | ⟨s,O,I⟩
  ·exact .inl #[s,O,I.symm,Z.flip]
  ·exact .inr #[s,O,I.flip]
def et(h:n<=at' f (n+m)):cI n f m=at' f (n+m)-n:=if_pos h
def fK(h:¬ n<=at' f (n+m)):cI n f m=m:=if_neg h
def gu(h:at' f m<n):upF n f m=at' f m:=if_pos h
def kE(h:¬ at' f m<n):upF n f m=m:=if_neg h
def nO(F:Frm n h)(G:Frm n l):Two n (cI n h) (upF n l) where
 al:=fun x I=>by
  have:=F.lt (n+x) ⋯;unfold cI;split<;>lia
 bl:=fun x I=>by
  unfold upF;split<;>lia
 ai:=fun x I=>by
  by_cases c:n<=at' h (n+x)
  ·rw[et c]
   have e:n+(at' h (n+x)-n)=at' h (n+x):=by lia
   rw[et (by rw[e,F.inv];lia),e,F.inv];lia
  ·rw[fK c,fK c]
 bi:=fun x I=>by
  by_cases c:at' l x<n
  ·rw[gu c,gu (by rw[G.inv];exact I),G.inv]
  ·rw[kE c,kE c]
def pH(F:Frm n h)(hm:m<n)(e:cI n h m=m):at' h (n+m)<n:=by
 by_cases c:n<=at' h (n+m)
 ·rw[et c]at e;exact absurd (show at' h (n+m)=n+m by lia) (F.no _ ⋯)
 ·lia
def rK(G:Frm n l)(hm:m<n)(e:upF n l m=m):n<=at' l m:=by
 by_cases c:at' l m<n
 ·rw[gu c]at e;exact absurd e (G.no _ ⋯)
 ·lia
def fF(h:x<2*n):rb n u l x=at' u x:=if_pos h
def gE(h:¬ x<2*n):rb n u l x=2*n+at' l (x-2*n):=if_neg h
def nI(F:Frm n h)(G:Frm n l)(O:x<n)(c:Cn (cI n h) (upF n l) x y):Cn (jn n) (rb n h l) (n+x) (n+y):=by
 have T:=nO F G
 induction c with
 | refl=>exact .refl
 |@sa y c ih=>
  have I:=c.lt T O;by_cases q:n<=at' h (n+y)
  ·have:=Cn.sb ih;rw[fF ⋯]at this;rw[et q,show n+(at' h (n+y)-n)=at' h (n+y) by lia];exact this
  ·rw[fK q];exact ih
 |@sb y c ih=>
  have I:=c.lt T O;by_cases q:at' l y<n
  ·have:=Cn.sa (Cn.sb (Cn.sa ih));rw[gm I,gE ⋯,show 2*n+y-2*n=y by lia,kQ q]at this;rw[gu q];exact this
  ·rw[kE q];exact ih
def uO(F:Frm n h)(G:Frm n l)(Y:x<n)(c:Cn (jn n) (rb n h l) (n+x) z):∃ y,y<n/\Cn (cI n h) (upF n l) x y/\(z=n+y\/z=2*n+y\/(z<n/\cI n h y=y/\at' h z=n+y)\/(3*n<=z/\z<4*n/\upF n l y=y/\at' l (z-2*n)=y)):=by
 have T:=nO F G
 induction c with
 | refl=>exact#[x,Y,.refl,.inl rfl]
 |@sa z c ih=>
  obtain⟨y,I,d,e⟩:=ih;refine#[y,I,d,?_]
  rcases e with rfl | rfl | ⟨e,R,O⟩ | ⟨e,U,R,O⟩
  ·rw[gm I];exact .inr (.inl rfl)
  ·rw[kQ I];exact .inl rfl
  ·rw[show jn n z=z by unfold jn;rw[if_pos e]];exact .inr (.inr (.inl #[e,R,O]))
  ·rw[show jn n z=z by unfold jn;rw[if_neg ⋯,if_neg ⋯,if_neg ⋯]];exact .inr (.inr (.inr #[e,U,R,O]))
 |@sb z c ih=>
  obtain⟨y,I,d,e⟩:=ih
  rcases e with rfl | rfl | ⟨e,R,O⟩ | ⟨e,U,R,O⟩
  ·have lt:=F.lt (n+y) ⋯;rw[fF ⋯];by_cases q:n<=at' h (n+y)
   ·exact#[cI n h y,T.al y I,.sa d,.inl (by rw[et q];lia)]
   ·exact#[y,I,d,.inr (.inr (.inl #[by lia,fK q,F.inv _]))]
  ·have lt:=G.lt y ⋯;rw[gE ⋯,show 2*n+y-2*n=y by lia];by_cases q:at' l y<n
   ·exact#[upF n l y,T.bl y I,.sb d,.inr (.inl (by rw[gu q]))]
   ·exact#[y,I,d,.inr (.inr (.inr #[by lia,by lia,kE q,by rw[show 2*n+at' l y-2*n=at' l y by lia];exact G.inv _]))]
  ·rw[fF ⋯,O];exact#[y,I,d,.inl rfl]
  ·rw[gE ⋯,O];exact#[y,I,d,.inr (.inl rfl)]
def l5(F:Frm n h)(G:Frm n l)(R:cN n (cI n h) (upF n l) S):cN (4*n) (jn n) (rb n h l) (S.map (n+·)):=by
 have g:=two F G
 have dn:∀ s∈S,∀ z,Cn (jn n) (rb n h l) (n+s) z->∃ y,y<n/\Cn (cI n h) (upF n l) s y/\(z=n+y\/z=2*n+y):=fun s U z c=>by
  obtain⟨y,O,I,Y⟩:=uO F G (R.lt s U) c;have q:=R.ring s U y I
  rcases Y with e | e | ⟨_,e,_⟩ | ⟨_,_,e,_⟩
  ·exact#[y,O,I,.inl e]
  ·exact#[y,O,I,.inr e]
  ·exact absurd e q.1
  ·exact absurd e q.2
 refine#[fun s U=>?_,?_,fun s U z c=>?_,fun z a=>?_]
 ·obtain⟨m,hm,rfl⟩:=List.mem_map.mp U;have:=R.lt m hm;lia
 ·rw[List.pairwise_map];refine List.Pairwise.imp_of_mem ?_ R.nd;intro s t U d hn c;obtain⟨y,O,I,Y⟩:=dn s U _ c;have:=R.lt t d
  have e:y=t:=by lia
  exact hn (e▸I)
 ·obtain⟨m,hm,rfl⟩:=List.mem_map.mp U;obtain⟨y,O,I,Y⟩:=dn m hm z c;refine⟨?_,gN F G (c.lt g (by have:=R.lt m hm;show n+m<4*n;lia))⟩;rcases Y with rfl | rfl
  ·rw[gm O];lia
  ·rw[kQ O];lia
 ·have Z:∀ m,m<n->(∃ s,s<4*n/\(jn n s=s\/rb n h l s=s)/\Cn (jn n) (rb n h l) s (n+m))\/∃ s∈S.map (n+·),Cn (jn n) (rb n h l) s (n+m):=fun m hm=>by
   rcases R.all m hm with⟨s,O,I,Y⟩ | ⟨s,O,I⟩
   ·have c:=nI F G O Y;rcases I with I | I
    ·have lt:=pH F O I;refine .inl #[at' h (n+s),by lia,.inl (by unfold jn;rw[if_pos lt]),Cn.trans (gS ?_) c];rw[fF ⋯];exact F.inv _
    ·have ge:=rK G O I;have lt:=G.lt s ⋯;refine .inl #[2*n+at' l s,by lia,.inl (by unfold jn;rw[if_neg ⋯,if_neg ⋯,if_neg ⋯]),Cn.trans (Cn.sa (gS ?_)) (by rw[kQ O];exact c)];rw[gE ⋯,show 2*n+at' l s-2*n=at' l s by lia,G.inv]
   ·exact .inr #[n+s,List.mem_map.mpr #[s,O,rfl],nI F G (R.lt s O) I]
  by_cases b:z<n
  ·exact .inl #[z,a,.inl (by unfold jn;rw[if_pos b]),.refl]
  ·by_cases c2:z<2*n
   ·have:=Z (z-n) ⋯;rw[show n+(z-n)=z by lia]at this;exact this
   ·by_cases f:z<3*n
    ·have e:jn n (n+(z-2*n))=z:=by rw[gm ⋯];lia
     rcases Z (z-2*n) ⋯with⟨s,O,I,Y⟩ | ⟨s,O,I⟩
     ·exact .inl ⟨s,O,I,by have:=Cn.sa Y;rw[e]at this;exact this⟩
     ·exact .inr ⟨s,O,by have:=Cn.sa I;rw[e]at this;exact this⟩
    ·exact .inl #[z,a,.inl (by unfold jn;rw[if_neg b,if_neg c2,if_neg f]),.refl]
def jC(h:p<n):out n p=p:=if_pos h
def j9(h:¬ p<n):out n p=p+2*n:=if_neg h
def gU(F:Frm n h)(G:Frm n l)(I:p<n)(c:at' h p<n):at' (aB n h l) p=at' h p :=
 (found_iff F G ⋯ ⋯ (Ne.symm (F.no p ⋯))).mpr (by rw[jC I,jC c];exact gS (fF ⋯))
def nj(F:Frm n h)(G:Frm n l)(O:n<=p)(I:p<2*n)(c:n<=at' l p):at' (aB n h l) p=at' l p:=by
 have:=G.lt p I;refine(found_iff F G I this (Ne.symm (G.no p I))).mpr ?_;rw[j9 ⋯,j9 ⋯];exact gS (by rw[gE ⋯,Nat.add_sub_cancel];lia)
def rD(F:Frm n h)(G:Frm n l):thr n (aB n h l)=ctF n (cI n h) (upF n l):=by
 have T:=nO F G;have B:=two F G;have v:=ig F G;apply le_antisymm
 ·have O:∀ p,p∈((List.range n).filter fun p=>decide (n<=at' (aB n h l) p))->p<n/\n<=at' h p/\cI n h (at' h p-n)=at' h p-n/\∃ y,y<n/\upF n l y=y/\Cn (cI n h) (upF n l) (at' h p-n) y:=fun p hm=>by
   obtain⟨f,d⟩:=List.mem_filter.mp hm;have R:=List.mem_range.mp f;have u:=of_decide_eq_true d
   have ge:n<=at' h p:=by
    by_cases c:at' h p<n
    ·rw[gU F G R c]at u;lia
    ·lia
   have lt:=F.lt p ⋯
   have e:n+(at' h p-n)=at' h p:=by lia
   refine#[R,ge,fK (by rw[e,F.inv];lia),?_];have Z:=v.lt p ⋯;have c:=(found_iff F G ⋯ Z ⋯).mp rfl;rw[jC R,j9 ⋯]at c;have c2:Cn (jn n) (rb n h l) (n+(at' h p-n)) (at' (aB n h l) p+2*n):=Cn.trans (gS (by rw[e,fF ⋯];exact F.inv p)) c;obtain⟨y,U,Y,I⟩:=uO F G ⋯ c2
   rcases I with I | I | ⟨I,_⟩ | ⟨_,_,I,_⟩
   ·lia
   ·lia
   ·lia
   ·exact#[y,U,I,Y]
  have nd:(((List.range n).filter fun p=>decide (n<=at' (aB n h l) p)).map fun p=>at' h p-n).Nodup:=by
   k_in;refine List.Pairwise.imp_of_mem ?_ (List.Pairwise.filter _ (List.nodup_iff_pairwise_ne.mp nodup_range));intro s t j i hn e;have ks:=O s j;have w:=O t i
   have e:at' h s=at' h t:=by lia
   exact hn (by rw[<-F.inv s,e,F.inv t])
  have:=cG nd (b:=(List.range n).filter fun m=>@decide (cI n h m=m/\∃ y,y<n/\upF n l y=y/\Cn (cI n h) (upF n l) m y) (Classical.propDecidable _)) fun m hm=>by
   obtain⟨p,R,rfl⟩:=List.mem_map.mp hm;obtain⟨A,z,r,o⟩:=O p R;have:=F.lt p ⋯;exact List.mem_filter.mpr ⟨List.mem_range.mpr ⋯,by simpa using⟨r,o⟩⟩
  unfold thr ctF;simpa using this
 ·have mem:∀ m,m∈((List.range n).filter fun m=>@decide (cI n h m=m/\∃ y,y<n/\upF n l y=y/\Cn (cI n h) (upF n l) m y) (Classical.propDecidable _))->m<n/\cI n h m=m/\∃ y,y<n/\upF n l y=y/\Cn (cI n h) (upF n l) m y:=fun m hm=>by
   obtain⟨f,d⟩:=List.mem_filter.mp hm;exact#[List.mem_range.mp f,by simpa using d]
  have nd:(((List.range n).filter fun m=>@decide (cI n h m=m/\∃ y,y<n/\upF n l y=y/\Cn (cI n h) (upF n l) m y) (Classical.propDecidable _)).map fun m=>at' h (n+m)).Nodup:=by
   k_in;refine List.Pairwise.imp_of_mem ?_ (List.Pairwise.filter _ (List.nodup_iff_pairwise_ne.mp nodup_range));intro s t j i hn e
   have e:n+s=n+t:=by rw[<-F.inv (n+s),e,F.inv (n+t)]
   exact hn ⋯
  have:=cG nd (b:=(List.range n).filter fun p=>decide (n<=at' (aB n h l) p)) fun p R=>by
   obtain⟨m,hm,rfl⟩:=List.mem_map.mp R;obtain⟨g,k,y,U,Y,I⟩:=mem m hm;have lt:=pH F g k;have ge:=rK G U Y;have Z:=G.lt y ⋯;refine List.mem_filter.mpr ⟨List.mem_range.mpr lt,decide_eq_true ?_⟩
   have c:at' (aB n h l) (at' h (n+m))=at' l y:=(found_iff F G ⋯ Z ⋯).mpr (by
    rw[jC lt,j9 ⋯];refine Cn.trans (gS (y:=n+m) (by rw[fF ⋯];exact F.inv _)) (Cn.trans (nI F G g I) ?_);have q:=Cn.sb (Cn.sa (.refl (a:=jn n) (b:=rb n h l) (x:=n+y)));rw[gm U,gE ⋯,show 2*n+y-2*n=y by lia,add_comm (2*n)]at q
    exact q)
   rw[c];exact ge
  unfold thr ctF;simpa using this
end
end RM
namespace RM
open RL RT
section
variable{n:Nat}{f QK:List Nat}
def lQ(F:Frm n f)(G:Frm n (bS n (ovr n) (ovr n) f))(I:p<n)(c:n<=at' f p):at' (aB n f (bS n (ovr n) (ovr n) f)) p=n+p:=by
 have l:=F.lt p ⋯;obtain⟨m,e⟩:=Nat.exists_eq_add_of_le c
 have g:at' (bS n (ovr n) (ovr n) f) m=p+n:=by rw[dS ⋯,ju (show m<n by lia),add_comm,<-e,F.inv,ju I]
 have R:rb n f (bS n (ovr n) (ovr n) f) p=n+m:=by unfold rb;rw[if_pos ⋯,e]
 have O:rb n f (bS n (ovr n) (ovr n) f) (2*n+m)=n+p+2*n:=by unfold rb;rw[if_neg ⋯,QB,g];lia
 refine(found_iff F G ⋯ ⋯ ⋯).mpr ?_;rw[show out n p=p from if_pos I,show out n (n+p)=n+p+2*n from if_neg ⋯];exact(gS R).trans ((sH (gm ⋯)).trans (gS O))
def zi(hn:n<=10)(V:Val n f)(j:Jn n (upL n f) (upL n f) QK):Val n QK:=by
 have F:=V.frm;have W:=(gG n).val V;have K:=ig F W.frm;have I:∀ p,p<n->at' (upL n f) p=if at' f p<n then at' f p else p:=fun p O=>eY O
 have t:∀ p,p<n->n<=at' f p->at' QK p=n+p/\at' QK (n+p)=p:=fun p O c=>by
  obtain⟨k,hk,e⟩:=oE (h:=upL n f) O (by rw[I p O,if_neg ⋯]);have:=j.thr k hk;rw[e]at this;exact this
 have o:∀ p,p<n->at' f p<n->at' (upL n f) p≠p:=fun p O c=>by
  rw[I p O,if_pos c];exact F.no p ⋯
 rw[show QK=aB n f (bS n (ovr n) (ovr n) f)from kc j.len hW fun p O=>?_]
 ·exact lG hn V W
 by_cases c:p<n
 ·by_cases d:at' f p<n
  ·rw[j.hi p c (o p c d),gU F W.frm c d,I p c,if_pos d]
  ·rw[(t p c ⋯).1,lQ F W.frm c ⋯]
 ·obtain⟨u,rfl⟩:=Nat.exists_eq_add_of_le (show n<=p by lia);by_cases d:at' f u<n
  ·have e:at' (bS n (ovr n) (ovr n) f) (n+u)=n+at' f u:=by rw[dS O,pf c,QB,ju d,add_comm]
   rw[j.lo u ⋯ (o u ⋯ d),nj F W.frm ⋯ O (by rw[e];lia),e,I u ⋯,if_pos d]
  ·rw[(t u ⋯ ⋯).2,<-lQ F W.frm (show u<n by lia) ⋯,K.inv]
end
end RM
namespace K15
open RL RT
abbrev lS(O U R I:Nat):Fn :=
 ⟨2,6,[],[],%[.exc (.call I %[0#0,1#0|_]),.asg 2 (.compA (.ix (.call U %[0#0,1#0,4#0|_]) (.neg 1#1)) [4] (.seq (.call R %[0#0|_]))),.asg 3 (.comp 5#0 [5] (.seq 2#0) (.cmp .eq (.ix 1#0 5#0) 5#0)),.ret (.tup %[.call O %[0#0,1#0|_],.bi .len 3#0|_])|_]⟩
abbrev pG(I O:Nat):Fn :=
 ⟨2,4,[],[],%[.asg 2 (.cst (.str "")),.tryc %[.exc (.call I %[0#0,1#0|_])|_] "RibbonError" 3 %[.asg 2 (.call O %[3#0|_])|_],.ret 2#0|_]⟩
abbrev zU(I f e c g d a b O Z Y R U:Nat):Ss :=
 %[.asg 7 (.lst %[.call I %[2#0,.rngT (.bi .len 2#0)|_],.call I %[.rngT (.bi .len 2#0),2#0|_]|_]),.ife (.cmp .ne 7#0 (.bin .mul (.lst %[.cst (.str "BadHalf")|_]) 2#1)) %[.ret (.cst (.bl false))|_] .nil|_]
abbrev AJ(b O I e g f c d R a Z U Y:Nat):Ss :=
 %[.ife (.and (.cmp .lt (.ix 8#0 5#0) 3#0) (.cmp .ne (.ix (.call I %[14#0|_]) 5#0) (.ix 8#0 5#0))) %[.ret (.cst (.bl false))|_] .nil,.ife (.and (.cmp .ge (.ix 9#0 (.bin .add 3#0 5#0)) 3#0) (.cmp .ne (.ix (.call O %[14#0|_]) 5#0) (.bin .sub (.ix 9#0 (.bin .add 3#0 5#0)) 3#0))) %[.ret (.cst (.bl false))|_] .nil|_]
abbrev uw(I g f d e Y b c O a Z R U:Nat):Ss :=
 %[.asg 3 (.bin .add 1#1 (.ix (.call U %[0#0,.bin .add 40#1 1#0,.lst %[10#1|_]|_]) 0#1)),.unp [8,9] (.call R %[0#0,.bin .mul 2#1 1#0,3#0,2#1|_]),.par 10 11 (.call a %[8#0|_]) (.call Z %[9#0|_]),.unp [12,13] (.call c %[.call O %[10#0,10#0|_],.call O %[11#0,11#0|_]|_]),.asg 4 (.tup %[13#0,.bi .len (.comp 5#0 [5] (.rng1 3#0) (.cmp .ge (.ix 12#0 5#0) 3#0))|_]),.ife (.or (.not (.call b %[.call Y %[10#0,11#0|_],4#0|_])) (.cmp .ne (.call Y %[11#0,10#0|_]) 4#0)) %[.ret (.cst (.bl false))|_] .nil,.unp [14,15] (.call e %[8#0,9#0|_]),.ife (.cmp .ne (.tup %[15#0,.call d %[14#0|_]|_]) 4#0) %[.ret (.cst (.bl false))|_] .nil,.forr [5] (.rng1 3#0) (AJ I g f d e Y b c O a Z R U),.asg 6 (.rngT (.bin .add 1#1 (.bin .mod 3#0 10#1))),.asg 7 (.lst %[.call I %[10#0,6#0|_],.call I %[.tup %[1#1|_],6#0|_],.call I %[6#0,.tup %[1#1,2#1,0#1|_]|_]|_]),.ife (.cmp .ne 7#0 (.lst %[.cst (.str "BadPegs"),.cst (.str "BadHalf"),.cst (.str "BadHalf")|_])) %[.ret (.cst (.bl false))|_] .nil|_]
abbrev D5(Z f e c g d a b I Y U O R:Nat):Fn :=
 ⟨1,16,[],[],%[.asg 0 (.slT 0#0 63#1),.forr [1] (.rng1 9#1) (uw Z f e c g d a b I Y U O R),.forr [2] (.seq (.lst %[.tup %[1#1|_],.tup %[1#1,1#1|_],.tup %[2#1,0#1|_],.tup %[1#1,2#1,0#1|_],.tup %[2#1,1#1,0#1|_],.tup %[2#1,3#1,0#1,1#1|_],.tup %[0#1,3#1,2#1,1#1|_]|_])) (zU Z f e c g d a b I Y U O R),.ret (.cst (.bl true))|_]⟩
abbrev T:List Fn:=[jK,eR 0,cW 1,gd 4,fX 0,eQ,m6,iA 8 6,pL,iC 5 17 3 1 12,fk 9,hG 10,mj,iM 2,lM 18 13 12 10,j0 12 10,dP,gc 18 16 12,kd,lF 5 3 1,jm 19,cB 20,mT 12 10,wx 22 14,lS 7 6 25 21,qr,zV 27 11,jJ 7 6 28 12,fG,ma,lP,lJ 30,fP 31,fh,iD 33,fY,eh 35,k7,gq,iE 38,i5,jM 39 40 36 37 34 33 32,iU 41,gY,nB 43 40,gh,dI 46,pG 24 29,D5 47 23 22 15 26 24 46 39 45 44 43 42 32]
open RM
def Kj{α:Type}{os:List (Option α)}{n:Nat}(h:os.length=n):os=(List.range n).map fun i=>os[i]?.getD none:=by
 apply List.ext_getElem
 ·rw[length_map,length_range,h]
 ·intro i I _;simp[I]
def Au{α:Type}{os:List (Option α)}(h:os.length=15):∃ a b c d e f g h i j k l m o p,os=[a,b,c,d,e,f,g,h,i,j,k,l,m,o,p]:=#[_,_,_,_,_,_,_,_,_,_,_,_,_,_,_,Kj h]
def KH{α:Type}:∀ {os:List α},os.length=2->∃ a b,os=[a,b]
 | [a,b],_=>#[a,b,rfl]
def KS{ds:List Nat}{a:Nat}(h:lD ds [a]):∃ x,ds=[x]/\x<a:=by
 obtain⟨O,I⟩:=h
 match ds,O with
 | [x],_=>exact#[x,rfl,I 0 x a rfl rfl]
def ck:Ck T 0 1 3 4 5 9 10 12 16 17 18:=#[rfl,rfl,rfl,rfl,rfl,rfl,rfl,rfl,rfl,rfl,rfl]
def dr:Dr T 30 31 32 33 34 35 36 37 38 39 40 41:=#[#[rfl,rfl,rfl],rfl,rfl,rfl,rfl,rfl,rfl,rfl,rfl,rfl]
def hg:Hg T 10 12 6 8 7 28 27 11 26:=#[rfl,rfl,rfl,rfl,rfl,rfl,rfl]
def hT:T.length<=1000:=by decide
abbrev isB(b:Bool):Option D->Bool
 | some (.bl c)=>b == c
 | _=>false
def AI{b:Bool}{x:Option D}(h:isB b x=true):x=some (.bl b):=by
 unfold isB at h;split at h
 ·rw[eq_of_beq h]
 ·cases h
def no1:ak T 25 19 [.tup [.int 1]]=some (.bl false):=AI (by decide +kernel)
def K8:ak T 25 19 [.tup [.int 1,.int 2,.int 0]]=some (.bl false):=AI (by decide +kernel)
section
variable{n:Nat}{f g h a b:List Nat}
def wN(A:Hf n a):∀ m,m<=(fx n a).length->∀ QK,(List.range m).foldl (jst n a a) (a++a.map fun x=>n+x)=QK->QK.length=2*n/\(∀ k,k<m->at' QK (at' (fx n a) k)=n+at' (fx n a) k/\at' QK (n+at' (fx n a) k)=at' (fx n a) k)/\∀ x,(∀ k,k<m->x≠at' (fx n a) k/\x≠n+at' (fx n a) k)->at' QK x=at' (a++a.map fun x=>n+x) x
 | 0,_,_,rfl=>#[by rw[List.range_zero,List.foldl_nil,length_append,length_map,A.len];lia,fun k hk=>absurd hk (Nat.not_lt_zero _),fun _ _=>rfl]
 | m+1,hm,_,rfl=>by
  obtain⟨O,U,Y⟩:=wN A m ⋯ _ rfl;rw[List.range_succ,List.foldl_append];generalize(List.range m).foldl (jst n a a) _=QK at *;have b:=(eA (n:=n) (h:=a) (k:=m) ⋯).1
  have I:∀ x,at' (jst n a a QK m) x=if x=n+at' (fx n a) m then at' (fx n a) m else if x=at' (fx n a) m then n+at' (fx n a) m else at' QK x:=fun x=>by
   unfold jst;rw[eB (by rw[Qz,O];lia),eB (by rw[O];lia)]
  refine#[by rw[foldl_cons,List.foldl_nil,jst,Qz,Qz,O],fun k hk=>?_,fun x R=>?_]
  ·show at' (jst n a a QK m) _=_/\at' (jst n a a QK m) _=_;by_cases c:k=m
   ·subst c;rw[I,I,if_neg ⋯,if_pos rfl,if_pos rfl];exact#[rfl,rfl]
   ·have Z:=DK (n:=n) (h:=a) (show k<m by lia) ⋯;rw[I,I,if_neg ⋯,if_neg ⋯,if_neg ⋯,if_neg ⋯];exact U k ⋯
  ·show at' (jst n a a QK m) _=_;have z:=R m ⋯;rw[I,if_neg z.2,if_neg z.1];exact Y x fun k hk=>R k ⋯
def Dq(hn:n<=10)(A:Hf n a):Jn n a a (jnL n a a):=by
 obtain⟨R,O,I⟩:=wN A _ (Qb _) (jnL n a a) rfl;have l:=A.len;refine#[R,O,fun p U c=>?_,fun p U c=>?_]
 ·rw[I p fun k hk=>#[fun z=>c (by rw[z];exact(eA hk).2),by lia]];simp[at',getElem?_append_left (show p<a.length by lia)]
 ·rw[I (n+p) fun k hk=>⟨by have:=(eA (n:=n) (h:=a) hk).1;lia,fun z=>c (by rw[show p=at' (fx n a) k by lia];exact(eA hk).2)⟩];unfold at';rw[Qm ⋯,show n+p-a.length=p by lia,getElem?_map];simp[show p<a.length by lia]
def GJ(m:Nat)(hn:n<=10)(H:Hf n h):ak T (m+1) 25 [.tup (L h)]=some (.lst (L (fx n h))):=(ao (fn:=qr) rfl).trans (zP hn H.len)
def isH(m:Nat)(O:1<=n)(hn:n<=10)(H:Hf n h):ak T (m+4) 19 [.tup (L h)]=some (.bl true):=by
 have p:=(ao (T:=T) (n:=m+2) (f:=3) (fn:=gd 4) rfl).trans (ny (xs:=h.map Int.ofNat) (by rw[length_map,H.len];lia) fun q I=>(ao (fn:=fX 0) rfl).trans (A4 (ck.num m) I));rw[yk H,<-Ho]at p;obtain⟨b,e,_,hb⟩:=wC (cl:=ak T (m+2)) (m:=n) ⋯ H.len H.inv H.lt;rw[hb H.nx]at e;exact(ao (fn:=lF 5 3 1) rfl).trans (vD O hn H (ck.Bl (m+1)) p ((ao (fn:=eQ) rfl).trans e))
def ckH(m:Nat)(I:1<=n)(hn:n<=10)(H:Hf n h):ak T (m+5) 20 [.tup (L h)]=some .non :=
 (ao (fn:=jm 19) rfl).trans (uk rfl rfl (bQ (aR (ff (bO (aa rfl) (isH m I hn H)))) aH))
def vk(H:Hf n h):biV .len (.tup (L h))=some (.int (n:Nat)):=by
 have:=IC h;rw[H.len]at this;exact this
def ck2(m:Nat)(I:1<=n)(hn:n<=10)(A:Hf n a)(B:Hf n b):ak T (m+6) 21 [.tup (L a),.tup (L b)]=some .non:=(ao (fn:=cB 20) rfl).trans (uk rfl rfl (js (bO (aa rfl) (ckH m I hn A)) (js (bO (aa rfl) (ckH m I hn B)) (bQ (aR (aD (aZ (aa rfl) (vk A)) (aZ (aa rfl) (vk B)) (by rw[CQ,beq_self_eq_true];rfl))) aH))))
def HR(A:Hf n a)(B:Hf n b):Two n (at' a) (at' b):=#[A.lt,B.lt,A.inv,B.inv]
def meet(K:1<=n)(hn:n<=10)(A:Hf n a)(B:Hf n b):∃ S,cN n (at' a) (at' b) S/\ak T 29 24 [.tup (L a),.tup (L b)]=some (.tup [.int (S.length:Nat),.int (ctF n (at' a) (at' b):Nat)]):=by
 have Z:=HR A B;have ia:∀ x:Nat,x<n->ixV (.tup (L a)) (.int (x:Nat))=some (.int (at' a x:Nat)):=fun x I=>cC (by rw[A.len];exact I);have h:∀ x:Nat,x<n->ixV (.tup (L b)) (.int (x:Nat))=some (.int (at' b x:Nat)):=fun x I=>cC (by rw[B.len];exact I)
 have r:∀ (m x:Nat),x<n->∃ i,i<n/\Stp (at' a) (at' b) x i/\(∀ j,j<i->¬ Stp (at' a) (at' b) x j)/\ak T (m+1) 6 [.tup (L a),.tup (L b),.int (x:Nat)]=some (.lst (L (wks (at' a) (at' b) x i))):=fun m x I=>by
  obtain⟨i,a1,a2,a3,a4⟩:=mC (cl:=ak T m) Z ⋯ ia h I;exact#[i,a1,a2,a3,(ao (fn:=m6) rfl).trans a4]
 have v:∀ (m x:Nat),x<n->∃ i,i<n/\Stp (at' b) (at' a) x i/\(∀ j,j<i->¬ Stp (at' b) (at' a) x j)/\ak T (m+1) 6 [.tup (L b),.tup (L a),.int (x:Nat)]=some (.lst (L (wks (at' b) (at' a) x i))):=fun m x I=>by
  obtain⟨i,a1,a2,a3,a4⟩:=mC (cl:=ak T m) Z.swap ⋯ h ia I;exact#[i,a1,a2,a3,(ao (fn:=m6) rfl).trans a4]
 obtain⟨S,R,e⟩:=lV (cl:=ak T 27) (fm:=8) (fr:=6) Z ⋯ (A:=.tup (L a)) (B:=.tup (L b)) (vk A) ia h (r 26) (v 26) (fun s P ps H QK=>by
  obtain⟨s',b1,b2⟩:=vi (cl:=ak T 26) H QK
  exact#[s',b1,(ao (fn:=pL) rfl).trans b2])
 have e:ak T 28 7 [.tup (L a),.tup (L b)]=some (.int (S.length:Nat)):=(ao (fn:=iA 8 6) rfl).trans e
 have pick:∀ x,∃ i,x<n->Stp (at' a) (at' b) x i/\(∀ j,j<i->¬ Stp (at' a) (at' b) x j)/\ak T 28 6 [.tup (L a),.tup (L b),.int (x:Nat)]=some (.lst (L (wks (at' a) (at' b) x i))):=fun x=>by
  by_cases I:x<n
  ·obtain⟨i,_,f,d,p⟩:=r 27 x I;exact#[i,fun _=>#[f,d,p]]
  ·exact#[0,fun z=>absurd z I]
 obtain⟨O,hk⟩:=Classical.axiomOfChoice pick;have u:∀ x∈fx n a,x<n/\at' a x=x:=fun x I=>sM.mp I
 have t:=ky (F:=fun U=>(ev (ak T 28) U (.ix (.call 6 (.cons 0#0 (.cons 1#0 (.cons 4#0 .nil)))) (.neg 1#1))).map some) (tg:=[4]) (J:=[some (.tup (L a)),some (.tup (L b)),none,none,none,none]) (g:=fun x=>.int (wk (at' a) (at' b) x (O x):Nat)) (fun _=>rfl) (fx n a) (by
  intro x I;obtain⟨f,d,p⟩:=hk x (u x I).1;show(ev (ak T 28) [some (.tup (L a)),some (.tup (L b)),none,none,some (.int (x:Nat)),none] (.ix (.call 6 %[0#0,1#0,4#0|_]) (.neg 1#1))).map some=_;rw[bj (lH (aa rfl) (aa rfl) (aa rfl) p) Bc (oa _)]
  rfl)
 have M:((fx n a).map fun x=>D.int (wk (at' a) (at' b) x (O x):Nat))=L ((fx n a).map fun x=>wk (at' a) (at' b) x (O x)):=by unfold L;rw[map_map];rfl
 rw[M]at t;have fz:(fx n a).length<=10:=Qn (JS a) hn
 have w:=kj (F:=fun U=>((ev (ak T 28) U (.cmp .eq (.ix 1#0 5#0) 5#0)).bind truth).bind fun k=>if k then(ev (ak T 28) U 5#0).map some else some none) (tg:=[5]) (J:=[some (.tup (L a)),some (.tup (L b)),some (.lst (L ((fx n a).map fun x=>wk (at' a) (at' b) x (O x)))),none,none,none]) (g:=fun x=>.int (x:Nat)) (c:=fun y=>decide (at' b y=y)) (fun _=>rfl) ((fx n a).map fun x=>wk (at' a) (at' b) x (O x)) (by
  intro y G;obtain⟨x,I,rfl⟩:=List.mem_map.mp G;have lt:=eO Z (u x I).1 (O x);generalize wk (at' a) (at' b) x (O x)=y at *;show((ev (ak T 28) [some (.tup (L a)),some (.tup (L b)),some (.lst (L ((fx n a).map fun x=>wk (at' a) (at' b) x (O x)))),none,none,some (.int (y:Nat))] (.cmp .eq (.ix 1#0 5#0) 5#0)).bind truth).bind (fun k=>if k then(ev (ak T 28) [some (.tup (L a)),some (.tup (L b)),some (.lst (L ((fx n a).map fun x=>wk (at' a) (at' b) x (O x)))),none,none,some (.int (y:Nat))] 5#0).map some else some none)=_;rw[aR (aD (bj (aa rfl) (aa rfl) (h y lt)) (aa rfl) (sj _ _)),Option.bind_some,aa rfl]
  split<;>rfl)
 have C:((((fx n a).map fun x=>wk (at' a) (at' b) x (O x)).filter fun y=>decide (at' b y=y)).map fun x=>D.int (x:Nat)).length=ctF n (at' a) (at' b):=by
  rw[length_map,List.filter_map,length_map];unfold fx ctF;rw[List.filter_filter];congr 1;refine List.filter_congr fun x I=>?_;have I:=List.mem_range.mp I;obtain⟨f,d,_⟩:=hk x I;apply QG.mpr;rw[and_eq_true];constructor
  ·intro⟨l,Y⟩;have Y:=of_decide_eq_true Y;exact @decide_eq_true _ (Classical.propDecidable _) ⟨Y,(oS Z I Y f d).mp (of_decide_eq_true l)⟩
  ·intro q;have⟨Y,l⟩:=@of_decide_eq_true _ (Classical.propDecidable _) q;exact#[decide_eq_true ((oS Z I Y f d).mpr l),decide_eq_true Y]
 have E:∀ xs:List Nat,aG (.lst (L xs))=true:=fun xs=>aS xs;have o:∀ xs:List Nat,aG (.lst (xs.map fun x=>D.int (x:Nat)))=true:=fun xs=>aS xs;have le:∀ xs:List D,biV .len (.lst xs)=some (.int (xs.length:Nat)):=fun xs=>rfl
 refine⟨S,R,(ao (fn:=lS 7 6 25 21) rfl).trans (aT rfl rfl (js (dB (aa rfl) (aa rfl) (ck2 22 K hn A B)) (aE (de (eg (bO (aa rfl) (GJ 27 hn A)) rfl) (by rw[aL];unfold most;lia) t) (by unfold aX;rw[E];rfl)
  (aE (lR (eg (aa rfl) rfl) (by rw[aL,length_map];unfold most;lia) w) (by unfold aX;rw[o];rfl) (aU (jA (aA (dB (aa rfl) (aa rfl) e) (aA (aZ (aa rfl) (by rw[le,C])) bo))) rfl)))))⟩
end
section
variable{n:Nat}{a b a' b':Nat->Nat}
def sW(T:Two n a b)(U:∀ m,m<n->a m=a' m)(R:∀ m,m<n->b m=b' m)(O:x<n)(c:Cn a b x y):Cn a' b' x y:=by
 induction c with
 | refl=>exact .refl
 | sa c I=>rw[U _ (c.lt T O)];exact .sa I
 | sb c I=>rw[R _ (c.lt T O)];exact .sb I
def D8(T:Two n a b)(R:∀ m,m<n->a m=a' m)(O:∀ m,m<n->b m=b' m):Two n a' b' :=
 ⟨fun x I=>by rw[<-R x I];exact T.al x I,fun x I=>by rw[<-O x I];exact T.bl x I,fun x I=>by rw[<-R x I,<-R _ (T.al x I)];exact T.ai x I,fun x I=>by rw[<-O x I,<-O _ (T.bl x I)];exact T.bi x I⟩
def Jh(T:Two n a b)(U:∀ m,m<n->a m=a' m)(R:∀ m,m<n->b m=b' m):ctF n a b=ctF n a' b':=by
 have d:=D8 T U R;unfold ctF;congr 1;refine List.filter_congr fun x I=>?_;have I:=List.mem_range.mp I;apply QG.mpr;constructor
 ·intro q;obtain⟨c,y,O,Z,Y⟩:=@of_decide_eq_true _ (Classical.propDecidable _) q;exact @decide_eq_true _ (Classical.propDecidable _) ⟨by rw[<-U x I];exact c,y,O,by rw[<-R y O];exact Z,sW T U R I Y⟩
 ·intro q;obtain⟨c,y,O,Z,Y⟩:=@of_decide_eq_true _ (Classical.propDecidable _) q;exact @decide_eq_true _ (Classical.propDecidable _) ⟨by rw[U x I];exact c,y,O,by rw[R y O];exact Z,sW d (fun m hm=>(U m hm).symm) (fun m hm=>(R m hm).symm) I Y⟩
def wF{S:List Nat}(T:Two n a b)(U:∀ m,m<n->a m=a' m)(O:∀ m,m<n->b m=b' m)(R:cN n a b S):cN n a' b' S:=by
 have g:=D8 T U O;have back:∀ {x y},x<n->Cn a' b' x y->Cn a b x y:=fun Z c=>sW g (fun m hm=>(U m hm).symm) (fun m hm=>(O m hm).symm) Z c;refine#[R.lt,List.Pairwise.imp_of_mem (fun Y i h c=>h (back (R.lt _ Y) c)) R.nd,fun s Y y c=>?_,fun x Z=>?_]
 ·have c':=back (R.lt s Y) c;have e:=c'.lt T (R.lt s Y);rw[<-U y e,<-O y e];exact R.ring s Y y c'
 ·rcases R.all x Z with⟨s,I,d,f⟩ | ⟨s,I,d⟩
  ·exact .inl #[s,I,by rw[<-U s I,<-O s I];exact d,sW T U O I f]
  ·exact .inr #[s,I,sW T U O (R.lt s I) d]
end
section
variable{n:Nat}{f g h a b:List Nat}
def xf(F:Frm n f)(hm:m<n):at' (upL n (bS n (ovr n) (ovr n) f)) m=cI n f m:=by
 have lt:=F.lt (n+m) ⋯;rw[eY hm];unfold up;rw[Dk F hm];by_cases c:at' f (n+m)<n
 ·rw[if_pos c,if_neg ⋯,fK ⋯]
 ·rw[if_neg c,if_pos ⋯,et ⋯]
def ym(hm:m<n):at' (upL n f) m=upF n f m:=eY hm
def Km{x y:Nat}(h:x≠y):bc .ne (.int (x:Nat)) (.int (y:Nat))=some true:=by
 show(bc .eq (.int (x:Nat)) (.int (y:Nat))).map not=_;rw[sj,Qh h];rfl
def CZ(x:Nat):bc .ne (.int (x:Nat)) (.int (x:Nat))=some false:=by
 show(bc .eq (.int (x:Nat)) (.int (x:Nat))).map not=_;rw[sj,decide_eq_true rfl];rfl
def ckB{d:D}(h:ak T 25 19 [d]=some (.bl false)):Rc (ak T 26) 20 [d] "BadHalf" := pP (fn:=jm 19) rfl hT rfl rfl (DF (aR (ff (bO (aa rfl) h))) (Ap bo rfl))
def jr{x y:D}{c:PySem.Str}(h:Rc (ak T 27) 21 [x,y] c):Rc (ak T 28) 24 [x,y] c:=pP (fn:=lS 7 6 25 21) rfl hT rfl rfl (sD (Gb (aa rfl) (aa rfl) h))
def qD{x y:D}{c:PySem.Str}(I:c∈(["BadPegs", "BadFrame", "BadHalf", "BadHook", "BadName", "NoNumber", "NoFrame", "NoStack"]:List PySem.Str))(h:Rc (ak T 28) 24 [x,y] c):ak T 29 47 [x,y]=some (.str c):=by
 have k:ak T 28 29 [.exc c]=some (.str c):=(ao (fn:=ma) rfl).trans (GO I);exact(ao (fn:=pG 24 29) rfl).trans (aT rfl rfl (aE aq rfl (EH (sD (Gb (aa rfl) (aa rfl) h)) (by unfold i8 dh;simp) (aE (bO (aa rfl) k) rfl aH) (aU (aa rfl) rfl))))
def JH{cl:Cl}{J:St}{e:E}{x:D}{ds:List D}(h:ev cl J e=some x)(I:cb (.int 0) x=some ds):ev cl J (.rngT e)=some (.tup ds):=by
 show(ev cl J e).bind _=_;rw[h,Option.bind_some,I];rfl
def Fx(m:Nat):Hf m (List.range m):=by
 have e:∀ q,at' (List.range m) q=q:=fun q=>by by_cases c:q<m<;>simp[at',c]
 refine#[length_range,fun q I=>by rw[e];exact I,fun q _=>by rw[e,e],fun q q' R O=>?_];rw[e]at O;lia
def LY{cl:Cl}{J:St}(hn:n<=10)(F:Frm n f)(Z:(J[3]?).bind id=some (.int (n:Nat)))(I:∀ x,((J.set 5 x)[12]?).bind id=some (.tup (L f)))(Y:∀ x,((J.set 5 x)[3]?).bind id=some (.int (n:Nat)))(O:∀ x:D,((J.set 5 (some x))[5]?).bind id=some x) :
  ev cl J (.bi .len (.comp 5#0 [5] (.rng1 3#0) (.cmp .ge (.ix 12#0 5#0) 3#0)))=some (.int (thr n f:Nat)):=by
 have U:cb (.int 0) (.int (n:Nat))=some (L (List.range n)):=bM ⋯;refine aZ (lR (eF (aa Z) U) (by rw[aL,length_range];unfold most;lia) (kj (g:=fun x=>.int (x:Nat)) (c:=fun p=>decide (n<=at' f p)) (fun _=>rfl) (List.range n) fun x R=>?_)) (Mj _);have R:=List.mem_range.mp R
 have q:bc .ge (.int (at' f x:Nat)) (.int (n:Nat))=some (decide (n<=at' f x)):=by
  rw[kB];congr 1;apply decide_eq_decide.mpr;lia
 show((ev cl (J.set 5 (some (.int (x:Nat)))) (.cmp .ge (.ix 12#0 5#0) 3#0)).bind truth).bind (fun k=>if k then(ev cl (J.set 5 (some (.int (x:Nat)))) 5#0).map some else some none)=_;rw[aR (aD (bj (aa (I _)) (aa (O _)) (cC (by rw[F.len];lia))) (aa (Y _)) q),Option.bind_some,aa (O _)];split<;>rfl
end
abbrev KP(Z f e c g d a b I Y U O R:Nat):Ss :=
 %[.forr [2] (.seq (.lst %[.tup %[1#1|_],.tup %[1#1,1#1|_],.tup %[2#1,0#1|_],.tup %[1#1,2#1,0#1|_],.tup %[2#1,1#1,0#1|_],.tup %[2#1,3#1,0#1,1#1|_],.tup %[0#1,3#1,2#1,1#1|_]|_])) (zU Z f e c g d a b I Y U O R),.ret (.cst (.bl true))|_]
def tl(s:D)(i h g f e d c b a Z Y U R O I:Option D):(af (ak T 29) [] (KP 47 23 22 15 26 24 46 39 45 44 43 42 32) [some s,i,h,g,f,e,d,c,b,a,Z,Y,U,R,O,I]).map (·.1)=some (.rt (.bl true)):=by kernel_rfl
@[reducible]noncomputable def sx(a:List Int)(k:Nat)(R:Option D)(n s c:Nat)(o O I:Option D)(f g X Y p q:List Nat):St:=[some (.lst (LI a)),some (.int k),R,some (.int n),some (.tup (L [s,c])),o,O,I,some (.tup (L f)),some (.tup (L g)),some (.tup (L X)),some (.tup (L Y)),some (.tup (L p)),some (.int s),some (.tup (L q)),some (.int s)]
@[reducible]noncomputable def b3:Ss:=AJ 47 23 22 15 26 24 46 39 45 44 43 42 32
def turn{ns:List Int}{k:Nat}(hl:ns.length<=63)(hk:k<9)(i o3 o4 o5 h b o8 o9 M K QK H E C:Option D):∃ r,r.length=15/\af (ak T 29) [] (uw 47 23 22 15 26 24 46 39 45 44 43 42 32) [some (.lst (LI ns)),some (.int (k:Nat)),i,o3,o4,o5,h,b,o8,o9,M,K,QK,H,E,C]=some (.nx,some (.lst (LI ns))::r):=by
 obtain⟨ds,hd,e1⟩:=dr.digits hl 26 (k:=40+k) (sizes:=[10]) ⋯ (by simp) (by simp);obtain⟨p,rfl,U⟩:=KS hd
 have O:1<=1+p:=by lia
 have I:1+p<=10:=by lia
 have e0:aF .add (.int 1) (.int (p:Nat))=some (.int ((1+p:Nat):Int)):=rfl;generalize 1+p=n at *;obtain⟨fs,q1,q2,e2⟩:=dr.rows (fs:=42) rfl hl 24 (k:=2*k) (m:=n) (q:=2) ⋯ O I ⋯;obtain⟨f,g,rfl⟩:=KH q1;have V:=q2 f (by simp);have W:=q2 g (by simp);have F:=V.frm;have G:=W.frm;have V':=(gG n).val V;have A:=wG V';have B:=wG W
 have ek:aF .mul (.int 2) (.int (k:Nat))=some (.int ((2*k:Nat):Int)):=by
  dsimp only[aF];rw[if_pos (.inl ∅)];rfl
 have el:ak T 29 44 [.tup (L f)]=some (.tup (L (upL n (bS n (ovr n) (ovr n) f)))):=by
  refine(ao (fn:=nB 43 40) rfl).trans (aT rfl rfl (aU (bO (bO (aa rfl) (dr.over 27 O I F.len)) ((ao (fn:=gY) rfl).trans ?_)) (yD _)));rw[uA F];exact l4 I V'.frm
 have eu:ak T 29 43 [.tup (L g)]=some (.tup (L (upL n g))):=(ao (fn:=gY) rfl).trans (l4 I G);have ea:∀ m,m<n->at' (upL n (bS n (ovr n) (ovr n) f)) m=cI n f m:=fun m hm=>xf F hm;have eb:∀ m,m<n->at' (upL n g) m=upF n g m:=fun m hm=>ym hm;generalize hX:upL n (bS n (ovr n) (ovr n) f)=X at *;generalize hY:upL n g=Y at *;have j1:=Dq I A;have j2:=Dq I B;have l:Val n (jnL n X X):=zi I V' (by rw[hX];exact j1);have y:Val n (jnL n Y Y):=zi I W (by rw[hY];exact j2)
 have w:∀ m,m<n->at' X m=cI n (jnL n X X) m:=fun m hm=>by rw[<-xf l.frm hm,j1.dn A A rfl]
 have t:∀ m,m<n->at' Y m=upF n (jnL n Y Y) m:=fun m hm=>by rw[<-ym hm,j2.up B rfl]
 have c1:ak T 29 45 [.tup (L X),.tup (L X)]=some (.tup (L (jnL n X X))):=(ao (fn:=gh) rfl).trans (jW I A A rfl);have c2:ak T 29 45 [.tup (L Y),.tup (L Y)]=some (.tup (L (jnL n Y Y))):=(ao (fn:=gh) rfl).trans (jW I B B rfl);generalize jnL n X X=P1 at *;generalize jnL n Y Y=P2 at *;have j:=HR A B;obtain⟨S,R,m1⟩:=meet O I A B;obtain⟨S3,R3,m3⟩:=meet O I B A;rw[(R3.one j.swap (rV R)),<-yq j]at m3;obtain⟨S1,R1,h1⟩:=dr.yx 27 O I l.frm y.frm;obtain⟨S2,R2,h2⟩:=hg.yx ck 22 O I V W
 have z1:S1.length=S.length:=by rw[R1.one (two l.frm y.frm) (l5 l.frm y.frm (wF j w t R)),length_map]
 have z2:S2.length=S.length:=by rw[R2.one (two F G) (l5 F G (wF j ea eb R)),length_map]
 have t1:thr n (aB n P1 P2)=ctF n (at' X) (at' Y):=by rw[rD l.frm y.frm,Jh j w t]
 have t2:thr n (aB n f g)=ctF n (at' X) (at' Y):=by rw[rD F G,Jh j ea eb]
 rw[z1]at h1;rw[z2]at h2;have z:=lG I V W;have th:=ck.through (th:=15) rfl 23 O I z;rw[t2]at th;have FF1:=ig l.frm y.frm;have up:=ck.upper (up':=22) rfl 23 O I z;have lw:=ck.lower (up':=22) (cp:=2) (pl:=13) (ov:=14) (lw:=23) rfl rfl rfl rfl rfl 22 O I z
 have fu:∀ p,p<n->at' f p<n->at' (upL n (aB n f g)) p=at' f p:=fun p U c=>by
  rw[ym U,gu (by rw[gU F G U c];exact c),gU F G U c]
 have fd:∀ p,p<n->n<=at' g (n+p)->at' (upL n (bS n (ovr n) (ovr n) (aB n f g))) p=at' g (n+p)-n:=fun p U c=>by
  have e:=nj F G (p:=n+p) ⋯ ⋯ c;rw[xf z.frm U,et (by rw[e];exact c),e]
 have tt:∀ J:St,(J[3]?).bind id=some (.int (n:Nat))->(∀ x,((J.set 5 x)[12]?).bind id=some (.tup (L (aB n P1 P2))))->(∀ x,((J.set 5 x)[3]?).bind id=some (.int (n:Nat)))->(∀ x:D,((J.set 5 (some x))[5]?).bind id=some x)->ev (ak T 29) J (.bi .len (.comp 5#0 [5] (.rng1 3#0) (.cmp .ge (.ix 12#0 5#0) 3#0)))=some (.int (ctF n (at' X) (at' Y):Nat)):=fun J x1 x2 x3 x4=>by
  have:=LY (cl:=ak T 29) (J:=J) I FF1 x1 x2 x3 x4;rw[t1]at this;exact this
 clear t1 t2;generalize ctF n (at' X) (at' Y)=ct at *;generalize aB n P1 P2=Q1 at *;have LX:=A.len;have hfl:=F.len;have hgl:=G.len;have lft:(upL n (aB n f g)).length=n:=iI;have lfd:(upL n (bS n (ovr n) (ovr n) (aB n f g))).length=n:=iI;generalize upL n (aB n f g)=UF at *;generalize upL n (bS n (ovr n) (ovr n) (aB n f g))=LF at *;generalize aB n f g=Q2 at *;have s1:=sameAll (T:=T) (sm:=46) rfl 1 28 _ (Pl.L (n:=0) (xs:=[S.length,ct]) (by simp)) ∅;have s2:bc .ne (.tup (L [S.length,ct])) (.tup (L [S.length,ct]))=some false:=JP (Pl.L (n:=0) (by simp)) ∅
 obtain⟨QM,lp,o5',rfl⟩:=dk (f:=af (ak T 29) [] b3) (tg:=[5]) (xs:=List.range n) (J:=(sx ns k i n S.length ct o5 h b f g X Y Q1 Q2))
  (fun _ J=>∃ o:Option D,J=(sx ns k i n S.length ct o h b f g X Y Q1 Q2)) ⟨_,rfl⟩ (by
  rintro u p v J hx ⟨o,rfl⟩
  have U:p<n:=by
   have:p∈List.range n:=by rw[hx];simp
   simpa using this
  refine#[_,?_,some (.int (p:Nat)),rfl];show af (ak T 29) [] b3 (sx ns k i n S.length ct (some (.int (p:Nat))) h b f g X Y Q1 Q2)=_;have i1:ixV (.tup (L f)) (.int (p:Nat))=some (.int (at' f p:Nat)):=cC ⋯;have i2:ixV (.tup (L g)) (.int ((n+p:Nat):Int))=some (.int (at' g (n+p):Nat)):=cC ⋯;have i3:ixV (.tup (L UF)) (.int (p:Nat))=some (.int (at' UF p:Nat)):=cC ⋯;have i4:ixV (.tup (L LF)) (.int (p:Nat))=some (.int (at' LF p:Nat)):=cC ⋯
  have a:bc .lt (.int (at' f p:Nat)) (.int (n:Nat))=some (decide (at' f p<n)):=by
   rw[fB];congr 1;apply decide_eq_decide.mpr;lia
  have Z:bc .ge (.int (at' g (n+p):Nat)) (.int (n:Nat))=some (decide (n<=at' g (n+p))):=by
   rw[kB];congr 1;apply decide_eq_decide.mpr;lia
  have a1:ev (ak T 29) (sx ns k i n S.length ct (some (.int (p:Nat))) h b f g X Y Q1 Q2) (.and (.cmp .lt (.ix 8#0 5#0) 3#0) (.cmp .ne (.ix (.call 22 %[14#0|_]) 5#0) (.ix 8#0 5#0)))=some (.bl false):=by
   by_cases c:at' f p<n
   ·rw[decide_eq_true c]at a;rw[fu p U c]at i3;exact cM (aD (bj (aa rfl) (aa rfl) i1) (aa rfl) a) (aD (bj (bO (aa rfl) up) (aa rfl) i3) (bj (aa rfl) (aa rfl) i1) (CZ _))
   ·rw[Qh c]at a;exact fQ (aD (bj (aa rfl) (aa rfl) i1) (aa rfl) a)
  have a2:ev (ak T 29) (sx ns k i n S.length ct (some (.int (p:Nat))) h b f g X Y Q1 Q2) (.and (.cmp .ge (.ix 9#0 (.bin .add 3#0 5#0)) 3#0) (.cmp .ne (.ix (.call 23 %[14#0|_]) 5#0) (.bin .sub (.ix 9#0 (.bin .add 3#0 5#0)) 3#0)))=some (.bl false):=by
   by_cases c:n<=at' g (n+p)
   ·rw[decide_eq_true c]at Z;rw[fd p U c]at i4
    have sb:aF .sub (.int (at' g (n+p):Nat)) (.int (n:Nat))=some (.int ((at' g (n+p)-n:Nat):Int)):=by rw[lj];congr 2;lia
    exact cM (aD (bj (aa rfl) (az (aa rfl) (aa rfl) (kf _ _)) i2) (aa rfl) Z) (aD (bj (bO (aa rfl) lw) (aa rfl) i4) (az (bj (aa rfl) (az (aa rfl) (aa rfl) (kf _ _)) i2) (aa rfl) sb) (CZ _))
   ·rw[Qh c]at Z;exact fQ (aD (bj (aa rfl) (az (aa rfl) (aa rfl) (kf _ _)) i2) (aa rfl) Z)
  exact bQ (aR a1) (bQ (aR a2) aH))
 have e10:aF .mod (.int (n:Nat)) (.int 10)=some (.int ((n%10:Nat):Int)):=rfl;have Q:aF .add (.int 1) (.int ((n%10:Nat):Int))=some (.int ((1+n%10:Nat):Int)):=rfl
 have hm:1+n%10<=10:=by lia
 have N:n≠1+n%10:=by lia
 have s:1<=1+n%10:=by lia
 have rn:cb (.int 0) (.int (n:Nat))=some (L (List.range n)):=bM ⋯;generalize 1+n%10=m at *;have P:=Fx m;have er:cb (.int 0) (.int (m:Nat))=some (L (List.range m)):=bM ⋯;have w1:ak T 29 47 [.tup (L X),.tup (L (List.range m))]=some (.str "BadPegs"):=qD ∅ (jr (pP (fn:=cB 20) rfl hT rfl rfl (CD (bO (aa rfl) (ckH 21 O I A)) (CD (bO (aa rfl) (ckH 21 s hm P)) (DF (aR (aD (aZ (aa rfl) (vk A)) (aZ (aa rfl) (vk P)) (Km N))) (Ap bo rfl))))));have w2:ak T 29 47 [.tup [.int 1],.tup (L (List.range m))]=some (.str "BadHalf"):=qD ∅ (jr (pP (fn:=cB 20) rfl hT rfl rfl (sD (IP (aa rfl) (ckB no1)))));have w3:ak T 29 47 [.tup (L (List.range m)),.tup [.int 1,.int 2,.int 0]]=some (.str "BadHalf"):=qD ∅ (jr (pP (fn:=cB 20) rfl hT rfl rfl (CD (bO (aa rfl) (ckH 21 s hm P)) (sD (IP (aa rfl) (ckB K8))))))
 have nw:bc .ne (.lst [.str "BadPegs",.str "BadHalf",.str "BadHalf"]) (.lst [.str "BadPegs",.str "BadHalf",.str "BadHalf"])=some false:=by decide +kernel
 refine⟨_,?_,aE (az aq (bj (lH (aa rfl) (az aq (aa rfl) rfl) (dM (aA aq bo)) e1) aq rfl) e0) rfl
  (pz (x_call (aA (aa rfl) (aA (az aq (aa rfl) ek) (aA (aa rfl) (aA aq bo)))) e2) rfl (by simp[au,D.imm,aS]) rfl
  (l7 (bO (aa rfl) el) (bO (aa rfl) eu) (by simp[D.imm,aS])
  (pz (dB (dB (aa rfl) (aa rfl) c1) (dB (aa rfl) (aa rfl) c2) h1) rfl (by simp[au,D.imm,aS]) rfl
  (aE (d:=.tup (L [S.length,ct])) (jA (aA (aa rfl) (aA (tt _ rfl (fun _=>rfl) (fun _=>rfl) (fun _=>rfl)) bo))) (yL _)
  (bQ (aR (vb (ff (k:=true) (dB (dB (aa rfl) (aa rfl) m1) (aa rfl) s1)) (aD (dB (aa rfl) (aa rfl) m3) (aa rfl) s2)))
  (pz (dB (aa rfl) (aa rfl) h2) rfl (by simp[au,D.imm,aS]) rfl
  (bQ (aR (aD (jA (aA (aa rfl) (aA (bO (aa rfl) th) bo))) (aa rfl) s2))
  (cY (eF (aa rfl) rn) lp
  (aE (d:=.tup (L (List.range m))) (JH (az aq (az (aa rfl) aq e10) Q) er) (yL _)
  (aE (d:=.lst [.str "BadPegs",.str "BadHalf",.str "BadHalf"]) (dM (aA (dB (aa rfl) (aa rfl) w1) (aA (dB (jA (aA aq bo)) (aa rfl) w2) (aA (dB (aa rfl) (jA (aA aq (aA aq (aA aq bo)))) w3) bo)))) rfl
  (bQ (aR (aD (aa rfl) (dM (aA aq (aA aq (aA aq bo)))) nw)) aH)))))))))))⟩
 rfl
def main(ns:List Int)(hl:ns.length<=63):ak T 30 48 [.scr (ns.map D.int)]=some (.bl true):=by
 have E:=bM (n:=9) ∅
 obtain⟨w,e,os,t,rfl⟩:=dk (f:=af (ak T 29) [] (uw 47 23 22 15 26 24 46 39 45 44 43 42 32)) (tg:=[1]) (xs:=List.range 9) (J:=some (.lst (LI ns))::replicate 15 none) (fun _ J=>∃ os:List (Option D),os.length=15/\J=some (.lst (LI ns))::os) ⟨_,by simp,rfl⟩ (by
  rintro p x q J y ⟨os,z,rfl⟩
  have s:x<9:=by
   have:x∈List.range 9:=by rw[y];simp
   simpa using this
  obtain⟨u,r,m,l,k,j,i,g,d,Z,Y,U,R,O,I,rfl⟩:=Au z;obtain⟨c,B,A⟩:=turn hl s r m l k j i g d Z Y U R O I
  exact#[_,by simpa[gB]using A,c,B,rfl])
 obtain⟨u,r,m,l,k,j,i,g,d,Z,Y,U,R,O,I,rfl⟩:=Au t
 have q:∀ {o:Option (Out × St)},o.map (·.1)=some (.rt (.bl true))->∃ J,o=some (.rt (.bl true),J):=fun {o} h=>by
  cases o with
  | none=>cases h
  |some x=>
   obtain⟨a,b⟩:=x;have h:some a=some (Out.rt (.bl true)):=h;cases h;exact#[b,rfl]
 obtain⟨v,C⟩:=q (tl (.lst (LI ns)) u r m l k j i g d Z Y U R O I);exact(ao (fn:=D5 47 23 22 15 26 24 46 39 45 44 43 42 32) rfl).trans (aT rfl rfl (aE (Df (aa rfl) aq (Kk hl)) (by simp[aX,D.imm,aG,AQ]) (cY (eF aq E) e C)))
end K15
namespace L2
open PySem PySem.Spec PyProof.Rows
@[reducible]noncomputable def Key:=Sum Int Str
abbrev my:Key->Value->Bool
 | .inl k,v=>Value.isInt k v
 | .inr x,v=>Value.isStrOf x v
abbrev Mg(w:World):Key->Int
 | .inl k=>hashInt k
 | .inr x=>hashStr w x
def cu:∀ {k:Key} {v:Value},my k v=true->(∃ i t,k=Sum.inl i/\v=Value.int i t)\/(∃ x t,k=Sum.inr x/\v=Value.str x t)
 | .inl i,v,h=>by
  obtain⟨t,e⟩:=Value.isInt_shape h;exact .inl #[i,t,rfl,e]
 | .inr x,v,h=>by
  obtain⟨t,e⟩:=Value.isStrOf_shape h;exact .inr #[x,t,rfl,e]
def Ak(i:Int)(t:Tok):my (.inl i) (.int i t)=true:=by simp[my,Value.isInt]
def yZ(x:Str)(t:Tok):my (.inr x) (.str x t)=true:=by simp[my,Value.isStrOf]
def IT(a b:Int):decide ((Sum.inl a:Key)=Sum.inl b)=(a == b):=by
 by_cases e:a=b
 ·subst e;simp
 ·have h:¬ (Sum.inl a:Key)=Sum.inl b:=fun q=>e (Sum.inl.inj q);rw[Qh h];exact(beq_eq_false_iff_ne.mpr e).symm
def Iw(a b:Str):decide ((Sum.inr a:Key)=Sum.inr b)=decide (a=b):=by
 by_cases e:a=b
 ·subst e;simp
 ·have h:¬ (Sum.inr a:Key)=Sum.inr b:=fun q=>e (Sum.inr.inj q);rw[Qh h,Qh e]
def GQ(a:Int)(b:Str):decide ((Sum.inl a:Key)=Sum.inr b)=false:=Qh (fun q=>nomatch q)
def Gh(a:Str)(b:Int):decide ((Sum.inr a:Key)=Sum.inl b)=false:=Qh (fun q=>nomatch q)
abbrev bV(prog:Program)(w:World):PySem.KeyKind prog w Key where
 is:=my
 hash:=Mg w
 inj:=fun v a b ha hb=>by
  rcases cu ha with⟨i,t,rfl,rfl⟩ | ⟨x,t,rfl,rfl⟩
  ·rcases cu hb with⟨j,u,rfl,e⟩ | ⟨y,u,rfl,e⟩
   ·injection e with I _;rw[I]
   ·exact nomatch e
  ·rcases cu hb with⟨j,u,rfl,e⟩ | ⟨y,u,rfl,e⟩
   ·exact nomatch e
   ·injection e with I _;rw[I]
 byValue:=fun k v h=>by
  rcases cu h with⟨i,t,rfl,rfl⟩ | ⟨x,t,rfl,rfl⟩<;>rfl
 pyHash:=fun O h=>by
  rcases cu O with⟨i,t,rfl,rfl⟩ | ⟨x,t,rfl,rfl⟩
  ·exact wpAny_pyHash_int h
  ·exact wpAny_pyHash_str h
 eqBool:=fun hu O h=>by
  rcases cu hu with⟨i,t,rfl,rfl⟩ | ⟨x,t,rfl,rfl⟩
  ·rcases cu O with⟨j,u,rfl,rfl⟩ | ⟨y,u,rfl,rfl⟩
   ·rw[IT]at h;exact wpAny_eqBool_int h
   ·rw[GQ]at h;exact SeqAt.EqAt.int_str i t y u _ _ _ _ h
  ·rcases cu O with⟨j,u,rfl,rfl⟩ | ⟨y,u,rfl,rfl⟩
   ·rw[Gh]at h;exact SeqAt.EqAt.str_int x t j u _ _ _ _ h
   ·rw[Iw]at h;exact wpAny_eqBool_str h
 «strs»:=fun k x t v h=>by
  rcases cu h with⟨i,u,rfl,e⟩ | ⟨y,u,rfl,e⟩
  ·exact nomatch e
  ·injection e with I _;subst I;cases v<;>rfl
def vB(prog:Program)(w:World)(i:Int)(t:Tok):(bV prog w).is (.inl i) (.int i t)=true:=Ak i t
def v7(prog:Program)(w:World)(x:Str)(t:Tok):(bV prog w).is (.inr x) (.str x t)=true:=yZ x t
set_option genInjectivity true in
inductive V where
 | non | bl (b:Bool) | int (i:Int) | str (x:Str) | byt (b:Array UInt8) | flt (b:UInt64) | ref (a:Addr) | ty (n:String)
 deriving DecidableEq
abbrev RelV:V->Value->Prop
 | .non,u=>u=Value.none
 | .bl b,u=>u=Value.bool b
 | .int i,u=>∃ t,u=Value.int i t
 | .str x,u=>∃ t,u=Value.str x t
 | .byt b,u=>∃ t,u=Value.bytes b t
 | .flt b,u=>∃ t,u=Value.float b t
 | .ref a,u=>u=Value.ref a
 | .ty n,u=>u=Value.type n
@[reducible]noncomputable def Vals:List V->List Value->Prop:=Paired RelV
def Vals.length(r:Vals xs us):xs.length=us.length:=Paired.length r
def Vals.get:∀ {xs:List V} {us:List Value} {i:Nat} {x:V},Vals xs us->xs[i]?=some x->∃ u,us[i]?=some u/\RelV x u
 | _,_,_,_,.nil,e=>by simp at e
 | _,_,0,_,.cons r _,e=>by simp at e;subst e;exact#[_,rfl,r]
 | _,_,i+1,x,.cons _ t,e=>by
  obtain⟨u,O,I⟩:=Vals.get t (by simpa using e);exact#[u,by simpa using O,I]
def Vals.set(r:RelV x u):∀ {xs:List V} {us:List Value} (i:Nat),Vals xs us->Vals (xs.set i x) (us.set i u)
 | _,_,_,.nil=>.nil
 | _,_,0,.cons _ t=>.cons r t
 | _,_,i+1,.cons q t=>.cons q (Vals.set r i t)
def Vals.append:∀ {xs ys:List V} {us I:List Value},Vals xs us->Vals ys I->Vals (xs++ys) (us++I)
 | _,_,_,_,.nil,s=>s
 | _,_,_,_,.cons r t,s=>.cons r (Vals.append t s)
def Vals.take:∀ {xs:List V} {us:List Value} (n:Nat),Vals xs us->Vals (xs.take n) (us.take n)
 | _,_,0,_=>.nil
 | _,_,_+1,.nil=>.nil
 | _,_,n+1,.cons r t=>.cons r (Vals.take n t)
def Vals.drop:∀ {xs:List V} {us:List Value} (n:Nat),Vals xs us->Vals (xs.drop n) (us.drop n)
 | _,_,0,r=>r
 | _,_,_+1,.nil=>.nil
 | _,_,n+1,.cons _ t=>Vals.drop n t
abbrev jf:Option V->Option Value->Prop
 | some v,some u=>RelV v u
 | none,none=>True
 | _,_=>False
abbrev KV:List (κ × V)->List (κ × Value)->Prop:=Paired fun(p:κ × V) (q:κ × Value)=>p.1=q.1/\RelV p.2 q.2
abbrev kV:Key->V
 | .inl i=>.int i
 | .inr x=>.str x
inductive HO where
  | lst (xs:List V)
  | tup (xs:List V)
  | dK (kvs:List (Key × V)) | dT (kvs:List (List Key × V))
  | set (S:Int->Bool) (n:Nat)
  | ins (C dx:Addr) (fs:List (Str × V))
  | own (x:Addr)
  | xd (fs:List (Str × V))
  | met (f x:Addr)
  | rng (lo hi:Int)
  | frz (o:Obj) (u:HO)
  | tbl (ps:Array Value)
  | ext (φ:Heap->Prop)
@[reducible]noncomputable def Hp:=Addr->Option HO
abbrev upd(H:Hp)(a:Addr)(o:HO):Hp:=fun b=>if b=a then some o else H b
def aV:upd H a o a=some o:=by unfold upd;rw[if_pos rfl]
def aJ(h:b≠a):upd H a o b=H b:=by unfold upd;rw[if_neg h]
def mI{H:Hp}(h:H a=some o)(h':H b=some u)(d:o≠u):a≠b:=by
 intro e;subst e;rw[h]at h';exact d (Option.some.inj h')
def aP{H:Hp}(h:H a=some o)(h':H b=none):a≠b:=by
 intro e;subst e;rw[h]at h';cases h'
section
variable(P:Program)(w:World)
abbrev bC(H:Hp)(h:Heap)(a:Addr):HO->Prop
 | .lst xs=>xs.length<=sizeLine/\∃ (its:List Value) (n:Nat),Vals xs its/\h.get? a=some { cls:=.type "list",data:=.seq its.toArray n }
 | .tup xs=>xs.length<=sizeLine/\∃ its:List Value,Vals xs its/\IsTup h a its.toArray
 | .dK kvs=>kvs.length<=sizeLine/\(a == sysModules)=false/\∃ vs,KV kvs vs/\h.DictOf (bV P w) a vs
 | .dT kvs=>kvs.length<=sizeLine/\(a == sysModules)=false/\∃ xs:List (List Key × Addr × Value),
   Paired (fun(p:List Key × V) (q:List Key × Addr × Value)=>p.1=q.1/\H q.2.1=some (.tup (p.1.map kV))/\RelV p.2 q.2.2) kvs xs /\
   ∃ o es R,h.get? a=some o/\o.ExactDict/\o.data=.dict es R/\es.toList=xs.map (entryOfKey (tupleKind (bV P w)))/\(xs.map (·.1)).Nodup
 | .set S n=>h.SetOf (intKind P w) a S n
 | .ins C dx fs=>H dx=some (.own a)/\fs.length<=1000/\dx≠a/\h.get? a=some (W.instObj C dx) /\
   ∃ mA,h.Ns1 dx mA/\(∀ f,jf (fs.lookup f) (mA f))/\PySem.Within mA (fs.map (·.1))
 | .own _=>∃ o,h.get? a=some o
 | .xd fs=>∃ mA,h.Ns1 a mA/\∀ f,jf (fs.lookup f) (mA f)
 | .rng lo hi=>∃ t u v,h.get? a=some { cls:=.type "range",data:=.fields (List.toArray [.int lo t,.int hi u,.int 1 v]) }
 | .frz o u=>h.get? a=some o/\bC H h a u
 | .tbl ps=>h.get? a=some { cls:=.none,data:=.fields ps }
 | .met f x=>h.get? a=some (W.methodObj (.ref f) (.ref x))
 | .ext φ=>φ h/\(∃ o,h.get? a=some o)/\∀ O I:Heap,φ O->(∀ o,O.get? a=some o->I.get? a=some o)->φ I
abbrev HOk(H:Hp)(h:Heap):Prop:=∀ a o,H a=some o->bC P w H h a o
end
section
variable{P:Program}{w:World}{H H':Hp}{h h':Heap}{a:Addr}{o:HO}
def bC.lt(x:bC P w H h a o):a<h.objs.size:=by
 cases o with
 | lst xs=>obtain⟨_,_,_,_,e⟩:=x;exact Qf e
 | tup xs=>obtain⟨_,_,_,p⟩:=x;exact p.lt
 | dK kvs=>obtain⟨_,_,_,_,o,_,_,e,_⟩:=x;exact Qf e
 | dT kvs=>obtain⟨_,_,_,_,o,_,_,e,_⟩:=x;exact Qf e
 | set S n=>obtain⟨o,_,_,_,e,_⟩:=x;exact Qf e
 | ins C dx fs=>obtain⟨_,_,_,e,_⟩:=x;exact Qf e
 | own y=>obtain⟨_,e⟩:=x;exact Qf e
 | xd fs=>obtain⟨_,⟨_,_,_,e,_⟩,_⟩:=x;exact Qf e
 | rng lo hi=>obtain⟨_,_,_,e⟩:=x;exact Qf e
 | frz ob u=>obtain⟨e,_⟩:=x;exact Qf e
 | tbl ps=>exact Qf (show h.get? a=some _ from x)
 | met f y=>exact Qf (show h.get? a=some _ from x)
 | ext φ=>obtain⟨_,⟨_,e⟩,_⟩:=x;exact Qf e
def Paired.Cy:∀ {O:List α} {I:List β},Paired F O I->(∀ a b,F a b->G a b)->Paired G O I
 | _,_,.nil,_=>.nil
 | _,_,.cons r t,f=>.cons (f _ _ r) (Paired.Cy t f)
def bC.kU(x:bC P w H h a o)(k:∀ b u,(b=a\/H b=some (.own a))->h.get? b=some u->h'.get? b=some u)
 (U:∀ b,H b=some (.own a)->H' b=some (.own a))(R:∀ b xs,H b=some (.tup xs)->H' b=some (.tup xs)):bC P w H' h' a o:=by
 induction o with
 | lst xs=>obtain⟨z,its,n,r,e⟩:=x;exact#[z,its,n,r,k _ _ (.inl rfl) e]
 | tup xs=>obtain⟨z,its,r,ob,e,c⟩:=x;exact#[z,its,r,ob,k _ _ (.inl rfl) e,c]
 | dK kvs=>obtain⟨z,y,vs,r,ob,es,I,e,c⟩:=x;exact#[z,y,vs,r,ob,es,I,k _ _ (.inl rfl) e,c]
 |dT kvs=>
  obtain⟨z,y,xs,r,ob,es,I,e,c⟩:=x;exact#[z,y,xs,Paired.Cy r fun p q z=>#[z.1,R _ _ z.2.1,z.2.2],ob,es,I,k _ _ (.inl rfl) e,c]
 | set S n=>obtain⟨ob,es,I,t,e,c⟩:=x;exact#[ob,es,I,t,k _ _ (.inl rfl) e,c]
 |ins C dx fs=>
  obtain⟨d,z,ne,e,mA,⟨od,es,I,Y,c⟩,r⟩:=x;exact#[U _ d,z,ne,k _ _ (.inl rfl) e,mA,#[od,es,I,k _ _ (.inr d) Y,c],r]
 | own y=>obtain⟨ob,e⟩:=x;exact#[ob,k _ _ (.inl rfl) e]
 | xd fs=>obtain⟨mA,⟨od,es,I,e,c⟩,r⟩:=x;exact#[mA,#[od,es,I,k _ _ (.inl rfl) e,c],r]
 | rng lo hi=>obtain⟨t,u,v,e⟩:=x;exact#[t,u,v,k _ _ (.inl rfl) e]
 | frz ob u O=>obtain⟨e,q⟩:=x;exact#[k _ _ (.inl rfl) e,O q]
 |tbl ps=>
  have e:h.get? a=some { cls:=.none,data:=.fields ps }:=x;show h'.get? a=some { cls:=.none,data:=.fields ps };exact k a _ (.inl rfl) e
 |met f y=>
  have e:h.get? a=some (W.methodObj (.ref f) (.ref y)):=x;show h'.get? a=some (W.methodObj (.ref f) (.ref y));exact k a _ (.inl rfl) e
 | ext φ=>obtain⟨p,⟨o,e⟩,st⟩:=x;exact#[st _ _ p fun o q=>k _ _ (.inl rfl) q,#[o,k _ _ (.inl rfl) e],st]
def HOk.lt(x:HOk P w H h)(e:H a=some o):a<h.objs.size:=(x a o e).lt
def HOk.fresh(x:HOk P w H h)(e:h.objs.size<=a):H a=none:=by
 cases q:H a with
 | none=>rfl
 | some u=>exact absurd (Qg (x.lt q) e) (Qy _)
def HOk.kept(x:HOk P w H h)(k:∀ b u,h.get? b=some u->h'.get? b=some u):HOk P w H h':=fun a o e =>
 (x a o e).kU (fun b u _ q=>k b u q) (fun _ q=>q) fun _ _ q=>q
def HOk.laid(x:HOk P w H h)(k:∀ b u,h.get? b=some u->h'.get? b=some u)(O:h.objs.size<=a)(I:bC P w (upd H a o) h' a o):HOk P w (upd H a o) h':=fun b u e=>by
 have hn:=x.fresh O;by_cases hb:b=a
 ·subst hb;rw[aV]at e;cases e;exact I
 ·rw[aJ hb]at e
  exact(x b u e).kU (fun c v _ q=>k c v q) (fun c q=>by rw[aJ (aP q hn)];exact q) fun c xs q=>by rw[aJ (aP q hn)];exact q
end
abbrev Rd(H:Hp)(a:Addr)(u:HO):Prop:=H a=some u\/∃ o,H a=some (.frz o u)
def Rd.ok(r:Rd H a u)(x:HOk P w H h):bC P w H h a u:=by
 rcases r with r | ⟨o,r⟩
 ·exact x a u r
 ·obtain⟨_,q⟩:=x a _ r;exact q
abbrev Mut:Option HO->Prop
 | some (.lst _)=>True
 | some (.dK _)=>True
 | some (.dT _)=>True
 | some (.set _ _)=>True
 | some (.ins _ _ _)=>True
 | some (.ext _)=>True
 | _=>False
section
variable{P:Program}{w:World}{H:Hp}{h h':Heap}{x e:Addr}{o':HO}
def HOk.write(ok:HOk P w H h)(U:Mut (H x))(d:e=x\/H e=some (.own x))(k:∀ b u,b≠e->h.get? b=some u->h'.get? b=some u)(a:∃ u,h'.get? e=some u)
 (Z:bC P w (upd H x o') h' x o'):HOk P w (upd H x o') h':=fun b u q=>by
 have O:∀ c y,H c=some (.own y)->c≠x:=fun c y r z=>by subst z;rw[r]at U;exact U
 have R:∀ c xs,H c=some (.tup xs)->c≠x:=fun c xs r z=>by subst z;rw[r]at U;exact U
 by_cases hb:b=x
 ·subst hb;rw[aV]at q;cases q;exact Z
 ·rw[aJ hb]at q;by_cases I:b=e
  ·have q':H b=some (.own x):=by
    rcases d with z | z
    ·exact absurd (I.trans z) hb
    ·rw[I];exact z
   rw[q]at q';cases q';obtain⟨v,f⟩:=a;exact#[v,by rw[I];exact f]
  ·refine(ok b u q).kU (fun c v Y r=>k c v ?_ r) (fun c r=>by rw[aJ (O c b r)];exact r) fun c xs r=>by rw[aJ (R c xs r)];exact r
   rcases Y with rfl | Y
   ·exact I
   ·rintro rfl;rcases d with z | z
    ·exact O c b Y z
    ·rw[Y]at z;cases z;exact hb rfl
end
structure Un(fs ex:List Addr)(H H':Hp)(h h':Heap):Prop where
 keep:∀ b o,h.get? b=some o->H b=none->b∉fs->b∉ex->h'.get? b=some o
 slot:∀ b o,h.get? b=some o->H b=none->b∈fs->b∉ex->∃ sl,h'.get? b=some { o with slots:=sl }
 free:∀ b o,h.get? b=some o->H b=none->b∉ex->H' b=none
 there:∀ b o,h.get? b=some o->b∉ex->∃ o',h'.get? b=some o'
 f9:∀ b xs,H b=some (.tup xs)->H' b=some (.tup xs)
 dD:∀ b o u,H b=some (.frz o u)->H' b=some (.frz o u)
 fD:∀ b ps,H b=some (.tbl ps)->∃ more,H' b=some (.tbl (ps++more))
section
variable{fs fs' ex ex':List Addr}{H H1 H2:Hp}{h h1 h2 h':Heap}{a x e:Addr}{o:HO}
def Un.any(u:Un fs ex H H1 h h1)(q:h.get? b=some ob)(n:H b=none)(I:b∉ex):∃ sl,h1.get? b=some { ob with slots:=sl }:=by
 by_cases hb:b∈fs
 ·exact u.slot b ob q n hb I
 ·exact#[ob.slots,u.keep b ob q n hb I]
def Un.kept(k:∀ b u,h.get? b=some u->h'.get? b=some u):Un fs ex H H h h' :=
 ⟨fun b ob q _ _ _=>k b ob q,fun b ob q _ _ _=>#[ob.slots,k b ob q],fun _ _ _ n _=>n,fun b ob q _=>#[ob,k b ob q],fun _ _ q=>q,fun _ _ _ q=>q,fun _ ps q=>#[(List.toArray []),by rw[q];simp]⟩
def Un.refl:Un fs ex H H h h:=Un.kept fun _ _ q=>q
def Un.laid(k:∀ b u,h.get? b=some u->h'.get? b=some u)(I:h.objs.size<=a)(hn:H a=none):Un fs ex H (upd H a o) h h' where
 keep:=fun b u q _ _ _=>k b u q
 slot:=fun b u q _ _ _=>#[u.slots,k b u q]
 free:=fun b u q n _=>by rw[aJ (Ql (Qg (Qf q) I))];exact n
 there:=fun b u q _=>#[u,k b u q]
 f9:=fun b xs q=>by rw[aJ (aP q hn)];exact q
 dD:=fun b u xs q=>by rw[aJ (aP q hn)];exact q
 fD:=fun b ps q=>#[(List.toArray []),by rw[aJ (aP q hn),q];simp]
def Un.write(O:Mut (H x))(Y:e=x\/H e=some (.own x))(k:∀ b u,b≠e->h.get? b=some u->h'.get? b=some u)(R:∃ u,h'.get? e=some u):Un fs ex H (upd H x o) h h':=by
 have U:∀ b,H b=none->b≠x:=fun b n z=>by subst z;rw[n]at O;exact O
 have hb:∀ b,H b=none->b≠e:=fun b n z=>by
  subst z;rcases Y with r | r
  ·exact U b n r
  ·rw[n]at r;cases r
 have hm:∀ b u,H b=some u->¬ Mut (some u)->b≠x:=fun b u q nm z=>by subst z;rw[q]at O;exact nm O
 refine⟨fun b u q n _ _=>k b u (hb b n) q,fun b u q n _ _=>#[u.slots,k b u (hb b n) q],fun b u q n _=>by rw[aJ (U b n)];exact n,fun b u q _=>?_,
  fun b xs q=>by rw[aJ (hm b _ q fun z=>z)];exact q,fun b u xs q=>by rw[aJ (hm b _ q fun z=>z)];exact q,fun b ps q=>#[(List.toArray []),by rw[aJ (hm b _ q fun z=>z),q];simp]⟩
 by_cases I:b=e
 ·subst I;exact R
 ·exact#[u,k b u I q]
end
abbrev trk(h:Heap)(H:Hp):List Addr:=(List.range h.objs.size).filter fun a=>(H a).isSome
abbrev kG(h:Heap)(H:Hp):Heap:=W.hideAll h (trk h H)
def Aq(h:Heap)(H:Hp):(kG h H).objs.size=h.objs.size:=W.hideAll_size _ _
def BG(e:h.get? b=some o)(n:H b=none):(kG h H).get? b=some o :=
 W.hideAll_get _ e fun hm=>by
  have q:=(List.mem_filter.mp hm).2;rw[n]at q;simp at q
def Ex(e:(kG h H).get? b=some o):h.get? b=some o/\H b=none:=by
 have e':=W.of_hideAll (trk h H) e;refine#[e',?_]
 cases q:H b with
 | none=>rfl
 |some x=>
  have hm:b∈trk h H:=List.mem_filter.mpr ⟨List.mem_range.mpr (Qf e'),by simp[q]⟩;have z:(kG h H).get? b=none:=W.hideAll_none (trk h H) hm;rw[z]at e;cases e
structure Mod(K:W.Frag)(mg:Str->Option Value)(base:Heap):Prop where
 kin:K.In base
 glob:base.Ns mainGlobals mg
 blt:∃ mb,base.Ns builtinsNs mb/\∀ x:Str,x ≠ "__name__" -> mb x=bootBuiltins x
 nolimit:base.NoLimit
structure Cx where
 prog:Program
 w:World
 K:W.Frag
 mg:Str->Option Value
 base:Heap
 A:Around
 N:List Str
 s₀:Shared
 H₀:Hp
 env:Env
 outer:List Env
 stack:List Env
 ex:List Addr
 fn:Str->Bool
 calm:Bool
 pn:List (Addr × Obj)
 xe:Value->Shared->Prop
abbrev frs(l:List Env):List Addr:=l.filterMap (·.frame)
@[reducible]noncomputable def Cx.fs(X:Cx):List Addr:=frs X.outer
abbrev Vis(sc:Scope)(x:Str):Prop:=sc.names.lookup x=some .local\/sc.names.lookup x=some .cell\/sc.names.lookup x=some .free
abbrev Loc(sc:Scope)(x:Str):Prop:=sc.names.lookup x=some .local\/sc.names.lookup x=some .cell
abbrev Look(env:Env)(h:Heap)(m:Str->Option Value)(x:Str)(u:Value):Prop :=
 (env.kindOf x=some .local/\m x=some u)\/((env.kindOf x=some .cell\/env.kindOf x=some .free)/\∃ c,env.cells.lookup x=some c/\h.IsCell c (some u))
abbrev HX(X:Cx):Prop:=X.A.handled=none\/∃ h o u vs,X.A.handled=some (.ref h)/\X.H₀ h=some (.frz o u)/\o.data=.fields vs/\vs[2]?=some .none
structure Cx.Ok(X:Cx):Prop where
 mod:Mod X.K X.mg X.base
 kind:X.env.scope.kind=.function
 glob:X.env.globals=mainGlobals
 blt:X.env.builtins=builtinsNs
 above:X.s₀.heap.objs.size<=X.env.locals
 inj:∀ x y c,X.env.cells.lookup x=some c->X.env.cells.lookup y=some c->x=y
 has:∀ x,(X.env.kindOf x=some .cell\/X.env.kindOf x=some .free)->∃ c,X.env.cells.lookup x=some c
 cab:∀ x c,X.fn x=true->X.env.cells.lookup x=some c->X.s₀.heap.objs.size<=c
 hd:(X.calm=true->X.A.handled=none)/\HX X
 frames:X.A.frames=some X.stack
 stk:X.stack=X.outer\/(X.stack=X.env::X.outer/\X.env.frame=some X.env.locals)
 exf:∀ b∈X.ex,b≠X.env.locals/\∀ x c,X.env.cells.lookup x=some c->c≠b
 bs:∀ b o,X.base.get? b=some o->X.s₀.heap.get? b=some o/\X.H₀ b=none
 bsz:X.base.objs.size<=X.s₀.heap.objs.size
 l3:∀ b o,X.base.get? b=some o->b∉X.ex
 lu:∀ b∈X.ex,b∉X.fs
 eI:X.s₀.heap.FunFrames X.base X.outer
 frf:∀ b∈X.fs,X.H₀ b=none
structure Inv(X:Cx)(pins:List (Addr × Obj))(J:List (Option V))(H:Hp)(s:Shared):Prop where
 ok:X.Ok
 os:s.os=X.s₀.os
 bare:AllBare s.gens
 base:Un X.fs X.ex X.H₀ H X.s₀.heap s.heap
 loc:∃ m,s.heap.Ns X.env.locals m/\∀ (i:Nat) (x:Str) (v:V),X.N[i]?=some x->J[i]?=some (some v)->Vis X.env.scope x->∃ u,RelV v u/\Look X.env s.heap m x u
 cell:∀ x c,X.env.cells.lookup x=some c->∃ v,s.heap.IsCell c v
 free:H X.env.locals=none
 di:∀ x c,X.env.cells.lookup x=some c->H c=none
 pin:∀ p∈X.pn++pins,s.heap.get? p.1=some p.2/\H p.1=none/\p.1≠X.env.locals/\p.1∉X.fs/\∀ v,p.2.data≠.cell v
 hok:HOk X.prog X.w H s.heap
 len:J.length=X.N.length
section
variable{X:Cx}{pins:List (Addr × Obj)}{J:List (Option V)}{H H':Hp}{s:Shared}{h':Heap}
def Cx.Ok.Lj(ok:X.Ok)(e:X.base.get? b=some o):b∉X.fs:=fun hb=>by
 have:=(ok.eI.mem hb).1;rw[e]at this;cases this
def Inv.bs(I:Inv X pins J H s):∀ b o,X.base.get? b=some o->s.heap.get? b=some o/\H b=none:=fun b o e =>
 ⟨I.base.keep b o (I.ok.bs b o e).1 (I.ok.bs b o e).2 (I.ok.Lj e) (I.ok.l3 b o e),I.base.free b o (I.ok.bs b o e).1 (I.ok.bs b o e).2 (I.ok.l3 b o e)⟩
def Inv.bk(I:Inv X pins J H s):∀ b o,X.base.get? b=some o->s.heap.get? b=some o:=fun b o e=>(I.bs b o e).1
def Inv.mod(I:Inv X pins J H s):Mod X.K X.mg X.base:=I.ok.mod
def Inv.kIn(I:Inv X pins J H s):X.K.In s.heap:=I.ok.mod.kin.keeps I.bk
def Inv.lt(I:Inv X pins J H s):X.env.locals<s.heap.objs.size:=let ⟨_,hn,_⟩:=I.loc;hn.lt
def Inv.sz(I:Inv X pins J H s):X.s₀.heap.objs.size<=s.heap.objs.size:=Qn I.ok.above (le_of_lt I.lt)
def Inv.Lx(I:Inv X pins J H s)(h:s.heap.objs.size<=a):a∉X.fs:=fun hb=>by
 obtain⟨_,o,O,_⟩:=I.ok.eI.mem hb;exact absurd (Qg (Qf O) (Qn I.sz h)) (Qy _)
def Inv.cne(I:Inv X pins J H s):∀ x c,X.env.cells.lookup x=some c->c≠X.env.locals:=fun x c e z=>by
 obtain⟨v,o,U,hd⟩:=I.cell x c e;obtain⟨m,⟨o',es,Y,O,R,_⟩,_⟩:=I.loc;rw[z,O]at U;cases U;rw[R]at hd;cases hd
def Inv.eI(I:Inv X pins J H s):s.heap.FunFrames X.base X.outer:=by
 have all:∀ (l:List Env),(∀ b∈frs l,b∈X.fs)->X.s₀.heap.FunFrames X.base l->s.heap.FunFrames X.base l:=by
  intro l
  induction l with
  | nil=>intro _ _;trivial
  |cons env r U=>
   intro R hl;obtain⟨hk,⟨L,o,hf,hn,Z,hd⟩,Y⟩:=hl;have O:=R L (by unfold frs;rw[filterMap_cons,hf];exact Qq);obtain⟨sl,e⟩:=I.base.slot L o Z (I.ok.frf L O) O fun z=>I.ok.lu L z O;exact#[hk,#[L,_,hf,hn,e,hd],U (fun b hb=>R b (by unfold frs;rw[filterMap_cons,hf];exact Qk _ hb)) Y]
 exact all X.outer (fun _ hb=>hb) I.ok.eI
def Inv.stack(I:Inv X pins J H s):s.heap.FunFrames X.base X.stack:=by
 rcases I.ok.stk with e | ⟨e,hf⟩
 ·rw[e];exact I.eI
 ·rw[e];obtain⟨m,hn,_⟩:=I.loc;refine .cons (by rw[I.ok.kind];decide) hf hn ?_ I.eI;exact Heap.get?_none_of_le (Qn I.ok.bsz I.ok.above)
def Inv.sR(I:Inv X pins J H s):∀ b∈frs X.stack,b∈X.env.locals::X.fs:=fun b hb=>by
 rcases I.ok.stk with e | ⟨e,hf⟩
 ·rw[e]at hb;exact Qk _ hb
 ·rw[e]at hb;unfold frs at hb;rw[filterMap_cons,hf]at hb;exact hb
def Inv.m8(I:Inv X pins J H s):∀ b∈frs X.stack,H b=none:=fun b hb=>by
 rcases List.mem_cons.mp (I.sR b hb)with e | hb
 ·rw[e];exact I.free
 ·obtain⟨_,o,O,_⟩:=I.ok.eI.mem hb;exact I.base.free b o O (I.ok.frf b hb) fun z=>I.ok.lu b z hb
def Inv.step{g':Array GenState}{A:Nat}{d':Drawn}{ch:List Addr}(I:Inv X pins J H s)
 (U:∀ b∈ch,(b∈X.ex\/X.s₀.heap.objs.size<=b)/\b≠X.env.locals/\(∀ x c,X.env.cells.lookup x=some c->c≠b)/\∀ p∈X.pn++pins,p.1≠b)
 (keep:∀ b o,b≠X.env.locals->b∉X.fs->b∉ch->s.heap.get? b=some o->H b=none->h'.get? b=some o)
 (slot:∀ b o,b≠X.env.locals->b∈X.fs->b∉ch->s.heap.get? b=some o->H b=none->∃ sl,h'.get? b=some { o with slots:=sl })(free:∀ b o,b∉ch->s.heap.get? b=some o->H b=none->H' b=none)
 (there:∀ b o,b∉ch->s.heap.get? b=some o->∃ o',h'.get? b=some o')
 (f9:∀ b xs,H b=some (.tup xs)->H' b=some (.tup xs))(dD:∀ b o u,H b=some (.frz o u)->H' b=some (.frz o u))(fD:∀ b ps,H b=some (.tbl ps)->∃ more,H' b=some (.tbl (ps++more)))
 (ns:∀ m,s.heap.Ns X.env.locals m->h'.Ns X.env.locals m)(hok:HOk X.prog X.w H' h')(hg:AllBare g') :
  Inv X pins J H' { s with heap:=h',gens:=g',drawn:=d',toks:=A }:=by
 have f:∀ b o,X.s₀.heap.get? b=some o->b≠X.env.locals:=fun b o e=>Ql (Qg (Qf e) I.ok.above)
 have Y:∀ b o,X.s₀.heap.get? b=some o->b∉X.ex->b∉ch:=fun b o e O hb=>by
  rcases(U b hb).1 with z | z
  ·exact O z
  ·exact absurd (Qg (Qf e) z) (Qy _)
 have cellK:∀ x c,X.env.cells.lookup x=some c->∀ v,s.heap.IsCell c v->h'.IsCell c v:=fun x c e v ⟨o,a,hd⟩=>by
  have R:c∉ch:=fun z=>(U c z).2.2.1 x c e rfl;by_cases y:c∈X.fs
  ·obtain⟨sl,q⟩:=slot c o (I.cne x c e) y R a (I.di x c e);exact#[_,q,hd]
  ·exact#[o,keep c o (I.cne x c e) y R a (I.di x c e),hd]
 refine#[I.ok,I.os,hg,#[fun b o e n hb O=>?_,fun b o e n hb O=>?_,fun b o e n O=>?_,fun b o e O=>?_,fun b xs e=>f9 b xs (I.base.f9 b xs e),fun b o xs e=>dD b o xs (I.base.dD b o xs e),fun b ps e=>?_],?_,fun x c e=>?_,?_,fun x c e=>?_,fun p t=>?_,hok,I.len]
 ·exact keep b o (f b o e) hb (Y b o e O) (I.base.keep b o e n hb O) (I.base.free b o e n O)
 ·obtain⟨sl,Z⟩:=I.base.slot b o e n hb O;obtain⟨h,g⟩:=slot b _ (f b o e) hb (Y b o e O) Z (I.base.free b o e n O);exact#[h,g]
 ·obtain⟨o',Z⟩:=I.base.there b o e O;exact free b o' (Y b o e O) Z (I.base.free b o e n O)
 ·obtain⟨o',Z⟩:=I.base.there b o e O;exact there b o' (Y b o e O) Z
 ·obtain⟨C,Z⟩:=I.base.fD b ps e;obtain⟨B,g⟩:=fD b _ Z;exact#[C++B,by rw[g,Array.append_assoc]]
 ·obtain⟨m,hn,hl⟩:=I.loc;refine#[m,ns m hn,fun i x v Z g D=>?_];obtain⟨u,r,l⟩:=hl i x v Z g D;refine#[u,r,?_]
  rcases l with l | ⟨k,c,e,z⟩
  ·exact .inl l
  ·exact .inr #[k,c,e,cellK x c e _ z]
 ·obtain⟨v,z⟩:=I.cell x c e;exact#[v,cellK x c e v z]
 ·obtain⟨m,⟨o,_,_,a,_⟩,_⟩:=I.loc;exact free _ o (fun z=>(U _ z).2.1 rfl) a I.free
 ·obtain⟨v,o,a,hd⟩:=I.cell x c e;exact free c o (fun z=>(U c z).2.2.1 x c e rfl) a (I.di x c e)
 ·obtain⟨e,n,ne,j,d⟩:=I.pin p t;have R:p.1∉ch:=fun z=>(U p.1 z).2.2.2 p t rfl;exact#[keep p.1 p.2 ne j R e n,free p.1 p.2 R e n,ne,j,d]
def Inv.un(I:Inv X pins J H s)(u:Un X.fs [] H H' s.heap h')(hok:HOk X.prog X.w H' h'):Inv X pins J H' { s with heap:=h',toks:=t' }:=by
 obtain⟨m,⟨o,es,d,Y,r⟩,_⟩:=id I.loc;obtain⟨sl,a⟩:=u.any Y I.free (by simp)
 exact I.step (g':=s.gens) (d':=s.drawn) (ch:=[]) (fun _ z=>nomatch z) (fun b o _ hb _ e n=>u.keep b o e n hb (by simp)) (fun b o _ hb _ e n=>u.slot b o e n hb (by simp)) (fun b o _ e n=>u.free b o e n (by simp)) (fun b o _ e=>u.there b o e (by simp)) u.f9 u.dD u.fD (fun c hm=>by
  obtain⟨o',R,U,O,Z⟩:=hm;rw[Y]at O;cases O
  exact#[_,R,U,a,Z]) hok I.bare
def Inv.call(I:Inv X pins J H s)(u:Un (frs X.stack) ch H H' s.heap h')(hok:HOk X.prog X.w H' h')(hg:AllBare g')
 (U:∀ b∈ch,(b∈X.ex\/X.s₀.heap.objs.size<=b)/\b≠X.env.locals/\(∀ x c,X.env.cells.lookup x=some c->c≠b)/\∀ p∈X.pn++pins,p.1≠b) :
  Inv X pins J H' { s with heap:=h',gens:=g',drawn:=d',toks:=t' }:=by
 obtain⟨m,⟨o,es,h,d,r⟩,_⟩:=id I.loc;obtain⟨sl,Y⟩:=u.any d I.free fun z=>(U _ z).2.1 rfl
 exact I.step (ch:=ch) U (fun b o Y hb O e n=>u.keep b o e n (fun z=>(List.mem_cons.mp (I.sR b z)).elim Y hb) O) (fun b o _ _ O e n=>u.any e n O) (fun b o O e n=>u.free b o e n O) (fun b o O e=>u.there b o e O) u.f9 u.dD u.fD (fun g hm=>by
  obtain⟨o',Z,a,R,f⟩:=hm;rw[d]at R;cases R
  exact#[_,Z,a,Y,f]) hok hg
def Inv.turned(I:Inv X pins J H s)(k:∀ b o,b≠it->s.heap.get? b=some o->h'.get? b=some o)(hn:H it=none)(U:it≠X.env.locals)
 (d:it∈X.ex\/X.s₀.heap.objs.size<=it)(a:∀ x c,X.env.cells.lookup x=some c->c≠it)(Z:∀ p∈X.pn++pins,p.1≠it):Inv X pins J H { s with heap:=h',toks:=t' }:=by
 have R:∀ b u,H b=some u->b≠it:=fun b u e z=>by rw[z,hn]at e;cases e
 refine I.step (g':=s.gens) (d':=s.drawn) (ch:=[it]) (fun b hb=>?_) (fun b o _ _ O e _=>k b o (fun z=>O (by simp[z])) e) (fun b o _ _ O e _=>#[o.slots,k b o (fun z=>O (by simp[z])) e]) (fun _ _ _ _ n=>n)
  (fun b o O e=>#[o,k b o (fun z=>O (by simp[z])) e]) (fun _ _ e=>e) (fun _ _ _ e=>e) (fun b ps e=>#[(List.toArray []),by rw[e];simp]) (fun m hm=>?_) (fun b u e=>?_) I.bare
 ·have e:b=it:=by simpa using hb
  subst e;exact#[d,U,a,Z]
 ·obtain⟨o,es,f,Y,r⟩:=hm;exact#[o,es,f,k _ o (Ne.symm U) Y,r]
 ·refine(I.hok b u e).kU (fun c v O q=>k c v ?_ q) (fun _ q=>q) fun _ _ q=>q;rcases O with z | z
  ·rw[z];exact R b u e
  ·exact R c _ z
def Inv.tok(I:Inv X pins J H s)(t:Nat):Inv X pins J H { s with toks:=t }:=I.un Un.refl I.hok
def Inv.kept(I:Inv X pins J H s)(k:∀ b u,s.heap.get? b=some u->h'.get? b=some u):Inv X pins J H { s with heap:=h',toks:=t' }:=I.un (Un.kept k) (I.hok.kept k)
def Inv.laid(I:Inv X pins J H s)(k:∀ b u,s.heap.get? b=some u->h'.get? b=some u)(R:s.heap.objs.size<=a)(O:bC X.prog X.w (upd H a o) h' a o) :
  Inv X pins J (upd H a o) { s with heap:=h',toks:=t' }:=I.un (Un.laid k R (I.hok.fresh R)) (I.hok.laid k R O)
def Inv.write(I:Inv X pins J H s)(U:Mut (H x))(Y:e=x\/H e=some (.own x))(k:∀ b u,b≠e->s.heap.get? b=some u->h'.get? b=some u)(O:∃ u,h'.get? e=some u)
 (R:bC X.prog X.w (upd H x o) h' x o):Inv X pins J (upd H x o) { s with heap:=h',toks:=Z }:=I.un (Un.write U Y k O) (I.hok.write U Y k O R)
def Inv.weak(I:Inv X pins J H s)(hl:QM.length=J.length)(w:∀ (i:Nat) v,QM[i]?=some (some v)->J[i]?=some (some v)):Inv X pins QM H s :=
 ⟨I.ok,I.os,I.bare,I.base,let ⟨m,hn,O⟩:=I.loc;⟨m,hn,fun i x v Y U R=>O i x v Y (w i v U) R⟩,I.cell,I.free,I.di,I.pin,I.hok,hl.trans I.len⟩
def Inv.wO(I:Inv X pins J H s)(h:∀ p∈O,s.heap.get? p.1=some p.2/\H p.1=none/\p.1≠X.env.locals/\p.1∉X.fs/\∀ v,p.2.data≠.cell v):Inv X O J H s :=
 ⟨I.ok,I.os,I.bare,I.base,I.loc,I.cell,I.free,I.di,fun p R=>(List.mem_append.mp R).elim (fun z=>I.pin p (List.mem_append_left _ z)) (h p),I.hok,I.len⟩
def nJ{N:List Str}(I:N.Nodup){i j:Nat}(a:N[i]?=some x)(b:N[j]?=some x):i=j:=by
 obtain⟨Y,R⟩:=List.getElem?_eq_some_iff.mp a;obtain⟨U,O⟩:=List.getElem?_eq_some_iff.mp b;exact(List.getElem_inj I).mp (R.trans O.symm)
def qY{M:Model}{A:Around}(I:Inv X pins J H s)(hN:X.N.Nodup)(hi:X.N[i]?=some x)(Y:Loc X.env.scope x)(r:RelV v u)
 (h:∀ s',Inv X pins (J.set i (some v)) H s'->(∃ a,Heap.SameBut a s.heap s'.heap/\(a=X.env.locals\/X.env.cells.lookup x=some a))->Q () s')(hf:X.fn x=true\/X.env.scope.names.lookup x=some .local):wpAny M A (storeName X.env x u) Q E s:=by
 obtain⟨m,hn,hl⟩:=id I.loc
 have C:(X.env.scope.kind == .class || (X.env.scope.kind == .module&&X.env.locals != X.env.globals))=false:=by rw[I.ok.kind];rfl
 have g:i<J.length:=by rw[I.len];exact(List.getElem?_eq_some_iff.mp hi).1
 have cne:=I.cne
 have tracked:∀ {a:Addr} {h':Heap},(∃ o,s.heap.get? a=some o/\H a=none)->Heap.SameBut a s.heap h'->HOk X.prog X.w H h':=fun {a h'} ha O b ob e=>by
  obtain⟨_,_,Z⟩:=ha;refine(I.hok b ob e).kU (fun c G U q=>(O.2 c ?_).trans q) (fun _ q=>q) fun _ _ q=>q;rintro rfl;rcases U with rfl | U
  ·rw[Z]at e;cases e
  ·rw[Z]at U;cases U
 rcases Y with hk | hk
 ·refine wpAny_storeName_local hk hn (fun h' V O=>?_) C;obtain⟨oL,_,_,T,_⟩:=id hn;refine h _ ⟨I.ok,I.os,I.bare,⟨fun b o e n hb Y=>?_,fun b o e n hb Y=>?_,I.base.free,fun b o e Y=>?_,I.base.f9,I.base.dD,I.base.fD⟩,⟨_,V,fun j y QK R f e3=>?_⟩,fun y c e=>?_,I.free,I.di,fun p S=>?_,tracked ⟨oL,T,I.free⟩ O,by simpa using I.len⟩ ⟨_,O,.inl rfl⟩
  ·exact(O.2 b (Ql (Qg (Qf e) I.ok.above))).trans (I.base.keep b o e n hb Y)
  ·obtain⟨sl,R⟩:=I.base.slot b o e n hb Y;exact#[sl,(O.2 b (Ql (Qg (Qf e) I.ok.above))).trans R]
  ·obtain⟨o',R⟩:=I.base.there b o e Y;exact#[o',(O.2 b (Ql (Qg (Qf e) I.ok.above))).trans R]
  ·by_cases l:j=i
   ·subst l;rw[hi]at R;cases R;rw[Qi g]at f;cases f;exact#[u,r,.inl #[hk,by simp]]
   ·rw[Qe (Ne.symm l)]at f;obtain⟨K,L,q⟩:=hl j y QK R f e3;refine#[K,L,?_]
    rcases q with⟨k,e⟩ | ⟨k,c,e,z⟩
    ·refine .inl #[k,?_];have:y≠x:=fun e=>l (nJ hN R (e▸hi));simp[this,e]
    ·exact .inr #[k,c,e,z.sameBut O (cne y c e)]
  ·obtain⟨G,z⟩:=I.cell y c e;exact#[G,z.sameBut O (cne y c e)]
  ·obtain⟨e,n,ne,P,d⟩:=I.pin p S;exact#[(O.2 p.1 ne).trans e,n,ne,P,d]
 ·have hfn:X.fn x=true:=by
   rcases hf with z | z
   ·exact z
   ·rw[z]at hk;cases hk
  obtain⟨c,U⟩:=I.ok.has x (.inl hk);obtain⟨G,z⟩:=I.cell x c U;refine wpAny_storeName_cell I.ok.kind hk U z (fun h' F O=>?_);obtain⟨oc,B,t⟩:=id z;refine h { s with heap:=h' } ⟨I.ok,I.os,I.bare,⟨fun b o e n hb Y=>?_,fun b o e n hb Y=>?_,I.base.free,fun b o e Y=>?_,I.base.f9,I.base.dD,I.base.fD⟩,⟨m,hn.sameBut O (Ne.symm (cne x c U)),fun j y QK R f e3=>?_⟩,fun y c' e=>?_,I.free,I.di,fun p S=>?_,tracked ⟨oc,B,I.di x c U⟩ O,by simpa using I.len⟩ ⟨c,O,.inr U⟩
  ·exact(O.2 b (Ql (Qg (Qf e) (I.ok.cab x c hfn U)))).trans (I.base.keep b o e n hb Y)
  ·obtain⟨sl,R⟩:=I.base.slot b o e n hb Y;exact#[sl,(O.2 b (Ql (Qg (Qf e) (I.ok.cab x c hfn U)))).trans R]
  ·obtain⟨o',R⟩:=I.base.there b o e Y;exact#[o',(O.2 b (Ql (Qg (Qf e) (I.ok.cab x c hfn U)))).trans R]
  ·by_cases l:j=i
   ·subst l;rw[hi]at R;cases R;rw[Qi g]at f;cases f;exact#[u,r,.inr #[.inl hk,c,U,F]]
   ·rw[Qe (Ne.symm l)]at f;obtain⟨K,L,q⟩:=hl j y QK R f e3;refine#[K,L,?_]
    rcases q with q | ⟨k,c',e,z'⟩
    ·exact .inl q
    ·refine .inr #[k,c',e,z'.sameBut O ?_];rintro rfl;exact l (nJ hN R (I.ok.inj _ _ _ e U▸hi))
  ·by_cases D:c'=c
   ·subst D;exact#[_,F]
   ·obtain⟨w2,z2⟩:=I.cell y c' e;exact#[w2,z2.sameBut O D]
  ·obtain⟨e,n,ne,P,d⟩:=I.pin p S;refine#[(O.2 p.1 ?_).trans e,n,ne,P,d];intro q;rw[q,B]at e;have q':oc=p.2:=Option.some.inj e;exact d G (by rw[<-q'];exact t)
def gp(I:Inv X pins J H s)(R:X.N.Nodup)(hi:X.N[i]?=some x)(O:Loc X.env.scope x)(r:RelV v u)
 (h:∀ s',Inv X pins (J.set i (some v)) H s'->Q () s')(hf:X.fn x=true\/X.env.scope.names.lookup x=some .local):wpAny M A (storeName X.env x u) Q E s :=
 qY I R hi O r (fun s' U _=>h s' U) hf
def Inv.so(I:Inv X pins J H s)(R:s'.os=s.os)(u:Un (frs X.stack) ch H H' s.heap s'.heap)(hok:HOk X.prog X.w H' s'.heap)(hg:AllBare s'.gens)
 (O:∀ b∈ch,(b∈X.ex\/X.s₀.heap.objs.size<=b)/\b≠X.env.locals/\(∀ x c,X.env.cells.lookup x=some c->c≠b)/\∀ p∈X.pn++pins,p.1≠b):Inv X pins J H' s':=by
 obtain⟨h',g',d',t',o'⟩:=s';have e:o'=s.os:=R;subst e;exact I.call (g':=g') (t':=t') (d':=d') u hok hg O
end
@[reducible]noncomputable def XK:=Value->Option Addr->Hp->Prop
@[reducible]noncomputable def St:=List (Option V)
@[reducible]noncomputable def VK:=V->Hp->Prop
@[reducible]noncomputable def TE:=St->Hp->VK->Prop
@[reducible]noncomputable def TT:=St->Hp->(Bool->Hp->Prop)->Prop
@[reducible]noncomputable def TA:=St->Hp->(List V->Hp->Prop)->Prop
structure Ends where
 nx:St->Hp->Prop
 rt:VK
 bk:St->Hp->Prop:=fun _ _=>False
 ct:St->Hp->Prop:=fun _ _=>False
@[reducible]noncomputable def TS:=Ends->St->Hp->Prop
abbrev EP(X:Cx)(pins:List (Addr × Obj))(J:St)(Q:VK)(u:Value)(s':Shared):Prop:=∃ v H',Inv X pins J H' s'/\RelV v u/\Q v H'
abbrev TP(X:Cx)(pins:List (Addr × Obj))(J:St)(Q:Bool->Hp->Prop)(b:Bool)(s':Shared):Prop:=∃ H',Inv X pins J H' s'/\Q b H'
abbrev AP(X:Cx)(pins:List (Addr × Obj))(J:St)(Q:List V->Hp->Prop)(us:List Value)(s':Shared):Prop:=∃ vs H',Inv X pins J H' s'/\Vals vs us/\Q vs H'
abbrev SP(X:Cx)(pins:List (Addr × Obj))(D:Ends)(f:Flow)(s':Shared):Prop :=
 match f with
 | .next=>∃ I H',Inv X pins I H' s'/\D.nx I H'
 | .brk=>∃ I H',Inv X pins I H' s'/\D.bk I H'
 | .cont=>∃ I H',Inv X pins I H' s'/\D.ct I H'
 | .ret u=>∃ v I H',Inv X pins I H' s'/\RelV v u/\D.rt v H'
abbrev PE(X:Cx)(e:Expr)(t:TE):Prop :=
 ∀ (pins:List (Addr × Obj)) (s:Shared) (J:St) (H:Hp) (Q:VK),Inv X pins J H s->t J H Q->wpAny (model X.prog X.w) X.A (eval e X.env) (EP X pins J Q) X.xe s
abbrev PT(X:Cx)(e:Expr)(t:TT):Prop :=
 ∀ (pins:List (Addr × Obj)) (s:Shared) (J:St) (H:Hp) (Q:Bool->Hp->Prop),Inv X pins J H s->t J H Q->wpAny (model X.prog X.w) X.A (isTrue e X.env (eval e X.env)) (TP X pins J Q) X.xe s
abbrev PW(X:Cx)(e:Expr)(t:TT):Prop :=
 ∀ (whole:Sem Value) (pins:List (Addr × Obj)) (s:Shared) (J:St) (H:Hp) (Q:Bool->Hp->Prop),Inv X pins J H s->t J H Q->wpAny (model X.prog X.w) X.A (isTrue e X.env whole) (TP X pins J Q) X.xe s
def PW.pt(h:PW X e t):PT X e t:=h _
abbrev PA(X:Cx)(es:List Expr)(t:TA):Prop :=
 ∀ (I:Pos) (pins:List (Addr × Obj)) (s:Shared) (J:St) (H:Hp) (Q:List V->Hp->Prop),Inv X pins J H s->t J H Q->wpAny (model X.prog X.w) X.A (spliced (backTo I (starEach es X.env))) (AP X pins J Q) X.xe s
abbrev PS(X:Cx)(st:Stmt)(t:TS):Prop :=
 ∀ (pins:List (Addr × Obj)) (s:Shared) (J:St) (H:Hp) (D:Ends),Inv X pins J H s->t D J H->wpAny (model X.prog X.w) X.A (exec st X.env) (SP X pins D) X.xe s
abbrev PSs(X:Cx)(st:List Stmt)(t:TS):Prop :=
 ∀ (pins:List (Addr × Obj)) (s:Shared) (J:St) (H:Hp) (D:Ends),Inv X pins J H s->t D J H->wpAny (model X.prog X.w) X.A (execs st X.env) (SP X pins D) X.xe s
def thn(h:wpAny M A t Q E s)(I:∀ a s,Q a s->Q' a s):wpAny M A t Q' E s:=wpAny_mono h I fun _ _ x=>x
section
variable{X:Cx}
abbrev k6(i:Nat):TE:=fun J H Q=>∃ v,J[i]?=some (some v)/\Q v H
abbrev tC(v:V):TE:=fun _ H Q=>Q v H
def jh(a:X.N[i]?=some x)(Z:Vis X.env.scope x)(hd:(x == ("__debug__" : Str))=false)(U:(x == ("__classdict__" : Str))=false):PE X (.Name x pos) (k6 i):=by
 lk;obtain⟨v,e,h⟩:=h;obtain⟨m,hn,hl⟩:=I.loc;obtain⟨u,r,l⟩:=hl i x v a e Z
 have R:EP X pins J Q u s:=#[v,H,I,r,h]
 rcases l with⟨hk,hm⟩ | ⟨hk,c,Y,O⟩
 ·exact wpAny_Name (wpAny_loadName_local I.ok.kind hk hn hm R) hd
 ·rcases hk with hk | hk
  ·exact wpAny_Name (wpAny_loadName_cell I.ok.kind hk Y O R) hd
  ·exact wpAny_Name (wpAny_loadName_free I.ok.kind hk Y O R U) hd
def vq:PE X (.Constant (.int i) j pos) (tC (.int i)):=fun _ _ _ H _ I h=>wpAny_Constant_int ⟨.int i,H,I.tok _,⟨_,rfl⟩,h⟩
def Kl:PE X (.Constant (.bool b) j pos) (tC (.bl b)):=fun _ _ _ H _ I h=>Constant_bool ⟨.bl b,H,I,rfl,h⟩
def ug:PE X (.Constant .none j pos) (tC .non):=fun _ _ _ H _ I h=>Constant_none ⟨.non,H,I,rfl,h⟩
def uK:PE X (.Constant (.str x) j pos) (tC (.str x)):=fun _ _ _ H _ I h=>Calls.Constant_str ⟨.str x,H,I.tok _,⟨_,rfl⟩,h⟩
abbrev Gl(X:Cx)(x:Str):Prop:=X.env.kindOf x=some .globalImplicit
def iG(I:Inv X pins J H s)(hg:Gl X x)(hm:X.mg x=some u)(h:Q u s)
 (hd:(x == ("__debug__" : Str))=false):wpAny (model X.prog X.w) X.A (eval (.Name x pos) X.env) Q E s :=
 Calls.Name_function_global I.ok.kind hg (Calls.loadGlobal_global (by rw[I.ok.glob];exact I.mod.glob.keeps I.bk) hm h) hd
def iW(I:Inv X pins J H s)(hg:Gl X x)(hm:X.mg x=none)(O:bootBuiltins x=some u)(h:Q u s)
 (hn:x ≠ "__name__")(hd:(x == ("__debug__" : Str))=false):wpAny (model X.prog X.w) X.A (eval (.Name x pos) X.env) Q E s:=by
 obtain⟨mb,U,R⟩:=I.mod.blt;exact Calls.Name_function_global I.ok.kind hg (Calls.loadGlobal_builtin (by rw[I.ok.glob];exact I.mod.glob.keeps I.bk) hm (by rw[I.ok.blt];exact U.keeps I.bk) ((R x hn).trans O) h) hd
def vJ(hg:Gl X x)(hm:X.mg x=some u)(r:RelV v u)(hd:(x == ("__debug__" : Str))=false):PE X (.Name x pos) (tC v) :=
 fun _ _ _ H _ I h=>iG I hg hm ⟨v,H,I,r,h⟩ hd
def vP(hg:Gl X x)(hm:X.mg x=none)(O:bootBuiltins x=some u)(r:RelV v u)(hn:x ≠ "__name__")(hd:(x == ("__debug__" : Str))=false):PE X (.Name x pos) (tC v) :=
 fun _ _ _ H _ I h=>iW I hg hm O ⟨v,H,I,r,h⟩ hn hd
variable{a b:Expr}{ta tb:TE}{pos:Pos}
abbrev PC(X:Cx)(R:CmpOp)(a b:Expr)(t:TE):Prop :=
 ∀ (pins:List (Addr × Obj)) (s:Shared) (J:St) (H:Hp) (Q:VK),Inv X pins J H s->t J H Q ->
  wpAny (model X.prog X.w) X.A (eval a X.env) (fun v O=>wpAny (model X.prog X.w) X.A (eval b X.env) (fun u I=>wpAny (model X.prog X.w) X.A (compareOp R v u) (EP X pins J Q) X.xe I) X.xe O) X.xe s
abbrev tB(t:TE):TT:=fun J H Q=>t J H fun x I=>∃ c,x=.bl c/\Q c I
def IM(h:PC X op a b t)(R:behindInMarks op b=false):PE X (.Compare a [op] [b] pos) t:=fun pins s J H Q I O=>wpAny_Compare1 (h pins s J H Q I O) R
def J9(h:PC X op a b t)(O:behindInMarks op b=false):PT X (.Compare a [op] [b] pos) (tB t):=by
 intro pins s J H Q I Y;refine wpAny_isTrue_Compare1 (thn (h pins s J H _ I Y) fun v s1 O=>thn O fun u s2 Z=>thn Z fun c g ⟨x,f,e,R,U⟩=>?_) O;obtain⟨d,rfl,q⟩:=U;cases R;exact wpAny_truthy_bool ⟨f,e,q⟩
variable{tA tB':TT}{rest:List Expr}
abbrev Ly(t u:TT):TT:=fun J H Q=>t J H fun c I=>if c=true then u J I Q else Q false I
abbrev tOr(t u:TT):TT:=fun J H Q=>t J H fun c I=>if c=true then Q true I else u J I Q
abbrev LA(t:TT):TT:=fun J H Q=>t J H fun c I=>Q (!c) I
def DJ(ha:PT X a tA):PW X (.BoolOp .And [a] pos) tA:=by
 intro O pins s J H Q I h;refine isTrue_and (thn (ha pins s J H Q I h) fun c s1 e=>?_)
 cases c with
 | true=>exact isTrue_and_nil e
 | false=>exact e
def GG(ha:PT X a tA):PW X (.BoolOp .Or [a] pos) tA:=by
 intro O pins s J H Q I h;refine isTrue_or (thn (ha pins s J H Q I h) fun c s1 e=>?_)
 cases c with
 | false=>exact isTrue_or_nil e
 | true=>exact e
def Hc(ha:PT X a tA)(hb:PW X (.BoolOp .And (b::rest) pos) tB'):PW X (.BoolOp .And (a::b::rest) pos) (Ly tA tB'):=by
 intro Y pins s J H Q I h;refine isTrue_and (thn (ha pins s J H _ I h) fun c s1 ⟨U,R,O⟩=>?_)
 cases c with
 | true=>exact hb Y pins s1 J U Q R O
 | false=>exact#[U,R,O]
def Kv(ha:PT X a tA)(hb:PW X (.BoolOp .Or (b::rest) pos) tB'):PW X (.BoolOp .Or (a::b::rest) pos) (tOr tA tB'):=by
 intro Y pins s J H Q I h;refine isTrue_or (thn (ha pins s J H _ I h) fun c s1 ⟨U,R,O⟩=>?_)
 cases c with
 | true=>exact#[U,R,O]
 | false=>exact hb Y pins s1 J U Q R O
def Gf(ha:PT X a tA):PT X (.UnaryOp .Not a pos) (LA tA):=by
 lk;exact isTrue_not (ha pins s J H (fun c O=>Q (!c) O) I h)
abbrev JZ(ta tb:TE):TE:=fun J H Q=>ta J H fun x I=>∃ c,x=.bl c/\if c=true then tb J I Q else Q (.bl false) I
abbrev Mi(ta tb:TE):TE:=fun J H Q=>ta J H fun x I=>∃ c,x=.bl c/\if c=true then Q (.bl true) I else tb J I Q
def FQ(h:PE X a t):PE X (.BoolOp op [a] pos) t:=fun pins s J H Q I O=>BoolOp_one (h pins s J H Q I O)
def Gj(ha:PE X a ta)(hb:PE X (.BoolOp .And (b::rest) pos) tb):PE X (.BoolOp .And (a::b::rest) pos) (JZ ta tb):=by
 lk;refine BoolOp_and (thn (ha pins s J H _ I h) fun v s1 ⟨x,U,R,Y,O⟩=>?_);obtain⟨c,rfl,O⟩:=O;cases Y;refine wpAny_truthy_bool ?_
 cases c with
 | true=>exact hb pins s1 J U Q R O
 | false=>exact#[.bl false,U,R,rfl,O]
def Kg(ha:PE X a ta)(hb:PE X (.BoolOp .Or (b::rest) pos) tb):PE X (.BoolOp .Or (a::b::rest) pos) (Mi ta tb):=by
 lk;refine BoolOp_or (thn (ha pins s J H _ I h) fun v s1 ⟨x,U,R,Y,O⟩=>?_);obtain⟨c,rfl,O⟩:=O;cases Y;refine wpAny_truthy_bool ?_
 cases c with
 | false=>exact hb pins s1 J U Q R O
 | true=>exact#[.bl true,U,R,rfl,O]
abbrev tIf(t:TT)(ta tb:TE):TE:=fun J H Q=>t J H fun c I=>if c=true then ta J I Q else tb J I Q
def AZ(Y:PT X c tA)(ha:PE X a ta)(hb:PE X b tb):PE X (.IfExp c a b pos) (tIf tA ta tb):=by
 lk;refine wpAny_IfExp (thn (Y pins s J H _ I h) fun d s1 ⟨U,R,O⟩=>?_)
 cases d with
 | true=>exact ha pins s1 J U Q R O
 | false=>exact hb pins s1 J U Q R O
end
abbrev SqL(K:W.Frag)(H:Hp)(a:Addr)(xs:List V):Prop :=
 Rd H a (.lst xs) \/
  ∃ (o:Obj) (its:Array Value) (n:Nat),K.lookup a=some o/\o.cls=.type "list" /\ o.dict=none/\o.data=.seq its n/\its.size<=sizeLine/\Vals xs its.toList
abbrev SqT(K:W.Frag)(H:Hp)(a:Addr)(xs:List V):Prop :=
 Rd H a (.tup xs) \/
  ∃ (o:Obj) (its:Array Value) (n:Nat),K.lookup a=some o/\o.cls=.type "tuple" /\ o.data=.seq its n/\its.size<=sizeLine/\Vals xs its.toList
abbrev Mf:Value->Option V
 | .none=>some .non
 | .bool b=>some (.bl b)
 | .int i _=>some (.int i)
 | .str x _=>some (.str x)
 | .bytes b _=>some (.byt b)
 | .float b _=>some (.flt b)
 | .ref a=>some (.ref a)
 | .type n=>some (.ty n)
 | _=>none
def RelV.abs(r:RelV x u):Mf u=some x:=by
 cases x with
 | non=>cases r;rfl
 | bl _=>cases r;rfl
 | int _=>obtain⟨t,rfl⟩:=r;rfl
 | str _=>obtain⟨t,rfl⟩:=r;rfl
 | byt _=>obtain⟨t,rfl⟩:=r;rfl
 | flt _=>obtain⟨t,rfl⟩:=r;rfl
 | ref _=>cases r;rfl
 | ty _=>cases r;rfl
def RelV.inj(r:RelV x u)(q:RelV y u):x=y:=Option.some.inj (r.abs.symm.trans q.abs)
def Vals.inj:∀ {xs ys:List V} {us:List Value},Vals xs us->Vals ys us->xs=ys
 | _,_,_,.nil,.nil=>rfl
 | _,_,_,.cons r t,.cons r' t'=>by rw[r.inj r',Vals.inj t t']
section
variable{X:Cx}{pins:List (Addr × Obj)}{J:St}{H:Hp}{s:Shared}{a:Addr}{xs ys:List V}
def SqL.of{K:W.Frag}(h:H a=some (.lst xs)):SqL K H a xs:=.inl (.inl h)
def SqT.of{K:W.Frag}(h:H a=some (.tup xs)):SqT K H a xs:=.inl (.inl h)
def Inv.list(I:Inv X pins J H s)(h:SqL X.K H a xs):∃ its:List Value,Vals xs its/\PlainL s.heap a its.toArray/\xs.length<=sizeLine:=by
 rcases h with h | ⟨o,its,n,hk,R,hd,O,U,r⟩
 ·obtain⟨z,its,n,r,e⟩:=h.ok I.hok;exact#[its,r,#[_,n,e,rfl,rfl,rfl],z]
 ·refine#[its.toList,r,#[o,n,I.kIn a o hk,R,hd,by simpa using O],?_];have e:=r.length;simp only[length_toList]at e;omega
def Inv.tuple(I:Inv X pins J H s)(h:SqT X.K H a xs):∃ its:List Value,Vals xs its/\IsTup s.heap a its.toArray/\xs.length<=sizeLine:=by
 rcases h with h | ⟨o,its,n,hk,R,O,U,r⟩
 ·obtain⟨z,its,r,p⟩:=h.ok I.hok;exact#[its,r,p,z]
 ·refine#[its.toList,r,#[o,I.kIn a o hk,R,n,by simpa using O],?_];have e:=r.length;simp only[length_toList]at e;omega
def Inv.AY(I:Inv X pins J H s)(h:SqL X.K H a xs)(h':SqL X.K H a ys):xs=ys:=by
 obtain⟨its,r,⟨o,n,e,_,_,d⟩,_⟩:=I.list h;obtain⟨O,U,⟨o',Z,e',_,_,R⟩,_⟩:=I.list h';rw[e]at e';cases e';rw[d]at R;injection R with Y _
 have:its=O:=by simpa using congrArg Array.toList Y
 subst this;exact r.inj U
def Inv.zy(I:Inv X pins J H s)(h:SqT X.K H a xs)(h':SqT X.K H a ys):xs=ys:=by
 obtain⟨its,r,⟨o,e,_,n,d⟩,_⟩:=I.tuple h;obtain⟨O,U,⟨o',e',_,Z,R⟩,_⟩:=I.tuple h';rw[e]at e';cases e';rw[d]at R;injection R with Y _
 have:its=O:=by simpa using congrArg Array.toList Y
 subst this;exact r.inj U
end
@[reducible]noncomputable def Cx.eV(X:Cx)(E:Value->Shared->Prop):Cx:={ X with xe:=E }
@[reducible]noncomputable def Cx.nox(X:Cx):Cx:=X.eV fun _ _=>False
def Cx.Ok.eV{X:Cx}(ok:X.Ok)(E:Value->Shared->Prop):(X.eV E).Ok :=
 ⟨ok.mod,ok.kind,ok.glob,ok.blt,ok.above,ok.inj,ok.has,ok.cab,ok.hd,ok.frames,ok.stk,ok.exf,ok.bs,ok.bsz,ok.l3,ok.lu,ok.eI,ok.frf⟩
def Cx.Ok.df{X:Cx}(ok:(X.eV E).Ok):X.Ok :=
 ⟨ok.mod,ok.kind,ok.glob,ok.blt,ok.above,ok.inj,ok.has,ok.cab,ok.hd,ok.frames,ok.stk,ok.exf,ok.bs,ok.bsz,ok.l3,ok.lu,ok.eI,ok.frf⟩
section
variable{X:Cx}{pins:List (Addr × Obj)}{J:St}{H:Hp}{s:Shared}{E:Value->Shared->Prop}
def Inv.eV(I:Inv X pins J H s)(E:Value->Shared->Prop):Inv (X.eV E) pins J H s:=#[I.ok.eV E,I.os,I.bare,I.base,I.loc,I.cell,I.free,I.di,I.pin,I.hok,I.len]
def Inv.df(I:Inv (X.eV E) pins J H s):Inv X pins J H s:=#[I.ok.df,I.os,I.bare,I.base,I.loc,I.cell,I.free,I.di,I.pin,I.hok,I.len]
def SP.df(h:SP (X.eV E) pins D f s'):SP X pins D f s':=by
 cases f with
 | next=>obtain⟨O,H',I,q⟩:=h;exact#[O,H',I.df,q]
 | brk=>obtain⟨O,H',I,q⟩:=h;exact#[O,H',I.df,q]
 | cont=>obtain⟨O,H',I,q⟩:=h;exact#[O,H',I.df,q]
 | ret u=>obtain⟨v,O,H',I,r,q⟩:=h;exact#[v,O,H',I.df,r,q]
def PE.nox(h:PE X.nox e t):PE X e t:=fun pins s J H Q I O =>
 wpAny_mono (h pins s J H Q (I.eV _) O) (fun _ _ ⟨v,H',R,r,q⟩=>#[v,H',R.df,r,q]) fun _ _ z=>False.elim z
def PT.nox(h:PT X.nox e t):PT X e t:=fun pins s J H Q I O =>
 wpAny_mono (h pins s J H Q (I.eV _) O) (fun _ _ ⟨H',R,q⟩=>#[H',R.df,q]) fun _ _ z=>False.elim z
def PSs.nox{st:List Stmt}(h:PSs X.nox st t):PSs X st t:=fun pins s J H D I O =>
 wpAny_mono (h pins s J H D (I.eV _) O) (fun _ _ q=>q.df) fun _ _ z=>False.elim z
end
section
variable{X:Cx}{st:Stmt}{rest:List Stmt}{t u:TS}{e:Expr}{te:TE}{pos:Pos}
abbrev KQ:TS:=fun D J H=>D.nx J H
abbrev Lg(t u:TS):TS:=fun D J H=>t { D with nx:=u D } J H
def Fm:PSs X [] KQ:=fun _ _ J H _ I h=>wpAny_execs_nil ⟨J,H,I,h⟩
def nL(U:PS X st t)(R:PSs X rest u):PSs X (st::rest) (Lg t u):=by
 k_all;refine wpAny_execs_cons (thn (U pins s J H { D with nx:=u D } I h) fun f s1 q=>?_)
 cases f with
 |next=>
  obtain⟨O,H',Y,q⟩:=q;exact R pins s1 O H' D Y q
 | ret v=>exact q
 | brk=>exact q
 | cont=>exact q
def Inv.quiet(I:Inv X pins J H s):interactive X.env=false:=by simp[interactive,I.ok.kind]
abbrev si(te:TE):TS:=fun D J H=>te J H fun _ I=>D.nx J I
def m4(U:PE X e te)(R:swapsWith e none pos.line X.env=pure false):PS X (.Expr e pos) (si te):=by
 k_all;exact wpAny_Expr_any (thn (U pins s J H _ I h) fun v s1 ⟨x,Z,Y,a,O⟩=>#[J,Z,Y,O]) I.quiet R
abbrev Mc(te:TE):TS:=fun D J H=>te J H D.rt
def uN(U:PE X e te):PS X (.Return (some e) pos) (Mc te):=by
 k_all;exact wpAny_Return_some (thn (U pins s J H _ I h) fun v s1 ⟨x,Z,Y,O,R⟩=>#[x,J,Z,Y,O,R])
abbrev LN(c:TT)(t u:TS):TS:=fun D J H=>c J H fun b I=>if b=true then t D J I else u D J I
def y8(Y:PT X c tc)(ha:PSs X a t)(hb:PSs X b u):PS X (.If c a b pos) (LN tc t u):=by
 k_all;refine wpAny_If (thn (Y pins s J H _ I h) fun d s1 ⟨U,R,O⟩=>?_)
 cases d with
 | true=>exact ha pins s1 J U D R O
 | false=>exact hb pins s1 J U D R O
end
@[reducible]noncomputable def TG:=V->St->Hp->(St->Hp->Prop)->Prop
@[reducible]noncomputable def TGs:=List V->St->Hp->(St->Hp->Prop)->Prop
abbrev PG(X:Cx)(target:Expr)(t:TG):Prop :=
 ∀ (pins:List (Addr × Obj)) (s:Shared) (J:St) (H:Hp) (v:V) (u:Value) (Q:St->Hp->Prop),Inv X pins J H s->RelV v u->t v J H Q ->
  wpAny (model X.prog X.w) X.A (assign target X.env u) (fun _ s'=>∃ I H',Inv X pins I H' s'/\Q I H') X.xe s
abbrev PGs(X:Cx)(O:List Expr)(t:TGs):Prop :=
 ∀ (pins:List (Addr × Obj)) (s:Shared) (J:St) (H:Hp) (vs:List V) (us:List Value) (Q:St->Hp->Prop),Inv X pins J H s->Vals vs us->t vs J H Q ->
  wpAny (model X.prog X.w) X.A (assignInOrder ((assignEach O X.env).map (·.2)) us) (fun _ s'=>∃ I H',Inv X pins I H' s'/\Q I H') X.xe s
@[reducible]noncomputable def IY:=V->V->V->Hp->(Hp->Prop)->Prop
abbrev IZ(X:Cx)(t:IY):Prop :=
 ∀ (pins:List (Addr × Obj)) (s:Shared) (J:St) (H:Hp) (o i v:V) (ov I u:Value) (Q:Hp->Prop),Inv X pins J H s->RelV o ov->RelV i I->RelV v u->t o i v H Q ->
  wpAny (model X.prog X.w) X.A (setItem ov I u) (fun _ s'=>∃ H',Inv X pins J H' s'/\Q H') X.xe s
@[reducible]noncomputable def TIp:=V->V->Hp->VK->Prop
abbrev PIp(X:Cx)(I:Operator)(t:TIp):Prop :=
 ∀ (pins:List (Addr × Obj)) (s:Shared) (J:St) (H:Hp) (x y:V) (v u:Value) (Q:VK),Inv X pins J H s->RelV x v->RelV y u->t x y H Q ->
  wpAny (model X.prog X.w) X.A (inplaceOp I v u) (EP X pins J Q) X.xe s
section
variable{X:Cx}{pos:Pos}
abbrev pO(i:Nat):TG:=fun v J H Q=>Q (J.set i (some v)) H
def wZ(R:X.N.Nodup)(hi:X.N[i]?=some x)(O:Loc X.env.scope x)(hf:X.fn x=true\/X.env.scope.names.lookup x=some .local):PG X (.Name x pos) (pO i):=by
 intro pins s J H v u Q I r h;exact wpAny_assign_Name (gp I R hi O r (fun s' U=>#[_,H,U,h]) hf)
abbrev JC:TGs:=fun vs J H Q=>vs=[]/\Q J H
abbrev Di(t:TG)(u:TGs):TGs:=fun vs J H Q=>∃ v r,vs=v::r/\t v J H fun I H'=>u r I H' Q
def Ez:PGs X [] JC:=by
 intro pins s J H vs us Q I r h;obtain⟨e,h⟩:=h;subst e;cases r;exact assignInOrder_nil ⟨J,H,I,h⟩
def Bu(a:PG X e t)(Z:PGs X es u)
 (Y:(assignEach (e::es) X.env).map (·.2)=assign e X.env::(assignEach es X.env).map (·.2)):PGs X (e::es) (Di t u):=by
 intro pins s J H vs us Q I r h;obtain⟨v,f,b,h⟩:=h;subst b
 cases r with
 |cons r R=>
  rw[Y];refine assignInOrder_cons (thn (a pins s J H _ _ _ I r h) fun _ s1 ⟨O,d,c,U⟩=>?_);exact Z pins s1 O d _ _ Q c R U
abbrev qK(K:W.Frag)(n:Nat)(t:TGs):TG:=fun v J H Q=>∃ a xs,v=.ref a/\SqT K H a xs/\xs.length=n/\t xs J H Q
abbrev B7(to ti:TE)(t:IY):TG:=fun v J H Q=>to J H fun o O=>ti J O fun i H2=>t o i v H2 fun I=>Q J I
def Gg(c:PE X o to)(hi:PE X i ti)(b:IZ X t)
 (ha:∀ v,assign (.Subscript o i pos) X.env v=(do
   let ov <- holding [v] (eval o X.env)
   let O <- holding [v,ov] (eval i X.env)
   standAt pos
   holding [v,ov,O] (setItem ov O v)
   release [v,ov,O] []):=by intro _;rfl):PG X (.Subscript o i pos) (B7 to ti t):=by
 intro pins s J H v u Q I r h;refine Qa (wpAny_holding (thn (c pins s J H _ I h) fun ov s1 ⟨x,j,f,U,a⟩=>?_));refine Qa (wpAny_holding (thn (hi pins s1 J j _ f a) fun O s2 ⟨y,H2,e,R,Z⟩=>?_));refine Qa (wpAny_standAt (Qa (wpAny_holding (thn (b pins s2 J H2 x y v ov O u _ e U R r Z) fun _ k ⟨g,d,Y⟩=>?_))));exact wpAny_release ⟨J,g,d,Y⟩
abbrev qR(te:TE)(g:TG):TS:=fun D J H=>te J H fun x I=>g x J I D.nx
def vf(Z:PE X e te)(hg:PG X tg g)(Y:swapsWithSole [tg] e pos.line X.env=pure false)(U:swappedStores [tg] e X.env=pure none)
 (a:(assignEach [tg] X.env).map (·.2)=[assign tg X.env]):PS X (.Assign [tg] e pos) (qR te g):=by
 k_all;refine wpAny_Assign_stores (thn (Z pins s J H _ I h) fun v s1 ⟨x,c,b,O,R⟩=>?_) Y U;rw[a];exact thn (hg pins s1 J c x v _ b O R) fun _ s2 q=>q
def tq(a:X.N.Nodup)(hi:X.N[i]?=some x)(U:Loc X.env.scope x)(Z:PE X e te)(Y:swapsWith e (some (.Name x pos')) pos.line X.env=pure false)(hf:X.fn x=true\/X.env.scope.names.lookup x=some .local) :
  PS X (.Assign [.Name x pos'] e pos) (qR te (pO i)):=by
 k_all;refine wpAny_Assign_Name (thn (Z pins s J H _ I h) fun v s1 ⟨y,d,c,O,R⟩=>?_) Y;exact gp c a hi U O (fun s2 b=>#[_,d,b,R]) hf
abbrev FU(i j:Nat)(I:TA):TS:=fun D J H=>I J H fun vs O=>∃ v w,vs=[v,w]/\D.nx ((J.set i (some v)).set j (some w)) O
def F9(z:X.calm=true)(g:X.N.Nodup)(hi:X.N[i]?=some x)(u:X.N[j]?=some y)(c:i≠j)
 (f:X.env.scope.names.lookup x=some .local)(d:X.env.scope.names.lookup y=some .local)(ha:PA X [a,b] ta)
 (t:swappedStores [.Tuple [.Name x px,.Name y py] kt pt] (.Tuple [a,b] k2 pt2) X.env=pure (some [x,y]))
 (QK:swapsWithSole [.Tuple [.Name x px,.Name y py] kt pt] (.Tuple [a,b] k2 pt2) pos.line X.env=pure false) :
  PS X (.Assign [.Tuple [.Name x px,.Name y py] kt pt] (.Tuple [a,b] k2 pt2) pos) (FU i j ta):=by
 k_all;refine Qa (wpAny_standAt ?_);refine Qa (Qd ?_);refine Qa (Tuple_ (thn (ha _ pins s J H _ I h) fun us s1 ⟨vs,l,F,n,Y⟩=>?_));obtain⟨v,w,A,Y⟩:=Y;subst A
 obtain⟨R,O,rfl,m,U⟩:∃ R O,us=[R,O]/\RelV v R/\RelV w O:=by
  cases n with
  |cons p q=>
   cases q with
   |cons r q'=>
    cases q';exact#[_,_,rfl,p,r]
 refine wpAny_newObj_type ?_ (by show 2<=sizeLine;decide);have E:Inv X pins J l { s1 with heap:=s1.heap.push { cls:=.type "tuple",data:=.seq [R,O].toArray } }:=F.kept fun b o e=>J2 _ e;rw[t];refine Qa (Qd ?_);refine Qa (wpAny_rule (Qa (unpackItems_tuple (items:=(List.toArray [R,O])) (I.ok.hd.1 z) (IsTup.new s1.heap _) fun h' Z=>?_)));have C:=E.kept (t':=s1.toks) fun b o e=>Z b o (Ql (Qf e)) e;refine Qa (assignInOrder_cons (wpAny_bindName (gp C g u (.inl d) U (fun s2 B=>?_) (.inr d))));refine assignInOrder_cons (wpAny_bindName (gp B g hi (.inl f) m (fun G k=>assignInOrder_nil (Qd ?_)) (.inr f)));rw[List.set_comm _ _ (Ne.symm c)]at k;exact#[_,l,k,Y]
abbrev Ir(i:Nat)(te:TE)(ti:TIp):TS:=fun D J H=>∃ x,J[i]?=some (some x)/\te J H fun y I=>ti x y I fun z H2=>D.nx (J.set i (some z)) H2
def yJ(n:X.N.Nodup)(hi:X.N[i]?=some x)(Y:Loc X.env.scope x)(g:PE X e te)(f:PIp X op ti)(hf:X.fn x=true\/X.env.scope.names.lookup x=some .local) :
  PS X (.AugAssign (.Name x pos') op e pos) (Ir i te ti):=by
 k_all;obtain⟨v,o,h⟩:=h;obtain⟨m,hn,hl⟩:=I.loc
 have vis:Vis X.env.scope x:=by rcases Y with k | k;exact .inl k;exact .inr (.inl k)
 obtain⟨u,r,l⟩:=hl i x v hi o vis;refine wpAny_AugAssign_Name ?_
 have go:wpAny (model X.prog X.w) X.A (eval e X.env) (fun w U=>wpAny (model X.prog X.w) X.A (inplaceOp op u w) (fun r R=>wpAny (model X.prog X.w) X.A (storeName X.env x r) (fun _=>SP X pins D .next) X.xe R) X.xe U) X.xe s:=by
  refine thn (g pins s J H _ I h) fun w s1 ⟨y,B,t,a,d⟩=>?_;refine thn (f pins s1 J B v y u w _ t r a d) fun z s2 ⟨C,H2,q,Z,b⟩=>?_;exact gp q n hi Y Z (fun E p=>#[_,H2,p,b]) hf
 rcases l with⟨hk,hm⟩ | ⟨hk,c,j,O⟩
 ·exact wpAny_loadName_local I.ok.kind hk hn hm go
 ·rcases hk with hk | hk
  ·exact wpAny_loadName_cell I.ok.kind hk j O go
  ·rcases Y with k | k
   ·have:X.env.scope.names.lookup x=some .free:=hk;rw[k]at this;cases this
   ·have:X.env.scope.names.lookup x=some .free:=hk;rw[k]at this;cases this
abbrev ipI(f:Int->Int->Int):TIp:=fun x y H Q=>∃ i j,x=.int i/\y=.int j/\Q (.int (f i j)) H
def G0:PIp X .Add (ipI fun i j=>i+j):=by
 intro pins s J H x y v u Q I R O h;obtain⟨i,j,Y,U,q⟩:=h;subst Y;subst U;obtain⟨t,rfl⟩:=R;obtain⟨Z,rfl⟩:=O;exact iadd_int ⟨.int _,H,I.tok _,⟨_,rfl⟩,q⟩
def Hi:PIp X .Sub (ipI fun i j=>i-j):=by
 intro pins s J H x y v u Q I R O h;obtain⟨i,j,Y,U,q⟩:=h;subst Y;subst U;obtain⟨t,rfl⟩:=R;obtain⟨Z,rfl⟩:=O;exact isub_int ⟨.int _,H,I.tok _,⟨_,rfl⟩,q⟩
end
section
variable{X:Cx}{pos:Pos}
abbrev Jl(c:TT)(tb:TS):TS:=fun D J H=>∃ W:Nat->St->Hp->Prop,(∃ m,W m J H)/\∀ m J H,W m J H ->
 c J H fun b R=>if b=true then ∃ N:St->Hp->Prop,(∀ I H',N I H'->∃ O,O<m/\W O I H')/\tb { D with nx:=N,ct:=N,bk:=D.nx } J R else D.nx J R
def Bv(j:PassesOwn (model X.prog X.w) X.A X.env X.xe)(r:PT X c tc)(hb:PSs X body tb):PS X (.While c body [] pos) (Jl tc tb):=by
 k_all;obtain⟨W,⟨q,p⟩,turn⟩:=h;refine wpAny_While (codeAny_whileLoop (fun n s'=>∃ U H',Inv X pins U H' s'/\W n U H') ?_ q ⟨J,H,I,p⟩);rintro n s1 ⟨R,m,t,o⟩;refine wpAny_passesOwn j (thn (r pins s1 R m _ t (turn n R m o)) fun b s2 ⟨H2,l,a⟩=>?_)
 cases b with
 |true=>
  obtain⟨N,k,a⟩:=a;refine wpAny_passesOwn j (thn (hb pins s2 R H2 _ l a) fun f u Z=>?_)
  cases f with
  |next=>
   obtain⟨O,Y,i,e⟩:=Z;obtain⟨g,hm,d⟩:=k O Y e;exact#[g,hm,O,Y,i,d]
  |cont=>
   obtain⟨O,Y,i,e⟩:=Z;obtain⟨g,hm,d⟩:=k O Y e;exact#[g,hm,O,Y,i,d]
  | brk=>exact Z
  | ret v=>exact Z
 |false=>
  exact wpAny_execs_nil ⟨R,H2,l,a⟩
end
structure It where
 go:Nat->Hp->Prop
 yld:Nat->Hp->V->Hp->Prop
 stop:Nat->Hp->Prop
abbrev kH(X:Cx)(pins:List (Addr × Obj))(H:Hp)(b:Addr):Prop :=
 H b=none/\b≠X.env.locals/\b∉X.fs/\(b∈X.ex\/X.s₀.heap.objs.size<=b)/\(∀ x c,X.env.cells.lookup x=some c->c≠b)/\∀ p∈X.pn++pins,p.1≠b
def Inv.qw(I:Inv X pins J H s)(hb:s.heap.objs.size<=b)(hn:H' b=none):kH X pins H' b:=by
 refine#[hn,ne_of_gt (Qg I.lt hb),I.Lx hb,.inr (Qn I.sz hb),fun x c e z=>?_,fun p O z=>?_]
 ·obtain⟨v,q⟩:=I.cell x c e;exact absurd (Qg q.lt (by rw[z];exact hb)) (Qy _)
 ·exact absurd (Qg (Qf (I.pin p O).1) (by rw[z];exact hb)) (Qy _)
structure p7(CM:Cx->Prop)(P:Program)(w:World)(K:W.Frag)(tg:Expr)(QK:It)(fp:List Addr)(it:Addr)(tn:Nat->Heap->Prop):Prop where
 mem:it∈fp
 obj:∀ i h,tn i h->∀ b∈fp,∃ o,h.get? b=some o/\∀ v,o.data≠.cell v
 keep:∀ i h h',tn i h->(∀ b∈fp,∀ o,h.get? b=some o->h'.get? b=some o)->tn i h'
 item:∀ (X:Cx),X.prog=P->X.w=w->X.K=K->CM X->∀ (i:Nat) (pins:List (Addr × Obj)) (s:Shared) (J:St) (H:Hp) (E:Value->Shared->Prop),Inv X pins J H s->(∀ b∈fp,kH X pins H b)->tn i s.heap->QK.go i H ->
  wpAny (model P w) X.A (pyNext (.ref it)) (fun r s1=>∃ u,r=some u /\
   wpAny (model P w) X.A (letOwnedTupleGo tg (.ref it) u) (fun _ s2=>∃ x H',Inv X pins J H' s2/\RelV x u/\QK.yld i H x H'/\tn (i+1) s2.heap/\∀ b∈fp,H' b=none) E s1) E s
 done:∀ (X:Cx),X.prog=P->X.w=w->X.K=K->CM X->∀ (i:Nat) (pins:List (Addr × Obj)) (s:Shared) (J:St) (H:Hp) (E:Value->Shared->Prop),Inv X pins J H s->(∀ b∈fp,kH X pins H b)->tn i s.heap->QK.stop i H ->
  wpAny (model P w) X.A (pyNext (.ref it)) (fun r s1=>r=none/\Inv X pins J H s1) E s
 self:∀ (A:Around) (i:Nat) (s:Shared) (Q:Value->Shared->Prop) (E:Value->Shared->Prop),tn i s.heap->Q (.ref it) s->wpAny (model P w) A (pyIter (.ref it)) Q E s
@[reducible]noncomputable def Calm:Cx->Prop:=fun X=>X.calm=true
@[reducible]noncomputable def Turn:=p7 Calm
@[reducible]noncomputable def TI:=St->Hp->(It->Hp->Prop)->Prop
abbrev IQ(CM:Cx->Prop)(X:Cx)(pins:List (Addr × Obj))(J:St)(tg:Expr)(R:It->Hp->Prop)(I:Value)(s2:Shared):Prop :=
 ∃ (it:Addr) (fp:List Addr) (tn:Nat->Heap->Prop) (QK:It) (H':Hp),I=.ref it/\Inv X pins J H' s2/\p7 CM X.prog X.w X.K tg QK fp it tn/\tn 0 s2.heap/\(∀ b∈fp,kH X pins H' b)/\R QK H'
@[reducible]noncomputable def PIE:=IQ Calm
abbrev PI'(CM:Cx->Prop)(X:Cx)(tg iter:Expr)(I:TI):Prop :=
 ∀ (pins:List (Addr × Obj)) (s:Shared) (J:St) (H:Hp) (R:It->Hp->Prop),Inv X pins J H s->I J H R ->
  wpAny (model X.prog X.w) X.A (eval iter X.env) (fun v s1=>wpAny (model X.prog X.w) X.A (pyIter v) (IQ CM X pins J tg R) X.xe s1) X.xe s
@[reducible]noncomputable def PI:=PI' Calm
def sJ(O:s.heap.get? it=some o)(R:o.cls=.type n)(hd:o.data=.fields vs)
 (hn:["enumerate", "zip", "dict_itemiterator", "dict_reverseitemiterator", "odict_iterator", "itertools.zip_longest", "itertools.pairwise"].contains n=false)(I:Q () s):wpAny M A (letOwnedTupleGo tg (.ref it) u) Q E s:=by
 unfold letOwnedTupleGo
 cases tg<;>first
  | exact Qd I
  | (cases u<;>first
    | exact Qd I
    | (refine Qa (wpAny_load O ?_)
       rw[R,hd];show wpAny M A (if(["enumerate", "zip", "dict_itemiterator", "dict_reverseitemiterator", "odict_iterator", "itertools.zip_longest", "itertools.pairwise"].contains n&&vs[0]? == some (rawInt _))=true then _ else _) Q E s;rw[if_neg (by intro h;rw[hn,Bool.false_and]at h;cases h)]
       exact Qd I))
abbrev Itl(K:W.Frag)(a:Addr):It :=
 ⟨fun i H=>∃ xs x,SqL K H a xs/\xs[i]?=some x,fun i H x H'=>H'=H/\∀ xs,SqL K H a xs->xs[i]?=some x,fun i H=>∃ xs,SqL K H a xs/\xs.length<=i⟩
abbrev Itt(K:W.Frag)(a:Addr):It :=
 ⟨fun i H=>∃ xs x,SqT K H a xs/\xs[i]?=some x,fun i H x H'=>H'=H/\∀ xs,SqT K H a xs->xs[i]?=some x,fun i H=>∃ xs,SqT K H a xs/\xs.length<=i⟩
abbrev Itr(lo:Int)(n:Nat):It:=#[fun i _=>i<n,fun i H x H'=>H'=H/\x=.int (lo+i),fun i _=>n<=i]
def Ad{P:Program}{w:World}{K:W.Frag}(a it:Addr):Turn P w K tg (Itl K a) [it] it (fun i h=>h.IsListIter it a i) where
 mem:=by simp
 obj:=fun i h st b hb=>by
  have e:b=it:=by simpa using hb
  subst e;obtain⟨o,e,c,d⟩:=st;exact⟨o,e,fun v z=>by rw[d]at z;cases z⟩
 keep:=fun i h h' st k=>st.at fun o e=>k it (by simp) o e
 item:=by
  intro X f Z g r i pins s J H E I hf st hg;subst f Z g;obtain⟨xs,x,R,Y⟩:=hg;obtain⟨its,U,p,y⟩:=I.list R;obtain⟨u,hu,t⟩:=U.get Y;obtain⟨q,n,B,m,l,j⟩:=hf it (by simp);refine wpAny_pyNext_list_item st p.isList (by simpa using hu) fun h' O sb=>?_;have D:=I.turned (t':=s.toks) (fun b o hb e=>(sb.2 b hb).trans e) q n m l j;obtain⟨o,e,c,d⟩:=id O;exact#[u,rfl,sJ e c d ∅ #[x,H,D,t,#[rfl,fun ys A=>by rw[I.AY A R];exact Y],O,fun b hb=>(hf b hb).1]]
 done:=by
  intro X f Z g r i pins s J H E I hf st hg;subst f Z g;obtain⟨xs,R,Y⟩:=hg;obtain⟨its,U,p,y⟩:=I.list R;obtain⟨q,n,B,m,l,j⟩:=hf it (by simp);have hl:=U.length
  exact wpAny_pyNext_list_end (I.ok.hd.1 r) st p.isList (by simp;omega) fun h' C=>#[rfl,I.turned (fun b o hb e=>C b o hb e) q n m l j]
 self:=fun _ _ _ _ _ st h=>wpAny_pyIter_listiter st h
def xv{P:Program}{w:World}{K:W.Frag}(a it:Addr):Turn P w K tg (Itt K a) [it] it (fun i h=>h.IsTupleIter it a i) where
 mem:=by simp
 obj:=fun i h st b hb=>by
  have e:b=it:=by simpa using hb
  subst e;obtain⟨o,e,c,d⟩:=st;exact⟨o,e,fun v z=>by rw[d]at z;cases z⟩
 keep:=fun i h h' st k=>st.at fun o e=>k it (by simp) o e
 item:=by
  intro X f Z g r i pins s J H E I hf st hg;subst f Z g;obtain⟨xs,x,R,Y⟩:=hg;obtain⟨its,U,p,y⟩:=I.tuple R;obtain⟨u,hu,t⟩:=U.get Y;obtain⟨q,n,B,m,l,j⟩:=hf it (by simp);refine wpAny_pyNext_tuple_item st (show s.heap.IsTuple a its.toArray from p) (by simpa using hu) fun h' O sb=>?_;have D:=I.turned (t':=s.toks) (fun b o hb e=>(sb.2 b hb).trans e) q n m l j;obtain⟨o,e,c,d⟩:=id O;exact#[u,rfl,sJ e c d ∅ #[x,H,D,t,#[rfl,fun ys A=>by rw[I.zy A R];exact Y],O,fun b hb=>(hf b hb).1]]
 done:=by
  intro X f Z g r i pins s J H E I hf st hg;subst f Z g;obtain⟨xs,R,Y⟩:=hg;obtain⟨its,U,p,y⟩:=I.tuple R;obtain⟨q,n,B,m,l,j⟩:=hf it (by simp);have hl:=U.length
  exact wpAny_pyNext_tuple_end (I.ok.hd.1 r) st (show s.heap.IsTuple a its.toArray from p) (by simp;omega) fun h' C=>#[rfl,I.turned (fun b o hb e=>C b o hb e) q n m l j]
 self:=fun _ _ _ _ _ st h=>wpAny_pyIter_tupleiter st h
def xR{P:Program}{w:World}{K:PySem.W.Frag}(it:Addr)(lo:Int)(n:Nat):Turn P w K tg (Itr lo n) [it] it (fun i h=>IsRangeIter h it (lo+(i:Nat)*1) ((n:Int)-(i:Nat)) 1) where
 mem:=by simp
 obj:=fun i h st b hb=>by
  have e:b=it:=by simpa using hb
  subst e
  exact⟨_,st,fun v z=>by
   have j:=z
   cases j⟩
 keep:=fun i h h' st k=>k it (by simp) _ st
 item:=by
  intro X f d g R i pins s J H E I hf st hg;subst f d g;obtain⟨c,a,q,Z,Y,U⟩:=hf it (by simp);have W:=Walks.range (prog:=X.prog) (w:=X.w) (I.ok.hd.1 R) it lo 1 n;refine W.item i s _ _ hg st fun v h' l p O m=>?_;obtain⟨t,rfl⟩:=p;have u:Inv X pins J H { s with heap:=h',toks:=l }:=I.turned (fun b o hb e=>m b o (by simpa using hb) e) c a Z Y U;refine#[_,rfl,sJ O rfl rfl ∅ #[.int (lo+i),H,u,#[t,?_],#[rfl,rfl],O,fun b hb=>(hf b hb).1]];rw[Int.mul_one]
 done:=by
  intro X f d g R i pins s J H E I hf st hg;obtain⟨c,a,q,Z,Y,U⟩:=hf it (by simp)
  exact wpAny_pyNext_range_end (I.ok.hd.1 R) st (by have:n<=i:=hg;omega) fun h' r=>#[rfl,I.turned (fun b o hb e=>r b o hb e) c a Z Y U]
 self:=fun _ _ _ _ _ st h=>wpAny_pyIter_rangeiter st h
section
variable{X:Cx}{tg:Expr}
def sQ{pins:List (Addr × Obj)}{J:St}{H:Hp}{s:Shared}{R:It->Hp->Prop}{E:Value->Shared->Prop}{lo hi:Int}{t u v:Tok}{O:Nat}(I:Inv X pins J H s)(c:-(2 ^ 62)<=lo)(a:lo<2 ^ 62)(Z:-(2 ^ 62)<=hi)(Y:hi<2 ^ 62)
 (q:R (Itr lo (hi-lo).toNat) H):wpAny (model X.prog X.w) X.A (pyIter (.ref s.heap.objs.size)) (PIE X pins J tg R) E { s with heap:=s.heap.push { cls:=.type "range",data:=.fields (List.toArray [.int lo t,.int hi u,.int 1 v]) },toks:=O }:=by
 refine wpAny_pyIter_range (IsRange.new ..) (small_one c a Z Y) ?_;have U:Inv X pins J H { s with heap:=s.heap.push { cls:=.type "range",data:=.fields (List.toArray [.int lo t,.int hi u,.int 1 v]) },toks:=O }:=I.kept fun b o e=>J2 _ e
 refine⟨(s.heap.push { cls:=.type "range",data:=.fields (List.toArray [.int lo t,.int hi u,.int 1 v]) }).objs.size,[(s.heap.push { cls:=.type "range",data:=.fields (List.toArray [.int lo t,.int hi u,.int 1 v]) }).objs.size],_,_,H,rfl,
  U.kept (t':=O) fun b o e=>J2 _ e,xR _ lo (hi-lo).toNat,?_,fun b hb=>?_,q⟩
 ·have f:lo+((0:Nat):Int)*1=lo:=by simp
  have d:(((hi-lo).toNat:Nat):Int)-((0:Nat):Int)=Builtin.Range.rangeSize lo hi 1:=by rw[rangeSize_one];split<;>omega
  show IsRangeIter _ _ (lo+((0:Nat):Int)*1) ((((hi-lo).toNat:Nat):Int)-((0:Nat):Int)) 1;rw[f,d];exact Qc _ rfl
 ·have e:b=(s.heap.push { cls:=.type "range",data:=.fields (List.toArray [.int lo t,.int hi u,.int 1 v]) }).objs.size:=by simpa using hb
  subst e;exact U.qw (Qb _) (U.hok.fresh (Qb _))
abbrev KU(I:TA):TI:=fun J H R=>I J H fun vs O=>∃ j:Int,vs=[.int j]/\-(2 ^ 62)<=j/\j<2 ^ 62/\R (Itr 0 j.toNat) O
abbrev KR(I:TA):TI:=fun J H R=>I J H fun vs O=>∃ i j:Int,vs=[.int i,.int j]/\(-(2 ^ 62)<=i/\i<2 ^ 62/\-(2 ^ 62)<=j/\j<2 ^ 62)/\R (Itr i (j-i).toNat) O
def Ay{a:Expr}{Y:TA}{p O:Pos}(hg:Gl X "range")(hm:X.mg "range" = none)(ha:PA X [a] Y)(d:starEach [a] X.env=[(false,eval a X.env)]):PI X tg (.Call (.Name "range" p) [a] [] O) (KU Y):=by
 intro pins s J H R I h;refine Call_ (iW I hg hm boot_range (PyProof.Rows.callWith_type1 (thn (ha O pins s J H _ I h) fun us s1 ⟨vs,g,f,b,U⟩=>?_) d rfl) ∅ ∅);obtain⟨j,e,U,c,q⟩:=U;subst e
 cases b with
 |cons r Z=>
  cases Z;obtain⟨t,rfl⟩:=r;exact call_range_1 (sQ f (by omega) (by omega) U c (by simpa using q))
def AN(hg:Gl X "range")(hm:X.mg "range" = none)(ha:PA X [a,b] ta)(k:starEach [a,b] X.env=[(false,eval a X.env),(false,eval b X.env)])(O:starEach [b] X.env=[(false,eval b X.env)]) :
  PI X tg (.Call (.Name "range" p) [a,b] [] pos) (KR ta):=by
 intro pins s J H R I h;refine Call_ (iW I hg hm boot_range (PyProof.Rows.callWith_type1 (thn (ha pos pins s J H _ I h) fun us s1 ⟨vs,n,l,Z,Y⟩=>?_) (by rw[k,O]) (by rw[O];rfl)) ∅ ∅);obtain⟨i,j,e,⟨Y,g,f,d⟩,q⟩:=Y;subst e
 cases Z with
 |cons r U=>
  cases U with
  |cons c U=>
   cases U;obtain⟨t,rfl⟩:=r;obtain⟨m,rfl⟩:=c;exact call_range_2 (sQ l Y g f d q)
abbrev Lu(U:TI)(g:TG)(tb:TS):TS:=fun D J H=>U J H fun QK Y=>∃ W:Nat->Nat->St->Hp->Prop,(∃ m,W 0 m J Y)/\∀ i m J H,W i m J H ->
 (QK.stop i H/\D.nx J H)\/(QK.go i H/\∃ N:St->Hp->Prop,(∀ I H',N I H'->∃ R,R<m/\W (i+1) R I H')/\∀ x H',QK.yld i H x H'->g x J H' fun O H2=>tb { D with nx:=N,ct:=N,bk:=D.nx } O H2)
abbrev lZ(fp:List Addr)(h:Heap):List (Addr × Obj):=fp.filterMap fun b=>(h.get? b).map fun o=>(b,o)
def i9(hb:b∈fp)(e:h.get? b=some o):(b,o)∈lZ fp h:=List.mem_filterMap.mpr ⟨b,hb,by rw[e];rfl⟩
def za(I:p∈lZ fp h):p.1∈fp/\h.get? p.1=some p.2:=by
 obtain⟨b,hb,e⟩:=List.mem_filterMap.mp I
 cases q:h.get? b with
 | none=>rw[q]at e;cases e
 |some o=>
  rw[q]at e;have e':=Option.some.inj e;subst e';exact#[hb,q]
def Inv.pinned(I:Inv X pins J H s)(hf:∀ b∈fp,kH X pins H b)(R:∀ b∈fp,∃ o,s.heap.get? b=some o/\∀ v,o.data≠.cell v):Inv X (pins++lZ fp s.heap) J H s :=
 I.wO fun p O=>(List.mem_append.mp O).elim (fun z=>I.pin p (Qr _ z)) fun z=>by
  obtain⟨hb,e⟩:=za z;obtain⟨Z,Y,U,_⟩:=hf p.1 hb;obtain⟨o,e',d⟩:=R p.1 hb;rw[e]at e';cases e';exact#[e,Z,Y,U,d]
def Inv.lh(I:Inv X (pins++pl) J H s):Inv X pins J H s:=I.wO fun p O=>I.pin p (Qr _ (List.mem_append_left _ O))
def zH(p:PassesOwn (model X.prog X.w) X.A X.env X.xe)(L:X.calm=true)(hi:PI X tg iter wi)(hg:PG X tg g)(hb:PSs X body tb)
 (hs:∀ x,foldedSetIterable iter X.env x=pure x):PS X (.For tg iter body [] pos) (Lu wi g tb):=by
 k_all;refine wpAny_For (thn (hi pins s J H _ I h) fun v s1 h1=>thn h1 fun itv s2 h2=>?_) hs;obtain⟨it,fp,tn,QK,H2,e,I2,T,z,M,W,⟨m0,w0⟩,turn⟩:=h2;subst e
 have Y:∀ {H':Hp},(∀ b∈fp,H' b=none)->∀ b∈fp,kH X pins H' b:=fun hn b hb=>#[hn b hb,(M b hb).2]
 refine codeAny_forLoop_any (fun n s'=>∃ i U H',Inv X pins U H' s'/\tn i s'.heap/\(∀ b∈fp,H' b=none)/\W i n U H') ?_ m0 ⟨0,J,H2,I2,z,fun b hb=>(M b hb).1,w0⟩;rintro n K ⟨i,R,t,P,k,q,w3⟩
 rcases turn i n R t w3 with⟨stop,qn⟩ | ⟨go,N,hN,step⟩
 ·refine wpAny_passesOwn p (thn (T.done X rfl rfl rfl L i pins K R t X.xe P (Y q) k stop) fun r s4 ⟨C,I4⟩=>?_);subst C;exact wpAny_execs_nil ⟨R,t,I4,qn⟩
 ·refine wpAny_passesOwn p (thn (T.item X rfl rfl rfl L i pins K R t X.xe P (Y q) k go) fun r s4 ⟨u,C,h4⟩=>?_);subst C;refine wpAny_passesOwn p (thn h4 fun _ G ⟨x,Q,I5,r5,S,j,E⟩=>?_);have F:=I5.pinned (Y E) (T.obj _ _ j);refine wpAny_passesOwn p (thn (hg _ G R Q x u _ F r5 (step x Q S)) fun _ s6 ⟨y,H6,I6,q6⟩=>?_);refine wpAny_passesOwn p (thn (hb _ s6 y H6 _ I6 q6) fun f B c=>?_)
  have again:∀ {O:St} {a:Hp},Inv X (pins++lZ fp G.heap) O a B->N O a->∃ m,m<n/\∃ i U H',Inv X pins U H' B/\tn i B.heap/\(∀ b∈fp,H' b=none)/\W i m U H':=fun {O a} Z l=>by
   obtain⟨m',hm,w7⟩:=hN O a l;refine#[m',hm,i+1,O,a,Z.lh,T.keep _ _ _ j fun b hb o e=>(Z.pin (b,o) (Qr _ (Qr _ (i9 hb e)))).1,fun b hb=>?_,w7];obtain⟨o,e,d⟩:=T.obj _ _ j b hb;exact(Z.pin (b,o) (Qr _ (Qr _ (i9 hb e)))).2.1
  cases f with
  | next=>obtain⟨O,a,Z,l⟩:=c;exact again Z l
  | cont=>obtain⟨O,a,Z,l⟩:=c;exact again Z l
  | brk=>obtain⟨O,a,Z,c⟩:=c;exact#[O,a,Z.lh,c]
  | ret v=>obtain⟨V,O,a,Z,r7,c⟩:=c;exact#[V,O,a,Z.lh,r7,c]
end
@[reducible]noncomputable def R2:=V->V->Hp->VK->Prop
abbrev OpR(X:Cx)(f:Value->Value->Sem Value)(r:R2):Prop :=
 ∀ (pins:List (Addr × Obj)) (s:Shared) (J:St) (H:Hp) (x y:V) (v u:Value) (Q:VK),Inv X pins J H s->RelV x v->RelV y u->r x y H Q ->
  wpAny (model X.prog X.w) X.A (f v u) (EP X pins J Q) X.xe s
abbrev UnR(X:Cx)(f:Value->Sem Value)(r:V->Hp->VK->Prop):Prop :=
 ∀ (pins:List (Addr × Obj)) (s:Shared) (J:St) (H:Hp) (x:V) (v:Value) (Q:VK),Inv X pins J H s->RelV x v->r x H Q ->
  wpAny (model X.prog X.w) X.A (f v) (EP X pins J Q) X.xe s
abbrev bL(X:Cx)(f:Value)(r:List V->Hp->VK->Prop):Prop :=
 ∀ (pins:List (Addr × Obj)) (s:Shared) (J:St) (H:Hp) (xs:List V) (us:List Value) (Q:VK),Inv X pins J H s->Vals xs us->r xs H Q ->
  wpAny (model X.prog X.w) X.A (call f us) (EP X pins J Q) X.xe s
abbrev Le(X:Cx)(r:V->Hp->(Bool->Hp->Prop)->Prop):Prop :=
 ∀ (pins:List (Addr × Obj)) (s:Shared) (J:St) (H:Hp) (x:V) (v:Value) (Q:Bool->Hp->Prop),Inv X pins J H s->RelV x v->r x H Q ->
  wpAny (model X.prog X.w) X.A (truthy v) (TP X pins J Q) X.xe s
abbrev tOp(r:R2)(I tb:TE):TE:=fun J H Q=>I J H fun x O=>tb J O fun y H2=>r x y H2 Q
abbrev tUn(r:V->Hp->VK->Prop)(I:TE):TE:=fun J H Q=>I J H fun x O=>r x O Q
abbrev rI(C:Int->Int->Prop)(g:Int->Int->V):R2:=fun x y H Q=>∃ i j,x=.int i/\y=.int j/\C i j/\Q (g i j) H
abbrev rI0(g:Int->Int->V):R2:=fun x y H Q=>∃ i j,x=.int i/\y=.int j/\Q (g i j) H
abbrev rU(g:Int->V):V->Hp->VK->Prop:=fun x H Q=>∃ i,x=.int i/\Q (g i) H
section
variable{X:Cx}{a b c:Expr}{ta tb tc:TE}{pos:Pos}
def B2(ha:PE X a ta)(hb:PE X b tb){pins:List (Addr × Obj)}{s:Shared}{J:St}{H:Hp}{R:V->V->Hp->Prop}(I:Inv X pins J H s)
 (h:ta J H fun x Y=>tb J Y fun y H2=>R x y H2){Q:Value->Shared->Prop}{f:Value->Value->Sem Value}
 (hf:∀ v u s2 x y H2,Inv X pins J H2 s2->RelV x v->RelV y u->R x y H2->wpAny (model X.prog X.w) X.A (f v u) Q X.xe s2) :
  wpAny (model X.prog X.w) X.A (eval a X.env) (fun v U=>wpAny (model X.prog X.w) X.A (eval b X.env) (fun u O=>wpAny (model X.prog X.w) X.A (f v u) Q X.xe O) X.xe U) X.xe s:=by
 refine thn (ha pins s J H _ I h) fun v s1 ⟨x,Y,i,c,e⟩=>?_;refine thn (hb pins s1 J Y _ i e) fun u s2 ⟨y,H2,g,Z,d⟩=>?_;exact hf v u s2 x y H2 g c Z d
def KN{O:Operator}{r:R2}(Y:OpR X (binaryOp O) r)(ha:PE X a ta)(hb:PE X b tb):PE X (.BinOp a O b pos) (tOp r ta tb):=by
 lk;exact wpAny_BinOp (B2 ha hb I h fun v u s2 x y H2 Z U R q=>Y pins s2 J H2 x y v u Q Z U R q)
def Dc(U:UnR X (unaryOp op) r)(ha:PE X a ta):PE X (.UnaryOp op a pos) (tUn r ta):=by
 lk;exact UnaryOp_ (thn (ha pins s J H _ I h) fun v s1 ⟨x,Z,Y,O,R⟩=>U pins s1 J Z x v Q Y O R)
def opI{f:Value->Value->Sem Value}{C:Int->Int->Prop}{g:Int->Int->Int}
 (rule:∀ (i j:Int) (t u:Tok) (s:Shared) (Q:Value->Shared->Prop) (E:Value->Shared->Prop),C i j->Q (.int (g i j) s.toks) { s with toks:=s.toks+1 }->wpAny (model X.prog X.w) X.A (f (.int i t) (.int j u)) Q E s) :
  OpR X f (rI C fun i j=>.int (g i j)):=by
 intro pins s J H x y v u Q I U R h;obtain⟨i,j,rfl,rfl,Y,q⟩:=h;obtain⟨t,rfl⟩:=U;obtain⟨O,rfl⟩:=R;exact rule i j t O s _ _ Y ⟨.int (g i j),H,I.tok _,⟨_,rfl⟩,q⟩
def GU{f:Value->Value->Sem Value}{g:Int->Int->Int}
 (rule:∀ (i j:Int) (t u:Tok) (s:Shared) (Q:Value->Shared->Prop) (E:Value->Shared->Prop),Q (.int (g i j) s.toks) { s with toks:=s.toks+1 }->wpAny (model X.prog X.w) X.A (f (.int i t) (.int j u)) Q E s) :
  OpR X f (rI0 fun i j=>.int (g i j)):=by
 intro pins s J H x y v u Q I U R h;obtain⟨i,j,rfl,rfl,q⟩:=h;obtain⟨t,rfl⟩:=U;obtain⟨O,rfl⟩:=R;exact rule i j t O s _ _ ⟨.int (g i j),H,I.tok _,⟨_,rfl⟩,q⟩
abbrev Gm(i j:Int):Prop:=0<=j/\j<=1000000/\i.natAbs<2 ^ 64
abbrev xM(i j:Int):Prop:=(-(2 ^ 64)<i/\i<2 ^ 64)\/(-(2 ^ 64)<j/\j<2 ^ 64)
def xM.ok(h:xM i j):IntMulOk i j:=by
 rcases h with⟨O,I⟩ | ⟨O,I⟩
 ·exact .of_left (intBits_le_64 O I)
 ·exact .of_right (intBits_le_64 O I)
def J8:OpR X (binaryOp .Add) (rI0 fun i j=>.int (i+j)):=GU fun _ _ _ _ _ _ _ q=>add_int q
def Jr:OpR X (binaryOp .Sub) (rI0 fun i j=>.int (i-j)):=GU fun _ _ _ _ _ _ _ q=>sub_int q
def GA:OpR X (binaryOp .Mult) (rI xM fun i j=>.int (i*j)):=opI fun _ _ _ _ _ _ _ I q=>mul_int q I.ok
def FX:OpR X (binaryOp .Mod) (rI (fun _ j=>0<j) fun i j=>.int (i%j)):=opI fun i j _ _ _ _ _ I q=>by
 have O:(0:Int)<j:=I;exact mod_int' (by omega) (by rw[Int.fmod_eq_emod_of_nonneg i (by omega)];exact q)
def HD:OpR X (binaryOp .Pow) (rI Gm fun i j=>.int (i ^ j.toNat)):=opI fun _ _ _ _ _ _ _ I q=>pow_int_small I.1 I.2.1 I.2.2 q
def unI{f:Value->Sem Value}{g:Int->Int}
 (rule:∀ (i:Int) (t:Tok) (s:Shared) (Q:Value->Shared->Prop) (E:Value->Shared->Prop),Q (.int (g i) s.toks) { s with toks:=s.toks+1 }->wpAny (model X.prog X.w) X.A (f (.int i t)) Q E s) :
  UnR X f (rU fun i=>.int (g i)):=by
 intro pins s J H x v Q I O h;obtain⟨i,rfl,q⟩:=h;obtain⟨t,rfl⟩:=O;exact rule i t s _ _ ⟨.int (g i),H,I.tok _,⟨_,rfl⟩,q⟩
def Ag:UnR X (unaryOp .USub) (rU fun i=>.int (-i)):=unI fun _ _ _ _ _ q=>neg_int q
end
abbrev Ll:V->V->Bool
 | .non,.non=>true | .non,.int _=>true | .int _,.non=>true | .non,.bl _=>true | .bl _,.non=>true | .non,.str _=>true | .str _,.non=>true
 | .int _,.int _=>true | .bl _,.bl _=>true | .str _,.str _=>true | .byt _,.byt _=>true
 | .int _,.str _=>true | .str _,.int _=>true | .bl _,.str _=>true | .str _,.bl _=>true
 | _,_=>false
abbrev rNe:R2:=fun x y H Q=>Ll x y=true/\Q (.bl (!decide (x=y))) H
def DP:decide (V.int i=V.int j)=(i == j):=by
 rw[QG];simp
def IJ:decide (V.bl i=V.bl j)=(i == j):=by
 rw[QG];simp
def F4:decide (V.str i=V.str j)=(i == j):=by
 rw[QG];simp
def DR:decide (V.byt i=V.byt j)=(i.toList == j.toList):=by
 rw[QG];cases i;cases j;simp
section
variable{X:Cx}{a b c:Expr}{ta tb tc:TE}{pos:Pos}
def cE(I:Inv X pins J H s)(q:Q (.bl k) H)(e:k=k'):EP X pins J Q (.bool k') s:=by
 subst e;exact#[.bl k,H,I,rfl,q]
def KW:OpR X (compareOp .NotEq) rNe:=by
 intro pins s J H x y v u Q I Y O h;obtain⟨U,q⟩:=h
 cases x with
 |non=>
  cases Y
  cases y with
  | non=>cases O;exact PySem.EqNone.ne_none_none (cE I q (by simp))
  | bl j=>cases O;exact PySem.EqNone.ne_none_bool (cE I q (by simp))
  | int j=>obtain⟨R,rfl⟩:=O;exact PySem.EqNone.ne_none_int (cE I q (by simp))
  | str j=>obtain⟨R,rfl⟩:=O;exact PySem.EqNone.ne_none_str (cE I q (by simp))
  | _=>exact absurd (show false=true from U) Qj
 |bl i=>
  cases Y
  cases y with
  | non=>cases O;exact PySem.EqNone.ne_bool_none (cE I q (by simp))
  | bl j=>cases O;exact ne_bool (cE I q (congrArg not IJ))
  | str j=>obtain⟨R,rfl⟩:=O;exact PySem.EqMixed.ne_bool_str (cE I q (by simp))
  | _=>exact absurd (show false=true from U) Qj
 |int i=>
  obtain⟨t,rfl⟩:=Y
  cases y with
  | non=>cases O;exact PySem.EqNone.ne_int_none (cE I q (by simp))
  | int j=>obtain⟨R,rfl⟩:=O;exact ne_int (cE I q (congrArg not DP))
  | str j=>obtain⟨R,rfl⟩:=O;exact PySem.EqMixed.ne_int_str (cE I q (by simp))
  | _=>exact absurd (show false=true from U) Qj
 |str i=>
  obtain⟨t,rfl⟩:=Y
  cases y with
  | non=>cases O;exact PySem.EqNone.ne_str_none (cE I q (by simp))
  | bl j=>cases O;exact PySem.EqMixed.ne_str_bool (cE I q (by simp))
  | int j=>obtain⟨R,rfl⟩:=O;exact PySem.EqMixed.ne_str_int (cE I q (by simp))
  | str j=>obtain⟨R,rfl⟩:=O;exact ne_str (cE I q (congrArg not F4))
  | _=>exact absurd (show false=true from U) Qj
 |byt i=>
  obtain⟨t,rfl⟩:=Y
  cases y with
  | byt j=>obtain⟨R,rfl⟩:=O;exact W.ne_bytes (cE I q (congrArg not DR))
  | _=>exact absurd (show false=true from U) Qj
 | _=>cases y<;>exact absurd (show false=true from U) Qj
def Jd:OpR X (compareOp .Is) (fun x y H Q=>y=.non/\Q (.bl (decide (x=.non))) H):=by
 intro pins s J H x y v u Q I O R h;obtain⟨rfl,q⟩:=h;cases R;refine is_none_gen (cE I q ?_)
 cases x<;>first
  | (cases O;rfl)
  | (obtain⟨t,rfl⟩:=O;rfl)
def Ey:OpR X (compareOp .IsNot) (fun x y H Q=>y=.non/\Q (.bl (!decide (x=.non))) H):=by
 intro pins s J H x y v u Q I O R h;obtain⟨rfl,q⟩:=h;cases R;refine isnot_none_gen (cE I q ?_)
 cases x<;>first
  | (cases O;rfl)
  | (obtain⟨t,rfl⟩:=O;rfl)
def OpR.or(h:OpR X f r)(h':OpR X f r'):OpR X f (fun x y H Q=>r x y H Q\/r' x y H Q):=by
 intro pins s J H x y v u Q I R O q;rcases q with q | q
 ·exact h pins s J H x y v u Q I R O q
 ·exact h' pins s J H x y v u Q I R O q
def tD(b:Expr)(h:op≠.In)(I:op≠.NotIn):behindInMarks op b=false:=by
 have R:(op == CmpOp.In)=false:=by cases op<;>first | rfl | exact absurd rfl h
 have O:(op == CmpOp.NotIn)=false:=by cases op<;>first | rfl | exact absurd rfl I
 cases b<;>simp[behindInMarks,R,O]
def qA{O:CmpOp}{r:R2}(Y:OpR X (compareOp O) r)(ha:PE X a ta)(hb:PE X b tb)(hm:behindInMarks O b=false):PE X (.Compare a [O] [b] pos) (tOp r ta tb):=by
 lk;exact wpAny_Compare1 (B2 ha hb I h fun v u s2 x y H2 Z U R q=>Y pins s2 J H2 x y v u Q Z U R q) hm
abbrev DH(t:TE):TT:=fun J H Q=>t J H fun x H'=>∃ k,x=.bl k/\Q k H'
def nc(f:OpR X (compareOp op) r)(ha:PE X a ta)(hb:PE X b tb)(hm:behindInMarks op b=false):PT X (.Compare a [op] [b] pos) (DH (tOp r ta tb)):=by
 lk
 refine wpAny_isTrue_Compare1 (thn (ha pins s J H _ I h) fun v s1 ⟨x,m,j,U,d⟩=>thn (hb pins s1 J m _ j d) fun u s2 ⟨y,H2,i,R,Z⟩ =>
  thn (f pins s2 J H2 x y v u _ i U R Z) fun c n ⟨z,l,g,O,k,e,Y⟩=>?_) hm
 subst e;cases O;exact wpAny_truthy_bool ⟨l,g,Y⟩
abbrev sL(r R:R2)(ta tb tc:TE):TE:=fun J H Q=>ta J H fun x Y=>tb J Y fun y H2=>r x y H2 fun z I=>∃ k,z=.bl k /\
 (if k=true then tc J I fun O U=>R y O U Q else Q (.bl false) I)
def Cb(t:OpR X (compareOp op) r)(O:OpR X (compareOp op') r')(ha:PE X a ta)(hb:PE X b tb)(w:PE X c tc)
 (hm:lastMarks [op,op'] [b,c]=false):PE X (.Compare a [op,op'] [b,c] pos) (sL r r' ta tb tc):=by
 lk
 refine Compare_chain (thn (ha pins s J H _ I h) fun v s1 ⟨x,E,C,n,q⟩=>chain_link (thn (hb pins s1 J E _ C q) fun u s2 ⟨y,H2,B,R,p⟩ =>
  thn (t pins s2 J H2 x y v u _ B n R p) fun d j ⟨z,Z,Y,m,k,e,U⟩=>?_)) hm
 subst e;cases m;refine wpAny_truthy_bool ?_
 cases k with
 | false=>exact ite_ff ⟨.bl false,Z,Y,rfl,U⟩
 | true=>exact ite_tt (chain_last (thn (w pins j J Z _ Y U) fun g i ⟨f,D,A,l,o⟩=>O pins i J D y f u g Q A R l o))
def C2(A:OpR X (compareOp op) r)(O:OpR X (compareOp op') r')(ha:PE X a ta)(hb:PE X b tb)(B:PE X c tc)
 (hm:lastMarks [op,op'] [b,c]=false):PT X (.Compare a [op,op'] [b,c] pos) (DH (sL r r' ta tb tc)):=by
 lk
 refine isTrue_chain (thn (ha pins s J H _ I h) fun v s1 ⟨x,L,G,o,w⟩=>test_link (thn (hb pins s1 J L _ G w) fun u s2 ⟨y,H2,F,R,t⟩ =>
  thn (A pins s2 J H2 x y v u _ F o R t) fun d j ⟨z,Z,Y,n,k,e,U⟩=>?_)) hm
 subst e;cases n;refine wpAny_truthy_bool ?_
 cases k with
 |false=>
  obtain⟨P,e',q'⟩:=U;cases e';exact ite_ff ⟨Z,Y,q'⟩
 |true=>
  refine ite_tt (test_last (thn (B pins j J Z _ Y U) fun g i ⟨f,K,E,m,q⟩=>thn (O pins i J K y f u g _ E R m q) fun S M ⟨z2,QK,D,l,N,C,p⟩=>?_));subst C;cases l;exact wpAny_truthy_bool ⟨QK,D,p⟩
abbrev xh(K:W.Frag)(x:V)(H:Hp)(k:Bool):Prop :=
 match x with
 | .non=>k=false
 | .bl b=>k=b
 | .int i=>k=(i != 0)
 | .str y=>y.length<=sizeLine/\k=((y.length:Int) != 0)
 | .byt y=>y.size<=sizeLine/\k=((y.size:Int) != 0)
 | .ref p=>(∃ xs,SqL K H p xs/\k=!xs.isEmpty)\/(∃ xs,SqT K H p xs/\k=!xs.isEmpty)\/∃ kvs,H p=some (.dK kvs)/\k=!kvs.isEmpty
 | _=>False
def yf(r:KV kvs vs):(!vs.isEmpty)=!kvs.isEmpty:=by
 cases r<;>rfl
def pC(r:Vals xs its):(!its.toArray.isEmpty)=!xs.isEmpty:=by
 cases r<;>simp
def pj:(sizeLine:Nat)<2 ^ 63:=by rw[sizeLine_eq];decide
def yC:Le X (fun x H Q=>∃ k,xh X.K x H k/\Q k H):=by
 intro pins s J H x v Q I O h;obtain⟨k,e,q⟩:=h;have a:sizeLine=16777216:=sizeLine_eq
 cases x with
 |non=>
  cases O;have e':=e;subst e';exact truthy_none ⟨H,I,q⟩
 |bl b=>
  cases O;have e':=e;subst e';exact wpAny_truthy_bool ⟨H,I,q⟩
 |int i=>
  obtain⟨t,rfl⟩:=O;have e':=e;subst e';exact PySem.P.truthy_int ⟨H,I,q⟩
 |str y=>
  obtain⟨t,rfl⟩:=O;obtain⟨Y,e'⟩:y.length<=sizeLine/\k=((y.length:Int) != 0):=e;subst e';exact PySem.P.truthy_str (by omega) ⟨H,I.tok _,q⟩
 |byt y=>
  obtain⟨t,rfl⟩:=O;obtain⟨Y,e'⟩:y.size<=sizeLine/\k=((y.size:Int) != 0):=e;subst e';exact W.truthy_bytes (by omega) ⟨H,I.tok _,q⟩
 |ref p=>
  cases O;have e':=e
  rcases e' with⟨xs,R,e'⟩ | ⟨xs,R,e'⟩ | ⟨kvs,R,e'⟩
  ·subst e';obtain⟨its,r,pl,U⟩:=I.list R;have hlen:=r.length;exact wpAny_truthy_list pl.isList (by simp only[size_toArray];omega) ⟨H,I.tok _,by rw[pC r];exact q⟩
  ·subst e';obtain⟨its,r,pl,U⟩:=I.tuple R;have hlen:=r.length;exact truthy_tuple pl (by simp only[size_toArray];omega) ⟨H,I.tok _,by rw[pC r];exact q⟩
  ·subst e';obtain⟨U,Z,vs,r,m⟩:kvs.length<=sizeLine/\(p == sysModules)=false/\∃ vs,KV kvs vs/\s.heap.DictOf (bV X.prog X.w) p vs:=I.hok p _ R;have hlen:kvs.length=vs.length:=Paired.length r;exact wpAny_truthy_dict Z m (by omega) ⟨H,I.tok _,by rw[yf r];exact q⟩
 | _=>exact(show False from e).elim
def Bn(ha:PE X a ta)(U:∀ whole,isTrue a X.env whole=(do let v <- whole;standAt a.pos;holding [v] (truthy v))) :
  PT X a (fun J H Q=>ta J H fun x H'=>∃ k,xh X.K x H' k/\Q k H'):=by
 lk;exact isTrue_plain (thn (ha pins s J H _ I h) fun v s1 ⟨x,Z,Y,O,R⟩=>yC pins s1 J Z x v Q Y O R) (U _)
def yw:OpR X (binaryOp .Add) (fun x y H Q=>∃ i j,x=.str i/\y=.str j/\i.length+j.length<=sizeLine/\Q (.str (i++j)) H):=by
 intro pins s J H x y v u Q I U R h;obtain⟨i,j,rfl,rfl,Y,q⟩:=h;obtain⟨t,rfl⟩:=U;obtain⟨O,rfl⟩:=R;exact add_str (fun O Z=>#[.str (i++j),H,I.tok _,#[_,rfl],q]) Y
def vals1(r:Vals [x] us):∃ u,us=[u]/\RelV x u:=by
 cases r with
 | cons O I=>cases I;exact#[_,rfl,O]
def vals2(r:Vals [x,y] us):∃ u I,us=[u,I]/\RelV x u/\RelV y I:=by
 cases r with
 |cons Y U=>
  cases U with
  | cons R O=>cases O;exact#[_,_,rfl,Y,R]
def yY(R:X.calm=true):bL X (.builtin "max") (fun xs H Q=>∃ i j,xs=[.int i,.int j]/\Q (.int (if j > i then j else i)) H):=by
 fin2;obtain⟨i,j,rfl,q⟩:=h;obtain⟨u,U,rfl,⟨t,rfl⟩,⟨Z,rfl⟩⟩:=vals2 r
 refine max_two_ints (I.ok.hd.1 R) fun h' Y k=>#[_,H,I.kept k,?_,q]
 by_cases O:j > i
 ·rw[if_pos O,if_pos O];exact#[_,rfl]
 ·rw[if_neg O,if_neg O];exact#[_,rfl]
def yH:bL X (.type "int") (fun xs H Q=>(∃ i,xs=[.int i]/\Q (.int i) H)\/∃ k,xs=[.bl k]/\Q (.int (if k then 1 else 0)) H):=by
 fin2
 rcases h with⟨i,rfl,q⟩ | ⟨k,rfl,q⟩
 ·obtain⟨u,rfl,t,rfl⟩:=vals1 r;exact call_int_int ⟨.int i,H,I,⟨_,rfl⟩,q⟩
 ·obtain⟨u,rfl,O⟩:=vals1 r;cases O;exact call_int_bool ⟨.int (if k then 1 else 0),H,I.tok _,⟨_,rfl⟩,q⟩
abbrev Hk(K:W.Frag)(x:V)(H:Hp)(n:Nat):Prop :=
 match x with
 | .str y=>y.length<=sizeLine/\n=y.length
 | .byt y=>y.size<=sizeLine/\n=y.size
 | .ref p=>(∃ xs,SqL K H p xs/\n=xs.length)\/∃ xs,SqT K H p xs/\n=xs.length
 | _=>False
def C0:bL X (.builtin "len") (fun xs H Q=>∃ x n,xs=[x]/\Hk X.K x H n/\Q (.int n) H):=by
 fin2;obtain⟨x,n,rfl,e,q⟩:=h;obtain⟨u,rfl,O⟩:=vals1 r;have a:sizeLine=16777216:=sizeLine_eq
 cases x with
 |str y=>
  obtain⟨t,rfl⟩:=O;obtain⟨Z,e'⟩:y.length<=sizeLine/\n=y.length:=e;subst e';exact len_str (by omega) ⟨.int _,H,I.tok _,⟨_,rfl⟩,q⟩
 |byt y=>
  obtain⟨t,rfl⟩:=O;obtain⟨Z,e'⟩:y.size<=sizeLine/\n=y.size:=e;subst e';exact W.len_bytes (by omega) ⟨.int _,H,I.tok _,⟨_,rfl⟩,q⟩
 |ref p=>
  cases O;have e':=e
  rcases e' with⟨xs,U,e'⟩ | ⟨xs,U,e'⟩
  ·subst e';obtain⟨its,R,pl,Y⟩:=I.list U;have hlen:=R.length;exact Calls.call_len_list pl.isList (by simp only[size_toArray];omega) ⟨.int xs.length,H,I.tok _,⟨_,by simp only[size_toArray];rw[hlen]⟩,q⟩
  ·subst e';obtain⟨its,R,pl,Y⟩:=I.tuple U;have hlen:=R.length;exact len_tuple pl (by simp only[size_toArray];omega) ⟨.int xs.length,H,I.tok _,⟨_,by simp only[size_toArray];rw[hlen]⟩,q⟩
 | _=>exact(show False from e).elim
end
structure B9(h:Heap)(x dx C:Addr)(mA:Str->Option Value):Prop where
 obj:h.get? x=some (W.instObj C dx)
 ns:h.Ns1 dx mA
 ne:dx≠x
def AA{h:Heap}(n:h.Ns1 dx mA):∃ od,h.get? dx=some od/\∀ name,W.lookIn name od=some (mA name):=by
 obtain⟨o,es,Y,R,hd,hk,_,hm⟩:=n;refine#[o,R,fun name=>?_];have e:=hm name;unfold nsFind findBy at e;rw[<-Array.find?_toList]at e;unfold W.lookIn;rw[hd];dsimp only;split
 ·rename_i y q;rw[q]at e;exact congrArg some e
 ·rename_i q;rw[q]at e
  have a:es.toList.any (·.refKey)=false:=by
   rw[List.any_eq_false];intro y O;obtain⟨z,t,I⟩:=hk y (Array.mem_toList_iff.mp O);simp[DictEntry.refKey,I]
  have U:¬ es.toList.any (·.refKey)=true:=by rw[a];exact Qj
  rw[if_neg U];exact congrArg some e
def B9.look(I:B9 h x dx C mA):∃ od,W.InstAt h x (W.instObj C dx) C (some od)/\∀ name,W.lookIn name od=some (mA name) :=
 let ⟨od,O,hl⟩:=AA I.ns
 ⟨od,⟨I.obj,rfl,rfl,O⟩,hl⟩
def jf.some_of(r:jf (some v) o):∃ u,o=some u/\RelV v u:=by
 cases o with
 | none=>exact(show False from r).elim
 | some u=>exact#[u,rfl,r]
section
variable{P:Program}{w:World}{H H':Hp}{h h':Heap}{a C dx:Addr}{fs fs':List (Str × V)}
def ES(hok:HOk P w H h)(e:H a=some (.ins C dx fs)):∃ mA,B9 h a dx C mA/\(∀ f,jf (fs.lookup f) (mA f))/\PySem.Within mA (fs.map (·.1))/\fs.length<=1000/\H dx=some (.own a):=by
 obtain⟨d,z,ne,ob,mA,n,r,q⟩:=(show bC P w H h a (.ins C dx fs)from hok a _ e)
 exact#[mA,#[ob,n,ne],r,q,z,d]
end
structure Cls(K:W.Frag)(C:Addr):Prop where
 pg:W.plainGet K C Str.empty=true
 hd:W.hasDictIn K C=true
 po:W.plainOver K C=true
 sa:W.findIn K (.ref C) "__setattr__" = some (some (.builtin "object.__setattr__"))
def Cls.get{K:W.Frag}(c:Cls K C)(f:Str):W.plainGet K C f=true:=c.pg
section
variable{X:Cx}{pins:List (Addr × Obj)}{J:St}{H:Hp}{s:Shared}{A:Around}{E:Value->Shared->Prop}{Q:Value->Shared->Prop}{c:Value}{b:Bool}
inductive fN (K:W.Frag) (H:Hp):V->Value->Prop where
 | non:fN K H .non (.type "NoneType")
 | bl (x:Bool):fN K H (.bl x) (.type "bool")
 | int (i:Int):fN K H (.int i) (.type "int")
 | str (x:Str):fN K H (.str x) (.type "str")
 | flt (x:UInt64):fN K H (.flt x) (.type "float")
 | lst {a:Addr} {xs:List V} (e:H a=some (.lst xs)):fN K H (.ref a) (.type "list")
 | frz {a:Addr} {o:Obj} {xs:List V} (e:H a=some (.frz o (.lst xs))):fN K H (.ref a) (.type "list")
 | tup {a:Addr} {xs:List V} (e:H a=some (.tup xs)):fN K H (.ref a) (.type "tuple")
 | dK {a:Addr} {kvs:List (Key × V)} (e:H a=some (.dK kvs)):fN K H (.ref a) (.type "dict")
 | dT {a:Addr} {kvs:List (List Key × V)} (e:H a=some (.dT kvs)):fN K H (.ref a) (.type "dict")
 | ins {a C dx:Addr} {fs:List (Str × V)} (e:H a=some (.ins C dx fs)) (cl:Cls K C) (ha:W.findIn K (.ref C) "__class__" = some (some (.builtin "object.__class__")))
   (hn:W.specialIn K (.builtin "object.__class__") "__get__" = some (some (.builtin "getset_descriptor.__get__"))) (htk:W.takesIn K (.builtin "object.__class__")=some true)
   (hm:W.mroIn K C (.type "object")=some true):fN K H (.ref a) (.ref C)
def zR(I:Inv X pins J H s)(R:RelV x u)(ty:fN X.K H x t)(e:W.kitOne X.K t c=some b)(h:∀ Z,Q (.bool b) { s with toks:=Z }) :
  wpAny (model X.prog X.w) A (call (.builtin "isinstance") [u,c]) Q E s:=by
 cases ty with
 | non=>cases(show u=Value.none from R);exact W.kia_one W.kitx_none I.kIn True.intro e (fun z=>nomatch z) h
 | bl y=>cases(show u=Value.bool y from R);exact W.kia_one W.kitx_bool I.kIn True.intro e (fun z=>nomatch z) h
 | int i=>obtain⟨t,q⟩:=(show ∃ t,u=Value.int i t from R);cases q;exact W.kia_one W.kitx_int I.kIn True.intro e (fun z=>nomatch z) h
 | str y=>obtain⟨t,q⟩:=(show ∃ t,u=Value.str y t from R);cases q;exact W.kia_one W.kitx_str I.kIn True.intro e (fun z=>nomatch z) h
 | flt y=>obtain⟨t,q⟩:=(show ∃ t,u=Value.float y t from R);cases q;exact W.kia_one W.kitx_float I.kIn True.intro e (fun z=>nomatch z) h
 |@lst a xs ea=>
  cases(show u=Value.ref a from R)
  obtain⟨_,_,n,_,U⟩:=(show bC X.prog X.w H s.heap a (.lst xs)from I.hok a _ ea)
  exact W.kia_one W.kitx_list I.kIn ⟨_,U,rfl⟩ e (fun z=>nomatch z) h
 |@frz a ob xs ea=>
  cases(show u=Value.ref a from R)
  obtain⟨_,_,_,n,_,U⟩:=(show bC X.prog X.w H s.heap a (.frz ob (.lst xs))from I.hok a _ ea)
  exact W.kia_one W.kitx_list I.kIn ⟨_,U,rfl⟩ e (fun z=>nomatch z) h
 |@tup a xs ea=>
  cases(show u=Value.ref a from R)
  obtain⟨_,_,_,p⟩:=(show bC X.prog X.w H s.heap a (.tup xs)from I.hok a _ ea)
  obtain⟨o,U,Y,_⟩:=p;exact W.kia_one W.kitx_tuple I.kIn ⟨o,U,Y⟩ e (fun z=>nomatch z) h
 |@dK a kvs ea=>
  cases(show u=Value.ref a from R)
  obtain⟨_,_,vs,_,p⟩:=(show bC X.prog X.w H s.heap a (.dK kvs)from I.hok a _ ea)
  obtain⟨o,es,d,U,Y,_⟩:=p;exact W.kia_one W.kitx_dict I.kIn ⟨o,U,Y.1⟩ e (fun z=>nomatch z) h
 |@dT a kvs ea=>
  cases(show u=Value.ref a from R)
  obtain⟨_,_,xs,_,o,es,d,U,Y,_⟩:=(show bC X.prog X.w H s.heap a (.dT kvs)from I.hok a _ ea)
  exact W.kia_one W.kitx_dict I.kIn ⟨o,U,Y.1⟩ e (fun z=>nomatch z) h
 |@ins a C dx fs ea cl ha hn htk hm=>
  cases(show u=Value.ref a from R);obtain⟨mA,O,_⟩:=ES I.hok ea;obtain⟨od,QK,_⟩:=O.look;exact W.kia_one (W.kitx_own (cl.get _) cl.hd ha hn htk hm) I.kIn QK e (fun z=>nomatch z) h
end
structure cH(k:Nat)(A:Around):Prop where
 hd:A.handled=none
 dp:A.depth+3*k+5<recursionLimit
 un:A.units+16*k+200<cLine
def cH.mono(r:cH k A)(h:j<=k):cH j A:=⟨r.hd,by have:=r.dp;omega,by have:=r.un;omega⟩
def cH.deeper(r:cH (k+1) A)(env:Env):cH k (A.deeper env) :=
 ⟨r.hd,by have:=r.dp;show A.depth+1+3*k+5<_;omega,by have:=r.un;show A.units+3+16*k+200<_;omega⟩
def cH.depth(r:cH k A):A.depth<recursionLimit:=by have:=r.dp;omega
abbrev qv:TA:=fun _ H Q=>Q [] H
abbrev p8(O:TE)(I:TA):TA:=fun J H Q=>O J H fun x R=>I J R fun xs H2=>Q (x::xs) H2
section
variable{X:Cx}{e:Expr}{es:List Expr}{te:TE}{t:TA}{pos:Pos}
def cT:PA X [] qv:=fun _ _ _ _ H Q I h=>Calls.spliced_nil ⟨[],H,I,.nil,h⟩
def bz(ha:PE X e te)(a:PA X es t)(Z:starEach (e::es) X.env=(false,eval e X.env)::starEach es X.env):PA X (e::es) (p8 te t):=by
 intro pos pins s J H Q I h;rw[Z];refine Calls.spliced_cons (thn (ha pins s J H _ I h) fun u s1 ⟨x,d,c,R,Y⟩=>?_)
 exact thn (a pos pins s1 J d _ c Y) fun us s2 ⟨xs,H2,b,O,U⟩=>#[x::xs,H2,b,.cons R O,U]
abbrev LV(t:TA):TE:=fun J H Q=>t J H fun xs I=>xs.length<=sizeLine/\∀ p,I p=none->Q (.ref p) (upd I p (.tup xs))
abbrev Lc(t:TA):TE:=fun J H Q=>t J H fun xs I=>xs.length<=sizeLine/\∀ p,I p=none->Q (.ref p) (upd I p (.lst xs))
def FD(h:PA X es t):PE X (.Tuple es x1 pos) (LV t):=by
 intro pins s J H Q I R;refine wpAny_Tuple_spliced (thn (h pos pins s J H _ I R) fun us s1 ⟨xs,U,O,r,z,q⟩=>#[by rw[<-r.length];exact z,?_]);have hf:=O.hok.fresh (Qb _);refine#[.ref s1.heap.objs.size,upd U s1.heap.objs.size (.tup xs),O.laid (fun b u e=>J2 _ e) (Qb _) ?_,rfl,q _ hf];exact#[z,us,r,#[_,Qc _ rfl,rfl,_,rfl]]
def Iz(h:PA X es t):PE X (.List es pos) (Lc t):=by
 intro pins s J H Q I R;refine wpAny_List_spliced (thn (h pos pins s J H _ I R) fun us s1 ⟨xs,U,O,r,z,q⟩=>#[by rw[<-r.length];exact z,?_]);have hf:=O.hok.fresh (Qb _);refine#[.ref s1.heap.objs.size,upd U s1.heap.objs.size (.lst xs),O.laid (fun b u e=>J2 _ e) (Qb _) ?_,rfl,q _ hf];exact#[z,us,0,r,Qc _ rfl]
end
@[reducible]noncomputable def Sp:=List V->Hp->VK->XK->Prop
@[reducible]noncomputable def CXT:=List Env->Hp->Shared->XK->Value->Shared->Prop
structure ur(P:Program)(w:World)(K:W.Frag)(mg:Str->Option Value)(base:Heap)(A:Around)(outer:List Env)(s:Shared)(H:Hp):Prop where
 frames:A.frames=some outer
 mod:Mod K mg base
 bs:∀ b o,base.get? b=some o->s.heap.get? b=some o/\H b=none
 bsz:base.objs.size<=s.heap.objs.size
 eI:s.heap.FunFrames base outer
 frf:∀ b∈frs outer,H b=none
 hok:HOk P w H s.heap
 bare:AllBare s.gens
abbrev CE(outer:List Env)(P:Program)(w:World)(H:Hp)(s:Shared)(Q:VK)(u:Value)(s':Shared):Prop :=
 ∃ v H',s'.os=s.os/\AllBare s'.gens/\Un (frs outer) [] H H' s.heap s'.heap/\HOk P w H' s'.heap/\RelV v u/\Q v H'
abbrev CR(CX:CXT)(outer:List Env)(P:Program)(w:World)(H:Hp)(s:Shared)(Q:VK)(E:XK)(r:Result)(s':Shared):Prop :=
 match r with
 | .ok (.ret u)=>CE outer P w H s Q u s'
 | .ok _=>False
 | .error e=>CX outer H s E e s'
structure eU(P:Program)(w:World)(K:W.Frag)(mg:Str->Option Value)(base:Heap)(CX:CXT)(k:Nat)(f:Addr)(fd:FuncData)(ps:List Str)(sp:Sp):Prop where
 len:∀ vs H Q E,sp vs H Q E->vs.length=ps.length
 run:∀ (A:Around) (outer:List Env) (s:Shared) (H:Hp) (args:Args) (us:List Value) (vs:List V) (Q:VK) (E:XK),cH k A->ur P w K mg base A outer s H->BindsTo s fd args (ps.zip us)->Vals vs us->sp vs H Q E ->
  codeAny (model P w) A (.call (.ref f) args) (CR CX outer P w H s Q E) s
section
variable{X:Cx}{pins:List (Addr × Obj)}{J:St}{H:Hp}{s s':Shared}
def Inv.B4(I:Inv X pins J H s):ur X.prog X.w X.K X.mg X.base X.A X.stack s H :=
 ⟨I.ok.frames,I.ok.mod,I.bs,Qn I.ok.bsz I.sz,I.stack,I.m8,I.hok,I.bare⟩
def Inv.after(I:Inv X pins J H s)(h:CE X.stack X.prog X.w H s Q u s'):EP X pins J Q u s':=by
 obtain⟨v,H',os,bare,un,hok,r,q⟩:=h;obtain⟨R,g,d,t,O⟩:=s';obtain rfl:O=s.os:=os;exact#[v,H',I.call (h':=R) (g':=g) (d':=d) (t':=t) (ch:=[]) un hok bare (fun b z=>absurd z (by simp)),r,q]
end
abbrev sF(sp:Sp)(I:List V)(E:XK)(t:TA):TE:=fun J H Q=>t J H fun vs O=>sp (vs++I) O Q E
abbrev Binds(K:W.Frag)(fd:FuncData)(ps:List Str)(ds:List Value):Prop :=
 ∀ (s:Shared) (us:List Value),K.In s.heap->(us++ds).length=ps.length->BindsTo s fd ⟨us,[]⟩ (ps.zip (us++ds))
def Binds.all{K:W.Frag}(h:∀ us:List Value,us.length=ps.length->bindArgs fd ⟨us,[]⟩=pure (ps.zip us)):Binds K fd ps []:=fun s us _ hl=>by
 rw[QA]at hl ⊢;exact .of_eq (h us hl)
abbrev Passes(CX:CXT)(X:Cx)(E:XK):Prop:=∀ (pins:List (Addr × Obj)) (J:St) (H:Hp) (s:Shared) (e:Value) (s':Shared),Inv X pins J H s->CX X.stack H s E e s'->X.xe e s'
section
variable{X:Cx}{CX:CXT}{k:Nat}{f C:Addr}{fd:FuncData}{ps:List Str}{sp:Sp}{dvs:List V}{ds:List Value}{E:XK}{x m:Str}{p pos apos:Pos}{e o:Expr}{es:List Expr}{ta:TE}{t:TA}
def FK(F:eU X.prog X.w X.K X.mg X.base CX k f fd ps sp)(Y:cH k X.A)(hb:Binds X.K fd ps ds)(hd:Vals dvs ds)(U:Passes CX X E)
 (I:Inv X pins J H s)(r:Vals vs us)(h:sp (vs++dvs) H Q E):wpAny (model X.prog X.w) X.A (call (.ref f) us) (EP X pins J Q) X.xe s:=by
 have R:Vals (vs++dvs) (us++ds):=r.append hd
 have hl:(us++ds).length=ps.length:=by rw[<-R.length];exact F.len _ _ _ _ h
 refine wpAny_call (codeAny_mono (F.run X.A X.stack s H ⟨us,[]⟩ (us++ds) (vs++dvs) Q E Y I.B4 (hb s us I.kIn hl) R h) fun r s' O=>?_)
 cases r with
 | error e=>exact U pins J H s e s' I O
 |ok Z=>
  cases Z with
  | ret u=>exact I.after O
  | next=>exact False.elim O
  | brk=>exact False.elim O
  | cont=>exact False.elim O
def vL(F:eU X.prog X.w X.K X.mg X.base CX k f fd ps sp)(Z:cH k X.A)(hg:Gl X x)(hm:X.mg x=some (.ref f))(hk:W.keepIn X.K (.ref f)=true)(hb:Binds X.K fd ps ds)(hd:Vals dvs ds)(Y:Passes CX X E)
 (ha:PA X (e::es) t)(R:(x == ("__debug__" : Str))=false)(a:starEach (e::es) X.env=(false,eval e X.env)::starEach es X.env)(O:(backTo pos (starEach es X.env)).any (·.1)=false) :
  PE X (.Call (.Name x p) (e::es) [] pos) (sF sp dvs E t):=by
 lk;refine wpAny_Call_Name_kw (iG I hg hm ?_ R);refine W.callWith_K I.ok.mod.kin hk (thn (ha pos pins s J H _ I h) fun us s1 ⟨vs,b,U,r,q⟩=>#[U.kIn,?_]) a O;exact FK F Z hb hd Y U r q
end
structure gx(N P:List Str)(sc:Scope):Prop where
 kind:sc.kind=.function
 co:sc.isCoroutine=false
 gen:sc.isGenerator=false
 nd:N.Nodup
 pre:N.take P.length=P
 par:∀ x∈P,sc.names.lookup x=some .local\/sc.names.lookup x=some .cell
 GN:∀ y∈sc.names,y.2≠.free
def r9{kindOf:Str->Option NameKind}:∀ {binds:List (Str × Value)} {m:Str->Option Value},(∀ v,(x,v)∉binds)->bindL kindOf binds m x=m x
 | [],_,_=>rfl
 | (n,v)::r,m,h=>by
  unfold bindL;rw[r9 fun w I=>h w (Qk _ I)];split
  ·have:x≠n:=by rintro rfl;exact h v Qq
   simp[this]
  ·rfl
def rF{kindOf:Str->Option NameKind}:∀ {binds:List (Str × Value)} {m:Str->Option Value},(∀ v,(x,v)∉binds)->bindC kindOf binds m x=m x
 | [],_,_=>rfl
 | (n,v)::r,m,h=>by
  unfold bindC;rw[rF fun w I=>h w (Qk _ I)];split
  ·rfl
  ·have:x≠n:=by rintro rfl;exact h v Qq
   simp[this]
def rP{kindOf:Str->Option NameKind}:∀ {P:List Str} {vs:List Value} {i:Nat} {m:Str->Option Value},P.Nodup->P[i]?=some x->vs[i]?=some v->kindOf x=some .local ->
  bindL kindOf (P.zip vs) m x=some v
 | [],_,_,_,_,h,_,_=>by simp at h
 | _::_,[],_,_,_,_,h,_=>by simp at h
 | p::P,w::vs,0,m,nd,h1,h2,hk=>by
  simp at h1 h2;subst h1;subst h2;show bindL kindOf ((p,w)::P.zip vs) m p=_;unfold bindL;rw[r9 fun v I=>(List.nodup_cons.mp nd).1 (of_mem_zip I).1,if_pos hk];simp
 | p::P,w::vs,i+1,m,nd,h1,h2,hk=>by
  unfold bindL;exact rP (List.nodup_cons.mp nd).2 (by simpa using h1) (by simpa using h2) hk
def rM{kindOf:Str->Option NameKind}:∀ {P:List Str} {vs:List Value} {i:Nat} {m:Str->Option Value},P.Nodup->P[i]?=some x->vs[i]?=some v->kindOf x≠some .local ->
  bindC kindOf (P.zip vs) m x=some v
 | [],_,_,_,_,h,_,_=>by simp at h
 | _::_,[],_,_,_,_,h,_=>by simp at h
 | p::P,w::vs,0,m,nd,h1,h2,hk=>by
  simp at h1 h2;subst h1;subst h2;show bindC kindOf ((p,w)::P.zip vs) m p=_;unfold bindC;rw[rF fun v I=>(List.nodup_cons.mp nd).1 (of_mem_zip I).1,if_neg hk];simp
 | p::P,w::vs,i+1,m,nd,h1,h2,hk=>by
  unfold bindC;exact rM (List.nodup_cons.mp nd).2 (by simpa using h1) (by simpa using h2) hk
abbrev start(N:List Str)(vs:List V):St:=vs.map some++replicate (N.length-vs.length) none
abbrev jd(CX:CXT)(P:Program)(w:World)(K:W.Frag)(mg:Str->Option Value)(base:Heap)(N:List Str)(qual:Str)(scope:Scope)(f:Addr)(O:Value)(A:Around)(outer:List Env)(s:Shared)(H:Hp)(E:XK):Cx where
 prog:=P
 w:=w
 K:=K
 mg:=mg
 base:=base
 A:=A.deeper (envOfC qual scope s.heap.objs.size f O)
 N:=N
 s₀:=s
 H₀:=H
 env:=envOfC qual scope s.heap.objs.size f O
 outer:=outer
 stack:=envOfC qual scope s.heap.objs.size f O::outer
 ex:=[]
 calm:=true
 fn:=fun _=>true
 pn:=[]
 xe:=fun e s'=>wpAny (model P w) (A.deeper (envOfC qual scope s.heap.objs.size f O)) (leaving (envOfC qual scope s.heap.objs.size f O) e) (fun _ I=>CX outer H s E e I) (fun e' I=>CX outer H s E e' I) s'
def uQ{sc:Scope}(h:sc.names.lookup x=some .cell):∃ c,(cellsFrom n sc.names []).lookup x=some c:=by
 have q:=W.cellsFrom_some sc.names n [] (.inl h);exact Option.isSome_iff_exists.mp q
def qT{CX:CXT}{P:Program}{w:World}{K:W.Frag}{mg:Str->Option Value}{base:Heap}{N ps:List Str}{qual:Str}{scope:Scope}{f:Addr}{g:Value}{A:Around}{outer:List Env}{s s1:Shared}{H:Hp}{E:XK}{us:List Value}{vs:List V}
 (S:gx N ps scope)(hd:A.handled=none)(O:ur P w K mg base A outer s H)(hl:vs.length=ps.length)(r:Vals vs us)
 (x:InCallC s s.heap.objs.size (bindL (envOfC qual scope s.heap.objs.size f g).kindOf (ps.zip us) fun _=>none) (cellsFrom (s.heap.objs.size+1) scope.names []) (bindC (envOfC qual scope s.heap.objs.size f g).kindOf (ps.zip us) fun _=>none) s1) :
  Inv (jd CX P w K mg base N qual scope f g A outer s H E) [] (start N vs) H s1:=by
 have l:ps.length<=N.length:=by have:=congrArg List.length S.pre;rw[length_take]at this;omega
 obtain⟨d,m,rfl,hk⟩:=x.done;have R:∀ b:Addr,b∉(jd CX P w K mg base N qual scope f g A outer s H E).ex:=fun b z=>absurd (show b∈([]:List Addr)from z) (by simp)
 refine⟨⟨O.mod,S.kind,rfl,rfl,Qb _,fun y z c d I=>?_,fun y U=>?_,fun y c _ h=>?_,⟨fun _=>hd,.inl hd⟩,Around.frames_deeper O.frames,.inr #[rfl,rfl],fun b z=>absurd z (R b),O.bs,O.bsz,fun b _ _=>R b,fun b z=>absurd z (R b),O.eI,O.frf⟩,
  rfl,O.bare,Un.kept hk,⟨_,x.toInCall.ns,fun i y v d I n=>?_⟩,fun y c h=>#[_,x.cell y c h],O.hok.fresh (Qb _),fun y c h=>?_,fun p Z=>absurd (show p∈([]:List (Addr × Obj))from Z) (by simp),O.hok.kept hk,?_⟩
 ·exact name_of_addr x.apart (PySem.mem_of_lookup d) (PySem.mem_of_lookup I)
 ·have U:=U;rcases U with U | U
  ·exact uQ U
  ·exact absurd rfl (S.GN _ (PySem.mem_of_lookup U))
 ·exact le_of_lt (x.above y c (PySem.mem_of_lookup h))
 ·have hi:i<vs.length:=by
   unfold start at I;by_cases hi:i<vs.length
   ·exact hi
   ·rw[Qm (by simpa using hi)]at I;rw[List.getElem?_replicate]at I;split at I<;>cases I
  have ha:vs[i]?=some v:=by
   unfold start at I;rw[getElem?_append_left (by simpa using hi),getElem?_map]at I
   cases e:vs[i]? with
   | none=>rw[e]at I;cases I
   | some a=>rw[e]at I;cases I;rfl
  obtain⟨u,hu,j⟩:=r.get ha
  have Z:ps[i]?=some y:=by
   rw[<-S.pre,List.getElem?_take_of_lt (by omega)];exact d
  have Y:ps.Nodup:=by rw[<-S.pre];exact S.nd.sublist (List.take_sublist _ _)
  refine#[u,j,?_];rcases S.par y (Qs Z)with k | k
  ·exact .inl #[k,rP Y Z hu k]
  ·obtain⟨c,e⟩:=uQ k;refine .inr #[.inl k,c,e,?_];have q:=x.cell y c e;rw[rM Y Z hu (by show scope.names.lookup y≠_;rw[k];decide)]at q;exact q
 ·exact O.hok.fresh (le_of_lt (x.above y c (PySem.mem_of_lookup h)))
 ·unfold start;show _=N.length;rw[length_append,length_map,List.length_replicate];omega
def DG{CX:CXT}{P:Program}{w:World}{K:W.Frag}{mg:Str->Option Value}{base:Heap}{k:Nat}{f:Addr}{name qual:Str}{params:Arguments}{body:List Stmt}{scope:Scope}{j kV doc pm cdv ct oc:Value}{an od:Option Addr}
 {osl:Array (Option Value)}{N ps:List Str}{sp:Sp}(m:K.lookup f=some ⟨oc,od,.func (W.fnOf name qual params body scope j kV doc pm an cdv ct),osl⟩)(i:W.codeIn K cdv qual=true)(S:gx N ps scope)
 (len:∀ vs H Q E,sp vs H Q E->vs.length=ps.length)
 (U:∀ (A:Around) (outer:List Env) (s:Shared) (H:Hp) (vs:List V) (Q:VK) (E:XK),cH k (A.deeper (envOfC qual scope s.heap.objs.size f cdv))->sp vs H Q E ->
   ∃ t,PSs (jd CX P w K mg base N qual scope f cdv A outer s H E) body t/\t { nx:=fun _ H'=>Q .non H',rt:=Q } (start N vs) H) :
  eU P w K mg base CX (k+1) f (W.fnOf name qual params body scope j kV doc pm an cdv ct) ps sp:=by
 refine#[len,fun A outer s H args us vs Q E h c hb r Z=>?_];have hl:=len _ _ _ _ Z;have l:K.In s.heap:=c.mod.kin.keeps fun b o e=>(c.bs b o e).1;have g:s.heap.NoLimit:=c.mod.nolimit.keeps fun b o e=>(c.bs b o e).1
 have R:∀ y∈ps.zip us,scope.names.lookup y.1=some .local\/(scope.names.lookup y.1=some .cell/\((cellsFrom (s.heap.objs.size+1) scope.names []).lookup y.1).isSome=true):=fun⟨n,v⟩ p=>by
  rcases S.par n (of_mem_zip p).1 with q | q
  ·exact .inl q
  ·exact .inr #[q,W.cellsFrom_some _ _ _ (.inl q)]
 refine codeAny_call_function h.depth (l _ _ m) rfl S.co S.gen rfl (W.codeRec_of l i) (hb _ _ _ _ ?_);refine wpAny_newFunctionEnv_cells S.kind R fun env C s1 x=>?_;subst C;refine#[g.keeps x.toInCall.keep,codeAny_func ?_];obtain⟨t,z,B⟩:=U A outer s H vs Q E (h.deeper _) Z;have I:Inv (jd CX P w K mg base N qual scope f cdv A outer s H E) [] (start N vs) H s1:=qT S h.hd c hl r x;refine wpAny_mono (z [] s1 (start N vs) H _ I B) (fun D s' Y=>?_) fun e s' Y=>Y
 have a:∀ {O:St} {H':Hp} {v:V} {u:Value},Inv (jd CX P w K mg base N qual scope f cdv A outer s H E) [] O H' s'->RelV v u->Q v H'->CE outer P w H s Q u s' :=
  fun {O H' v u} QK d q=>#[v,H',QK.os,QK.bare,QK.base,QK.hok,d,q]
 cases D with
 |ret u=>
  obtain⟨v,O,H',QK,d,q⟩:=Y;exact a QK d q
 |next=>
  obtain⟨O,H',QK,q⟩:=Y;exact a (v:=V.non) (u:=Value.none) QK rfl q
 |brk=>
  obtain⟨_,_,_,q⟩:=Y;exact False.elim q
 |cont=>
  obtain⟨_,_,_,q⟩:=Y;exact False.elim q
section
variable{X:Cx}{x:Str}{p pos:Pos}{e:Expr}{es:List Expr}{t:TA}{id T:String}{r:List V->Hp->VK->Prop}
abbrev tCB(r:List V->Hp->VK->Prop)(t:TA):TE:=fun J H Q=>t J H fun vs I=>r vs I Q
def gI(b:bL X (.builtin id) r)(hg:Gl X x)(hm:X.mg x=none)(Z:bootBuiltins x=some (.builtin id))(ha:PA X (e::es) t)(hn:x ≠ "__name__")(R:(x == ("__debug__" : Str))=false)
 (a:starEach (e::es) X.env=(false,eval e X.env)::starEach es X.env)(O:(backTo pos (starEach es X.env)).any (·.1)=false):PE X (.Call (.Name x p) (e::es) [] pos) (tCB r t):=by
 lk;refine wpAny_Call_Name_kw (iW I hg hm Z ?_ hn R);exact PyProof.Rows.callWith_builtin1 (thn (ha pos pins s J H _ I h) fun us s1 ⟨vs,d,c,U,Y⟩=>b pins s1 J d vs us Q c U Y) a O
def cA(b:bL X (.type T) r)(hg:Gl X x)(hm:X.mg x=none)(Z:bootBuiltins x=some (.type T))(ha:PA X (e::es) t)(hn:x ≠ "__name__")(R:(x == ("__debug__" : Str))=false)
 (a:starEach (e::es) X.env=(false,eval e X.env)::starEach es X.env)(O:(backTo pos (starEach es X.env)).any (·.1)=false):PE X (.Call (.Name x p) (e::es) [] pos) (tCB r t):=by
 lk;refine wpAny_Call_Name_kw (iW I hg hm Z ?_ hn R);exact PyProof.Rows.callWith_type1 (thn (ha pos pins s J H _ I h) fun us s1 ⟨vs,d,c,U,Y⟩=>b pins s1 J d vs us Q c U Y) a O
end
end L2
namespace HT
open PySem PyProof.Rows
section
variable{prog:Program}{w:World}{A:Around}{E:Value->Shared->Prop}{s:Shared}
def Fy(k:IsTup s.heap t vs.toArray)(hb:IsTup s.heap b I.toArray)(g:vs≠[])
 (m:I=[]->Q (.ref t) s)(l:I≠[]->Q (.ref s.heap.objs.size) { s with heap:=s.heap.push { cls:=.type "tuple",data:=.seq (vs++I).toArray } })
 (d:vs.length+I.length<=sizeLine):wpAny (model prog w) A (binaryOp .Add (.ref t) (.ref b)) Q E s:=by
 obtain⟨⟨cls,i,data,sl⟩,c,h,n,hd⟩:=id k;obtain⟨⟨j,Z,data2,R⟩,O,Y,f,U⟩:=id hb;simp only at h hd Y U;subst h hd Y U
 have e:vs.toArray++I.toArray=(vs++I).toArray:=by simp
 by_cases a:I=[]
 ·exact concat_meets ⟨_,c,rfl⟩ ⟨_,O,rfl⟩ noFill_tuple_add seq_tuple_add PySem.F.slot_tuple_add PySem.F.entry_tuple_add (PySem.F.args_tuple_add_2 _ _)
   (tuple_addW1 t b vs.toArray I.toArray n f i Z sl R (by simpa using g) (by simp[a])) ⟨c,O,m a⟩
 ·refine concat_meets ⟨_,c,rfl⟩ ⟨_,O,rfl⟩ noFill_tuple_add seq_tuple_add PySem.F.slot_tuple_add PySem.F.entry_tuple_add (PySem.F.args_tuple_add_2 _ _)
   (tuple_addW2 t b vs.toArray I.toArray n f i Z sl R (by simpa using g) (by simpa using a) (by rw[size_toArray,size_toArray];exact d)) ⟨c,O,?_⟩
  rw[e];exact l a
abbrev sIx(n d:Nat):Option Int->Nat
 | none=>d
 | some v=>if v<0 then(v+(n:Int)).toNat else min v.toNat n
def C1(n d:Nat):sIx n d none=d:=rfl
def mz(v:Int)(n d:Nat):(if v<0 then max (v+(n:Int)) 0 else min v (n:Int))=((sIx n d (some v):Nat):Int):=by
 show(if v<0 then max (v+(n:Int)) 0 else min v (n:Int))=(((if v<0 then(v+(n:Int)).toNat else min v.toNat n):Nat):Int);by_cases I:v<0
 ·simp only[if_pos I];omega
 ·simp only[if_neg I];omega
def xk(lo hi:Option Int)(n:Nat):Builtin.Slice.sliceAdjust lo hi 1 (n:Int)=(((sIx n 0 lo:Nat):Int),((sIx n n hi:Nat):Int)):=by
 have I:¬ (1<0):=by omega
 refine Prod.ext ?_ ?_
 ·cases lo with
  | none=>rfl
  | some v=>exact mz v n 0
 ·cases hi with
  | none=>rfl
  | some v=>exact mz v n n
def yy(i j:Nat):Builtin.Slice.slicePlaces (i:Int) (j:Int) 1=j-i:=by
 unfold Builtin.Slice.slicePlaces
 have I:1 > 0:=by omega
 split<;>omega
def pM(p:IsPart v o)(h:Q o s):wpAny (model prog w) A (Builtin.Slice.slicePartIndex v) Q E s:=by
 cases p with
 | none=>exact slicePart_none h
 | int i t=>exact slicePart_int h
def oy{sl:Addr}{U R:Value}{lo hi:Option Int}{n:Nat}{Q:Int × Int × Nat->Shared->Prop}(Y:s.heap.IsSliceOf sl U R .none)(pl:IsPart U lo)(pu:IsPart R hi)
 (h:Q (((sIx n 0 lo:Nat):Int),1,sIx n n hi-sIx n 0 lo) s):wpAny (model prog w) A (Builtin.Slice.sliceApplied (.ref sl) (pure (n:Int))) Q E s:=by
 obtain⟨os,I,Z,O⟩:=id Y;refine Qa (Qa (wpAny_field I O rfl (Qa (wpAny_field I O rfl (Qa (wpAny_field I O rfl (Qd ?_)))))));refine Qa (slicePart_none ?_);refine Qa (pM pl (Qa (pM pu (Qa (Qd ?_)))));show wpAny _ _ (match Builtin.Slice.sliceAdjust lo hi 1 (n:Int)with | (lo,hi)=>pure (lo,(1:Int),Builtin.Slice.slicePlaces lo hi 1)) _ _ s;rw[xk lo hi n];show wpAny _ _ (pure (((sIx n 0 lo:Nat):Int),(1:Int),Builtin.Slice.slicePlaces ((sIx n 0 lo:Nat):Int) ((sIx n n hi:Nat):Int) 1)) _ _ s;rw[yy];exact Qd h
def CP(xs:Array Value)(i k:Nat):((List.range k).filterMap fun(m:Nat)=>xs[((i:Int)+(m:Int)*1).toNat]?).toArray=((xs.toList.drop i).take k).toArray:=by
 have e:(fun(m:Nat)=>xs[(i+(m:Int)*1).toNat]?)=fun m=>xs[i+m]?:=by
  funext m
  have:(i+(m:Int)*1).toNat=i+m:=by omega
  rw[this]
 rw[e];have:=pick_run xs i k;rw[List.filterMap_map]at this;have I:((fun x=>xs[x]?) ∘ fun x=>i+x)=fun m=>xs[i+m]?:=rfl;rw[I]at this;rw[this]
def nh{t sl:Addr}{items:Array Value}{b a:Value}{lo hi:Option Int}{Q:Value->Shared->Prop}(O:IsTup s.heap t items)(c:s.heap.IsSliceOf sl b a .none)(pl:IsPart b lo)(pu:IsPart a hi)
 (d:¬ (sIx items.size 0 lo=0/\sIx items.size items.size hi=items.size))
 (h:Q (.ref s.heap.objs.size) { s with heap:=s.heap.push { cls:=.type "tuple",data:=.seq ((items.toList.drop (sIx items.size 0 lo)).take (sIx items.size items.size hi-sIx items.size 0 lo)).toArray } })
 (e:items.size<=sizeLine):wpAny (model prog w) A (getItem (.ref t) (.ref sl)) Q E s:=by
 have I:sizeOk (.seq ((items.toList.drop (sIx items.size 0 lo)).take (sIx items.size items.size hi-sIx items.size 0 lo)).toArray):=by
  show((items.toList.drop (sIx items.size 0 lo)).take (sIx items.size items.size hi-sIx items.size 0 lo)).toArray.size<=sizeLine;rw[size_toArray,length_take,List.length_drop,length_toList];omega
 obtain⟨os,R,Y,f⟩:=id c
 have Z:s.TypeIs (.ref sl) "slice" := #[os,R,Y]
 unfold getItem
 try with_reducible refine wpAny_holding ?_
 first | refine Qa (Qd ?_) | skip
 refine Qa (wpAny_sequenceKey O.typeIs ∅ ?_)
 refine Qa (wpAny_callSpecial?_slot O.typeIs PyProof.Rows.slot_tuple_getitem
  (wpAny_call_entry PyProof.Rows.slot_tuple_getitem O.typeIs entry_tuple_getitem ?_ (args_tuple_getitem _ _)))
 show wpAny _ _ (Builtin.Tuple.tupleItemsOf (.ref t) >>= _) _ _ s;refine Qa (tupleItemsOf_ O ?_);refine Qa (wpAny_typeOf Z ?_);refine Qa (oy c pl pu ?_)
 have U:¬ ((((sIx items.size 0 lo:Nat):Int) == 0&&(1:Int) == 1&&(sIx items.size items.size hi-sIx items.size 0 lo) == items.size)=true):=by
  intro q;rw[and_eq_true,and_eq_true]at q;have i:((sIx items.size 0 lo:Nat):Int)=0:=eq_of_beq q.1.1;have g:sIx items.size items.size hi-sIx items.size 0 lo=items.size:=eq_of_beq q.2;exact d ⟨by omega,by omega⟩
 show wpAny _ _ (if(((sIx items.size 0 lo:Nat):Int) == 0&&(1:Int) == 1&&(sIx items.size items.size hi-sIx items.size 0 lo) == items.size)=true then _ else _) _ _ s;rw[if_neg U,CP]
 first
  | exact Qa (wpAny_newObj_type (Qd ⟨_,rfl,Qd h⟩) I)
  | exact Qa (wpAny_newObj_type (Qa (Qd (Qd ⟨_,rfl,Qd h⟩))) I)
  | exact Qa (Qa (wpAny_newObj_type (Qd (Qd ⟨_,rfl,Qd h⟩)) I))
  | exact Qa (Qa (wpAny_newObj_type (Qd ⟨_,rfl,Qd h⟩) I))
end
end HT
namespace L2
open PySem PySem.Spec PyProof.Rows
@[reducible]noncomputable def TO:=St->Hp->(Option Int->Hp->Prop)->Prop
abbrev PO(X:Cx)(e:Option Expr)(t:TO):Prop :=
 ∀ (pins:List (Addr × Obj)) (s:Shared) (J:St) (H:Hp) (Q:Option Int->Hp->Prop),Inv X pins J H s->t J H Q ->
  wpAny (model X.prog X.w) X.A (evalPart e X.env) (fun u s'=>∃ o H',Inv X pins J H' s'/\IsPart u o/\Q o H') X.xe s
abbrev Fd:TO:=fun _ H Q=>Q none H
abbrev K9(t:TE):TO:=fun J H Q=>t J H fun x I=>∃ i,x=.int i/\Q (some i) I
def intsAre_of:∀ {us:List Value},Vals (ns.map V.int) us->IntsAre us ns:=by
 induction ns with
 | nil=>intro us r;rw[map_nil]at r;cases r;exact .nil
 |cons n ns R=>
  intro us r
  cases r with
  |cons O I=>
   obtain⟨t,e⟩:=O;subst e;exact .cons n t (R I)
section
variable{X:Cx}{e:Expr}{te:TE}{lo hi:Option Expr}{tl th:TO}{pos p2:Pos}
def EL:PO X none Fd:=by
 lk;exact Qd ⟨none,H,I,.none,h⟩
def Ee(h:PE X e te):PO X (some e) (K9 te):=by
 intro pins s J H Q I U;refine thn (h pins s J H _ I U) fun u s1 ⟨x,Z,Y,O,R⟩=>?_;obtain⟨i,rfl,q⟩:=R;obtain⟨t,rfl⟩:=O;exact#[some i,Z,Y,.int i t,q]
abbrev SlR(X:Cx)(r:V->Option Int->Option Int->Hp->VK->Prop):Prop :=
 ∀ (pins:List (Addr × Obj)) (s:Shared) (J:St) (H:Hp) (x:V) (v O I:Value) (lo hi:Option Int) (sl:Addr) (Q:VK),Inv X pins J H s->RelV x v->s.heap.IsSliceOf sl O I .none->IsPart O lo->IsPart I hi->r x lo hi H Q ->
  ∃ T id,typeLookup (.type T) "__getitem__" = pure (some (.builtin id))/\s.TypeIs v T/\wpAny (model X.prog X.w) X.A (getItem v (.ref sl)) (EP X pins J Q) X.xe s
def SlR.or(h:SlR X r)(h':SlR X r'):SlR X (fun x lo hi H Q=>r x lo hi H Q\/r' x lo hi H Q):=by
 intro pins s J H x v R O lo hi sl Q I U Y pl pu q;rcases q with q | q
 ·exact h pins s J H x v R O lo hi sl Q I U Y pl pu q
 ·exact h' pins s J H x v R O lo hi sl Q I U Y pl pu q
abbrev tSl(r:V->Option Int->Option Int->Hp->VK->Prop)(te:TE)(tl th:TO):TE:=fun J H Q=>te J H fun x O=>tl J O fun l H2=>th J H2 fun u I=>r x l u I Q
def Bg(g:SlR X r)(i:PE X e te)(hl:PO X lo tl)(hu:PO X hi th):PE X (.Subscript e (.Slice lo hi none p2) pos) (tSl r te tl th):=by
 lk;refine Subscript_ (thn (i pins s J H _ I h) fun v s1 ⟨x,o,n,Z,d⟩=>?_);refine wpAny_Slice (thn (hl pins s1 J o _ n d) fun U s2 ⟨l,H2,m,pl,c⟩=>thn (hu pins s2 J H2 _ m c) fun R O ⟨u,Y,k,pu,a⟩=>?_);rw[evalPart_none];refine Qd ?_;have j:Inv X pins J Y { O with heap:=O.heap.push { cls:=.type "slice",data:=.fields (List.toArray [U,R,.none]) } }:=k.kept (t':=O.toks) fun b ob q=>J2 _ q;obtain⟨T,id,hT,f,hg⟩:=g pins { O with heap:=O.heap.push { cls:=.type "slice",data:=.fields (List.toArray [U,R,.none]) } } J Y x v U R l u O.heap.objs.size Q j Z (Heap.IsSliceOf.new ..) pl pu a;show wpAny (model X.prog X.w) X.A (subscriptTail e (.Slice lo hi none p2) v (.ref O.heap.objs.size)) (EP X pins J Q) X.xe { O with heap:=O.heap.push { cls:=.type "slice",data:=.fields (List.toArray [U,R,.none]) } };exact tail_any (ops:=[.ref O.heap.objs.size,v]) f hT hg (by with_unfolding_all rfl)
abbrev qJ(xs:List V)(lo hi:Option Int):List V:=(xs.drop (HT.sIx xs.length 0 lo)).take (HT.sIx xs.length xs.length hi-HT.sIx xs.length 0 lo)
def nv(xs:List V)(lo hi:Option Int):(qJ xs lo hi).length<=xs.length:=by
 unfold qJ;rw[length_take,List.length_drop];omega
abbrev LM(K:W.Frag):V->Option Int->Option Int->Hp->VK->Prop:=fun x lo hi H Q=>∃ a xs,x=.ref a/\SqT K H a xs /\
 ¬ (HT.sIx xs.length 0 lo=0/\HT.sIx xs.length xs.length hi=xs.length)/\∀ p,H p=none->Q (.ref p) (upd H p (.tup (qJ xs lo hi)))
def Ha:SlR X (LM X.K):=by
 intro pins s J H x v e d lo hi sl Q I U c pl pu h;obtain⟨a,xs,rfl,Y,Z,q⟩:=h;cases U;obtain⟨its,r,R,O⟩:=I.tuple Y
 have hlen:its.toArray.size=xs.length:=by rw[size_toArray];exact r.length.symm
 refine#["tuple",_,PyProof.Rows.slot_tuple_getitem.lookup,R.typeIs,?_];refine HT.nh R c pl pu (by rw[hlen];exact Z) ?_ (by rw[hlen];exact O);rw[hlen];refine#[.ref s.heap.objs.size,_,I.laid (fun b ob q=>J2 _ q) (Qb _) ?_,rfl,q _ (I.hok.fresh (Qb _))];exact#[Qn (nv xs lo hi) O,_,(r.drop (HT.sIx xs.length 0 lo)).take (HT.sIx xs.length xs.length hi-HT.sIx xs.length 0 lo),IsTup.new _ _]
abbrev K0(K:W.Frag):R2:=fun x y H Q=>∃ a b xs ys,x=.ref a/\y=.ref b/\SqT K H a xs/\SqT K H b ys/\xs≠[]/\xs.length+ys.length<=sizeLine /\
 (ys=[]->Q (.ref a) H)/\(ys≠[]->∀ p,H p=none->Q (.ref p) (upd H p (.tup (xs++ys))))
def Vals.pZ(r:Vals xs us):us=[]↔xs=[]:=by
 cases r with
 | nil=>simp
 | cons _ _=>simp
def DV:OpR X (binaryOp .Add) (K0 X.K):=by
 intro pins s J H x y v u Q I c Z h;obtain⟨a,b,xs,ys,rfl,rfl,ha,hb,g,Y,e,d⟩:=h;cases c;cases Z;obtain⟨its,R,f,_⟩:=I.tuple ha;obtain⟨U,O,p2,_⟩:=I.tuple hb;refine HT.Fy f p2 (fun z=>g (R.pZ.mp z)) (fun z=>#[.ref a,H,I,rfl,e (O.pZ.mp z)]) (fun z=>?_) (by rw[<-R.length,<-O.length];exact Y);refine#[.ref s.heap.objs.size,_,I.laid (fun b ob q=>J2 _ q) (Qb _) ?_,rfl,d (fun w=>z (O.pZ.mpr w)) _ (I.hok.fresh (Qb _))];exact#[by rw[length_append];exact Y,_,R.append O,IsTup.new _ _]
end
abbrev ixN(n:Nat)(i:Int):Option Nat:=if 0<=i then(if i<n then some i.toNat else none)else if -(n:Int)<=i then some (i+n).toNat else none
abbrev atI(xs:List α)(i:Int):Option α:=(ixN xs.length i).bind fun j=>xs[j]?
def vE(h:ixN n i=some j):seqIndex? i n=some j/\j<n/\-(n:Int)<=i/\i<n:=by
 unfold ixN at h;by_cases O:0<=i
 ·rw[if_pos O]at h;by_cases I:i<n
  ·rw[if_pos I]at h;have e:=Option.some.inj h;exact#[by rw[seqIndex_of O I,e],by omega,by omega,I]
  ·rw[if_neg I]at h;cases h
 ·rw[if_neg O]at h;by_cases I:-n<=i
  ·rw[if_pos I]at h;have e:=Option.some.inj h;exact#[by rw[seqIndex_neg (by omega) I,e],by omega,I,by omega]
  ·rw[if_neg I]at h;cases h
def pW(h:atI xs i=some v):∃ j,seqIndex? i xs.length=some j/\xs[j]?=some v/\j<xs.length/\-(xs.length:Int)<=i/\i<xs.length:=by
 unfold atI at h
 cases e:ixN xs.length i with
 | none=>rw[e]at h;cases h
 |some j=>
  rw[e]at h;obtain⟨U,R,O,I⟩:=vE e;exact#[j,U,h,R,O,I]
abbrev wK(b:Expr):Prop:=∀ o i,subscripted b false o i=operate [o,i] (getItem o i)
abbrev IxR(X:Cx)(r:R2):Prop :=
 ∀ (value slice:Expr) (pins:List (Addr × Obj)) (s:Shared) (J:St) (H:Hp) (x y:V) (v u:Value) (Q:VK),Inv X pins J H s->RelV x v->RelV y u->r x y H Q ->
  subscripted slice false v u=operate [v,u] (getItem v u)->wpAny (model X.prog X.w) X.A (subscriptTail value slice v u) (EP X pins J Q) X.xe s
abbrev MtR(X:Cx)(id:String)(r:V->List V->Hp->VK->Prop):Prop :=
 ∀ (pins:List (Addr × Obj)) (s:Shared) (J:St) (H:Hp) (x:V) (xs:List V) (v:Value) (us:List Value) (Q:VK),Inv X pins J H s->RelV x v->Vals xs us->r x xs H Q ->
  wpAny (model X.prog X.w) X.A (call (.builtin id) (v::us)) (EP X pins J Q) X.xe s
section
variable{X:Cx}{a b:Expr}{ta tb:TE}{pos:Pos}
def IxR.or(h:IxR X r)(h':IxR X r'):IxR X (fun x y H Q=>r x y H Q\/r' x y H Q):=by
 intro value slice pins s J H x y v u Q I R O q U;rcases q with q | q
 ·exact h value slice pins s J H x y v u Q I R O q U
 ·exact h' value slice pins s J H x y v u Q I R O q U
def Dl{r:R2}(Y:IxR X r)(ha:PE X a ta)(hb:PE X b tb)(U:wK b):PE X (.Subscript a b pos) (tOp r ta tb):=by
 lk;exact Subscript_ (B2 ha hb I h fun v u s2 x y H2 Z R O q=>Y a b pins s2 J H2 x y v u Q Z R O q (U _ _))
abbrev Il(K:W.Frag):R2:=fun x y H Q=>∃ p xs i v,x=.ref p/\y=.int i/\SqL K H p xs/\atI xs i=some v/\Q v H
abbrev IU(K:W.Frag):R2:=fun x y H Q=>∃ p xs i v,x=.ref p/\y=.int i/\SqT K H p xs/\atI xs i=some v/\Q v H
abbrev HP:R2:=fun x y H Q=>∃ z i c,x=.str z/\y=.int i/\z.length<=sizeLine/\atI z.cps.toList i=some c/\Q (.str ⟨(List.toArray [c])⟩) H
def F2:IxR X (Il X.K):=by
 intro value slice pins s J H x y v u Q I d c h Z;obtain⟨p,xs,i,z,rfl,rfl,e,f,q⟩:=h;cases d;obtain⟨t,rfl⟩:=c;obtain⟨its,r,pl,m⟩:=I.list e;obtain⟨j,R,l,n,k,g⟩:=pW f;obtain⟨w,b,U⟩:=r.get l;have hl:=r.length;have hn:=pj
 have O:EP X pins J Q w s:=#[z,H,I,U,q]
 by_cases a:0<=i
 ·have Y:i.toNat=j:=by
   rw[seqIndex_of a g]at R;exact Option.some.inj R
  exact item_listR pl.isList a (by omega) (by rw[Y];simpa using b) O Z
 ·have Y:(i+(its.toArray.size:Int)).toNat=j:=by
   rw[seqIndex_neg (by omega) k]at R;rw[size_toArray,<-hl];exact Option.some.inj R
  exact subscriptTail_builtinR pl.isList.typeIs slot_list_getitem.lookup
   (wpAny_getItem_list_neg pl.isList (by omega) (by rw[size_toArray]<;>omega) (by omega) (by rw[Y];simpa using b) ⟨rfl,O⟩) Z
def cC:IxR X (IU X.K):=by
 intro value slice pins s J H x y v u Q I Y U h Z;obtain⟨p,xs,i,z,rfl,rfl,a,b,q⟩:=h;cases Y;obtain⟨t,rfl⟩:=U;obtain⟨its,r,pl,f⟩:=I.tuple a;obtain⟨j,d,c,l,k,g⟩:=pW b;obtain⟨w,e,O⟩:=r.get c;have hl:=r.length;have hn:=pj
 have R:EP X pins J Q w s:=#[z,H,I,O,q]
 exact subscriptTail_builtinR pl.typeIs slot_tuple_getitem.lookup
  (getItem_tuple pl (by omega) (by omega) (by rw[size_toArray,<-hl];exact d) (by simpa using e) ⟨rfl,R⟩) Z
def JJ:IxR X HP:=by
 intro value slice pins s J H x y v u Q I U R h Y;obtain⟨z,i,c,rfl,rfl,k,Z,q⟩:=h;obtain⟨t,rfl⟩:=U;obtain⟨g,rfl⟩:=R;obtain⟨j,O,d,l,b,a⟩:=pW Z
 have hl:z.cps.toList.length=z.length:=by simp[Str.length]
 rw[hl]at O b a;have hn:=pj
 exact tail_any (typeIs_str s z t) slot_str_getitem.lookup (getItem_str (by
  have f:decide (i < -(2 ^ 63:Int))=false:=Qh (by omega);have e:decide (i≥2 ^ 63)=false:=Qh (by omega)
  rw[f,e,Bool.or_false]) (by rw[O];simpa using d) ⟨.str ⟨(List.toArray [c])⟩,H,I.tok _,⟨_,rfl⟩,q⟩) Y
abbrev rIx(K:W.Frag):R2:=fun x y H Q=>Il K x y H Q\/IU K x y H Q\/HP x y H Q
def Aa:IxR X (rIx X.K):=F2.or (cC.or JJ)
def xD(its:List Value)(n j:Nat)(u:Value):Obj.mapSeq (·.setIfInBounds j u) { cls:=.type "list",data:=.seq its.toArray n }={ cls:=.type "list",data:=.seq (its.set j u).toArray n }:=by
 simp[Obj.mapSeq]
def Inv.lst{pins:List (Addr × Obj)}{J:St}{H:Hp}{s:Shared}{p:Addr}{xs:List V}(I:Inv X pins J H s)(h:H p=some (.lst xs)) :
  ∃ (its:List Value) (n:Nat),Vals xs its/\s.heap.get? p=some { cls:=.type "list",data:=.seq its.toArray n }/\xs.length<=sizeLine:=by
 obtain⟨z,its,n,r,e⟩:=I.hok p _ h;exact#[its,n,r,e,z]
def Inv.IL{pins:List (Addr × Obj)}{J:St}{H:Hp}{s:Shared}{p:Addr}{xs ys:List V}{its O:List Value}{n R:Nat}{f:Obj->Obj}(I:Inv X pins J H s)(h:H p=some (.lst xs))
 (Y:s.heap.get? p=some { cls:=.type "list",data:=.seq its.toArray n })(hf:f { cls:=.type "list",data:=.seq its.toArray n }={ cls:=.type "list",data:=.seq O.toArray R })(r:Vals ys O)(U:ys.length<=sizeLine)(t:Nat) :
  Inv X pins J (upd H p (.lst ys)) { s with heap:=s.heap.update p f,toks:=t }:=by
 have e:(s.heap.update p f).get? p=some { cls:=.type "list",data:=.seq O.toArray R }:=by
  rw[Qt f Y (by rw[hf]<;>rfl),hf]
 refine I.write (x:=p) (e:=p) (by rw[h];trivial) (.inl rfl) (fun b u hb q=>(Qv _ _ (Ne.symm hb)).trans q) ⟨_,e⟩ ?_;exact#[U,O,R,r,e]
abbrev xN:V->V->V->Hp->(Hp->Prop)->Prop:=fun o i v H Q=>∃ p xs k j,o=.ref p/\i=.int k/\H p=some (.lst xs)/\ixN xs.length k=some j/\Q (upd H p (.lst (xs.set j v)))
def set_list:IZ X xN:=by
 intro pins s J H o i v ov l u Q I d e c h;obtain⟨p,xs,k,j,rfl,rfl,U,g,q⟩:=h;cases d;obtain⟨t,rfl⟩:=e;obtain⟨its,n,r,R,f⟩:=I.lst U;obtain⟨O,m,Z,Y⟩:=vE g;have hl:=r.length;have hn:=pj
 have b:Inv X pins J (upd H p (.lst (xs.set j v))) { s with heap:=s.heap.update p (Obj.mapSeq (·.setIfInBounds j u)) } :=
  I.IL U R (xD its n j u) (r.set c j) (by rw[Qz];exact f) s.toks
 by_cases a:0<=k
 ·have hk:k.toNat=j:=by
   rw[seqIndex_of a Y]at O;exact Option.some.inj O
  exact W.ki_setAt R a (by omega) (by rw[size_toArray,<-hl];exact Y) (by rw[hk];exact#[_,b,q])
 ·have hk:(k+(its.toArray.size:Int)).toNat=j:=by
   rw[seqIndex_neg (by omega) Z]at O;rw[size_toArray,<-hl];exact Option.some.inj O
  exact W.ki_setBack R (by omega) (by rw[size_toArray,<-hl];exact Z) (by omega) (by rw[hk];exact#[_,b,q])
def tG(lo hi:Option Int)(n:Nat):(sliceBounds lo hi none n).1=((HT.sIx n 0 lo:Nat):Int)/\(sliceBounds lo hi none n).2.1=((HT.sIx n n hi:Nat):Int)/\(sliceBounds lo hi none n).2.2=1:=by
 refine#[?_,?_,rfl]
 ·cases lo with
  | none=>simp[sliceBounds,HT.sIx]
  |some i=>
   simp only[sliceBounds,HT.sIx,Option.getD_none,show(1:Int) > 0 by decide,if_true];by_cases h:i<0
   ·simp only[h,if_true]<;>omega
   ·simp only[h,if_false]<;>omega
 ·cases hi with
  | none=>simp[sliceBounds,HT.sIx]
  |some i=>
   simp only[sliceBounds,HT.sIx,Option.getD_none,show(1:Int) > 0 by decide,if_true];by_cases h:i<0
   ·simp only[h,if_true]<;>omega
   ·simp only[h,if_false]<;>omega
def rX(its:List Value)(lo hi:Option Int):slicePick its.toArray lo hi none=((its.drop (HT.sIx its.length 0 lo)).take (HT.sIx its.length its.length hi-HT.sIx its.length 0 lo)).toArray:=by
 obtain⟨R,O,I⟩:=tG lo hi its.toArray.size;unfold slicePick;rw[R,O,I];simp only[sliceRange_one,pick_run]<;>rfl
abbrev LL(K:W.Frag):V->Option Int->Option Int->Hp->VK->Prop:=fun x lo hi H Q=>∃ a xs,x=.ref a/\SqL K H a xs/\∀ p,H p=none->Q (.ref p) (upd H p (.lst (qJ xs lo hi)))
def E3:SlR X (LL X.K):=by
 intro pins s J H x v d c lo hi sl Q I R Z pl pu h;obtain⟨a,xs,rfl,Y,q⟩:=h;cases R;obtain⟨its,r,O,U⟩:=I.list Y;have hlen:=r.length;refine#["list",_,slot_list_getitem.lookup,O.isList.typeIs,?_];refine wpAny_getItem_list_slice O.isList Z pl pu .none (by simp) ?_ (by rw[size_toArray]<;>omega);rw[rX,<-hlen];refine#[.ref s.heap.objs.size,_,I.laid (fun b ob q=>J2 _ q) (Qb _) ?_,rfl,q _ (I.hok.fresh (Qb _))];exact#[Qn (nv xs lo hi) U,_,0,(r.drop (HT.sIx xs.length 0 lo)).take (HT.sIx xs.length xs.length hi-HT.sIx xs.length 0 lo),Qc _ rfl]
abbrev gX:V->Bool
 | .non=>true
 | .bl _=>true
 | .int _=>true
 | .str _=>true
 | _=>false
abbrev eqV:V->V->Bool
 | .non,.non=>true
 | .bl a,.bl b=>a == b
 | .bl a,.int b=>(if a then 1 else 0) == b
 | .int a,.bl b=>a == (if b then 1 else 0)
 | .int a,.int b=>a == b
 | .str a,.str b=>a == b
 | _,_=>false
def GR(R:RelV y u)(I:RelV x v)(U:gX y=true)(fx:gX x=true):SeqAt.EqAt A s u v (eqV y x):=by
 cases y with
 |non=>
  cases R
  cases x with
  | non=>cases I;exact SeqAt.EqAt.same _
  | bl b=>cases I;exact SeqAt.EqAt.none_bool b
  | int b=>obtain⟨t,rfl⟩:=I;exact SeqAt.EqAt.none_int b t
  | str b=>obtain⟨t,rfl⟩:=I;exact SeqAt.EqAt.none_str b t
  | _=>exact absurd (show false=true from fx) Qj
 |bl a=>
  cases R
  cases x with
  | non=>cases I;exact SeqAt.EqAt.bool_none a
  | bl b=>cases I;exact SeqAt.EqAt.bool_bool a b
  | int b=>obtain⟨t,rfl⟩:=I;exact SeqAt.EqAt.bool_int a b t
  | str b=>obtain⟨t,rfl⟩:=I;exact SeqAt.EqAt.bool_str a b t
  | _=>exact absurd (show false=true from fx) Qj
 |int a=>
  obtain⟨O,rfl⟩:=R
  cases x with
  | non=>cases I;exact SeqAt.EqAt.int_none a O
  | bl b=>cases I;exact SeqAt.EqAt.int_bool a O b
  | int b=>obtain⟨t,rfl⟩:=I;exact SeqAt.EqAt.int_int a O b t
  | str b=>obtain⟨t,rfl⟩:=I;exact SeqAt.EqAt.int_str a O b t
  | _=>exact absurd (show false=true from fx) Qj
 |str a=>
  obtain⟨O,rfl⟩:=R
  cases x with
  | non=>cases I;exact SeqAt.EqAt.str_none a O
  | bl b=>cases I;exact SeqAt.EqAt.str_bool a O b
  | int b=>obtain⟨t,rfl⟩:=I;exact SeqAt.EqAt.str_int a O b t
  | str b=>obtain⟨t,rfl⟩:=I;exact SeqAt.EqAt.str_str a O b t
  | _=>exact absurd (show false=true from fx) Qj
 | _=>exact absurd (show false=true from U) Qj
abbrev eqU(x:V)(u:Value):Bool:=match u with
 | .none=>eqV .non x
 | .bool b=>eqV (.bl b) x
 | .int i _=>eqV (.int i) x
 | .str z _=>eqV (.str z) x
 | _=>false
def zE(r:RelV y u)(f:gX y=true):eqU x u=eqV y x:=by
 cases y with
 | non=>cases r;rfl
 | bl b=>cases r;rfl
 | int i=>obtain⟨t,rfl⟩:=r;rfl
 | str z=>obtain⟨t,rfl⟩:=r;rfl
 | _=>exact absurd (show false=true from f) Qj
def jS:∀ {xs:List V} {us:List Value},Vals xs us->xs.all gX=true->us.any (eqU x)=xs.any fun y=>eqV y x
 | _,_,.nil,_=>rfl
 | y::xs,u::us,.cons r t,f=>by
  rw[Qx,and_eq_true]at f;rw[any_cons,any_cons,zE r f.1,jS t f.2]
def jq(I:RelV x v)(fx:gX x=true):∀ {xs:List V} {us:List Value},Vals xs us->xs.all gX=true->∀ u∈us,SeqAt.EqAt A s u v (eqU x u)
 | _,_,.nil,_=>fun u hu=>by cases hu
 | y::xs,u::us,.cons r t,f=>fun O hu=>by
  rw[Qx,and_eq_true]at f;rcases List.mem_cons.mp hu with rfl | hu
  ·rw[zE r f.1];exact GR r I f.1 fx
  ·exact jq I fx t f.2 O hu
abbrev inV(x:V)(xs:List V):Bool:=xs.any fun y=>eqV y x
abbrev rIn(K:W.Frag)(neg:Bool):R2:=fun x y H Q=>∃ p xs,y=.ref p/\(SqL K H p xs\/SqT K H p xs)/\gX x=true/\xs.all gX=true/\Q (.bl (if neg then !inV x xs else inV x xs)) H
def yQ:OpR X (compareOp .In) (rIn X.K false):=by
 intro pins s J H x y v u Q I U Y h;obtain⟨p,xs,rfl,O,fx,fs,q⟩:=h;cases Y;rcases O with O | O
 ·obtain⟨its,r,pl,Z⟩:=I.list O;refine SeqAt.in_listAt (eqU x) pl.isList (fun w R=>jq U fx r fs w (by simpa using R)) ⟨.bl _,H,I,rfl,?_⟩;rw[show its.toArray.any (eqU x)=its.any (eqU x) by simp,jS r fs];exact q
 ·obtain⟨its,r,pl,Z⟩:=I.tuple O;refine SeqAt.in_tupleAt (eqU x) pl (fun w R=>jq U fx r fs w (by simpa using R)) ⟨.bl _,H,I,rfl,?_⟩;rw[show its.toArray.any (eqU x)=its.any (eqU x) by simp,jS r fs];exact q
def tu:OpR X (compareOp .NotIn) (rIn X.K true):=by
 intro pins s J H x y v u Q I U Y h;obtain⟨p,xs,rfl,O,fx,fs,q⟩:=h;cases Y;rcases O with O | O
 ·obtain⟨its,r,pl,Z⟩:=I.list O;refine SeqAt.notIn_listAt (eqU x) pl.isList (fun w R=>jq U fx r fs w (by simpa using R)) ⟨.bl _,H,I,rfl,?_⟩;rw[show its.toArray.any (eqU x)=its.any (eqU x) by simp,jS r fs];exact q
 ·obtain⟨its,r,pl,Z⟩:=I.tuple O;refine SeqAt.notIn_tupleAt (eqU x) pl (fun w R=>jq U fx r fs w (by simpa using R)) ⟨.bl _,H,I,rfl,?_⟩;rw[show its.toArray.any (eqU x)=its.any (eqU x) by simp,jS r fs];exact q
def bL.or(h:bL X f r)(h':bL X f r'):bL X f (fun xs H Q=>r xs H Q\/r' xs H Q):=by
 intro pins s J H xs us Q I O q;rcases q with q | q
 ·exact h pins s J H xs us Q I O q
 ·exact h' pins s J H xs us Q I O q
def t9:bL X (.type "list") (fun xs H Q=>∃ p ys,xs=[.ref p]/\(SqL X.K H p ys\/SqT X.K H p ys)/\∀ l,H l=none->Q (.ref l) (upd H l (.lst ys))):=by
 fin2;obtain⟨p,ys,rfl,U,q⟩:=h;obtain⟨u,rfl,c⟩:=vals1 r;cases c
 have Y:∀ (its:List Value),Vals ys its->ys.length<=sizeLine->∀ (h':Heap) c',(∀ b o',s.heap.get? b=some o'->h'.get? b=some o') ->
   h'.get? s.heap.objs.size=some { cls:=.type "list",dict:=none,data:=.seq its.toArray c',slots:=(List.toArray []) }->EP X pins J Q (.ref s.heap.objs.size) { s with heap:=h' }:=fun its O R h' c' kp e =>
  ⟨.ref s.heap.objs.size,_,I.laid kp (Qb _) (show bC X.prog X.w _ h' _ (.lst ys)from⟨R,its,c',O,e⟩),rfl,q _ (I.hok.fresh (Qb _))⟩
 rcases U with U | U
 ·obtain⟨its,O,pl,R⟩:=I.list U;have hlen:=O.length;obtain⟨o,Z,a,n,hd⟩:=pl.isList;exact call_list_seq p (.inl rfl) Z a hd (fun h' c' kp e=>Y its O R h' c' kp e) (by simp only[size_toArray]<;>omega)
 ·obtain⟨its,O,pl,R⟩:=I.tuple U;have hlen:=O.length;obtain⟨o,Z,a,n,hd⟩:=pl;exact call_list_seq p (.inr rfl) Z a hd (fun h' c' kp e=>Y its O R h' c' kp e) (by simp only[size_toArray]<;>omega)
def rQ:bL X (.type "tuple") (fun xs H Q=>∃ p ys,xs=[.ref p]/\((SqL X.K H p ys/\∀ l,H l=none->Q (.ref l) (upd H l (.tup ys)))\/(SqT X.K H p ys/\Q (.ref p) H))):=by
 fin2;obtain⟨p,ys,rfl,h⟩:=h;obtain⟨u,rfl,Z⟩:=vals1 r;cases Z
 rcases h with⟨R,q⟩ | ⟨R,q⟩
 ·obtain⟨its,O,pl,U⟩:=I.list R;have hlen:=O.length;refine call_tuple_list pl.isList (fun h' kp=>?_) (by simp only[size_toArray]<;>omega);have Y:=I.kept (t':=s.toks) kp
  have a:Inv X pins J (upd H h'.objs.size (.tup ys)) { s with heap:=h'.push { cls:=.type "tuple",data:=.seq its.toArray } } :=
   Y.laid (fun b o e=>J2 _ e) (Qb _) (show bC X.prog X.w _ _ _ (.tup ys)from⟨U,its,O,IsTup.new _ _⟩)
  exact#[.ref h'.objs.size,_,a,rfl,q _ (Y.hok.fresh (Qb _))]
 ·obtain⟨its,O,pl,U⟩:=I.tuple R;exact call_tuple_same pl ⟨.ref p,H,I,rfl,q⟩
abbrev tyV(K:W.Frag)(T:String)(x:V)(H:Hp):Prop:=match x with
 | .str _=>T = "str"
 | .int _=>T = "int"
 | .ref p=>(T = "list" /\ ∃ xs,SqL K H p xs)\/(T = "tuple" /\ ∃ o,K.lookup p=some o/\o.cls=.type "tuple" /\ o.dict=none) \/
   (T = "dict" /\ ((∃ kvs,H p=some (.dK kvs))\/∃ kvs,H p=some (.dT kvs)))\/(T = "set" /\ ∃ S n,H p=some (.set S n))
 | _=>False
def zg(I:Inv X pins J H s)(r:RelV x v)(ty:tyV X.K T x H) :
  s.TypeIs v T/\∀ a,v=.ref a->∃ ob,s.heap.get? a=some ob/\ob.dict=none:=by
 cases x with
 |str z=>
  obtain⟨t,rfl⟩:=r;cases(show T = "str" from ty);exact#[typeIs_str s z t,fun _ e=>nomatch e]
 |int i=>
  obtain⟨t,rfl⟩:=r;cases(show T = "int" from ty);exact#[typeIs_int s i t,fun _ e=>nomatch e]
 |ref p=>
  cases r
  rcases ty with⟨rfl,xs,R⟩ | ⟨rfl,o,hk,U,hd⟩ | ⟨rfl,hk⟩ | ⟨rfl,S,n,hk⟩
  ·obtain⟨its,_,pl,_⟩:=I.list R;refine#[pl.isList.typeIs,fun a e=>?_];cases e;obtain⟨o,n,e,c,hd,_⟩:=pl;exact#[o,e,hd]
  ·refine#[#[o,I.kIn p o hk,U],fun a e=>?_];cases e;exact#[o,I.kIn _ o hk,hd]
  ·have z:∃ o,s.heap.get? p=some o/\o.ExactDict:=by
    rcases hk with⟨kvs,hk⟩ | ⟨kvs,hk⟩
    ·obtain⟨_,_,_,_,o,_,_,e,ex,_⟩:=I.hok p _ hk;exact#[o,e,ex]
    ·obtain⟨_,_,_,_,o,_,_,e,ex,_⟩:=I.hok p _ hk;exact#[o,e,ex]
   obtain⟨o,e,ex⟩:=z;refine#[#[o,e,ex.1],fun a O=>?_];cases O;exact#[o,e,ex.2.1]
  ·obtain⟨o,_,_,_,e,ex,_⟩:=I.hok p _ hk;refine#[#[o,e,ex.1],fun a O=>?_];cases O;exact#[o,e,ex.2.1]
 | _=>exact False.elim ty
abbrev Bb(K:W.Frag)(T:String)(r:V->List V->Hp->VK->Prop)(to:TE):TE:=fun J H Q=>to J H fun x I=>tyV K T x I/\r x [] I Q
abbrev tBM(K:W.Frag)(T:String)(r:V->List V->Hp->VK->Prop)(to:TE)(t:TA):TE:=fun J H Q=>to J H fun x I=>tyV K T x I/\t J I fun xs H2=>r x xs H2 Q
variable{o e:Expr}{es:List Expr}{to:TE}{t:TA}{name:Str}{apos cpos:Pos}{T id:String}{r:V->List V->Hp->VK->Prop}
def AM(pa:PlainAttrs T)(slot:Slot T name id)(U:typeOf (.builtin id)=pure (.type "method_descriptor"))(hm:MtR X id r)(b:PE X o to)
 (R:attributeBase o name X.env (eval o X.env)=eval o X.env)(O:(apos.endLine == cpos.line)=true):PE X (.Call (.Attribute o name apos) [] [] cpos) (Bb X.K T r to):=by
 lk;refine wpAny_Call_method0_late R O (thn (b pins s J H _ I h) fun v s1 ⟨x,e,Z,Y,ty,a⟩=>?_);obtain⟨d,c⟩:=zg Z Y ty;exact#[T,id,pa,slot,U,d,c,Calls.callWith_builtin rfl (PySem.evalArgs_none (hm pins s1 J e x [] v [] Q Z Y .nil a))]
def D7(pa:PlainAttrs T)(slot:Slot T name id)(Z:typeOf (.builtin id)=pure (.type "method_descriptor"))(hm:MtR X id r)(j:PE X o to)(ha:PA X (e::es) t)
 (U:attributeBase o name X.env (eval o X.env)=eval o X.env)
 (Y:((backTo cpos (starEach (e::es) X.env)).all (fun x=>!x.1)&&(backToKw cpos (keywordEach [] X.env)).all (fun x=>x.1.isSome)
   && decide ((e::es).length+([]:List Keyword).length+(if([]:List Keyword).isEmpty then 0 else 1)<30))=true:=by rfl)
 (R:(apos.endLine == cpos.line)=true)(i:starEach (e::es) X.env=(false,eval e X.env)::starEach es X.env)(O:(backTo cpos (starEach es X.env)).any (·.1)=false) :
  PE X (.Call (.Attribute o name apos) (e::es) [] cpos) (tBM X.K T r to t):=by
 lk;refine wpAny_Call_method_late U Y R rfl (thn (j pins s J H _ I h) fun v s1 ⟨x,n,c,a,ty,g⟩=>?_);obtain⟨l,k⟩:=zg c a ty;refine#[T,id,pa,slot,Z,l,k,?_];have b:=ha cpos pins s1 J n _ c g;rw[i]at b ⊢;refine Calls.callWith_builtin (by show(false || (backTo cpos (starEach es X.env)).any (·.1))=false;rw[O]<;>rfl) (Calls.evalArgs_plain ?_);exact thn b fun us s2 ⟨vs,H2,m,d,f⟩=>hm pins s2 J H2 x vs v us Q m a d f
end
abbrev MtM(X:Cx)(id:String)(r:V->List V->Hp->VK->Prop):Prop :=
 ∀ (pins:List (Addr × Obj)) (s:Shared) (J:St) (H:Hp) (x:V) (xs:List V) (v:Value) (us:List Value) (Q:VK),Inv X pins J H s->RelV x v->Vals xs us->r x xs H Q ->
  wpAny (model X.prog X.w) X.A (call (.builtin id) (v::us)) (EP X pins J Q) X.xe s
def Vals.inv(h:Vals (x::xs) us):∃ u t,us=u::t/\RelV x u/\Vals xs t:=by
 cases h with
 | cons r t=>exact#[_,_,rfl,r,t]
def Vals.LG(h:Vals [] us):us=[]:=by
 cases h;rfl
def Vals.one{x:V}{us:List Value}(h:Vals [x] us):∃ u,us=[u]/\RelV x u :=
 let ⟨u,_,e,r,h⟩:=h.inv
 ⟨u,by rw[e,h.LG],r⟩
def Vals.zero:∀ {us:List Value},Vals [] us->us=[]
 | _,.nil=>rfl
def Vals.dropLast(h:Vals xs us):Vals xs.dropLast us.dropLast:=by
 induction h with
 | nil=>exact .nil
 |cons r t I=>
  cases t with
  | nil=>exact .nil
  | cons q O=>exact .cons r I
def Vals.rep(h:Vals xs us):∀ k:Nat,Vals (replicate k xs).flatten (replicate k us).flatten
 | 0=>.nil
 | k+1=>by
  exact Vals.append h (Vals.rep h k)
def xm(l:List α):l.eraseIdx (l.length-1)=l.dropLast:=by
 induction l with
 | nil=>rfl
 |cons a r I=>
  cases r with
  | nil=>rfl
  |cons b r=>
   have e:(a::b::r).length-1=((b::r).length-1)+1:=by
    have R:(a::b::r).length=r.length+2:=rfl;have O:(b::r).length=r.length+1:=rfl;omega
   rw[e,List.eraseIdx_cons_succ,I]
   all_goals rfl
def foldl_rep(its:List Value):∀ (k:Nat) (I:List Value),
  List.foldl (fun R O=>R++O) I.toArray (replicate k its.toArray)=(I++(replicate k its).flatten).toArray
 | 0,I=>by simp
 | k+1,I=>by
  have e:I.toArray++its.toArray=(I++its).toArray:=by simp
  have U:(I++its)++(replicate k its).flatten=I++(replicate (k+1) its).flatten:=by
   rw[List.replicate_succ,List.flatten_cons,QJ]
  rw[<-U,<-foldl_rep its k (I++its),<-e,List.replicate_succ,foldl_cons]
section
variable{X:Cx}{pins:List (Addr × Obj)}{J:St}{H:Hp}{s:Shared}{l b:Addr}{xs ys zs:List V}
def Inv.HZ{its O:List Value}{n:Nat}{f:Array Value->Array Value}{R:Nat}(I:Inv X pins J H s)(Z:H l=some (.lst xs))
 (e:s.heap.get? l=some { cls:=.type "list",data:=.seq its.toArray n })(hf:f its.toArray=O.toArray)(Y:Vals ys O)(U:ys.length<=sizeLine) :
  Inv X pins J (upd H l (.lst ys)) { s with heap:=s.heap.update l (Obj.mapSeq f),toks:=R }:=by
 have q:=PySem.IsL.update e f;rw[hf]at q;refine I.write (by rw[Z];exact trivial) (.inl rfl) (fun a u hb hu=>(Qv s.heap (Obj.mapSeq f) (Ne.symm hb)).trans hu) ⟨_,q⟩ ?_;exact#[U,O,_,Y,q]
def Inv.GB(I:Inv X pins J H s)(R:Vals ys its)(O:ys.length<=sizeLine) :
  Inv X pins J (upd H s.heap.objs.size (.lst ys)) { s with heap:=s.heap.push { cls:=.type "list",data:=.seq its.toArray },toks:=U } :=
 I.laid (fun _ _ q=>J2 _ q) (Qb _) ⟨O,its,0,R,Qc _ rfl⟩
def Inv.fresh(I:Inv X pins J H s):H s.heap.objs.size=none:=I.hok.fresh (Qb _)
def Inv.uJ(I:Inv X pins J H s)(O:H l=some (.lst xs)):xs.length<=sizeLine/\∃ (its:List Value) (n:Nat),Vals xs its/\xs.length=its.length/\s.heap.get? l=some { cls:=.type "list",data:=.seq its.toArray n }:=by
 obtain⟨z,its,n,r,e⟩:=I.hok l _ O;exact#[z,its,n,r,r.length,e]
def C9(h:n<=sizeLine):Builtin.List.listTooLong n=false:=by
 exact Qh (by omega)
end
section
variable{X:Cx}
abbrev vX:V->List V->Hp->VK->Prop:=fun x vs H Q=>∃ l xs y,x=.ref l/\vs=[y]/\H l=some (.lst xs)/\xs.length<sizeLine/\Q .non (upd H l (.lst (xs++[y])))
def qU:MtM X "list.append" vX:=by
 intro pins s J H x vs v us Q I R U h;obtain⟨l,xs,y,rfl,rfl,O,Z,q⟩:=h;cases R;obtain⟨u,rfl,Y⟩:=U.one;obtain⟨z,its,n,r,hl,e⟩:=I.uJ O;refine call_meets F.slot_list_append ⟨_,e,rfl⟩ F.entry_list_append (F.args_list_append_2 _ _) (PySem.list_append l its.toArray n u (by rw[size_toArray];omega)) ⟨e,?_⟩;refine#[.non,_,I.HZ O e (by simp) (r.append %[Y|_]) ?_,rfl,q];rw[length_append,List.length_singleton];omega
abbrev Bo:V->List V->Hp->VK->Prop:=fun x vs H Q=>∃ l xs y,x=.ref l/\vs=[]/\H l=some (.lst xs)/\xs[xs.length-1]?=some y/\Q y (upd H l (.lst xs.dropLast))
def Ac:MtM X "list.pop" Bo:=by
 intro pins s J H x vs v us Q I Y Z h;obtain⟨l,xs,y,rfl,rfl,U,b,q⟩:=h;cases Y;have R:=Z.zero;subst R;obtain⟨z,its,n,r,hl,e⟩:=I.uJ U;obtain⟨u,hu,a⟩:=r.get b
 have O:its.toArray[its.toArray.size-1]?=some u:=by
  show its.toArray[its.length-1]?=some u;rw[<-Array.getElem?_toList,<-hl];exact hu
 refine call_meets F.slot_list_pop ⟨_,e,rfl⟩ F.entry_list_pop (F.args_list_pop_1 _) (MeetsSeq.list_pop_last l its.toArray n u O (by rw[size_toArray];omega)) ⟨e,?_⟩;refine#[y,_,I.HZ U e ?_ r.dropLast ?_,a,q]
 ·rw[size_toArray,List.eraseIdxIfInBounds_toArray,xm]
 ·rw[List.length_dropLast];omega
abbrev Lb:R2:=fun x y H Q=>∃ l b xs I,x=.ref l/\y=.ref b/\H l=some (.lst xs)/\H b=some (.lst I)/\xs.length+I.length<=sizeLine/\∀ p,H p=none->Q (.ref p) (upd H p (.lst (xs++I)))
def IG:OpR X (binaryOp .Add) Lb:=by
 intro pins s J H x y v u Q I U R h;obtain⟨l,b,xs,g,rfl,rfl,a,c,j,q⟩:=h;cases U;cases R;obtain⟨z,its,n,r,hl,e⟩:=I.uJ a;obtain⟨z2,O,i,Y,Z,f⟩:=I.uJ c;refine PySem.P.add_list e f ?_ (by rw[size_toArray,size_toArray];omega)
 have d:its.toArray++O.toArray=(its++O).toArray:=by simp
 rw[d];exact#[.ref _,_,I.GB (r.append Y) (by rw[length_append];omega),rfl,q _ I.fresh]
abbrev LD:R2:=fun x y H Q=>∃ l k xs,x=.ref l/\y=.int k/\H l=some (.lst xs)/\-(2 ^ 63)<=k/\k<2 ^ 63/\xs.length*k.toNat<=sizeLine /\
 ∀ p,H p=none->Q (.ref p) (upd H p (.lst (replicate k.toNat xs).flatten))
def len_rep(xs:List α)(k:Nat):(replicate k xs).flatten.length=k*xs.length:=by
 induction k with
 | zero=>simp
 | succ k I=>rw[List.replicate_succ,List.flatten_cons,length_append,I,Nat.succ_mul,add_comm]
def Hv:OpR X (binaryOp .Mult) LD:=by
 intro pins s J H x y v u Q I f d h;obtain⟨l,k,xs,rfl,rfl,g,j,i,Z,q⟩:=h;cases f;obtain⟨t,rfl⟩:=d;obtain⟨z,its,n,r,hl,e⟩:=I.uJ g
 have hlen:its.toArray.size*k.toNat<=sizeLine:=by rw[size_toArray,<-hl];exact Z
 have Y:¬ its.toArray.size*k.toNat > (2 ^ 63-1) / 8:=by
  have:sizeLine<=(2 ^ 63-1) / 8:=by decide
  omega
 have U:¬ (!Builtin.List.listFitsIndex k)=true:=by
  rw[fitsIndex_both j i];exact Qj
 have O:¬ Builtin.List.listTooLong (its.toArray.size*k.toNat)=true:=by
  rw[C9 hlen];exact Qj
 have R:List.foldl (fun c b=>c++b) (List.toArray []) (replicate (if its.toArray.isEmpty=true then 0 else k.toNat) its.toArray)=(replicate k.toNat its).flatten.toArray:=by
  have o:=fun m=>by
   have:=foldl_rep its m [];rw[nil_append]at this;exact this
  rw[o]
  cases its with
  | nil=>simp
  | cons a p=>rw[if_neg (by simp)]
 refine wpAny_binaryOp_repeat_ref ∅ ⟨_,e,rfl⟩ (fun s'=>typeIs_int s' k t) noFill_list_mul F.fills_int_mul F.slot_int_rmul repeat_list F.slot_int_index.lookup
  (call_meets F.slot_int_rmul (typeIs_int s k t) F.entry_int_rmul (F.args_int_rmul_2 _ _) (int___rmul___int_list k t l its.toArray n)
   ⟨e,rfl,⟨_,e,rfl⟩,call_meets F.slot_list_mul ⟨_,e,rfl⟩ F.entry_list_mul (F.args_list_mul_2 _ _) (AutoListH.list___mul___list_int_3 l its.toArray n k t U Y O) ⟨e,?_⟩⟩)
 rw[R];exact#[.ref _,_,I.GB (r.rep k.toNat) (by rw[len_rep,Nat.mul_comm];exact Z),rfl,q _ I.fresh]
end
section
variable{κ:Type} [DecidableEq κ]
abbrev fI(kvs:List (κ × V))(k:κ):Option V:=(kvs.find? fun I=>decide (I.1=k)).map (·.2)
abbrev putK(kvs:List (κ × V))(k:κ)(v:V):List (κ × V) :=
 if(kvs.any fun I=>decide (I.1=k))=true then kvs.map (fun I=>if I.1=k then(I.1,v)else I)else kvs++[(k,v)]
def je{p:κ × V}{r:List (κ × V)}{k:κ}(e:p.1=k):fI (p::r) k=some p.2:=by simp[fI,e]
def iX{p:κ × V}{r:List (κ × V)}{k:κ}(e:¬ p.1=k):fI (p::r) k=fI r k:=by simp[fI,e]
def uB(k:κ):∀ kvs:List (κ × V),(kvs.any fun I=>decide (I.1=k))=(fI kvs k).isSome
 | []=>rfl
 | p::r=>by
  rw[any_cons];by_cases e:p.1=k
  ·simp only[je e,decide_eq_true e,Bool.true_or,isSome_some]
  ·rw[iX e,Qh e,Bool.false_or];exact uB k r
def nD(kvs:List (κ × V))(k:κ)(v:V):(putK kvs k v).length<=kvs.length+1:=by
 unfold putK;split
 ·rw[length_map];omega
 ·rw[length_append,length_cons,List.length_nil];omega
def jf.il(r:jf o u):o.isSome=u.isSome:=by
 cases o with
 | none=>cases u with
  | none=>rfl
  | some _=>exact(show False from r).elim
 | some _=>cases u with
  | none=>exact(show False from r).elim
  | some _=>rfl
def KV.val{kvs:List (κ × V)}{vs:List (κ × Value)}(r:KV kvs vs)(k:κ):jf (fI kvs k) (valueAt vs k):=by
 unfold KV at r
 induction r with
 | nil=>exact True.intro
 |@cons p q ps qs h t ih=>
  obtain⟨I,O⟩:=h;by_cases e:p.1=k
  ·have e':q.1=k:=I.symm.trans e
   have b:valueAt (q::qs) k=some q.2:=by simp[valueAt,List.find?_cons,e']
   rw[je e,b];exact O
  ·have e':¬ q.1=k:=fun z=>e (I.trans z)
   have b:valueAt (q::qs) k=valueAt qs k:=by simp[valueAt,List.find?_cons,e']
   rw[iX e,b];exact ih
def KV.any(r:KV kvs vs)(k:κ):(kvs.any fun I=>decide (I.1=k))=vs.any fun I=>decide (I.1=k):=by
 induction r with
 | nil=>rfl
 | cons h t O=>rw[any_cons,any_cons,O,h.1]
def KV.Cq(r:KV kvs vs)(k:κ)(R:RelV y u) :
  KV (kvs.map fun I=>if I.1=k then(I.1,y)else I) (vs.map fun I=>if I.1=k then(I.1,u)else I):=by
 induction r with
 | nil=>exact .nil
 |@cons p q ps qs h t ih=>
  rw[map_cons,map_cons];refine .cons ?_ ih;obtain⟨O,U⟩:=h;by_cases e:p.1=k
  ·rw[if_pos e,if_pos (O.symm.trans e)];exact#[O,R]
  ·rw[if_neg e,if_neg (fun z=>e (O.trans z))];exact#[O,U]
def KV.put(r:KV kvs vs)(k:κ)(I:RelV y u):KV (putK kvs k y) (stored vs k u):=by
 unfold putK stored;rw[r.any k];by_cases e:(vs.any fun O=>decide (O.1=k))=true
 ·rw[if_pos e,if_pos e];exact r.Cq k I
 ·rw[if_neg e,if_neg e];exact Paired.snoc r ⟨rfl,I⟩
def KV.length(r:KV kvs vs):kvs.length=vs.length:=Paired.length r
end
def oN(r:RelV (kV k) u):(bV P w).is k u=true:=by
 cases k with
 | inl i=>obtain⟨t,e⟩:=(show ∃ t,u=Value.int i t from r);subst e;exact vB P w i t
 | inr x=>obtain⟨t,e⟩:=(show ∃ t,u=Value.str x t from r);subst e;exact v7 P w x t
def rm:∀ {ks:List Key} {us:List Value},Vals (ks.map kV) us->ItemsAre (bV P w) ks us
 | [],_,r=>by rw[map_nil]at r;cases r;exact .nil
 | k::ks,_,r=>by
  cases r with
  | cons h t=>exact .cons (oN h) (rm t)
@[reducible]noncomputable def KT(H:Hp):List (List Key × V)->List (List Key × Addr × Value)->Prop:=Paired fun p q=>p.1=q.1/\H q.2.1=some (.tup (p.1.map kV))/\RelV p.2 q.2.2
def KT.val{H:Hp}{kvs:List (List Key × V)}{xs:List (List Key × Addr × Value)}(r:KT H kvs xs)(k:List Key):jf (fI kvs k) ((atKey xs k).map (·.2)):=by
 induction r with
 | nil=>exact True.intro
 |@cons p q ps qs h t ih=>
  obtain⟨I,_,O⟩:=h;by_cases e:p.1=k
  ·have e':=I.symm.trans e
   have b:atKey (q::qs) k=some q.2:=by simp[atKey,e']
   rw[je e,b];exact O
  ·have e':¬ q.1=k:=fun z=>e (I.trans z)
   have b:atKey (q::qs) k=atKey qs k:=by simp[atKey,e']
   rw[iX e,b];exact ih
def KT.Cq(r:KT H kvs xs)(k:List Key)(U:RelV y u) :
  KT H (kvs.map fun O=>if O.1=k then(O.1,y)else O) (xs.map (putAt k u)):=by
 induction r with
 | nil=>exact .nil
 |@cons p q ps qs h t ih=>
  rw[map_cons,map_cons];refine .cons ?_ ih;obtain⟨I,R,Y⟩:=h;unfold putAt;by_cases e:p.1=k
  ·rw[if_pos e,if_pos (I.symm.trans e)];exact#[I,R,U]
  ·rw[if_neg e,if_neg (fun z=>e (I.trans z))];exact#[I,R,Y]
def KT.put(r:KT H kvs xs)(k:List Key)(hb:H b=some (.tup (k.map kV)))(I:RelV y u) :
  KT H (putK kvs k y) (storedH xs k b u):=by
 have e:(kvs.any fun O=>decide (O.1=k))=(atKey xs k).isSome:=by
  rw[uB,(r.val k).il,isSome_map]
 unfold putK storedH;rw[e];by_cases q:(atKey xs k).isSome=true
 ·rw[if_pos q,if_pos q];exact r.Cq k I
 ·rw[if_neg q,if_neg q];exact Paired.snoc r ⟨rfl,hb,I⟩
def KT.keeps(r:KT H kvs xs)(I:∀ b ys,H b=some (.tup ys)->H' b=some (.tup ys)):KT H' kvs xs :=
 Paired.Cy r fun _ _ z=>#[z.1,I _ _ z.2.1,z.2.2]
section
variable{P:Program}{w:World}{H:Hp}{h:Heap}{a:Addr}
def Dd(ok:HOk P w H h)(e:Rd H a u):bC P w H h a u:=e.ok ok
def mG(ok:HOk P w H h)(e:Rd H a (.dK kvs)):kvs.length<=sizeLine/\(a == sysModules)=false/\∃ vs,KV kvs vs/\h.DictOf (bV P w) a vs :=
 show bC P w H h a (.dK kvs)from Dd ok e
def Ks(ok:HOk P w H h)(e:H a=some (.dK kvs)):kvs.length<=sizeLine/\(a == sysModules)=false/\∃ vs,KV kvs vs/\h.DictOf (bV P w) a vs:=mG ok (.inl e)
def mf(ok:HOk P w H h)(e:H a=some (.tup (ks.map kV))):(tupleKind (bV P w)).is h ks a:=by
 obtain⟨_,its,r,o,R,O,n,I⟩:=(show bC P w H h a (.tup (ks.map kV))from ok a _ e)
 exact#[o,its.toArray,n,R,O,I,by simpa using rm r]
def pJ(ok:HOk P w H h)(e:Rd H a (.dT kvs)):kvs.length<=sizeLine/\(a == sysModules)=false /\
  ∃ xs,KT H kvs xs/\h.DictOfH (tupleKind (bV P w)) a xs:=by
 obtain⟨z,y,xs,r,o,es,b,Z,Y,U,R,O⟩:=(show bC P w H h a (.dT kvs)from Dd ok e)
 refine#[z,y,xs,r,o,es,b,Z,Y,U,R,fun x I=>?_,O]
 have all:∀ {l:List (List Key × V)} {m:List (List Key × Addr × Value)},KT H l m->∀ x∈m,(tupleKind (bV P w)).is h x.1 x.2.1:=by
  intro l m q
  induction q with
  | nil=>intro x I;exact nomatch I
  |@cons p q ps qs hq t ih=>
   intro x I;rcases List.mem_cons.mp I with e | I
   ·subst e;exact mf ok (by rw[<-hq.1];exact hq.2.1)
   ·exact ih x I
 exact all r x I
def D6(ok:HOk P w H h)(e:H a=some (.dT kvs)):kvs.length<=sizeLine/\(a == sysModules)=false /\
  ∃ xs,KT H kvs xs/\h.DictOfH (tupleKind (bV P w)) a xs:=pJ ok (.inl e)
end
abbrev fv(H:Hp)(a:Addr)(y:V)(r:Option V):Prop :=
 (∃ kvs k,Rd H a (.dK kvs)/\y=kV k/\r=fI kvs k)\/∃ kvs k b,Rd H a (.dT kvs)/\y=.ref b/\H b=some (.tup (k.map kV))/\r=fI kvs k
abbrev me(H:Hp)(a:Addr)(y v:V)(H':Hp):Prop :=
 (∃ kvs k,H a=some (.dK kvs)/\y=kV k/\kvs.length<sizeLine/\H'=upd H a (.dK (putK kvs k v))) \/
 ∃ kvs k b,H a=some (.dT kvs)/\y=.ref b/\H b=some (.tup (k.map kV))/\kvs.length<sizeLine/\H'=upd H a (.dT (putK kvs k v))
def fv.k{H:Hp}{a:Addr}{kvs:List (Key × V)}{k:Key}(e:H a=some (.dK kvs)):fv H a (kV k) (fI kvs k):=.inl #[kvs,k,.inl e,rfl,rfl]
def fv.t{H:Hp}{a b:Addr}{kvs:List (List Key × V)}{k:List Key}(e:H a=some (.dT kvs))(I:H b=some (.tup (k.map kV))):fv H a (.ref b) (fI kvs k):=.inr #[kvs,k,b,.inl e,rfl,I,rfl]
def me.k{H:Hp}{a:Addr}{kvs:List (Key × V)}{k:Key}{v:V}(e:H a=some (.dK kvs))(hl:kvs.length<sizeLine):me H a (kV k) v (upd H a (.dK (putK kvs k v))):=.inl #[kvs,k,e,rfl,hl,rfl]
def me.t{H:Hp}{a b:Addr}{kvs:List (List Key × V)}{k:List Key}{v:V}(e:H a=some (.dT kvs))(I:H b=some (.tup (k.map kV)))(hl:kvs.length<sizeLine) :
  me H a (.ref b) v (upd H a (.dT (putK kvs k v))):=.inr #[kvs,k,b,e,rfl,I,hl,rfl]
section
variable{X:Cx}{pins:List (Addr × Obj)}{J:St}{H:Hp}{s:Shared}{a:Addr}{y v:V}{u r:Value}{o:Option V}{A:Around}{E:Value->Shared->Prop}
def Inv.big(I:Inv X pins J H s):sysModules<s.heap.objs.size:=by
 have h:=(I.mod.glob.keeps I.bk).lt;exact lt_trans ∅ h
def AG(hu:A.units+1<cLine)(I:Inv X pins J H s)(g:fv H a y (some v))(f:RelV y u)(h:∀ U s',Inv X pins J H s'->RelV v U->Q U s') :
  wpAny (model X.prog X.w) A (getItem (.ref a) u) Q E s:=by
 rcases g with⟨kvs,k,e,c,l⟩ | ⟨kvs,k,b,e,c,j,l⟩
 ·subst c;obtain⟨z,hd,vs,R,d⟩:=mG I.hok e;obtain⟨U,Y,O⟩:=jf.some_of (v:=v) (o:=valueAt vs k) (by rw[l];exact R.val k);exact wpAny_getItem_of (oN f) d.mapOf Y (h U _ (I.tok _) O)
 ·subst c;cases(show u=Value.ref b from f);obtain⟨z,hd,xs,R,d⟩:=pJ I.hok e;obtain⟨U,Y,O⟩:=jf.some_of (v:=v) (o:=(atKey xs k).map (·.2)) (by rw[l];exact R.val k);obtain⟨p,i,Z⟩:=Option.map_eq_some_iff.mp Y;refine wpAny_getItem_heap (tupleKind_room_in1 hu) (mf I.hok j) d i ?_;rw[Z];exact h U _ (I.tok _) O
def Mm(hu:A.units+1<cLine)(I:Inv X pins J H s)(g:fv H a y o)(Y:RelV y u)(h:∀ s',Inv X pins J H s'->Q (.bool o.isSome) s') :
  wpAny (model X.prog X.w) A (compareOp .In u (.ref a)) Q E s:=by
 rcases g with⟨kvs,k,e,R,l⟩ | ⟨kvs,k,b,e,R,Z,l⟩
 ·subst R;obtain⟨z,hd,vs,O,U⟩:=mG I.hok e;refine wpAny_in_of (oN Y) hd U.mapOf ?_;rw[<-(O.val k).il,<-l];exact h _ (I.tok _)
 ·subst R;cases(show u=Value.ref b from Y);obtain⟨z,hd,xs,O,U⟩:=pJ I.hok e;refine wpAny_in_heap (tupleKind_room_in1 hu) (mf I.hok Z) hd U ?_;have q:=(O.val k).il;rw[isSome_map]at q;rw[<-q,<-l];exact h _ (I.tok _)
def Ed(hu:A.units+1<cLine)(I:Inv X pins J H s)(g:fv H a y o)(Y:RelV y u)(h:∀ s',Inv X pins J H s'->Q (.bool (!o.isSome)) s') :
  wpAny (model X.prog X.w) A (compareOp .NotIn u (.ref a)) Q E s:=by
 rcases g with⟨kvs,k,e,R,l⟩ | ⟨kvs,k,b,e,R,Z,l⟩
 ·subst R;obtain⟨z,hd,vs,O,U⟩:=mG I.hok e;refine wpAny_notIn_of (oN Y) hd U.mapOf ?_;rw[<-(O.val k).il,<-l];exact h _ (I.tok _)
 ·subst R;cases(show u=Value.ref b from Y);obtain⟨z,hd,xs,O,U⟩:=pJ I.hok e;refine wpAny_notIn_heap (tupleKind_room_in1 hu) (mf I.hok Z) hd U ?_;have q:=(O.val k).il;rw[isSome_map]at q;rw[<-q,<-l];exact h _ (I.tok _)
def wq(I:Inv X pins J H s)(R:Mut (H a))(U:Heap.SameBut a s.heap h')(Y:∃ q,h'.get? a=some q)(O:bC X.prog X.w (upd H a ob) h' a ob) :
  Inv X pins J (upd H a ob) { s with heap:=h',toks:=Z } :=
 I.write (x:=a) (e:=a) R (.inl rfl) (fun b q hb z=>(U.2 b hb).trans z) Y O
def Jz(z:kvs.length<=sizeLine)(hd:(a == sysModules)=false)(I:KV kvs vs)(O:h'.DictOf (bV P w) a vs) :
  bC P w H' h' a (.dK kvs):=#[z,hd,vs,I,O]
def A3(hu:A.units+1<cLine)(I:Inv X pins J H s)(g:me H a y v H')(j:RelV y u)(m:RelV v r)(h:∀ s',Inv X pins J H' s'->Q () s') :
  wpAny (model X.prog X.w) A (setItem (.ref a) u r) Q E s:=by
 rcases g with⟨kvs,k,e,d,l,f⟩ | ⟨kvs,k,b,e,d,o,l,f⟩
 ·subst d f;obtain⟨z,hd,vs,O,i⟩:=Ks I.hok e
  have Y:vs.length<=sizeLine:=by rw[<-O.length];exact z
  have hl:(putK kvs k v).length<=sizeLine:=by have:=nD kvs k v;omega
  refine wpAny_setItem_pairs (hsz:=Y) (oN j) i fun h' R Z=>h _ ?_;have p:∃ q,h'.get? a=some q:=let ⟨q,_,_,U,_⟩:=R;⟨q,U⟩;exact wq I (by rw[e];exact True.intro) Z p (Jz hl hd (O.put k m) R)
 ·subst d f;cases(show u=Value.ref b from j);obtain⟨z,hd,xs,O,i⟩:=D6 I.hok e
  have Y:xs.length<=sizeLine:=by rw[<-Paired.length O];exact z
  have hl:(putK kvs k v).length<=sizeLine:=by have:=nD kvs k v;omega
  refine wpAny_setItem_heap (hsz:=Y) (tupleKind_room_in1 hu) (mf I.hok o) i fun h' R Z=>h _ ?_;obtain⟨q,es,D,U,C,B,x,_,t⟩:=R;refine wq I (by rw[e];exact True.intro) Z ⟨q,U⟩ ⟨hl,hd,_,(O.put k o m).keeps fun c ys n=>?_,q,es,D,U,C,B,x,t⟩;rw[aJ (mI n e (fun z=>nomatch z))];exact n
end
section
variable{X:Cx}{pins:List (Addr × Obj)}{J:St}{H:Hp}{s:Shared}{a:Addr}{kvs:List (Key × V)}{k:Key}{u:Value}{A:Around}{E:Value->Shared->Prop}
def KJ(I:Inv X pins J H s)(e:Rd H a (.dK kvs))(h:∀ t s',Inv X pins J H s'->Q (.int kvs.length t) s'):wpAny (model X.prog X.w) A (call (.builtin "len") [.ref a]) Q E s:=by
 obtain⟨z,hd,vs,O,R⟩:=mG I.hok e;refine call_len_dict hd R (by rw[<-O.length];rw[sizeLine_eq]at z;omega) ?_;rw[<-O.length];exact h _ _ (I.tok _)
end
abbrev yA(i:Expr):Prop:=∀ ov I,subscripted i false ov I=operate [ov,I] (getItem ov I)
def En{prog:Program}{w:World}{A:Around}{E:Value->Shared->Prop}{s:Shared}{env:Env}{value slice:Expr}{b:Pos}{T id:String}{Q:Value->Shared->Prop}
 (hl:typeLookup (.type T) "__getitem__" = pure (some (.builtin id)))(c:yA slice)
 (h:wpAny (model prog w) A (eval value env) (fun o U=>wpAny (model prog w) A (eval slice env) (fun i I=>I.TypeIs o T/\wpAny (model prog w) A (getItem o i) Q E I) E U) E s) :
  wpAny (model prog w) A (eval (.Subscript value slice b) env) Q E s:=by
 refine Subscript_ (wpAny_mono h (fun o U a=>wpAny_mono a (fun i I O=>?_) fun _ _ x=>x) fun _ _ x=>x);obtain⟨hT,O⟩:=O;refine Qa ?_;refine Qa (wpAny_specialOf hT hl ?_)
 have Y:wpAny (model prog w) A (subscripted slice false o i) (fun r R=>wpAny (model prog w) A (letTemporaryGo value o r >>= fun _=>pure r) Q E R) E I:=by
  rw[c o i];exact wpAny_operating (wpAny_mono O (fun r R Z=>Qa (wpAny_letTemporaryGo (Qd Z))) fun _ _ x=>x)
 first
  | exact Qd (Qa Y)
  | exact Qa (Qd (Qa Y))
  | exact Qa Y
def vz(I:Inv X pins J H s)(g:fv H a y o):s.TypeIs (.ref a) "dict" := by
 rcases g with⟨kvs,k,e,_,_⟩ | ⟨kvs,k,b,e,_,_,_⟩
 ·obtain⟨_,_,vs,_,O⟩:=mG I.hok e;exact O.typeIs
 ·obtain⟨_,_,xs,_,O⟩:=pJ I.hok e;exact O.typeIs
abbrev JQ(I ty:TE):TE:=fun J H Q=>I J H fun x O=>ty J O fun y H2=>∃ a v,x=.ref a/\fv H2 a y (some v)/\Q v H2
abbrev FA(ty I:TE):TE:=fun J H Q=>ty J H fun y O=>I J O fun x H2=>∃ a o,x=.ref a/\fv H2 a y o/\Q (.bl o.isSome) H2
abbrev wj(ty I:TE):TE:=fun J H Q=>ty J H fun y O=>I J O fun x H2=>∃ a o,x=.ref a/\fv H2 a y o/\Q (.bl (!o.isSome)) H2
abbrev yg(R ty O:TE):TS:=fun D J H=>O J H fun v Y=>R J Y fun x H2=>ty J H2 fun y U=>∃ a I,x=.ref a/\me U a y v I/\D.nx J I
section
variable{X:Cx}{o i e value:Expr}{pos pos' tpos:Pos}{td ty tv:TE}
def F8(hu:X.A.units+1<cLine)(d:PE X o td)(hi:PE X i ty)(c:yA i):PE X (.Subscript o i pos) (JQ td ty):=by
 lk;refine En PySem.F.slot_dict_getitem.lookup c (thn (d pins s J H _ I h) fun u s1 ⟨x,j,f,Y,b⟩=>thn (hi pins s1 J j _ f b) fun m s2 ⟨y,H2,R,U,a,v,ex,g,Z⟩=>?_);subst ex;obtain rfl:u=Value.ref a:=Y;exact#[vz R g,AG hu R g U fun k l e O=>#[v,H2,e,O,Z]]
def II(hu:X.A.units+1<cLine)(hi:PE X i ty)(Z:PE X o td):PC X .In i o (FA ty td):=by
 lk;refine thn (hi pins s J H _ I h) fun j s1 ⟨y,e,d,O,Y⟩=>thn (Z pins s1 J e _ d Y) fun u s2 ⟨x,H2,c,R,a,ov,ex,g,U⟩=>?_;subst ex;obtain rfl:u=Value.ref a:=R
 exact Mm hu c g O fun f b=>#[.bl ov.isSome,H2,b,rfl,U]
def yX(hu:X.A.units+1<cLine)(hi:PE X i ty)(Z:PE X o td):PC X .NotIn i o (wj ty td):=by
 lk;refine thn (hi pins s J H _ I h) fun j s1 ⟨y,e,d,O,Y⟩=>thn (Z pins s1 J e _ d Y) fun u s2 ⟨x,H2,c,R,a,ov,ex,g,U⟩=>?_;subst ex;obtain rfl:u=Value.ref a:=R
 exact Ed hu c g O fun f b=>#[.bl (!ov.isSome),H2,b,rfl,U]
def DW(hu:X.A.units+1<cLine)(e:PE X o td)(hi:PE X i ty)(c:PE X value tv)(d:swapsWith value (some (.Subscript o i pos')) pos.line X.env=pure false) :
  PS X (.Assign [.Subscript o i pos'] value pos) (yg td ty tv):=by
 k_all;refine wpAny_Assign_Subscript (thn (c pins s J H _ I h) fun r s1 ⟨v,n,l,U,b⟩=>thn (e pins s1 J n _ l b) fun u s2 ⟨x,H2,k,R,Z⟩=>thn (hi pins s2 J H2 _ k Z) fun t q ⟨y,w,j,O,a,m,ex,g,Y⟩=>?_) d;subst ex;obtain rfl:u=Value.ref a:=R
 exact A3 hu j g O U fun p f=>#[J,m,f,Y]
end
def BZ(h:Heap)(hb:sysModules<h.objs.size):bC P w H (h.push { cls:=.type "dict",data:=.dict (List.toArray []) }) h.objs.size (.dK []) :=
 ⟨zero_le _,beq_eq_false_iff_ne.mpr (Ne.symm (Ql hb)),[],.nil,Heap.DictOf.new h⟩
def BS(h:Heap)(hb:sysModules<h.objs.size):bC P w H (h.push { cls:=.type "dict",data:=.dict (List.toArray []) }) h.objs.size (.dT []) :=
 ⟨zero_le _,beq_eq_false_iff_ne.mpr (Ne.symm (Ql hb)),[],.nil,_,(List.toArray []),0,Qc _ rfl,⟨rfl,rfl,rfl⟩,rfl,rfl,List.nodup_nil⟩
abbrev G9:TE:=fun _ H Q=>∀ p,H p=none->Q (.ref p) (upd H p (.dK []))
abbrev GV:TE:=fun _ H Q=>∀ p,H p=none->Q (.ref p) (upd H p (.dT []))
section
variable{X:Cx}{pos:Pos}
def B1:PE X (.Dict [] [] pos) G9:=fun pins s J H Q I h =>
 wpAny_Dict_empty ⟨.ref s.heap.objs.size,_,I.laid (fun _ _ q=>J2 _ q) (Qb _) (BZ s.heap I.big),rfl,h _ (I.hok.fresh (Qb _))⟩
def Bd:PE X (.Dict [] [] pos) GV:=fun pins s J H Q I h =>
 wpAny_Dict_empty ⟨.ref s.heap.objs.size,_,I.laid (fun _ _ q=>J2 _ q) (Qb _) (BS s.heap I.big),rfl,h _ (I.hok.fresh (Qb _))⟩
end
end L2
namespace Att
open PySem PySem.W PySem.Calls PyProof.Rows
def pN:∀ (ns:List Int) (vs:List Value),WellAll P h vs (ns.map WData.int)->IntsAre vs ns:=by
 intro ns
 induction ns with
 |nil=>
  intro vs w;cases w;exact .nil
 |cons n ns I=>
  intro vs w
  cases w with
  |cons a b=>
   cases a;exact .cons _ _ (I _ b)
def Aw{l:OpenLaw}{n:Nat}(hn:l.most=some n){P:Params}{h:Heap}{args:List WData}{vals:List Value}
 (I:l.row.toRowW.claim.pre args=true)(U:WellAll P h vals args) :
  ∃ a vs ns,vals=[Value.ref a]/\args=[WData.list (ns.map WData.int)]/\h.get? a=some { cls:=.type "list",data:=.seq vs.toArray }/\IntsAre vs ns/\ns.length<=n:=by
 have Y:=(pre_splitW I).1;have f:l.pre.holds [] { args:=args }=true:=(pre_splitW I).2;obtain⟨d,r,rfl,j,i⟩:=hasAllW_cons Y;obtain rfl:=hasAllW_nil i;obtain⟨xs,rfl,g⟩:=hasW_list j;obtain⟨ns,rfl⟩:=items_int g
 have hlen:ns.length<=n:=by
  have R:(WTm.not (.lt (.lit (.int n)) (.len (.arg 0)))).holds [] { args:=[.list (ns.map .int)] }=true:=by
   have R:=(holds_andW f).1;rw[hn]at R;exact R
  have Z:=condW_of R (w_not (w_lt w_lit (w_len_list (w_arg rfl))));refine Nat.le_of_not_lt fun q=>?_
  have q':n<((ns.length:Nat):Int):=by omega
  first
   | (rw[decide_eq_true q']at Z;exact absurd Z ∅)
   | (simp at Z;omega)
 cases U with
 |cons c b=>
  cases b
  cases c with
  | list e O=>exact#[_,_,ns,rfl,rfl,e,pN ns _ O,hlen]
def zN(l:OpenLaw)(args:List WData):l.row.toRowW.claim.post args (.bool true) args=true :=
 postW_of
  (show WShape.has [] (.bool true) .bool=true by first | rfl | decide | simp[ WShape.arms])
  (show(WTm.eq .res (.lit (.bool true))).value [] { args:=args,res:=some (.bool true),after:=args }=some (.bool (true == true))from w_eq_bool (w_res rfl) w_lit) rfl
def vC{l:OpenLaw}{n:Nat}{q:Program}{loose:List Str}{j:(Str->Option Value)->Heap->Prop}{i:World->Heap->Prop}{d:DefRec}
 (hn:l.most=some n)(c:d.params.defaults=[])
 (call:∀ (w:World) (s₀ I:Shared) (mg mb:Str->Option Value) (fa:Addr) (o:Obj) (pm U doc:Value) (a:Addr) (vs:List Value) (ns:List Int),
   Ground q loose [] j w s₀ mg mb I.heap->i w I.heap ->
   I.heap.get? fa=some o->o.data=.func (docDef d.name d.params d.body d.scope pm U doc)->I.heap.CodeRec U d.name->mg d.name=some (.ref fa) ->
   I.heap.get? a=some { cls:=.type "list",data:=.seq vs.toArray }->IntsAre vs ns->ns.length<=n->I.gens=(List.toArray []) ->
   codeAny (model l.prog w) callerA (.call (.ref fa) ⟨[.ref a],[]⟩) (fun r s'=>r=.ok (.ret (.bool true))/\OldK I.heap s'.heap/\s'.os=I.os/\AllBare s'.gens) I) :
  WalkO q loose j i l.row.toRowW d [] (fun f vs=>PySem.call f vs):=by
 intro w s₀ I mg mb G Y fa o pm U doc x kV p hd e h b hg args vals y O g k Z s;obtain rfl:x=.none:=Dflts.none h c;obtain rfl:kV=.none:=Dflts.noKw h;obtain⟨a,vs,ns,rfl,rfl,R,hints,hlen⟩:=Aw hn O Z;refine enter_call (codeAny_mono (call w s₀ I mg mb fa o pm U doc a vs ns G Y p (fd_plain hd) e b R hints hlen hg) fun r s' m=>?_);obtain⟨rfl,v,u,t⟩:=m;exact#[.inl #[.bool true,.bool true,[],rfl,fun _=>rfl,.bool true,zN l _,fun _=>#[List.Pairwise.nil,fun _ hm=>(nomatch hm)]],v,u,t]
end Att
namespace L2
open PySem PySem.Spec PyProof.Rows
def rE:∀ {vs:List Value} {ns:List Int},IntsAre vs ns->Vals (ns.map V.int) vs
 | _,_,.nil=>.nil
 | _,_,.cons n t h=>.cons ⟨t,rfl⟩ (rE h)
abbrev vt(H:Hp):Prop:=∀ b,H b=none\/∃ o xs,H b=some (.frz o (.lst xs))
def CJ{P:Program}{w:World}{K:W.Frag}{mg mb:Str->Option Value}{CX:CXT}{k:Nat}{fa a:Addr}{fd:FuncData}{x:Str}{sp:Sp}{I:Shared}{vs:List Value}{ns:List Int}
 (E:K.In I.heap)(f:I.heap.Ns mainGlobals mg)(hb:I.heap.Ns builtinsNs mb)(t:∀ x:Str,x ≠ "__name__" -> mb x=bootBuiltins x)(g:I.heap.NoLimit)(hg:I.gens=(List.toArray []))
 (ha:I.heap.get? a=some { cls:=.type "list",data:=.seq vs.toArray })(hi:IntsAre vs ns)(hl:ns.length<=sizeLine)(L:cH k callerA)
 (F:∀ base:Heap,K.In base->base.Ns mainGlobals mg->eU P w K mg base CX k fa fd [x] sp)(U:∀ (s:Shared) (u:Value),BindsTo s fd ⟨[u],[]⟩ [(x,u)])
 (p:∀ H:Hp,vt H->SqL K H a (ns.map V.int)->sp [.ref a] H (fun v _=>v=.bl true) fun _ _ _=>False)
 (y:∀ H e s',CX [] H I (fun _ _ _=>False) e s'->False) :
  codeAny (model P w) callerA (.call (.ref fa) ⟨[.ref a],[]⟩) (fun r s'=>r=.ok (.ret (.bool true))/\OldK I.heap s'.heap/\s'.os=I.os/\AllBare s'.gens) I:=by
 have A:=rE hi;have Z:=hi.length
 have core:∀ H:Hp,vt H->SqL K H a (ns.map V.int)->HOk P w H I.heap->(∀ b,H b≠none->b=a)->(H a≠none->K.lookup a=none) ->
   codeAny (model P w) callerA (.call (.ref fa) ⟨[.ref a],[]⟩) (fun r s'=>r=.ok (.ret (.bool true))/\OldK I.heap s'.heap/\s'.os=I.os/\AllBare s'.gens) I:=by
  intro H B M hok C N;have O:∀ {b:Addr} {o:Obj},I.heap.get? b=some o->H b=none->(kG I.heap H).get? b=some o:=fun e n=>BG e n
  have l:∀ {b:Addr} {o:Obj} {es:Array DictEntry} {j:Nat},I.heap.get? b=some o->o.data=.dict es j->H b=none:=fun {b o es j} e d=>by
   cases q:H b with
   | none=>rfl
   |some u=>
    have e':b=a:=C b (by rw[q];simp);subst e';rw[ha]at e;cases e;have d':Data.seq vs.toArray _=Data.dict es j:=d;cases d'
  have R:∀ {b:Addr} {m:Str->Option Value},I.heap.Ns b m->(kG I.heap H).Ns b m:=fun {b m} ⟨o,es,j,e,d,r⟩=>#[o,es,j,O e (l e d),d,r]
  have i:K.In (kG I.heap H):=fun b o e=>O (E b o e) (by
   cases q:H b with
   | none=>rfl
   |some u=>
    have e':b=a:=C b (by rw[q];simp);subst e'
    rw[N (by rw[q];simp)]at e;cases e)
  have hM:Mod K mg (kG I.heap H):=⟨i,R f,⟨mb,R hb,t⟩,let ⟨QK,S,Q⟩:=g;⟨QK,R S,Q⟩⟩
  have e0:ur P w K mg (kG I.heap H) callerA [] I H:=#[rfl,hM,fun b o e=>Ex e,le_of_eq (Aq _ _),trivial,fun b hb=>absurd (show b∈([]:List Addr)from hb) (by simp),hok,.of_eq hg]
  refine codeAny_mono ((F _ i (R f)).run callerA [] I H ⟨[.ref a],[]⟩ [.ref a] [.ref a] _ _ L e0 (U I (.ref a)) (.cons rfl .nil) (p H B M)) fun r s' h=>?_
  cases r with
  | error e=>exact(y H e s' h).elim
  |ok T=>
   cases T with
   | next=>exact False.elim h
   | brk=>exact False.elim h
   | cont=>exact False.elim h
   |ret u=>
    obtain⟨v,H',os,bare,un,c,G,q⟩:=h;have q':v=.bl true:=q;subst q';obtain rfl:u=Value.bool true:=G;refine#[rfl,OldK.of_keep fun b o e=>?_,os,bare]
    cases q:H b with
    | none=>exact un.keep b o e q (by intro z;exact absurd (show b∈([]:List Addr)from z) (by simp)) (by simp)
    |some u=>
     rcases B b with z | ⟨ob,xs,z⟩
     ·rw[q]at z;cases z
     ·have z2:=un.dD b ob _ z;obtain⟨D,_⟩:=hok b _ z;obtain⟨X,_⟩:=c b _ z2;rw[e]at D;cases D;exact X
 cases hk:K.lookup a with
 |some o=>
  have e:=E a o hk;rw[ha]at e;cases e;refine core (fun _=>none) (fun _=>.inl rfl) (.inr #[_,vs.toArray,_,hk,rfl,rfl,rfl,by rw[size_toArray,Z];exact hl,by simpa using A]) (fun b u z=>by have Y:(none:Option HO)=some u:=z;cases Y) (fun b z=>absurd rfl z) fun z=>absurd rfl z
 |none=>
  refine core (fun b=>if b=a then some (.frz { cls:=.type "list",data:=.seq vs.toArray } (.lst (ns.map V.int)))else none) (fun b=>?_) (.inl (.inr #[{ cls:=.type "list",data:=.seq vs.toArray },if_pos rfl])) (fun b u z=>?_) (fun b z=>?_) fun _=>hk
  ·by_cases hb:b=a
   ·exact .inr #[_,_,if_pos hb]
   ·exact .inl (if_neg hb)
  ·by_cases hb:b=a
   ·have Y:=(if_pos hb).symm.trans z;cases Y;subst hb;exact#[ha,by rw[length_map];exact hl,vs,_,A,ha]
   ·have Y:=(if_neg hb).symm.trans z;cases Y
  ·by_cases hb:b=a
   ·exact hb
   ·exact absurd (if_neg hb) z
@[reducible]noncomputable def KOf{K:W.Frag}{h:Heap}(_:K.In h):W.Frag:=K
def vT{l:W.OpenLaw}{n k:Nat}{q:Program}{loose:List Str}{B:(Str->Option Value)->Heap->Prop}{j:World->Heap->Prop}{d:DefRec}{K:Params->W.Frag}{CX:World->CXT}{sp:World->Sp}{x:Str}
 (hn:l.most=some n)(U:n<=sizeLine)(c:d.params.defaults=[])(p:cH k callerA)
 (t:∀ (w:World) (h:Heap),j w h->(K w.params).In h)
 (F:∀ (w:World) (mg:Str->Option Value) (fa:Addr) (h:Heap),(K w.params).In h->h.Ns mainGlobals mg->mg d.name=some (.ref fa) ->
   ∃ fd:FuncData,(∀ (s:Shared) (u:Value),BindsTo s fd ⟨[u],[]⟩ [(x,u)]) /\
    ∀ base:Heap,(K w.params).In base->base.Ns mainGlobals mg->eU l.prog w (K w.params) mg base (CX w) k fa fd [x] (sp w))
 (R:∀ (w:World) (H:Hp) (a:Addr) (ns:List Int),ns.length<=n->vt H->SqL (K w.params) H a (ns.map V.int)->sp w [.ref a] H (fun v _=>v=.bl true) fun _ _ _=>False)
 (i:∀ (w:World) (H:Hp) (s:Shared) (e:Value) (s':Shared),CX w [] H s (fun _ _ _=>False) e s'->False) :
  W.WalkO q loose B j l.row.toRowW d [] (fun f vs=>PySem.call f vs):=by
 refine Att.vC hn c fun w s₀ I mg mb fa o pm D doc a vs ns G Y C hd r Z O hints hlen hg=>?_;have m:=t w _ Y;obtain⟨fd,hb,A⟩:=F w mg fa _ m G.T.g Z;exact CJ m G.T.g G.T.b G.T.builtins G.T.nolimit hg O hints (Qn hlen U) p A hb (fun H z y=>R w H a ns hlen z y) fun H e s'=>i w H I e s'
def C7{l:W.OpenLaw}{n k:Nat}{q:Program}{loose:List Str}{j:(Str->Option Value)->Heap->Prop}{Y:World->Heap->Prop}{d:DefRec}{K:Params->W.Frag}{CX:CXT}{sp:W.Frag->Sp}{x:Str}
 (hn:l.most=some n)(O:n<=sizeLine)(R:d.params.defaults=[])(Z:cH k callerA)
 (b:∀ (w:World) (h:Heap),Y w h->(K w.params).In h)
 (F:∀ (w:World) (mg:Str->Option Value) (fa:Addr) (h:Heap),(K w.params).In h->h.Ns mainGlobals mg->mg d.name=some (.ref fa) ->
   ∃ fd:FuncData,(∀ (s:Shared) (u:Value),BindsTo s fd ⟨[u],[]⟩ [(x,u)]) /\
    ∀ base:Heap,(K w.params).In base->base.Ns mainGlobals mg->eU l.prog w (K w.params) mg base CX k fa fd [x] (sp (K w.params)))
 (I:∀ (K:W.Frag) (H:Hp) (a:Addr) (ns:List Int),ns.length<=n->vt H->SqL K H a (ns.map V.int)->sp K [.ref a] H (fun v _=>v=.bl true) fun _ _ _=>False)
 (U:∀ (H:Hp) (s:Shared) (e:Value) (s':Shared),CX [] H s (fun _ _ _=>False) e s'->False) :
  W.WalkO q loose j Y l.row.toRowW d [] (fun f vs=>PySem.call f vs) :=
 vT (K:=K) (CX:=fun _=>CX) (sp:=fun w=>sp (K w.params)) hn O R Z b F (fun w H a ns i g c=>I (K w.params) H a ns i g c) fun _ H s e s'=>U H s e s'
abbrev iR(s:Stmt):Arguments:=match s with
 | .FunctionDef _ a _ _ _ _ _ _ _ _=>a
 | _=>{ posonlyargs:=[],args:=[],vararg:=none,kwonlyargs:=[],kw_defaults:=[],kwarg:=none,defaults:=[] }
abbrev cQ(s:Stmt):List Stmt:=match s with
 | .FunctionDef _ _ b _ _ _ _ _ _ _=>b
 | _=>[]
abbrev aN(s:Stmt):Scope:=match s with
 | .FunctionDef _ _ _ _ _ _ sc _ _ _=>sc
 | _=>{ kind:=.function,names:=[],isGenerator:=false,isCoroutine:=false }
@[reducible]noncomputable def CX0:CXT:=fun _ _ _ _ _ _=>False
@[reducible]noncomputable def E0:XK:=fun _ _ _=>False
def Dh:Passes CX0 X E0:=fun _ _ _ _ _ _ _ h=>h.elim
structure Fun(K:W.Frag)(x qual:Str)(st:Stmt)(f:Addr)(fd:FuncData):Prop where
 ex:∃ (oc:Value) (od:Option Addr) (kV doc pm:Value) (an:Option Addr) (cdv ct:Value) (osl:Array (Option Value)),
  fd=W.fnOf x qual (iR st) (cQ st) (aN st) .none kV doc pm an cdv ct/\K.lookup f=some ⟨oc,od,.func fd,osl⟩/\W.codeIn K cdv qual=true
 kp:W.keepIn K (.ref f)=true
section
variable{P:Program}{w:World}{K:W.Frag}{mg:Str->Option Value}{base:Heap}
def Fun.ok{x qual:Str}{st:Stmt}{f:Addr}{fd:FuncData}{N ps:List Str}{k:Nat}{sp:Sp}(F:Fun K x qual st f fd)(S:gx N ps (aN st))(len:∀ vs H Q E,sp vs H Q E->vs.length=ps.length)
 (I:∀ (cdv:Value) (A:Around) (outer:List Env) (s:Shared) (H:Hp) (vs:List V) (Q:VK) (E:XK),cH k (A.deeper (envOfC qual (aN st) s.heap.objs.size f cdv))->sp vs H Q E ->
   ∃ t,PSs (jd CX0 P w K mg base N qual (aN st) f cdv A outer s H E).nox (cQ st) t/\t { nx:=fun _ H'=>Q .non H',rt:=Q } (start N vs) H):eU P w K mg base CX0 (k+1) f fd ps sp:=by
 obtain⟨oc,od,kV,doc,pm,an,cdv,ct,osl,rfl,U,R⟩:=F.ex;refine DG U R S len fun A outer s H vs Q E Y O=>?_;obtain⟨t,h,q⟩:=I cdv A outer s H vs Q E Y O;exact#[t,h.nox,q]
def Fun.binds{x qual:Str}{st:Stmt}{f:Addr}{fd:FuncData}{ps:List Str}(F:Fun K x qual st f fd)
 (h:∀ (kV doc pm:Value) (an:Option Addr) (cdv ct:Value) (us:List Value),us.length=ps.length->bindArgs (W.fnOf x qual (iR st) (cQ st) (aN st) .none kV doc pm an cdv ct) ⟨us,[]⟩=pure (ps.zip us)):Binds K fd ps []:=by
 obtain⟨oc,od,kV,doc,pm,an,cdv,ct,osl,rfl,O,I⟩:=F.ex;exact .all (h kV doc pm an cdv ct)
def yB{x qual:Str}{st:Stmt}{f:Addr}{oc:Value}{od an:Option Addr}{osl:Array (Option Value)}{kV doc pm cdv ct:Value}(l:K.lookup f=some ⟨oc,od,.func (W.fnOf x qual (iR st) (cQ st) (aN st) .none kV doc pm an cdv ct),osl⟩)
 (c:W.codeIn K cdv qual=true)(k:W.keepIn K (.ref f)=true):Fun K x qual st f (W.fnOf x qual (iR st) (cQ st) (aN st) .none kV doc pm an cdv ct):=#[#[oc,od,kV,doc,pm,an,cdv,ct,osl,rfl,l,c],k]
end
def rC(h:n<=1000):n<sizeLine:=Nat.lt_of_le_of_lt h ∅
def gC{A B:Prop}(h:B):if false=true then A else B:=by
 exact h
def fW{A B:Prop}(h:A):if true=true then A else B:=by
 exact h
abbrev aw(H H':Hp):Prop:=∀ b o,H b=some o->H' b=some o
def aw.refl(H:Hp):aw H H:=fun _ _ h=>h
def aw.trans(a:aw H H1)(b:aw H1 H2):aw H H2:=fun c o h=>b c o (a c o h)
def aw.free(e:aw H H')(h:H' l=Option.none):H l=Option.none:=by
 cases q:H l with
 | none=>rfl
 |some o=>
  rw[e l o q]at h;cases h
section
variable{X:Cx}
def Ax:bL X (.builtin "len") (fun xs H Q=>∃ a kvs,xs=[V.ref a]/\H a=some (.dK kvs)/\Q (.int kvs.length) H):=by
 fin2;obtain⟨a,kvs,rfl,ha,q⟩:=h;obtain⟨u,rfl,O⟩:=vals1 r;cases O
 exact KJ I (.inl ha) fun t s' R=>#[.int kvs.length,H,R,#[t,rfl],q]
end
end L2
namespace RS
open PySem PySem.Spec PyProof.Rows L2
@[reducible]def VE:List Value:=[.type "ValueError",.type "Exception",.type "BaseException",.type "object"]
abbrev d7:List Str:=["RibbonError", "BadPegs", "BadFrame", "BadHalf", "BadHook", "BadName", "NoNumber", "NoFrame", "NoStack", "NoPlace", "Taken", "Full", "NothingThere", "BadTrade", "Hangs", "BadPage"]
abbrev tV(f:Option PySem.Builtin.ObjectAttr.Found):Bool:=match f with
 | some (.bind (.builtin a) (.builtin b))=>a == "getset_descriptor.__get__" && b == "object.__class__"
 | _=>false
abbrev oW(K:W.Frag)(C:Addr):Bool:=match K.lookup C with
 | some ⟨.type "type",_,.cls cd,sl⟩=>(match cd.mro,sl.toList with
  | .ref C'::bm,[_,_,_,_,some (.builtin n),_]=>C' == C&&n == "ValueError.__new__" && !cd.hasDel&&W.tailIn K VE bm
  | _,_=>false)
 | _=>false
def E4{K:W.Frag}(h:W.excIn K C VE "ValueError.__new__" = true):oW K C=true:=by
 unfold W.excIn at h;unfold oW;split at h
 ·rename_i O;simp only[O];split at h
  ·rename_i hm I;simp only[hm,I,and_eq_true]at h ⊢;exact h.1.1
  ·cases h
 ·cases h
abbrev yo(K:W.Frag)(C:Addr):Bool:=oW K C&&(W.findIn K (.ref C) "at" == some none&&W.hasDictIn K C)
abbrev j8(K:W.Frag)(x:Str)(C:Addr):Bool :=
 yo K C&&W.findIn K (.ref C) "__getattribute__" == some (some (.builtin "BaseException.__getattribute__"))&&W.findIn K (.ref C) "__getattr__" == some none&&tV (W.findObj K C none "__class__") &&
 W.mroIn K C (.type "object") == some true&&W.subIn K (.ref C) (.type "BaseException") == some true&&(W.clsIn K C).isSome&&W.kitOne K (.ref C) (.type "ValueError") == some true &&
 d7.all fun c=>match W.nsIn K mainGlobals c with
  | some (some (.ref D))=>W.kitOne K (.ref C) (.ref D) == some (RL.dh x c)&&W.subIn K (.ref C) (.ref D) == some (RL.dh x c)
  | _=>true
structure Cls(K:W.Frag)(x:Str)(C:Addr):Prop where
 ns:W.nsIn K mainGlobals x=some (some (.ref C))
 ok:j8 K x C=true
section
variable{K:W.Frag}
def Cls.exc(h:Cls K x C):yo K C=true:=by
 have:=h.ok;simp only[j8,and_eq_true]at this;exact this.1.1.1.1.1.1.1.1
def Cls.ref(h:Cls K x C)(I:c∈d7)(O:W.nsIn K mainGlobals c=some (some (.ref D))):W.kitOne K (.ref C) (.ref D)=some (RL.dh x c)/\W.subIn K (.ref C) (.ref D)=some (RL.dh x c):=by
 have:=h.ok;simp only[j8,and_eq_true]at this;have q:=Qu.mp this.2 c I;rw[O]at q;simp only[and_eq_true,beq_iff_eq]at q;exact q
def Cls.val(h:Cls K x C):W.kitOne K (.ref C) (.type "ValueError")=some true:=by
 have:=h.ok;simp only[j8,and_eq_true,beq_iff_eq]at this;exact this.1.2
end
structure cj(K:W.Frag)(x:Str)(C:Addr)(c:Str):Prop where
 ex:∃ D b,W.nsIn K mainGlobals c=some (some (.ref D))/\W.kitOne K (.ref C) (.ref D)=some b/\W.subIn K (.ref C) (.ref D)=some b/\RL.dh x c=b
def Gu{K:W.Frag}(n:W.nsIn K mainGlobals c=some (some (.ref D)))(k:W.kitOne K (.ref C) (.ref D)=some b)(s:W.subIn K (.ref C) (.ref D)=some b)(e:RL.dh x c=b):cj K x C c:=#[D,b,n,k,s,e]
structure J0(K:W.Frag)(x:Str)(C:Addr):Prop where
 a1:oW K C=true
 a10:W.findIn K (.ref C) "at" = some none
 a11:W.hasDictIn K C=true
 a2:W.findIn K (.ref C) "__getattribute__" = some (some (.builtin "BaseException.__getattribute__"))
 a3:W.findIn K (.ref C) "__getattr__" = some none
 a4:W.findIn K (.ref C) "__class__" = some (some (.builtin "object.__class__"))
 a5:W.specialIn K (.builtin "object.__class__") "__get__" = some (some (.builtin "getset_descriptor.__get__"))
 a6:W.takesIn K (.builtin "object.__class__")=some true
 a7:W.mroIn K C (.type "object")=some true
 a8:W.subIn K (.ref C) (.type "BaseException")=some true
 a9:W.kitOne K (.ref C) (.type "ValueError")=some true
 b1:cj K x C "RibbonError"
 b2:cj K x C "BadPegs"
 b3:cj K x C "BadFrame"
 b4:cj K x C "BadHalf"
 b5:cj K x C "BadHook"
 b6:cj K x C "BadName"
 b7:cj K x C "NoNumber"
 b8:cj K x C "NoFrame"
 b9:cj K x C "NoStack"
 b10:cj K x C "NoPlace"
 b11:cj K x C "Taken"
 b12:cj K x C "Full"
 b13:cj K x C "NothingThere"
 b14:cj K x C "BadTrade"
 b15:cj K x C "Hangs"
 b16:cj K x C "BadPage"
def Jf{K:W.Frag}(h:J0 K x C):j8 K x C=true:=by
 obtain⟨a,O,_⟩:=Option.bind_eq_some_iff.mp h.a7
 have fo:tV (W.findObj K C none "__class__")=true:=by
  unfold W.findObj;rw[O,Option.bind_some,h.a4,Option.bind_some];dsimp only;rw[h.a5,Option.bind_some];rfl
 have one:∀ {c:Str},cj K x C c->(match W.nsIn K mainGlobals c with
  | some (some (.ref D))=>W.kitOne K (.ref C) (.ref D) == some (RL.dh x c)&&W.subIn K (.ref C) (.ref D) == some (RL.dh x c)
  | _=>true)=true:=fun⟨D,b,Z,Y,U,R⟩=>by
  rw[Z];dsimp only;rw[Y,U,R,beq_self_eq_true];rfl
 unfold j8 yo;rw[h.a1,h.a10,h.a11,h.a2,h.a3,fo,h.a7,h.a8,O,h.a9];simp only[beq_self_eq_true,isSome_some,Bool.and_self,Bool.true_and];rw[Qu];intro c I;simp only[d7,mem_cons,mem_nil_iff,or_false]at I;rcases I with rfl | rfl | rfl | rfl | rfl | rfl | rfl | rfl | rfl | rfl | rfl | rfl | rfl | rfl | rfl | rfl
 ·exact one h.b1
 ·exact one h.b2
 ·exact one h.b3
 ·exact one h.b4
 ·exact one h.b5
 ·exact one h.b6
 ·exact one h.b7
 ·exact one h.b8
 ·exact one h.b9
 ·exact one h.b10
 ·exact one h.b11
 ·exact one h.b12
 ·exact one h.b13
 ·exact one h.b14
 ·exact one h.b15
 ·exact one h.b16
abbrev nP:Addr->Prop:=fun _=>False
abbrev lN(K:W.Frag)(H:Hp)(a:Addr)(xs:List V):Prop:=(∃ o,H a=some (.frz o (.lst xs)))\/SqL K (fun _=>none) a xs
def lN.seq{K:W.Frag}(h:lN K H a xs):SqL K H a xs:=by
 rcases h with⟨o,h⟩ | (h | ⟨o,h⟩) | h
 ·exact .inl (.inr #[o,h])
 ·cases h
 ·cases h
 ·exact .inr h
def lN.same{K:W.Frag}(e:aw H H')(h:lN K H a xs):lN K H' a xs:=by
 rcases h with⟨o,h⟩ | h
 ·exact .inl #[o,e _ _ h]
 ·exact .inr h
abbrev kz(H:Hp)(f:Option Nat)(od:Option Addr):Prop:=match f with
 | none=>od=none
 | some k=>∃ n u R O I,od=some n/\H n=some (.frz { cls:=.type "dict",data:=.dict (List.toArray [⟨R,.str "at" O,.int k I⟩]) 1 } u)
def kz.keep(h:kz H f od)(k:∀ b o u,H b=some (.frz o u)->H' b=some (.frz o u)):kz H' f od:=by
 cases f with
 | none=>exact h
 | some m=>exact let ⟨n,u,R,O,I,Y,U⟩:=h;⟨n,u,R,O,I,Y,k _ _ _ U⟩
abbrev ExV(K:W.Frag)(H:Hp)(c:Str)(v:V):Prop:=∃ a o u D vs,v=.ref a/\H a=some (.frz o u)/\(o.cls=.ref D/\kz H (RL.jB c) o.dict)/\o.data=.fields vs/\vs[2]?=some .none/\Cls K (RL.baseOf c) D
def ExV.keep{K:W.Frag}(h:ExV K H c v)(k:∀ b o u,H b=some (.frz o u)->H' b=some (.frz o u)):ExV K H' c v :=
 let ⟨a,o,u,D,vs,R,O,I,r⟩:=h;⟨a,o,u,D,vs,R,k _ _ _ O,⟨I.1,I.2.keep k⟩,r⟩
mutual
noncomputable def Rep(P:Addr->Prop)(K:W.Frag)(H:Hp):RL.D->V->Prop
 | .non,v=>v=.non
 | .bl b,v=>v=.bl b
 | .int i,v=>v=.int i
 | .str x,v=>v=.str x
 | .tup ds,v=>∃ a xs,v=.ref a/\H a=some (.tup xs)/\ae P K H ds xs
 | .lst ds,v=>∃ a xs,v=.ref a/\¬ P a/\H a=some (.lst xs)/\ae P K H ds xs
 | .dK ks ds,v=>∃ a xs,v=.ref a/\¬ P a/\H a=some (.dK (ks.zip xs))/\ks.length=ds.length/\ae P K H ds xs
 | .dT ks ds,v=>∃ a xs,v=.ref a/\¬ P a/\H a=some (.dT (ks.zip xs))/\ks.length=ds.length/\ae P K H ds xs
 | .scr ds,v=>∃ a xs,v=.ref a/\lN K H a xs/\ae P K H ds xs
 | .exc c,v=>ExV K H c v
 | .obj,v=>∃ a,v=.ref a
 | .fT ks ds,v=>∃ a o xs,v=.ref a/\H a=some (.frz o (.dT (ks.zip xs)))/\ks.length=ds.length/\ae P K H ds xs
 | .fL ds,v=>∃ a o xs,v=.ref a/\H a=some (.frz o (.lst xs))/\ae P K H ds xs
noncomputable def ae(P:Addr->Prop)(K:W.Frag)(H:Hp):List RL.D->List V->Prop
 | [],xs=>xs=[]
 | d::r,xs=>∃ x t,xs=x::t/\Rep P K H d x/\ae P K H r t
end
mutual
theorem Rep.same{P:Addr->Prop}{K:W.Frag}{H H':Hp}(e:aw H H'):∀ {d:RL.D} {v:V},Rep P K H d v->Rep P K H' d v
 | .non,v,h=>by simpa[Rep]using h
 | .bl _,v,h=>by simpa[Rep]using h
 | .int _,v,h=>by simpa[Rep]using h
 | .str _,v,h=>by simpa[Rep]using h
 | .tup ds,v,h=>by
  k_ne;obtain⟨a,xs,R,O,I⟩:=h;exact#[a,xs,R,e _ _ O,ae.same e I]
 | .lst ds,v,h=>by
  k_ne;obtain⟨a,xs,R,Y,O,I⟩:=h;exact#[a,xs,R,Y,e _ _ O,ae.same e I]
 | .dK ks ds,v,h=>by
  k_ne;obtain⟨a,xs,R,Y,O,U,I⟩:=h;exact#[a,xs,R,Y,e _ _ O,U,ae.same e I]
 | .dT ks ds,v,h=>by
  k_ne;obtain⟨a,xs,R,Y,O,U,I⟩:=h;exact#[a,xs,R,Y,e _ _ O,U,ae.same e I]
 | .scr ds,v,h=>by
  k_ne;obtain⟨a,xs,R,O,I⟩:=h;exact#[a,xs,R,lN.same e O,ae.same e I]
 | .exc c,v,h=>by rw[Rep]at h ⊢;exact h.keep fun _ _ _ q=>e _ _ q
 | .obj,v,h=>by rw[Rep]at h ⊢;exact h
 | .fT ks ds,v,h=>by rw[Rep]at h ⊢;obtain⟨a,o,xs,R,O,U,I⟩:=h;exact#[a,o,xs,R,e _ _ O,U,ae.same e I]
 | .fL ds,v,h=>by rw[Rep]at h ⊢;obtain⟨a,o,xs,R,O,I⟩:=h;exact#[a,o,xs,R,e _ _ O,ae.same e I]
theorem ae.same{P:Addr->Prop}{K:W.Frag}{H H':Hp}(e:aw H H'):∀ {ds:List RL.D} {xs:List V},ae P K H ds xs->ae P K H' ds xs
 | [],xs,h=>by rw[ae]at h ⊢;exact h
 | d::r,xs,h=>by
  rw[ae]at h ⊢;obtain⟨x,t,R,O,I⟩:=h;exact#[x,t,R,Rep.same e O,ae.same e I]
end
mutual
theorem Rep.weak{P Z:Addr->Prop}{K:W.Frag}{H:Hp}(e:∀ a,Z a->P a):∀ {d:RL.D} {v:V},Rep P K H d v->Rep Z K H d v
 | .non,v,h=>by simpa[Rep]using h
 | .bl _,v,h=>by simpa[Rep]using h
 | .int _,v,h=>by simpa[Rep]using h
 | .str _,v,h=>by simpa[Rep]using h
 | .tup ds,v,h=>by
  k_ne;obtain⟨a,xs,R,O,I⟩:=h;exact#[a,xs,R,O,ae.weak e I]
 | .lst ds,v,h=>by
  k_ne;obtain⟨a,xs,R,Y,O,I⟩:=h;exact#[a,xs,R,fun z=>Y (e a z),O,ae.weak e I]
 | .dK ks ds,v,h=>by
  k_ne;obtain⟨a,xs,R,Y,O,U,I⟩:=h;exact#[a,xs,R,fun z=>Y (e a z),O,U,ae.weak e I]
 | .dT ks ds,v,h=>by
  k_ne;obtain⟨a,xs,R,Y,O,U,I⟩:=h;exact#[a,xs,R,fun z=>Y (e a z),O,U,ae.weak e I]
 | .scr ds,v,h=>by
  k_ne;obtain⟨a,xs,R,O,I⟩:=h;exact#[a,xs,R,O,ae.weak e I]
 | .exc c,v,h=>by rw[Rep]at h ⊢;exact h
 | .obj,v,h=>by rw[Rep]at h ⊢;exact h
 | .fT ks ds,v,h=>by rw[Rep]at h ⊢;obtain⟨a,o,xs,R,O,U,I⟩:=h;exact#[a,o,xs,R,O,U,ae.weak e I]
 | .fL ds,v,h=>by rw[Rep]at h ⊢;obtain⟨a,o,xs,R,O,I⟩:=h;exact#[a,o,xs,R,O,ae.weak e I]
theorem ae.weak{P I:Addr->Prop}{K:W.Frag}{H:Hp}(e:∀ a,I a->P a):∀ {ds:List RL.D} {xs:List V},ae P K H ds xs->ae I K H ds xs
 | [],xs,h=>by rw[ae]at h ⊢;exact h
 | d::r,xs,h=>by
  rw[ae]at h ⊢;obtain⟨x,t,U,R,O⟩:=h;exact#[x,t,U,Rep.weak e R,ae.weak e O]
end
def Rep.none{P:Addr->Prop}{K:W.Frag}(h:Rep P K H d v):Rep nP K H d v:=h.weak fun _ z=>z.elim
mutual
theorem Rep.imm{P Y:Addr->Prop}{K:W.Frag}{H:Hp}:∀ {d:RL.D} {v:V},d.imm=true->Rep P K H d v->Rep Y K H d v
 | .non,v,_,h=>by simpa[Rep]using h
 | .bl _,v,_,h=>by simpa[Rep]using h
 | .int _,v,_,h=>by simpa[Rep]using h
 | .str _,v,_,h=>by simpa[Rep]using h
 | .tup ds,v,i,h=>by
  k_ne;rw[RL.D.imm]at i;obtain⟨a,xs,R,O,I⟩:=h;exact#[a,xs,R,O,ae.imm i I]
 | .lst ds,v,i,h=>by rw[RL.D.imm]at i;cases i
 | .dK ks ds,v,i,h=>by rw[RL.D.imm]at i;cases i
 | .dT ks ds,v,i,h=>by rw[RL.D.imm]at i;cases i
 | .scr ds,v,i,h=>by
  k_ne;rw[RL.D.imm]at i;obtain⟨a,xs,R,O,I⟩:=h;exact#[a,xs,R,O,ae.imm i I]
 | .exc c,v,i,h=>by rw[Rep]at h ⊢;exact h
 | .obj,v,i,h=>by rw[Rep]at h ⊢;exact h
 | .fT ks ds,v,i,h=>by rw[Rep]at h ⊢;rw[RL.D.imm]at i;obtain⟨a,o,xs,R,O,U,I⟩:=h;exact#[a,o,xs,R,O,U,ae.imm i I]
 | .fL ds,v,i,h=>by rw[Rep]at h ⊢;rw[RL.D.imm]at i;obtain⟨a,o,xs,R,O,I⟩:=h;exact#[a,o,xs,R,O,ae.imm i I]
theorem ae.imm{P U:Addr->Prop}{K:W.Frag}{H:Hp}:∀ {ds:List RL.D} {xs:List V},RL.au ds=true->ae P K H ds xs->ae U K H ds xs
 | [],xs,_,h=>by rw[ae]at h ⊢;exact h
 | d::r,xs,i,h=>by
  rw[ae]at h ⊢;rw[RL.au,and_eq_true]at i;obtain⟨x,t,R,O,I⟩:=h;exact#[x,t,R,Rep.imm i.1 O,ae.imm i.2 I]
end
abbrev d6(o:HO):Prop:=(∃ xs,o=.lst xs)\/(∃ kvs,o=.dK kvs)\/(∃ kvs,o=.dT kvs)
mutual
theorem Rep.upd{P:Addr->Prop}{K:W.Frag}{H:Hp}{a:Addr}{o o':HO}(ha:H a=some o)(m:d6 o)(p:P a):∀ {d:RL.D} {v:V},Rep P K H d v->Rep P K (upd H a o') d v
 | .non,v,h=>by simpa[Rep]using h
 | .bl _,v,h=>by simpa[Rep]using h
 | .int _,v,h=>by simpa[Rep]using h
 | .str _,v,h=>by simpa[Rep]using h
 | .tup ds,v,h=>by
  k_ne;obtain⟨b,xs,R,I,O⟩:=h;k_asm;exact#[b,xs,R,by rw[L2.aJ n];exact I,ae.upd ha m p O]
 | .lst ds,v,h=>by
  k_ne;obtain⟨b,xs,R,U,I,O⟩:=h;have n:b≠a:=fun z=>U (z▸p);exact#[b,xs,R,U,by rw[L2.aJ n];exact I,ae.upd ha m p O]
 | .dK ks ds,v,h=>by
  k_ne;obtain⟨b,xs,R,U,I,Y,O⟩:=h;have n:b≠a:=fun z=>U (z▸p);exact#[b,xs,R,U,by rw[L2.aJ n];exact I,Y,ae.upd ha m p O]
 | .dT ks ds,v,h=>by
  k_ne;obtain⟨b,xs,R,U,I,Y,O⟩:=h;have n:b≠a:=fun z=>U (z▸p);exact#[b,xs,R,U,by rw[L2.aJ n];exact I,Y,ae.upd ha m p O]
 | .scr ds,v,h=>by
  k_ne;obtain⟨b,xs,R,I,O⟩:=h;refine#[b,xs,R,?_,ae.upd ha m p O];rcases I with⟨q,I⟩ | I
  ·k_asm;exact .inl #[q,by rw[L2.aJ n];exact I]
  ·exact .inr I
 | .obj,v,h=>by rw[Rep]at h ⊢;exact h
 | .exc c,v,h=>by
  k_ne;refine h.keep fun b ob u q=>?_;have n:b≠a:=mI q ha (by rcases m with⟨z,rfl⟩ | ⟨z,rfl⟩ | ⟨z,rfl⟩<;>(intro q;cases q));rw[L2.aJ n];exact q
 | .fT ks ds,v,h=>by
  k_ne;obtain⟨b,ob,xs,R,I,Y,O⟩:=h;k_asm;exact#[b,ob,xs,R,by rw[L2.aJ n];exact I,Y,ae.upd ha m p O]
 | .fL ds,v,h=>by
  k_ne;obtain⟨b,ob,xs,R,I,O⟩:=h;k_asm;exact#[b,ob,xs,R,by rw[L2.aJ n];exact I,ae.upd ha m p O]
theorem ae.upd{P:Addr->Prop}{K:W.Frag}{H:Hp}{a:Addr}{o o':HO}(ha:H a=some o)(m:d6 o)(p:P a):∀ {ds:List RL.D} {xs:List V},ae P K H ds xs->ae P K (upd H a o') ds xs
 | [],xs,h=>by rw[ae]at h ⊢;exact h
 | d::r,xs,h=>by
  rw[ae]at h ⊢;obtain⟨x,t,R,O,I⟩:=h;exact#[x,t,R,Rep.upd ha m p O,ae.upd ha m p I]
end
section lists
variable{K:W.Frag}
def ae.nil:ae P K H [] []:=by rw[ae]
def ae.cons{d:RL.D}{ds:List RL.D}{x:V}{xs:List V}(h:Rep P K H d x)(t:ae P K H ds xs):ae P K H (d::ds) (x::xs):=by rw[ae];exact#[x,xs,rfl,h,t]
def ae.length:∀ {ds:List RL.D} {xs:List V},ae P K H ds xs->ds.length=xs.length
 | [],xs,h=>by rw[ae]at h;rw[h];rfl
 | d::r,xs,h=>by
  obtain⟨x,t,rfl,_,I⟩:=h;rw[length_cons,length_cons,ae.length I]
def ae.append:∀ {ds es:List RL.D} {xs ys:List V},ae P K H ds xs->ae P K H es ys->ae P K H (ds++es) (xs++ys)
 | [],_,xs,_,h,k=>by rw[ae]at h;rw[h];exact k
 | d::r,_,xs,_,h,k=>by
  obtain⟨x,t,rfl,O,I⟩:=h;exact ae.cons O (ae.append I k)
def ae.get:∀ {ds:List RL.D} {xs:List V} {i:Nat} {d:RL.D},ae P K H ds xs->ds[i]?=some d->∃ x,xs[i]?=some x/\Rep P K H d x
 | [],_,i,d,_,e=>by simp at e
 | d::r,xs,0,d',h,e=>by
  obtain⟨x,t,rfl,U,_⟩:=h;simp at e;subst e;exact#[x,rfl,U]
 | d::r,xs,i+1,d',h,e=>by
  obtain⟨x,t,rfl,_,R⟩:=h;obtain⟨y,O,I⟩:=ae.get R (by simpa using e);exact#[y,by simpa using O,I]
def ae.set:∀ {ds:List RL.D} {xs:List V} (i:Nat) {d:RL.D} {x:V},ae P K H ds xs->Rep P K H d x->ae P K H (ds.set i d) (xs.set i x)
 | [],xs,_,_,_,h,_=>by rw[ae]at h;rw[h];exact ae.nil
 | d::r,xs,0,_,_,h,k=>by
  obtain⟨x,t,rfl,_,I⟩:=h;exact ae.cons k I
 | d::r,xs,i+1,_,_,h,k=>by
  obtain⟨x,t,rfl,O,I⟩:=h;exact ae.cons O (ae.set i I k)
def ae.take:∀ {ds:List RL.D} {xs:List V} (n:Nat),ae P K H ds xs->ae P K H (ds.take n) (xs.take n)
 | _,_,0,_=>by simpa using ae.nil
 | [],xs,n+1,h=>by rw[ae]at h;rw[h];simpa using ae.nil
 | d::r,xs,n+1,h=>by
  obtain⟨x,t,rfl,O,I⟩:=h;exact ae.cons O (ae.take n I)
def ae.rep(h:ae P K H ds xs):∀ n:Nat,ae P K H (replicate n ds).flatten (replicate n xs).flatten
 | 0=>ae.nil
 | n+1=>by
  exact ae.append h (ae.rep h n)
end lists
abbrev RV0(K:W.Frag)(I:RL.St)(J:L2.St)(H:Hp):Prop:=I.length<=J.length/\∀ (i:Nat) (d:RL.D),I[i]?=some (some d)->∃ v,J[i]?=some (some v)/\Rep nP K H d v
def RV0.same{K:W.Frag}(h:RV0 K QL J H)(e:aw H H'):RV0 K QL J H':=⟨h.1,fun i d q=>by
 obtain⟨v,O,I⟩:=h.2 i d q
 exact#[v,O,I.same e]⟩
abbrev nU:RL.D->Bool
 | .lst _=>true
 | .dK _ _=>true
 | .dT _ _=>true
 | _=>false
structure Res(K:W.Frag)(QL:RL.St)(J:L2.St)(H:Hp)(e:RL.E)(d:RL.D)(v:V)(H':Hp):Prop where
 same:aw H H'
 rep:Rep nP K H' d v
 fresh:RL.aM e=true->nU d=true->∀ a,v=.ref a->H a=none
 av:∀ M,RL.avE M e=true->∀ P:Addr->Prop,(∀ a,P a->H a≠none)->(∀ (j:Nat) (dj:RL.D) (vj:V),M.contains j=false->QL[j]?=some (some dj)->J[j]?=some (some vj)->Rep P K H dj vj)->Rep P K H' d v
abbrev tE(K:W.Frag)(cl:RL.Cl)(e:RL.E):TE:=fun J H Q=>∃ I d,RV0 K I J H/\RL.ev cl I e=some d/\∀ v H',Res K I J H e d v H'->Q v H'
abbrev SE(X:Cx)(cl:RL.Cl)(e:Expr)(e':RL.E):Prop:=PE X e (tE X.K cl e')
def PE.weak(h:PE X e t)(w:∀ J H Q,t' J H Q->t J H Q):PE X e t':=fun pins s J H Q I q=>h pins s J H Q I (w J H Q q)
abbrev tEs(K:W.Frag)(cl:RL.Cl)(es:RL.Es):TA:=fun J H Q=>∃ I ds,RV0 K I J H/\RL.evs cl I es=some ds/\∀ vs H',aw H H'->ae nP K H' ds vs->Q vs H'
abbrev SEs(X:Cx)(cl:RL.Cl)(es:List Expr)(I:RL.Es):Prop:=PA X es (tEs X.K cl I)
section rules
variable{X:Cx}
def two{I:RL.St}{J:L2.St}{H:Hp}{x y:RL.D}{R:V->V->Hp->Prop}(Z:RV0 X.K I J H)(b:RL.ev cl I a'=some x)(a:RL.ev cl I b'=some y)
 (k:∀ v u O H2,aw H O->aw O H2->Rep nP X.K H2 x v->Rep nP X.K H2 y u->Res X.K I J H a' x v O->Res X.K I J O b' y u H2->R v u H2) :
  tE X.K cl a' J H fun v O=>tE X.K cl b' J O fun u H2=>R v u H2 :=
 ⟨I,x,Z,b,fun v O Y=>#[I,y,Z.same Y.same,a,fun u H2 U=>k v u O H2 Y.same U.same (Y.rep.same U.same) U.rep Y U]⟩
def bind_some(h:o.bind f=some y):∃ x,o=some x/\f x=some y:=by
 cases o with
 | none=>cases h
 | some x=>exact#[x,rfl,h]
def map_some(h:o.map f=some y):∃ x,o=some x/\f x=y:=by
 cases o with
 | none=>cases h
 | some x=>exact#[x,rfl,Option.some.inj h]
def cD:RL.most<=sizeLine:=by decide
def aw.bU(hn:H p=none):aw H (upd H p o):=fun b u e=>by rw[aJ (aP e hn)];exact e
def Hr(a:X.N[i]?=some x)(Z:Vis X.env.scope x)(hd:(x == ("__debug__" : Str))=false)(U:(x == ("__classdict__" : Str))=false):SE X cl (.Name x pos) (.var i):=by
 refine PE.weak (jh a Z hd U) fun J H Q h=>?_;obtain⟨R,d,Y,e,k⟩:=h
 have e':R[i]?=some (some d):=by
  obtain⟨o,O,I⟩:=bind_some e
  cases o with
  | none=>cases I
  | some z=>cases I;exact O
 obtain⟨v,O,I⟩:=Y.2 i d e';refine⟨v,O,k v H ⟨aw.refl H,I,fun z=>(by cases z),fun M z P b av=>?_⟩⟩;rw[RL.xV]at z;exact av i d v (by simpa using z) e' O
def oH(h:PE X (.Constant k j pos) (tC v))(r:∀ P H,Rep P X.K H d v)(hm:nU d=false):SE X cl (.Constant k j pos) (.cst d):=by
 refine PE.weak h fun J H Q q=>?_;obtain⟨I,R,O,e,k⟩:=q;cases e;exact k v H ⟨aw.refl H,r _ _,fun z=>(by cases z),fun M z=>nomatch (show false=true from z)⟩
def HB{x:Str}{i:Int}{u:Value}(h:PE X (.Name x pos) (tC (.int i))):SE X cl (.Name x pos) (.glb x i):=by
 refine PE.weak h fun J H Q q=>?_;obtain⟨I,R,O,e,k⟩:=q;cases e;exact k _ H ⟨aw.refl H,(by rw[Rep]),fun z=>(by cases z),fun M z=>nomatch (show false=true from z)⟩
end rules
section rules
variable{X:Cx}
def cS(sm:aw H H')(r:Rep nP X.K H' d v)(I:d.imm=true):Res X.K QL J H e d v H' where
 same:=sm
 rep:=r
 fresh:=fun _ m=>by
  cases d with
  | lst _=>cases I
  | dK _ _=>cases I
  | dT _ _=>cases I
  | _=>cases m
 av:=fun M _ P _ _=>r.imm I
def CF:OpR X (binaryOp .FloorDiv) (rI (fun _ j=>0<j/\j<2 ^ 200) fun i j=>.int (i / j)):=opI fun i j _ _ _ _ _ R q=>by
 refine floordiv_int ⋯ ?_ (.inl (PyProof.noPylong_of_log2 ?_))
 ·rw[Int.fdiv_eq_ediv_of_nonneg _ ⋯];exact q
 ·have O:j.natAbs≠0:=by lia
  have I:j.natAbs<2 ^ 200:=by
   omega
  have U:j.natAbs.log2<200:=(Nat.log2_lt O).mpr I;lia
def iH(sm:aw H H1)(hn:H1 p=none)(r:ae nP X.K H1 ds xs)(I:∀ M,RL.avE M e=false):Res X.K QL J H e (.lst ds) (.ref p) (upd H1 p (.lst xs)) where
 same:=sm.trans (aw.bU hn)
 rep:=by
  exact#[p,xs,rfl,fun z=>z,aV,r.same (aw.bU hn)]
 fresh:=fun _ _ a z=>by
  cases z;exact sm.free hn
 av:=fun M z=>by rw[I M]at z;cases z
def gF(sm:aw H H1)(hn:H1 p=none)(r:ae nP X.K H1 ds xs)(I:∀ M,RL.avE M e=false):Res X.K QL J H e (.tup ds) (.ref p) (upd H1 p (.tup xs)) where
 same:=sm.trans (aw.bU hn)
 rep:=by
  exact#[p,xs,rfl,aV,r.same (aw.bU hn)]
 fresh:=fun _ m=>by cases m
 av:=fun M z=>by rw[I M]at z;cases z
abbrev uc:RL.Bop->Operator
 | .add=>.Add
 | .sub=>.Sub
 | .mul=>.Mult
 | .fdiv=>.FloorDiv
 | .mod=>.Mod
 | .pow=>.Pow
def bg{P:Addr->Prop}{K:W.Frag}:Rep P K H (.int i) (.int i):=by rw[Rep]
def uo{P:Addr->Prop}{K:W.Frag}:Rep P K H (.bl i) (.bl i):=by rw[Rep]
def iQ{P:Addr->Prop}{K:W.Frag}:Rep P K H (.str i) (.str i):=by rw[Rep]
def ag{P:Addr->Prop}{K:W.Frag}(h:Rep P K H (.int i) v):v=.int i:=by rw[Rep]at h;exact h
def br{P:Addr->Prop}{K:W.Frag}(h:Rep P K H (.bl i) v):v=.bl i:=by rw[Rep]at h;exact h
def aQ{P:Addr->Prop}{K:W.Frag}(h:Rep P K H (.str i) v):v=.str i:=by rw[Rep]at h;exact h
abbrev oI(X:Cx)(o:RL.Bop)(r:R2):Prop :=
 ∀ (I:RL.St) (J:L2.St) (H H2:Hp) (e:RL.E) (x y d:RL.D) (v u:V) (Q:VK),aw H H2->Rep nP X.K H2 x v->Rep nP X.K H2 y u->RL.aF o x y=some d->(∀ M,RL.avE M e=false) ->
  (∀ w H',Res X.K I J H e d w H'->Q w H')->r v u H2 Q
def iN(Y:OpR X (binaryOp (uc o)) r)(ok:oI X o r)(ha:SE X cl a a')(hb:SE X cl b b'):SE X cl (.BinOp a (uc o) b pos) (.bin o a' b'):=by
 refine PE.weak (KN Y ha hb) fun J H Q h=>?_;obtain⟨I,d,U,e,k⟩:=h;obtain⟨x,c,e⟩:=bind_some e;obtain⟨y,Z,e⟩:=bind_some e;refine two U c Z fun v u f H2 s1 s2 R O _ _=>?_;exact ok I J H H2 _ x y d v u Q (s1.trans s2) R O e (fun _=>rfl) k
end rules
section rules
variable{X:Cx}{cl:RL.Cl}{a b c:Expr}{a' b' c':RL.E}{pos:Pos}
def cU{α:Type}{c:Prop} [Decidable c]{a d:α}(h:(if c then some a else none)=some d):c/\d=a:=by
 by_cases I:c
 ·rw[if_pos I]at h;exact#[I,(Option.some.inj h).symm]
 ·rw[if_neg I]at h;cases h
def noN{α:Type}{o:Option α}{d:α}{p:Prop}(e:o=none)(h:o=some d):p:=by rw[e]at h;cases h
def BP{x y d:RL.D}(h:RL.aF .add x y=some d):(∃ i j,x=.int i/\y=.int j/\d=.int (i+j))\/(∃ i j:Str,x=.str i/\y=.str j/\i.length+j.length<=RL.most/\d=.str (i++j)) \/
  (∃ i j,x=.lst i/\y=.lst j/\i.length+j.length<=RL.most/\d=.lst (i++j)) \/
  (∃ i j,x=.tup i/\y=.tup j/\(i.length+j.length<=RL.most/\0<i.length)/\d=.tup (i++j)):=by
 cases x with
 | int i=>cases y with
  | int j=>cases h;exact .inl #[i,j,rfl,rfl,rfl]
  | _=>exact noN rfl h
 | str i=>cases y with
  |str j=>
   obtain⟨I,e⟩:=cU h;exact .inr (.inl #[i,j,rfl,rfl,I,e])
  | _=>exact noN rfl h
 | lst i=>cases y with
  |lst j=>
   obtain⟨I,e⟩:=cU h;exact .inr (.inr (.inl #[i,j,rfl,rfl,I,e]))
  | _=>exact noN rfl h
 | tup i=>cases y with
  |tup j=>
   obtain⟨I,e⟩:=cU h;exact .inr (.inr (.inr #[i,j,rfl,rfl,I,e]))
  | _=>exact noN rfl h
 | _=>exact noN rfl h
def CA{x y d:RL.D}(h:RL.aF .mul x y=some d):(∃ i j,x=.int i/\y=.int j/\xM i j/\d=.int (i*j)) \/
  (∃ i j,x=.lst i/\y=.int j/\(0<=j/\j<=RL.most/\i.length*j.toNat<=RL.most)/\d=.lst (replicate j.toNat i).flatten):=by
 cases x with
 | int i=>cases y with
  |int j=>
   obtain⟨I,e⟩:=cU h;exact .inl #[i,j,rfl,rfl,I,e]
  | _=>exact noN rfl h
 | lst i=>cases y with
  |int j=>
   obtain⟨I,e⟩:=cU h;exact .inr #[i,j,rfl,rfl,I,e]
  | _=>exact noN rfl h
 | _=>exact noN rfl h
def jG{o:RL.Bop}{x y d:RL.D}(h:RL.aF o x y=some d)(I:o≠.add)(hm:o≠.mul):∃ i j,x=.int i/\y=.int j/\RL.aF o (.int i) (.int j)=some d:=by
 have no:∀ {a b:RL.D},RL.aF .sub a b=none->RL.aF .fdiv a b=none->RL.aF .mod a b=none->RL.aF .pow a b=none->RL.aF o a b=some d->False:=fun Y U R O h=>by
  cases o with
  | add=>exact I rfl
  | mul=>exact hm rfl
  | sub=>rw[Y]at h;cases h
  | fdiv=>rw[U]at h;cases h
  | mod=>rw[R]at h;cases h
  | pow=>rw[O]at h;cases h
 cases x with
 | int i=>cases y with
  | int j=>exact#[i,j,rfl,rfl,h]
  | _=>exact(no rfl rfl rfl rfl h).elim
 | _=>exact(no rfl rfl rfl rfl h).elim
def BE{x y d:RL.D}(h:RL.aF .sub x y=some d):∃ i j,x=.int i/\y=.int j/\d=.int (i-j):=by
 obtain⟨i,j,O,I,h⟩:=jG h ∅ ∅;cases h;exact#[i,j,O,I,rfl]
def zh{x y d:RL.D}(h:RL.aF .fdiv x y=some d):∃ i j,x=.int i/\y=.int j/\(0<j/\j<2 ^ 200)/\d=.int (i / j):=by
 obtain⟨i,j,R,O,h⟩:=jG h ∅ ∅;obtain⟨I,e⟩:=cU h;exact#[i,j,R,O,I,e]
def Cg{x y d:RL.D}(h:RL.aF .mod x y=some d):∃ i j,x=.int i/\y=.int j/\0<j/\d=.int (i%j):=by
 obtain⟨i,j,R,O,h⟩:=jG h ∅ ∅;obtain⟨I,e⟩:=cU h;exact#[i,j,R,O,I,e]
def Ct{x y d:RL.D}(h:RL.aF .pow x y=some d):∃ i j,x=.int i/\y=.int j/\(0<=j/\j<=1000/\i.natAbs<2 ^ 64)/\d=.int (i ^ j.toNat):=by
 obtain⟨i,j,R,O,h⟩:=jG h ∅ ∅;obtain⟨I,e⟩:=cU h;exact#[i,j,R,O,I,e]
def aW{P:Addr->Prop}{K:W.Frag}{H:Hp}{ds:List RL.D}{v:V}(h:Rep P K H (.lst ds) v):∃ a xs,v=.ref a/\¬ P a/\H a=some (.lst xs)/\ae P K H ds xs:=by rw[Rep]at h;exact h
def bG{P:Addr->Prop}{K:W.Frag}{H:Hp}{ds:List RL.D}{v:V}(h:Rep P K H (.tup ds) v):∃ a xs,v=.ref a/\H a=some (.tup xs)/\ae P K H ds xs:=by rw[Rep]at h;exact h
def IH:oI X .sub (rI0 fun i j=>.int (i-j)):=by
 intro I J H H2 e x y d v u Q sm R O h U k;obtain⟨i,j,rfl,rfl,rfl⟩:=BE h;exact#[i,j,ag R,ag O,k _ _ (cS sm bg rfl)]
def Fi:oI X .fdiv (rI (fun _ j=>0<j/\j<2 ^ 200) fun i j=>.int (i / j)):=by
 intro I J H H2 e x y d v u Q sm R O h Y k;obtain⟨i,j,rfl,rfl,U,rfl⟩:=zh h;exact#[i,j,ag R,ag O,U,k _ _ (cS sm bg rfl)]
def FC:oI X .mod (rI (fun _ j=>0<j) fun i j=>.int (i%j)):=by
 intro I J H H2 e x y d v u Q sm R O h Y k;obtain⟨i,j,rfl,rfl,U,rfl⟩:=Cg h;exact#[i,j,ag R,ag O,U,k _ _ (cS sm bg rfl)]
def HJ:oI X .pow (rI Gm fun i j=>.int (i ^ j.toNat)):=by
 intro O J H H2 e x y d v u Q sm U R h Y k;obtain⟨i,j,rfl,rfl,I,rfl⟩:=Ct h;exact#[i,j,ag U,ag R,#[I.1,Int.le_trans I.2.1 ∅,I.2.2],k _ _ (cS sm bg rfl)]
def Hz(ha:SE X cl a a')(hb:SE X cl b b'):SE X cl (.BinOp a .Add b pos) (.bin .add a' b'):=by
 refine iN (J8.or (yw.or (IG.or DV))) ?_ ha hb;intro o J H H2 e x y d v u Q sm U Z h I k
 rcases BP h with⟨i,j,rfl,rfl,rfl⟩ | ⟨i,j,rfl,rfl,Y,rfl⟩ | ⟨i,j,rfl,rfl,Y,rfl⟩ | ⟨i,j,rfl,rfl,⟨Y,ha⟩,rfl⟩
 ·exact .inl #[i,j,ag U,ag Z,k _ _ (cS sm bg rfl)]
 ·exact .inr (.inl #[i,j,aQ U,aQ Z,Qn Y cD,k _ _ (cS sm iQ rfl)])
 ·obtain⟨p,xs,c,_,n,R⟩:=aW U;obtain⟨q,ys,g,_,f,O⟩:=aW Z;refine .inr (.inr (.inl #[p,q,xs,ys,c,g,n,f,?_,fun l hl=>k _ _ (iH sm hl (R.append O) I)]));rw[<-R.length,<-O.length];exact Qn Y cD
 ·obtain⟨p,xs,c,n,R⟩:=bG U;obtain⟨q,ys,g,f,O⟩:=bG Z;refine .inr (.inr (.inr #[p,q,xs,ys,c,g,SqT.of n,SqT.of f,fun z=>?_,?_,fun z=>?_,fun _ l hl=>k _ _ (gF sm hl (R.append O) I)]))
  ·rw[R.length,z]at ha;exact absurd ha ∅
  ·rw[<-R.length,<-O.length];exact Qn Y cD
  ·have r:j=[]:=by
    have:=O.length;rw[z]at this;exact List.length_eq_zero_iff.mp this
   subst r;rw[QA]at k;exact k _ _ ⟨sm,c▸U,fun _ m=>(by cases m),fun M z=>by rw[I M]at z;cases z⟩
def IW(ha:SE X cl a a')(hb:SE X cl b b'):SE X cl (.BinOp a .Mult b pos) (.bin .mul a' b'):=by
 refine iN (GA.or Hv) ?_ ha hb;intro Z J H H2 e x y d v u Q sm U R h O k
 rcases CA h with⟨i,j,rfl,rfl,I,rfl⟩ | ⟨i,j,rfl,rfl,I,rfl⟩
 ·exact .inl #[i,j,ag U,ag R,I,k _ _ (cS sm bg rfl)]
 ·obtain⟨p,xs,f,_,c,Y⟩:=aW U;refine .inr #[p,j,xs,f,ag R,c,?_,?_,?_,fun l hl=>k _ _ (iH sm hl (Y.rep _) O)]
  ·exact Int.le_trans ∅ I.1
  ·exact Int.lt_of_le_of_lt I.2.1 ∅
  ·rw[<-Y.length];exact Qn I.2.2 cD
def Ig{o:RL.Bop}(ha:SE X cl a a')(hb:SE X cl b b'):SE X cl (.BinOp a (uc o) b pos) (.bin o a' b'):=by
 cases o with
 | add=>exact Hz ha hb
 | mul=>exact IW ha hb
 | sub=>exact iN Jr IH ha hb
 | fdiv=>exact iN CF Fi ha hb
 | mod=>exact iN FX FC ha hb
 | pow=>exact iN HD HJ ha hb
def dR{I:RL.St}{J:L2.St}{H H':Hp}{e:RL.E}{k:Bool}(sm:aw H H'):Res X.K I J H e (.bl k) (.bl k) H':=cS sm uo rfl
def G8{rest:List Expr}(ha:SE X cl a a')(hb:SE X cl (.BoolOp .And (b::rest) pos) b'):SE X cl (.BoolOp .And (a::b::rest) pos) (.and a' b'):=by
 refine PE.weak (Gj ha hb) fun J H Q h=>?_;obtain⟨I,d,R,e,k⟩:=h;obtain⟨x,Y,e⟩:=bind_some e;refine#[I,x,R,Y,fun v Z O=>?_]
 cases x with
 |bl t=>
  refine#[t,br O.rep,?_]
  cases t with
  |true=>
   refine fW ?_;refine#[I,d,R.same O.same,e,fun w H2 U=>k w H2 ?_];exact⟨O.same.trans U.same,U.rep,fun z=>(by cases z),fun M z=>nomatch (show false=true from z)⟩
  |false=>
   refine gC ?_;cases e;exact k _ _ (dR O.same)
 | _=>cases e
def JT{rest:List Expr}(ha:SE X cl a a')(hb:SE X cl (.BoolOp .Or (b::rest) pos) b'):SE X cl (.BoolOp .Or (a::b::rest) pos) (.or a' b'):=by
 refine PE.weak (Kg ha hb) fun J H Q h=>?_;obtain⟨I,d,R,e,k⟩:=h;obtain⟨x,Y,e⟩:=bind_some e;refine#[I,x,R,Y,fun v Z O=>?_]
 cases x with
 |bl t=>
  refine#[t,br O.rep,?_]
  cases t with
  |false=>
   refine gC ?_;refine#[I,d,R.same O.same,e,fun w H2 U=>k w H2 ?_];exact⟨O.same.trans U.same,U.rep,fun z=>(by cases z),fun M z=>nomatch (show false=true from z)⟩
  |true=>
   refine fW ?_;cases e;exact k _ _ (dR O.same)
 | _=>cases e
def yG{op}(ha:SE X cl a a'):SE X cl (.BoolOp op [a] pos) a':=FQ ha
abbrev tT(K:W.Frag)(cl:RL.Cl)(e:RL.E):TT:=fun J H Q=>∃ I k,RV0 K I J H/\(RL.ev cl I e).bind RL.truth=some k/\∀ H',aw H H'->Q k H'
abbrev ST(X:Cx)(cl:RL.Cl)(e:Expr)(e':RL.E):Prop:=PT X e (tT X.K cl e')
abbrev SW(X:Cx)(cl:RL.Cl)(e:Expr)(e':RL.E):Prop:=PW X e (tT X.K cl e')
def PT.weak{e:Expr}{t t':TT}(h:PT X e t)(w:∀ J H Q,t' J H Q->t J H Q):PT X e t':=fun pins s J H Q I q=>h pins s J H Q I (w J H Q q)
def PW.weak{e:Expr}{t t':TT}(h:PW X e t)(w:∀ J H Q,t' J H Q->t J H Q):PW X e t':=fun O pins s J H Q I q=>h O pins s J H Q I (w J H Q q)
def ae.isEmpty{P:Addr->Prop}{K:W.Frag}{H:Hp}{ds:List RL.D}{xs:List V}(h:ae P K H ds xs):ds.isEmpty=xs.isEmpty:=by
 cases ds with
 | nil=>rw[ae]at h;rw[h];rfl
 |cons d r=>
  obtain⟨x,t,rfl,_⟩:=h;rfl
def Gv{K:W.Frag}{H:Hp}{d:RL.D}{v:V}{k:Bool}(r:Rep nP K H d v)(h:RL.truth d=some k):xh K v H k:=by
 cases d<;>simp only[RL.truth]at h<;>first | (cases h;done) | skip
 case bl t=>cases h;rw[br r];exact rfl
 case int t =>
  cases h;rw[ag r];simp[xh]
 case tup ds =>
  obtain⟨a,xs,rfl,e,I⟩:=bG r;cases h;exact .inr (.inl #[xs,SqT.of e,by rw[I.isEmpty]])
 case lst ds =>
  obtain⟨a,xs,rfl,_,e,I⟩:=aW r;cases h;exact .inl #[xs,SqL.of e,by rw[I.isEmpty]]
def C6(ha:SE X cl a a')(U:∀ whole,isTrue a X.env whole=(do let v <- whole;standAt a.pos;holding [v] (truthy v))):ST X cl a a':=by
 refine PT.weak (Bn ha U) fun J H Q h=>?_;obtain⟨I,k,R,e,q⟩:=h;obtain⟨d,Z,Y⟩:=bind_some e;exact#[I,d,R,Z,fun v b O=>#[k,Gv O.rep Y,q b O.same]]
def zF{I:BoolOp}(ha:ST X cl a a'):SW X cl (.BoolOp I [a] pos) a':=by
 cases I with
 | And=>exact DJ ha
 | Or=>exact GG ha
def yU{I:RL.St}{k:Bool}(h:(RL.ev cl I (.and a' b')).bind RL.truth=some k):∃ t,(RL.ev cl I a').bind RL.truth=some t/\(if t=true then(RL.ev cl I b').bind RL.truth=some k else k=false):=by
 rw[RL.p6]at h
 cases ea:RL.ev cl I a' with
 | none=>rw[ea]at h;cases h
 |some x=>
  rw[ea]at h
  cases x with
  |bl t=>
   cases t with
   | true=>exact#[true,rfl,fW h]
   | false=>exact⟨false,rfl,gC (by cases h;rfl)⟩
  | _=>exact noN rfl h
def Cw{I:RL.St}{k:Bool}(h:(RL.ev cl I (.or a' b')).bind RL.truth=some k):∃ t,(RL.ev cl I a').bind RL.truth=some t/\(if t=true then k=true else(RL.ev cl I b').bind RL.truth=some k):=by
 rw[RL.yu]at h
 cases ea:RL.ev cl I a' with
 | none=>rw[ea]at h;cases h
 |some x=>
  rw[ea]at h
  cases x with
  |bl t=>
   cases t with
   | true=>exact⟨true,rfl,fW (by cases h;rfl)⟩
   | false=>exact#[false,rfl,gC h]
  | _=>exact noN rfl h
def Jq{rest:List Expr}(ha:ST X cl a a')(hb:SW X cl (.BoolOp .And (b::rest) pos) b'):SW X cl (.BoolOp .And (a::b::rest) pos) (.and a' b'):=by
 refine PW.weak (Hc ha hb) fun J H Q h=>?_;obtain⟨I,k,R,e,q⟩:=h;obtain⟨t,U,O⟩:=yU e;refine#[I,t,R,U,fun Y s1=>?_]
 cases t with
 | true=>exact fW ⟨I,k,R.same s1,O,fun H2 s2=>q H2 (s1.trans s2)⟩
 |false=>
  have O:=O;subst O;exact gC (q Y s1)
def JY{rest:List Expr}(ha:ST X cl a a')(hb:SW X cl (.BoolOp .Or (b::rest) pos) b'):SW X cl (.BoolOp .Or (a::b::rest) pos) (.or a' b'):=by
 refine PW.weak (Kv ha hb) fun J H Q h=>?_;obtain⟨I,k,R,e,q⟩:=h;obtain⟨t,U,O⟩:=Cw e;refine#[I,t,R,U,fun Y s1=>?_]
 cases t with
 |true=>
  have O:=O;subst O;exact fW (q Y s1)
 | false=>exact gC ⟨I,k,R.same s1,O,fun H2 s2=>q H2 (s1.trans s2)⟩
def G4(ha:ST X cl a a'):ST X cl (.UnaryOp .Not a pos) (.not a'):=by
 refine PT.weak (Gf ha) fun J H Q h=>?_;obtain⟨I,k,O,e,q⟩:=h;obtain⟨d,Z,Y⟩:=bind_some e;obtain⟨t,U,R⟩:=map_some Z;subst R;cases Y;exact#[I,t,O,U,fun b s1=>q b s1]
def Gq(k:ST X cl c c')(ha:SE X cl a a')(hb:SE X cl b b'):SE X cl (.IfExp c a b pos) (.ifx c' a' b'):=by
 refine PE.weak (AZ k ha hb) fun J H Q h=>?_;obtain⟨I,d,R,e,q⟩:=h;obtain⟨t,l,i⟩:=bind_some e;refine#[I,t,R,l,fun m s1=>?_]
 cases t with
 |true=>
  refine fW ⟨I,d,R.same s1,i,fun v H2 O=>q v H2 ⟨s1.trans O.same,O.rep,fun z=>(by cases z),fun M z P Y av=>?_⟩⟩;have z:(RL.avE M a'&&RL.avE M b')=true:=z;rw[and_eq_true]at z;exact O.av M z.1 P (fun a p=>(Option.ne_none_iff_exists'.mpr (by obtain⟨o,U⟩:=Option.ne_none_iff_exists'.mp (Y a p);exact#[o,s1 _ _ U]))) fun j dj vj g f Z=>(av j dj vj g f Z).same s1
 |false=>
  refine gC ⟨I,d,R.same s1,i,fun v H2 O=>q v H2 ⟨s1.trans O.same,O.rep,fun z=>(by cases z),fun M z P Y av=>?_⟩⟩;have z:(RL.avE M a'&&RL.avE M b')=true:=z;rw[and_eq_true]at z;exact O.av M z.2 P (fun a p=>(Option.ne_none_iff_exists'.mpr (by obtain⟨o,U⟩:=Option.ne_none_iff_exists'.mp (Y a p);exact#[o,s1 _ _ U]))) fun j dj vj g f Z=>(av j dj vj g f Z).same s1
end rules
section rules
variable{X:Cx}
def Hl(ha:SE X cl a a'):SE X cl (.UnaryOp .Not a pos) (.not a'):=by
 lk;obtain⟨U,d,Y,e,k⟩:=h;obtain⟨t,j,i⟩:=map_some e;obtain⟨x,g,f⟩:=bind_some j;subst i;refine UnaryOp_ (thn (ha pins s J H (fun v O=>aw H O/\Rep nP X.K O x v) I ⟨U,x,Y,g,fun v O R=>#[R.same,R.rep]⟩) fun v s1 ⟨y,O,m,R,sm,rp⟩=>?_);refine not_of (thn (yC pins s1 J O y v (fun k H2=>k=t/\H2=O) m R ⟨t,Gv rp f,rfl,rfl⟩) fun c s2 ⟨H2,l,b,Z⟩=>?_);subst b;subst Z;exact#[.bl (!c),H2,l,rfl,k _ _ (dR sm)]
abbrev noStar:Expr->Bool
 | .Starred _ _=>false
 | _=>true
def ay(es:List Expr)(h:noStar e=true):starEach (e::es) X.env=(false,eval e X.env)::starEach es X.env:=by
 cases e<;>first | rfl | (cases h)
def d5:∀ {es:List Expr} {I:Pos},es.all noStar=true->(backTo I (starEach es X.env)).any (·.1)=false
 | [],_,_=>rfl
 | e::es,I,h=>by
  rw[Qx,and_eq_true]at h;rw[ay es h.1];show(false || (backTo I (starEach es X.env)).any (·.1))=false;rw[d5 h.2];rfl
def da:SEs X cl [] .nil:=by
 intro O pins s J H Q I h;obtain⟨R,ds,U,e,k⟩:=h;cases e;exact cT O pins s J H Q I (k [] H (aw.refl H) ae.nil)
def bP(b:SE X cl e e')(a:SEs X cl es es')(hn:noStar e=true):SEs X cl (e::es) (.cons e' es'):=by
 intro U pins s J H Q I h;refine bz b a (ay es hn) U pins s J H Q I ?_;obtain⟨O,ds,Y,e,k⟩:=h;obtain⟨d,i,g⟩:=bind_some e;obtain⟨r,f,c⟩:=map_some g;subst c;refine#[O,d,Y,i,fun v j R=>#[O,r,Y.same R.same,f,fun vs H2 s2 Z=>k (v::vs) H2 (R.same.trans s2) (ae.cons (R.rep.same s2) Z)]]
abbrev fq:RL.Es->Nat
 | .nil=>0
 | .cons _ r=>fq r+1
def nV:∀ {es:RL.Es} {ds:List RL.D},RL.evs cl QL es=some ds->ds.length=fq es
 | .nil,ds,h=>by rw[RL.evs]at h;cases h;rfl
 | .cons e r,ds,h=>by
  obtain⟨d,U,R⟩:=bind_some h;obtain⟨t,O,I⟩:=map_some R;subst I;rw[length_cons,nV O,fq]
def Hx(h:SEs X cl es es')(hl:fq es'<=1000):SE X cl (.Tuple es x1 pos) (.tup es'):=by
 refine PE.weak (FD h) fun J H Q q=>?_;obtain⟨I,d,U,e,k⟩:=q;obtain⟨ds,R,Z⟩:=map_some e;subst Z;refine#[I,ds,U,R,fun vs a s1 O=>#[?_,fun p Y=>k _ _ (gF s1 Y O fun _=>rfl)]];rw[<-O.length,nV R];exact le_of_lt (rC hl)
def GZ(h:SEs X cl es es')(hl:fq es'<=1000):SE X cl (.List es pos) (.lst es'):=by
 refine PE.weak (Iz h) fun J H Q q=>?_;obtain⟨I,d,U,e,k⟩:=q;obtain⟨ds,R,Z⟩:=map_some e;subst Z;refine#[I,ds,U,R,fun vs a s1 O=>#[?_,fun p Y=>k _ _ (iH s1 Y O fun _=>rfl)]];rw[<-O.length,nV R];exact le_of_lt (rC hl)
def mY(h:RL.cF xs i=some x):atI xs i=some x:=by
 unfold RL.cF at h;unfold atI ixN;by_cases O:0<=i
 ·rw[if_pos O]at h;rw[if_pos O];obtain⟨I,_⟩:=List.getElem?_eq_some_iff.mp h;rw[if_pos ⋯];exact h
 ·rw[if_neg O]at h;rw[if_neg O];by_cases I:-(xs.length:Int)<=i
  ·rw[if_pos I]at h;rw[if_pos I];exact h
  ·rw[if_neg I]at h;cases h
def ic{P:Addr->Prop}{K:W.Frag}(r:ae P K H ds xs)(h:RL.cF ds i=some d):∃ x,RL.cF xs i=some x/\Rep P K H d x:=by
 unfold RL.cF at h ⊢;rw[<-r.length];by_cases O:0<=i
 ·rw[if_pos O]at h ⊢;exact r.get h
 ·rw[if_neg O]at h ⊢;by_cases I:-(ds.length:Int)<=i
  ·rw[if_pos I]at h ⊢;exact r.get h
  ·rw[if_neg I]at h;cases h
abbrev nS:Expr->Bool
 | .Slice _ _ _ _=>false
 | _=>true
def wA(h:nS b=true):wK b:=by
 intro o i
 cases b<;>first | rfl | (cases h)
def B8{xs:List RL.D}{i:Int}(I:RL.au xs=true)(h:RL.cF xs i=some d):d.imm=true:=by
 have mem:d∈xs:=by
  unfold RL.cF at h;split at h
  ·exact Qs h
  ·split at h
   ·exact Qs h
   ·cases h
 clear h
 induction xs with
 | nil=>cases mem
 |cons a r O=>
  rw[RL.au,and_eq_true]at I;rcases List.mem_cons.mp mem with rfl | m
  ·exact I.1
  ·exact O I.2 m
def Ae(h:RL.ixV x y=some d):(∃ xs i,x=.lst xs/\y=.int i/\RL.cF xs i=some d)\/(∃ xs i,x=.tup xs/\y=.int i/\RL.cF xs i=some d) \/
  (∃ (z:Str) (i:Int) (c:Nat),x=.str z/\y=.int i/\z.length<=RL.most/\RL.cF z.cps.toList i=some c/\d=.str ⟨(List.toArray [c])⟩)\/(∃ xs i,x=.fL xs/\y=.int i/\RL.au xs=true/\RL.cF xs i=some d):=by
 have no:∀ {o:Option RL.D},o=none->o=some d->False:=fun e h=>by rw[e]at h;cases h
 cases x with
 | lst xs=>cases y with
  | int i=>exact .inl #[xs,i,rfl,rfl,h]
  | _=>exact(no rfl h).elim
 | tup xs=>cases y with
  | int i=>exact .inr (.inl #[xs,i,rfl,rfl,h])
  | _=>exact(no rfl h).elim
 | str z=>cases y with
  |int i=>
   by_cases I:z.length<=RL.most
   ·obtain⟨c,R,O⟩:=map_some (show(RL.cF z.cps.toList i).map (fun c=>RL.D.str ⟨(List.toArray [c])⟩)=some d from(if_pos I).symm.trans h);exact .inr (.inr (.inl #[z,i,c,rfl,rfl,I,R,O.symm]))
   ·exact(no (if_neg I) h).elim
  | _=>exact(no rfl h).elim
 | fL xs=>cases y with
  |int i=>
   by_cases I:RL.au xs=true
   ·exact .inr (.inr (.inr #[xs,i,rfl,rfl,I,(if_pos I).symm.trans h]))
   ·exact(no (if_neg I) h).elim
  | _=>exact(no rfl h).elim
 | _=>exact(no rfl h).elim
def JO(ha:SE X cl a a')(hb:SE X cl b b')(E:nS b=true):SE X cl (.Subscript a b pos) (.ix a' b'):=by
 refine PE.weak (Dl Aa ha hb (wA E)) fun J H Q h=>?_;obtain⟨l,d,t,e,k⟩:=h;obtain⟨x,QK,e⟩:=bind_some e;obtain⟨y,G,e⟩:=bind_some e;refine two t QK G fun v u L H2 s1 s2 Y j A rb=>?_
 have R:∀ (w:V),Rep nP X.K H2 d w->(∀ P:Addr->Prop,Rep P X.K H2 x v->Rep P X.K H2 d w)->Res X.K l J H (.ix a' b') d w H2:=fun w I O=>{
  same:=s1.trans s2
  rep:=I
  fresh:=fun z=>by cases z
  av:=fun M z P F av=>O P ((A.av M z P F av).same s2) }
 rcases Ae e with⟨xs,i,rfl,rfl,hd⟩ | ⟨xs,i,rfl,rfl,hd⟩ | ⟨z,i,c,rfl,rfl,D,hd,rfl⟩ | ⟨xs,i,rfl,rfl,C,hd⟩
 ·obtain⟨p,ys,rfl,_,U,g⟩:=aW Y;obtain⟨w,I,O⟩:=ic g hd;refine .inl #[p,ys,i,w,rfl,ag j,SqL.of U,mY I,k _ _ (R w O fun P rp=>?_)];obtain⟨B,m,q,_,Z,n⟩:=aW rp;cases q;rw[U]at Z;cases Z;obtain⟨s,f,r⟩:=ic n hd;rw[I]at f;cases f;exact r
 ·obtain⟨p,ys,rfl,U,g⟩:=bG Y;obtain⟨w,I,O⟩:=ic g hd;refine .inr (.inl #[p,ys,i,w,rfl,ag j,SqT.of U,mY I,k _ _ (R w O fun P rp=>?_)]);obtain⟨B,m,q,Z,n⟩:=bG rp;cases q;rw[U]at Z;cases Z;obtain⟨s,f,r⟩:=ic n hd;rw[I]at f;cases f;exact r
 ·exact .inr (.inr #[z,i,c,aQ Y,ag j,Qn D cD,mY hd,k _ _ (R _ iQ fun P _=>iQ)])
 ·rw[Rep]at Y;obtain⟨p,o,ys,rfl,U,g⟩:=Y;obtain⟨w,I,O⟩:=ic g hd;exact .inl #[p,ys,i,w,rfl,ag j,.inl (.inr #[o,U]),mY I,k _ _ (cS (s1.trans s2) O (B8 C hd))]
end rules
section rules
def iO:∀ {Y bs:List RL.D} {k:Bool},RL.eqs f Y bs=some k ->
  ∃ e:Nat->Bool,k=(List.range (min Y.length bs.length)).all e/\∀ j x y,Y[j]?=some x->bs[j]?=some y->f x y=some (e j)
 | [],bs,k,h=>by
  have h:some true=some k:=by simpa[RL.eqs]using h
  cases h;exact#[fun _=>true,by simp,fun j x y I=>by simp at I]
 | a::r,[],k,h=>by
  have h:some true=some k:=by simpa[RL.eqs]using h
  cases h;exact#[fun _=>true,by simp,fun j x y I U=>by simp at U]
 | a::r,b::s,k,h=>by
  obtain⟨i,I,U⟩:=bind_some h;obtain⟨l,g,d⟩:=map_some U;obtain⟨e,c,Z⟩:=iO g;refine⟨fun j=>match j with | 0=>i | j+1=>e j,?_,fun j x y R O=>?_⟩
  ·rw[<-d,c,length_cons,length_cons,Nat.succ_min_succ,range_succ_eq_map,Qx,all_map];rfl
  ·cases j with
   |zero=>
    simp at R O;subst R O;exact I
   | succ j=>exact Z j x y (by simpa using R) (by simpa using O)
abbrev LF(x:RL.D)(i:List RL.D):Prop:=x=.lst i\/x=.fL i
def ka{P:Addr->Prop}{K:W.Frag}{H:Hp}{v:V}(h:Rep P K H x v)(l:LF x i):∃ a xs,v=.ref a/\(H a=some (.lst xs)\/∃ o,H a=some (.frz o (.lst xs)))/\ae P K H i xs:=by
 rcases l with rfl | rfl
 ·obtain⟨a,xs,R,_,O,I⟩:=aW h;exact#[a,xs,R,.inl O,I]
 ·rw[Rep]at h;obtain⟨a,o,xs,R,O,I⟩:=h;exact#[a,xs,R,.inr #[o,O],I]
def IS{H:Hp}{xs ys:List V}(h:H a=some (.lst xs)\/∃ o,H a=some (.frz o (.lst xs)))(h':H a=some (.lst ys)\/∃ o,H a=some (.frz o (.lst ys))):xs=ys:=by
 rcases h with h | ⟨o,h⟩
 ·rcases h' with h' | ⟨o',h'⟩<;>(rw[h]at h';cases h');rfl
 ·rcases h' with h' | ⟨o',h'⟩<;>(rw[h]at h';cases h');rfl
abbrev EqC(n:Nat)(x y:RL.D)(k:Bool):Prop:=(∃ i j,x=.bl i/\y=.bl j/\(i == j)=k)\/(∃ i j,x=.int i/\y=.int j/\(i == j)=k)\/(∃ i j,x=.str i/\y=.str j/\(i == j)=k) \/
  (∃ m i j,n=m+1/\x=.tup i/\y=.tup j/\Option.map (fun k=>k&&i.length == j.length) (RL.eqs (RL.eqD m) i j)=some k)\/(∃ m i j,n=m+1/\LF x i/\LF y j/\Option.map (fun k=>k&&i.length == j.length) (RL.eqs (RL.eqD m) i j)=some k)
def ij(h:RL.eqD n x y=some k):EqC n x y k:=by
 cases n with
 | zero=>cases x with
  | bl i=>cases y with
   | bl j=>exact .inl #[i,j,rfl,rfl,Option.some.inj h]
   | _=>exact noN rfl h
  | int i=>cases y with
   | int j=>exact .inr (.inl #[i,j,rfl,rfl,Option.some.inj h])
   | _=>exact noN rfl h
  | str i=>cases y with
   | str j=>exact .inr (.inr (.inl #[i,j,rfl,rfl,Option.some.inj h]))
   | _=>exact noN rfl h
  | _=>exact noN rfl h
 | succ m=>cases x with
  | bl i=>cases y with
   | bl j=>exact .inl #[i,j,rfl,rfl,Option.some.inj h]
   | _=>exact noN rfl h
  | int i=>cases y with
   | int j=>exact .inr (.inl #[i,j,rfl,rfl,Option.some.inj h])
   | _=>exact noN rfl h
  | str i=>cases y with
   | str j=>exact .inr (.inr (.inl #[i,j,rfl,rfl,Option.some.inj h]))
   | _=>exact noN rfl h
  | tup i=>cases y with
   | tup j=>exact .inr (.inr (.inr (.inl #[m,i,j,rfl,rfl,rfl,h])))
   | _=>exact noN rfl h
  | lst i=>cases y with
   | lst j=>exact .inr (.inr (.inr (.inr #[m,i,j,rfl,.inl rfl,.inl rfl,h])))
   | fL j=>exact .inr (.inr (.inr (.inr #[m,i,j,rfl,.inl rfl,.inr rfl,h])))
   | _=>exact noN rfl h
  | fL i=>cases y with
   | lst j=>exact .inr (.inr (.inr (.inr #[m,i,j,rfl,.inr rfl,.inl rfl,h])))
   | fL j=>exact .inr (.inr (.inr (.inr #[m,i,j,rfl,.inr rfl,.inr rfl,h])))
   | _=>exact noN rfl h
  | _=>exact noN rfl h
def r8{K:W.Frag}:∀ (n:Nat) (x y:RL.D) (v:V) (k:Bool),Rep nP K H x v->Rep nP K H y v->RL.eqD n x y=some k->k=true:=by
 intro n
 induction n with
 |zero=>
  intro x y v k O I h
  rcases ij h with⟨i,j,rfl,rfl,rfl⟩ | ⟨i,j,rfl,rfl,rfl⟩ | ⟨i,j,rfl,rfl,rfl⟩ | ⟨m,i,j,hn,a,Z,h⟩ | ⟨m,i,j,hn,a,Z,h⟩
  ·have:=br O;rw[br I]at this;cases this;simp
  ·have:=ag O;rw[ag I]at this;cases this;simp
  ·have:=aQ O;rw[aQ I]at this;cases this;simp
  ·cases hn
  ·cases hn
 |succ n s=>
  intro x y v k O I h
  have seq:∀ (i j:List RL.D) (xs:List V) (k:Bool),ae nP K H i xs->ae nP K H j xs->Option.map (fun k=>k&&i.length == j.length) (RL.eqs (RL.eqD n) i j)=some k->k=true:=by
   intro i j xs k U R h;obtain⟨r,A,z⟩:=map_some h;obtain⟨e,u,t⟩:=iO A;have hl:i.length=j.length:=U.length.trans R.length.symm
   have hk:r=true:=by
    rw[u,Qu];intro m hm;rw[mem_range]at hm;obtain⟨w,o,l⟩:=U.get (i:=m) (d:=i[m]'⋯) (by simp);obtain⟨B,Y,c⟩:=R.get (i:=m) (d:=j[m]'⋯) (by simp);rw[o]at Y;cases Y;exact s _ _ w (e m) l c (t m _ _ (by simp) (by simp))
   rw[<-z,hk,hl];simp
  rcases ij h with⟨i,j,rfl,rfl,rfl⟩ | ⟨i,j,rfl,rfl,rfl⟩ | ⟨i,j,rfl,rfl,rfl⟩ | ⟨m,i,j,hn,a,Z,h⟩ | ⟨m,i,j,hn,a,Z,h⟩
  ·have:=br O;rw[br I]at this;cases this;simp
  ·have:=ag O;rw[ag I]at this;cases this;simp
  ·have:=aQ O;rw[aQ I]at this;cases this;simp
  ·cases hn;subst a;subst Z;obtain⟨p,xs,rfl,g,U⟩:=bG O;obtain⟨q,ys,f,b,R⟩:=bG I;cases f;rw[g]at b;cases b;exact seq i j xs k U R h
  ·cases hn;obtain⟨p,xs,rfl,g,U⟩:=ka O a;obtain⟨q,ys,f,b,R⟩:=ka I Z;cases f;cases IS g b;exact seq i j xs k U R h
open SeqAt in
def deep(I:Inv X pins J H s):∀ (n:Nat) (A:Around) (x y:RL.D) (v u:V) (o B:Value) (k:Bool),A.units+n<cLine->Rep nP X.K H x v->Rep nP X.K H y u->RelV v o->RelV u B ->
  RL.eqD n x y=some k->RcAt A s o B k/\EqAt A s o B k:=by
 intro n
 induction n with
 |zero=>
  intro A x y v u o B k hu b a U R h
  rcases ij h with⟨i,j,rfl,rfl,rfl⟩ | ⟨i,j,rfl,rfl,rfl⟩ | ⟨i,j,rfl,rfl,rfl⟩ | ⟨m,i,j,hn,G,F,h⟩ | ⟨m,i,j,hn,G,F,h⟩
  ·rw[br b]at U;rw[br a]at R;cases U;cases R;exact#[RcAt.bool_bool i j,EqAt.bool_bool i j]
  ·rw[ag b]at U;rw[ag a]at R;obtain⟨t,rfl⟩:=U;obtain⟨Z,rfl⟩:=R;exact#[RcAt.int_int i t j Z,EqAt.int_int i t j Z]
  ·rw[aQ b]at U;rw[aQ a]at R;obtain⟨t,rfl⟩:=U;obtain⟨Z,rfl⟩:=R;exact#[RcAt.str_str i t j Z,EqAt.str_str i t j Z]
  ·cases hn
  ·cases hn
 |succ n ih=>
  intro A x y v u o B k hu b a U R h
  rcases ij h with⟨i,j,rfl,rfl,rfl⟩ | ⟨i,j,rfl,rfl,rfl⟩ | ⟨i,j,rfl,rfl,rfl⟩ | ⟨m,i,j,hn,G,F,h⟩ | ⟨m,i,j,hn,G,F,h⟩
  ·rw[br b]at U;rw[br a]at R;cases U;cases R;exact#[RcAt.bool_bool i j,EqAt.bool_bool i j]
  ·rw[ag b]at U;rw[ag a]at R;obtain⟨t,rfl⟩:=U;obtain⟨Z,rfl⟩:=R;exact#[RcAt.int_int i t j Z,EqAt.int_int i t j Z]
  ·rw[aQ b]at U;rw[aQ a]at R;obtain⟨t,rfl⟩:=U;obtain⟨Z,rfl⟩:=R;exact#[RcAt.str_str i t j Z,EqAt.str_str i t j Z]
  ·cases hn;subst G;subst F;obtain⟨p,xs,rfl,e2,N⟩:=bG b;obtain⟨q,ys,rfl,f2,M⟩:=bG a;cases U;cases R;obtain⟨its,E,t1,z1⟩:=I.tuple (SqT.of e2);obtain⟨O,C,t2,z2⟩:=I.tuple (SqT.of f2);obtain⟨k',h1,S⟩:=map_some h;obtain⟨e,h3,h4⟩:=iO h1;have Q:i.length=its.length:=N.length.trans E.length;have P:j.length=O.length:=M.length.trans C.length
   have he:∀ m (L:m<its.toArray.size) (QK:m<O.toArray.size),EqAt A.in1 s its.toArray[m] O.toArray[m] (e m):=fun m L QK=>by
    rw[size_toArray]at L QK;obtain⟨w,w1,T⟩:=N.get (i:=m) (d:=i[m]'⋯) (by simp);obtain⟨w',f,c⟩:=M.get (i:=m) (d:=j[m]'⋯) (by simp);obtain⟨r,b1,b2⟩:=E.get w1;obtain⟨Y,l,g⟩:=C.get f
    have c1:its.toArray[m]=r:=by simpa using(List.getElem?_eq_some_iff.mp b1).2
    have c2:O.toArray[m]=Y:=by simpa using(List.getElem?_eq_some_iff.mp l).2
    rw[c1,c2];exact(ih A.in1 _ _ w w' r Y (e m) (by show A.units+1+n<cLine;lia) T c b2 g (h4 m _ _ (by simp) (by simp))).2
   have main:RcAt A s (.ref p) (.ref q) k:=by
    have z:=RcAt.tuples (e:=e) t1 t2 ⋯ he;rw[size_toArray,size_toArray,<-Q,<-P,<-h3,S]at z;exact z
   refine#[main,?_];by_cases z:p=q
   ·subst z;rw[r8 (n+1) _ _ _ k b a h];exact EqAt.same _
   ·exact EqAt.of_refs z main
  ·cases hn;obtain⟨p,xs,rfl,e2,N⟩:=ka b G;obtain⟨q,ys,rfl,f2,M⟩:=ka a F;cases U;cases R;obtain⟨its,E,t1,z1⟩:=I.list (.inl e2);obtain⟨O,C,t2,z2⟩:=I.list (.inl f2);obtain⟨k',h1,S⟩:=map_some h;obtain⟨e,h3,h4⟩:=iO h1;have Q:i.length=its.length:=N.length.trans E.length;have P:j.length=O.length:=M.length.trans C.length
   have he:∀ m (L:m<its.toArray.size) (QK:m<O.toArray.size),EqAt A.in1 s its.toArray[m] O.toArray[m] (e m):=fun m L QK=>by
    rw[size_toArray]at L QK;obtain⟨w,w1,T⟩:=N.get (i:=m) (d:=i[m]'⋯) (by simp);obtain⟨w',f,c⟩:=M.get (i:=m) (d:=j[m]'⋯) (by simp);obtain⟨r,b1,b2⟩:=E.get w1;obtain⟨Y,l,g⟩:=C.get f
    have c1:its.toArray[m]=r:=by simpa using(List.getElem?_eq_some_iff.mp b1).2
    have c2:O.toArray[m]=Y:=by simpa using(List.getElem?_eq_some_iff.mp l).2
    rw[c1,c2];exact(ih A.in1 _ _ w w' r Y (e m) (by show A.units+1+n<cLine;lia) T c b2 g (h4 m _ _ (by simp) (by simp))).2
   have main:RcAt A s (.ref p) (.ref q) k:=by
    by_cases hl:its.length=O.length
    ·have z:=RcAt.lists (e:=e) t1.isList t2.isList (by rw[size_toArray,size_toArray];exact hl) ⋯ he;rw[size_toArray]at z
     have hk:k=(List.range its.length).all e:=by
      rw[<-S,h3,Q,P,hl];simp
     rw[hk];exact z
    ·have hk:k=false:=by
      rw[<-S,Q,P];simp[hl]
     rw[hk];exact RcAt.lists_lengths t1.isList t2.isList (by rw[size_toArray,size_toArray];simpa using hl) ⋯
   refine#[main,?_];by_cases z:p=q
   ·subst z;rw[r8 (n+1) _ _ _ k b a (by assumption)];exact EqAt.same _
   ·exact EqAt.of_refs z main
end rules
section rules
variable{X:Cx}
open SeqAt in
def Jo(I:Inv X pins J H s)(n:Nat)(A:Around)(x y:RL.D)(v u:V)(va ua:Value)(k:Bool)(hu:A.units+n<cLine)(l:Rep nP X.K H x v)(g:Rep nP X.K H y u)(Y:RelV v va)(U:RelV u ua)
 (h:RL.eqD n x y=some k):RcNeAt A s va ua (!k):=by
 rcases ij h with⟨i,j,rfl,rfl,rfl⟩ | ⟨i,j,rfl,rfl,rfl⟩ | ⟨i,j,rfl,rfl,rfl⟩ | ⟨nn,i,j,hn,T,S,h⟩ | ⟨nn,i,j,hn,T,S,h5⟩
 ·rw[br l]at Y;rw[br g]at U;cases Y;cases U;exact RcNeAt.bool_bool i j
 ·rw[ag l]at Y;rw[ag g]at U;obtain⟨t,rfl⟩:=Y;obtain⟨Q,rfl⟩:=U;exact RcNeAt.int_int i t j Q
 ·rw[aQ l]at Y;rw[aQ g]at U;obtain⟨t,rfl⟩:=Y;obtain⟨Q,rfl⟩:=U;exact RcNeAt.str_str i t j Q
 ·subst hn;subst T;subst S;obtain⟨p,xs,rfl,e2,F⟩:=bG l;obtain⟨q,ys,rfl,f2,E⟩:=bG g;cases Y;cases U;obtain⟨its,r,t1,z1⟩:=I.tuple (SqT.of e2);obtain⟨O,o,t2,z2⟩:=I.tuple (SqT.of f2);obtain⟨k',h1,L⟩:=map_some h;obtain⟨e,h3,h4⟩:=iO h1;have QK:i.length=its.length:=F.length.trans r.length;have G:j.length=O.length:=E.length.trans o.length
  have he:∀ m (C:m<its.toArray.size) (B:m<O.toArray.size),EqAt A.in1 s its.toArray[m] O.toArray[m] (e m):=fun m C B=>by
   rw[size_toArray]at C B;obtain⟨w,N,M⟩:=F.get (i:=m) (d:=i[m]'⋯) (by simp);obtain⟨P,a,Z⟩:=E.get (i:=m) (d:=j[m]'⋯) (by simp);obtain⟨f,b1,b2⟩:=r.get N;obtain⟨R,c,b⟩:=o.get a
   have c1:its.toArray[m]=f:=by simpa using(List.getElem?_eq_some_iff.mp b1).2
   have c2:O.toArray[m]=R:=by simpa using(List.getElem?_eq_some_iff.mp c).2
   rw[c1,c2];exact(deep I nn A.in1 _ _ w P f R (e m) (by show A.units+1+nn<cLine;lia) M Z b2 b (h4 m _ _ (by simp) (by simp))).2
  have z:=RcNeAt.tuples (e:=e) t1 t2 ⋯ he;rw[size_toArray,size_toArray,<-QK,<-G,<-h3,L]at z;exact z
 ·subst hn;obtain⟨p,xs,rfl,e2,F⟩:=ka l T;obtain⟨q,ys,rfl,f2,E⟩:=ka g S;cases Y;cases U;obtain⟨its,r,t1,z1⟩:=I.list (.inl e2);obtain⟨O,o,t2,z2⟩:=I.list (.inl f2);obtain⟨k',h1,L⟩:=map_some h5;obtain⟨e,h3,h4⟩:=iO h1;have QK:i.length=its.length:=F.length.trans r.length;have G:j.length=O.length:=E.length.trans o.length
  have he:∀ m (C:m<its.toArray.size) (B:m<O.toArray.size),EqAt A.in1 s its.toArray[m] O.toArray[m] (e m):=fun m C B=>by
   rw[size_toArray]at C B;obtain⟨w,N,M⟩:=F.get (i:=m) (d:=i[m]'⋯) (by simp);obtain⟨P,a,Z⟩:=E.get (i:=m) (d:=j[m]'⋯) (by simp);obtain⟨f,b1,b2⟩:=r.get N;obtain⟨R,c,b⟩:=o.get a
   have c1:its.toArray[m]=f:=by simpa using(List.getElem?_eq_some_iff.mp b1).2
   have c2:O.toArray[m]=R:=by simpa using(List.getElem?_eq_some_iff.mp c).2
   rw[c1,c2];exact(deep I nn A.in1 _ _ w P f R (e m) (by show A.units+1+nn<cLine;lia) M Z b2 b (h4 m _ _ (by simp) (by simp))).2
  by_cases hl:its.length=O.length
  ·have z:=RcNeAt.lists (e:=e) t1.isList t2.isList (by rw[size_toArray,size_toArray];exact hl) ⋯ he;rw[size_toArray]at z
   have hk:k=(List.range its.length).all e:=by
    rw[<-L,h3,QK,G,hl];simp
   rw[hk];exact z
  ·have hk:k=false:=by
    rw[<-L,QK,G];simp[hl]
   rw[hk];exact RcNeAt.lists_lengths t1.isList t2.isList (by rw[size_toArray,size_toArray];simpa using hl) ⋯
abbrev eK:RL.Cop->CmpOp
 | .lt=>.Lt
 | .le=>.LtE
 | .gt=>.Gt
 | .ge=>.GtE
 | .eq=>.Eq
 | .ne=>.NotEq
abbrev y9(K:W.Frag)(c:RL.Cop):R2:=fun v u H Q=>∃ x y k,Rep nP K H x v/\Rep nP K H y u/\RL.bc c x y=some k/\Q (.bl k) H
def kX{c:RL.Cop}(O:c≠.eq)(I:c≠.ne)(h:RL.bc c x y=some k):∃ i j,x=.int i/\y=.int j:=by
 have no:∀ {a b:RL.D},RL.bc .lt a b=none->RL.bc .le a b=none->RL.bc .gt a b=none->RL.bc .ge a b=none->RL.bc c a b=some k->False:=fun Z Y U R h=>by
  cases c with
  | eq=>exact O rfl
  | ne=>exact I rfl
  | lt=>rw[Z]at h;cases h
  | le=>rw[Y]at h;cases h
  | gt=>rw[U]at h;cases h
  | ge=>rw[R]at h;cases h
 cases x with
 | int i=>cases y with
  | int j=>exact#[_,_,rfl,rfl]
  | _=>exact(no rfl rfl rfl rfl h).elim
 | _=>exact(no rfl rfl rfl rfl h).elim
def jR{c:RL.Cop}(hu:X.A.units+100<cLine):OpR X (compareOp (eK c)) (y9 X.K c):=by
 intro pins s J H x y v u Q I U R h;obtain⟨dx,a,k,ex,Y,e,q⟩:=h
 have O:EP X pins J Q (.bool k) s:=#[.bl k,H,I,rfl,q]
 cases c with
 |eq=>
  have e:=e;exact(deep I 8 X.A dx a x y v u k ⋯ ex Y U R e).1 X.prog X.w X.xe _ O
 |ne=>
  obtain⟨b,f,d⟩:=map_some (show(RL.eqD 8 dx a).map not=some k from e);subst d;exact Jo I 8 X.A dx a x y v u b ⋯ ex Y U R f X.prog X.w X.xe _ O
 |lt=>
  obtain⟨i,j,rfl,rfl⟩:=kX ∅ ∅ e;cases e;rw[ag ex]at U;rw[ag Y]at R;obtain⟨t,rfl⟩:=U;obtain⟨Z,rfl⟩:=R;exact lt_int O
 |le=>
  obtain⟨i,j,rfl,rfl⟩:=kX ∅ ∅ e;cases e;rw[ag ex]at U;rw[ag Y]at R;obtain⟨t,rfl⟩:=U;obtain⟨Z,rfl⟩:=R;exact le_int O
 |gt=>
  obtain⟨i,j,rfl,rfl⟩:=kX ∅ ∅ e;cases e;rw[ag ex]at U;rw[ag Y]at R;obtain⟨t,rfl⟩:=U;obtain⟨Z,rfl⟩:=R;exact gt_int O
 |ge=>
  obtain⟨i,j,rfl,rfl⟩:=kX ∅ ∅ e;cases e;rw[ag ex]at U;rw[ag Y]at R;obtain⟨t,rfl⟩:=U;obtain⟨Z,rfl⟩:=R;exact ge_int O
def kO{c:RL.Cop}(b:Expr):behindInMarks (eK c) b=false:=by cases c<;>exact tD b ∅ ∅
def A5{c:RL.Cop}(h:∃ I d,RV0 X.K I J H/\RL.ev cl I (.cmp c a' b')=some d/\∀ H',aw H H'->∃ k,d=.bl k/\Q (.bl k) H'):tOp (y9 X.K c) (tE X.K cl a') (tE X.K cl b') J H Q:=by
 obtain⟨I,d,Y,e,k⟩:=h;obtain⟨x,f,e⟩:=bind_some e;obtain⟨y,b,e⟩:=bind_some e;obtain⟨t,g,O⟩:=map_some e;refine two Y f b fun v u j H2 s1 s2 U R _ _=>?_;obtain⟨i,a,Z⟩:=k H2 (s1.trans s2);rw[a]at O;cases O;exact#[x,y,t,U,R,g,Z]
def rB{c:RL.Cop}(e:RL.ev cl QL (.cmp c a' b')=some d):∃ k,d=.bl k:=by
 obtain⟨x,R,e⟩:=bind_some e;obtain⟨y,O,e⟩:=bind_some e;obtain⟨t,U,I⟩:=map_some e;exact#[t,I.symm]
def GC{c:RL.Cop}(hu:X.A.units+100<cLine)(ha:SE X cl a a')(hb:SE X cl b b'):SE X cl (.Compare a [eK c] [b] pos) (.cmp c a' b'):=by
 refine PE.weak (qA (jR hu) ha hb (kO b)) fun J H Q h=>?_;obtain⟨I,d,O,e,k⟩:=h;obtain⟨t,rfl⟩:=rB e;exact A5 ⟨I,_,O,e,fun H' sm=>#[t,rfl,k _ _ (dR sm)]⟩
def Jk{c:RL.Cop}(hu:X.A.units+100<cLine)(ha:SE X cl a a')(hb:SE X cl b b'):ST X cl (.Compare a [eK c] [b] pos) (.cmp c a' b'):=by
 refine PT.weak (nc (jR hu) ha hb (kO b)) fun J H Q h=>?_;obtain⟨I,k,R,e,q⟩:=h;obtain⟨d,O,U⟩:=bind_some e;obtain⟨t,rfl⟩:=rB O;cases U;exact A5 ⟨I,_,R,O,fun H' sm=>#[k,rfl,k,rfl,q H' sm]⟩
def Dw{c c':RL.Cop}(b e:Expr):lastMarks [eK c,eK c'] [b,e]=false:=by
 exact kO e
def nt{c c':RL.Cop}(h:RL.ev cl QL (.chain c c' a' b' e')=some d):∃ k,d=.bl k:=by
 obtain⟨x,Y,h⟩:=bind_some h;obtain⟨y,U,h⟩:=bind_some h;obtain⟨t,O,h⟩:=bind_some h
 cases t with
 |true=>
  obtain⟨z,R,h⟩:=bind_some (show(RL.ev cl QL e').bind _=some d from h);obtain⟨t,O,I⟩:=map_some h;exact#[t,I.symm]
 | false=>exact#[false,(Option.some.inj (show some (RL.D.bl false)=some d from h)).symm]
def ve{c c':RL.Cop}(h:∃ I k,RV0 X.K I J H/\RL.ev cl I (.chain c c' a' b' e')=some (.bl k)/\∀ H',aw H H'->Q (.bl k) H') :
  sL (y9 X.K c) (y9 X.K c') (tE X.K cl a') (tE X.K cl b') (tE X.K cl e') J H Q:=by
 obtain⟨I,k,U,h,q⟩:=h;obtain⟨x,b,h⟩:=bind_some h;obtain⟨y,a,h⟩:=bind_some h;obtain⟨t,f,h⟩:=bind_some h;refine two U b a fun v u i H2 s1 s2 Y R _ _=>?_;refine#[x,y,t,Y,R,f,t,rfl,?_];have sm:=s1.trans s2
 cases t with
 |true=>
  obtain⟨z,Z,h⟩:=bind_some h;obtain⟨t,d,e⟩:=map_some h;cases e;exact fW ⟨I,z,U.same sm,Z,fun w g O=>#[y,z,k,R.same O.same,O.rep,d,q g (sm.trans O.same)]⟩
 |false=>
  cases h;exact gC (q H2 sm)
def B5{c c':RL.Cop}(hu:X.A.units+100<cLine)(ha:SE X cl a a')(hb:SE X cl b b')(R:SE X cl e e'):SE X cl (.Compare a [eK c,eK c'] [b,e] pos) (.chain c c' a' b' e'):=by
 refine PE.weak (Cb (jR hu) (jR hu) ha hb R (Dw b e)) fun J H Q h=>?_;obtain⟨I,d,O,h,k⟩:=h;obtain⟨t,rfl⟩:=nt h;exact ve ⟨I,t,O,h,fun H' sm=>k _ _ (dR sm)⟩
def Bm{c c':RL.Cop}(hu:X.A.units+100<cLine)(ha:SE X cl a a')(hb:SE X cl b b')(U:SE X cl e e'):ST X cl (.Compare a [eK c,eK c'] [b,e] pos) (.chain c c' a' b' e'):=by
 refine PT.weak (C2 (jR hu) (jR hu) ha hb U (Dw b e)) fun J H Q h=>?_;obtain⟨I,k,R,h,q⟩:=h;obtain⟨d,O,Y⟩:=bind_some h;obtain⟨t,rfl⟩:=nt O;cases Y;exact ve ⟨I,k,R,O,fun H' sm=>#[k,rfl,q H' sm]⟩
end rules
section rules
variable{X:Cx}
def qZ{neg:Bool}(b:Expr):behindInMarks (if neg then .IsNot else .Is) b=false:=by cases neg<;>exact tD b ∅ ∅
def vO{neg:Bool}:OpR X (compareOp (if neg then .IsNot else .Is)) (fun x y H Q=>y=.non/\Q (.bl (if neg then !decide (x=.non)else decide (x=.non))) H):=by
 cases neg with
 | true=>exact Ey
 | false=>exact Jd
def zD(h:RL.ev cl QL (.isN neg a')=some d):∃ x,RL.ev cl QL a'=some x/\∀ v (H:Hp),Rep nP X.K H x v->d=.bl (if neg then !decide (v=.non)else decide (v=.non)):=by
 obtain⟨x,I,h⟩:=bind_some h;refine#[x,I,fun v H r=>?_]
 cases x with
 | non=>cases h;rw[Rep]at r;subst r;cases neg<;>rfl
 | bl k=>cases h;rw[br r];cases neg<;>rfl
 | int k=>cases h;rw[ag r];cases neg<;>rfl
 | str k=>cases h;rw[aQ r];cases neg<;>rfl
 | tup k=>cases h;obtain⟨p,xs,rfl,_⟩:=bG r;cases neg<;>rfl
 | lst k=>cases h;obtain⟨p,xs,rfl,_⟩:=aW r;cases neg<;>rfl
 | scr k=>cases h;rw[Rep]at r;obtain⟨p,xs,rfl,_⟩:=r;cases neg<;>rfl
 | exc k=>cases h;rw[Rep]at r;obtain⟨p,_,_,_,_,rfl,_⟩:=r;cases neg<;>rfl
 | obj=>cases h;rw[Rep]at r;obtain⟨p,rfl⟩:=r;cases neg<;>rfl
 | dK _ _=>cases h
 | dT _ _=>cases h
 | fT _ _=>cases h
 | fL k=>cases h;rw[Rep]at r;obtain⟨p,o,xs,rfl,_⟩:=r;cases neg<;>rfl
def HW(ha:SE X cl a a'):SE X cl (.Compare a [if neg then .IsNot else .Is] [.Constant .none j p] pos) (.isN neg a'):=by
 refine PE.weak (qA vO ha ug (qZ _)) fun J H Q h=>?_;obtain⟨I,d,R,e,q⟩:=h;obtain⟨x,Y,U⟩:=zD e;refine#[I,_,R,Y,fun v Z O=>#[rfl,?_]];have hd:=U v Z O.rep;subst hd;exact q _ _ (dR O.same)
def Je(ha:SE X cl a a'):ST X cl (.Compare a [if neg then .IsNot else .Is] [.Constant .none j p] pos) (.isN neg a'):=by
 refine PT.weak (nc vO ha ug (qZ _)) fun J H Q h=>?_;obtain⟨I,k,R,e,q⟩:=h;obtain⟨d,b,Z⟩:=bind_some e;obtain⟨x,Y,U⟩:=zD b;refine#[I,_,R,Y,fun v c O=>#[rfl,?_]];have hd:=U v c O.rep;subst hd;cases Z;exact#[_,rfl,q _ O.same]
def f7{P:Addr->Prop}{K:W.Frag}(h:RL.items d=some ds)(r:Rep P K H d v):∃ p xs,v=.ref p/\((H p=some (.lst xs)/\d=.lst ds)\/(H p=some (.tup xs)/\d=.tup ds)\/((∃ o,H p=some (.frz o (.lst xs)))/\d=.fL ds))/\ae P K H ds xs:=by
 cases d<;>simp only[RL.items]at h<;>first | (cases h;done) | skip
 case lst ys=>cases h;obtain⟨p,xs,R,_,O,I⟩:=aW r;exact#[p,xs,R,.inl #[O,rfl],I]
 case tup ys=>cases h;obtain⟨p,xs,R,O,I⟩:=bG r;exact#[p,xs,R,.inr (.inl #[O,rfl]),I]
 case fL ys=>cases h;rw[Rep]at r;obtain⟨p,o,xs,R,O,I⟩:=r;exact#[p,xs,R,.inr (.inr #[#[o,O],rfl]),I]
def we{P:Addr->Prop}{K:W.Frag}(h:RL.flat d=true)(r:Rep P K H d v):gX v=true/\∀ I R,RL.flat I=true->Rep P K H I R->RL.eqF d I=eqV v R:=by
 cases d<;>simp only[RL.flat]at h<;>first | (cases h;done) | skip
 case int i =>
  rw[ag r];refine#[rfl,fun I R h' O=>?_]
  cases I<;>simp only[RL.flat]at h'<;>first | (cases h';done) | skip
  case int j=>rw[ag O];simp[RL.eqF,eqV]
  case str j=>rw[aQ O];simp[RL.eqF,eqV]
 case str i =>
  rw[aQ r];refine#[rfl,fun I R h' O=>?_]
  cases I<;>simp only[RL.flat]at h'<;>first | (cases h';done) | skip
  case int j=>rw[ag O];simp[RL.eqF,eqV]
  case str j=>rw[aQ O];simp[RL.eqF,eqV]
def uP{P:Addr->Prop}{K:W.Frag}(hf:RL.flat d=true)(r:Rep P K H d v):∀ {ds:List RL.D} {xs:List V},ds.all RL.flat=true->ae P K H ds xs->xs.all gX=true/\(ds.any fun x=>RL.eqF x d)=inV v xs
 | [],xs,_,h=>by rw[ae]at h;subst h;exact#[rfl,rfl]
 | e::t,xs,ha,h=>by
  obtain⟨x,ys,rfl,Z,Y⟩:=h;rw[Qx,and_eq_true]at ha;obtain⟨U,R⟩:=uP hf r ha.2 Y;obtain⟨O,I⟩:=we ha.1 Z;refine#[by rw[Qx,O,U];rfl,?_];rw[any_cons,R,I d v hf r];rfl
def zI:OpR X (compareOp (if neg then .NotIn else .In)) (rIn X.K neg):=by
 cases neg with
 | true=>exact tu
 | false=>exact yQ
def A7(Y:RV0 X.K QL J H)(e:RL.ev cl QL (.inn neg a' b')=some d)(k:∀ t H',d=.bl t->aw H H'->Q (.bl t) H'):tOp (rIn X.K neg) (tE X.K cl a') (tE X.K cl b') J H Q:=by
 obtain⟨x,g,e⟩:=bind_some e;obtain⟨y,f,e⟩:=bind_some e;obtain⟨t,j,i⟩:=map_some e;obtain⟨ds,h,O⟩:=bind_some j;by_cases I:(RL.flat x&&ds.all RL.flat)=true
 ·rw[if_pos I]at O;cases O;rw[and_eq_true]at I;refine two Y g f fun v u l H2 s1 s2 R U _ _=>?_;obtain⟨p,xs,rfl,a,Z⟩:=f7 h U;obtain⟨c,b⟩:=uP I.1 R I.2 Z;refine#[p,xs,rfl,?_,(we I.1 R).1,c,?_]
  ·rcases a with⟨z,_⟩ | ⟨z,_⟩ | ⟨⟨o,z⟩,_⟩
   ·exact .inl (SqL.of z)
   ·exact .inr (SqT.of z)
   ·exact .inl (.inl (.inr #[o,z]))
  ·refine k _ _ ?_ (s1.trans s2);rw[<-i,b]
 ·rw[if_neg I]at O;cases O
abbrev nX:Expr->Bool
 | .Set _ _ _=>false
 | _=>true
def j6(h:nX b=true):behindInMarks op b=false:=by
 cases b<;>first | rfl | (cases h)
def GY(ha:SE X cl a a')(hb:SE X cl b b')(hm:nX b=true):SE X cl (.Compare a [if neg then .NotIn else .In] [b] pos) (.inn neg a' b'):=by
 refine PE.weak (qA zI ha hb (j6 hm)) fun J H Q h=>?_;obtain⟨I,d,O,e,q⟩:=h
 exact A7 O e fun t H' hd sm=>by subst hd;exact q _ _ (dR sm)
def Hw(ha:SE X cl a a')(hb:SE X cl b b')(hm:nX b=true):ST X cl (.Compare a [if neg then .NotIn else .In] [b] pos) (.inn neg a' b'):=by
 refine PT.weak (nc zI ha hb (j6 hm)) fun J H Q h=>?_;obtain⟨I,k,O,e,q⟩:=h;obtain⟨d,U,R⟩:=bind_some e;refine A7 O U fun t H' hd sm=>?_;subst hd;cases R;exact#[_,rfl,q _ sm]
abbrev spF(K:W.Frag)(cl:RL.Cl)(f:Nat):Sp:=fun vs H Q _=>∃ ds d,ae nP K H ds vs/\cl f ds=some d/\∀ v H',aw H H'->Rep (fun p=>H p≠none) K H' d v->Q v H'
def Ew(F:eU X.prog X.w X.K X.mg X.base CX0 k fa fd ps (spF X.K cl f))(i:cH k X.A)(hg:Gl X x)
 (hm:X.mg x=some (.ref fa))(hk:W.keepIn X.K (.ref fa)=true)(hb:Binds X.K fd ps [])(n:SEs X cl (e::es) (.cons e' es'))(Z:(x == ("__debug__" : Str))=false)(hn:noStar e=true)(Y:es.all noStar=true) :
  SE X cl (.Call (.Name x p) (e::es) [] pos) (.call f (.cons e' es')):=by
 refine PE.weak (vL F i hg hm hk hb .nil Dh n Z (ay es hn) (d5 Y)) fun J H Q h=>?_;obtain⟨U,d,c,ev,q⟩:=h;obtain⟨ds,R,O⟩:=bind_some ev;refine#[U,ds,c,R,fun vs b s1 g=>?_];show spF X.K cl f (vs++[]) b Q E0;rw[QA];refine#[ds,d,g,O,fun v H2 s2 I=>q v H2 #[s1.trans s2,I.none,fun _ m a z=>?_,fun M _ P r _=>?_]]
 ·subst z
  have l:b a=none:=by
   cases d with
   | lst ds=>obtain⟨p,xs,R,O,_⟩:=aW I;cases R;exact Classical.byContradiction O
   | dK ks ds=>rw[Rep]at I;obtain⟨p,xs,R,O,_⟩:=I;cases R;exact Classical.byContradiction O
   | dT ks ds=>rw[Rep]at I;obtain⟨p,xs,R,O,_⟩:=I;cases R;exact Classical.byContradiction O
   | _=>cases m
  exact s1.free l
 ·refine I.weak fun a z=>?_;obtain⟨o,j⟩:=Option.ne_none_iff_exists'.mp (r a z);rw[s1 _ _ j]
  exact fun q=>nomatch q
end rules
abbrev Off(P:Addr->Prop)(H H':Hp):Prop:=∀ b o,¬ P b->H b=some o->H' b=some o
def Off.same{H H':Hp}(h:aw H H'){P:Addr->Prop}:Off P H H':=fun b o _ e=>h b o e
mutual
theorem Rep.off{P:Addr->Prop}{K:W.Frag}{H H':Hp}(hm:∀ b o,P b->H b=some o->d6 o)(k:Off P H H'):∀ {d:RL.D} {v:V},Rep P K H d v->Rep P K H' d v
 | .non,v,h=>by simpa[Rep]using h
 | .bl _,v,h=>by simpa[Rep]using h
 | .int _,v,h=>by simpa[Rep]using h
 | .str _,v,h=>by simpa[Rep]using h
 | .tup ds,v,h=>by
  k_ne;obtain⟨b,xs,R,I,O⟩:=h
  have n:¬ P b:=fun p=>by rcases hm b _ p I with⟨z,q⟩ | ⟨z,q⟩ | ⟨z,q⟩<;>cases q
  exact#[b,xs,R,k _ _ n I,ae.off hm k O]
 | .lst ds,v,h=>by
  k_ne;obtain⟨b,xs,R,U,I,O⟩:=h;exact#[b,xs,R,U,k _ _ U I,ae.off hm k O]
 | .dK ks ds,v,h=>by
  k_ne;obtain⟨b,xs,R,U,I,Y,O⟩:=h;exact#[b,xs,R,U,k _ _ U I,Y,ae.off hm k O]
 | .dT ks ds,v,h=>by
  k_ne;obtain⟨b,xs,R,U,I,Y,O⟩:=h;exact#[b,xs,R,U,k _ _ U I,Y,ae.off hm k O]
 | .scr ds,v,h=>by
  k_ne;obtain⟨b,xs,R,I,O⟩:=h;refine#[b,xs,R,?_,ae.off hm k O];rcases I with⟨q,I⟩ | I
  ·have n:¬ P b:=fun p=>by rcases hm b _ p I with⟨z,q⟩ | ⟨z,q⟩ | ⟨z,q⟩<;>cases q
   exact .inl #[q,k _ _ n I]
  ·exact .inr I
 | .obj,v,h=>by rw[Rep]at h ⊢;exact h
 | .exc c,v,h=>by
  k_ne;exact h.keep fun b ob u q=>k _ _ (fun p=>by rcases hm b _ p q with⟨z,y⟩ | ⟨z,y⟩ | ⟨z,y⟩<;>cases y) q
 | .fT ks ds,v,h=>by
  k_ne;obtain⟨b,ob,xs,R,I,Y,O⟩:=h;exact⟨b,ob,xs,R,k _ _ (fun p=>by rcases hm b _ p I with⟨z,y⟩ | ⟨z,y⟩ | ⟨z,y⟩<;>cases y) I,Y,ae.off hm k O⟩
 | .fL ds,v,h=>by
  k_ne;obtain⟨b,ob,xs,R,I,O⟩:=h;exact⟨b,ob,xs,R,k _ _ (fun p=>by rcases hm b _ p I with⟨z,y⟩ | ⟨z,y⟩ | ⟨z,y⟩<;>cases y) I,ae.off hm k O⟩
theorem ae.off{P:Addr->Prop}{K:W.Frag}{H H':Hp}(hm:∀ b o,P b->H b=some o->d6 o)(k:Off P H H'):∀ {ds:List RL.D} {xs:List V},ae P K H ds xs->ae P K H' ds xs
 | [],xs,h=>by rw[ae]at h ⊢;exact h
 | d::r,xs,h=>by
  rw[ae]at h ⊢;obtain⟨x,t,R,O,I⟩:=h;exact#[x,t,R,Rep.off hm k O,ae.off hm k I]
end
structure kR(K:W.Frag)(QK:L2.It)(ds:List RL.D)(P:Addr->Prop)(H:Hp):Prop where
 go:∀ H' i,Off P H H'->i<ds.length->QK.go i H'
 stop:∀ H',Off P H H'->QK.stop ds.length H'
 yld:∀ H' i d x H2,Off P H H'->ds[i]?=some d->QK.yld i H' x H2->aw H' H2/\(d.imm=true\/aw H H'->Rep nP K H2 d x)
abbrev CT(K:W.Frag)(I:RL.St)(J:L2.St)(H:Hp)(it:RL.It)(QK:L2.It)(ds:List RL.D)(O:Hp):Prop :=
 kR K QK ds nP O/\∀ (M:List Nat) (P:Addr->Prop),RL.sV M it=true->(∀ b,P b->∃ o,H b=some o/\d6 o)->(∀ (j:Nat) (dj:RL.D) (vj:V),M.contains j=false->I[j]?=some (some dj)->J[j]?=some (some vj)->Rep P K H dj vj)->kR K QK ds P O
abbrev tI(K:W.Frag)(cl:RL.Cl)(it:RL.It):TI:=fun J H R=>∃ I ds,RV0 K I J H/\RL.bE cl I it=some ds/\∀ QK O,aw H O->CT K I J H it QK ds O->R QK O
abbrev SI(X:Cx)(cl:RL.Cl)(tg iter:Expr)(it:RL.It):Prop:=PI X tg iter (tI X.K cl it)
def PI.weak{X:Cx}{tg iter:Expr}{t t':TI}(h:PI X tg iter t)(w:∀ J H R,t' J H R->t J H R):PI X tg iter t':=fun pins s J H R I q=>h pins s J H R I (w J H R q)
def gr{K:W.Frag}{P:Addr->Prop}{H H':Hp}{d:RL.D}{v:V}(hm:∀ b o,P b->H b=some o->d6 o)(k:Off P H H')(r:Rep nP K H d v)(i:d.imm=true):Rep nP K H' d v :=
 ((r.imm i).off hm k).imm i
def wb{K:W.Frag}{H:Hp}{a:Addr}{ds:List RL.D}{xs:List V}{P:Addr->Prop}(h:H a=some (.lst xs))(r:ae nP K H ds xs)(I:¬ P a)(hm:∀ b o,P b->H b=some o->d6 o):kR K (Itl K a) ds P H where
 go:=fun H' i k hi=>by
  obtain⟨x,e,_⟩:=r.get (i:=i) (d:=ds[i]) (by simp[]);exact#[xs,x,SqL.of (k _ _ I h),e]
 stop:=fun H' k=>#[xs,SqL.of (k _ _ I h),by rw[r.length];exact Qb _]
 yld:=fun H' i d x H2 k e y=>by
  obtain⟨z,y⟩:=y;subst z;have U:=y xs (SqL.of (k _ _ I h));obtain⟨Y,R,O⟩:=r.get e;rw[U]at R;cases R;refine#[aw.refl _,fun q=>?_];rcases q with q | q
  ·exact gr hm k O q
  ·exact O.same q
def zC{K:W.Frag}{H:Hp}{a:Addr}{ds:List RL.D}{xs:List V}{P:Addr->Prop}(h:H a=some (.frz o (.lst xs)))(r:ae nP K H ds xs)(hm:∀ b o,P b->H b=some o->d6 o):kR K (Itl K a) ds P H:=by
 have kp:∀ H',Off P H H'->SqL K H' a xs:=fun H' k=>by
  exact .inl (.inr ⟨o,k _ _ (fun p=>by rcases hm a _ p h with⟨z,q⟩ | ⟨z,q⟩ | ⟨z,q⟩<;>cases q) h⟩)
 exact {
  go:=fun H' i k hi=>by
   obtain⟨x,e,_⟩:=r.get (i:=i) (d:=ds[i]) (by simp[]);exact#[xs,x,kp _ k,e]
  stop:=fun H' k=>#[xs,kp _ k,by rw[r.length];exact Qb _]
  yld:=fun H' i d x H2 k e y=>by
   obtain⟨z,y⟩:=y;subst z;have R:=y xs (kp _ k);obtain⟨U,O,I⟩:=r.get e;rw[R]at O;cases O;refine#[aw.refl _,fun q=>?_];rcases q with q | q
   ·exact gr hm k I q
   ·exact I.same q }
def Am{K:W.Frag}{H:Hp}{a:Addr}{ds:List RL.D}{xs:List V}{P:Addr->Prop}(h:H a=some (.tup xs))(r:ae nP K H ds xs)(hm:∀ b o,P b->H b=some o->d6 o):kR K (Itt K a) ds P H:=by
 have I:¬ P a:=fun p=>by rcases hm a _ p h with⟨z,q⟩ | ⟨z,q⟩ | ⟨z,q⟩<;>cases q
 exact {
  go:=fun H' i k hi=>by
   obtain⟨x,e,_⟩:=r.get (i:=i) (d:=ds[i]) (by simp[]);exact#[xs,x,SqT.of (k _ _ I h),e]
  stop:=fun H' k=>#[xs,SqT.of (k _ _ I h),by rw[r.length];exact Qb _]
  yld:=fun H' i d x H2 k e y=>by
   obtain⟨z,y⟩:=y;subst z;have U:=y xs (SqT.of (k _ _ I h));obtain⟨Y,R,O⟩:=r.get e;rw[U]at R;cases R;refine#[aw.refl _,fun q=>?_];rcases q with q | q
   ·exact gr hm k O q
   ·exact O.same q }
def oF:∀ (n:Nat) (lo:Int) (i:Nat) (d:RL.D),(RL.dC lo n)[i]?=some d->d=.int (lo+i)
 | 0,lo,i,d,h=>by simp[RL.dC]at h
 | n+1,lo,0,d,h=>by simp[RL.dC]at h;simp[h]
 | n+1,lo,i+1,d,h=>by
  rw[oF n (lo+1) i d h];congr 1;lia
def kM:∀ (n:Nat) (lo:Int),(RL.dC lo n).length=n
 | 0,_=>rfl
 | n+1,lo=>by rw[RL.dC,length_cons,kM n]
def pI{K:W.Frag}{H:Hp}{lo:Int}{n:Nat}{P:Addr->Prop}:kR K (Itr lo n) (RL.dC lo n) P H where
 go:=fun H' i k hi=>by rw[kM]at hi;exact hi
 stop:=fun H' k=>by rw[kM];exact Qb _
 yld:=fun H' i d x H2 k e y=>by
  obtain⟨z,y⟩:=y;subst z;refine#[aw.refl _,fun _=>?_];rw[oF n lo i d e,y];exact bg
section rules
variable{X:Cx}{cl:RL.Cl}{tg a b l:Expr}{a' b' e':RL.E}{pos p:Pos}
def K4{t t':TE}{l:Expr}(hl:PE X l t):PI X tg l (fun J H R=>t J H fun x U=>(∃ a,x=.ref a/\(∃ xs,SqL X.K U a xs)/\R (Itl X.K a) U)\/(∃ a,x=.ref a/\(∃ xs,SqT X.K U a xs)/\R (Itt X.K a) U)):=by
 intro pins s J H R I h;refine thn (hl pins s J H _ I h) fun v s1 ⟨x,U,O,Z,d⟩=>?_
 rcases d with⟨a,e,⟨xs,Y⟩,q⟩ | ⟨a,e,⟨xs,Y⟩,q⟩
 ·subst e;cases Z;obtain⟨its,c,p,f⟩:=O.list Y;refine wpAny_pyIter_list p.isList ⟨s1.heap.objs.size,[s1.heap.objs.size],_,_,U,rfl,O.kept fun b o e=>J2 _ e,Ad a _,⟨_,Qc _ rfl,rfl,rfl⟩,fun b hb=>?_,q⟩;rw[show b=s1.heap.objs.size by simpa using hb];exact O.qw (Qb _) (O.hok.fresh (Qb _))
 ·subst e;cases Z;obtain⟨its,c,p,f⟩:=O.tuple Y;refine wpAny_pyIter_tuple (show s1.heap.IsTuple a its.toArray from p) ⟨s1.heap.objs.size,[s1.heap.objs.size],_,_,U,rfl,O.kept fun b o e=>J2 _ e,xv a _,⟨_,Qc _ rfl,rfl,rfl⟩,fun b hb=>?_,q⟩;rw[show b=s1.heap.objs.size by simpa using hb];exact O.qw (Qb _) (O.hok.fresh (Qb _))
def pd{I:RL.St}{J:L2.St}{H e:Hp}{d:RL.D}{v:V}{M:List Nat}{P:Addr->Prop}(R:Res X.K I J H e' d v e)(z:(RL.avE M e' || RL.aM e')=true)(U:∀ b,P b->∃ o,H b=some o/\d6 o)
 (av:∀ (j:Nat) (dj:RL.D) (vj:V),M.contains j=false->I[j]?=some (some dj)->J[j]?=some (some vj)->Rep P X.K H dj vj):∀ ds a,d=.lst ds->v=.ref a->¬ P a:=by
 intro ds a hd Y;subst hd Y;rw[or_eq_true]at z;rcases z with z | z
 ·obtain⟨p,xs,c,Z,_⟩:=aW (R.av M z P (fun b q=>by obtain⟨o,O,_⟩:=U b q;rw[O];exact fun z=>nomatch z) av);cases c;exact Z
 ·intro q;obtain⟨o,O,_⟩:=U a q;rw[R.fresh z rfl a rfl]at O;cases O
def e8{P:Addr->Prop}{H I:Hp}(s:aw H I)(R:∀ b,P b->∃ o,H b=some o/\d6 o):∀ b o,P b->I b=some o->d6 o:=fun b o q e=>by
 obtain⟨o',O,m⟩:=R b q;rw[s _ _ O]at e;cases e;exact m
def hV{I:Hp}:∀ b o,nP b->I b=some o->d6 o:=fun b o q=>q.elim
def Hu(hl:SE X cl l e')(g:True):PI X tg l (fun J H R=>∃ O d ds,RV0 X.K O J H/\RL.ev cl O e'=some d/\RL.lT d=some ds/\∀ QK c,aw H c->CT X.K O J H (.seq e') QK ds c->R QK c):=by
 refine PI.weak (K4 (t':=tE X.K cl e') hl) fun J H R h=>?_;obtain⟨O,d,ds,f,e,b,k⟩:=h;refine#[O,d,f,e,fun v c U=>?_]
 cases d with
 |fL es=>
  cases b;have r:=U.rep;obtain⟨p,ob,xs,rfl,I,Z⟩:=r;exact .inl #[p,rfl,#[xs,.inl (.inr #[ob,I])],k _ _ U.same #[zC I Z hV,fun M P z a av=>zC I Z (e8 U.same a)]]
 |lst es=>
  obtain⟨p,xs,rfl,I,Z⟩:=f7 (show RL.items (.lst es)=some ds from b) U.rep
  rcases I with⟨I,Y⟩ | ⟨I,Y⟩ | ⟨I,Y⟩
  ·cases Y;exact .inl #[p,rfl,#[xs,SqL.of I],k _ _ U.same #[wb I Z (fun z=>z) hV,fun M P z a av=>wb I Z (pd U z a av _ _ rfl rfl) (e8 U.same a)]]
  ·cases Y
  ·cases Y
 |tup es=>
  obtain⟨p,xs,rfl,I,Z⟩:=f7 (show RL.items (.tup es)=some ds from b) U.rep
  rcases I with⟨I,Y⟩ | ⟨I,Y⟩ | ⟨I,Y⟩
  ·cases Y
  ·exact .inr #[p,rfl,#[xs,SqT.of I],k _ _ U.same #[Am I Z hV,fun M P z a av=>Am I Z (e8 U.same a)]]
  ·cases Y
 | _=>cases b
def l8{x y:RL.D}{ds:List RL.D}(h:RL.cb x y=some ds):∃ i j:Int,x=.int i/\y=.int j/\(-(2 ^ 62)<=i/\i<2 ^ 62/\-(2 ^ 62)<=j/\j<2 ^ 62)/\(j-i).toNat<=RL.most/\ds=RL.dC i (j-i).toNat:=by
 have no:∀ {o:Option (List RL.D)},o=none->o=some ds->False:=fun e h=>by rw[e]at h;cases h
 cases x with
 | int i=>cases y with
  |int j=>
   obtain⟨I,e⟩:=cU h
   have lo:-(2 ^ 62:Int)<=-(2 ^ 60):=by decide
   have hi:(2 ^ 60:Int)<2 ^ 62:=by decide
   exact#[i,j,rfl,rfl,#[Int.le_trans lo I.2.1,Int.lt_trans I.2.2.1 hi,Int.le_trans lo I.2.2.2.1,Int.lt_trans I.2.2.2.2 hi],I.1,e]
  | _=>exact(no rfl h).elim
 | _=>exact(no rfl h).elim
def DU(hg:Gl X "range")(hm:X.mg "range" = none)(ha:SE X cl a a')(hn:noStar a=true):SI X cl tg (.Call (.Name "range" p) [a] [] pos) (.rng1 a'):=by
 refine PI.weak (Ay hg hm (bP ha da hn) (ay [] hn)) fun J H R h=>?_;obtain⟨I,ds,O,e,k⟩:=h;obtain⟨x,c,e⟩:=bind_some e;obtain⟨i,j,d,rfl,hb,_,rfl⟩:=l8 e;cases d;refine#[I,[.int j],O,by rw[RL.evs,c];rfl,fun vs f s1 Z=>?_];obtain⟨v,t,rfl,Y,U⟩:=Z;subst U;refine#[j,by rw[ag Y],hb.2.2.1,hb.2.2.2,?_]
 have b:(j-0).toNat=j.toNat:=by simp
 rw[b]at k;exact k _ _ s1 ⟨pI,fun _ _ _ _ _=>pI⟩
def EF(hg:Gl X "range")(hm:X.mg "range" = none)(ha:SE X cl a a')(hb:SE X cl b b')(hn:noStar a=true)(I:noStar b=true):SI X cl tg (.Call (.Name "range" p) [a,b] [] pos) (.rng2 a' b'):=by
 refine PI.weak (AN hg hm (bP ha (bP hb da I) hn) (by rw[ay _ hn,ay _ I];rfl) (ay [] I)) fun J H R h=>?_;obtain⟨O,ds,U,e,k⟩:=h;obtain⟨x,l,e⟩:=bind_some e;obtain⟨y,g,e⟩:=bind_some e;obtain⟨i,j,rfl,rfl,hb,_,rfl⟩:=l8 e;refine#[O,[.int i,.int j],U,by rw[RL.evs,l,RL.evs,g];rfl,fun vs m s1 f=>?_];obtain⟨v,t,rfl,d,c⟩:=f;obtain⟨u,t,rfl,Z,Y⟩:=c;subst Y;exact#[i,j,by rw[ag d,ag Z],hb,k _ _ s1 #[pI,fun _ _ _ _ _=>pI]]
end rules
end RS
namespace L2
open PySem PySem.Spec PyProof.Rows
abbrev jj(ifs:List Expr)(env:Env):Sem Bool:=forIn ifs true fun c r=>if r=true then do let ok <- isTrue c env (eval c env);pure (ForInStep.yield ok)else pure (ForInStep.yield r)
section
def Gz(h:wpAny M A m P (fun _ _=>False) s):wpAny M A m P E s :=
 wpAny_mono h (fun _ _ q=>q) fun _ _ z=>z.elim
def dW(h:wpAny M A m (fun a s1=>wpAny M A (k a) P E s1) (fun _ _=>False) s):wpAny M A (m >>= k) P E s:=Qa (Gz h)
end
section
abbrev rj(prog:Program)(w:World)(A:Around)(elt tg:Expr)(ifs:List Expr)(it I:Value)(env:Env)(stop next:Shared->Prop)(s:Shared):Prop :=
 wpAny (model prog w) A (pyNext it) (fun r s1=>match r with
  | none=>stop s1
  | some v=>wpAny (model prog w) A (letOwnedTupleGo tg it v) (fun _ s2=>wpAny (model prog w) A (assign tg env v) (fun _ Y=>wpAny (model prog w) A (jj ifs env) (fun ok O =>
     if ok=true then wpAny (model prog w) A (eval elt env) (fun x U=>wpAny (model prog w) A (call (.builtin "list.append") [I,x]) (fun _ R=>next R) (fun _ _=>False) U) (fun _ _=>False) O
     else next O) (fun _ _=>False) Y) (fun _ _=>False) s2) (fun _ _=>False) s1) (fun _ _=>False) s
def Bk(h:rj prog w A elt tg ifs it acc env stop next s) :
  wpAny (model prog w) A (compTurn (.ListComp elt [⟨tg,iter,ifs,0⟩] scope pos) 0 it acc env) (fun I s'=>match I with
   | .done f=>f=.next/\stop s'
   | .again c=>c=.compLoop (.ListComp elt [⟨tg,iter,ifs,0⟩] scope pos) 0 it acc env/\next s') E s:=by
 cbv;apply wpAny_standAt;apply dW;refine thn h fun r s1 R=>?_
 cases r with
 |none=>
  apply Qd;exact#[rfl,R]
 |some v=>
  apply dW;refine thn R fun _ s2 a=>?_;apply dW;refine thn a fun _ g Z=>?_;apply dW;refine thn Z fun ok e O=>?_;cases ok
  ·apply Qd;exact#[rfl,O]
  ·cbv;apply dW;refine thn O fun x d Y=>?_;apply dW;refine thn Y fun _ b U=>?_;apply Qd;apply Qd;exact#[rfl,U]
def yR(I:Nat->Shared->Prop)(turn:∀ n s,I n s->rj prog w A elt tg ifs it acc env (R (.ok .next)) (fun s'=>∃ m,m<n/\I m s') s)
 (n:Nat)(h:I n s):codeAny (model prog w) A (.compLoop (.ListComp elt [⟨tg,iter,ifs,0⟩] scope pos) 0 it acc env) R s :=
 codeAny_loop rfl I (fun n s U=>wpAny_noted (thn (Bk (turn n s U)) fun O s' q=>by
  cases O with
  |done f=>
   obtain⟨rfl,q⟩:=q;exact q
  | again c=>exact q)) n h
end
def mP:∀ (names:List (Str × NameKind)) (n:Nat) (I:List (Str × Addr)) (x:Str) (c:Addr),(cellsFrom n names I).lookup x=some c->(I.lookup x=some c/\(x,NameKind.cell)∉names)\/(n<=c/\(x,NameKind.cell)∈names)
 | [],n,I,x,c,h=>.inl #[h,by simp]
 | (nm,k)::r,n,I,x,c,h=>by
  unfold cellsFrom at h;by_cases hk:(k == NameKind.cell)=true
  ·rw[if_pos hk]at h
   have O:k=.cell:=by simpa using hk
   subst O
   rcases mP r (n+1) ((nm,n)::I) x c h with⟨a,b⟩ | ⟨a,b⟩
   ·rw[Qo]at a
    cases hx:x == nm with
    |true=>
     rw[hx]at a;cases a
     have:x=nm:=by simpa using hx
     subst this;exact .inr #[Qb _,Qq ..]
    |false=>
     rw[hx]at a;refine .inl #[a,fun z=>?_];rcases List.mem_cons.mp z with z | z
     ·cases z;simp at hx
     ·exact b z
   ·exact .inr #[Nat.le_of_succ_le a,Qk _ b]
  ·rw[if_neg hk]at h
   rcases mP r n I x c h with⟨a,b⟩ | ⟨a,b⟩
   ·refine .inl #[a,fun z=>?_];rcases List.mem_cons.mp z with z | z
    ·cases z;exact hk (by simp)
    ·exact b z
   ·exact .inr #[a,Qk _ b]
def qc:∀ (names:List (Str × NameKind)) (n:Nat) (I:List (Str × Addr)) (x:Str),(x,NameKind.cell)∉names->(cellsFrom n names I).lookup x=I.lookup x
 | [],n,I,x,_=>rfl
 | (nm,k)::r,n,I,x,h=>by
  have O:=fun z=>h (Qk _ z);unfold cellsFrom;by_cases hk:(k == NameKind.cell)=true
  ·rw[if_pos hk,qc r (n+1) _ x O,Qo]
   have R:k=.cell:=by simpa using hk
   subst R
   have:(x == nm)=false:=by
    rw[beq_eq_false_iff_ne];intro z;subst z;exact h (Qq ..)
   rw[this]
  ·rw[if_neg hk];exact qc r n I x O
def vy:∀ (names:List (Str × NameKind)) (n:Nat) (I:List (Str × Addr)),(∀ x c,I.lookup x=some c->c<n)->(∀ x y c,I.lookup x=some c->I.lookup y=some c->x=y)->∀ x y c,(cellsFrom n names I).lookup x=some c->(cellsFrom n names I).lookup y=some c->x=y
 | [],n,I,_,hi,x,y,c,h1,h2=>hi x y c h1 h2
 | (nm,k)::r,n,I,hl,hi,x,y,c,h1,h2=>by
  unfold cellsFrom at h1 h2;by_cases hk:(k == NameKind.cell)=true
  ·rw[if_pos hk]at h1 h2;refine vy r (n+1) ((nm,n)::I) (fun x c e=>?_) (fun x y c R O=>?_) x y c h1 h2
   ·rw[Qo]at e
    cases hx:x == nm with
    | true=>rw[hx]at e;cases e;exact Nat.lt_succ_self _
    | false=>rw[hx]at e;exact Nat.lt_succ_of_lt (hl x c e)
   ·rw[Qo]at R O
    cases hx:x == nm with
    |true=>
     rw[hx]at R;cases R
     cases hy:y == nm with
     |true=>
      have a:x=nm:=by simpa using hx
      have b:y=nm:=by simpa using hy
      rw[a,b]
     |false=>
      rw[hy]at O;exact absurd (hl y n O) (Qy _)
    |false=>
     rw[hx]at R
     cases hy:y == nm with
     |true=>
      rw[hy]at O;cases O;exact absurd (hl x n R) (Qy _)
     |false=>
      rw[hy]at O;exact hi x y c R O
  ·rw[if_neg hk]at h1 h2;exact vy r n I hl hi x y c h1 h2
def qm:∀ (names:List (Str × NameKind)) (h:Heap) (I:List (Str × Addr)) (x:Str) (c:Addr),(cellsFrom h.objs.size names I).lookup x=some c->I.lookup x=some c\/(pushCells h names).IsCell c none
 | [],h,I,x,c,e=>.inl e
 | (nm,k)::r,h,I,x,c,e=>by
  unfold cellsFrom at e;unfold pushCells;by_cases hk:(k == NameKind.cell)=true
  ·rw[if_pos hk]at e ⊢
   have e':(cellsFrom (h.push { cls:=.type "cell",data:=.cell none }).objs.size r ((nm,h.objs.size)::I)).lookup x=some c:=by rw[Qw];exact e
   rcases qm r (h.push { cls:=.type "cell",data:=.cell none }) ((nm,h.objs.size)::I) x c e' with a | a
   ·rw[Qo]at a
    cases hx:x == nm with
    |true=>
     rw[hx]at a;cases a;exact .inr #[_,pushCells_keeps r _ _ _ (Qc _ rfl),rfl]
    |false=>
     rw[hx]at a;exact .inl a
   ·exact .inr a
  ·rw[if_neg hk]at e ⊢;exact qm r h I x c e
def Fv{M:Model}{A:Around}{E:Value->Shared->Prop}{s:Shared}{scope:Scope}{globals:Addr}{closure:List (Str × Addr)}{qual:Str}{func:Option Addr}{code:Value}{outer:Env}{builtins:Addr}{Q:Env->Shared->Prop}
 (I:Q (newEnv scope s.heap.objs.size globals (cellsFrom (s.heap.objs.size+1) scope.names closure) qual func code (some outer) builtins) { s with heap:=pushCells (s.heap.push { cls:=.type "dict",data:=.dict (List.toArray []) }) scope.names }) :
  wpAny M A (newFunctionEnv scope globals closure [] qual func code (some outer) builtins) Q E s:=by
 simp only[newFunctionEnv,isSome_some,if_true];refine Qa (wpAny_alloc ?_);refine Qa (wpAny_layCells _ (fun name kind cells=>by cases hkc:kind == NameKind.cell<;>simp[]) _ _ _ _ ?_);rw[show({ s with heap:=s.heap.push { cls:=.type "dict",data:=.dict (List.toArray []) } }:Shared).heap.objs.size=s.heap.objs.size+1 from Qw ..];refine Qa ?_;exact Qd (Qd I)
abbrev blk(X:Cx)(scope:Scope)(cls:List (Str × Addr))(C:Addr)(fp:List Addr)(s:Shared)(H:Hp):Cx where
 prog:=X.prog
 w:=X.w
 K:=X.K
 mg:=X.mg
 base:=X.base
 A:=X.A
 N:=X.N
 s₀:=s
 H₀:=H
 env:=compEnvC scope cls C X.env
 outer:=X.stack
 stack:=X.stack
 ex:=fp
 fn:=fun x=>scope.names.lookup x == some .cell
 calm:=X.calm
 pn:=[]
 xe:=fun _ _=>False
structure hZ(scope:Scope)(sc:Scope)(cls:List (Str × Addr))(cells:List (Str × Addr)):Prop where
 kind:scope.kind=.function
 own:∀ x∈scope.names,x.2=.cell->scope.names.lookup x.1=some .cell
 loc:∀ x∈scope.names,x.2=.local->scope.names.lookup x.1=some .local
 sub:∀ x c,cls.lookup x=some c->cells.lookup x=some c
 has:∀ x,scope.names.lookup x=some .free->∃ c,cls.lookup x=some c
 vis:∀ x,scope.names.lookup x=some .free->sc.names.lookup x=some .cell\/sc.names.lookup x=some .free
def cq{env:Env}:∀ {names:List (Str × NameKind)} {x:Str} {k:NameKind},
  (names.map fun(n,k)=>if(k == NameKind.free&&env.scope.kind == .function&&env.kindOf n == some .cell)then(n,NameKind.cell)else(n,k)).lookup x=some k ->
  names.lookup x=some k\/(k=.cell/\names.lookup x=some .free/\env.kindOf x=some .cell)
 | [],x,k,h=>by simp at h
 | (n,k')::r,x,k,h=>by
  have Y:=@cq env r x k;rw[map_cons]at h
  cases hx:x == n with
  |true=>
   have Z:x=n:=by simpa using hx
   subst Z;by_cases I:(k' == NameKind.free&&env.scope.kind == .function&&env.kindOf x == some .cell)=true
   ·simp only[I,if_true]at h;rw[Qo,hx]at h;cases h;simp only[and_eq_true,beq_iff_eq]at I;refine .inr #[rfl,?_,I.2];rw[Qo,hx,I.1.1]
   ·simp only[not_eq_true]at I;simp only[I,false_eq_true,if_false]at h;rw[Qo,hx]at h;cases h;exact .inl (by rw[Qo,hx])
  |false=>
   have h':(r.map fun(n,k)=>if(k == NameKind.free&&env.scope.kind == .function&&env.kindOf n == some .cell)then(n,NameKind.cell)else(n,k)).lookup x=some k:=by
    by_cases I:(k' == NameKind.free&&env.scope.kind == .function&&env.kindOf n == some .cell)=true
    ·simp only[I,if_true]at h;rw[Qo,hx]at h;exact h
    ·simp only[not_eq_true]at I;simp only[I,false_eq_true,if_false]at h;rw[Qo,hx]at h;exact h
   rcases Y h' with q | ⟨U,R,O⟩
   ·exact .inl (by rw[Qo,hx];exact q)
   ·exact .inr #[U,by rw[Qo,hx];exact R,O]
abbrev Dj(X:Cx)(scope:Scope)(J I:St):Prop:=I.length=J.length/\∀ (i:Nat) (x:Str) (v:V),X.N[i]?=some x->I[i]?=some (some v)->J[i]?=some (some v)/\scope.names.lookup x≠some .local/\scope.names.lookup x≠some .cell
section
def Inv.hxb(I:Inv X pins J H s):HX (blk X scope cls C fp s H):=by
 rcases I.ok.hd.2 with z | ⟨h,o,u,vs,U,R,O⟩
 ·exact .inl z
 ·exact .inr #[h,o,u,vs,U,I.base.dD _ _ _ R,O]
def EI(I:Inv X pins J H s)(S:hZ scope X.env.scope cls X.env.cells)(hf:∀ b∈fp,kH X pins H b/\b<s.heap.objs.size)(E:Dj X scope J QR)
 (n:h'.Ns s.heap.objs.size (fun _=>none))(hk:∀ b o,s.heap.get? b=some o->h'.get? b=some o)(w:∀ x c,(cellsFrom (s.heap.objs.size+1) scope.names cls).lookup x=some c->cls.lookup x=some c\/h'.IsCell c none) :
  Inv (blk X scope (cellsFrom (s.heap.objs.size+1) scope.names cls) s.heap.objs.size fp s H) [] QR H { s with heap:=h',toks:=t }:=by
 have P:=I.hok.fresh (Qb _)
 have d:∀ x c,cls.lookup x=some c->c<s.heap.objs.size:=fun x c e=>by
  obtain⟨v,q⟩:=I.cell x c (S.sub x c e);exact q.lt
 have g:∀ x c,(cellsFrom (s.heap.objs.size+1) scope.names cls).lookup x=some c->(X.env.cells.lookup x=some c/\c<s.heap.objs.size)\/(s.heap.objs.size+1<=c/\scope.names.lookup x=some .cell):=fun x c e=>by
  rcases mP _ _ _ _ _ e with⟨a,_⟩ | ⟨a,b⟩
  ·exact .inl #[S.sub x c a,d x c a]
  ·exact .inr #[a,S.own _ b rfl]
 have Z:∀ x c,cls.lookup x=some c->scope.names.lookup x=some .free->(cellsFrom (s.heap.objs.size+1) scope.names cls).lookup x=some c:=fun x c e f=>by
  rw[qc _ _ _ _ fun z=>by rw[S.own _ z rfl]at f;cases f];exact e
 refine⟨⟨I.ok.mod,?_,I.ok.glob,I.ok.blt,Qb _,fun x y c U Y=>vy _ _ _ (fun x c e=>Nat.lt_succ_of_lt (d x c e)) (fun x y c e1 e2=>I.ok.inj x y c (S.sub x c e1) (S.sub y c e2)) x y c U Y,fun x R=>?_,fun x c z e=>?_,⟨I.ok.hd.1,I.hxb⟩,I.ok.frames,.inl rfl,fun b hb=>?_,fun b o e=>I.bs b o e,Qn I.ok.bsz I.sz,fun b o e hb=>?_,fun b hb=>?_,I.stack,I.m8⟩,
  rfl,I.bare,Un.kept hk,⟨_,n,fun i x v U Y j=>?_⟩,fun x c e=>?_,P,fun x c e=>?_,fun p N=>absurd N (by simp[blk]),I.hok.kept hk,E.1.trans I.len⟩
 ·exact S.kind
 ·have R:=R
  have O:scope.names.lookup x=some .cell\/scope.names.lookup x=some .free:=by
   rcases R with R | R
   ·rcases cq R with q | ⟨_,q,_⟩
    ·exact .inl q
    ·exact .inr q
   ·rcases cq R with q | ⟨q,_⟩
    ·exact .inr q
    ·cases q
  rcases O with q | q
  ·have:=W.cellsFrom_some scope.names (s.heap.objs.size+1) cls (.inl q);exact Option.isSome_iff_exists.mp this
  ·obtain⟨c,h⟩:=S.has x q;exact#[c,Z x c h q]
 ·have z:(scope.names.lookup x == some .cell)=true:=z
  rcases mP _ _ _ _ _ (show(cellsFrom (s.heap.objs.size+1) scope.names cls).lookup x=some c from e)with⟨_,b⟩ | ⟨b,_⟩
  ·exact absurd (PySem.mem_of_lookup (by simpa using z)) b
  ·exact Nat.le_of_succ_le b
 ·obtain⟨⟨QK,D,C,B,A,G⟩,k⟩:=hf b hb;refine#[Ql k,fun x c e=>?_]
  rcases g x c e with⟨a,_⟩ | ⟨a,_⟩
  ·exact A x c a
  ·exact ne_of_gt (lt_trans k a)
 ·obtain⟨⟨QK,D,C,B,A,G⟩,k⟩:=hf b hb;rcases B with z | z
  ·exact I.ok.l3 b o e z
  ·exact absurd (Qg (Qf e) I.ok.bsz) (Nat.not_lt.mpr z)
 ·obtain⟨⟨QK,D,C,B,A,G⟩,k⟩:=hf b hb;intro z;rcases List.mem_cons.mp (I.sR b z)with e | e
  ·exact D e
  ·exact C e
 ·obtain⟨T,F,Q⟩:=E.2 i x v U Y;have j:=j
  have O:scope.names.lookup x=some .free:=by
   rcases j with z | z | z
   ·rcases cq z with q | ⟨q,_⟩
    ·exact absurd q F
    ·cases q
   ·rcases cq z with q | ⟨_,q,_⟩
    ·exact absurd q Q
    ·exact q
   ·rcases cq z with q | ⟨q,_⟩
    ·exact q
    ·cases q
  obtain⟨c,h⟩:=S.has x O;have r:=S.sub x c h;obtain⟨m,hn,hl⟩:=I.loc;have M:Vis X.env.scope x:=.inr (S.vis x O);obtain⟨u,K,L⟩:=hl i x v U T M;refine#[u,K,.inr #[?_,c,Z x c h O,?_]]
  ·rcases j with z | z
   ·rcases cq z with q | ⟨q,_⟩
    ·exact absurd q F
    ·cases q
   ·exact z
  ·rcases L with⟨z,_⟩ | ⟨_,c',e',q⟩
   ·have z:X.env.scope.names.lookup x=some .local:=z;rcases S.vis x O with l | l<;>(rw[z]at l;cases l)
   ·rw[r]at e';cases e';obtain⟨o,g1,V⟩:=q;exact#[o,hk _ _ g1,V]
 ·rcases w x c e with a | a
  ·obtain⟨v,q⟩:=I.cell x c (S.sub x c a);obtain⟨o,U,Y⟩:=q;exact#[v,o,hk _ _ U,Y]
  ·exact#[none,a]
 ·rcases g x c e with⟨a,_⟩ | ⟨a,_⟩
  ·exact I.di x c a
  ·exact I.hok.fresh (Nat.le_of_succ_le a)
abbrev jO(a:TI)(clr:St->St)(g:TG)(tc:TT)(te:TE):TE:=fun J H Q=>a J H fun QK Z=>∀ l,Z l=none->∃ W:Nat->Nat->List V->Hp->Prop,(∃ m,W 0 m [] (upd Z l (.lst []))) /\
 ∀ i m ys H2,W i m ys H2->H2 l=some (.lst ys)/\((QK.stop i H2/\Q (.ref l) H2)\/(QK.go i H2/\∀ x Y,QK.yld i H2 x Y->g x (clr J) Y fun I b=>tc I b fun k U =>
  if k=true then te I U fun y R=>R l=some (.lst ys)/\ys.length<sizeLine/\∃ O,O<m/\W (i+1) O (ys++[y]) (upd R l (.lst (ys++[y])))else ∃ O,O<m/\W (i+1) O ys U))
structure sf(X:Cx)(scope:Scope)(tg:Expr)(ifs:List Expr)(elt:Expr)(clr:St->St)(g:TG)(tc:TT)(te:TE):Prop where
 htg:∀ cls C fp s H,PG (blk X scope cls C fp s H) tg g
 htc:∀ cls C fp s H pins s' J H' Q,Inv (blk X scope cls C fp s H) pins J H' s'->tc J H' Q->wpAny (model X.prog X.w) X.A (jj ifs (compEnvC scope cls C X.env)) (TP (blk X scope cls C fp s H) pins J Q) (fun _ _=>False) s'
 hte:∀ cls C fp s H,PE (blk X scope cls C fp s H) elt te
 HU:∀ J:St,J.length=X.N.length->Dj X scope J (clr J)
 Dm:∀ (x:V) (J:St) (H:Hp) (Q:St->Hp->Prop),g x (clr J) H Q->g x (clr J) H fun QO H2=>Q QO H2/\(clr J).length=QO.length/\∀ (i:Nat) v,(clr J)[i]?=some (some v)->QO[i]?=some (some v)
def qV{elt tg iter:Expr}{ifs:List Expr}{pos:Pos}{wi:TI}{clr:St->St}{g:TG}{tc:TT}{te:TE}{Q:VK}{RR:Value->Addr->Result->Shared->Prop}{CM:Cx->Prop}(hc:∀ {pins:List (Addr × Obj)} {J:St} {H:Hp} {s:Shared} (cls:List (Str × Addr)) (C:Addr) (fp:List Addr),Inv X pins J H s->CM (blk X scope cls C fp s H))(S:hZ scope X.env.scope cls X.env.cells)
 (hi:PI' CM X tg iter wi)(B:sf X scope tg ifs elt clr g tc te)(I:Inv X pins J H s)(h:jO wi clr g tc te J H Q)
 (hRR:∀ l C H' s',Inv X pins J H' s'->(∃ m,s'.heap.Ns C m)->H' C=none->C≠X.env.locals->X.s₀.heap.objs.size<=C->(∀ x c,X.env.cells.lookup x=some c->c≠C)->(∀ p∈X.pn++pins,p.1≠C)->Q (.ref l) H'->RR (.ref l) C (.ok .next) s') :
  wpAny (model X.prog X.w) X.A (eval iter X.env) (fun x s1=>wpAny (model X.prog X.w) X.A (pyIter x) (fun it s2=>wpAny (model X.prog X.w) X.A (newList []) (fun acc O =>
   wpAny (model X.prog X.w) X.A (newFunctionEnv scope X.env.globals cls [] X.env.qual none .none (some X.env)) (fun j M =>
    codeAny (model X.prog X.w) X.A (.compStart (.ListComp elt [⟨tg,iter,ifs,0⟩] scope pos) 0 it acc { j with scope:=relabel scope X.env }) (RR acc j.locals) M) X.xe O) X.xe s2) X.xe s1) X.xe s:=by
 refine thn (hi pins s J H _ I h) fun x s1 h1=>thn h1 fun itv s2 h2=>?_;obtain⟨it,fp,tn,QK,H2,e,I2,T,L,f2,h3⟩:=h2;subst e
 have flt:∀ b∈fp,b<s2.heap.objs.size:=fun b hb=>by
  obtain⟨o,e,_⟩:=T.obj _ _ L b hb;exact Qf e
 refine wpAny_newObj_type ?_
 have Y:Inv X pins J (upd H2 s2.heap.objs.size (.lst [])) { s2 with heap:=s2.heap.push { cls:=.type "list",dict:=none,data:=.seq ([]:List Value).toArray } } :=
  I2.laid (t':=s2.toks) (fun b u e=>J2 _ e) (Qb _) ⟨zero_le _,[],0,.nil,Qc _ rfl⟩
 have hl2:H2 s2.heap.objs.size=none:=I2.hok.fresh (Qb _);obtain⟨W,⟨m0,w0⟩,turn⟩:=h3 s2.heap.objs.size hl2
 have f3:∀ b∈fp,kH X pins (upd H2 s2.heap.objs.size (.lst [])) b/\b<(s2.heap.push { cls:=.type "list",dict:=none,data:=.seq ([]:List Value).toArray }).objs.size:=fun b hb=>by
  obtain⟨z0,z⟩:=f2 b hb;refine#[#[?_,z],?_]
  ·rw[aJ (Ql (flt b hb))];exact z0
  ·rw[Qw];exact Nat.lt_succ_of_lt (flt b hb)
 generalize hs3:({ s2 with heap:=s2.heap.push { cls:=.type "list",dict:=none,data:=.seq ([]:List Value).toArray } }:Shared)=O at Y
 have Z:O.heap=s2.heap.push { cls:=.type "list",dict:=none,data:=.seq ([]:List Value).toArray }:=by rw[<-hs3]
 rw[<-Z]at f3
 have st3:tn 0 O.heap:=T.keep _ _ _ L fun b hb o e=>by rw[Z];exact J2 _ e
 refine Fv ?_;have k4:∀ b o,O.heap.get? b=some o->(pushCells (O.heap.push { cls:=.type "dict",data:=.dict (List.toArray []) }) scope.names).get? b=some o:=fun b o e=>pushCells_keeps _ _ b o (J2 _ e);have a:(pushCells (O.heap.push { cls:=.type "dict",data:=.dict (List.toArray []) }) scope.names).Ns O.heap.objs.size (fun _=>none):=(Heap.Ns.new O.heap (.type "dict")).keeps (pushCells_keeps _ _);have f:∀ x c,(cellsFrom (O.heap.objs.size+1) scope.names cls).lookup x=some c->cls.lookup x=some c\/(pushCells (O.heap.push { cls:=.type "dict",data:=.dict (List.toArray []) }) scope.names).IsCell c none:=fun x c e=>qm scope.names (O.heap.push { cls:=.type "dict",data:=.dict (List.toArray []) }) cls x c (by rw[Qw];exact e);generalize pushCells (O.heap.push { cls:=.type "dict",data:=.dict (List.toArray []) }) scope.names=h4 at k4 a f
 have I4:Inv (blk X scope (cellsFrom (O.heap.objs.size+1) scope.names cls) O.heap.objs.size fp O (upd H2 s2.heap.objs.size (.lst []))) [] (clr J) (upd H2 s2.heap.objs.size (.lst [])) { O with heap:=h4 } :=
  EI (t:=O.toks) Y S f3 (B.HU J I.len) a k4 f
 generalize hs4:({ O with heap:=h4 }:Shared)=M at I4
 have N:M.heap=h4:=by rw[<-hs4]
 generalize hH3:upd H2 s2.heap.objs.size (.lst [])=H3 at Y I4 w0
 have K:tn 0 M.heap:=T.keep _ _ _ st3 fun b hb o e=>by rw[N];exact k4 b o e
 have fn4:∀ b∈fp,H3 b=none:=fun b hb=>by rw[<-hH3];exact(f3 b hb).1.1
 have U:∀ {H':Hp} {R:St} {s':Shared},Inv (blk X scope (cellsFrom (O.heap.objs.size+1) scope.names cls) O.heap.objs.size fp O H3) [] R H' s'->(∀ b∈fp,H' b=none)->∀ b∈fp,kH (blk X scope (cellsFrom (O.heap.objs.size+1) scope.names cls) O.heap.objs.size fp O H3) [] H' b :=
  fun {H' R s'} QK hn b hb=>#[hn b hb,(QK.ok.exf b hb).1,QK.ok.lu b hb,.inl hb,(QK.ok.exf b hb).2,fun p hp=>absurd hp (by simp[blk])]
 have fin:∀ {H':Hp} {s':Shared},Inv (blk X scope (cellsFrom (O.heap.objs.size+1) scope.names cls) O.heap.objs.size fp O H3) [] (clr J) H' s'->Q (.ref s2.heap.objs.size) H'->RR (.ref s2.heap.objs.size) O.heap.objs.size (.ok .next) s':=fun {H' s'} QK q=>by
  obtain⟨m,hn,_⟩:=QK.loc
  have J1:Inv X pins J H' s':=Y.so (s':=s') (ch:=fp) (QK.os.trans rfl) QK.base QK.hok QK.bare fun b hb=>by
   obtain⟨⟨g0,g1,g2,g3,g4,g5⟩,_⟩:=f3 b hb;exact#[g3,g1,g4,g5]
  refine hRR _ _ H' s' J1 ⟨m,hn⟩ QK.free (ne_of_gt Y.lt) Y.sz (fun x c e=>?_) (fun p hp=>?_) q
  ·obtain⟨v,z⟩:=Y.cell x c e;exact Ql z.lt
  ·exact Ql (Qf (Y.pin p hp).1)
 have loop:codeAny (model X.prog X.w) X.A (.compLoop (.ListComp elt [⟨tg,iter,ifs,0⟩] scope pos) 0 (.ref it) (.ref s2.heap.objs.size) (compEnvC scope (cellsFrom (O.heap.objs.size+1) scope.names cls) O.heap.objs.size X.env))
   (RR (.ref s2.heap.objs.size) O.heap.objs.size) M:=by
  refine yR (fun n s'=>∃ i ys H',Inv (blk X scope (cellsFrom (O.heap.objs.size+1) scope.names cls) O.heap.objs.size fp O H3) [] (clr J) H' s'/\tn i s'.heap/\(∀ b∈fp,H' b=none)/\W i n ys H') ?_ m0 ⟨0,[],H3,I4,K,fn4,w0⟩;rintro n s5 ⟨i,ys,H5,I5,G,V,w5⟩;obtain⟨hl5,tr⟩:=turn i n ys H5 w5
  rcases tr with⟨stop,qn⟩ | ⟨go,step⟩
  ·refine thn (T.done (blk X scope (cellsFrom (O.heap.objs.size+1) scope.names cls) O.heap.objs.size fp O H3) rfl rfl rfl (hc _ _ _ Y) i [] s5 (clr J) H5 (fun _ _=>False) I5 (U I5 V) G stop) fun r s6 ⟨hr,I6⟩=>?_;subst hr;exact fin I6 qn
  ·refine thn (T.item (blk X scope (cellsFrom (O.heap.objs.size+1) scope.names cls) O.heap.objs.size fp O H3) rfl rfl rfl (hc _ _ _ Y) i [] s5 (clr J) H5 (fun _ _=>False) I5 (U I5 V) G go) fun r s6 ⟨u,hr,h6⟩=>?_;subst hr;refine thn h6 fun _ s7 ⟨x,H7,I7,r7,y7,E,fr7⟩=>?_;have I7':=I7.pinned (U I7 fr7) (T.obj _ _ E)
   have back:∀ {R:St} {H':Hp} {s':Shared},Inv (blk X scope (cellsFrom (O.heap.objs.size+1) scope.names cls) O.heap.objs.size fp O H3) ([]++lZ fp s7.heap) R H' s'->(clr J).length=R.length->(∀ (i:Nat) v,(clr J)[i]?=some (some v)->R[i]?=some (some v))->(∃ m D,m<n/\W (i+1) m D H') ->
     ∃ m,m<n/\∃ i ys H',Inv (blk X scope (cellsFrom (O.heap.objs.size+1) scope.names cls) O.heap.objs.size fp O H3) [] (clr J) H' s'/\tn i s'.heap/\(∀ b∈fp,H' b=none)/\W i m ys H':=fun {R H' s'} QK el ew hw=>by
    obtain⟨m,D,hm,w8⟩:=hw;refine#[m,hm,i+1,D,H',QK.lh.weak el ew,T.keep _ _ _ E fun b hb o e=>(QK.pin (b,o) (Qr _ (Qr _ (i9 hb e)))).1,fun b hb=>?_,w8];obtain⟨o,e,d⟩:=T.obj _ _ E b hb;exact(QK.pin (b,o) (Qr _ (Qr _ (i9 hb e)))).2.1
   refine thn (B.htg _ O.heap.objs.size fp O H3 _ s7 (clr J) H7 x u _ I7' r7 (B.Dm x J H7 _ (step x H7 y7))) fun _ s8 ⟨k,H8,I8,q8,el8,ew8⟩=>?_;refine thn (B.htc _ O.heap.objs.size fp O H3 _ s8 k H8 _ I8 q8) fun ok s9 ⟨H9,I9,q9⟩=>?_
   cases ok with
   |false=>
    have q9:∃ F,F<n/\W (i+1) F ys H9:=q9;obtain⟨F,hm,w9⟩:=q9;exact back I9 el8 ew8 ⟨F,ys,hm,w9⟩
   |true=>
    refine thn (B.hte _ O.heap.objs.size fp O H3 _ s9 k H9 _ I9 q9) fun v s10 ⟨y,H10,I10,r10,P,hz,F,hm,w10⟩=>?_;refine thn (qU (X:=blk X scope (cellsFrom (O.heap.objs.size+1) scope.names cls) O.heap.objs.size fp O H3) _ s10 k H10 (.ref s2.heap.objs.size) [y] (.ref s2.heap.objs.size) [v] (fun _ H'=>H'=upd H10 s2.heap.objs.size (.lst (ys++[y]))) I10 rfl (.cons r10 .nil) ⟨_,ys,y,rfl,rfl,P,hz,rfl⟩) fun _ s11 ⟨_,H11,I11,_,e11⟩=>?_;subst e11;exact back I11 el8 ew8 ⟨F,_,hm,w10⟩
 exact codeAny_compStart_list loop (T.self _ 0 _ _ _ K loop)
def xa{elt tg iter:Expr}{ifs:List Expr}{R:Pos}{U:TI}{clr:St->St}{g:TG}{tc:TT}{te:TE}{CM:Cx->Prop}(Z:∀ {pins:List (Addr × Obj)} {J:St} {H:Hp} {s:Shared} (cls:List (Str × Addr)) (C:Addr) (fp:List Addr),Inv X pins J H s->CM (blk X scope cls C fp s H))(S:hZ scope X.env.scope cls X.env.cells)(O:closureFor scope X.env=pure cls)
 (hi:PI' CM X tg iter U)(B:sf X scope tg ifs elt clr g tc te)(Y:∀ x,foldedSetIterable iter X.env x=pure x):PE X (.ListComp elt [⟨tg,iter,ifs,0⟩] scope R) (jO U clr g tc te):=by
 lk;refine wpAny_comprehension_free rfl Y O S.kind S.loc (qV Z S hi B I h ?_);intro l C H' s' QK hn f d c2 c a q;obtain⟨m,hn⟩:=hn;exact#[m,hn,fun h' sb=>#[.ref l,H',QK.turned (fun b o hb e=>(sb.2 b hb).trans e) f (Ne.symm (Ne.symm d)) (.inr c2) c a,rfl,q]]
abbrev KL(i:Nat)(t:TE):TS:=fun D J H=>t J H fun v I=>D.nx (J.set i (some v)) I
def wV(n:X.calm=true)(r:X.N.Nodup)(Z:X.N[i]?=some y)(d:X.env.scope.names.lookup y=some .local)
 (S:hZ scope X.env.scope cls X.env.cells)(O:closureFor scope X.env=pure cls)
 (hi:PI X tg iter wi)(B:sf X scope tg ifs elt clr g tc te)(hs:∀ x,foldedSetIterable iter X.env x=pure x)
 (U:swapsWith (.ListComp elt [⟨tg,iter,ifs,0⟩] scope pos) (some (.Name y py)) spos.line X.env=pure true) :
  PS X (.Assign [.Name y py] (.ListComp elt [⟨tg,iter,ifs,0⟩] scope pos) spos) (KL i (jO wi clr g tc te)):=by
 k_all
 have back:∀ (l C:Addr) (H':Hp) (s':Shared),Inv X pins J H' s'->(∃ m,s'.heap.Ns C m)->H' C=none->C≠X.env.locals->X.s₀.heap.objs.size<=C->(∀ x c,X.env.cells.lookup x=some c->c≠C)->(∀ p∈X.pn++pins,p.1≠C)->D.nx (J.set i (some (.ref l))) H' ->
   compPost (model X.prog X.w) X.A X.xe (some (assign (.Name y py) X.env)) (fun _ s'=>SP X pins D .next s') (.ref l) C (.ok .next) s':=by
  intro l C H' s' QK hn u j c2 f t q;obtain⟨m,hn⟩:=hn;refine wpAny_assign_Name (qY (v:=.ref l) QK r Z (.inl d) rfl (fun s2 E ⟨a,sb,ha⟩=>?_) (.inr d))
  have Y:C≠a:=by
   rcases ha with z | z
   ·rw[z];exact j
   ·exact(f _ _ z).symm
  exact#[m,hn.sameBut sb Y,fun h' R=>#[J.set i (some (.ref l)),H',E.turned (fun b o hb e=>(R.2 b hb).trans e) u j (.inr c2) f t,q]]
 have core:=qV (pos:=pos) (fun _ _ _ _=>n) S hi B I h back;have whole:=wpAny_comprehension_free (pos:=iter.pos) rfl hs O S.kind S.loc core;rw[exec_Assign_Name_used (hs:=U)];cbv;apply wpAny_standAt;cbv;cbv;refine thn whole fun _ s' k=>?_;apply Qd;apply Qd;exact k
end
end L2
namespace RS
open PySem PySem.Spec PyProof.Rows L2
def gg{α:Type}{l:List α}{i:Nat}{x y:α}(e:(l.set i x)[i]?=some y):i<l.length:=by
 have:=(List.getElem?_eq_some_iff.mp e).1;simpa using this
def l0:∀ (names:List (Str × NameKind)) (I:List (Str × Addr)),(∀ x,(x,NameKind.free)∈names->∃ c,env.cells.lookup x=some c)->(∀ x c,I.lookup x=some c->env.cells.lookup x=some c) ->
  ∃ cls,(forIn names I fun(p:Str × NameKind) cs=>match p with | (name,kind)=>if(kind == NameKind.free)=true then do let c <- cellOf env name;pure (ForInStep.yield ((name,c)::cs))else pure (ForInStep.yield cs):Sem (List (Str × Addr)))=pure cls /\
   (∀ x c,cls.lookup x=some c->env.cells.lookup x=some c)/\(∀ x,(I.lookup x).isSome=true\/(x,NameKind.free)∈names->∃ c,cls.lookup x=some c)
 | [],I,_,ha=>⟨I,rfl,ha,fun x O=>by
   rcases O with h | h
   ·exact Option.isSome_iff_exists.mp h
   ·simp at h⟩
 | (n,k)::r,I,hn,ha=>by
  by_cases hk:k=.free
  ·subst hk;obtain⟨c,b⟩:=hn n Qq
   have U:∀ x c',((n,c)::I).lookup x=some c'->env.cells.lookup x=some c':=fun x c' e=>by
    rw[Qo]at e
    cases O:x == n with
    |true=>
     rw[O]at e;cases e;rw[show x=n by simpa using O];exact b
    |false=>
     rw[O]at e;exact ha x c' e
   obtain⟨cls,a,Z,Y⟩:=l0 r ((n,c)::I) (fun x O=>hn x (Qk _ O)) U;refine#[cls,?_,Z,fun x O=>Y x ?_]
   ·rw[List.forIn_cons]
    have R:cellOf env n=pure c:=by unfold cellOf;rw[b]
    simp only[beq_self_eq_true,if_true,R];exact a
   ·rcases O with h | h
    ·left;rw[Qo];split<;>simp_all
    ·rcases List.mem_cons.mp h with e | e
     ·cases e;left;simp[]
     ·exact .inr e
  ·obtain⟨cls,a,Z,Y⟩:=l0 r I (fun x O=>hn x (Qk _ O)) ha;refine#[cls,?_,Z,fun x O=>Y x ?_]
   ·rw[List.forIn_cons]
    have:(k == NameKind.free)=false:=by simpa using hk
    simp only[this,false_eq_true,if_false];exact a
   ·rcases O with h | h
    ·exact .inl h
    ·rcases List.mem_cons.mp h with e | e
     ·cases e;exact absurd rfl hk
     ·exact .inr e
def yi(h:∀ x,(x,NameKind.free)∈scope.names->∃ c,env.cells.lookup x=some c) :
  ∃ cls,closureFor scope env=pure cls/\(∀ x c,cls.lookup x=some c->env.cells.lookup x=some c)/\(∀ x,scope.names.lookup x=some .free->∃ c,cls.lookup x=some c):=by
 obtain⟨cls,I,U,R⟩:=l0 scope.names [] h (fun x c e=>by simp at e);refine#[cls,?_,U,fun x O=>R x (.inr (PySem.mem_of_lookup O))];unfold closureFor;simp only[bind_pure_comp]at I ⊢;rw[I];rfl
section
abbrev ql(K:W.Frag)(n:Nat)(t:TGs):TG:=fun v J H Q=>∃ a xs,v=.ref a/\SqL K H a xs/\xs.length=n/\t xs J H Q
end
section
def tY(h:PG X tgE t)(h':PG X tgE t'):PG X tgE (fun v J H Q=>t v J H Q\/t' v J H Q):=by
 intro pins s J H v u Q I r O;rcases O with q | q
 ·exact h pins s J H v u Q I r q
 ·exact h' pins s J H v u Q I r q
end
abbrev gs:List Nat->TGs
 | []=>JC
 | i::r=>Di (pO i) (gs r)
abbrev gT(K:W.Frag):List Nat->TG
 | [i]=>pO i
 | is=>fun v J H Q=>qK K is.length (gs is) v J H Q\/ql K is.length (gs is) v J H Q
abbrev dJ:List Nat->List V->L2.St->L2.St
 | i::is,v::vs,J=>dJ is vs (J.set i (some v))
 | _,_,J=>J
abbrev fU:List Nat->List RL.D->RL.St->RL.St
 | i::is,d::ds,J=>fU is ds (J.set i (some d))
 | _,_,J=>J
def hJ:∀ {is:List Nat} {ds:List RL.D} {J I:RL.St},RL.bI is ds J=some I->is.length=ds.length/\I=fU is ds J
 | [],[],J,I,h=>by cases h;exact#[rfl,rfl]
 | [],d::ds,J,I,h=>by cases h
 | i::is,[],J,I,h=>by cases h
 | i::is,d::ds,J,I,h=>by
  obtain⟨R,O⟩:=hJ (J:=J.set i (some d)) h;exact#[by simp[R],O]
def jv:∀ {is:List Nat} {vs:List V} {J:L2.St} {H:Hp} {Q:L2.St->Hp->Prop},is.length=vs.length->Q (dJ is vs J) H->gs is vs J H Q
 | [],[],J,H,Q,_,q=>#[rfl,q]
 | [],_::_,_,_,_,h,_=>by simp at h
 | _::_,[],_,_,_,h,_=>by simp at h
 | i::is,v::vs,J,H,Q,h,q=>#[v,vs,rfl,jv (by simpa using h) q]
def xo{K:W.Frag}(h:RL.bu tg d QL=some QS)(r:Rep nP K H d v) :
  ∃ ds vs,QS=fU tg ds QL/\tg.length=ds.length/\ae nP K H ds vs/\(d.imm=true->RL.au ds=true)/\∀ (J:L2.St) (Q:L2.St->Hp->Prop),Q (dJ tg vs J) H->gT K tg v J H Q:=by
 unfold RL.bu at h;split at h
 ·rename_i i;cases h;exact#[[d],[v],rfl,rfl,ae.cons r ae.nil,fun z=>by simp[RL.au,z],fun J Q q=>q]
 ·rename_i U
  have R:gT K tg=fun v J H Q=>qK K tg.length (gs tg) v J H Q\/ql K tg.length (gs tg) v J H Q:=by
   unfold gT;split
   ·rename_i i;exact absurd rfl (U i)
   ·rfl
  rw[R];split at h
  ·rename_i ds;obtain⟨I,Y⟩:=hJ h;obtain⟨p,xs,rfl,Z,O⟩:=bG r;exact#[ds,xs,Y,I,O,fun z=>by rw[RL.D.imm]at z;exact z,fun J Q q=>.inl #[p,xs,rfl,SqT.of Z,by rw[<-O.length,I],jv (I.trans O.length) q]]
  ·rename_i ds;obtain⟨I,Y⟩:=hJ h;obtain⟨p,xs,rfl,_,Z,O⟩:=aW r;exact⟨ds,xs,Y,I,O,fun z=>(by cases z),fun J Q q=>.inr #[p,xs,rfl,SqL.of Z,by rw[<-O.length,I],jv (I.trans O.length) q]⟩
  ·cases h
def uz:∀ (is:List Nat) (vs:List V) (J:L2.St),(dJ is vs J).length=J.length
 | [],_,_=>rfl
 | _::_,[],_=>rfl
 | i::is,v::vs,J=>by rw[dJ,uz is vs,Qz]
def qf:∀ (is:List Nat) (vs:List V) (J:L2.St) (j:Nat),is.contains j=false->(dJ is vs J)[j]?=J[j]?
 | [],_,_,_,_=>rfl
 | _::_,[],_,_,_=>rfl
 | i::is,v::vs,J,j,h=>by
  rw[contains_cons,Bool.or_eq_false_iff]at h;rw[dJ,qf is vs _ j h.2,Qe (by intro e;subst e;simp at h)]
def om:∀ (is:List Nat) (vs:List RL.D) (J:RL.St),(fU is vs J).length=J.length
 | [],_,_=>rfl
 | _::_,[],_=>rfl
 | i::is,v::vs,J=>by rw[fU,om is vs,Qz]
def mE:∀ (is:List Nat) (vs:List RL.D) (J:RL.St) (j:Nat),is.contains j=false->(fU is vs J)[j]?=J[j]?
 | [],_,_,_,_=>rfl
 | _::_,[],_,_,_=>rfl
 | i::is,v::vs,J,j,h=>by
  rw[contains_cons,Bool.or_eq_false_iff]at h;rw[fU,mE is vs _ j h.2,Qe (by intro e;subst e;simp at h)]
abbrev RVx(T:List Nat)(K:W.Frag)(I:RL.St)(J:L2.St)(H:Hp):Prop:=I.length<=J.length/\∀ (i:Nat) (d:RL.D),T.contains i=false->I[i]?=some (some d)->∃ v,J[i]?=some (some v)/\Rep nP K H d v
def RVx.set{K:W.Frag}(h:RVx (i::T) K QL J H)(r:Rep nP K H d v):RVx T K (QL.set i (some d)) (J.set i (some v)) H:=⟨by simpa using h.1,fun j dj hT e=>by
 by_cases O:j=i
 ·subst O;have I:=gg e;rw[Qi I]at e;cases e;exact#[v,by rw[Qi (Qg I h.1)],r]
 ·rw[Qe (Ne.symm O)]at e ⊢
  exact h.2 j dj (by rw[contains_cons,hT,Bool.or_false];simpa using O) e⟩
def RVx.bI{K:W.Frag}:∀ {is:List Nat} {ds:List RL.D} {vs:List V} {I:RL.St} {J:L2.St},RVx is K I J H->is.length=ds.length->ae nP K H ds vs->RV0 K (fU is ds I) (dJ is vs J) H
 | [],_,_,_,_,h,_,_=>#[h.1,fun i d e=>h.2 i d rfl e]
 | i::is,[],_,_,_,_,hl,_=>by simp at hl
 | i::is,d::ds,vs,I,J,h,hl,r=>by
  obtain⟨v,t,rfl,R,O⟩:=r;rw[fU,dJ];exact RVx.bI (h.set R) (by simpa using hl) O
def Ge{K:W.Frag}(h:gT K tg v J H Q):∃ vs,tg.length=vs.length/\Q (dJ tg vs J) H/\∀ R:L2.St->Hp->Prop,R (dJ tg vs J) H->gT K tg v J H R:=by
 have inv:∀ (is:List Nat) (xs:List V) (J:L2.St) (Q:L2.St->Hp->Prop),gs is xs J H Q->is.length=xs.length/\Q (dJ is xs J) H:=by
  intro is
  induction is with
  | nil=>intro xs J Q h;obtain⟨rfl,q⟩:=h;exact#[rfl,q]
  |cons i r b=>
   intro xs J Q h;obtain⟨v,t,rfl,q⟩:=h;obtain⟨I,O⟩:=b t _ Q q;exact#[by simp[I],O]
 unfold gT at h;split at h
 ·rename_i i;exact#[[v],rfl,h,fun R q=>q]
 ·rename_i Z
  have U:gT K tg=fun v J H Q=>qK K tg.length (gs tg) v J H Q\/ql K tg.length (gs tg) v J H Q:=by
   unfold gT;split
   ·rename_i i;exact absurd rfl (Z i)
   ·rfl
  rw[U]
  rcases h with⟨a,xs,rfl,Y,hl,hg⟩ | ⟨a,xs,rfl,Y,hl,hg⟩
  ·obtain⟨I,O⟩:=inv _ _ _ _ hg;exact#[xs,I,O,fun R q=>.inl #[a,xs,rfl,Y,hl,jv I q]]
  ·obtain⟨I,O⟩:=inv _ _ _ _ hg;exact#[xs,I,O,fun R q=>.inr #[a,xs,rfl,Y,hl,jv I q]]
abbrev iy(tg:List Nat)(J:L2.St):L2.St:=J.mapIdx fun i o=>if tg.contains i then none else o
def tO(tg:List Nat)(J:L2.St):(iy tg J).length=J.length:=by simp[iy]
def wR(h:tg.contains i=false):(iy tg J)[i]?=J[i]?:=by
 unfold iy;rw[List.getElem?_mapIdx]
 cases J[i]? with
 | none=>rfl
 | some o=>simp only[Option.map_some,h,false_eq_true,if_false]
def wa(h:tg.contains i=true):(iy tg J)[i]?≠some (some v):=by
 unfold iy;rw[List.getElem?_mapIdx]
 cases J[i]? with
 | none=>simp
 | some o=>simp only[ h];intro z;cases z
section comp
variable{X:Cx}
structure kL(X:Cx)(cl:RL.Cl)(scope:Scope)(tgE:Expr)(tg:List Nat)(elt:Expr)(e':RL.E)(tcs:TT)(ifs:List Expr):Prop where
 htg:∀ cls C fp s H,PG (blk X scope cls C fp s H) tgE (gT X.K tg)
 htc:∀ cls C fp s H pins s' J H' Q,Inv (blk X scope cls C fp s H) pins J H' s'->tcs J H' Q->wpAny (model X.prog X.w) X.A (jj ifs (compEnvC scope cls C X.env)) (TP (blk X scope cls C fp s H) pins J Q) (fun _ _=>False) s'
 hte:∀ cls C fp s H,SE (blk X scope cls C fp s H) cl elt e'
 cover:∀ (i:Nat) (x:Str),X.N[i]?=some x->scope.names.lookup x=some .local\/scope.names.lookup x=some .cell->tg.contains i=true
def kL.blk{tcs:TT}(B:kL X cl scope tgE tg elt e' tcs ifs):sf X scope tgE ifs elt (iy tg) (gT X.K tg) tcs (tE X.K cl e') where
 htg:=B.htg
 htc:=B.htc
 hte:=B.hte
 HU:=fun J hl=>⟨tO tg J,fun i x v R O=>by
  by_cases I:tg.contains i=true
  ·exact absurd O (wa I)
  ·simp only[not_eq_true]at I;rw[wR I]at O;refine#[O,fun z=>?_,fun z=>?_]
   ·rw[B.cover i x R (.inl z)]at I;cases I
   ·rw[B.cover i x R (.inr z)]at I
    cases I⟩
 Dm:=fun x J H Q h=>by
  obtain⟨vs,R,O,U⟩:=Ge h;refine U _ ⟨O,(uz _ _ _).symm,fun i v e=>?_⟩;by_cases I:tg.contains i=true
  ·exact absurd e (wa I)
  ·simp only[not_eq_true]at I;rw[qf _ _ _ _ I];exact e
def AR(h:RL.bX f tg J (d::r)=some ys):∃ I y O,RL.bu tg d J=some I/\f I=some y/\RL.bX f tg J r=some O/\RL.lE y O=some ys:=by
 obtain⟨I,Y,h⟩:=bind_some h;obtain⟨y,U,h⟩:=bind_some h;obtain⟨O,R,h⟩:=bind_some h;exact#[I,y,O,Y,U,R,h]
def wt(N:RV0 X.K QL J H)(ei:RL.bE cl QL it=some ds)(hz:ds.length<=RL.most)(hm:RL.bX f tg QL ds=some total)
 (ht:∀ I g H y (Q:Bool->Hp->Prop),RV0 X.K I g H->f I=some y->(∀ k H',aw H H'->(if k=true then ∃ d,y=some d/\RL.ev cl I e'=some d else y=none)->Q k H')->tcs g H Q)
 (k:∀ l H',aw H H'->H l=none->(∃ xs,H' l=some (.lst xs)/\ae nP X.K H' total xs)->Q (.ref l) H'):jO (tI X.K cl it) (iy tg) (gT X.K tg) tcs (tE X.K cl e') J H Q:=by
 refine#[QL,ds,N,ei,fun QK V s1 E l hl=>?_];obtain⟨ok,_⟩:=E
 refine⟨fun i m xs H2=>∃ O rest,m=ds.length-i/\i<=ds.length/\aw V H2/\H2 l=some (.lst xs)/\ae (fun p=>p=l) X.K H2 O xs/\RL.bX f tg QL (ds.drop i)=some rest/\O++rest=total/\O.length<=i,
  ⟨_,[],total,rfl,zero_le _,aw.bU hl,aV,ae.nil,hm,rfl,Qb _⟩,?_⟩
 rintro i m xs H2 ⟨O,rest,rfl,hi,s2,c,G,C,R,M⟩;refine#[c,?_];have off:Off nP V H2:=Off.same s2;by_cases U:i<ds.length
 ·refine .inr #[ok.go H2 i off U,fun x A y=>?_]
  have hd:ds[i]?=some ds[i]:=by simp[U]
  obtain⟨n,rp⟩:=ok.yld H2 i ds[i] x A off hd y;have rp:=rp (.inr s2);rw[List.drop_eq_getElem_cons U]at C;obtain⟨I,D,Y,h1,h2,S,Z⟩:=AR C;obtain⟨dv,vs,e1,e2,e3,_,e5⟩:=xo h1 rp;refine e5 _ _ ?_;have q:RV0 X.K QL J A:=N.same ((s1.trans s2).trans n)
  have F:RVx tg X.K QL (iy tg J) A:=#[by rw[tO];exact q.1,fun j d hT e=>by rw[wR hT];exact q.2 j d e]
  have r:RV0 X.K I (dJ tg vs (iy tg J)) A:=by rw[e1];exact F.bI e2 e3
  refine ht I _ A D _ r h2 fun t T h B=>?_;have a:T l=some (.lst xs):=h _ _ (n _ _ c);have s:ae (fun p=>p=l) X.K T O xs:=(G.same n).same h
  cases t with
  |true=>
   obtain⟨d,rfl,hv⟩:=(show ∃ d,D=some d/\RL.ev cl I e'=some d from B)
   have w:d.imm=true/\rest=d::Y:=by
    unfold RL.lE at Z;dsimp only at Z;split at Z
    ·rename_i hh;cases Z;exact#[hh,rfl]
    ·cases Z
   refine fW ⟨I,d,r.same h,hv,fun v H6 u=>#[u.same _ _ a,?_,ds.length-(i+1),by lia,O++[d],Y,rfl,U,?_,aV,?_,S,?_,?_]⟩
   ·rw[<-G.length];exact Qg (Nat.lt_of_le_of_lt M (Qg U hz)) (le_of_lt ∅)
   ·intro b o e;have hb:b≠l:=aP e hl;rw[aJ hb];exact u.same _ _ (h _ _ (n _ _ (s2 _ _ e)))
   ·exact ae.upd (P:=fun p=>p=l) (u.same _ _ a) (.inl #[_,rfl]) rfl (ae.append (s.same u.same) (ae.cons (u.rep.imm w.1) ae.nil))
   ·rw[<-R,w.2,QJ];rfl
   ·rw[length_append,List.length_singleton];lia
  |false=>
   have B:D=none:=B;subst B
   have L:rest=Y:=by
    unfold RL.lE at Z;dsimp only at Z;cases Z;rfl
   refine gC ⟨ds.length-(i+1),by lia,O,Y,rfl,U,(s2.trans n).trans h,a,s,S,by rw[<-R,L],by lia⟩
 ·have e:i=ds.length:=by lia
  subst e;refine .inl #[ok.stop H2 off,k l H2 (s1.trans s2) (s1.free hl) #[xs,c,?_]];rw[List.drop_length,RL.bX]at C;cases C;rw[QA]at R;rw[<-R];exact ae.weak (fun _ z=>z.elim) G
end comp
section comp
variable{X:Cx}
structure qt(scope sc:Scope):Prop where
 kind:scope.kind=.function
 own:∀ x∈scope.names,x.2=.cell->scope.names.lookup x.1=some .cell
 loc:∀ x∈scope.names,x.2=.local->scope.names.lookup x.1=some .local
 vis:∀ x∈scope.names,x.2=.free->sc.names.lookup x.1=some .cell\/sc.names.lookup x.1=some .free
def iB(S:qt scope X.env.scope)(I:Inv X pins J H s):∃ cls,closureFor scope X.env=pure cls/\hZ scope X.env.scope cls X.env.cells:=by
 obtain⟨cls,Y,U,R⟩:=yi fun x O=>I.ok.has x (S.vis _ O rfl);exact#[cls,Y,S.kind,S.own,S.loc,U,R,fun x O=>S.vis _ (PySem.mem_of_lookup O) rfl]
def uv(sm:aw H H')(hl:H l=none)(h:∃ xs,H' l=some (.lst xs)/\ae nP X.K H' total xs)(I:∀ M,RL.avE M e=false):Res X.K QL J H e (.lst total) (.ref l) H' where
 same:=sm
 rep:=by
  obtain⟨xs,R,O⟩:=h;exact#[l,xs,rfl,fun z=>z,R,O]
 fresh:=fun _ _ a z=>by cases z;exact hl
 av:=fun M z=>by rw[I M]at z;cases z
abbrev oJ:TT:=fun _ H Q=>Q true H
def tj(h:tE X.K cl (.compA e' tg it) J H Q):jO (tI X.K cl it) (iy tg) (gT X.K tg) oJ (tE X.K cl e') J H Q:=by
 obtain⟨R,d,Z,e,k⟩:=h;obtain⟨ds,m,e⟩:=bind_some e;obtain⟨n,I,e⟩:=bind_some e;obtain⟨total,j,i⟩:=map_some e;unfold RL.fits at I;split at I
 ·rename_i a;cases I;subst i;refine wt Z m a j (fun U O H y Q Y b q=>?_) fun l H' sm hl c=>k _ _ (uv sm hl c fun _=>rfl);obtain⟨d,g,f⟩:=map_some b;exact q true H (aw.refl H) (fW ⟨d,f.symm,g⟩)
 ·cases I
def sS(h:tE X.K cl (.comp e' tg it c') J H Q):jO (tI X.K cl it) (iy tg) (gT X.K tg) (tT X.K cl c') (tE X.K cl e') J H Q:=by
 obtain⟨Z,d,a,e,k⟩:=h;obtain⟨ds,o,e⟩:=bind_some e;obtain⟨p,O,e⟩:=bind_some e;obtain⟨total,n,m⟩:=map_some e;unfold RL.fits at O;split at O
 ·rename_i b;cases O;subst m;refine wt a o b n (fun I Y H y Q R c q=>?_) fun l H' sm hl f=>k _ _ (uv sm hl f fun _=>rfl);obtain⟨t,j,U⟩:=bind_some c;refine#[I,t,R,j,fun H' sm=>q t H' sm ?_]
  cases t with
  |true=>
   obtain⟨d,i,g⟩:=map_some (show(RL.ev cl I e').map some=some y from U);exact fW ⟨d,g.symm,i⟩
  |false=>
   cases(show(some none:Option (Option RL.D))=some y from U);exact gC rfl
 ·cases O
def Co(R:X.calm=true)(S:qt scope X.env.scope)(hi:SI X cl tgE iter it)(B:kL X cl scope tgE tg elt e' oJ [])(O:∀ x,foldedSetIterable iter X.env x=pure x):SE X cl (.ListComp elt [⟨tgE,iter,[],0⟩] scope pos) (.compA e' tg it):=by
 lk;obtain⟨cls,Y,U⟩:=iB S I;exact xa (fun _ _ _ _=>R) U Y hi B.blk O pins s J H Q I (tj h)
def vm(R:∀ {pins:List (Addr × Obj)} {J:L2.St} {H:Hp} {s:Shared} (cls:List (Str × Addr)) (C:Addr) (fp:List Addr),Inv X pins J H s->CM (blk X scope cls C fp s H))(S:qt scope X.env.scope)(hi:PI' CM X tgE iter (tI X.K cl it))(B:kL X cl scope tgE tg elt e' (tT X.K cl c') [c])(O:∀ x,foldedSetIterable iter X.env x=pure x):SE X cl (.ListComp elt [⟨tgE,iter,[c],0⟩] scope pos) (.comp e' tg it c'):=by
 lk;obtain⟨cls,Y,U⟩:=iB S I;exact xa R U Y hi B.blk O pins s J H Q I (sS h)
abbrev SA(X:Cx)(cl:RL.Cl)(st:Stmt)(i:Nat)(e':RL.E):Prop:=PS X st (fun D J H=>tE X.K cl e' J H fun v I=>D.nx (J.set i (some v)) I)
def PS.weak{st:Stmt}(h:PS X st t)(w:∀ D J H,t' D J H->t D J H):PS X st t':=fun pins s J H D I q=>h pins s J H D I (w D J H q)
def PSs.weak{st:List Stmt}(h:PSs X st t)(w:∀ D J H,t' D J H->t D J H):PSs X st t':=fun pins s J H D I q=>h pins s J H D I (w D J H q)
def BQ(Z:X.calm=true)(a:X.N.Nodup)(R:X.N[i]?=some y)(U:X.env.scope.names.lookup y=some .local)(S:qt scope X.env.scope)(hi:SI X cl tgE iter it)(B:kL X cl scope tgE tg elt e' oJ [])(Y:∀ x,foldedSetIterable iter X.env x=pure x)
 (O:swapsWith (.ListComp elt [⟨tgE,iter,[],0⟩] scope pos) (some (.Name y py)) spos.line X.env=pure true):SA X cl (.Assign [.Name y py] (.ListComp elt [⟨tgE,iter,[],0⟩] scope pos) spos) i (.compA e' tg it):=by
 k_all;obtain⟨cls,c,b⟩:=iB S I;exact wV Z a R U b c hi B.blk Y O pins s J H D I (tj h)
def AX(Z:X.calm=true)(a:X.N.Nodup)(R:X.N[i]?=some y)(U:X.env.scope.names.lookup y=some .local)(S:qt scope X.env.scope)(hi:SI X cl tgE iter it)(B:kL X cl scope tgE tg elt e' (tT X.K cl c') [c])(Y:∀ x,foldedSetIterable iter X.env x=pure x)
 (O:swapsWith (.ListComp elt [⟨tgE,iter,[c],0⟩] scope pos) (some (.Name y py)) spos.line X.env=pure true):SA X cl (.Assign [.Name y py] (.ListComp elt [⟨tgE,iter,[c],0⟩] scope pos) spos) i (.comp e' tg it c'):=by
 k_all;obtain⟨cls,d,b⟩:=iB S I;exact wV Z a R U b d hi B.blk Y O pins s J H D I (sS h)
def Cs(Z:X.N.Nodup)(I:X.N[i]?=some y)(O:Loc X.env.scope y)(Y:SE X cl e e')(hf:X.fn y=true\/X.env.scope.names.lookup y=some .local)(R:swapsWith e (some (.Name y py)) spos.line X.env=pure false)(U:True):SA X cl (.Assign [.Name y py] e spos) i e':=by
 exact tq Z I O Y R hf
end comp
abbrev bD(M:List Nat)(J:L2.St):Addr->Prop:=fun a=>∃ i,M.contains i=true/\J[i]?=some (some (.ref a))
abbrev Own(K:W.Frag)(H:Hp)(d:RL.D)(v:V):Prop:=nU d=true/\RL.aG d=true/\Rep nP K H d v
structure RVm(K:W.Frag)(M:List Nat)(QL:RL.St)(J:L2.St)(H:Hp):Prop where
 len:QL.length=J.length
 val:∀ (i:Nat) (d:RL.D),QL[i]?=some (some d)->∃ v,J[i]?=some (some v)/\(if M.contains i=true then Own K H d v else Rep (bD M J) K H d v)
 non:∀ (i:Nat) (v:V),J[i]?=some (some v)->∃ d,QL[i]?=some (some d)
 sep:∀ (i j:Nat) (a:Addr),M.contains i=true->M.contains j=true->J[i]?=some (some (.ref a))->J[j]?=some (some (.ref a))->i=j
abbrev Fr'(M:List Nat)(J:L2.St)(H:Hp)(I:L2.St)(H':Hp):Prop:=(∀ b o,H b=some o->¬ bD M J b->H' b=some o/\¬ bD M I b)/\∀ j,2<=M.count j->I[j]?=J[j]?
def Fr'.trans(a:Fr' M J H QN H1)(b:Fr' M QN H1 QO H2):Fr' M J H QO H2:=#[fun c o e n=>b.1 c o (a.1 c o e n).1 (a.1 c o e n).2,fun j I=>(b.2 j I).trans (a.2 j I)]
def Fr'.same(s:aw H H1):Fr' M J H J H1:=#[fun c o e n=>#[s _ _ e,n],fun _ _=>rfl]
def ke{M:List Nat}(h:2<=M.count j):M.contains j=true:=by
 have:0<M.count j:=by lia
 simpa using List.count_pos_iff.mp this
section st
variable{K:W.Frag}
def Own.ref(h:Own K H d v):∃ a o,v=.ref a/\H a=some o/\d6 o:=by
 obtain⟨m,_,r⟩:=h
 cases d with
 | lst ds=>obtain⟨a,xs,O,_,I,_⟩:=aW r;exact#[a,_,O,I,.inl #[_,rfl]]
 | dK ks ds=>rw[Rep]at r;obtain⟨a,xs,O,_,I,_⟩:=r;exact#[a,_,O,I,.inr (.inl #[_,rfl])]
 | dT ks ds=>rw[Rep]at r;obtain⟨a,xs,O,_,I,_⟩:=r;exact#[a,_,O,I,.inr (.inr #[_,rfl])]
 | _=>cases m
def RVm.rv0(h:RVm K M QL J H):RV0 K QL J H:=⟨le_of_eq h.len,fun i d e=>by
 obtain⟨v,O,I⟩:=h.val i d e;refine#[v,O,?_];by_cases hm:M.contains i=true
 ·rw[if_pos hm]at I;exact I.2.2
 ·rw[if_neg hm]at I
  exact I.none⟩
def RVm.xU(h:RVm K M QL J H):∀ a,bD M J a->∃ o,H a=some o/\d6 o:=fun a ⟨i,hi,e⟩=>by
 obtain⟨d,hd⟩:=h.non i _ e;obtain⟨v,O,I⟩:=h.val i d hd;rw[if_pos hi]at I;obtain⟨b,o,Y,U,R⟩:=I.ref;rw[e]at O;cases O;cases Y;exact#[o,U,R]
def RVm.uX(h:RVm K M QL J H):∀ a,bD M J a->H a≠none:=fun a p=>by
 obtain⟨o,e,_⟩:=h.xU a p;rw[e]
 exact fun z=>nomatch z
def Own.same(h:Own K H d v)(s:aw H H1):Own K H1 d v:=#[h.1,h.2.1,h.2.2.same s]
def RVm.same(h:RVm K M QL J H)(s:aw H H1):RVm K M QL J H1:=⟨h.len,fun i d e=>by
 obtain⟨v,O,I⟩:=h.val i d e;refine#[v,O,?_];by_cases hm:M.contains i=true
 ·rw[if_pos hm]at I ⊢;exact I.same s
 ·rw[if_neg hm]at I ⊢
  exact I.same s,h.non,h.sep⟩
def bD.set(hi:M.contains i=false):bD M (J.set i (some v))=bD M J:=by
 funext a;apply propext;constructor
 ·rintro⟨j,O,e⟩
  have I:i≠j:=fun z=>by subst z;rw[hi]at O;cases O
  rw[Qe I]at e;exact#[j,O,e]
 ·rintro⟨j,O,e⟩
  have I:i≠j:=fun z=>by subst z;rw[hi]at O;cases O
  exact#[j,O,by rw[Qe I];exact e]
def RVm.bind(h:RVm K M QL J H)(hi:M.contains i=false)(r:Rep (bD M J) K H d v):RVm K M (QL.set i (some d)) (J.set i (some v)) H where
 len:=by simpa using h.len
 val:=fun j dj e=>by
  rw[bD.set hi];by_cases O:j=i
  ·subst O;have I:=gg e;rw[Qi I]at e;cases e;refine#[v,by rw[Qi (by rw[<-h.len];exact I)],?_];rw[if_neg (by rw[hi];decide)];exact r
  ·rw[Qe (Ne.symm O)]at e ⊢;exact h.val j dj e
 non:=fun j w e=>by
  by_cases O:j=i
  ·subst O;have I:=gg e;exact#[d,by rw[Qi (by rw[h.len];exact I)]]
  ·rw[Qe (Ne.symm O)]at e ⊢;exact h.non j w e
 sep:=fun j k a O hk U R=>by
  have Z:i≠j:=fun z=>by subst z;rw[hi]at O;cases O
  have Y:i≠k:=fun z=>by subst z;rw[hi]at hk;cases hk
  rw[Qe Z]at U;rw[Qe Y]at R;exact h.sep j k a O hk U R
def Fr'.bind{i:Nat}(hi:M.contains i=false)(s:aw H H1):Fr' M J H (J.set i (some v)) H1:=⟨fun b o e n=>#[s _ _ e,by rw[bD.set hi];exact n],fun j I=>Qe (fun z=>by subst z;rw[ke I]at hi;cases hi)⟩
end st
mutual
theorem Rep.eD{P:Addr->Prop}{K:W.Frag}{H:Hp}{a:Addr}(ha:H a=none):∀ {d:RL.D} {v:V},Rep P K H d v->Rep (fun p=>P p\/p=a) K H d v
 | .non,v,h=>by simpa[Rep]using h
 | .bl _,v,h=>by simpa[Rep]using h
 | .int _,v,h=>by simpa[Rep]using h
 | .str _,v,h=>by simpa[Rep]using h
 | .tup ds,v,h=>by
  k_ne;obtain⟨b,xs,R,I,O⟩:=h;exact#[b,xs,R,I,ae.eD ha O]
 | .lst ds,v,h=>by
  k_ne;obtain⟨b,xs,R,Y,I,O⟩:=h;exact#[b,xs,R,fun z=>z.elim Y (fun q=>aP I ha q),I,ae.eD ha O]
 | .dK ks ds,v,h=>by
  k_ne;obtain⟨b,xs,R,Y,I,U,O⟩:=h;exact#[b,xs,R,fun z=>z.elim Y (fun q=>aP I ha q),I,U,ae.eD ha O]
 | .dT ks ds,v,h=>by
  k_ne;obtain⟨b,xs,R,Y,I,U,O⟩:=h;exact#[b,xs,R,fun z=>z.elim Y (fun q=>aP I ha q),I,U,ae.eD ha O]
 | .scr ds,v,h=>by
  k_ne;obtain⟨b,xs,R,I,O⟩:=h;exact#[b,xs,R,I,ae.eD ha O]
 | .exc c,v,h=>by rw[Rep]at h ⊢;exact h
 | .obj,v,h=>by rw[Rep]at h ⊢;exact h
 | .fT ks ds,v,h=>by rw[Rep]at h ⊢;obtain⟨b,o,xs,R,I,U,O⟩:=h;exact#[b,o,xs,R,I,U,ae.eD ha O]
 | .fL ds,v,h=>by rw[Rep]at h ⊢;obtain⟨b,o,xs,R,I,O⟩:=h;exact#[b,o,xs,R,I,ae.eD ha O]
theorem ae.eD{P:Addr->Prop}{K:W.Frag}{H:Hp}{a:Addr}(ha:H a=none):∀ {ds:List RL.D} {xs:List V},ae P K H ds xs->ae (fun p=>P p\/p=a) K H ds xs
 | [],xs,h=>by rw[ae]at h ⊢;exact h
 | d::r,xs,h=>by
  rw[ae]at h ⊢;obtain⟨x,t,R,O,I⟩:=h;exact#[x,t,R,Rep.eD ha O,ae.eD ha I]
end
def Rep.top{K:W.Frag}{P:Addr->Prop}(rp:Rep nP K H d v)(U:RL.aG d=true)(fr:nU d=true->∀ a,v=.ref a->¬ P a):Rep P K H d v:=by
 cases d with
 | lst ds=>obtain⟨a,xs,I,Z,R,O⟩:=aW rp;rw[Rep];exact#[a,xs,I,fr rfl a I,R,O.imm U]
 | dK ks ds=>rw[Rep]at rp ⊢;obtain⟨a,xs,I,Z,R,Y,O⟩:=rp;exact#[a,xs,I,fr rfl a I,R,Y,O.imm U]
 | dT ks ds=>rw[Rep]at rp ⊢;obtain⟨a,xs,I,Z,R,Y,O⟩:=rp;exact#[a,xs,I,fr rfl a I,R,Y,O.imm U]
 | _=>cases U
section st
variable{K:W.Frag}
def RVm.own(h:RVm K M QL J H)(s:aw H H1)(hi:M.contains i=true)(f:M.count i<2)(ha:H a=none)(r:Own K H1 d (.ref a)):RVm K M (QL.set i (some d)) (J.set i (some (.ref a))) H1/\Fr' M J H (J.set i (some (.ref a))) H1:=by
 have sub:∀ b,bD M (J.set i (some (.ref a))) b->bD M J b\/b=a:=fun b ⟨j,O,e⟩=>by
  by_cases Z:j=i
  ·subst Z;have I:=gg e;rw[Qi I]at e;cases e;exact .inr rfl
  ·rw[Qe (Ne.symm Z)]at e;exact .inl #[j,O,e]
 have old:∀ b,bD M J b->b≠a:=fun b p z=>h.uX b p (z▸ha);refine#[#[by simpa using h.len,fun j dj e=>?_,fun j w e=>?_,fun j k b O hk Y U=>?_],#[fun b o e n=>#[s _ _ e,fun z=>(sub b z).elim n fun q=>aP e ha q],fun j O=>Qe (fun z=>by subst z;lia)]]
 ·by_cases O:j=i
  ·subst O;have I:=gg e;rw[Qi I]at e;cases e;refine#[.ref a,by rw[Qi (by rw[<-h.len];exact I)],?_];rw[if_pos hi];exact r
  ·rw[Qe (Ne.symm O)]at e ⊢;obtain⟨v,c,R⟩:=h.val j dj e;refine#[v,c,?_];by_cases hm:M.contains j=true
   ·rw[if_pos hm]at R ⊢;exact R.same s
   ·rw[if_neg hm]at R ⊢;exact((R.eD ha).weak sub).same s
 ·by_cases O:j=i
  ·subst O;have I:=gg e;exact#[d,by rw[Qi (by rw[h.len];exact I)]]
  ·rw[Qe (Ne.symm O)]at e ⊢;exact h.non j w e
 ·by_cases c:j=i
  ·by_cases R:k=i
   ·rw[c,R]
   ·subst c;have I:=gg Y;rw[Qi I]at Y;rw[Qe (Ne.symm R)]at U;cases Y;exact absurd rfl (old _ ⟨k,hk,U⟩)
  ·rw[Qe (Ne.symm c)]at Y;by_cases R:k=i
   ·subst R;have I:=gg U;rw[Qi I]at U;cases U;exact absurd rfl (old _ ⟨j,O,Y⟩)
   ·rw[Qe (Ne.symm R)]at U;exact h.sep j k b O hk Y U
def RVm.jX(h:RVm K M QL J H)(hi:M.contains i=true)(e:J[i]?=some (some (.ref a)))(ha:H a=some o)(m:d6 o)(r:Own K (upd H a o') d' (.ref a)):RVm K M (QL.set i (some d')) J (upd H a o')/\Fr' M J H J (upd H a o'):=by
 have pa:bD M J a:=#[i,hi,e]
 refine#[#[by simpa using h.len,fun j dj e'=>?_,fun j w e'=>?_,h.sep],#[fun b u x n=>#[?_,n],fun _ _=>rfl]]
 ·by_cases R:j=i
  ·subst R;have O:=gg e';rw[Qi O]at e';cases e';refine#[.ref a,e,?_];rw[if_pos hi];exact r
  ·rw[Qe (Ne.symm R)]at e';obtain⟨v,q,Y⟩:=h.val j dj e';refine#[v,q,?_];by_cases hm:M.contains j=true
   ·rw[if_pos hm]at Y ⊢;obtain⟨b,ob,rfl,hb,_⟩:=Y.ref
    have I:b≠a:=fun z=>by subst z;exact R (h.sep j i b hm hi q e)
    obtain⟨l,f,U⟩:=Y;refine#[l,f,?_];have g:∀ {ds:List RL.D} {xs:List V},RL.au ds=true->ae nP K H ds xs->ae nP K (L2.upd H a o') ds xs:=fun hi r=>(ae.upd (P:=fun p=>p=a) ha m rfl (r.imm hi)).imm hi
    cases dj with
    | lst ds=>obtain⟨t,xs,d,s,c,Z⟩:=aW U;cases d;rw[Rep];exact#[b,xs,rfl,fun z=>z,by rw[L2.aJ I];exact c,g f Z]
    | dK ks ds=>rw[Rep]at U ⊢;obtain⟨t,xs,d,s,c,k,Z⟩:=U;cases d;exact#[b,xs,rfl,fun z=>z,by rw[L2.aJ I];exact c,k,g f Z]
    | dT ks ds=>rw[Rep]at U ⊢;obtain⟨t,xs,d,s,c,k,Z⟩:=U;cases d;exact#[b,xs,rfl,fun z=>z,by rw[L2.aJ I];exact c,k,g f Z]
    | _=>cases l
   ·rw[if_neg hm]at Y ⊢;exact Rep.upd ha m pa Y
 ·obtain⟨dj,hd⟩:=h.non j w e';by_cases R:j=i
  ·subst R;have O:=(List.getElem?_eq_some_iff.mp hd).1;exact#[d',by rw[Qi O]]
  ·exact#[dj,by rw[Qe (Ne.symm R)];exact hd]
 ·have hb:b≠a:=fun z=>n (z▸pa);rw[L2.aJ hb];exact x
end st
abbrev sT(K:W.Frag)(M:List Nat)(D:Ends)(J:L2.St)(H:Hp):RL.Out->RL.St->Prop
 | .nx,I=>∀ R H',RVm K M I R H'->Fr' M J H R H'->D.nx R H'
 | .rt d,I=>∀ O U v H',RVm K M I O U->Fr' M J H O U->aw U H'->(∀ P:Addr->Prop,(∀ p,P p->U p≠none/\¬ bD M O p)->Rep P K H' d v)->D.rt v H'
def sT.from{K:W.Frag}(h:sT K M D J H r QP)(f:Fr' M J H I Y):sT K M D I Y r QP:=by
 cases r with
 | nx=>exact fun U H2 O R=>h U H2 O (f.trans R)
 | rt d=>exact fun I Y v H2 O R sm rp=>h I Y v H2 O (f.trans R) sm rp
abbrev tS(K:W.Frag)(M:List Nat)(f:RL.St->Option (RL.Out × RL.St)):TS:=fun D J H=>∃ O r I,RVm K M O J H/\f O=some (r,I)/\sT K M D J H r I
abbrev SS(X:Cx)(cl:RL.Cl)(M:List Nat)(st:Stmt)(s:RL.S):Prop:=PS X st (tS X.K M (RL.evS cl M s))
abbrev SSs(X:Cx)(cl:RL.Cl)(M:List Nat)(st:List Stmt)(s:RL.Ss):Prop:=PSs X st (tS X.K M (RL.af cl M s))
section rules
variable{st:Stmt}{i j:Nat}
def Er:SSs X cl M [] .nil:=by
 refine PSs.weak Fm fun D J H h=>?_;obtain⟨O,r,I,R,e,k⟩:=h;cases e;exact k J H R (Fr'.same (aw.refl H))
def BA(g:SS X cl M st s)(f:SSs X cl M sts r):SSs X cl M (st::sts) (.cons s r):=by
 refine PSs.weak (nL g f) fun D J H h=>?_;obtain⟨R,o,I,c,e,k⟩:=h;obtain⟨p,i,a⟩:=bind_some e;obtain⟨Z,O⟩:=p;refine#[R,Z,O,c,i,?_]
 cases Z with
 |rt d=>
  cases a;exact k
 |nx=>
  exact fun b H' U Y=>#[O,o,I,U,a,k.from Y]
def FN(h:SA X cl st i e')(hi:M.contains i=false):SS X cl M st (.asg i e'):=by
 refine PS.weak h fun D J H h=>?_;obtain⟨R,o,Y,O,e,k⟩:=h;obtain⟨d,l,U⟩:=bind_some e;split at U
 ·rename_i ok;cases U;refine#[R,d,O.rv0,l,fun v r I=>k _ _ ?_ (Fr'.bind hi I.same)];refine(O.same I.same).bind hi ?_;unfold RL.aX at ok;rw[or_eq_true,or_eq_true,and_eq_true]at ok;rcases ok with(q | ⟨q1,q2⟩) | q
  ·exact I.rep.imm q
  ·have rp:=I.rep;have fr:=fun m a z p=>O.uX a p (I.fresh q2 m a z);exact rp.top q1 fr
  ·refine I.av M q _ O.uX fun j dj vj c g f=>?_;obtain⟨n,b,Z⟩:=O.val j dj g;rw[f]at b;cases b;rw[if_neg (by rw[c];decide)]at Z;exact Z
 ·cases U
def Js(h:SA X cl st i e')(hi:M.contains i=true)(R:M.count i<2):SS X cl M st (.own i e'):=by
 refine PS.weak h fun D J H h=>?_;obtain⟨I,o,Y,Z,e,k⟩:=h;obtain⟨d,g,U⟩:=bind_some e;split at U
 ·rename_i ok;cases U;rw[and_eq_true]at ok;refine#[I,d,Z.rv0,g,fun v j O=>?_]
  have m:nU d=true:=by
   cases d with
   | lst _=>rfl
   | dK _ _=>rfl
   | dT _ _=>rfl
   | _=>cases ok.1
  have b:Own X.K j d v:=#[m,ok.1,O.rep]
  obtain⟨a,ob,rfl,_,_⟩:=b.ref;obtain⟨f,c⟩:=Z.own O.same hi R (O.fresh ok.2 m a rfl) b;exact k _ _ f c
 ·cases U
def JW{c:Expr}(Z:ST X cl c c')(ha:SSs X cl M a a')(hb:SSs X cl M b b'):SS X cl M (.If c a b pos) (.ife c' a' b'):=by
 refine PS.weak (y8 Z ha hb) fun D J H h=>?_;obtain⟨O,o,I,R,e,k⟩:=h;obtain⟨t,d,Y⟩:=bind_some e;refine#[O,t,R.rv0,d,fun f s1=>?_];have U:=k.from (Fr'.same (J:=J) s1)
 cases t with
 | true=>exact fW ⟨O,o,I,R.same s1,Y,U⟩
 | false=>exact gC ⟨O,o,I,R.same s1,Y,U⟩
def Hq(f:SE X cl e e')(c:∀ i,e'=.var i->M.contains i=false):SS X cl M (.Return (some e) pos) (.ret e'):=by
 refine PS.weak (uN f) fun D J H h=>?_;obtain⟨O,o,U,Y,ev,k⟩:=h;obtain⟨d,j,R⟩:=bind_some ev;split at R
 ·rename_i ok;cases R;refine#[O,d,Y.rv0,j,fun v l I=>k J H v l Y (Fr'.same (aw.refl H)) I.same fun P g=>?_];unfold RL.bf at ok;rw[or_eq_true,and_eq_true,or_eq_true]at ok
  rcases ok with q | ⟨b,Z⟩
  ·exact I.rep.imm q
  ·have rp:=I.rep
   have fr:nU d=true->∀ a,v=.ref a->¬ P a:=fun m a z p=>by
    rcases Z with q | q
    ·exact(g a p).1 (I.fresh q m a z)
    ·cases e' with
     |var i=>
      have hi:M.contains i=true:=q;rw[c i rfl]at hi;cases hi
     | _=>cases q
   exact rp.top b fr
 ·cases R
def Fc(n:X.N[i]?=some x)(l:Vis X.env.scope x)(hd:(x == ("__debug__" : Str))=false)(U:(x == ("__classdict__" : Str))=false)(hi:M.contains i=true):SS X cl M (.Return (some (.Name x p)) pos) (.ret (.var i)):=by
 refine PS.weak (uN (jh n l hd U)) fun D J H h=>?_;obtain⟨R,o,Z,c,e,k⟩:=h;obtain⟨d,r,Y⟩:=bind_some e;split at Y
 ·cases Y
  have q:R[i]?=some (some d):=by
   obtain⟨o,O,I⟩:=bind_some r
   cases o with
   | none=>cases I
   | some z=>cases I;exact O
  obtain⟨v,O,I⟩:=c.val i d q;rw[if_pos hi]at I;refine#[v,O,k J H v H c (Fr'.same (aw.refl H)) (aw.refl H) fun P m=>?_];obtain⟨a,o,rfl,_,_⟩:=I.ref;have j:¬ P a:=fun p=>(m a p).2 ⟨i,hi,O⟩;obtain⟨s,g,f⟩:=I
  exact f.top g fun _ b z=>by cases z;exact j
 ·cases Y
def slot_get{I:RL.St}(h:(I[i]?).bind id=some d):I[i]?=some (some d):=by
 obtain⟨o,R,O⟩:=bind_some h
 cases o with
 | none=>cases O
 | some z=>cases O;exact R
def Ji(h:PS X st (si (tBM X.K "list" vX (k6 i) (tEs X.K cl %[e'|_]))))(hi:M.contains i=true):SS X cl M st (.app i e'):=by
 refine PS.weak h fun D J H h=>?_;obtain⟨R,o,Z,U,e,k⟩:=h;obtain⟨d,C,B⟩:=bind_some e;obtain⟨l,A,I⟩:=bind_some B
 cases l with
 |lst ds=>
  dsimp only at I;split at I
  ·rename_i ok;cases I;rw[and_eq_true,decide_eq_true_eq]at ok;obtain⟨v,g,f⟩:=U.val i _ (slot_get A);rw[if_pos hi]at f;obtain⟨F,s,q⟩:=f;obtain⟨a,xs,rfl,_,O,j⟩:=aW q;refine#[.ref a,g,.inl #[rfl,xs,SqL.of O],R,[d],U.rv0,by rw[RL.evs,C];rfl,fun vs E s1 c=>?_];rw[ae]at c;obtain⟨y,t,rfl,n,b⟩:=c;rw[ae]at b;subst b
   have hl:xs.length<sizeLine:=by rw[<-j.length];exact Qg ok.2 cD
   refine#[a,xs,y,rfl,rfl,s1 _ _ O,hl,?_]
   have Y:RL.au (ds++[d])=true:=by
    have:∀ l:List RL.D,RL.au l=true->RL.au (l++[d])=true:=fun l=>by
     induction l with
     | nil=>intro _;simp[RL.au,ok.1]
     | cons z r u=>intro h;rw[RL.au,and_eq_true]at h;rw[List.cons_append,RL.au,h.1,u h.2];rfl
    exact this ds s
   have m:ae nP X.K (upd E a (.lst (xs++[y]))) (ds++[d]) (xs++[y]):=(ae.upd (P:=fun p=>p=a) (s1 _ _ O) (.inl #[_,rfl]) rfl ((ae.append (j.same s1) (ae.cons n ae.nil)).imm Y)).imm Y;obtain⟨x,w⟩:=(U.same s1).jX (d':=.lst (ds++[d])) (o':=.lst (xs++[y])) hi g (s1 _ _ O) (.inl #[_,rfl]) ⟨rfl,Y,by rw[Rep];exact#[a,_,rfl,fun z=>z,aV,m]⟩;exact k _ _ x ((Fr'.same s1).trans w)
  ·cases I
 | _=>cases I
end rules
def RVm.bI{K:W.Frag}{M:List Nat}{H:Hp}:∀ {tg:List Nat} {ds:List RL.D} {vs:List V} {I:RL.St} {J:L2.St},RVm K M I J H->(∀ i∈tg,M.contains i=false)->tg.length=ds.length->RL.au ds=true->ae nP K H ds vs ->
  RVm K M (fU tg ds I) (dJ tg vs J) H/\bD M (dJ tg vs J)=bD M J
 | [],_,_,_,_,h,_,_,_,_=>#[h,rfl]
 | i::is,[],_,_,_,_,_,hl,_,_=>by simp at hl
 | i::is,d::ds,vs,I,J,h,hM,hl,him,r=>by
  obtain⟨v,t,rfl,R,O⟩:=r;rw[RL.au,and_eq_true]at him;have hi:=hM i Qq;obtain⟨Z,Y⟩:=RVm.bI (h.bind hi (R.imm him.1)) (fun j U=>hM j (Qk _ U)) (by simpa using hl) him.2 O;exact#[Z,Y.trans (bD.set hi)]
def oi{M tg:List Nat}{vs:List V}{J:L2.St}{j:Nat}(hM:∀ i∈tg,M.contains i=false)(I:2<=M.count j):(dJ tg vs J)[j]?=J[j]?:=by
 refine qf tg vs J j ?_
 cases hc:tg.contains j with
 | false=>rfl
 |true=>
  have:=hM j (by simpa using hc);rw[ke I]at this;cases this
section rules
variable{X:Cx}{cl:RL.Cl}{M:List Nat}{st:Stmt}{tgE iter:Expr}{body:List Stmt}{b:RL.Ss}{it:RL.It}{tg:List Nat}{e' k' a' b':RL.E}{i j:Nat}{pos:Pos}
def yv{f:RL.St->Option (RL.Out × RL.St)}{d:RL.D}{ds:List RL.D}{J:RL.St}{p:RL.Out × RL.St}(h:RL.bp f tg (d::ds) J=some p):d.imm=true/\∃ O o I,RL.bu tg d J=some O/\f O=some (o,I) /\
  (match o with | .nx=>RL.bp f tg ds I=some p | .rt d=>p=(.rt d,I)):=by
 rw[RL.bp]at h;split at h
 ·rename_i R;obtain⟨O,Y,h⟩:=bind_some h;obtain⟨⟨o,I⟩,U,h⟩:=bind_some h;refine#[R,O,o,I,Y,U,?_]
  cases o with
  | nx=>exact h
  | rt d=>exact(Option.some.inj h).symm
 ·cases h
def Im(hx:X.xe=fun _ _=>False)(hc:X.calm=true)(hi:SI X cl tgE iter it)(hg:PG X tgE (gT X.K tg))(hb:SSs X cl M body b)(hs:∀ x,foldedSetIterable iter X.env x=pure x)(C:RL.sV M it=true)(hM:∀ i∈tg,M.contains i=false) :
  SS X cl M (.For tgE iter body [] pos) (.forr tg it b):=by
 refine PS.weak (zH (by rw[hx];exact PassesOwn.never) hc hi hg hb hs) fun D J H h=>?_;obtain⟨f,r,Y,t,e,k⟩:=h;obtain⟨ds,e1,e2⟩:=bind_some e;refine#[f,ds,t.rv0,e1,fun QK L s1 A=>?_]
 have ok:=A.2 M (bD M J) C t.xU fun j dj vj u F E=>by
  obtain⟨v',q,S⟩:=t.val j dj F;rw[E]at q;cases q;rw[if_neg (by rw[u];decide)]at S;exact S
 have Q:=k.from (Fr'.same (J:=J) s1);refine#[fun i m R H2=>∃ I,m=ds.length-i/\i<=ds.length/\RVm X.K M I R H2/\Fr' M J L R H2/\RL.bp (RL.af cl M b) tg (ds.drop i) I=some (r,Y),#[_,f,rfl,zero_le _,t.same s1,Fr'.same (aw.refl _),e2],?_];rintro i m R H2 ⟨I,rfl,hi2,l,U,hl⟩;have off:=fun b o n e=>(U.1 b o e n).1;by_cases a:i<ds.length
 ·refine .inr #[ok.go H2 i off a,fun O H'=>∃ P,P<ds.length-i/\∃ I,P=ds.length-(i+1)/\i+1<=ds.length/\RVm X.K M I O H'/\Fr' M J L O H'/\RL.bp (RL.af cl M b) tg (ds.drop (i+1)) I=some (r,Y),fun O H' z=>z,fun x T y=>?_];rw[List.drop_eq_getElem_cons a]at hl;obtain⟨p,w,o,g,F,E,q⟩:=yv hl;obtain⟨N,rp⟩:=ok.yld H2 i ds[i] x T off (by simp[]) y;obtain⟨dv,vs,q1,q2,q3,q4,V⟩:=xo F (rp (.inl p));refine V _ _ ?_;obtain⟨B,G⟩:=(l.same N).bI hM q2 (q4 p) q3
  have s:Fr' M J L (dJ tg vs R) T:=#[fun b o e n=>#[N _ _ (U.1 b o e n).1,by rw[G];exact(U.1 b o e n).2],fun j u=>(oi hM u).trans (U.2 j u)]
  refine#[w,o,g,by rw[q1];exact B,E,?_]
  cases o with
  | nx=>exact fun O H' Z c=>#[_,by lia,g,rfl,a,Z,s.trans c,q]
  |rt d=>
   cases q;exact fun O H' v H4 Z c sm rp=>Q O H' v H4 Z (s.trans c) sm rp
 ·have e:i=ds.length:=by lia
  subst e;rw[List.drop_length,RL.bp]at hl;cases hl;exact .inl #[ok.stop H2 off,Q R H2 l U]
def BN{n:Nat}{k:Int}{j:Nat}(h:RL.nY n k=some j):ixN n k=some j:=h
def zJ:∀ {ds:List RL.D} {d:RL.D} (j:Nat),RL.au ds=true->d.imm=true->RL.au (ds.set j d)=true
 | [],d,j,_,_=>by simp[RL.au]
 | x::r,d,0,h,hd=>by rw[RL.au,and_eq_true]at h;rw[List.set_cons_zero,RL.au,hd,h.2];rfl
 | x::r,d,j+1,h,hd=>by rw[RL.au,and_eq_true]at h;rw[List.set_cons_succ,RL.au,h.1,zJ j h.2 hd];rfl
def qp{H:Hp}{a:Addr}{ds:List RL.D}{xs ys:List V}{I:List RL.D}(U:H a=some (.lst xs))(O:RL.au I=true)(R:ae nP X.K H I ys):Own X.K (upd H a (.lst ys)) (.lst I) (.ref a) :=
 ⟨rfl,O,by rw[Rep];exact#[a,_,rfl,fun z=>z,aV,(ae.upd U (.inl #[_,rfl]) rfl (R.imm O)).imm O]⟩
def G7(h:PS X st (qR (tE X.K cl e') (B7 (k6 i) (tE X.K cl k') xN)))(hi:M.contains i=true)(hl:True):PS X st (tS X.K M fun I=>(RL.ev cl I e').bind fun d=>(RL.ev cl I k').bind fun O=>((I[i]?).bind id).bind fun l=>match l with
  | .lst _=>if d.imm then(RL.eS l O d).map fun Z=>(.nx,I.set i (some Z))else none
  | _=>none):=by
 refine PS.weak h fun D J H h=>?_;obtain⟨I,o,g,R,e,k⟩:=h;obtain⟨d,F,e⟩:=bind_some e;obtain⟨O,E,e⟩:=bind_some e;obtain⟨l,C,e⟩:=bind_some e
 cases l with
 |lst ds=>
  dsimp only at e;split at e
  ·rename_i c;obtain⟨Z,q,B⟩:=map_some e;cases B;obtain⟨v,n,m⟩:=R.val i _ (slot_get C);rw[if_pos hi]at m;obtain⟨G,s,r⟩:=m;obtain⟨a,xs,rfl,_,f,p⟩:=aW r
   cases O with
   |int O=>
    obtain⟨b,A,x⟩:=map_some (show(RL.nY ds.length O).map (fun j=>RL.D.lst (ds.set j d))=some Z from q);subst x;refine#[I,d,R.rv0,F,fun y QK Y=>#[.ref a,n,I,.int O,R.rv0.same Y.same,E,fun z H2 U=>?_]];have sm:=Y.same.trans U.same;refine#[a,xs,O,b,rfl,ag U.rep,sm _ _ f,?_,?_]
    ·rw[<-p.length];exact BN A
    ·have t:=zJ b s c;obtain⟨w,u⟩:=(R.same sm).jX hi n (sm _ _ f) (.inl #[_,rfl]) (qp (ds:=ds) (sm _ _ f) t (ae.set b (p.same sm) (Y.rep.same U.same)));exact k _ _ w ((Fr'.same sm).trans u)
   | _=>cases q
  ·cases e
 | _=>cases e
def qQ:∀ {ds:List RL.D},RL.au ds=true->RL.au ds.dropLast=true
 | [],_=>rfl
 | [x],_=>rfl
 | x::y::r,h=>by rw[RL.au,and_eq_true]at h;rw[List.dropLast_cons_cons,RL.au,h.1,qQ h.2];rfl
def An:∀ {ds:List RL.D} {i:Nat} {d:RL.D},RL.au ds=true->ds[i]?=some d->d.imm=true
 | [],i,d,_,e=>by simp at e
 | x::r,0,d,h,e=>by rw[RL.au,and_eq_true]at h;simp at e;subst e;exact h.1
 | x::r,i+1,d,h,e=>by rw[RL.au,and_eq_true]at h;exact An h.2 (by simpa using e)
def ae.dropLast{P:Addr->Prop}{K:W.Frag}{H:Hp}{ds:List RL.D}{xs:List V}(h:ae P K H ds xs):ae P K H ds.dropLast xs.dropLast:=by
 rw[List.dropLast_eq_take,List.dropLast_eq_take,<-h.length];exact h.take _
def He(h:PS X st (qR (Bb X.K "list" Bo (k6 i)) (pO j)))(hi:M.contains i=true)(b:M.contains j=false):SS X cl M st (.pop i j):=by
 refine PS.weak h fun D J H h=>?_;obtain⟨m,o,U,Y,e,k⟩:=h;obtain⟨l,w,e⟩:=bind_some e
 cases l with
 |lst ds=>
  obtain⟨d,g,u⟩:=map_some e;cases u;obtain⟨v,f,c⟩:=Y.val i _ (slot_get w);rw[if_pos hi]at c;obtain⟨x,Z,n⟩:=c;obtain⟨a,xs,rfl,_,O,R⟩:=aW n;obtain⟨y,t,s⟩:=R.get g;refine#[.ref a,f,.inl #[rfl,xs,SqL.of O],a,xs,y,rfl,rfl,O,by rw[<-R.length];exact t,?_];have p:=qQ Z;obtain⟨r,q⟩:=Y.jX hi f O (.inl #[_,rfl]) (qp (ds:=ds) O p R.dropLast);have I:=An Z g;have rd:Rep (bD M J) X.K (upd H a (.lst xs.dropLast)) d y:=Rep.imm I (Rep.upd O (.inl #[_,rfl]) rfl (s.imm I));exact k _ _ (r.bind b rd) (q.trans (Fr'.bind b (aw.refl _)))
 | _=>cases e
def Gi(h:PS X st (FU i j (tEs X.K cl %[a',b'|_])))(hi:M.contains i=false)(b:M.contains j=false):SS X cl M st (.par i j a' b'):=by
 refine PS.weak h fun D J H h=>?_;obtain⟨O,o,R,U,e,k⟩:=h;obtain⟨x,g,e⟩:=bind_some e;obtain⟨y,f,e⟩:=bind_some e;split at e
 ·rename_i I;cases e;rw[and_eq_true]at I;refine#[O,[x,y],U.rv0,by rw[RL.evs,g,RL.evs,f];rfl,fun vs l s1 a=>?_];rw[ae]at a;obtain⟨v,t,rfl,d,Z⟩:=a;rw[ae]at Z;obtain⟨u,t,rfl,c,Y⟩:=Z;rw[ae]at Y;subst Y;refine#[v,u,rfl,k _ _ ?_ ?_]
  ·refine((U.same s1).bind hi (d.imm I.1)).bind b (c.imm I.2)
  ·exact(Fr'.bind hi s1).trans (Fr'.bind b (aw.refl _))
 ·cases e
def GK(h:PS X st (si (tE X.K cl e'))):SS X cl M st (.exc e'):=by
 refine PS.weak h fun D J H h=>?_;obtain⟨I,o,O,R,e,k⟩:=h;obtain⟨d,Z,Y⟩:=map_some e;cases Y;exact#[I,d,R.rv0,Z,fun v a U=>k _ _ (R.same U.same) (Fr'.same U.same)]
end rules
section rules
variable{st:Stmt}
def Fh(h:PS X st (qR (tE X.K cl e') (fun v J H Q=>qK X.K is.length (gs is) v J H Q\/ql X.K is.length (gs is) v J H Q)))(hM:∀ i∈is,M.contains i=false):SS X cl M st (.unp is e'):=by
 refine PS.weak h fun D J H h=>?_;obtain⟨R,o,Z,a,e,k⟩:=h;obtain⟨d,w,e⟩:=bind_some e;obtain⟨ds,u,e⟩:=bind_some e;split at e
 ·rename_i Y;obtain⟨g,t,s⟩:=map_some e;cases s;obtain⟨f,l⟩:=hJ t;refine#[R,d,a.rv0,w,fun v x U=>?_];obtain⟨p,xs,rfl,I,c⟩:=f7 u U.rep;obtain⟨r,q⟩:=(a.same U.same).bI (vs:=xs) hM f Y c;have O:D.nx (dJ is xs J) x:=k _ _ (by rw[l];exact r) ⟨fun b o e n=>#[U.same _ _ e,by rw[q];exact n],fun j m=>oi hM m⟩
  have hl:xs.length=is.length:=by rw[<-c.length,f]
  rcases I with⟨I,_⟩ | ⟨I,_⟩ | ⟨⟨o,I⟩,_⟩
  ·exact .inr #[p,xs,rfl,SqL.of I,hl,jv hl.symm O]
  ·exact .inl #[p,xs,rfl,SqT.of I,hl,jv hl.symm O]
  ·exact .inr #[p,xs,rfl,.inl (.inr #[o,I]),hl,jv hl.symm O]
 ·cases e
def tK(xs:List α)(k:Int):(xs.drop (HT.sIx xs.length 0 none)).take (HT.sIx xs.length xs.length (some k)-HT.sIx xs.length 0 none)=xs.take (RL.cutAt xs.length k):=by
 rw[HT.C1,List.drop_zero,Nat.sub_zero];congr 1;have h:=HT.mz k xs.length xs.length;unfold RL.cutAt;split at h
 ·rename_i I;lia
 ·rename_i I;lia
end rules
section rules
variable{X:Cx}
def one(Y:RV0 X.K QL J H)(a:RL.ev cl QL a'=some d)(k:∀ v I,aw H I->Rep nP X.K I d v->R [v] I):tEs X.K cl %[a'|_] J H R :=
 ⟨QL,[d],Y,by rw[RL.evs,a];rfl,fun vs I s1 U=>by
  rw[ae]at U;obtain⟨v,t,rfl,Z,O⟩:=U;rw[ae]at O;subst O
  exact k v I s1 Z⟩
def pair(O:RV0 X.K QL J H)(e:RL.ev cl QL a'=some d)(c:RL.ev cl QL b'=some d')(k:∀ v u I,aw H I->Rep nP X.K I d v->Rep nP X.K I d' u->R [v,u] I):tEs X.K cl %[a',b'|_] J H R :=
 ⟨QL,[d,d'],O,by rw[RL.evs,e,RL.evs,c];rfl,fun vs I s1 b=>by
  obtain⟨v,t,rfl,a,Z⟩:=b;obtain⟨u,t,rfl,Y,U⟩:=Z;subst U
  exact k v u I s1 a Y⟩
def rA{id:String}{r:List V->Hp->VK->Prop}{b:RL.Bi}(Z:bL X (.builtin id) r)(hg:Gl X x)(hm:X.mg x=none)(Y:bootBuiltins x=some (.builtin id))(ha:SE X cl a a')(hn:noStar a=true)(f:x ≠ "__name__")(c:(x == ("__debug__" : Str))=false)
 (ok:∀ (I:RL.St) (J:L2.St) (H O:Hp) (y d:RL.D) (v:V) (Q:VK),RL.biV b y=some d->aw H O->Rep nP X.K O y v->(∀ w H',Res X.K I J H (.bi b a') d w H'->Q w H')->r [v] O Q):SE X cl (.Call (.Name x p) [a] [] pos) (.bi b a'):=by
 refine PE.weak (gI Z hg hm Y (bP ha da hn) f c (ay [] hn) rfl) fun J H Q h=>?_;obtain⟨I,d,R,e,k⟩:=h;obtain⟨y,g,e⟩:=bind_some e;exact one R g fun v O s1 U=>ok I J H O y d v Q e s1 U k
def lX{T:String}{r:List V->Hp->VK->Prop}{b:RL.Bi}(Z:bL X (.type T) r)(hg:Gl X x)(hm:X.mg x=none)(Y:bootBuiltins x=some (.type T))(ha:SE X cl a a')(hn:noStar a=true)(f:x ≠ "__name__")(c:(x == ("__debug__" : Str))=false)
 (ok:∀ (I:RL.St) (J:L2.St) (H O:Hp) (y d:RL.D) (v:V) (Q:VK),RL.biV b y=some d->aw H O->Rep nP X.K O y v->(∀ w H',Res X.K I J H (.bi b a') d w H'->Q w H')->r [v] O Q):SE X cl (.Call (.Name x p) [a] [] pos) (.bi b a'):=by
 refine PE.weak (cA Z hg hm Y (bP ha da hn) f c (ay [] hn) rfl) fun J H Q h=>?_;obtain⟨I,d,R,e,k⟩:=h;obtain⟨y,g,e⟩:=bind_some e;exact one R g fun v O s1 U=>ok I J H O y d v Q e s1 U k
def F5(hg:Gl X "list")(hm:X.mg "list" = none)(ha:SE X cl a a')(hn:noStar a=true):SE X cl (.Call (.Name "list" p) [a] [] pos) (.bi .list a'):=by
 refine lX t9 hg hm (by decide +kernel) ha hn ∅ ∅ fun I J H b y d v Q e s1 R k=>?_;obtain⟨ds,Z,Y⟩:=map_some (show(RL.items y).map RL.D.lst=some d from e);subst Y;obtain⟨q,xs,rfl,U,O⟩:=f7 Z R;refine#[q,xs,rfl,?_,fun l hl=>k _ _ (iH s1 hl O fun _=>rfl)]
 rcases U with⟨z,_⟩ | ⟨z,_⟩ | ⟨⟨o,z⟩,_⟩
 ·exact .inl (SqL.of z)
 ·exact .inr (SqT.of z)
 ·exact .inl (.inl (.inr #[o,z]))
def Bq(hg:Gl X "tuple")(hm:X.mg "tuple" = none)(ha:SE X cl a a')(hn:noStar a=true):SE X cl (.Call (.Name "tuple" p) [a] [] pos) (.bi .tuple a'):=by
 refine lX rQ hg hm (by decide +kernel) ha hn ∅ ∅ fun O J H b y d v Q e s1 R k=>?_;obtain⟨ds,Z,Y⟩:=map_some (show(RL.items y).map RL.D.tup=some d from e);subst Y;obtain⟨q,xs,rfl,U,I⟩:=f7 Z R
 rcases U with⟨z,_⟩ | ⟨z,_⟩ | ⟨⟨o,z⟩,_⟩
 ·exact#[q,xs,rfl,.inl #[SqL.of z,fun l hl=>k _ _ (gF s1 hl I fun _=>rfl)]]
 ·refine⟨q,xs,rfl,.inr ⟨SqT.of z,k _ _ ⟨s1,?_,fun _ m=>(by cases m),fun M z=>nomatch (show false=true from z)⟩⟩⟩;exact#[q,xs,rfl,z,I]
 ·exact#[q,xs,rfl,.inl #[.inl (.inr #[o,z]),fun l hl=>k _ _ (gF s1 hl I fun _=>rfl)]]
def Jm(hg:Gl X "int")(hm:X.mg "int" = none)(ha:SE X cl a a')(hn:noStar a=true):SE X cl (.Call (.Name "int" p) [a] [] pos) (.bi .int a'):=by
 refine lX yH hg hm (by decide +kernel) ha hn ∅ ∅ fun O J H R y d v Q e s1 I k=>?_
 cases y<;>first | (cases e;done) | skip
 case bl t=>cases e;exact .inr #[t,by rw[br I],k _ _ (cS s1 bg rfl)]
 case int t=>cases e;exact .inl #[t,by rw[ag I],k _ _ (cS s1 bg rfl)]
def Iq{prog:Program}{w:World}{d:Addr}(hd:(d == sysModules)=false) :
  MeetsIn prog w (Builtin.«dict.__len__» ⟨[.ref d],[]⟩) (fun _ R s=>∃ o es O,s.heap.get? d=some o/\o.data=.dict es O/\R (.ok (.ret (.int es.size s.toks))) { s with toks:=s.toks+1 }) :=
 .of_wp fun A R s ⟨o,es,O,U,I,h⟩=>by
  show wpAny _ _ (dictSize d >>= _) _ _ s;refine Qa (Qa (wpAny_dictEntries U I (Qd ?_)));refine Qa (wpAny_pendingCount_other hd ?_);refine wpAny_ret_mkInt ?_;exact h
def ya{prog:Program}{w:World}{K:Type} [DecidableEq K]{O:HeapKind prog w K}(hd:(d == sysModules)=false) :
  MeetsIn prog w (Builtin.«dict.__len__» ⟨[.ref d],[]⟩) (fun _ R s=>∃ xs,s.heap.DictOfH O d xs/\R (.ok (.ret (.int xs.length s.toks))) { s with toks:=s.toks+1 }) :=
 .of_wp fun A R s ⟨xs,hm,h⟩=>by
  obtain⟨o,es,Z,U,Y,I,hk,_,_⟩:=hm;show wpAny _ _ (dictSize d >>= _) _ _ s;refine Qa (Qa (wpAny_dictEntries U I (Qd ?_)));refine Qa (wpAny_pendingCount_other hd ?_);refine wpAny_ret_mkInt ?_;rw[Nat.add_zero,size_of_entries hk];exact h
def pT{prog:Program}{w:World}{K:Type} [DecidableEq K]{I:HeapKind prog w K}{A:Around}{E:Value->Shared->Prop}{s:Shared}{d:Addr}{xs:List (K × Addr × Value)}{Q:Value->Shared->Prop}(hd:(d == sysModules)=false)(hm:s.heap.DictOfH I d xs)(O:(xs.length:Int)<2 ^ 63)
 (h:Q (.int xs.length (s.toks+1)) { s with toks:=s.toks+1+1 }):wpAny (model prog w) A (call (.builtin "len") [.ref d]) Q E s:=by
 refine Calls.call_function_entry kind_len plain_len entry_len (args_len1 _) ?_;refine Qa (Qd ?_)
 refine Qa (wpAny_callSpecial?_slot hm.typeIs F.slot_dict_len
  (call_meetsIn F.slot_dict_len hm.typeIs F.entry_dict_len (F.args_dict_len_1 _) (ya hd) ⟨xs,hm,?_⟩))
 refine Qa (wpAny_holding (Qd ?_));refine Qa (wpAny_letGo ?_);rw[if_neg (by omega)];rw[if_neg (by omega)];exact Qa (wpAny_mkInt (Qd ⟨_,rfl,h⟩))
def Ah:bL X (.builtin "len") (fun xs H Q=>∃ a kvs,xs=[V.ref a]/\H a=some (.dT kvs)/\Q (.int kvs.length) H):=by
 fin2;obtain⟨a,kvs,rfl,ha,q⟩:=h;obtain⟨u,rfl,R⟩:=vals1 r;cases R;obtain⟨z,hd,xs,O,U⟩:=D6 I.hok ha;have hl:=Paired.length O;refine pT hd U (by rw[<-hl];rw[sizeLine_eq]at z;omega) ?_;rw[<-hl];exact#[.int kvs.length,H,I.tok _,#[_,rfl],q]
def yT:bL X (.builtin "len") (fun xs H Q=>∃ a o kvs,xs=[V.ref a]/\H a=some (.frz o (.dT kvs))/\Q (.int kvs.length) H):=by
 fin2;obtain⟨a,o,kvs,rfl,ha,q⟩:=h;obtain⟨u,rfl,U⟩:=vals1 r;cases U;obtain⟨_,z,hd,xs,R,ob,es,b,g,ex,O,Z,nd⟩:=I.hok a _ ha;have hl:=Paired.length R;refine Calls.call_function_entry kind_len plain_len entry_len (args_len1 _) ?_;refine Qa (Qd ?_)
 refine Qa (wpAny_callSpecial?_slot ⟨ob,g,ex.1⟩ F.slot_dict_len
  (call_meetsIn F.slot_dict_len ⟨ob,g,ex.1⟩ F.entry_dict_len (F.args_dict_len_1 _) (Iq hd) ⟨ob,es,b,g,O,?_⟩))
 have Y:es.size=kvs.length:=by rw[<-length_toList,Z,length_map,hl]
 rw[sizeLine_eq]at z;refine Qa (wpAny_holding (Qd ?_));refine Qa (wpAny_letGo ?_);rw[if_neg (by omega)];rw[if_neg (by omega)];exact Qa (wpAny_mkInt (Qd ⟨_,rfl,⟨.int kvs.length,H,I.tok _,⟨_,by rw[Y]⟩,q⟩⟩))
def Av:bL X (.builtin "len") (fun xs H Q=>(∃ y n,xs=[y]/\Hk X.K y H n/\Q (.int n) H)\/(∃ q kvs,xs=[V.ref q]/\H q=some (.dK kvs)/\Q (.int kvs.length) H)\/(∃ q kvs,xs=[V.ref q]/\H q=some (.dT kvs)/\Q (.int kvs.length) H)\/∃ q o kvs,xs=[V.ref q]/\H q=some (.frz o (.dT kvs))/\Q (.int kvs.length) H):=bL.or C0 (bL.or Ax (bL.or Ah yT))
def Ia(hg:Gl X "len")(hm:X.mg "len" = none)(ha:SE X cl a a')(hn:noStar a=true):SE X cl (.Call (.Name "len" p) [a] [] pos) (.bi .len a'):=by
 refine rA Av hg hm PySem.boot_len ha hn ∅ ∅ fun Y J H b y d v Q e s1 R k=>?_
 cases y<;>first | (cases e;done) | skip
 case str t =>
  rw[RL.D9]at e;split at e
  ·rename_i Z;cases e;rw[aQ R];exact .inl #[_,_,rfl,#[Qn Z cD,rfl],k _ _ (cS s1 bg rfl)]
  ·cases e
 case tup t =>
  cases e;obtain⟨q,xs,rfl,O,I⟩:=bG R;dsimp only at k;rw[I.length]at k;exact .inl #[_,_,rfl,.inr #[xs,SqT.of O,rfl],k _ _ (cS s1 bg rfl)]
 case lst t =>
  cases e;obtain⟨q,xs,rfl,_,O,I⟩:=aW R;dsimp only at k;rw[I.length]at k;exact .inl #[_,_,rfl,.inl #[xs,SqL.of O,rfl],k _ _ (cS s1 bg rfl)]
 case fL t =>
  cases e;obtain⟨q,o,xs,rfl,O,I⟩:=R;dsimp only at k;rw[I.length]at k;exact .inl #[_,_,rfl,.inl #[xs,.inl (.inr #[o,O]),rfl],k _ _ (cS s1 bg rfl)]
 case dK ks t =>
  cases e;obtain⟨q,xs,rfl,_,O,U,I⟩:=R;refine .inr (.inl #[q,_,rfl,O,?_])
  have:(ks.zip xs).length=ks.length:=by rw[length_zip,<-I.length,U,min_self]
  rw[this];exact k _ _ (cS s1 bg rfl)
 case dT ks t =>
  cases e;obtain⟨q,xs,rfl,_,O,U,I⟩:=R;refine .inr (.inr (.inl #[q,_,rfl,O,?_]))
  have:(ks.zip xs).length=ks.length:=by rw[length_zip,<-I.length,U,min_self]
  rw[this];exact k _ _ (cS s1 bg rfl)
 case fT ks t =>
  cases e;obtain⟨q,o,xs,rfl,O,U,I⟩:=R;refine .inr (.inr (.inr #[q,o,_,rfl,O,?_]))
  have:(ks.zip xs).length=ks.length:=by rw[length_zip,<-I.length,U,min_self]
  rw[this];exact k _ _ (cS s1 bg rfl)
def JF(Z:X.calm=true)(hg:Gl X "max")(hm:X.mg "max" = none)(ha:SE X cl a a')(hb:SE X cl b b')(hn:noStar a=true)(I:noStar b=true):SE X cl (.Call (.Name "max" p) [a,b] [] pos) (.max a' b'):=by
 refine PE.weak (gI (yY Z) hg hm (by decide +kernel) (bP ha (bP hb da I) hn) ∅ ∅ (ay _ hn) (d5 (by simp[I]))) fun J H Q h=>?_;obtain⟨O,d,R,e,k⟩:=h;obtain⟨u,f,e⟩:=bind_some e;obtain⟨v,c,e⟩:=bind_some e
 cases u with
 |int i=>
  cases v with
  |int j=>
   cases e
   exact pair R f c fun v u g s1 Y U=>#[i,j,by rw[ag Y,ag U],k _ _ (cS s1 bg rfl)]
  | _=>cases e
 | _=>cases e
abbrev tyN:RL.Ty->String
 | .int => "int"
 | .bool => "bool"
 | .list => "list"
 | .tuple => "tuple"
 | .str => "str"
def C8:bL X (.builtin "isinstance") (fun xs H Q=>∃ y t T k,xs=[y,.ty T]/\fN X.K H y t/\W.kitOne X.K t (.type T)=some k/\Q (.bl k) H):=by
 fin2;obtain⟨y,t,T,k,rfl,ty,e,q⟩:=h;obtain⟨u,w,rfl,U,R⟩:=vals2 r;cases R
 exact zR I U ty e fun O=>#[.bl k,H,I.tok O,rfl,q]
def Ju(h:RL.gy t d=some k)(r:Rep nP X.K H d v):∃ ty,fN X.K H v ty/\W.kitOne X.K ty (.type (tyN t))=some k:=by
 cases d with
 | non=>rw[Rep]at r;subst r;refine#[_,.non,?_];cases t<;>(cases h;rfl)
 | bl i=>rw[br r];refine#[_,.bl i,?_];cases t<;>(cases h;rfl)
 | int i=>rw[ag r];refine#[_,.int i,?_];cases t<;>(cases h;rfl)
 | str i=>rw[aQ r];refine#[_,.str i,?_];cases t<;>(cases h;rfl)
 | tup i=>obtain⟨q,xs,rfl,I,O⟩:=bG r;refine#[_,.tup I,?_];cases t<;>(cases h;rfl)
 | lst i=>obtain⟨q,xs,rfl,_,I,O⟩:=aW r;refine#[_,.lst I,?_];cases t<;>(cases h;rfl)
 | fL i=>rw[Rep]at r;obtain⟨q,o,xs,rfl,I,O⟩:=r;refine#[_,.frz I,?_];cases t<;>(cases h;rfl)
 | _=>cases t<;>cases h
def Hd(hg:Gl X "isinstance")(hm:X.mg "isinstance" = none)(Z:Gl X y)(Y:X.mg y=none)(g:bootBuiltins y=some (.type (tyN t)))(R:y ≠ "__name__")(O:(y == ("__debug__" : Str))=false)(ha:SE X cl a a')(hn:noStar a=true) :
  SE X cl (.Call (.Name "isinstance" p) [a,.Name y p2] [] pos) (.isi a' t):=by
 have U:PE X (.Name y p2) (tC (.ty (tyN t))):=vP Z Y g rfl R O;refine PE.weak (gI C8 hg hm (by decide +kernel) (bz ha (bz U cT rfl) (ay _ hn)) ∅ ∅ (ay _ hn) rfl) fun J H Q h=>?_;obtain⟨I,d,f,e,k⟩:=h;obtain⟨u,l,e⟩:=bind_some e;obtain⟨c,n,m⟩:=map_some e;subst m;refine#[I,u,f,l,fun v o b=>?_];obtain⟨ty,j,i⟩:=Ju n b.rep;exact#[v,ty,_,c,rfl,j,i,k _ _ (dR b.same)]
end rules
end RS
namespace L2
open PySem PySem.Spec PyProof.Rows
structure m5(prog:Program)(w:World):Prop where
 draws:∀ {A:Around},A.handled=none->∀ (ti tp:Addr),tp≠ti->∀ its:Array Value,Draws prog w A ti [ti,tp] its.size (fun i v=>its[i]?=some v) (fun i h=>h.IsTupleIter ti tp i/\h.IsTuple tp its)
 call:∀ {A:Around} {E:Value->Shared->Prop} {z:Shared} {tp:Addr} {its:Array Value} {Q:Value->Shared->Prop},z.heap.IsTuple tp its ->
  (∀ g,IsEnum g (z.heap.objs.size+1) z.heap.objs.size 0 .none->g.IsTupleIter z.heap.objs.size tp 0->(∀ b o,z.heap.get? b=some o->g.get? b=some o)->Q (.ref (z.heap.objs.size+1)) { z with heap:=g })->wpAny (model prog w) A (call (.type "enumerate") [.ref tp]) Q E z
section
def Inv.qb{h':Heap}{t':Nat}{fp:List Addr}(I:Inv X pins J H s)(k:∀ b o,b∉fp->s.heap.get? b=some o->h'.get? b=some o)(hf:∀ b∈fp,H b=none/\(b∈X.ex\/X.s₀.heap.objs.size<=b)/\b≠X.env.locals/\(∀ x c,X.env.cells.lookup x=some c->c≠b)/\∀ p∈X.pn++pins,p.1≠b) :
  Inv X pins J H { s with heap:=h',toks:=t' }:=by
 have R:∀ b u,H b=some u->b∉fp:=fun b u e z=>by rw[(hf b z).1]at e;cases e
 refine I.so (s':={ s with heap:=h',toks:=t' }) (ch:=fp) rfl ⟨fun b o e _ _ O=>k b o O e,fun b o e _ _ O=>#[o.slots,k b o O e],fun _ _ _ n _=>n,fun b o e O=>#[o,k b o O e],fun _ _ e=>e,fun _ _ _ e=>e,fun b ps e=>#[(List.toArray []),by rw[e];simp]⟩ (fun b u e=>?_) I.bare fun b hb=>(hf b hb).2;refine(I.hok b u e).kU (fun c v U q=>k c v ?_ q) (fun _ q=>q) fun _ _ q=>q;rcases U with z | z
 ·rw[z];exact R b u e
 ·exact R c _ z
end
abbrev Ite(cont:Hp->List V->Prop):It :=
 ⟨fun i H=>∃ xs x,cont H xs/\xs[i]?=some x,fun i H v H'=>∃ p x,H p=none/\v=.ref p/\H'=upd H p (.tup [.int i,x])/\∀ xs,cont H xs->xs[i]?=some x,fun i H=>∃ xs,cont H xs/\xs.length=i⟩
structure Src(P:Program)(w:World)(K:W.Frag)(e it:Addr)(cont:Hp->List V->Prop)(ia:Nat->Heap->Prop):Prop where
 obj:∀ i h,ia i h->∃ o,h.get? it=some o/\∀ v,o.data≠.cell v
 keep:∀ i h h',ia i h->(∀ o,h.get? it=some o->h'.get? it=some o)->ia i h'
 inj:∀ (H:Hp) xs ys,cont H xs->cont H ys->xs=ys
 dr:∀ (X:Cx),X.prog=P->X.w=w->X.K=K->X.calm=true->∀ (pins:List (Addr × Obj)) (s:Shared) (J:St) (H:Hp) (xs:List V),Inv X pins J H s->H e=none->H it=none->cont H xs ->
  ∃ (fp:List Addr) (Pv:Nat->Value->Prop) (St:Nat->Heap->Prop),Draws P w X.A.in1 it fp xs.length Pv St/\e∉fp/\(∀ i,ia i s.heap->St i s.heap)/\(∀ i h,St i h->ia i h)/\∀ i v,Pv i v->∃ x,xs[i]?=some x/\RelV x v
def Aj{P:Program}{w:World}{K:W.Frag}(f:e≠it)(S:Src P w K e it cont ia) :
  Turn P w K (.Tuple elts kx tp) (Ite cont) [e,it] e (fun i h=>(∃ old,IsEnum h e it i old)/\ia i h) where
 mem:=by simp
 obj:=fun i h st b hb=>by
  rcases List.mem_cons.mp hb with rfl | hb
  ·obtain⟨⟨old,R⟩,_⟩:=st;exact⟨_,R,fun v z=>by cases z⟩
  ·rw[List.mem_singleton.mp hb];exact S.obj i h st.2
 keep:=fun i h h' st k=>by
  obtain⟨⟨old,R⟩,hi⟩:=st;exact#[#[old,k e (by simp) _ R],S.keep i h h' hi fun o q=>k it (by simp) o q]
 item:=by
  intro X l r L G i pins s J H E I hf st hg;subst l r L;obtain⟨⟨old,R⟩,hi⟩:=st;obtain⟨xs,x,m,d⟩:=hg;have N:=hf e (by simp);have n:=hf it (by simp);obtain⟨fp,Pv,St,D,g,M,h2,h3⟩:=S.dr X rfl rfl rfl G pins s J H xs I N.1 n.1 m;have y:i<xs.length:=(List.getElem?_eq_some_iff.mp d).1;refine wpAny_pyNext_enum_itemD D R (M i hi) y f g fun v h' O l ho t hT hsz hk=>?_;obtain⟨x',a,rx⟩:=h3 i v l;rw[d]at a;cases a;refine#[.ref s.heap.objs.size,rfl,wpAny_letOwnedTupleGo_enum ho fun Z F Y=>?_];have hn:H s.heap.objs.size=none:=I.hok.fresh (Qb _)
  have I1:Inv X pins J (upd H s.heap.objs.size (.tup [.int i,x])) { s with heap:=s.heap.push { cls:=.type "tuple",data:=.seq (List.toArray [.int i O,v]) },toks:=O+1 } :=
   I.laid (t':=O+1) (fun b u q=>J2 _ q) (Qb _) ⟨by show 2<=sizeLine;decide,[.int i O,v],.cons ⟨O,rfl⟩ (.cons rx .nil),⟨_,Qc _ rfl,rfl,_,rfl⟩⟩
  have C:e<s.heap.objs.size:=Qf R
  have B:it<s.heap.objs.size:=by obtain⟨o,q,_⟩:=S.obj i _ hi;exact Qf q
  have U:∀ b∈[e,it],upd H s.heap.objs.size (.tup [.int i,x]) b=none/\(b∈X.ex\/X.s₀.heap.objs.size<=b)/\b≠X.env.locals/\(∀ x c,X.env.cells.lookup x=some c->c≠b)/\∀ p∈X.pn++pins,p.1≠b:=fun b hb=>by
   obtain⟨f0,f1,f2,f3,V,T⟩:=hf b hb
   have QK:b≠s.heap.objs.size:=by
    rcases List.mem_cons.mp hb with rfl | hb
    ·exact Ql C
    ·rw[List.mem_singleton.mp hb];exact Ql B
   exact#[by rw[aJ QK];exact f0,f3,f1,V,T]
  have I2:Inv X pins J (upd H s.heap.objs.size (.tup [.int i,x])) { s with heap:=Z,toks:=O+1 }:=by
   refine Inv.qb (s:={ s with heap:=s.heap.push { cls:=.type "tuple",data:=.seq (List.toArray [.int i O,v]) },toks:=O+1 }) (h':=Z) (t':=O+1) (fp:=[e,it]) I1 (fun b o hb q=>?_) U;have b1:b≠e:=fun z=>hb (by simp[z]);have b2:b≠it:=fun z=>hb (by simp[z]);refine Y.extBut b o b1 ?_;by_cases j:b=s.heap.objs.size
   ·subst j;have q':(s.heap.push { cls:=.type "tuple",data:=.seq (List.toArray [.int i O,v]) }).get? s.heap.objs.size=some o:=q;rw[Qc _ rfl]at q';cases q';exact hT
   ·have q':s.heap.get? b=some o:=(Heap.get?_push_ne _ _ _ j).symm.trans q;exact hk b o b1 b2 q'
  refine#[.ref s.heap.objs.size,_,I2,rfl,#[s.heap.objs.size,x,hn,rfl,rfl,fun ys hy=>by rw[S.inj H ys xs hy m];exact d],#[#[v,by simpa using F],S.keep _ h' Z (h2 _ _ t) fun o q=>Y.extBut _ _ (Ne.symm f) q],fun b hb=>(U b hb).1]
 done:=by
  intro X l r L G i pins s J H E I hf st hg;subst l r L;obtain⟨⟨old,R⟩,hi⟩:=st;obtain⟨xs,m,d⟩:=hg;have N:=hf e (by simp);have n:=hf it (by simp);obtain⟨fp,Pv,St,D,g,M,h2,h3⟩:=S.dr X rfl rfl rfl G pins s J H xs I N.1 n.1 m;subst d
  refine wpAny_pyNext_enum_endD D R (M _ hi) fun h' eb=>#[rfl,?_]
  obtain⟨f0,f1,f2,f3,V,T⟩:=n;exact I.turned (it:=it) (h':=h') (t':=s.toks) (fun b o hb q=>eb b o hb q) f0 f1 f3 V T
 self:=fun A i s Q E st h=>by
  obtain⟨⟨old,R⟩,hi⟩:=st;exact wpAny_pyIter_enum R h
def src_list{P:Program}{w:World}{K:W.Frag}(b:e≠it):Src P w K e it (fun H xs=>H l=some (.lst xs)) (fun i h=>h.IsListIter it l i) where
 obj:=fun i h st=>let ⟨o,d,_,hd⟩:=st;⟨o,d,fun v q=>by rw[hd]at q;cases q⟩
 keep:=fun i h h' st k=>st.at fun o q=>k o q
 inj:=fun H xs ys Y U=>by rw[Y]at U;cases U;rfl
 dr:=by
  intro X n c r j pins s J H xs I g hi a;subst n c r;obtain⟨its,Z,p,t⟩:=I.list (SqL.of a)
  have hl:its.toArray.size=xs.length:=by rw[size_toArray,Z.length]
  have f:X.A.in1.handled=none:=I.ok.hd.1 j;have D:=Draws.list (prog:=X.prog) (w:=X.w) (A:=X.A.in1) f it l (aP a hi) its.toArray;rw[hl]at D;refine#[_,_,_,D,?_,fun i st=>#[st,p.isList],fun i h st=>st.1,fun i v R=>?_]
  ·intro m;rcases List.mem_cons.mp m with q | m
   ·exact b q
   ·exact(aP a g).symm (List.mem_singleton.mp m)
  ·have R:its[i]?=some v:=by simpa using R
   have O:i<xs.length:=by rw[Z.length];exact(List.getElem?_eq_some_iff.mp R).1
   obtain⟨u,Y,U⟩:=Z.get (i:=i) (x:=xs[i]) (by simp[O]);rw[R]at Y;cases Y;exact#[xs[i],by simp[O],U]
def EO{P:Program}{w:World}{K:W.Frag}(TE:m5 P w)(c:e≠it):Src P w K e it (fun H xs=>H l=some (.tup xs)) (fun i h=>h.IsTupleIter it l i) where
 obj:=fun i h st=>let ⟨o,b,_,hd⟩:=st;⟨o,b,fun v q=>by rw[hd]at q;cases q⟩
 keep:=fun i h h' st k=>let ⟨o,b,r⟩:=st;⟨o,k o b,r⟩
 inj:=fun H xs ys Y U=>by rw[Y]at U;cases U;rfl
 dr:=by
  intro X n d t j pins s J H xs I g hi a;subst n d t;obtain⟨its,Z,p,y⟩:=I.tuple (SqT.of a)
  have hl:its.toArray.size=xs.length:=by rw[size_toArray,Z.length]
  have f:X.A.in1.handled=none:=I.ok.hd.1 j;have D:=TE.draws (A:=X.A.in1) f it l (aP a hi) its.toArray;rw[hl]at D;refine#[_,_,_,D,?_,fun i st=>#[st,p],fun i h st=>st.1,fun i v R=>?_]
  ·intro m;rcases List.mem_cons.mp m with q | m
   ·exact c q
   ·exact(aP a g).symm (List.mem_singleton.mp m)
  ·have R:its[i]?=some v:=by simpa using R
   have O:i<xs.length:=by rw[Z.length];exact(List.getElem?_eq_some_iff.mp R).1
   obtain⟨u,Y,U⟩:=Z.get (i:=i) (x:=xs[i]) (by simp[O]);rw[R]at Y;cases Y;exact#[xs[i],by simp[O],U]
abbrev kr(x:Str):List V:=x.cps.toList.map fun c=>.str ⟨(List.toArray [c])⟩
def Em{P:Program}{w:World}{K:W.Frag}(U:e≠it):Src P w K e it (fun _ xs=>xs=kr x) (fun i h=>h.IsStrIter it (strIterType x) x t i) where
 obj:=fun i h st=>let ⟨o,R,_,hd⟩:=st;⟨o,R,fun v q=>by rw[hd]at q;cases q⟩
 keep:=fun i h h' st k=>let ⟨o,R,r⟩:=st;⟨o,k o R,r⟩
 inj:=fun H xs ys Z Y=>by rw[Z,Y]
 dr:=by
  intro X n g p l pins s J H xs I z hi f;subst n g p f;have d:X.A.in1.handled=none:=I.ok.hd.1 l
  have hl:x.cps.size=(kr x).length:=by simp[kr]
  have a:∀ (i:Nat) (v:Value),(∃ c u,x.cps[i]?=some c/\v=Value.str ⟨(List.toArray [c])⟩ u)->∃ y,(kr x)[i]?=some y/\RelV y v:=fun i v j=>by
   obtain⟨c,u,Z,Y⟩:=j;exact#[.str #[(List.toArray [c])],by simp[kr,Z],u,Y]
  have b:e∉[it]:=fun m=>U (List.mem_singleton.mp m)
  cases ha:x.cps.all (·<128)with
  |true=>
   have O:strIterType x = "str_ascii_iterator" := by simp[strIterType,ha]
   have D:=Draws.strAscii (prog:=X.prog) (w:=X.w) (A:=X.A.in1) d it x t;rw[hl]at D;exact#[_,_,_,D,b,fun i st=>by rw[O]at st;exact st,fun i h st=>by rw[O];exact st,a]
  |false=>
   have O:strIterType x = "str_iterator" := by simp[strIterType,ha]
   have D:=Draws.strWide (prog:=X.prog) (w:=X.w) (A:=X.A.in1) d it x t;rw[hl]at D;exact#[_,_,_,D,b,fun i st=>by rw[O]at st;exact st,fun i h st=>by rw[O];exact st,a]
section
abbrev KO(O:TA):TI:=fun J H R=>O J H fun vs I=>(∃ l xs,vs=[.ref l]/\I l=some (.lst xs)/\R (Ite fun H xs=>H l=some (.lst xs)) I)\/(∃ l xs,vs=[.ref l]/\I l=some (.tup xs)/\R (Ite fun H xs=>H l=some (.tup xs)) I) \/
 (∃ x,vs=[.str x]/\R (Ite fun _ xs=>xs=kr x) I)
def nH(I:Inv X pins J H s)(S:Src X.prog X.w X.K (s.heap.objs.size+1) s.heap.objs.size cont ia)
 (U:IsEnum g (s.heap.objs.size+1) s.heap.objs.size 0 .none)(hi:ia 0 g)(hk:∀ b o,s.heap.get? b=some o->g.get? b=some o)(q:R (Ite cont) H) :
  wpAny (model X.prog X.w) X.A (pyIter (.ref (s.heap.objs.size+1))) (PIE X pins J (.Tuple elts kx tp) R) E { s with heap:=g }:=by
 refine wpAny_pyIter_enum U ⟨s.heap.objs.size+1,[s.heap.objs.size+1,s.heap.objs.size],_,_,H,rfl,I.kept (t':=s.toks) hk,Aj (Nat.succ_ne_self _) S,⟨⟨.none,U⟩,hi⟩,fun b hb=>?_,q⟩
 have O:s.heap.objs.size<=b:=by
  rcases List.mem_cons.mp hb with z | z
  ·rw[z];exact Nat.le_succ _
  ·rw[List.mem_singleton.mp z];exact Qb _
 exact I.qw O (I.hok.fresh O)
def Ei(TE:m5 X.prog X.w)(hg:Gl X "enumerate")(hm:X.mg "enumerate" = none)(ha:PA X [a] ta)(i:starEach [a] X.env=[(false,eval a X.env)]):PI X (.Tuple elts kx tp) (.Call (.Name "enumerate" p) [a] [] pos) (KO ta):=by
 intro pins s J H R I h;refine Call_ (iW I hg hm boot_enumerate (PyProof.Rows.callWith_type1 (thn (ha pos pins s J H _ I h) fun us s1 ⟨vs,j,Y,Z,e⟩=>?_) i rfl) ∅ ∅)
 rcases e with⟨l,xs,rfl,b,q⟩ | ⟨l,xs,rfl,b,q⟩ | ⟨x,rfl,q⟩
 ·obtain⟨u,rfl,O⟩:=vals1 Z;cases O;obtain⟨its,d,pl,f⟩:=Y.list (SqL.of b);exact call_enumerate_list pl.isList fun g U hi c hk=>nH Y (src_list (Nat.succ_ne_self _)) U hi hk q
 ·obtain⟨u,rfl,O⟩:=vals1 Z;cases O;obtain⟨its,d,pl,f⟩:=Y.tuple (SqT.of b);exact TE.call pl fun g U hi hk=>nH Y (EO TE (Nat.succ_ne_self _)) U hi hk q
 ·obtain⟨u,rfl,O⟩:=vals1 Z;obtain⟨t,rfl⟩:=O;exact call_enumerate_str fun g U hi c hk=>nH Y (Em (Nat.succ_ne_self _)) U hi hk q
end
end L2
namespace RS
open PySem PySem.Spec PyProof.Rows L2
def mh:∀ (ds:List RL.D) (k:Int),(RL.dN k ds).length=ds.length
 | [],_=>rfl
 | d::r,k=>by rw[RL.dN,length_cons,length_cons,mh r]
def r0:∀ (ds:List RL.D) (k:Int) (i:Nat) (d:RL.D),(RL.dN k ds)[i]?=some d->∃ e,ds[i]?=some e/\d=.tup [.int (k+i),e]
 | [],k,i,d,h=>by simp[RL.dN]at h
 | e::r,k,0,d,h=>by simp[RL.dN]at h;exact#[e,rfl,by simp[h]]
 | e::r,k,i+1,d,h=>by
  obtain⟨e',I,O⟩:=r0 r (k+1) i d h;refine#[e',by simpa using I,?_];congr 3;lia
def iJ{K:W.Frag}(I:∀ H',Off P H H'->cont H' xs)(f:∀ H' ys,cont H' xs->cont H' ys->ys=xs)(r:ae nP K H ds xs)(hm:∀ b o,P b->H b=some o->d6 o):kR K (Ite cont) (RL.dN 0 ds) P H where
 go:=fun H' i k hi=>by
  rw[mh]at hi;obtain⟨x,e,_⟩:=r.get (i:=i) (d:=ds[i]) (by simp[]);exact#[xs,x,I H' k,e]
 stop:=fun H' k=>#[xs,I H' k,by rw[mh,r.length]]
 yld:=fun H' i d v H2 k e y=>by
  obtain⟨p,x,O,rfl,rfl,Z⟩:=y;obtain⟨e',a,rfl⟩:=r0 ds 0 i d e;obtain⟨c,U,R⟩:=r.get a;rw[Z xs (I H' k)]at U;cases U;refine#[aw.bU O,fun q=>?_]
  have Y:Rep nP K H' e' x:=by
   rcases q with q | q
   ·have q:(true&&(e'.imm&&true))=true:=q;simp only[Bool.true_and,Bool.and_true]at q;exact gr hm k R q
   ·exact R.same q
  refine#[p,[.int i,x],rfl,aV,ae.cons ?_ (ae.cons (Y.same (aw.bU O)) ae.nil)];simpa using(bg)
def zG{P:Addr->Prop}{K:W.Frag}(h:RL.ie d=some ds)(r:Rep P K H d v):(∃ p xs,v=.ref p/\H p=some (.lst xs)/\d=.lst ds/\ae P K H ds xs)\/(∃ p xs,v=.ref p/\H p=some (.tup xs)/\d=.tup ds/\ae P K H ds xs) \/
  (∃ x,v=.str x/\d=.str x/\ds=x.cps.toList.map fun c=>.str ⟨(List.toArray [c])⟩):=by
 cases d<;>simp only[RL.ie]at h<;>first | (cases h;done) | skip
 case lst ys=>cases h;obtain⟨p,xs,R,_,O,I⟩:=aW r;exact .inl #[p,xs,R,O,rfl,I]
 case tup ys=>cases h;obtain⟨p,xs,R,O,I⟩:=bG r;exact .inr (.inl #[p,xs,R,O,rfl,I])
 case str x=>cases h;exact .inr (.inr #[x,aQ r,rfl,rfl])
def lg{P:Addr->Prop}{K:W.Frag}:∀ (I:List Nat),ae P K H (I.map fun c=>RL.D.str ⟨(List.toArray [c])⟩) (I.map fun c=>V.str ⟨(List.toArray [c])⟩)
 | []=>ae.nil
 | c::r=>ae.cons iQ (lg r)
section rules
def IF(TE:m5 X.prog X.w)(hg:Gl X "enumerate")(hm:X.mg "enumerate" = none)(ha:SE X cl a a')(hn:noStar a=true):SI X cl (.Tuple elts kx tp) (.Call (.Name "enumerate" p) [a] [] pos) (.enm a'):=by
 intro pins s J H R I h;obtain⟨g,ds,m,e,k⟩:=h;obtain⟨d,u,t⟩:=bind_some e;obtain⟨es,r,n⟩:=map_some t;subst n;have i:=bz ha cT (ay [] hn);refine Ei TE hg hm i (ay [] hn) pins s J H R I ⟨g,d,m,u,fun v y U=>?_⟩
 rcases zG r U.rep with⟨l,xs,rfl,c,rfl,f⟩ | ⟨l,xs,rfl,c,rfl,f⟩ | ⟨x,rfl,rfl,rfl⟩
 ·refine .inl ⟨l,xs,rfl,c,k _ _ U.same ⟨iJ (fun H' o=>o _ _ (fun z=>z) c) (fun H' ys Z O=>by rw[Z]at O;cases O;rfl) f hV,fun M P z Y av=>?_⟩⟩;exact iJ (fun H' o=>o _ _ (pd U z Y av _ _ rfl rfl) c) (fun H' ys Z O=>by rw[Z]at O;cases O;rfl) f (e8 U.same Y)
 ·have j:∀ P:Addr->Prop,(∀ b o,P b->y b=some o->d6 o)->¬ P l:=fun P Y q=>by rcases Y l _ q c with⟨z,q⟩ | ⟨z,q⟩ | ⟨z,q⟩<;>cases q
  exact .inr (.inl ⟨l,xs,rfl,c,k _ _ U.same ⟨iJ (fun H' o=>o _ _ (j _ hV) c) (fun H' ys Z O=>by rw[Z]at O;cases O;rfl) f hV,fun M P z Y av=>iJ (fun H' o=>o _ _ (j P (e8 U.same Y)) c) (fun H' ys Z O=>by rw[Z]at O;cases O;rfl) f (e8 U.same Y)⟩⟩)
 ·exact .inr (.inr #[x,rfl,k _ _ U.same #[iJ (fun H' o=>rfl) (fun H' ys Z O=>O) (lg _) hV,fun M P z Y av=>iJ (fun H' o=>rfl) (fun H' ys Z O=>O) (lg _) (e8 U.same Y)]])
end rules
section rules
variable{X:Cx}
def ER{P:Addr->Prop}{K:W.Frag}(h:Rep P K H (.scr ds) v):∃ a xs,v=.ref a/\lN K H a xs/\ae P K H ds xs:=by rw[Rep]at h;exact h
def zx(n:Nat)(k:Int):HT.sIx n n (some k)=RL.cutAt n k:=by
 have h:=HT.mz k n n;unfold RL.cutAt;split at h
 ·rw[if_neg ⋯];lia
 ·rw[if_pos ⋯];lia
def Fs(h:RL.kI x y=some d):∃ n,y=.int n/\((∃ xs,(x=.lst xs\/x=.scr xs\/x=.fL xs)/\d=.lst (xs.take (RL.cutAt xs.length n)))\/∃ xs,x=.tup xs/\RL.cutAt xs.length n<xs.length/\d=.tup (xs.take (RL.cutAt xs.length n))):=by
 unfold RL.kI at h;split at h
 ·exact#[_,rfl,.inl #[_,.inr (.inr rfl),(Option.some.inj h).symm]]
 ·exact#[_,rfl,.inl #[_,.inr (.inl rfl),(Option.some.inj h).symm]]
 ·exact#[_,rfl,.inl #[_,.inl rfl,(Option.some.inj h).symm]]
 ·split at h
  ·rename_i I;exact#[_,rfl,.inr #[_,rfl,I,(Option.some.inj h).symm]]
  ·cases h
 ·cases h
def GP{P:Addr->Prop}{K:W.Frag}{H:Hp}(r:Rep P K H x v)(h:x=.lst xs\/x=.scr xs\/x=.fL xs):∃ q ys,v=.ref q/\SqL K H q ys/\ae P K H xs ys:=by
 rcases h with rfl | rfl | rfl
 ·obtain⟨q,ys,rfl,_,O,I⟩:=aW r;exact#[q,ys,rfl,SqL.of O,I]
 ·obtain⟨q,ys,rfl,O,I⟩:=ER r;exact#[q,ys,rfl,O.seq,I]
 ·rw[Rep]at r;obtain⟨q,o,ys,rfl,O,I⟩:=r;exact#[q,ys,rfl,.inl (.inr #[o,O]),I]
def Jg(ha:SE X cl a a')(hb:SE X cl b b'):SE X cl (.Subscript a (.Slice none (some b) none p2) pos) (.slT a' b'):=by
 refine PE.weak (Bg (SlR.or E3 Ha) ha EL (Ee hb)) fun J H Q h=>?_;obtain⟨O,d,c,e,k⟩:=h;obtain⟨x,i,e⟩:=bind_some e;obtain⟨y,g,e⟩:=bind_some e;refine#[O,x,c,i,fun v m U=>#[O,y,c.same U.same,g,fun u H2 R=>?_]];have Z:=U.rep.same R.same;have sm:=U.same.trans R.same;obtain⟨n,rfl,⟨xs,f,rfl⟩ | ⟨xs,rfl,j,rfl⟩⟩:=Fs e
 ·obtain⟨q,ys,rfl,Y,I⟩:=GP Z f;refine#[n,ag R.rep,.inl #[q,ys,rfl,Y,fun l hl=>?_]];unfold qJ;rw[tK,<-I.length];exact k _ _ (iH sm hl (I.take _) fun _=>rfl)
 ·obtain⟨q,ys,rfl,Y,I⟩:=bG Z;refine#[n,ag R.rep,.inr #[q,ys,rfl,SqT.of Y,fun z=>?_,fun l hl=>?_]]
  ·rw[zx,<-I.length]at z;lia
  ·unfold qJ;rw[tK,<-I.length];exact k _ _ (gF sm hl (I.take _) fun _=>rfl)
abbrev sO:RL.D->RL.D->Option (Option RL.D)
 | .dK ks vs,k=>(RL.keyOf k).map (RL.aO ks vs)
 | .dT ks vs,.tup k=>(RL.keysOf k).map (RL.aO ks vs)
 | .fT ks vs,.tup k=>(RL.keysOf k).map (RL.aO ks vs)
 | _,_=>none
abbrev Ans(P:Addr->Prop)(K:W.Frag)(H:Hp):Option RL.D->Option V->Prop
 | some d,r=>∃ w,r=some w/\Rep P K H d w
 | none,r=>r=none
def gD{κ:Type} [DecidableEq κ]{P:Addr->Prop}{K:W.Frag}{H:Hp}{x:κ}:∀ {ks:List κ} {ds:List RL.D} {xs:List V},ks.length=ds.length->ae P K H ds xs ->
  Ans P K H (RL.aO ks ds x) (fI (ks.zip xs) x)
 | [],ds,xs,hl,r=>by simp[RL.aO,fI,Ans]
 | k::ks,[],xs,hl,r=>by simp at hl
 | k::ks,d::ds,xs,hl,r=>by
  obtain⟨v,t,rfl,R,O⟩:=r;by_cases hk:k=x
  ·have I:RL.aO (k::ks) (d::ds) x=some d:=by rw[RL.aO,if_pos hk]
   rw[I];exact#[v,by rw[zip_cons_cons];exact je hk,R]
  ·have U:=gD (x:=x) (by simpa using hl) O
   have I:RL.aO (k::ks) (d::ds) x=RL.aO ks ds x:=by rw[RL.aO,if_neg hk]
   rw[I,zip_cons_cons,iX hk];exact U
def oh{P:Addr->Prop}{K:W.Frag}(h:RL.keyOf d=some k)(r:Rep P K H d v):v=kV k:=by
 cases d<;>simp only[RL.keyOf]at h<;>first | (cases h;done) | skip
 case int i=>cases h;exact ag r
 case str i=>cases h;exact aQ r
def jw{P:Addr->Prop}{K:W.Frag}:∀ {ds:List RL.D} {k:List RL.Ky} {xs:List V},RL.keysOf ds=some k->ae P K H ds xs->xs=k.map kV
 | [],k,xs,h,r=>by cases h;rw[ae]at r;exact r
 | d::ds,k,xs,h,r=>by
  obtain⟨a,Y,h⟩:=bind_some h;obtain⟨Z,U,R⟩:=map_some h;subst R;obtain⟨v,t,rfl,O,I⟩:=r;rw[oh Y O,jw U I];rfl
def Fj(h:sO y kx=some o):(∃ ks vs k,y=.dK ks vs/\RL.keyOf kx=some k/\RL.aO ks vs k=o)\/∃ ks vs R k,(y=.dT ks vs\/y=.fT ks vs)/\kx=.tup R/\RL.keysOf R=some k/\RL.aO ks vs k=o:=by
 unfold sO at h;split at h
 ·obtain⟨k,O,I⟩:=map_some h;exact .inl #[_,_,k,rfl,O,I]
 ·obtain⟨k,O,I⟩:=map_some h;exact .inr #[_,_,_,k,.inl rfl,rfl,O,I]
 ·obtain⟨k,O,I⟩:=map_some h;exact .inr #[_,_,_,k,.inr rfl,rfl,O,I]
 ·cases h
def wH{H:Hp}{y m:RL.D}{v u:V}{o:Option RL.D}(Y:Rep nP X.K H y v)(j:Rep nP X.K H m u)(h:sO y m=some o) :
  ∃ q r,v=.ref q/\fv H q u r/\Ans nP X.K H o r/\∀ P:Addr->Prop,Rep P X.K H y v->Ans P X.K H o r:=by
 rcases Fj h with⟨ks,vs,k,rfl,g,U⟩ | ⟨ks,vs,w,k,n,rfl,g,U⟩
 ·rw[Rep]at Y;obtain⟨q,xs,rfl,_,I,Z,b⟩:=Y;have O:=gD (x:=k) Z b;rw[U]at O;refine#[q,_,rfl,by rw[oh g j];exact fv.k I,O,fun P r=>?_];rw[Rep]at r;obtain⟨l,R,f,_,e,c,d⟩:=r;cases f;rw[e]at I;have O:=gD (x:=k) c d
  have a:ks.zip R=ks.zip xs:=by injection I with I;injection I
  rw[U,a]at O;exact O
 ·obtain⟨q',ys,rfl,i,p⟩:=bG j;rw[jw g p]at i;rcases n with rfl | rfl
  ·rw[Rep]at Y;obtain⟨q,xs,rfl,_,I,Z,b⟩:=Y;have O:=gD (x:=k) Z b;rw[U]at O;refine#[q,_,rfl,fv.t I i,O,fun P r=>?_];rw[Rep]at r;obtain⟨l,R,f,_,e,c,d⟩:=r;cases f;rw[e]at I;have O:=gD (x:=k) c d
   have a:ks.zip R=ks.zip xs:=by injection I with I;injection I
   rw[U,a]at O;exact O
  ·rw[Rep]at Y;obtain⟨q,o,xs,rfl,I,Z,b⟩:=Y;have O:=gD (x:=k) Z b;rw[U]at O;refine#[q,_,rfl,.inr #[ks.zip xs,k,q',.inr #[o,I],rfl,i,rfl],O,fun P r=>?_];rw[Rep]at r;obtain⟨l,s,R,f,e,c,d⟩:=r;cases f;rw[e]at I;have O:=gD (x:=k) c d
   have a:ks.zip R=ks.zip xs:=by injection I with I;injection I with _ I;injection I
   rw[U,a]at O;exact O
def GL(h:RL.lY y kx=some d):sO y kx=some (some d):=by
 unfold RL.lY at h;split at h
 ·obtain⟨k,O,I⟩:=bind_some h;show(RL.keyOf _).map _=_;rw[O,Option.map_some,I]
 ·obtain⟨k,O,I⟩:=bind_some h;show(RL.keysOf _).map _=_;rw[O,Option.map_some,I]
 ·obtain⟨k,O,I⟩:=bind_some h;show(RL.keysOf _).map _=_;rw[O,Option.map_some,I]
 ·cases h
def Ja(hu:X.A.units+100<cLine)(ha:SE X cl a a')(hb:SE X cl b b')(c:yA b):SE X cl (.Subscript a b pos) (.ixD a' b'):=by
 refine PE.weak (F8 ⋯ ha hb c) fun J H Q h=>?_;obtain⟨I,d,Y,e,k⟩:=h;obtain⟨x,l,e⟩:=bind_some e;obtain⟨y,j,e⟩:=bind_some e;refine#[I,x,Y,l,fun v o R=>#[I,y,Y.same R.same,j,fun u H2 O=>?_]];obtain⟨q,r,rfl,g,⟨w,rfl,U⟩,av⟩:=wH (R.rep.same O.same) O.rep (GL e);refine⟨q,w,rfl,g,k _ _ ⟨R.same.trans O.same,U,fun z=>(by cases z),fun M z P i f=>?_⟩⟩;obtain⟨n,m,Z⟩:=av P ((R.av M z P i f).same O.same);cases m;exact Z
def Hm:SE X cl (.Dict [] [] pos) .dk0:=by
 refine PE.weak B1 fun J H Q h=>?_;obtain⟨O,d,R,e,k⟩:=h;cases e;intro q I;refine k _ _ ⟨aw.bU I,?_,fun _ _ a z=>(by cases z;exact I),fun M z=>nomatch (show false=true from z)⟩;exact#[q,[],rfl,fun z=>z,aV,rfl,ae.nil]
def JM:SE X cl (.Dict [] [] pos) .dt0:=by
 refine PE.weak Bd fun J H Q h=>?_;obtain⟨O,d,R,e,k⟩:=h;cases e;intro q I;refine k _ _ ⟨aw.bU I,?_,fun _ _ a z=>(by cases z;exact I),fun M z=>nomatch (show false=true from z)⟩;exact#[q,[],rfl,fun z=>z,aV,rfl,ae.nil]
end rules
section rules
variable{X:Cx}{st:Stmt}
def Jx(hn:∀ ks ds,y≠.fT ks ds)(h:RL.qI y kx=some k):∃ o,sO y kx=some o/\k=o.isSome:=by
 unfold RL.qI at h;split at h
 ·obtain⟨q,O,I⟩:=map_some h;exact#[_,by show(RL.keyOf _).map _=_;rw[O];rfl,I.symm]
 ·obtain⟨q,O,I⟩:=map_some h;exact#[_,by show(RL.keysOf _).map _=_;rw[O];rfl,I.symm]
 ·exact absurd rfl (hn _ _)
 ·cases h
def Ans.isSome{P:Addr->Prop}{K:W.Frag}(h:Ans P K H o r):r.isSome=o.isSome:=by
 cases o with
 | none=>rw[show r=none from h];rfl
 | some d=>obtain⟨w,I,_⟩:=h;rw[I];rfl
def F0{κ:Type} [DecidableEq κ](kvs:List (κ × V))(k:κ):(fI kvs k).isSome=(kvs.map (·.1)).any fun x=>decide (x=k):=by
 induction kvs with
 | nil=>rfl
 |cons q r I=>
  obtain⟨x,v⟩:=q;by_cases c:x=k
  ·rw[je c,map_cons,any_cons,decide_eq_true c];rfl
  ·rw[iX c,I,map_cons,any_cons,Qh c];rfl
def A1{H:Hp}{y I:RL.D}{v u:V}(U:Rep nP X.K H y v)(Y:Rep nP X.K H I u)(h:RL.qI y I=some k):∃ q r,v=.ref q/\fv H q u r/\r.isSome=k:=by
 by_cases c:∃ ks ds,y=.fT ks ds
 ·obtain⟨ks,ds,rfl⟩:=c
  cases I with
  |tup b=>
   obtain⟨a,R,O⟩:=map_some (show(RL.keysOf b).map _=some k from h);obtain⟨q,o,xs,rfl,l,f,i⟩:=U
   have j:(ks.zip xs).map (·.1)=ks:=by rw[List.map_fst_zip];rw[f,i.length];exact Qb _
   obtain⟨q',ys,rfl,Z,d⟩:=bG Y;rw[jw R d]at Z;refine#[q,_,rfl,.inr #[ks.zip xs,a,q',.inr #[o,l],rfl,Z,rfl],?_];rw[F0,j];exact O
  | _=>cases h
 ·obtain⟨o,R,O⟩:=Jx (fun ks ds z=>c ⟨ks,ds,z⟩) h;obtain⟨q,r,e,g,an,_⟩:=wH U Y R;exact#[q,r,e,g,by rw[an.isSome,O]]
abbrev De(neg:Bool)(ty I:TE):TE:=if neg then wj ty I else FA ty I
def vU(hu:X.A.units+100<cLine)(ha:SE X cl a a')(hb:SE X cl b b'):PC X (if neg then .NotIn else .In) a b (De neg (tE X.K cl a') (tE X.K cl b')):=by
 cases neg with
 | true=>exact yX ⋯ ha hb
 | false=>exact II ⋯ ha hb
def ze(R:RV0 X.K QL J H)(e:RL.ev cl QL (.inD neg a' b')=some d)(k:∀ t H',d=.bl t->aw H H'->Q (.bl t) H'):De neg (tE X.K cl a') (tE X.K cl b') J H Q:=by
 obtain⟨x,Y,e⟩:=bind_some e;obtain⟨y,U,e⟩:=bind_some e;obtain⟨t,a,Z⟩:=map_some e
 cases neg with
 |true=>
  refine two R Y U fun v u b H2 s1 s2 O I _ _=>?_;obtain⟨q,r,rfl,g,an⟩:=A1 I O a;refine#[q,r,rfl,g,k _ _ ?_ (s1.trans s2)];rw[an,<-Z];rfl
 |false=>
  refine two R Y U fun v u b H2 s1 s2 O I _ _=>?_;obtain⟨q,r,rfl,g,an⟩:=A1 I O a;refine#[q,r,rfl,g,k _ _ ?_ (s1.trans s2)];rw[an,<-Z];rfl
def HS(hu:X.A.units+100<cLine)(ha:SE X cl a a')(hb:SE X cl b b')(hm:nX b=true):SE X cl (.Compare a [if neg then .NotIn else .In] [b] pos) (.inD neg a' b'):=by
 refine PE.weak (IM (vU hu ha hb) (j6 hm)) fun J H Q h=>?_;obtain⟨I,d,O,e,q⟩:=h
 exact ze O e fun t H' hd sm=>by subst hd;exact q _ _ (dR sm)
def JB(hu:X.A.units+100<cLine)(ha:SE X cl a a')(hb:SE X cl b b')(hm:nX b=true):ST X cl (.Compare a [if neg then .NotIn else .In] [b] pos) (.inD neg a' b'):=by
 refine PT.weak (J9 (vU hu ha hb) (j6 hm)) fun J H Q h=>?_;obtain⟨I,k,O,e,q⟩:=h;obtain⟨d,U,R⟩:=bind_some e;refine ze O U fun t H' hd sm=>?_;subst hd;cases R;exact#[_,rfl,q _ sm]
def wU{κ:Type} [DecidableEq κ]{x:κ}{d:RL.D}{v:V}{P:Addr->Prop}{K:W.Frag}{H:Hp}{ks:List κ}{ds:List RL.D}{xs:List V}(hl:ks.length=ds.length)(r:ae P K H ds xs)(R:Rep P K H d v) :
  ∃ ys,putK (ks.zip xs) x v=(RL.putD ks ds x d).1.zip ys/\(RL.putD ks ds x d).1.length=(RL.putD ks ds x d).2.length/\ae P K H (RL.putD ks ds x d).2 ys:=by
 have O:=hl.trans r.length
 have any:∀ (ks:List κ) (xs:List V),ks.length=xs.length->((ks.zip xs).any fun a=>decide (a.1=x))=decide (x∈ks):=by
  intro ks
  induction ks with
  | nil=>intro xs _;simp
  |cons k r I=>
   intro xs h
   cases xs with
   | nil=>simp at h
   |cons y t=>
    rw[zip_cons_cons,any_cons,I t (by simpa using h)];by_cases hk:k=x
    ·simp[hk]
    ·simp[hk,Ne.symm hk]
 unfold putK RL.putD;rw[any ks xs O];by_cases hm:x∈ks
 ·rw[if_pos (by simpa using hm),if_pos hm];refine#[zipWith (fun k w=>if k=x then v else w) ks xs,?_,?_,?_]
  ·clear any hm hl r
   induction ks generalizing xs with
   | nil=>simp
   |cons k t I=>
    cases xs with
    | nil=>simp at O
    |cons y U=>
     rw[zip_cons_cons,map_cons,zipWith_cons_cons,zip_cons_cons,I (by simpa using O)];by_cases hk:k=x<;>simp[hk]
  ·rw[List.length_zipWith,hl,min_self]
  ·clear any hm O
   induction ks generalizing ds xs with
   | nil=>simpa using ae.nil
   |cons k t I=>
    cases ds with
    | nil=>simp at hl
    |cons b ds=>
     obtain⟨y,U,rfl,Z,Y⟩:=r;rw[zipWith_cons_cons,zipWith_cons_cons];refine ae.cons ?_ (I (by simpa using hl) Y);by_cases hk:k=x
     ·rw[if_pos hk,if_pos hk];exact R
     ·rw[if_neg hk,if_neg hk];exact Z
 ·rw[if_neg (by simpa using hm),if_neg hm];refine#[xs++[v],?_,by simp[hl],ae.append r (ae.cons R ae.nil)];rw[List.zip_append O];rfl
def yM [DecidableEq κ](hd:d.imm=true):∀ {ks:List κ} {ds:List RL.D},RL.au ds=true->RL.au (RL.putD ks ds x d).2=true:=by
 have app:∀ l:List RL.D,RL.au l=true->RL.au (l++[d])=true:=fun l=>by
  induction l with
  | nil=>intro _;simp[RL.au,hd]
  | cons z r I=>intro h;rw[RL.au,and_eq_true]at h;rw[List.cons_append,RL.au,h.1,I h.2];rfl
 have O:∀ (ks:List κ) (ds:List RL.D),RL.au ds=true->RL.au (zipWith (fun k w=>if k=x then d else w) ks ds)=true:=fun ks=>by
  induction ks with
  | nil=>intro ds _;simp[RL.au]
  |cons k r I=>
   intro ds h
   cases ds with
   | nil=>simp[RL.au]
   |cons y t=>
    rw[RL.au,and_eq_true]at h;rw[zipWith_cons_cons,RL.au,I t h.2,Bool.and_true];by_cases hk:k=x
    ·rw[if_pos hk];exact hd
    ·rw[if_neg hk];exact h.1
 intro ks ds h;unfold RL.putD;split
 ·exact O ks ds h
 ·exact app ds h
def Fb(h:PS X st (yg (k6 i) (tE X.K cl k') (tE X.K cl e')))(hi:M.contains i=true):PS X st (tS X.K M fun I=>(RL.ev cl I e').bind fun d=>(RL.ev cl I k').bind fun n=>((I[i]?).bind id).bind fun l=>match l with
  | .lst _=>none
  | _=>if d.imm then(RL.eS l n d).map fun m=>(.nx,I.set i (some m))else none):=by
 refine PS.weak h fun D J H h=>?_;obtain⟨I,o,QK,R,e,k⟩:=h;obtain⟨d,T,e⟩:=bind_some e;obtain⟨n,S,e⟩:=bind_some e;obtain⟨l,e3,e⟩:=bind_some e;obtain⟨v,r,Q⟩:=R.val i _ (slot_get e3);rw[if_pos hi]at Q;obtain⟨V,N,L⟩:=Q
 cases l with
 |dK ks ds=>
  dsimp only at e;split at e
  ·rename_i a;obtain⟨m,s,G⟩:=map_some e;cases G;obtain⟨O,F,g⟩:=bind_some (show(RL.keyOf n).bind _=some m from s);split at g
   ·rename_i C;cases g;obtain⟨q,xs,rfl,_,f,c,p⟩:=L;refine#[I,d,R.rv0,T,fun y H1 Y=>#[.ref q,r,I,n,R.rv0.same Y.same,S,fun u H2 U=>?_]];have sm:=Y.same.trans U.same;obtain⟨ys,B,A,w⟩:=wU (x:=O) c (p.same sm) (Y.rep.same U.same)
    have hlen:(ks.zip xs).length<sizeLine:=by
     rw[length_zip,<-p.length,c,min_self,<-c];exact Qg C cD
    refine#[q,_,rfl,by rw[oh F U.rep];exact me.k (sm _ _ f) hlen,?_];have Z:=yM (x:=O) a (ks:=ks) N
    obtain⟨E,j⟩:=(R.same sm).jX (d':=.dK (RL.putD ks ds O d).1 (RL.putD ks ds O d).2) (o':=.dK (putK (ks.zip xs) O y)) hi r (sm _ _ f) (.inr (.inl #[_,rfl])) ⟨rfl,Z,by
     rw[Rep]
     exact#[q,ys,rfl,fun z=>z,by rw[aV,B],A,(ae.upd (sm _ _ f) (.inr (.inl #[_,rfl])) rfl (w.imm Z)).imm Z]⟩
    exact k _ _ E ((Fr'.same sm).trans j)
   ·cases g
  ·cases e
 |dT ks ds=>
  dsimp only at e;split at e
  ·rename_i a;obtain⟨m,s,G⟩:=map_some e;cases G
   cases n with
   |tup P=>
    obtain⟨O,F,g⟩:=bind_some (show(RL.keysOf P).bind _=some m from s);split at g
    ·rename_i C;cases g;obtain⟨q,xs,rfl,_,f,c,p⟩:=L;refine#[I,d,R.rv0,T,fun y H1 Y=>#[.ref q,r,I,.tup P,R.rv0.same Y.same,S,fun u H2 U=>?_]];have sm:=Y.same.trans U.same;obtain⟨ys,B,A,w⟩:=wU (x:=O) c (p.same sm) (Y.rep.same U.same)
     have hlen:(ks.zip xs).length<sizeLine:=by
      rw[length_zip,<-p.length,c,min_self,<-c];exact Qg C cD
     obtain⟨b,ws,rfl,j,g3⟩:=bG U.rep;rw[jw F g3]at j;refine#[q,_,rfl,me.t (sm _ _ f) j hlen,?_];have Z:=yM (x:=O) a (ks:=ks) N
     obtain⟨E,j⟩:=(R.same sm).jX (d':=.dT (RL.putD ks ds O d).1 (RL.putD ks ds O d).2) (o':=.dT (putK (ks.zip xs) O y)) hi r (sm _ _ f) (.inr (.inr #[_,rfl])) ⟨rfl,Z,by
      exact#[q,ys,rfl,fun z=>z,by rw[aV,B],A,(ae.upd (sm _ _ f) (.inr (.inr #[_,rfl])) rfl (w.imm Z)).imm Z]⟩
     exact k _ _ E ((Fr'.same sm).trans j)
    ·cases g
   | _=>cases s
  ·cases e
 | lst _=>cases e
 | _=>cases V
end rules
end RS
namespace L2
open PySem PySem.Spec PyProof.Rows
abbrev Its(c lo:Int)(n:Nat):It:=#[fun i _=>i<n,fun i H x H'=>H'=H/\x=.int (lo+i*c),fun i _=>n<=i]
def zm{P:Program}{w:World}{K:PySem.W.Frag}(it:Addr)(c lo:Int)(n:Nat):Turn P w K tg (Its c lo n) [it] it (fun i h=>IsRangeIter h it (lo+(i:Nat)*c) ((n:Int)-(i:Nat)) c) where
 mem:=by simp
 obj:=fun i h st b hb=>by
  rw[show b=it by simpa using hb];exact⟨_,st,fun v z=>by cases(show Data.fields _=Data.cell v from z)⟩
 keep:=fun i h h' st k=>k it (by simp) _ st
 item:=by
  intro X g f j R i pins s J H E I hf st hg;subst g f j;obtain⟨d,a,q,Z,Y,U⟩:=hf it (by simp);have W:=Walks.range (prog:=X.prog) (w:=X.w) (I.ok.hd.1 R) it lo c n;refine W.item i s _ _ hg st fun v h' l p O m=>?_;obtain⟨t,rfl⟩:=p;have u:Inv X pins J H { s with heap:=h',toks:=l }:=I.turned (fun b o hb e=>m b o (by simpa using hb) e) d a Z Y U;exact#[_,rfl,sJ O rfl rfl ∅ #[.int (lo+i*c),H,u,#[t,rfl],#[rfl,rfl],O,fun b hb=>(hf b hb).1]]
 done:=by
  intro X g f j R i pins s J H E I hf st hg;obtain⟨d,a,q,Z,Y,U⟩:=hf it (by simp)
  exact wpAny_pyNext_range_end (I.ok.hd.1 R) st (by have:n<=i:=hg;lia) fun h' r=>#[rfl,I.turned (fun b o hb e=>r b o hb e) d a Z Y U]
 self:=fun _ _ _ _ _ st h=>wpAny_pyIter_rangeiter st h
end L2
namespace RS
open PySem PySem.Spec PyProof.Rows L2
def oM(c:Int):∀ (n:Nat) (lo:Int) (i:Nat) (d:RL.D),(RL.cK c lo n)[i]?=some d->d=.int (lo+i*c)
 | 0,lo,i,d,h=>by simp[RL.cK]at h
 | n+1,lo,0,d,h=>by simp[RL.cK]at h;simp[h]
 | n+1,lo,i+1,d,h=>by
  rw[oM c n (lo+c) i d h];congr 1;lia
def kK(c:Int):∀ (n:Nat) (lo:Int),(RL.cK c lo n).length=n
 | 0,_=>rfl
 | n+1,lo=>by rw[RL.cK,length_cons,kK c n]
def wm{K:W.Frag}{H:Hp}{c lo:Int}:kR K (Its c lo n) (RL.cK c lo n) P H where
 go:=fun H' i k hi=>by rw[kK]at hi;exact hi
 stop:=fun H' k=>by rw[kK];exact Qb _
 yld:=fun H' i d x H2 k e y=>by
  obtain⟨z,y⟩:=y;subst z;refine#[aw.refl _,fun _=>?_];rw[oM c n lo i d e,y];exact bg
section rules
variable{st:Stmt}
def yI(hf:∀ a b,RL.aF o (.int a) (.int b)=some (.int (f a b)))(h:PS X st (Ir i (tE X.K cl e') (ipI f)))(hi:M.contains i=false):SS X cl M st (.aug i o e'):=by
 refine PS.weak h fun D J H h=>?_;obtain⟨I,g,U,O,e,k⟩:=h;obtain⟨x,d,e⟩:=bind_some e;obtain⟨y,c,e⟩:=bind_some e
 cases x with
 |int a=>
  cases y with
  |int b=>
   dsimp only at e;rw[hf]at e;cases e;obtain⟨v,Z,Y⟩:=O.val i _ (slot_get d);rw[if_neg (by rw[hi];decide)]at Y;refine#[v,Z,I,.int b,O.rv0,c,fun u j R=>#[a,b,ag Y,ag R.rep,?_]];exact k _ _ ((O.same R.same).bind hi bg) (Fr'.bind hi R.same)
  | _=>cases e
 | _=>cases e
end rules
abbrev nG(p:Addr)(a b c:Int):HO:=.ext fun h=>∃ t u v,IsRange h p a b c t u v
def uD(a b c:Int):0<=Builtin.Range.rangeSize a b c:=by
 unfold Builtin.Range.rangeSize;split
 ·split
  ·have:=Int.ediv_nonneg (a:=b-a-1) (b:=c) ⋯ ⋯;omega
  ·lia
 ·split
  ·by_cases I:c=0
   ·subst I;simp
   ·have:=Int.ediv_nonneg (a:=a-b-1) (b:=-c) ⋯ ⋯;omega
  ·lia
def BB(a b c:Int):Builtin.Range.rangeSize a b c<=(if a<b then b-a else a-b)+1:=by
 unfold Builtin.Range.rangeSize;split
 ·split
  ·have:=Int.ediv_le_self (a:=b-a-1) c ⋯;lia
  ·lia
 ·split
  ·have:=Int.ediv_le_self (a:=a-b-1) (-c) ⋯;split<;>omega
  ·split<;>lia
def jF(a b c:Int):(RL.bJ c a b:Int)=Builtin.Range.rangeSize a b c:=Int.toNat_of_nonneg (uD a b c)
def j7(ha:-(2 ^ 60)<=a)(R:a<2 ^ 60)(hb:-(2 ^ 60)<=b)(O:b<2 ^ 60)(Y:-(2 ^ 60)<=c)(I:c<2 ^ 60):Builtin.Range.small a b c=true:=by
 have Z:=uD a b c;have U:=BB a b c;unfold Builtin.Range.small;simp only[Builtin.Range.rangeFitsLong,and_eq_true,or_eq_true,decide_eq_true_eq,beq_iff_eq];refine#[#[#[#[?_,?_],?_],?_],.inr ?_]
 ·lia
 ·lia
 ·lia
 ·split at U<;>lia
 ·split<;>(rw[and_eq_true,decide_eq_true_eq,decide_eq_true_eq];lia)
section
variable{X:Cx}
abbrev tR(xs:List V)(a b c:Int):Prop:=(xs=[.int b]/\a=0/\c=1)\/(xs=[.int a,.int b]/\c=1)\/(xs=[.int a,.int b,.int c]/\c≠0/\c.natAbs<2 ^ 60)
def oC{pins:List (Addr × Obj)}{J:L2.St}{H:Hp}{s:Shared}{a b c:Int}{t u v:Tok}{O:Nat}(I:Inv X pins J H s):Inv X pins J (upd H s.heap.objs.size (nG s.heap.objs.size a b c)) { s with heap:=s.heap.push { cls:=.type "range",data:=.fields (List.toArray [.int a t,.int b u,.int c v]) },toks:=O } :=
 I.laid (fun b u e=>J2 _ e) (Qb _) ⟨⟨t,u,v,IsRange.new _ a b c t u v⟩,⟨_,Qc _ rfl⟩,fun U R ⟨t,u,v,e⟩ k=>#[t,u,v,k _ e]⟩
def iS:bL X (.type "range") (fun xs H Q=>∃ a b c,tR xs a b c/\∀ p,H p=none->Q (.ref p) (upd H p (nG p a b c))):=by
 fin2;obtain⟨a,b,c,ha,q⟩:=h;have hf:=I.hok.fresh (Qb _)
 rcases ha with⟨rfl,rfl,rfl⟩ | ⟨rfl,rfl⟩ | ⟨rfl,Z,U⟩
 ·cases r with
  |cons r O=>
   cases O;obtain⟨t,rfl⟩:=r;exact call_range_1 ⟨.ref _,_,oC I,rfl,q _ hf⟩
 ·cases r with
  |cons r O=>
   cases O with
   |cons R O=>
    cases O;obtain⟨t,rfl⟩:=r;obtain⟨t2,rfl⟩:=R;exact call_range_2 ⟨.ref _,_,oC I,rfl,q _ hf⟩
 ·cases r with
  |cons r O=>
   cases O with
   |cons R O=>
    cases O with
    |cons Y O=>
     cases O;obtain⟨t,rfl⟩:=r;obtain⟨t2,rfl⟩:=R;obtain⟨t3,rfl⟩:=Y;refine call_range_3 Z ⟨.ref _,_,oC I,rfl,q _ hf⟩ (.inl (PyProof.noPylong_of_log2 ?_));have:c.natAbs.log2<60:=(Nat.log2_lt ⋯).mpr U;lia
abbrev cL(a c:Int)(n:Nat):List V:=(List.range n).map fun(i:Nat)=>V.int (a+(i:Int)*c)
def wu{a c:Int}{n:Nat}{I:Array Value}(R:ItemsOf (fun i v=>∃ t,v=.int (a+i*c) t) I n):Vals (cL a c n) I.toList:=by
 have len:(cL a c (n)).length=I.toList.length:=by
  simp only[cL,length_map,length_range,length_toList,R.1]
 have gen:∀ (xs:List V) (us:List Value),xs.length=us.length->(∀ (i:Nat) u,us[i]?=some u->∃ x,xs[i]?=some x/\RelV x u)->Vals xs us:=by
  intro xs
  induction xs with
  | nil=>intro us h _;cases us with
   | nil=>exact .nil
   | cons _ _=>cases h
  | cons x r Y=>intro us h g;cases us with
   | nil=>cases h
   |cons u us=>
    obtain⟨f,e,d⟩:=g 0 u rfl;cases e
    exact .cons d (Y us (by simpa using h) fun i u hu=>by
     obtain⟨y,b,Z⟩:=g (i+1) u (by simpa using hu)
     exact#[y,by simpa using b,Z])
 refine gen _ _ len fun i u hu=>?_
 have O:I[i]?=some u:=by simpa using hu
 obtain⟨U,rfl⟩:=R.2 i u O
 have hi:i<n:=by
  have:=(Array.getElem?_eq_some_iff.mp O).1;rw[R.1]at this;exact this
 exact#[.int (a+i*c),by simp[cL,hi],U,rfl]
def iq(Z:X.calm=true):bL X (.type "list") (fun xs H Q=>∃ p a b c,xs=[.ref p]/\H p=some (nG p a b c)/\Builtin.Range.small a b c=true/\RL.bJ c a b<=RL.most /\
  ∀ l,H l=none->Q (.ref l) (upd H l (.lst (cL a c (RL.bJ c a b))))):=by
 fin2;obtain⟨p,a,b,c,rfl,Y,U,hn,q⟩:=h
 cases r with
 |cons r R=>
  cases R;cases r;obtain⟨⟨t,u,v,e⟩,_,_⟩:=I.hok p _ Y;refine call_list_range (I.ok.hd.1 Z) e U (jF a b c).symm (Qn hn ∅) fun h' g O c' hk d f=>?_;have hf:=I.hok.fresh (Qb _);refine#[.ref s.heap.objs.size,upd H s.heap.objs.size (.lst (cL a c (RL.bJ c a b))),I.laid hk (Qb _) (show _/\_ from#[?_,O.toList,c',?_,?_]),rfl,q _ hf]
  ·simp only[cL,length_map,length_range];exact Qn hn cD
  ·exact wu f
  ·rw[Array.toArray_toList];exact d
def lO{P:Addr->Prop}{K:W.Frag}:∀ (n:Nat) (a c:Int),ae P K H (RL.cK c a n) (cL a c n)
 | 0,a,c=>ae.nil
 | n+1,a,c=>by
  have e:cL a c (n+1)=V.int a::cL (a+c) c n:=by
   simp only[cL,range_succ_eq_map,map_cons,map_map];congr 1
   ·simp
   ·apply QD;intro i _;show V.int (a+((i+1:Nat):Int)*c)=V.int (a+c+(i:Int)*c);congr 1;lia
  rw[RL.cK,e];exact ae.cons bg (lO n (a+c) c)
def k8:∀ (n:Nat) (a:Int),RL.dC a n=RL.cK 1 a n
 | 0,_=>rfl
 | n+1,a=>by rw[RL.dC,RL.cK,k8 n]
def eM(a b:Int):RL.bJ 1 a b=(b-a).toNat:=by
 have h:=jF a b 1;rw[rangeSize_one]at h;split at h<;>lia
def tf{I:RL.St}{J:L2.St}{H R:Hp}{e:RL.E}{Q:VK}{vs:List V}{a b c:Int}{ds:List RL.D}(U:tR vs a b c)(hd:ds=RL.cK c a (RL.bJ c a b))(hn:RL.bJ c a b<=RL.most)(Y:Builtin.Range.small a b c=true)(sm:aw H R)
 (O:∀ M,RL.avE M e=false)(k:∀ v H',Res X.K I J H e (.lst ds) v H'->Q v H') :
  ∃ a b c,tR vs a b c/\∀ p,R p=none->(fun xs H Q=>∃ p a b c,xs=[V.ref p]/\H p=some (nG p a b c)/\Builtin.Range.small a b c=true/\RL.bJ c a b<=RL.most/\∀ l,H l=none->Q (.ref l) (upd H l (.lst (cL a c (RL.bJ c a b))))) [.ref p] (upd R p (nG p a b c)) Q:=by
 refine#[a,b,c,U,fun p Z=>#[p,a,b,c,rfl,aV,Y,hn,fun l hl=>k _ _ ?_]];subst hd;exact iH (sm.trans (aw.bU Z)) hl (lO _ _ _) O
def Ek(l:X.calm=true)(Z:Gl X "list")(U:X.mg "list" = none)(hg:Gl X "range")(hm:X.mg "range" = none)(ha:SE X cl a a')(hn:noStar a=true){g I:Pos}:SE X cl (.Call (.Name "list" g) [.Call (.Name "range" p) [a] [] pos] [] I) (.rng1 a'):=by
 refine PE.weak (cA (iq l) Z U (by decide +kernel) (bz (cA iS hg hm boot_range (bP ha da hn) ∅ ∅ (ay [] hn) rfl) cT rfl) ∅ ∅ rfl rfl) fun J H Q h=>?_;obtain⟨b,d,c,e,k⟩:=h;obtain⟨x,m,e⟩:=bind_some e;obtain⟨ds,R,o⟩:=map_some e;subst o;obtain⟨i,j,n,rfl,hb,Y,rfl⟩:=l8 R;cases n
 have O:-(2 ^ 60)<=j/\j<2 ^ 60:=by
  simp only[RL.cb]at R;split at R
  ·lia
  ·cases R
 refine one c m fun v q s1 f=>?_;exact tf (.inl #[by rw[ag f],rfl,rfl]) (by rw[k8,eM]) (by rw[eM];exact Y) (j7 ∅ ∅ O.1 O.2 ∅ ∅) s1 (fun _=>rfl) k
def EB(o:X.calm=true)(c:Gl X "list")(Y:X.mg "list" = none)(hg:Gl X "range")(hm:X.mg "range" = none)(ha:SE X cl a a')(hb:SE X cl b b')(hn:noStar a=true)(R:noStar b=true){n O:Pos}:SE X cl (.Call (.Name "list" n) [.Call (.Name "range" p) [a,b] [] pos] [] O) (.rng2 a' b'):=by
 refine PE.weak (cA (iq o) c Y (by decide +kernel) (bz (cA iS hg hm boot_range (bP ha (bP hb da R) hn) ∅ ∅ (ay _ hn) (d5 (by simp[R]))) cT rfl) ∅ ∅ rfl rfl) fun J H Q h=>?_;obtain⟨f,d,g,e,k⟩:=h;obtain⟨x,r,e⟩:=bind_some e;obtain⟨y,q,e⟩:=bind_some e;obtain⟨ds,U,s⟩:=map_some e;subst s;obtain⟨i,j,rfl,rfl,hb,Z,rfl⟩:=l8 U
 have I:(-(2 ^ 60)<=i/\i<2 ^ 60)/\-(2 ^ 60)<=j/\j<2 ^ 60:=by
  simp only[RL.cb]at U;split at U
  ·lia
  ·cases U
 refine pair g r q fun v u t s1 m l=>?_;exact tf (.inr (.inl #[by rw[ag m,ag l],rfl])) (by rw[k8,eM]) (by rw[eM];exact Z) (j7 I.1.1 I.1.2 I.2.1 I.2.2 ∅ ∅) s1 (fun _=>rfl) k
abbrev j3(c:Int):Expr->Bool
 | .Constant (.int i) _ _=>i == c
 | .UnaryOp .USub (.Constant (.int i) _ _) _=>-i == c
 | _=>false
def mW(h:j3 c e=true):PE X e (tC (.int c))/\noStar e=true:=by
 unfold j3 at h;split at h
 ·rw[beq_iff_eq]at h;subst h;exact#[vq,rfl]
 ·rw[beq_iff_eq]at h;subst h;exact#[PE.weak (Dc Ag vq) fun J H Q q=>#[_,rfl,q],rfl]
 ·cases h
def vK(h:RL.gM c x y=some ds):∃ i j:Int,x=.int i/\y=.int j/\c≠0/\c.natAbs<2 ^ 60/\Builtin.Range.small i j c=true/\RL.bJ c i j<=RL.most/\ds=RL.cK c i (RL.bJ c i j):=by
 unfold RL.gM at h;split at h
 ·rename_i i j;split at h
  ·rename_i I;cases h;exact#[i,j,rfl,rfl,I.1,by omega,j7 I.2.2.2.2.1 I.2.2.2.2.2.1 I.2.2.2.2.2.2.1 I.2.2.2.2.2.2.2 (by omega) I.2.2.1,I.2.2.2.1,rfl]
  ·cases h
 ·cases h
def wB(ha:SE X cl a a')(hb:SE X cl b b')(hn:noStar a=true)(I:noStar b=true)(O:j3 c e3=true):PA X [a,b,e3] (fun J H R=>tE X.K cl a' J H fun v U=>tE X.K cl b' J U fun u H2=>R [v,u,.int c] H2) :=
 bz ha (bz hb (bz (mW O).1 cT (ay [] (mW (X:=X) O).2)) (ay _ I)) (ay _ hn)
def EV{c:Int}{Z:Expr}(o:X.calm=true)(Y:Gl X "list")(U:X.mg "list" = none)(hg:Gl X "range")(hm:X.mg "range" = none)(ha:SE X cl a a')(hb:SE X cl b b')(hn:noStar a=true)(O:noStar b=true)(R:j3 c Z=true){n I:Pos} :
  SE X cl (.Call (.Name "list" n) [.Call (.Name "range" p) [a,b,Z] [] pos] [] I) (.rng3 c a' b'):=by
 refine PE.weak (cA (iq o) Y U (by decide +kernel) (bz (cA iS hg hm boot_range (wB ha hb hn O R) ∅ ∅ (ay _ hn) (d5 (by simp[O,(mW (X:=X) R).2]))) cT rfl) ∅ ∅ rfl rfl) fun J H Q h=>?_;obtain⟨f,d,m,e,k⟩:=h;obtain⟨x,w,e⟩:=bind_some e;obtain⟨y,t,e⟩:=bind_some e;obtain⟨ds,A,z⟩:=map_some e;subst z;obtain⟨i,j,rfl,rfl,s,r,q,R,rfl⟩:=vK A;refine two m w t fun v u B H2 s1 s2 l g _ _=>?_;exact tf (.inr (.inr #[by rw[ag l,ag g],s,r])) rfl R q (s1.trans s2) (fun _=>rfl) k
def EG(hg:Gl X "range")(hm:X.mg "range" = none)(ha:SE X cl a a')(hb:SE X cl b b')(hn:noStar a=true)(O:noStar b=true)(Y:j3 c e3=true) :
  SI X cl tg (.Call (.Name "range" p) [a,b,e3] [] pos) (.rng3 c a' b'):=by
 intro pins s J H R I h;obtain⟨d,ds,l,e,k⟩:=h;obtain⟨x,D,e⟩:=bind_some e;obtain⟨y,C,e⟩:=bind_some e;obtain⟨i,j,rfl,rfl,B,A,n,hl,rfl⟩:=vK e;refine thn (cA iS hg hm boot_range (wB (cl:=cl) ha hb hn O Y) ∅ ∅ (ay _ hn) (d5 (by simp[O,(mW (X:=X) Y).2])) pins s J H (fun x H2=>∃ p,x=.ref p/\H2 p=some (nG p i j c)/\aw H H2) I ?_) ?_
 ·exact two l D C fun v u Z H2 s1 s2 g f _ _=>#[i,j,c,.inr (.inr #[by rw[ag g,ag f],B,A]),fun p w=>#[p,rfl,aV,(s1.trans s2).trans (aw.bU w)]]
 ·rintro v s1 ⟨x,Z,U,m,q,rfl,r,sm⟩;cases m;obtain⟨⟨t,u,v,z⟩,_,_⟩:=U.hok q _ r;refine wpAny_pyIter_range z n ⟨s1.heap.objs.size,[s1.heap.objs.size],_,Its c i (RL.bJ c i j),Z,rfl,U.kept (t':=s1.toks) fun b o e=>J2 _ e,zm _ c i _,?_,fun b hb=>?_,k _ _ sm ⟨wm,fun _ _ _ _ _=>wm⟩⟩
  ·have F:i+((0:Nat):Int)*c=i:=by simp
   have E:((RL.bJ c i j:Nat):Int)-((0:Nat):Int)=Builtin.Range.rangeSize i j c:=by rw[jF];simp
   show IsRangeIter _ _ (i+((0:Nat):Int)*c) (((RL.bJ c i j:Nat):Int)-((0:Nat):Int)) c;rw[F,E];exact Qc _ rfl
  ·rw[show b=s1.heap.objs.size by simpa using hb];exact U.qw (Qb _) (U.hok.fresh (Qb _))
def Eo(hl:SE X cl l e'):SI X cl tg l (.seq e'):=by
 refine PI.weak (Hu (cl:=cl) hl trivial) fun J H R h=>?_;obtain⟨I,ds,O,e,k⟩:=h;obtain⟨d,Y,U⟩:=bind_some e;exact#[I,d,ds,O,Y,U,k]
def Ga(ha:SE X cl a a'):SE X cl (.UnaryOp .USub a pos) (.neg a'):=by
 refine PE.weak (Dc Ag ha) fun J H Q h=>?_;obtain⟨I,d,R,e,k⟩:=h;obtain⟨x,U,e⟩:=bind_some e
 cases x with
 | int i=>cases e;exact#[I,_,R,U,fun v Y O=>#[i,ag O.rep,k _ _ (cS O.same bg rfl)]]
 | _=>cases e
end
abbrev mAt(mp:List Nat)(vs:List V):Addr->Prop:=fun a=>∃ p,p∈mp/\vs[p]?=some (.ref a)
structure ID(K:W.Frag)(mp:List Nat)(ds:List RL.D)(vs:List V)(H:Hp):Prop where
 lU:ae nP K H ds vs
 own:∀ p∈mp,∃ d a,ds[p]?=some d/\vs[p]?=some (.ref a)/\Own K H d (.ref a)
 sep:∀ p∈mp,∀ q∈mp,∀ a,vs[p]?=some (.ref a)->vs[q]?=some (.ref a)->p=q
 oth:∀ (q:Nat) d v,q∉mp->ds[q]?=some d->vs[q]?=some v->Rep (mAt mp vs) K H d v
structure Lh(K:W.Frag)(mp:List Nat)(outs:List RL.D)(vs:List V)(H:Hp):Prop where
 len:outs.length=mp.length
 own:∀ (k p:Nat) o,mp[k]?=some p->outs[k]?=some o->∃ a,vs[p]?=some (.ref a)/\Own K H o (.ref a)
abbrev spM(K:W.Frag)(cl:RL.Cl)(mp:List Nat)(f:Nat):Sp:=fun vs H Q _=>∃ ds d outs,cl f ds=some (.tup (d::outs))/\ID K mp ds vs H/\∀ v H',Off (mAt mp vs) H H'->Rep nP K H' d v->d.imm=true->Lh K mp outs vs H'->Q v H'
abbrev xp(K:W.Frag)(cl:RL.Cl):RL.E->TE
 | .var j=>k6 j
 | e=>tE K cl e
abbrev kW(K:W.Frag)(cl:RL.Cl):RL.Es->TA
 | .nil=>qv
 | .cons e es=>p8 (xp K cl e) (kW K cl es)
abbrev eG(K:W.Frag)(M:List Nat)(J:L2.St)(ps:List Nat)(H:Hp):Nat->RL.Es->List RL.D->List V->Prop
 | _,.nil,[],[]=>True
 | q,.cons e es,d::ds,v::vs=>Rep nP K H d v/\(if ps.contains q=true then ∃ j,e=.var j/\J[j]?=some (some v)else Rep (bD M J) K H d v)/\eG K M J ps H (q+1) es ds vs
 | _,_,_,_=>False
section
variable{K:W.Frag}
def Ar(e:RL.ev cl QL (.var j)=some d):QL[j]?=some (some d):=by
 exact slot_get e
def HY(O:RVm K M QL J H)(I:Res K QL J H e' d v H1)(ok:RL.aX M e' d=true):Rep (bD M J) K H1 d v:=by
 unfold RL.aX at ok;rw[or_eq_true,or_eq_true,and_eq_true]at ok;rcases ok with(q | ⟨q1,q2⟩) | q
 ·exact I.rep.imm q
 ·have rp:=I.rep;have fr:nU d=true->∀ a,v=.ref a->¬ bD M J a:=fun m a z p=>O.uX a p (I.fresh q2 m a z);exact rp.top q1 fr
 ·refine I.av M q _ O.uX fun j dj vj Y b Z=>?_;obtain⟨c,U,R⟩:=O.val j dj b;rw[Z]at U;cases U;rw[if_neg (by rw[Y];decide)]at R;exact R
def EU{e:RL.E}{d:RL.D}{ps:List Nat}(U:RVm K M QL J H)(c:RL.ev cl QL e=some d)(ok:(if ps.contains q=true then RL.isVar e else RL.aX M e d)=true)
 (k:∀ v O,aw H O->Rep nP K O d v->(if ps.contains q=true then ∃ j,e=.var j/\J[j]?=some (some v)else Rep (bD M J) K O d v)->R v O):xp K cl e J H R:=by
 unfold xp;split
 ·rename_i j;have b:=Ar c;obtain⟨v,a,Y⟩:=U.val j d b;refine#[v,a,k v H (aw.refl H) ?_ ?_]
  ·obtain⟨i,f,h⟩:=U.rv0.2 j d b;rw[a]at f;cases f;exact h
  ·by_cases I:ps.contains q=true
   ·rw[if_pos I];exact#[j,rfl,a]
   ·rw[if_neg I]at ok ⊢;by_cases hm:M.contains j=true
    ·rw[if_pos hm]at Y
     have g:d.imm=true:=by
      unfold RL.aX at ok;rw[or_eq_true,or_eq_true,and_eq_true]at ok;rcases ok with(z | ⟨_,z⟩) | z
      ·exact z
      ·cases z
      ·rw[RL.xV,hm]at z;cases z
     exact Y.2.2.imm g
    ·rw[if_neg hm]at Y;exact Y
 ·rename_i ne
  have I:=fun I=>by
   rw[if_pos I]at ok;unfold RL.isVar at ok;split at ok
   ·exact ne _ rfl
   ·cases ok
  rw[if_neg I]at ok;refine#[QL,d,U.rv0,c,fun v O Z=>k v O Z.same Z.rep ?_];rw[if_neg I];exact HY U Z ok
def tL:∀ {es:RL.Es} {q:Nat} {ds:List RL.D} {H:Hp} {R:List V->Hp->Prop},RVm K M QL J H->RL.evs cl QL es=some ds->RL.eW M ps q es ds=true ->
  (∀ vs U,aw H U->eG K M J ps U q es ds vs->R vs U)->kW K cl es J H R
 | .nil,q,ds,H,R,Y,I,ok,k=>by
  cases I;exact k [] H (aw.refl H) (by rw[eG];trivial)
 | .cons e es,q,ds,H,R,Y,I,ok,k=>by
  obtain⟨d,g,I⟩:=bind_some I;obtain⟨h,f,c⟩:=map_some I;subst c;rw[RL.eW,and_eq_true]at ok;refine EU Y g ok.1 fun v U s1 b O=>?_;refine tL (Y.same s1) f ok.2 fun vs H2 s2 a=>k (v::vs) H2 (s1.trans s2) ?_;refine#[b.same s2,?_,a];by_cases Z:ps.contains q=true
  ·rw[if_pos Z]at O ⊢;exact O
  ·rw[if_neg Z]at O ⊢;exact O.same s2
abbrev mJ:RL.Es->Nat->Option RL.E
 | .nil,_=>none
 | .cons e _,0=>some e
 | .cons _ es,n+1=>mJ es n
def eG.lU:∀ {q:Nat} {es:RL.Es} {ds:List RL.D} {vs:List V},eG K M J ps H q es ds vs->ae nP K H ds vs
 | _,.nil,[],[],h=>ae.nil
 | q,.cons e es,d::ds,v::vs,h=>by
  exact ae.cons h.1 (eG.lU h.2.2)
 | _,.nil,_::_,_,h=>by simp[eG]at h
 | _,.nil,[],_::_,h=>by simp[eG]at h
 | _,.cons _ _,[],_,h=>by simp[eG]at h
 | _,.cons _ _,_::_,[],h=>by simp[eG]at h
def eG.get:∀ {q:Nat} {es:RL.Es} {ds:List RL.D} {vs:List V} (n:Nat) {d:RL.D} {v:V},eG K M J ps H q es ds vs->ds[n]?=some d->vs[n]?=some v ->
  Rep nP K H d v/\(if ps.contains (q+n)=true then ∃ j,mJ es n=some (.var j)/\J[j]?=some (some v)else Rep (bD M J) K H d v)
 | _,.nil,[],[],n,_,_,h,e,_=>by simp at e
 | q,.cons e es,d::ds,v::vs,0,_,_,h,e1,e2=>by
  simp at e1 e2;subst e1 e2;refine#[h.1,?_];have I:=h.2.1;rw[Nat.add_zero];by_cases O:ps.contains q=true
  ·rw[if_pos O]at I ⊢;obtain⟨j,z,y⟩:=I;subst z;exact#[j,rfl,y]
  ·rw[if_neg O]at I ⊢;exact I
 | q,.cons e es,d::ds,v::vs,n+1,_,_,h,e1,e2=>by
  have:=eG.get n h.2.2 (by simpa using e1) (by simpa using e2);rw[show q+1+n=q+(n+1) by lia]at this;exact this
 | _,.nil,_::_,_,_,_,_,h,_,_=>by simp[eG]at h
 | _,.nil,[],_::_,_,_,_,h,_,_=>by simp[eG]at h
 | _,.cons _ _,[],_,_,_,_,h,_,_=>by simp[eG]at h
 | _,.cons _ _,_::_,[],_,_,_,h,_,_=>by simp[eG]at h
def Own.off(h:Own K H d (.ref a))(hm:∀ b o,P b->H b=some o->d6 o)(k:Off P H H1)(n:¬ P a):Own K H1 d (.ref a):=by
 obtain⟨e,Y,I⟩:=h;refine#[e,Y,?_];have Z:∀ {ds:List RL.D} {xs:List V},RL.au ds=true->ae nP K H ds xs->ae nP K H1 ds xs:=fun hi r=>((r.imm hi).off hm k).imm hi
 cases d with
 | lst ds=>obtain⟨g,xs,U,f,R,O⟩:=aW I;cases U;rw[Rep];exact#[a,xs,rfl,fun z=>z,k _ _ n R,Z Y O]
 | dK ks ds=>rw[Rep]at I ⊢;obtain⟨g,xs,U,f,R,c,O⟩:=I;cases U;exact#[a,xs,rfl,fun z=>z,k _ _ n R,c,Z Y O]
 | dT ks ds=>rw[Rep]at I ⊢;obtain⟨g,xs,U,f,R,c,O⟩:=I;cases U;exact#[a,xs,rfl,fun z=>z,k _ _ n R,c,Z Y O]
 | _=>cases e
def qk:∀ {ms:List Nat} {outs:List RL.D} {I:RL.St} {k i:Nat} {o:RL.D},ms.Nodup->ms[k]?=some i->outs[k]?=some o->i<I.length->(fU ms outs I)[i]?=some (some o)
 | [],_,_,_,_,_,_,e,_,_=>by simp at e
 | m::ms,[],_,_,_,_,_,_,e,_=>by simp at e
 | m::ms,d::ds,I,0,i,o,nd,e1,e2,hl=>by
  simp at e1 e2;subst e1 e2;rw[fU,mE _ _ _ _ (by simpa using(List.nodup_cons.mp nd).1),Qi hl]
 | m::ms,d::ds,I,k+1,i,o,nd,e1,e2,hl=>by
  rw[fU];exact qk (List.nodup_cons.mp nd).2 (by simpa using e1) (by simpa using e2) (by simpa using hl)
def RVm.changed(h:RVm K M QL J H)(R:∀ i∈ms,M.contains i=true)(nd:ms.Nodup)(len:ms.length=outs.length)(k:Off (fun a=>∃ i∈ms,J[i]?=some (some (.ref a))) H H1)
 (s:∀ (k i:Nat) o,ms[k]?=some i->outs[k]?=some o->∃ a,J[i]?=some (some (.ref a))/\Own K H1 o (.ref a)):RVm K M (fU ms outs QL) J H1/\Fr' M J H J H1:=by
 have sub:∀ a,(∃ i∈ms,J[i]?=some (some (.ref a)))->bD M J a:=fun a ⟨i,hi,e⟩=>#[i,R i hi,e]
 have I:Off (bD M J) H H1:=fun b o n e=>k b o (fun z=>n (sub b z)) e
 have U:∀ b o,bD M J b->H b=some o->d6 o:=fun b o p e=>by
  obtain⟨o',e',m⟩:=h.xU b p;rw[e]at e';cases e';exact m
 have Z:∀ i,i∈ms->∃ (O:Nat) (o:RL.D),ms[O]?=some i/\outs[O]?=some o:=fun i hi=>by
  obtain⟨O,hk,e⟩:=QH hi;exact#[O,outs[O]'⋯,by simp[hk,e],by simp]
 refine#[#[by rw[om];exact h.len,fun i d e=>?_,fun i v e=>?_,h.sep],#[fun b o e n=>#[I b o n e,n],fun _ _=>rfl]]
 ·by_cases hi:i∈ms
  ·obtain⟨O,o,f,c⟩:=Z i hi
   have hl:i<QL.length:=by
    have:=(List.getElem?_eq_some_iff.mp e).1;rw[om]at this;exact this
   rw[qk nd f c hl]at e;cases e;obtain⟨a,r,q⟩:=s O i _ f c;exact#[.ref a,r,by rw[if_pos (R i hi)];exact q]
  ·rw[mE _ _ _ _ (by simpa using hi)]at e;obtain⟨v,l,Y⟩:=h.val i d e;refine#[v,l,?_];by_cases hm:M.contains i=true
   ·rw[if_pos hm]at Y ⊢;obtain⟨a,o,rfl,_,_⟩:=Y.ref;refine Y.off (fun b o p e=>U b o (sub b p) e) k fun⟨j,g,t⟩=>?_;exact hi (h.sep i j a hm (R j g) l t▸g)
   ·rw[if_neg hm]at Y ⊢;exact Y.off U I
 ·obtain⟨d,hd⟩:=h.non i v e;by_cases hi:i∈ms
  ·obtain⟨O,o,f,c⟩:=Z i hi;exact#[o,qk nd f c (List.getElem?_eq_some_iff.mp hd).1]
  ·exact#[d,by rw[mE _ _ _ _ (by simpa using hi)];exact hd]
end
section rules
variable{X:Cx}{st:Stmt}
abbrev cP(es:RL.Es):List Nat->List Nat->Bool
 | [],[]=>true
 | p::ps,m::ms=>(match mJ es p with | some (.var j)=>j == m | _=>false)&&cP es ps ms
 | _,_=>false
def nC:∀ {ps ms:List Nat} {k p:Nat},cP es ps ms=true->ps[k]?=some p->∃ m,ms[k]?=some m/\mJ es p=some (.var m)
 | [],_,_,_,_,e=>by simp at e
 | _::_,[],_,_,h,_=>by simp[cP]at h
 | p::ps,m::ms,0,q,h,e=>by
  rw[cP,and_eq_true]at h;simp at e;subst e;have I:=h.1;split at I
  ·rename_i j R;rw[beq_iff_eq]at I;subst I;exact#[j,rfl,R]
  ·cases I
 | p::ps,m::ms,k+1,q,h,e=>by
  rw[cP,and_eq_true]at h;obtain⟨O,I,U⟩:=nC h.2 (by simpa using e);exact#[O,by simpa using I,U]
def jH:∀ {ps ms:List Nat},cP es ps ms=true->ps.length=ms.length
 | [],[],_=>rfl
 | [],_::_,h=>by simp[cP]at h
 | _::_,[],h=>by simp[cP]at h
 | p::ps,m::ms,h=>by
  rw[cP,and_eq_true]at h;rw[length_cons,length_cons,jH h.2]
def Bh(rv:RVm X.K M QL J H)(he:RL.evs cl QL es=some ds)(ok:RL.eW M ps 0 es ds=true)(hc:cl f ds=some (.tup (d::outs)))
 (QK:cP es ps ms=true)(I:∀ i∈ms,M.contains i=true)(nd:ms.Nodup)(ndp:ps.Nodup)(w:RL.bI ms outs QL=some QN)
 (k:∀ v H',Rep nP X.K H' d v->d.imm=true->RVm X.K M QN J H'->Fr' M J H J H'->Q v H'):sF (spM X.K cl ps f) [] E0 (kW X.K cl es) J H Q:=by
 refine tL rv he ok fun vs H1 s1 ar=>?_;show spM X.K cl ps f (vs++[]) H1 Q E0;rw[QA];have r:=rv.same s1;have t:=ar.lU;obtain⟨hlen,u⟩:=hJ w;subst u
 have U:∀ (k p:Nat),ps[k]?=some p->∃ m a R,ms[k]?=some m/\J[m]?=some (some (.ref a))/\vs[p]?=some (.ref a)/\ds[p]?=some R/\Own X.K H1 R (.ref a)/\mJ es p=some (.var m):=by
  intro k p hk;obtain⟨m,O,Z⟩:=nC QK hk
  have T:∀ (es:RL.Es) (ds:List RL.D) (n:Nat) (e:RL.E),RL.evs cl QL es=some ds->mJ es n=some e->∃ R,ds[n]?=some R/\RL.ev cl QL e=some R:=by
   intro es
   induction es using RL.Es.rec (motive_1:=fun _=>True) (motive_3:=fun _=>True)with
   | nil=>intro ds n e _ z;cases z
   |cons e0 es0 _ ih=>
    intro ds n e h z;obtain⟨d0,y1,h⟩:=bind_some h;obtain⟨ds0,y2,y3⟩:=map_some h;subst y3
    cases n with
    | zero=>cases z;exact#[d0,rfl,y1]
    | succ n=>exact ih ds0 n e y2 z
   | _=>trivial
  obtain⟨R,F,S⟩:=T es ds p _ he Z;obtain⟨v,g3,g4⟩:=t.get F
  have s:ps.contains (0+p)=true:=by
   rw[zero_add];simpa using Qs hk
  have C:=(ar.get p F g3).2;rw[if_pos s]at C;obtain⟨j,z1,z2⟩:=C;rw[Z]at z1;cases z1;have hm:M.contains m=true:=I m (Qs O);obtain⟨v',z3,G⟩:=r.val m R (Ar S);rw[z2]at z3;cases z3;rw[if_pos hm]at G;obtain⟨a,o,rfl,_,_⟩:=G.ref;exact#[m,a,R,O,z2,g3,F,G,Z]
 have g:∀ a,mAt ps vs a->∃ i∈ms,J[i]?=some (some (.ref a)):=fun a ⟨p,x,e⟩=>by
  obtain⟨k,hk,z⟩:=QH x;obtain⟨m,a',R,O,Z,Y,_⟩:=U k p (by simp[hk,z]);rw[e]at Y;cases Y;exact#[m,Qs O,Z]
 refine#[ds,d,outs,hc,#[t,fun p x=>?_,fun p x q L a e1 V=>?_,fun q dq v L e1 V=>?_],fun v H' off rp im mo=>?_]
 ·obtain⟨k,hk,z⟩:=QH x;obtain⟨m,a',R,O,Z,Y,h4,h5,_⟩:=U k p (by simp[hk,z]);exact#[R,a',h4,Y,h5]
 ·obtain⟨k,hk,z⟩:=QH x;obtain⟨l,hl,y⟩:=QH L
  have gk:ps[k]?=some p:=by simp[hk,z]
  have gl:ps[l]?=some q:=by simp[hl,y]
  obtain⟨m,a1,d1,O,Z,Y,_⟩:=U k p gk;obtain⟨m',a2,d2,B,P,A,_⟩:=U l q gl;rw[e1]at Y;cases Y;rw[V]at A;cases A;have N:=r.sep m m' a (I m (Qs O)) (I m' (Qs B)) Z P;subst N;have c:k=l:=(List.getElem?_inj (by rw[<-jH QK];exact hk) nd).mp (by rw[O,B]);subst c;rw[gk]at gl;exact Option.some.inj gl
 ·have s:ps.contains (0+q)=false:=by
   rw[zero_add];simpa using L
  have C:=(ar.get q e1 V).2;rw[if_neg (by rw[s];decide)]at C
  exact C.weak fun a ha=>by
   obtain⟨i,hi,e⟩:=g a ha;exact#[i,I i hi,e]
 ·obtain⟨F,S⟩:=r.changed (outs:=outs) (H1:=H') I nd hlen (fun b o n e=>off b o (fun z=>n (g b z)) e) fun k i o hk ho=>by
   have c:k<ps.length:=by
    rw[jH QK];exact(List.getElem?_eq_some_iff.mp hk).1
   obtain⟨m,a1,d1,O,Z,Y,_⟩:=U k ps[k] (by simp[c]);rw[hk]at O;cases O;obtain⟨a,q1,q2⟩:=mo.own k ps[k] o (by simp[c]) ho;rw[q1]at Y;cases Y;exact#[_,Z,q2]
  exact k v H' rp im F ((Fr'.same s1).trans S)
def Fw(h:PS X st (si (sF (spM X.K cl ps f) [] E0 (kW X.K cl es))))(c:cP es ps ms=true)(R:∀ i∈ms,M.contains i=true)(nd:ms.Nodup)(O:ps.Nodup):SS X cl M st (.mexc f es ps ms):=by
 refine PS.weak h fun D J H h=>?_;obtain⟨Z,o,Y,b,e,k⟩:=h;obtain⟨ds,m,e⟩:=bind_some e;split at e
 ·rename_i ok;obtain⟨r,l,e⟩:=bind_some e;split at e
  ·rename_i d outs;obtain⟨a,j,g⟩:=map_some e;cases g;exact Bh b m ok l c R nd O j fun v H' _ _ I U=>k _ _ I U
  ·cases e
 ·cases e
end rules
end RS
namespace L2
open PySem PySem.Spec PyProof.Rows
abbrev fH(A:Around)(h:Heap):Prop:=A.handled=none\/∃ x o vs,A.handled=some (.ref x)/\h.get? x=some o/\o.data=.fields vs/\vs[2]?=some .none
def fH.keeps(x:fH A h)(k:∀ b o vs,h.get? b=some o->o.data=.fields vs->A.handled=some (.ref b)->h'.get? b=some o):fH A h':=by
 rcases x with z | ⟨y,o,vs,O,U,I,R⟩
 ·exact .inl z
 ·exact .inr #[y,o,vs,O,k _ _ _ U I O,I,R]
section
def se:entryFor table "proto.unchain" = some Builtin.«proto.unchain»:=entryFor_of_tree (by kernel_rfl)
def Cp(hd:fH A s.heap)(I:s.heap.get? e=some oe)(hf:oe.data=.fields vs)(R:2<vs.size)(ne:A.handled≠some (.ref e))
 (k:∀ h',Heap.SameBut e s.heap h'->(∃ o,h'.get? e=some o/\o.cls=oe.cls)->E (.ref e) { s with heap:=h' }):wpAny (model prog w) A (raiseNew (.ref e):Sem α) Q E s:=by
 unfold raiseNew;refine Qa (wpAny_handled ?_)
 rcases hd with z | ⟨x,o,a,O,Z,Y,U⟩
 ·rw[z];exact Qa (Qd (wpAny_throw (k s.heap (.refl ..) ⟨oe,I,rfl⟩)))
 ·rw[O]
  have nx:(Value.ref x != Value.ref e)=true:=by
   rw[bne_iff_ne];intro q;exact ne (by rw[O,q])
  dsimp only;rw[if_pos nx];refine Qa (wpAny_holding (wpAny_runValue (codeAny_builtin se ?_)));unfold Builtin.«proto.unchain»;refine Qa (wpAny_field Z Y U ?_);rw[if_pos ∅];refine Qa (Qd (Qd ?_));show wpAny _ _ _ _ _ _;refine Qa ?_;show wpAny _ _ (setField (.ref e) 2 (.ref x)) _ _ _;refine wpAny_setField I hf R (wpAny_throw (k _ (.update ..) ⟨_,Qt _ I (Obj.isFreed_of_fields (Obj.data_mapFields hf _)),Obj.cls_mapFields ..⟩))
def pV(hd:fH A s.heap)(k:∀ h' e,(∀ b o,s.heap.get? b=some o->h'.get? b=some o)->(∃ o,h'.get? e=some o/\o.cls=.type "StopIteration")->E (.ref e) { s with heap:=h' }) :
  wpAny (model prog w) A (newExc (.type "StopIteration") []) (fun e s'=>wpAny (model prog w) A (raiseNew e:Sem α) Q E s') E s:=by
 simp only[newExc,newTuple];cbv;refine wpAny_newObj_type ?_ (by size_fits);apply Qa (m:=firstArgMember _ _);refine wpAny_of_eq (a:=Value.none) (by first | rfl | (simp only[firstArgMember];rfl)) ?_;refine wpAny_newObj_type ?_ (by size_fits);have I:∀ b o,s.heap.get? b=some o->b≠(s.heap.push { cls:=.type "tuple",data:=.seq ([]:List Value).toArray }).objs.size:=fun b o e=>Ql (by rw[Qw];exact Nat.lt_succ_of_lt (Qf e));refine Cp (hd.keeps fun b o vs e _ _=>J2 _ (J2 _ e)) (Qc _ rfl) rfl (Qg (by decide:2<6) (by simp)) (fun q=>?_) fun h' sb O=>k h' _ (fun b o e=>(sb.2 b (I b o e)).trans (J2 _ (J2 _ e))) O
 rcases hd with z | ⟨x,o,Y,U,R,_,_⟩
 ·rw[z]at q;cases q
 ·rw[U]at q;cases q;exact I _ _ R rfl
def l6{it l:Addr}{i:Nat}(hd:fH A s.heap)(Y:A.handled≠some (.ref it))(R:s.heap.get? it=some o)(I:o.data=.fields (List.toArray [.ref l,.int i 0]))(O:s.heap.get? l=some ol)(U:ol.data=.seq its nl)(c:its[i]?=none)
 (k:∀ h' e,Heap.ExtBut it s.heap h'->(∃ o,h'.get? e=some o/\o.cls=.type "StopIteration")->E (.ref e) { s with heap:=h' }):wpAny (model prog w) A (Builtin.«list_iterator.__next__» ⟨[.ref it],[]⟩) Q E s:=by
 have Z:¬ ((Value.ref l == Value.none)=true):=Qj;refine show wpAny _ _ (field (.ref it) 0 >>= _) _ _ s from Qa (wpAny_field R I (x:=.ref l) rfl ?_);refine show wpAny _ _ (if(Value.ref l == Value.none)=true then _ else _) _ _ s from ?_;rw[if_neg Z];refine show wpAny _ _ (field (.ref it) 1 >>= _) _ _ s from Qa (wpAny_field R I (x:=.int i 0) rfl ?_);refine show wpAny _ _ (seqItems? (.ref l) >>= _) _ _ s from Qa (wpAny_seqItems O U ?_);simp only[Int.toNat_natCast,c];refine Qa (wpAny_rule (Qa (wpAny_setField R I (by simp) ?_)));refine show wpAny _ _ (newExc (.type "StopIteration") [] >>= _) _ _ _ from Qa ?_;have sb:=Heap.SameBut.update s.heap it (Obj.mapFields (·.setIfInBounds 0 Value.none));refine pV (hd.keeps fun b u vs e _ hb=>(sb.2 b fun z=>Y (z▸hb)).trans e) fun h' e a d=>k h' e (fun b u hb q=>a b u ((sb.2 b hb).trans q)) d
def rS{it l:Addr}{i:Nat}(hd:fH A s.heap)(Y:A.handled≠some (.ref it))(I:s.heap.IsListIter it l i)(hl:s.heap.IsList l its)(Z:its[i]?=none)
 (k:∀ h' e,Heap.ExtBut it s.heap h'->(∃ o,h'.get? e=some o/\o.cls=.type "StopIteration")->E (.ref e) { s with heap:=h' }):wpAny (model prog w) A (Builtin.SmallTypes.nextOf (.ref it)) Q E s:=by
 obtain⟨o,a,d,R⟩:=id I;obtain⟨b,O,_,c,U⟩:=hl;unfold Builtin.SmallTypes.nextOf;cbv;apply wpAny_callSpecial?_slot (name:=Str.ofString "__next__") I.typeIs slot_listiter_next;refine wpAny_call_entry slot_listiter_next I.typeIs entry_listiter_next ?_ (args_listiter_next _);exact l6 hd Y a R O U Z k
def v8{it l:Addr}{i:Nat}(hd:fH A s.heap)(Y:A.handled≠some (.ref it))(I:s.heap.IsListIter it l i)(hl:s.heap.IsList l its)(Z:its[i]?=none)
 (k:∀ h',Heap.ExtBut it s.heap h'->Q none { s with heap:=h' }):wpAny (model prog w) A (pyNext (.ref it)) Q E s:=by
 obtain⟨o,a,h,R⟩:=id I;obtain⟨f,O,_,g,U⟩:=hl;unfold pyNext;cbv;apply wpAny_attempt;apply wpAny_callSpecial?_slot (name:=Str.ofString "__next__") I.typeIs slot_listiter_next;refine wpAny_call_entry slot_listiter_next I.typeIs entry_listiter_next ?_ (args_listiter_next _);refine l6 hd Y a R O U Z fun h' e d c=>?_;cbv;refine wpAny_isInstance (T := "StopIteration") (b:=true) c isSubtype_stop ?_;exact Qd (k h' d)
end
section
def vx(hi:z.heap.IsTupleIter ti tp i)(b:z.heap.IsTuple tp its)(a:its[i]?=some x)
 (k:∀ g,g.IsTupleIter ti tp (i+1)->Heap.SameBut ti z.heap g->Q x { z with heap:=g }):wpAny (model prog w) A (Builtin.SmallTypes.nextOf (.ref ti)) Q E z:=by
 have I:=hi.typeIs;obtain⟨⟨p,o,m,s1⟩,Z,Y,R⟩:=hi;obtain⟨⟨c2,n,l,s2⟩,c,U,h,O⟩:=b;dsimp only at Y R U O;subst Y R U O;obtain⟨j,g,d,f,os⟩:=z;unfold Builtin.SmallTypes.nextOf;k_mem;unfold Builtin.«tuple_iterator.__next__»
 wp_walk using AutoSeq1.wpAny_loadPart' Z,AutoSeq1.wpAny_loadPart' c
 have e:its[((i:Nat):Int).toNat]?=some x:=a;rw[e];dsimp only;cbv;apply wpAny_setField Z rfl (by simp);apply Qd;refine#[x,rfl,?_];apply Qd;apply k
 ·exact#[_,Qt _ Z rfl,rfl,by simp[Obj.mapFields,rawInt]]
 ·exact Heap.SameBut.update ..
def vS(hd:fH A z.heap)(a:A.handled≠some (.ref ti))(hi:z.heap.IsTupleIter ti tp i)(f:z.heap.IsTuple tp its)(c:its[i]?=none)
 (k:∀ g e,Heap.ExtBut ti z.heap g->(∃ o,g.get? e=some o/\o.cls=.type "StopIteration")->E (.ref e) { z with heap:=g }):wpAny (model prog w) A (Builtin.SmallTypes.nextOf (.ref ti)) Q E z:=by
 have I:=hi.typeIs;obtain⟨⟨v,t,r,s1⟩,Z,Y,R⟩:=hi;obtain⟨⟨c2,s,p,s2⟩,j,U,m,O⟩:=f;dsimp only at Y R U O;subst Y R U O;obtain⟨n,g,d,l,os⟩:=z;unfold Builtin.SmallTypes.nextOf;k_mem;unfold Builtin.«tuple_iterator.__next__»
 wp_walk using AutoSeq1.wpAny_loadPart' Z,AutoSeq1.wpAny_loadPart' j
 have e:its[((i:Nat):Int).toNat]?=none:=c;rw[e];dsimp only;cbv;apply wpAny_rule;cbv;apply wpAny_setField Z rfl (by simp);unfold Builtin.SmallTypes.stopIteration;cbv;refine pV (hd.keeps fun b u vs e _ hb=>(Heap.SameBut.update ..).extBut b u (fun z=>a (z▸hb)) e) fun g e kp h=>k g e (fun b o hb q=>kp b o ?_) h;exact(Heap.SameBut.update ..).extBut b o hb q
def sA(h:wpAny (model prog w) A m S (fun _ _=>False) z)(k:∀ a z1,S a z1->Q a z1):wpAny (model prog w) A m Q E z:=wpAny_mono h k fun _ _ f=>f.elim
def A0(h:∀ b,Q b z):wpAny (model prog w) A (pure b) Q E z:=Qd (h b)
def CL{x:Value}{S:Addr->Shared->Prop}(a:∀ A:Around,wpAny (model prog w) A (pyIter x) (fun v z1=>∃ it,v=.ref it/\S it z1) (fun _ _=>False) z)
 (k:∀ it z1,S it z1->Q (.ref z1.heap.objs.size) { z1 with heap:=z1.heap.push { cls:=.type "enumerate",data:=.fields (List.toArray [.none,.bool false,.ref it,rawInt 0,.none,.none]) } }):wpAny (model prog w) A (call (.type "enumerate") [x]) Q E z:=by
 have body:MeetsIn prog w (Builtin.«enumerate.__new__» ⟨[.type "enumerate",x],[]⟩) (fun A R s=>s=z/\∀ it z1,S it z1->R (.ok (.ret (.ref z1.heap.objs.size))) { z1 with heap:=z1.heap.push { cls:=.type "enumerate",data:=.fields (List.toArray [.none,.bool false,.ref it,rawInt 0,.none,.none]) } }):=by
  rintro A R s ⟨rfl,i⟩;have U:=sub_enumerate;have iter:=a A.in1;obtain⟨n,g,d,m,os⟩:=s
  wp_walk
  refine wpAny_stack_any fun st=>A0 fun b=>?_
  have done:∀ it z1,S it z1->wpAny (model prog w) A.in1 (do let r <- Builtin.SmallTypes.newRecord (.type "enumerate") (Builtin.SmallTypes.ownedTupleFields++[.ref it,rawInt 0,.none,.none]);ret r)
    (fun O s'=>match O with | .done f=>R (.ok f) s' | .again c'=>c'.quiet=true/\codeAny (model prog w) A c' R s') (fun e s'=>R (.error e) s') z1:=by
   intro it z1 I;have:=i it z1 I;obtain⟨c,j,l,Y,Z⟩:=z1
   wp_walk
   exact this
  cases b
  ·wp_walk using sA iter
   rintro _ z1 ⟨it,rfl,I⟩;exact done it z1 I
  ·wp_walk using sA iter
   rintro _ z1 ⟨it,rfl,I⟩;exact done it z1 I
 refine callType_newIn F.called_enumerate ∅ (F.typeCall_enumerate_1 _) (F.newCall_enumerate_1 _) (fun obj=>F.args_object_init_2 obj _) F.entry_enumerate_new body ⟨rfl,fun it z1 h=>?_⟩;exact#[#[_,Qc _ rfl,rfl],k it z1 h]
def tF:m5 prog w where
 draws:=fun Y ti tp O its=>{
  live:=fun i h st=>let ⟨o,e,_⟩:=st.1;⟨o,e⟩
  frame:=fun i h h' st kp=>by
   obtain⟨⟨d,l,a⟩,⟨c,j,Z⟩⟩:=st;exact#[#[d,kp ti (by simp) _ l,a],#[c,kp tp (by simp) _ j,Z]]
  item:=fun i s Q E hi st k=>by
   refine vx st.1 st.2 (x:=its[i]) (by simp[hi]) fun g R I=>k its[i] g s.toks (by simp[hi]) ⟨R,st.2.extBut I.extBut O⟩ I
  done:=fun s Q E st k=>vS (.inl Y) (by rw[Y];exact fun z=>nomatch z) st.1 st.2 (by simp) fun g e R I=>k g e R I }
 call:=fun {A E z tp its Q} f k=>by
  refine CL (S:=fun it z1=>it=z.heap.objs.size/\z1={ z with heap:=z.heap.push { cls:=.type "tuple_iterator",data:=.fields (List.toArray [.ref tp,rawInt 0]) } }) (fun A=>wpAny_pyIter_tuple f ⟨_,rfl,rfl,rfl⟩) ?_;rintro it z1 ⟨rfl,rfl⟩;have U:(z.heap.push { cls:=.type "tuple_iterator",data:=.fields (List.toArray [.ref tp,rawInt 0]) }).objs.size=z.heap.objs.size+1:=Qw ..;dsimp only;rw[U];refine k _ ?_ ⟨_,J2 _ (Qc _ rfl),rfl,rfl⟩ fun b o e=>J2 _ (J2 _ e);have:=Qc (z.heap.push { cls:=.type "tuple_iterator",data:=.fields (List.toArray [.ref tp,rawInt 0]) }) (o:={ cls:=.type "enumerate",data:=.fields (List.toArray [.none,.bool false,.ref z.heap.objs.size,rawInt 0,.none,.none]) }) rfl;rw[U]at this;exact this
end
end L2
namespace RS
open PySem PySem.Spec PyProof.Rows L2
section
variable{X:Cx}
def vF:∀ {bs:List Bool} {us:List Value},Vals (bs.map V.bl) us->us=bs.map Value.bool
 | [],_,h=>by cases h;rfl
 | b::bs,_,h=>by
  cases h with
  |cons r t=>
   cases r;rw[vF t];rfl
def Bz{A:Around}{bs:List Bool}:TruthOf X.prog X.w A (fun i v=>(bs.map Value.bool).toArray[i]?=some v) (fun i=>bs.getD i false):=by
 intro i v s Q E O q
 have I:(bs.map Value.bool)[i]?=some v:=by simpa using O
 rw[getElem?_map]at I;obtain⟨b,U,R⟩:=map_some I;subst R
 have:bs.getD i false=b:=by rw[List.getD_eq_getElem?_getD,U];rfl
 have q':Q b s:=this▸q;exact wpAny_truthy_bool q'
def range_all(bs:List Bool):(List.range bs.length).all (fun i=>bs.getD i false)=bs.all id:=by
 have:bs=(List.range bs.length).map fun i=>bs.getD i false:=by
  apply List.ext_getElem
  ·simp
  ·intro i I O;simp[ I]
 conv=>rhs;rw[this]
 rw[all_map];rfl
abbrev Gk(f:List Bool->Bool):List V->Hp->VK->Prop:=fun xs H Q=>∃ p bs,xs=[.ref p]/\H p=some (.lst (bs.map V.bl))/\Q (.bl (f bs)) H
def Bs(a:X.calm=true):bL X (.builtin "all") (Gk fun bs=>bs.all id):=by
 fin2;obtain⟨p,bs,rfl,Y,q⟩:=h
 cases r with
 |cons r U=>
  cases U;cases r;obtain⟨its,R,hl,d⟩:=I.list (SqL.of Y);have hits:=vF R;subst hits
  have O:p<s.heap.objs.size:=by obtain⟨o,Z,_⟩:=hl.isList;exact Qf Z
  refine call_all_walk (wpAny_pyIter_list hl.isList ?_);refine#[s.heap.objs.size,_,[s.heap.objs.size],_,_,_,_,rfl,Walks.list (A:=X.A.in1) (I.ok.hd.1 a) s.heap.objs.size p (Ql O) (bs.map Value.bool).toArray,#[#[_,Qc _ rfl,rfl,rfl],hl.isList.push _],Bz,fun h' c hk=>?_];refine#[.bl (bs.all id),H,I.kept (fun b o e=>hk b o (fun z=>?_) (J2 _ e)),?_,q]
  ·rw[List.mem_singleton.mp z]at e;exact absurd (Qf e) (Qy _)
  ·have:=range_all bs;show Value.bool _=Value.bool _;rw[<-this];simp
def sN{P:Addr->Prop}{K:W.Frag}:∀ {ds:List RL.D} {bs:List Bool} {xs:List V},RL.dQ ds=some bs->ae P K H ds xs->xs=bs.map V.bl
 | [],bs,xs,h,r=>by rw[RL.dQ]at h;cases h;rw[ae]at r;exact r
 | d::ds,bs,xs,h,r=>by
  cases d<;>simp only[RL.dQ]at h<;>first | (cases h;done) | skip
  rename_i b;obtain⟨Y,U,R⟩:=map_some h;subst R;obtain⟨x,t,rfl,O,I⟩:=r;rw[br O,sN U I];rfl
def Hh(U:X.calm=true)(hg:Gl X "all")(hm:X.mg "all" = none)(ha:SE X cl a a')(hn:noStar a=true):SE X cl (.Call (.Name "all" p) [a] [] pos) (.bi .all a'):=by
 refine rA (Bs U) hg hm (by decide +kernel) ha hn ∅ ∅ fun O J H c y d v Q e s1 R k=>?_
 cases y<;>first | (cases e;done) | skip
 case lst ds =>
  obtain⟨bs,b,Z⟩:=map_some e;subst Z;obtain⟨q,xs,rfl,_,I,Y⟩:=aW R;rw[sN b Y]at I;exact#[q,bs,rfl,I,k _ _ (cS s1 uo rfl)]
def Eh(hg:Gl X "enumerate")(hm:X.mg "enumerate" = none)(ha:SE X cl a a')(hn:noStar a=true):SI X cl (.Tuple elts kx tp) (.Call (.Name "enumerate" p) [a] [] pos) (.enm a'):=IF tF hg hm ha hn
def wo{P:Addr->Prop}{K:W.Frag}:∀ {ds:List RL.D} {is:List Int} {xs:List V},RL.dZ ds=some is->ae P K H ds xs->xs=is.map V.int
 | [],is,xs,h,r=>by rw[RL.dZ]at h;cases h;rw[ae]at r;exact r
 | d::ds,is,xs,h,r=>by
  cases d<;>simp only[RL.dZ]at h<;>first | (cases h;done) | skip
  rename_i b;obtain⟨Y,U,R⟩:=map_some h;subst R;obtain⟨x,t,rfl,O,I⟩:=r;rw[ag O,wo U I];rfl
abbrev pR(ns:List Int):List Int:=firstMet (fun i=>ns.getD i 0) ns.length
def F3(ns:List Int):pR ns=RL.fO ns:=by
 unfold pR firstMet RL.fO
 have:(List.range ns.length).map (fun i=>ns.getD i 0)=ns:=by
  apply List.ext_getElem
  ·simp
  ·intro i O I;simp[ I]
 rw[this];rfl
def yE(a:X.calm=true):bL X (.type "set") (fun xs H Q=>∃ p ns,xs=[.ref p]/\H p=some (.lst (ns.map V.int))/\ns.length<=1000/\∀ l,H l=none->Q (.ref l) (upd H l (.set (fun k=>(pR ns).any (· == k)) (pR ns).length))):=by
 fin2;obtain⟨p,ns,rfl,Z,hn,q⟩:=h
 cases r with
 |cons r Y=>
  cases Y;cases r;obtain⟨its,R,hl,d⟩:=I.list (SqL.of Z)
  have hlen:its.length=ns.length:=by
   have:=R.length;simp at this;exact this.symm
  have hf:=I.hok.fresh (Qb _);refine call_set_list (I.ok.hd.1 a) hl.isList (by simpa using intsAre_of R) (by rw[size_toArray,hlen];show ns.length+1<4096;lia) fun h' c U hk=>?_
  have O:its.toArray.size=ns.length:=by rw[size_toArray];exact hlen
  rw[O]at U;exact#[.ref s.heap.objs.size,_,I.laid (o:=.set (fun k=>(pR ns).any (· == k)) (pR ns).length) (fun b u e=>hk b u (Qf e) e) (Qb _) U,rfl,q _ hf]
def zl:bL X (.builtin "len") (fun xs H Q=>∃ p S n,xs=[.ref p]/\H p=some (.set S n)/\Q (.int (n:Nat)) H):=by
 fin2;obtain⟨p,S,n,rfl,R,q⟩:=h
 cases r with
 |cons r O=>
  cases O;cases r;obtain⟨o,es,f,t,b,a,Z,e,d,c,Y,U⟩:=I.hok p _ R;refine call_len_set b a Z Y (by have:scanBound=4096:=rfl;lia) ?_;rw[U];exact#[.int n,H,I.tok _,#[_,rfl],q]
def AO(i:X.calm=true)(U:Gl X "len")(I:X.mg "len" = none)(hg:Gl X "set")(hm:X.mg "set" = none)(ha:SE X cl a a')(hn:noStar a=true):SE X cl (.Call (.Name "len" p2) [.Call (.Name "set" p) [a] [] pos] [] pos2) (.bi .lenSet a'):=by
 refine PE.weak (gI zl U I PySem.boot_len (bz (cA (yE i) hg hm (by decide +kernel) (bP ha da hn) ∅ ∅ (ay [] hn) rfl) cT rfl) ∅ ∅ rfl rfl) fun J H Q h=>?_;obtain⟨c,d,f,e,k⟩:=h;obtain⟨y,j,e⟩:=bind_some e;refine one f j fun v o s1 g=>?_
 cases y<;>first | (cases e;done) | skip
 case lst ds =>
  rw[RL.Dz]at e;split at e
  ·rename_i hl;obtain⟨is,n,m⟩:=map_some e;subst m;obtain⟨q,xs,rfl,_,b,Z⟩:=aW g;have Y:=wo n Z;rw[Y]at b
   have R:is.length<=1000:=by
    have:=Z.length;rw[Y]at this;simp at this;lia
   refine#[q,is,rfl,b,R,fun l O=>#[l,_,_,rfl,aV,?_]];rw[F3];exact k _ _ (cS (s1.trans (aw.bU O)) bg rfl)
  ·cases e
def Ib(hl:PE X l (Bb X.K "list" Bo (k6 i)))(s:SE X cl e e')(ha:SSs X cl M A A')(hb:SSs X cl M B B')(hi:M.contains i=true):SS X cl M (.If (.Compare l [.NotEq] [e] pos) A B pos2) (.ifp i e' A' B'):=by
 refine PS.weak (y8 (nc KW hl s (tD _ ∅ ∅)) ha hb) fun D J H h=>?_;obtain⟨j,o,O,b,ev,k⟩:=h;obtain⟨l,G,ev⟩:=bind_some ev
 cases l with
 |lst ds=>
  obtain⟨d,F,ev⟩:=bind_some ev;obtain⟨y,E,ev⟩:=bind_some ev;obtain⟨v,g,f⟩:=b.val i _ (slot_get G);rw[if_pos hi]at f;obtain⟨QK,q,p⟩:=f;obtain⟨a,xs,rfl,_,U,Z⟩:=aW p;obtain⟨u,C,x⟩:=Z.get F;have r:=qQ q;obtain⟨Y,t⟩:=b.jX hi g U (.inl #[_,rfl]) (qp (ds:=ds) U r Z.dropLast)
  cases d with
  |int m=>
   cases y with
   |int n=>
    refine#[.ref a,g,.inl #[rfl,xs,SqL.of U],a,xs,u,rfl,rfl,U,by rw[<-Z.length];exact C,?_];refine#[_,_,Y.rv0,E,fun w L R=>?_];rw[ag x,ag R.rep];have c:=k.from (t.trans (Fr'.same (J:=J) R.same));refine#[rfl,_,rfl,?_];dsimp only at ev;by_cases I:m=n
    ·rw[if_pos (by simpa using I)]at ev
     have hd:(!decide (V.int m=V.int n))=false:=by rw[I];simp
     rw[hd];exact gC ⟨_,o,O,Y.same R.same,ev,c⟩
    ·rw[if_neg (by simpa using I)]at ev
     have hd:(!decide (V.int m=V.int n))=true:=by
      have:V.int m≠V.int n:=fun z=>I (by injection z);simp[this]
     rw[hd];exact fW ⟨_,o,O,Y.same R.same,ev,c⟩
   | _=>cases ev
  | _=>cases ev
 | _=>cases ev
end
end RS
namespace L2
open PySem PySem.Spec PyProof.Rows
section
variable{prog:Program}{w:World}{A:Around}{E:Value->Shared->Prop}
def DT{x y:Value}{S1:Addr->Shared->Prop}{S2:Addr->Addr->Shared->Prop}{z:Shared}{Q:Value->Shared->Prop}(f:∀ A:Around,wpAny (model prog w) A (pyIter x) (fun v z1=>∃ it,v=.ref it/\S1 it z1) (fun _ _=>False) z)
 (e:∀ it z1,S1 it z1->∀ A:Around,wpAny (model prog w) A (pyIter y) (fun v z2=>∃ I,v=.ref I/\S2 it I z2) (fun _ _=>False) z1)
 (k:∀ it I z2,S2 it I z2->Q (.ref (((z2.heap.push { cls:=.type "tuple",data:=.seq (List.toArray [.ref it,.ref I]) }).push { cls:=.type "tuple",data:=.seq (List.toArray [.none,.none]) })).objs.size)
   { z2 with heap:=((z2.heap.push { cls:=.type "tuple",data:=.seq (List.toArray [.ref it,.ref I]) }).push { cls:=.type "tuple",data:=.seq (List.toArray [.none,.none]) }).push { cls:=.type "zip",data:=.fields (List.toArray [.none,.bool false,.bool false,.ref z2.heap.objs.size,.ref (z2.heap.push { cls:=.type "tuple",data:=.seq (List.toArray [.ref it,.ref I]) }).objs.size]) } }) :
  wpAny (model prog w) A (call (.type "zip") [x,y]) Q E z:=by
 have body:MeetsIn prog w (Builtin.«zip.__new__» ⟨[.type "zip",x,y],[]⟩) (fun A R s=>s=z/\∀ it I z2,S2 it I z2->R (.ok (.ret (.ref (((z2.heap.push { cls:=.type "tuple",data:=.seq (List.toArray [.ref it,.ref I]) }).push { cls:=.type "tuple",data:=.seq (List.toArray [.none,.none]) })).objs.size)))
   { z2 with heap:=((z2.heap.push { cls:=.type "tuple",data:=.seq (List.toArray [.ref it,.ref I]) }).push { cls:=.type "tuple",data:=.seq (List.toArray [.none,.none]) }).push { cls:=.type "zip",data:=.fields (List.toArray [.none,.bool false,.bool false,.ref z2.heap.objs.size,.ref (z2.heap.push { cls:=.type "tuple",data:=.seq (List.toArray [.ref it,.ref I]) }).objs.size]) } }):=by
  rintro A R s ⟨rfl,l⟩;have Y:=sub_zip;have iter:=f A.in1;obtain⟨u,g,d,t,os⟩:=s
  wp_walk using sA iter
  rintro _ z1 ⟨it,rfl,n⟩;have O:=e it z1 n A.in1;obtain⟨j,p,r,a,c⟩:=z1
  wp_walk using sA O
  rintro _ z2 ⟨I,rfl,m⟩;have U:=l it I z2 m;obtain⟨i,o,q,Z,b⟩:=z2
  wp_walk
  exact U
 refine callType_newIn F.called_zip ∅ (F.typeCall_zip_2 _ _) (F.newCall_zip_2 _ _) (fun obj=>F.args_object_init_3 obj _ _) F.entry_zip_new body ⟨rfl,fun it I z2 h=>?_⟩;exact#[#[_,Qc _ rfl,rfl],k it I z2 h]
structure kg(z TI TO i1 i2:Addr)(fp1 fp2:List Addr):Prop where
 zTI:TI≠z
 zTO:TO≠z
 TT:TI≠TO
 i1z:i1≠z
 i2z:i2≠z
 Lp:i1≠TO
 Mb:i2≠TO
 i12:i1≠i2
 z1:z∉fp1
 z2:z∉fp2
 TO1:TO∉fp1
 TO2:TO∉fp2
 i1f:i1∉fp2
 i2f:i2∉fp1
def CI{z TI TO i1 i2:Addr}{fp1 fp2:List Addr}{Y U k:Nat}{P1 P2:Nat->Value->Prop}{m n:Nat->Heap->Prop}{a b:Value}{s:Shared}{Q:Value->Shared->Prop}(Z:kg z TI TO i1 i2 fp1 fp2)
 (p:Draws prog w A i1 fp1 Y P1 m)(C:Draws prog w A i2 fp2 U P2 n)(hz:IsZip s.heap z TI TO .none)(P:IsPair s.heap TI (.ref i1) (.ref i2))(N:IsPair s.heap TO a b)(s1:m k s.heap)(s2:n k s.heap)(k1:k<Y)(k2:k<U)
 (hQ:∀ x y g tk,P1 k x->P2 k y->IsZip g z TI TO (rawInt s.heap.objs.size)->IsPair g TO x y->m (k+1) g->n (k+1) g->IsPair g s.heap.objs.size x y->g.objs.size=s.heap.objs.size+1->(∀ c o,c≠z->c≠TO->c≠i1->c≠i2->s.heap.get? c=some o->g.get? c=some o)->Q (.ref s.heap.objs.size) { s with heap:=g,toks:=tk }) :
  wpAny (model prog w) A (Builtin.«zip.__next__» ⟨[.ref z],[]⟩) (fun T s'=>∃ v,T=.done (.ret v)/\Q v s') E s:=by
 obtain⟨j,g,d,tk,os⟩:=s;have off:∀ (f:Obj->Obj) b o,b≠z->j.get? b=some o->(j.update z f).get? b=some o:=fun f b o hb e=>(Heap.SameBut.update ..).extBut b o hb e;have t:∀ f:Obj->Obj,m k (j.update z f):=fun f=>p.frame k _ _ s1 fun b hb o e=>off f b o (fun q=>Z.z1 (q▸hb)) e;have K:∀ f:Obj->Obj,n k (j.update z f):=fun f=>C.frame k _ _ s2 fun b hb o e=>off f b o (fun q=>Z.z2 (q▸hb)) e;unfold Builtin.«zip.__next__»
 wp_walk using AutoSeq1.wpAny_loadPart' hz,AutoSeq1.wpAny_loadPart' P,wpAny_onRaise,(p.item k _ _ _ k1 (t _))
 intro x S t1 px r i;have M:IsPair S TO a b:=i.extBut _ _ (Ne.symm Z.Lp) (off _ TO _ Z.zTO N);have z1:IsZip S z TI TO .ellipsis:=i.extBut _ _ (Ne.symm Z.i1z) (Qt _ hz rfl);have u1:=i.1;have c1:∀ c o,c≠z->c≠i1->j.get? c=some o->S.get? c=some o:=fun c o Y U e=>i.extBut _ _ U (off _ c o Y e);clear i t K
 wp_walk using AutoSeq1.wpAny_loadPart' M,(wpAny_updateSeq_pair M)
 intro B G h
 replace G:IsPair B TO x b:=G
 have z2:IsZip B z TI TO .ellipsis:=h.extBut _ _ (Ne.symm Z.zTO) z1;have c2:∀ c o,c≠z->c≠TO->c≠i1->j.get? c=some o->B.get? c=some o:=fun c o Y U l e=>h.extBut _ _ U (c1 c o Y l e);have e1:m (k+1) B:=p.frame _ _ _ r fun b hb o e=>h.extBut _ _ (fun q=>Z.TO1 (q▸hb)) e;have e2:n k B:=C.frame _ _ _ s2 fun b hb o e=>c2 b o (fun q=>Z.z2 (q▸hb)) (fun q=>Z.TO2 (q▸hb)) (fun q=>Z.i1f (q▸hb)) e;have u2:=h.1.trans u1;clear h u1 c1 z1 M
 wp_walk using wpAny_onRaise,(C.item k _ _ _ k2 e2)
 intro y H t3 py f2 R;have L:IsPair H TO x b:=R.extBut _ _ (Ne.symm Z.Mb) G;have X:IsZip H z TI TO .ellipsis:=R.extBut _ _ (Ne.symm Z.i2z) z2;have f1:m (k+1) H:=p.frame _ _ _ e1 fun b hb o e=>R.extBut _ _ (fun q=>Z.i2f (q▸hb)) e;have c3:∀ c o,c≠z->c≠TO->c≠i1->c≠i2->j.get? c=some o->H.get? c=some o:=fun c o Y U l u e=>R.extBut _ _ u (c2 c o Y U l e);have u3:=R.1.trans u2;clear R u2 c2 z2 G e1 e2
 wp_walk using AutoSeq1.wpAny_loadPart' L,(wpAny_updateSeq_pair L)
 intro I F O
 replace F:IsPair I TO x y:=F
 have V:IsZip I z TI TO .ellipsis:=O.extBut _ _ (Ne.symm Z.zTO) X;have g1:m (k+1) I:=p.frame _ _ _ f1 fun b hb o e=>O.extBut _ _ (fun q=>Z.TO1 (q▸hb)) e;have g2:n (k+1) I:=C.frame _ _ _ f2 fun b hb o e=>O.extBut _ _ (fun q=>Z.TO2 (q▸hb)) e;have c4:∀ c o,c≠z->c≠TO->c≠i1->c≠i2->j.get? c=some o->I.get? c=some o:=fun c o Y U l u e=>O.extBut _ _ U (c3 c o Y U l u e);have u4:=O.1.trans u3;clear O u3 c3 X L f1 f2
 wp_walk using AutoSeq1.wpAny_loadPart' F
 have D:I.objs.size=j.objs.size:=u4.trans (Heap.SameBut.update ..).1;refine#[_,rfl,?_];show Q (.ref I.objs.size) _;have zp:IsZip (I.push { cls:=.type "tuple",data:=.seq (List.toArray [x,y]).toList.toArray }) z TI TO .ellipsis:=J2 _ V;have QK:z<I.objs.size:=Qf V
 have up:∀ (f f':Obj->Obj) c o,c≠z->(I.push { cls:=.type "tuple",data:=.seq (List.toArray [x,y]).toList.toArray }).get? c=some o->(((I.push { cls:=.type "tuple",data:=.seq (List.toArray [x,y]).toList.toArray }).update z f).update z f').get? c=some o:=fun f f' c o hc e =>
  (Heap.SameBut.update ..).extBut c o hc ((Heap.SameBut.update ..).extBut c o hc e)
 have goal:=hQ x y (((I.push { cls:=.type "tuple",data:=.seq (List.toArray [x,y]).toList.toArray }).update z (Obj.mapFields (·.setIfInBounds 0 (rawInt I.objs.size)))).update z (Obj.mapFields (·.setIfInBounds 1 (.bool false)))) t3 px py ?_ ?_ ?_ ?_ ?_ ?_ ?_
 ·rw[D]at goal ⊢;exact goal
 ·rw[<-D];exact Qt _ (Qt _ zp rfl) rfl
 ·exact up _ _ _ _ Z.zTO (J2 _ F)
 ·exact p.frame _ _ _ g1 fun b hb o e=>up _ _ _ _ (fun q=>Z.z1 (q▸hb)) (J2 _ e)
 ·exact C.frame _ _ _ g2 fun b hb o e=>up _ _ _ _ (fun q=>Z.z2 (q▸hb)) (J2 _ e)
 ·show IsPair _ j.objs.size x y;rw[<-D];exact up _ _ _ _ (ne_of_gt QK) (Qc _ rfl)
 ·refine((Heap.SameBut.update ..).1.trans ((Heap.SameBut.update ..).1.trans ((Qw ..).trans ?_)));show I.objs.size+1=j.objs.size+1;rw[D]
 ·exact fun c o Y U l u e=>up _ _ _ _ Y (J2 _ (c4 c o Y U l u e))
def DO{z TI TO i1 i2:Addr}{fp1 fp2:List Addr}{I:Nat}{y:Nat->Value->Prop}{j:Nat->Heap->Prop}{a b:Value}{s:Shared}{Q:Fin->Shared->Prop}(Z:kg z TI TO i1 i2 fp1 fp2)
 (m:Draws prog w A i1 fp1 I y j)(k:IsZip s.heap z TI TO .none)(i:IsPair s.heap TI (.ref i1) (.ref i2))(r:IsPair s.heap TO a b)(s1:j I s.heap)
 (t:∀ g e,(∀ c o,c≠z->c≠i1->s.heap.get? c=some o->g.get? c=some o)->(∃ o,g.get? e=some o/\o.cls=.type "StopIteration")->E (.ref e) { s with heap:=g }) :
  wpAny (model prog w) A (Builtin.«zip.__next__» ⟨[.ref z],[]⟩) Q E s:=by
 obtain⟨Y,g,d,B,os⟩:=s;have off:∀ (f:Obj->Obj) b o,b≠z->Y.get? b=some o->(Y.update z f).get? b=some o:=fun f b o hb e=>(Heap.SameBut.update ..).extBut b o hb e;have U:∀ f:Obj->Obj,j I (Y.update z f):=fun f=>m.frame I _ _ s1 fun b hb o e=>off f b o (fun q=>Z.z1 (q▸hb)) e;unfold Builtin.«zip.__next__»
 wp_walk using AutoSeq1.wpAny_loadPart' k,AutoSeq1.wpAny_loadPart' i,wpAny_onRaise,(m.done _ _ _ (U _))
 rintro v e l ⟨n,h,O⟩;have z1:IsZip v z TI TO .ellipsis:=l _ _ (Ne.symm Z.i1z) (Qt _ k rfl)
 have x:e≠z:=fun q=>by
  rw[q,z1]at h;have:=Option.some.inj h;rw[<-this]at O;simp at O
 refine wpAny_setField_rec z1 (by simp) fun u _ R=>?_;exact t u e (fun c o I p q=>R.extBut _ _ I (l _ _ p (off _ _ _ I q))) ⟨n,R.extBut _ _ x h,O⟩
end
section
variable{prog:Program}{w:World}{A:Around}{E:Value->Shared->Prop}{z TI TO i1 i2:Addr}{fp1 fp2:List Addr}{n1 n2 k:Nat}{P1 P2:Nat->Value->Prop}{S1 S2:Nat->Heap->Prop}{a b:Value}{s:Shared}
def B0{Q:Option Value->Shared->Prop}(Z:kg z TI TO i1 i2 fp1 fp2)(t:Draws prog w A.in1 i1 fp1 n1 P1 S1)(r:Draws prog w A.in1 i2 fp2 n2 P2 S2)(U:IsZip s.heap z TI TO .none)(R:IsPair s.heap TI (.ref i1) (.ref i2))(O:IsPair s.heap TO a b)(s1:S1 k s.heap)(s2:S2 k s.heap)(p:k<n1)(n:k<n2)
 (q:∀ x y g I,P1 k x->P2 k y->IsZip g z TI TO (rawInt s.heap.objs.size)->IsPair g TO x y->S1 (k+1) g->S2 (k+1) g->IsPair g s.heap.objs.size x y->g.objs.size=s.heap.objs.size+1->(∀ c o,c≠z->c≠TO->c≠i1->c≠i2->s.heap.get? c=some o->g.get? c=some o)->Q (some (.ref s.heap.objs.size)) { s with heap:=g,toks:=I }) :
  wpAny (model prog w) A (pyNext (.ref z)) Q E s:=by
 have hT:s.TypeIs (.ref z) "zip" := #[_,U,rfl]
 unfold pyNext;cbv;apply wpAny_attempt;apply wpAny_callSpecial?_slot (name:=Str.ofString "__next__") hT F.slot_zip_next;refine wpAny_call_entry F.slot_zip_next hT F.entry_zip_next ?_ (F.args_zip_next_1 _);refine CI Z t r U R O s1 s2 p n fun x y g I m l j i h f e d Y=>?_;apply Qd;exact q x y g I m l j i h f e d Y
def Cc{Q:Option Value->Shared->Prop}(Z:kg z TI TO i1 i2 fp1 fp2)(f:Draws prog w A.in1 i1 fp1 n1 P1 S1)(R:IsZip s.heap z TI TO .none)(O:IsPair s.heap TI (.ref i1) (.ref i2))(I:IsPair s.heap TO a b)(s1:S1 n1 s.heap)
 (d:∀ g,(∀ c o,c≠z->c≠i1->s.heap.get? c=some o->g.get? c=some o)->Q none { s with heap:=g }):wpAny (model prog w) A (pyNext (.ref z)) Q E s:=by
 have hT:s.TypeIs (.ref z) "zip" := #[_,R,rfl]
 unfold pyNext;cbv;apply wpAny_attempt;apply wpAny_callSpecial?_slot (name:=Str.ofString "__next__") hT F.slot_zip_next;refine wpAny_call_entry F.slot_zip_next hT F.entry_zip_next ?_ (F.args_zip_next_1 _);refine DO Z f R O I s1 fun g e hk ⟨o,U,Y⟩=>?_;cbv;refine wpAny_isInstance (T := "StopIteration") (b:=true) ⟨_,U,Y⟩ isSubtype_stop ?_;apply Qd;exact d g hk
end
section
variable{s:Shared}
def fH.A2(hd:fH A s.heap):A.handled≠some (.ref s.heap.objs.size):=fun q=>by
 rcases hd with z | ⟨x,o,R,O,I,_,_⟩
 ·rw[z]at q;cases q
 ·rw[O]at q;cases q;exact Qy _ (Qf I)
def xX(hd:fH A s.heap)(Z:A.handled≠some (.ref it))(I:IsTupIter s.heap it t i)(f:IsTup s.heap t its)(d:its[i]?=none)
 (k:∀ h',Heap.ExtBut it s.heap h'->Q none { s with heap:=h' }):wpAny (model prog w) A (pyNext (.ref it)) Q E s:=by
 obtain⟨o,U,l,O⟩:=id I;obtain⟨h,R,_,j,Y⟩:=f;unfold pyNext;cbv;apply wpAny_attempt;apply wpAny_callSpecial?_slot (name:=Str.ofString "__next__") I.typeIs slot_tupleiter_next;refine wpAny_call_entry slot_tupleiter_next I.typeIs entry_tupleiter_next ?_ (args_tupleiter_next _);have a:¬ ((Value.ref t == Value.none)=true):=Qj;refine show wpAny _ _ (field (.ref it) 0 >>= _) _ _ s from Qa (wpAny_field U O (x:=.ref t) rfl ?_);refine show wpAny _ _ (if(Value.ref t == Value.none)=true then _ else _) _ _ s from ?_;rw[if_neg a];refine show wpAny _ _ (field (.ref it) 1 >>= _) _ _ s from Qa (wpAny_field U O (x:=.int i 0) rfl ?_);refine show wpAny _ _ (seqItems? (.ref t) >>= _) _ _ s from Qa (wpAny_seqItems R Y ?_);simp only[Int.toNat_natCast,d];refine Qa (wpAny_rule (Qa (wpAny_setField U O (by simp) ?_)));refine show wpAny _ _ (newExc (.type "StopIteration") [] >>= _) _ _ _ from Qa ?_;have sb:=Heap.SameBut.update s.heap it (Obj.mapFields (·.setIfInBounds 0 Value.none));refine pV (hd.keeps fun b u vs e _ hb=>(sb.2 b fun z=>Z (z▸hb)).trans e) fun h' e c g=>?_;cbv;refine wpAny_isInstance (T := "StopIteration") (b:=true) g isSubtype_stop ?_;exact Qd (k h' fun b u hb q=>c b u ((sb.2 b hb).trans q))
def take_all{its:Array Value}:List.take its.size (List.drop 0 its.toList)=its.toList:=by
 rw[List.drop_zero,List.take_of_length_le (by simp)]
def xT{t:Addr}(hd:fH A s.heap)(I:IsTup s.heap t its)(k:∀ h',Heap.ExtBut s.heap.objs.size s.heap h'->Q its.toList { s with heap:=h' }):wpAny (model prog w) A (unpackItems (.ref t) its.size none) Q E s:=by
 have O:t≠s.heap.objs.size:=Ql I.lt;have nn:=hd.A2;unfold unpackItems;cbv;unfold notIterableAtAll;cbv;refine wpAny_specialOf I.typeIs slot_tuple_iter.lookup (Qd ?_);simp only[false_eq_true,if_false];cbv;refine wpAny_holding (iter_tuple I ?_);cbv;refine wpAny_holding (draw_tuple O its.size 0 _ _ ⟨_,Qc _ rfl,rfl,rfl⟩ (I.push _) (by omega) fun g R sb=>?_);rw[take_all,if_neg (by simp)];cbv;refine wpAny_holding (xX (hd.keeps fun b o vs e _ hb=>(sb.2 b fun z=>nn (z▸hb)).trans (J2 _ e)) nn R ((I.push _).extBut sb.extBut O) (by simp) fun U Y=>?_);simp only[Option.isSome_none,false_eq_true,if_false];exact Qd (k U fun b o hb e=>Y b o hb (sb.extBut b o hb (J2 _ e)))
def xg{l:Addr}(hd:fH A s.heap)(hl:s.heap.IsList l its)(k:∀ h',Heap.ExtBut s.heap.objs.size s.heap h'->Q its.toList { s with heap:=h' }):wpAny (model prog w) A (unpackItems (.ref l) its.size none) Q E s:=by
 have I:l≠s.heap.objs.size:=let ⟨o,R,_⟩:=hl;Ql (Qf R);have nn:=hd.A2;unfold unpackItems;cbv;unfold notIterableAtAll;cbv;refine wpAny_specialOf hl.typeIs slot_list_iter.lookup (Qd ?_);simp only[false_eq_true,if_false];cbv;refine wpAny_holding (wpAny_pyIter_list hl ?_);cbv;refine wpAny_holding (W.kun_draw I its.size 0 _ _ ⟨_,Qc _ rfl,rfl,rfl⟩ (hl.push _) (by omega) fun g O sb=>?_);rw[take_all,if_neg (by simp)];cbv;refine wpAny_holding (v8 (hd.keeps fun b o vs e _ hb=>(sb.2 b fun z=>nn (z▸hb)).trans (J2 _ e)) nn O ((hl.push _).extBut sb.extBut I) (by simp) fun U Y=>?_);simp only[Option.isSome_none,false_eq_true,if_false];exact Qd (k U fun b o hb e=>Y b o hb (sb.extBut b o hb (J2 _ e)))
def BJ(U:A.handled=some (.ref x))(hd:ox.data=.fields xs)(b:xs[2]?=some .none)(nx:x≠it)(R:l≠it)(its:Array Value) :
  Draws prog w A it [it,l,x] its.size (fun i v=>its[i]?=some v) (fun i h=>(h.IsListIter it l i/\h.IsList l its)/\h.get? x=some ox) where
 live:=fun _ _ st=>let ⟨o,Y,_⟩:=st.1.1;⟨o,Y⟩
 frame:=fun _ _ _ st hk=>#[#[st.1.1.at fun o e=>hk it (by simp) o e,st.1.2.at fun o e=>hk l (by simp) o e],hk x (by simp) _ st.2]
 item:=fun i s Q E hi st Z=>wpAny_nextOf_list_item st.1.1 st.1.2 (x:=its[i]) (by simp[hi]) fun h' O I=>Z _ h' s.toks (by simp[hi]) ⟨⟨O,st.1.2.extBut I.extBut R⟩,(I.2 x nx).trans st.2⟩ I
 done:=fun s Q E st a=>rS (.inr #[x,ox,xs,U,st.2,hd,b]) (fun q=>by rw[U]at q;cases q;exact nx rfl) st.1.1 st.1.2 (by simp) a
def zA(R:A.handled=some (.ref x))(hd:ox.data=.fields xs)(d:xs[2]?=some .none)(nx:x≠it)(I:l≠it)(its:Array Value) :
  Draws prog w A it [it,l,x] its.size (fun i v=>its[i]?=some v) (fun i h=>(h.IsTupleIter it l i/\h.IsTuple l its)/\h.get? x=some ox) where
 live:=fun _ _ st=>let ⟨o,b,_⟩:=st.1.1;⟨o,b⟩
 frame:=fun _ _ _ st hk=>by
  obtain⟨⟨⟨a,m,Y⟩,⟨Z,j,U⟩⟩,f⟩:=st;exact#[#[#[a,hk it (by simp) _ m,Y],#[Z,hk l (by simp) _ j,U]],hk x (by simp) _ f]
 item:=fun i s Q E hi st k=>vx st.1.1 st.1.2 (x:=its[i]) (by simp[hi]) fun g e O=>k its[i] g s.toks (by simp[hi]) ⟨⟨e,st.1.2.extBut O.extBut I⟩,(O.2 x nx).trans st.2⟩ O
 done:=fun s Q E st c=>vS (.inr #[x,ox,xs,R,st.2,hd,d]) (fun q=>by rw[R]at q;cases q;exact nx rfl) st.1.1 st.1.2 (by simp) c
end
section
def Inv.hd(I:Inv X pins J H s):fH X.A s.heap:=by
 rcases I.ok.hd.2 with z | ⟨h,o,u,vs,Y,U,R,O⟩
 ·exact .inl z
 ·exact .inr #[h,o,vs,Y,(I.hok _ _ (I.base.dD _ _ _ U)).1,R,O]
end
inductive SK where
 | t
 | l
 | f (o:Obj)
abbrev SK.tp:SK->Bool
 | .t=>true
 | _=>false
abbrev dY:SK->List V->HO
 | .t,xs=>.tup xs
 | .l,xs=>.lst xs
 | .f o,xs=>.frz o (.lst xs)
def xc{K:W.Frag}{k:SK}{H:Hp}(h:k.tp=false)(I:H l=some (dY k xs)):SqL K H l xs:=by
 cases k with
 | t=>cases h
 | l=>exact SqL.of I
 | f o=>exact .inl (.inr #[o,I])
def wc{k:SK}{H:Hp}(h:k.tp=true)(I:H l=some (dY k xs)):H l=some (.tup xs):=by
 cases k with
 | t=>exact I
 | l=>cases h
 | f o=>cases h
abbrev jI(t:Bool)(it l:Addr)(i:Nat)(h:Heap):Prop:=if t then h.IsTupleIter it l i else h.IsListIter it l i
def jI.obj(st:jI t it l i h):∃ o,h.get? it=some o/\∀ v,o.data≠.cell v:=by
 cases t with
 | true=>exact let ⟨o,I,_,hd⟩:=(show h.IsTupleIter it l i from st);⟨o,I,fun v q=>by rw[hd]at q;cases q⟩
 | false=>exact let ⟨o,I,_,hd⟩:=(show h.IsListIter it l i from st);⟨o,I,fun v q=>by rw[hd]at q;cases q⟩
def jI.keep(st:jI t it l i h)(k:∀ o,h.get? it=some o->h'.get? it=some o):jI t it l i h':=by
 cases t with
 | true=>exact let ⟨o,I,r⟩:=(show h.IsTupleIter it l i from st);⟨o,k o I,r⟩
 | false=>exact(show h.IsListIter it l i from st).at fun o q=>k o q
def jE{k:SK}(I:Inv X pins J H s)(hi:H it=none)(U:H l=some (dY k xs))(f:k.tp=t) :
  ∃ (fp:List Addr) (Pv:Nat->Value->Prop) (St:Nat->Heap->Prop),Draws X.prog X.w X.A.in1 it fp xs.length Pv St/\(∀ b∈fp,b=it\/H b≠none)/\(∀ i,jI t it l i s.heap->St i s.heap)/\(∀ i h,St i h->jI t it l i h)/\∀ i v,Pv i v->∃ x,xs[i]?=some x/\RelV x v:=by
 have back:∀ {its:List Value},Vals xs its->∀ (i:Nat) (v:Value),its.toArray[i]?=some v->∃ x,xs[i]?=some x/\RelV x v:=fun {its} R i v d=>by
  have d:its[i]?=some v:=by simpa using d
  have a:i<xs.length:=by rw[R.length];exact(List.getElem?_eq_some_iff.mp d).1
  obtain⟨u,j,q⟩:=R.get (i:=i) (x:=xs[i]) (by simp[a]);rw[d]at j;cases j;exact#[xs[i],by simp[a],q]
 have two:∀ {u:HO},H l=some u->∀ b∈[it,l],b=it\/H b≠none:=fun {u} e b hb=>by
  rcases List.mem_cons.mp hb with z | z
  ·exact .inl z
  ·rw[List.mem_singleton.mp z,e]
   exact .inr fun z=>nomatch z
 rcases I.ok.hd.2 with c | ⟨x,o,B,y,c,r,n,m⟩
 ·cases t with
  |true=>
   have O:H l=some (.tup xs):=wc f U;obtain⟨its,R,p,g⟩:=I.tuple (SqT.of O);have D:=tF.draws (prog:=X.prog) (w:=X.w) (A:=X.A.in1) c it l (aP O hi) its.toArray;rw[show its.toArray.size=xs.length by rw[size_toArray,R.length]]at D;exact#[_,_,_,D,two O,fun i st=>#[st,p],fun i h st=>st.1,back R]
  |false=>
   have O:=U;obtain⟨its,R,p,g⟩:=I.list (xc f O);have D:=Draws.list (prog:=X.prog) (w:=X.w) (A:=X.A.in1) c it l (aP O hi) its.toArray;rw[show its.toArray.size=xs.length by rw[size_toArray,R.length]]at D;exact#[_,_,_,D,two O,fun i st=>#[st,p.isList],fun i h st=>st.1,back R]
 ·have Y:=I.base.dD _ _ _ r;have Z:s.heap.get? x=some o:=(I.hok _ _ Y).1;have nx:x≠it:=aP Y hi
  have three:∀ {u:HO},H l=some u->∀ b∈[it,l,x],b=it\/H b≠none:=fun {u} e b hb=>by
   simp only[mem_cons,mem_nil_iff,or_false]at hb;rcases hb with z | z | z
   ·exact .inl z
   ·rw[z,e]
    exact .inr fun z=>nomatch z
   ·rw[z,Y]
    exact .inr fun z=>nomatch z
  cases t with
  |true=>
   have O:H l=some (.tup xs):=wc f U;obtain⟨its,R,p,g⟩:=I.tuple (SqT.of O);have D:=zA (prog:=X.prog) (w:=X.w) (A:=X.A.in1) c n m nx (aP O hi) its.toArray;rw[show its.toArray.size=xs.length by rw[size_toArray,R.length]]at D;exact#[_,_,_,D,three O,fun i st=>#[#[st,p],Z],fun i h st=>st.1.1,back R]
  |false=>
   have O:=U;obtain⟨its,R,p,g⟩:=I.list (xc f O);have D:=BJ (prog:=X.prog) (w:=X.w) (A:=X.A.in1) c n m nx (aP O hi) its.toArray;rw[show its.toArray.size=xs.length by rw[size_toArray,R.length]]at D;exact#[_,_,_,D,three O,fun i st=>#[#[st,p.isList],Z],fun i h st=>st.1.1,back R]
abbrev Itz(t1 t2:SK)(O I:Addr):It :=
 ⟨fun i H=>∃ xs ys x y,H O=some (dY t1 xs)/\H I=some (dY t2 ys)/\xs[i]?=some x/\ys[i]?=some y,
   fun i H v H'=>∃ p x y,H p=none/\v=.ref p/\H'=upd H p (.tup [x,y])/\(∀ xs,H O=some (dY t1 xs)->xs[i]?=some x)/\∀ ys,H I=some (dY t2 ys)->ys[i]?=some y,
   fun i H=>∃ xs ys,H O=some (dY t1 xs)/\H I=some (dY t2 ys)/\xs.length=i/\ys.length=i⟩
def tZ(h:dY t xs=dY t ys):xs=ys:=by
 cases t with
 | t=>injection h
 | l=>injection h
 | f o=>injection h with _ h;injection h
def Bf{P:Program}{w:World}{K:W.Frag}{elts:List Expr}{kx:Nat}{tp:Pos}{t1 t2:SK}{z TI TO i1 i2 l1 l2:Addr}(T:TI≠z)(n2:TO≠z)(n3:TI≠TO)(D:i1≠z)(C:i2≠z)(S:i1≠TO)(N:i2≠TO)(t:i1≠i2)(n9:i1≠TI)(n10:i2≠TI) :
  p7 (fun _=>True) P w K (.Tuple elts kx tp) (Itz t1 t2 l1 l2) [z,TI,TO,i1,i2] z (fun i h=>IsZip h z TI TO .none/\IsPair h TI (.ref i1) (.ref i2)/\(∃ a b,IsPair h TO a b)/\jI t1.tp i1 l1 i h/\jI t2.tp i2 l2 i h) where
 mem:=by simp
 obj:=fun i h st b hb=>by
  obtain⟨d,O,⟨a,c,Y⟩,U,r⟩:=st;simp only[mem_cons,mem_nil_iff,or_false]at hb;rcases hb with rfl | rfl | rfl | rfl | rfl
  ·exact⟨_,d,fun v q=>by cases q⟩
  ·exact⟨_,O,fun v q=>by cases q⟩
  ·exact⟨_,Y,fun v q=>by cases q⟩
  ·exact U.obj
  ·exact r.obj
 keep:=fun i h h' st k=>by
  obtain⟨d,O,⟨a,c,Y⟩,U,r⟩:=st;exact#[k z (by simp) _ d,k TI (by simp) _ O,#[a,c,k TO (by simp) _ Y],U.keep fun o q=>k i1 (by simp) o q,r.keep fun o q=>k i2 (by simp) o q]
 item:=by
  intro X hP hw hK hc i pins s J H E I hf st hg;subst hP hw hK;obtain⟨d,O,⟨a,c,Y⟩,U,r⟩:=st;obtain⟨xs,ys,x,y,hx,V,ex,ey⟩:=hg;have f:∀ b∈[z,TI,TO,i1,i2],H b=none:=fun b hb=>(hf b hb).1;obtain⟨fp1,Pv1,St1,D1,l,a1,a2,a3⟩:=jE I (f i1 (by simp)) hx rfl;obtain⟨fp2,Pv2,St2,D2,j,b1,b2,b3⟩:=jE I (f i2 (by simp)) V rfl;have no:∀ {fp:List Addr} {i b:Addr},(∀ b∈fp,b=i\/H b≠none)->b∈[z,TI,TO,i1,i2]->b≠i->b∉fp:=fun m hb n z=>(m _ z).elim n fun q=>q (f _ hb)
  have Z:kg z TI TO i1 i2 fp1 fp2:=#[T,n2,n3,D,C,S,N,t,no l (by simp) (Ne.symm D),no j (by simp) (Ne.symm C),no l (by simp) (Ne.symm S),no j (by simp) (Ne.symm N),no j (by simp) t,no l (by simp) (Ne.symm t)]
  refine B0 Z D1 D2 d O Y (a1 i U) (b1 i r) (List.getElem?_eq_some_iff.mp ex).1 (List.getElem?_eq_some_iff.mp ey).1 fun u v g B pu pv g1 g2 g3 g4 g5 g6 g7=>?_;obtain⟨x',M,rx⟩:=a3 i u pu;obtain⟨y',L,ry⟩:=b3 i v pv;rw[ex]at M;rw[ey]at L;cases M;cases L;refine#[.ref s.heap.objs.size,rfl,wpAny_letOwnedTupleGo_zip g1 fun g' gz' sb=>?_];have hn:H s.heap.objs.size=none:=I.hok.fresh (Qb _)
  have I1:Inv X pins J (upd H s.heap.objs.size (.tup [x,y])) { s with heap:=s.heap.push { cls:=.type "tuple",data:=.seq (List.toArray [u,v]) },toks:=B } :=
   I.laid (t':=B) (fun b o q=>J2 _ q) (Qb _) ⟨by show 2<=sizeLine;decide,[u,v],.cons rx (.cons ry .nil),⟨_,Qc _ rfl,rfl,_,rfl⟩⟩
  have lt:∀ b∈[z,TI,TO,i1,i2],b≠s.heap.objs.size:=fun b hb=>by
   have:∃ o,s.heap.get? b=some o:=by
    simp only[mem_cons,mem_nil_iff,or_false]at hb;rcases hb with rfl | rfl | rfl | rfl | rfl
    ·exact#[_,d]
    ·exact#[_,O]
    ·exact#[_,Y]
    ·exact let ⟨o,q,_⟩:=U.obj;⟨o,q⟩
    ·exact let ⟨o,q,_⟩:=r.obj;⟨o,q⟩
   obtain⟨o,q⟩:=this;exact Ql (Qf q)
  have R:∀ b∈[z,TI,TO,i1,i2],upd H s.heap.objs.size (.tup [x,y]) b=none/\(b∈X.ex\/X.s₀.heap.objs.size<=b)/\b≠X.env.locals/\(∀ x c,X.env.cells.lookup x=some c->c≠b)/\∀ p∈X.pn++pins,p.1≠b:=fun b hb=>by
   obtain⟨f0,f1,f2,f3,f4,f5⟩:=hf b hb;exact#[by rw[aJ (lt b hb)];exact f0,f3,f1,f4,f5]
  have I2:Inv X pins J (upd H s.heap.objs.size (.tup [x,y])) { s with heap:=g',toks:=B }:=by
   refine Inv.qb (s:={ s with heap:=s.heap.push { cls:=.type "tuple",data:=.seq (List.toArray [u,v]) },toks:=B }) (h':=g') (t':=B) (fp:=[z,TI,TO,i1,i2]) I1 (fun b o hb q=>?_) R;simp only[mem_cons,mem_nil_iff,or_false,not_or]at hb;refine sb.extBut b o hb.1 ?_;by_cases QK:b=s.heap.objs.size
   ·subst QK;have q':(s.heap.push { cls:=.type "tuple",data:=.seq (List.toArray [u,v]) }).get? s.heap.objs.size=some o:=q;rw[Qc _ rfl]at q';cases q';exact g5
   ·exact g7 b o hb.1 hb.2.2.1 hb.2.2.2.1 hb.2.2.2.2 ((Heap.get?_push_ne _ _ _ QK).symm.trans q)
  have kp:∀ b∈[TI,TO,i1,i2],∀ o,g.get? b=some o->g'.get? b=some o:=fun b hb o q=>sb.extBut b o (fun e=>by
   subst e;simp only[mem_cons,mem_nil_iff,or_false]at hb;rcases hb with e | e | e | e
   ·exact T e.symm
   ·exact n2 e.symm
   ·exact D e.symm
   ·exact C e.symm) q
  refine#[.ref s.heap.objs.size,_,I2,rfl,#[s.heap.objs.size,x,y,hn,rfl,rfl,fun xs' G=>?_,fun ys' F=>?_],#[gz',kp TI (by simp) _ (g7 TI _ T n3 (Ne.symm n9) (Ne.symm n10) O),#[u,v,kp TO (by simp) _ g2],(a2 _ _ g3).keep fun o q=>kp i1 (by simp) o q,(b2 _ _ g4).keep fun o q=>kp i2 (by simp) o q],fun b hb=>(R b hb).1]
  ·rw[hx]at G;rw[<-tZ (Option.some.inj G)];exact ex
  ·rw[V]at F;rw[<-tZ (Option.some.inj F)];exact ey
 done:=by
  intro X hP hw hK hc i pins s J H E I hf st hg;subst hP hw hK;obtain⟨d,O,⟨a,c,Y⟩,U,r⟩:=st;obtain⟨xs,ys,hx,V,ex,ey⟩:=hg;have f:∀ b∈[z,TI,TO,i1,i2],H b=none:=fun b hb=>(hf b hb).1;obtain⟨fp1,Pv1,St1,D1,l,a1,a2,a3⟩:=jE I (f i1 (by simp)) hx rfl;obtain⟨fp2,_,_,_,j,_⟩:=jE I (f i2 (by simp)) V rfl;have no:∀ {fp:List Addr} {i b:Addr},(∀ b∈fp,b=i\/H b≠none)->b∈[z,TI,TO,i1,i2]->b≠i->b∉fp:=fun m hb n z=>(m _ z).elim n fun q=>q (f _ hb)
  have Z:kg z TI TO i1 i2 fp1 fp2:=#[T,n2,n3,D,C,S,N,t,no l (by simp) (Ne.symm D),no j (by simp) (Ne.symm C),no l (by simp) (Ne.symm S),no j (by simp) (Ne.symm N),no j (by simp) t,no l (by simp) (Ne.symm t)]
  subst ex
  refine Cc Z D1 d O Y (a1 _ U) fun g hk=>#[rfl,?_]
  refine Inv.qb (h':=g) (t':=s.toks) (fp:=[z,i1]) I (fun b o hb q=>?_) fun b hb=>?_
  ·simp only[mem_cons,mem_nil_iff,or_false,not_or]at hb;exact hk b o hb.1 hb.2 q
  ·have hb':b∈[z,TI,TO,i1,i2]:=by
    simp only[mem_cons,mem_nil_iff,or_false]at hb ⊢;rcases hb with q | q
    ·exact .inl q
    ·exact .inr (.inr (.inr (.inl q)))
   obtain⟨f0,f1,f2,f3,f4,f5⟩:=hf b hb';exact#[f0,f3,f1,f4,f5]
 self:=fun A i s Q E st h=>wpAny_pyIter_zip st.1 h
def p7.calm{P:Program}{w:World}{K:W.Frag}(T:p7 (fun _=>True) P w K tg QK fp it tn):Turn P w K tg QK fp it tn where
 mem:=T.mem
 obj:=T.obj
 keep:=T.keep
 item:=fun X a b c O i pins s J H E I=>T.item X a b c trivial i pins s J H E I
 done:=fun X a b c O i pins s J H E I=>T.done X a b c trivial i pins s J H E I
 self:=T.self
def PI'.calm(h:PI' (fun _=>True) X tg iter wi):PI X tg iter wi:=fun pins s J H R I q =>
 thn (h pins s J H R I q) fun v s1 U=>thn U fun O s2 ⟨it,fp,tn,QK,H',e,Y,T,r⟩=>#[it,fp,tn,QK,H',e,Y,T.calm,r]
abbrev dG(t:Bool)(l:Addr):Obj:=if t then { cls:=.type "tuple_iterator",data:=.fields (List.toArray [.ref l,rawInt 0]) } else { cls:=.type "list_iterator",data:=.fields (List.toArray [.ref l,.int 0 0]) }
def t7(e:h.get? it=some (dG t l)):jI t it l 0 h:=by
 cases t with
 | true=>exact#[_,e,rfl,rfl]
 | false=>exact#[_,e,rfl,rfl]
def tM{t:SK}(I:Inv X pins J H s)(O:H l=some (dY t xs))(q:Q (.ref s.heap.objs.size) { s with heap:=s.heap.push (dG t.tp l) }):wpAny (model X.prog X.w) A (pyIter (.ref l)) Q E s:=by
 cases t with
 |t=>
  obtain⟨its,R,p,U⟩:=I.tuple (SqT.of (show H l=some (.tup xs)from O));exact wpAny_pyIter_tuple p q
 |l=>
  obtain⟨its,R,p,U⟩:=I.list (SqL.of (show H l=some (.lst xs)from O));exact wpAny_pyIter_list p.isList q
 |f o=>
  obtain⟨its,R,p,U⟩:=I.list (show SqL X.K H l xs from .inl (.inr #[o,O]));exact wpAny_pyIter_list p.isList q
section
abbrev LC(Y:TA):TI:=fun J H R=>Y J H fun vs U=>∃ t1 t2 O I xs ys,vs=[.ref O,.ref I]/\U O=some (dY t1 xs)/\U I=some (dY t2 ys)/\R (Itz t1 t2 O I) U
def far(n a b:Nat)(h:a≠b):n+a≠n+b:=fun q=>h (Nat.add_left_cancel q)
def AD:bootBuiltins "zip" = some (.type "zip"):=by decide +kernel
def FP(hg:Gl X "zip")(hm:X.mg "zip" = none)(ha:PA X [a,b] ta)(F:starEach [a,b] X.env=[(false,eval a X.env),(false,eval b X.env)])(Z:starEach [b] X.env=[(false,eval b X.env)]):PI' (fun _=>True) X (.Tuple elts kx tp) (.Call (.Name "zip" p) [a,b] [] pos) (LC ta):=by
 intro pins t J L R n h;refine Call_ (iW n hg hm AD (PyProof.Rows.callWith_type1 (thn (ha pos pins t J L _ n h) fun us s ⟨vs,H,I,v,w⟩=>?_) (by rw[F,Z]) (by rw[Z];rfl)) ∅ ∅);obtain⟨t1,t2,O,U,xs,ys,rfl,E,D,q⟩:=w
 cases v with
 |cons r g=>
  cases g with
  |cons u g=>
   cases g;cases r;cases u;have K:Inv X pins J H { s with heap:=s.heap.push (dG t1.tp O) }:=I.kept (t':=s.toks) fun b o e=>J2 _ e
   refine DT (S1:=fun it z1=>it=s.heap.objs.size/\z1={ s with heap:=s.heap.push (dG t1.tp O) }) (S2:=fun it m z2=>it=s.heap.objs.size/\m=(s.heap.push (dG t1.tp O)).objs.size/\z2={ s with heap:=(s.heap.push (dG t1.tp O)).push (dG t2.tp U) })
    (fun A=>tM I E ⟨_,rfl,rfl,rfl⟩) (fun it z1 QK A=>?_) fun it m z2 G=>?_
   ·obtain⟨rfl,rfl⟩:=QK;exact tM K D ⟨_,rfl,rfl,rfl,rfl⟩
   ·obtain⟨rfl,rfl,rfl⟩:=G;have z1:(s.heap.push (dG t1.tp O)).objs.size=s.heap.objs.size+1:=Qw ..;generalize e1:s.heap.push (dG t1.tp O)=g1 at *
    have B:g1.get? s.heap.objs.size=some (dG t1.tp O):=by
     rw[<-e1];exact Qc _ (by cases t1<;>rfl)
    have C:∀ b o,s.heap.get? b=some o->g1.get? b=some o:=fun b o e=>by rw[<-e1];exact J2 _ e
    have z2:(g1.push (dG t2.tp U)).objs.size=s.heap.objs.size+2:=by rw[Qw,z1]
    have z:(g1.push (dG t2.tp U)).get? (s.heap.objs.size+1)=some (dG t2.tp U):=by
     rw[<-z1];exact Qc _ (by cases t2<;>rfl)
    have l:∀ b o,g1.get? b=some o->(g1.push (dG t2.tp U)).get? b=some o:=fun b o e=>J2 _ e;generalize e2:g1.push (dG t2.tp U)=g2 at *;dsimp only;rw[z1]
    have f:(g2.push { cls:=.type "tuple",data:=.seq (List.toArray [.ref s.heap.objs.size,.ref (s.heap.objs.size+1)]) }).objs.size=s.heap.objs.size+3:=by rw[Qw,z2]
    have y:(g2.push { cls:=.type "tuple",data:=.seq (List.toArray [.ref s.heap.objs.size,.ref (s.heap.objs.size+1)]) }).get? (s.heap.objs.size+2)=some { cls:=.type "tuple",data:=.seq (List.toArray [.ref s.heap.objs.size,.ref (s.heap.objs.size+1)]) }:=by
     rw[<-z2];exact Qc _ rfl
    have i:∀ b o,g2.get? b=some o->(g2.push { cls:=.type "tuple",data:=.seq (List.toArray [.ref s.heap.objs.size,.ref (s.heap.objs.size+1)]) }).get? b=some o:=fun b o e=>J2 _ e;rw[z2];generalize e3:g2.push { cls:=.type "tuple",data:=.seq (List.toArray [.ref s.heap.objs.size,.ref (s.heap.objs.size+1)]) }=g3 at *;rw[f]
    have j:(g3.push { cls:=.type "tuple",data:=.seq (List.toArray [.none,.none]) }).objs.size=s.heap.objs.size+4:=by rw[Qw,f]
    have x:(g3.push { cls:=.type "tuple",data:=.seq (List.toArray [.none,.none]) }).get? (s.heap.objs.size+3)=some { cls:=.type "tuple",data:=.seq (List.toArray [.none,.none]) }:=by
     rw[<-f];exact Qc _ rfl
    have d:∀ b o,g3.get? b=some o->(g3.push { cls:=.type "tuple",data:=.seq (List.toArray [.none,.none]) }).get? b=some o:=fun b o e=>J2 _ e;generalize e4:g3.push { cls:=.type "tuple",data:=.seq (List.toArray [.none,.none]) }=g4 at *;rw[j]
    have k:(g4.push { cls:=.type "zip",data:=.fields (List.toArray [.none,.bool false,.bool false,.ref (s.heap.objs.size+2),.ref (s.heap.objs.size+3)]) }).get? (s.heap.objs.size+4)=some { cls:=.type "zip",data:=.fields (List.toArray [.none,.bool false,.bool false,.ref (s.heap.objs.size+2),.ref (s.heap.objs.size+3)]) }:=by
     rw[<-j];exact Qc _ rfl
    have Y:∀ b o,g4.get? b=some o->(g4.push { cls:=.type "zip",data:=.fields (List.toArray [.none,.bool false,.bool false,.ref (s.heap.objs.size+2),.ref (s.heap.objs.size+3)]) }).get? b=some o:=fun b o e=>J2 _ e;generalize e5:g4.push { cls:=.type "zip",data:=.fields (List.toArray [.none,.bool false,.bool false,.ref (s.heap.objs.size+2),.ref (s.heap.objs.size+3)]) }=g5 at *
    refine wpAny_pyIter_zip (TI:=s.heap.objs.size+2) (TO:=s.heap.objs.size+3) (f0:=.none) k ⟨s.heap.objs.size+4,[s.heap.objs.size+4,s.heap.objs.size+2,s.heap.objs.size+3,s.heap.objs.size,s.heap.objs.size+1],_,Itz t1 t2 O U,H,rfl,I.kept (t':=s.toks) fun b o e=>Y _ _ (d _ _ (i _ _ (l _ _ (C _ _ e)))),Bf (far _ 2 4 ∅) (far _ 3 4 ∅) (far _ 2 3 ∅) (far _ 0 4 ∅) (far _ 1 4 ∅) (far _ 0 3 ∅) (far _ 1 3 ∅) (far _ 0 1 ∅) (far _ 0 2 ∅) (far _ 1 2 ∅),
     ⟨k,Y _ _ (d _ _ y),⟨_,_,Y _ _ x⟩,t7 (Y _ _ (d _ _ (i _ _ (l _ _ B)))),t7 (Y _ _ (d _ _ (i _ _ z)))⟩,fun b hb=>?_,q⟩
    have c:s.heap.objs.size<=b:=by
     simp only[mem_cons,mem_nil_iff,or_false]at hb
     rcases hb with rfl | rfl | rfl | rfl | rfl<;>first | exact Qb _ | exact Nat.le_add_right _ _
    exact I.qw c (I.hok.fresh c)
end
end L2
namespace RS
open PySem PySem.Spec PyProof.Rows L2
def kD:∀ (ds es:List RL.D),ds.length=es.length->(RL.fw ds es).length=ds.length
 | [],[],_=>rfl
 | [],_::_,h=>by cases h
 | _::_,[],h=>by cases h
 | d::ds,e::es,h=>by rw[RL.fw,length_cons,length_cons,kD ds es (by simpa using h)]
def uC:∀ (ds es:List RL.D) (i:Nat) (d:RL.D),(RL.fw ds es)[i]?=some d->∃ x y,ds[i]?=some x/\es[i]?=some y/\d=.tup [x,y]
 | [],es,i,d,h=>by cases es<;>simp[RL.fw]at h
 | _::_,[],i,d,h=>by simp[RL.fw]at h
 | x::ds,y::es,0,d,h=>by simp[RL.fw]at h;exact#[x,y,rfl,rfl,h.symm]
 | x::ds,y::es,i+1,d,h=>by
  obtain⟨O,I,Y,U,R⟩:=uC ds es i d h;exact#[O,I,by simpa using Y,by simpa using U,R]
def AK{K:W.Frag}(hl:ds.length=es.length)(a:H l1=some (dY t1 xs))(Z:H l2=some (dY t2 ys))(U:¬ P l1)(R:¬ P l2)(O:ae nP K H ds xs)(I:ae nP K H es ys)(hm:∀ b o,P b->H b=some o->d6 o) :
  kR K (Itz t1 t2 l1 l2) (RL.fw ds es) P H where
 go:=fun H' i k hi=>by
  rw[kD ds es hl]at hi;obtain⟨x,e,_⟩:=O.get (i:=i) (d:=ds[i]) (by simp[]);obtain⟨y,e',_⟩:=I.get (i:=i) (d:=es[i]'⋯) (by simp);exact#[xs,ys,x,y,k _ _ U a,k _ _ R Z,e,e']
 stop:=fun H' k=>#[xs,ys,k _ _ U a,k _ _ R Z,by rw[kD ds es hl,O.length],by rw[kD ds es hl,hl,I.length]]
 yld:=fun H' i d v H2 k e y=>by
  obtain⟨p,x,w,Y,rfl,rfl,m,n⟩:=y;obtain⟨dx,l,s,r,rfl⟩:=uC ds es i d e;obtain⟨t,j,h⟩:=O.get s;obtain⟨u,g,f⟩:=I.get r;rw[m xs (k _ _ U a)]at j;rw[n ys (k _ _ R Z)]at g;cases j;cases g;refine#[aw.bU Y,fun q=>?_]
  have c:Rep nP K H' dx x/\Rep nP K H' l w:=by
   rcases q with q | q
   ·have q:(dx.imm&&(l.imm&&true))=true:=q;rw[Bool.and_true,and_eq_true]at q;exact#[gr hm k h q.1,gr hm k f q.2]
   ·exact#[h.same q,f.same q]
  exact#[p,[x,w],rfl,aV,ae.cons (c.1.same (aw.bU Y)) (ae.cons (c.2.same (aw.bU Y)) ae.nil)]
def rL{P:Addr->Prop}{K:W.Frag}(h:RL.items d=some ds)(r:Rep P K H d v):∃ t l xs,v=.ref l/\H l=some (dY t xs)/\ae P K H ds xs/\(t=.l->d=.lst ds):=by
 obtain⟨p,xs,rfl,O,I⟩:=f7 h r
 rcases O with⟨q,rfl⟩ | ⟨q,rfl⟩ | ⟨⟨o,q⟩,rfl⟩
 ·exact#[.l,p,xs,rfl,q,I,fun _=>rfl]
 ·exact⟨.t,p,xs,rfl,q,I,fun z=>by cases z⟩
 ·exact⟨.f o,p,xs,rfl,q,I,fun z=>by cases z⟩
section rules
def yW(hg:Gl X "zip")(hm:X.mg "zip" = none)(ha:SE X cl a a')(hb:SE X cl b b')(hn:noStar a=true)(Z:noStar b=true):PI' (fun _=>True) X (.Tuple elts kx tp) (.Call (.Name "zip" p) [a,b] [] pos) (tI X.K cl (.zip a' b')):=by
 intro pins s J H R I h;obtain⟨c,ds,A,e,k⟩:=h;obtain⟨x,Q,e⟩:=bind_some e;obtain⟨y,N,e⟩:=bind_some e;obtain⟨xs,T,e⟩:=bind_some e;obtain⟨ys,S,e⟩:=bind_some e;split at e
 ·rename_i hl;cases e;have m:=bz ha (bz hb cT (ay [] Z)) (ay _ hn);refine FP hg hm m (by rw[ay _ hn,ay _ Z];rfl) (ay [] Z) pins s J H R I ?_;refine#[c,x,A,Q,fun v H1 U=>#[c,y,A.same U.same,N,fun u H2 d=>?_]];obtain⟨t1,E,vs,rfl,i,C,V⟩:=rL T (U.rep.same d.same);obtain⟨t2,D,us,rfl,g,B,c2⟩:=rL S d.rep;refine#[t1,t2,E,D,vs,us,rfl,i,g,k _ _ (U.same.trans d.same) #[AK hl i g (fun z=>z) (fun z=>z) C B hV,fun M P z r av=>?_]];have f:=e8 (U.same.trans d.same) r;unfold RL.sV at z;rw[and_eq_true]at z
  have O:∀ (t:SK) l w,H2 l=some (dY t w)->t≠.l->¬ P l:=fun t l w hl Y q=>by
   cases t with
   | l=>exact Y rfl
   | _=>rcases f l _ q hl with⟨_,q⟩ | ⟨_,q⟩ | ⟨_,q⟩<;>cases q
  refine AK hl i g ?_ ?_ C B f
  ·by_cases Y:t1=.l
   ·exact pd U z.1 r av _ _ (V Y) rfl
   ·exact O t1 E vs i Y
  ·by_cases Y:t2=.l
   ·refine pd d z.2 (fun b q=>?_) (fun j dj vj G L QK=>(av j dj vj G L QK).same U.same) _ _ (c2 Y) rfl;obtain⟨o,F,n⟩:=r b q;exact#[o,U.same _ _ F,n]
   ·exact O t2 D us g Y
 ·cases e
end rules
end RS
namespace L2
open PySem PySem.Spec PyProof.Rows
end L2
namespace RS
open PySem PySem.Spec PyProof.Rows L2
section
def Cm{c:Expr}{body:List Stmt}{b:RL.Ss}(s:X.xe=fun _ _=>False)(u:ST X cl c c')(hb:SSs X cl M body b):SS X cl M (.While c body [] pos) (.whil c' b):=by
 refine PS.weak (Bv (by rw[s];exact PassesOwn.never) u hb) fun D J H h=>?_;obtain⟨j,r,Z,q,e,k⟩:=h;refine#[fun m O H2=>∃ I,RVm X.K M I O H2/\Fr' M J H O H2/\RL.whF (fun J=>(RL.ev cl J c').bind RL.truth) (RL.af cl M b) m I=some (r,Z),#[_,j,q,Fr'.same (aw.refl _),e],?_];rintro m O H2 ⟨I,a,n,hl⟩
 cases m with
 | zero=>rw[RL.whF]at hl;cases hl
 |succ m=>
  obtain⟨t,x,hl⟩:=bind_some hl;refine#[I,t,a.rv0,x,fun z l=>?_];have g:=n.trans (Fr'.same (J:=O) l)
  cases t with
  |true=>
   obtain⟨⟨o,Y⟩,w,hl⟩:=bind_some hl;refine#[fun R H'=>∃ p,p<m+1/\∃ U,RVm X.K M U R H'/\Fr' M J H R H'/\RL.whF (fun J=>(RL.ev cl J c').bind RL.truth) (RL.af cl M b) p U=some (r,Z),fun _ _ h=>h,I,o,Y,a.same l,w,?_]
   cases o with
   | nx=>exact fun R H' f i=>#[m,by lia,Y,f,g.trans i,hl]
   |rt d=>
    cases hl;exact fun R H' v y f i sm rp=>k R H' v y f (g.trans i) sm rp
  |false=>
   cases hl;exact k O z (a.same l) g
end
end RS
namespace L2
open PySem PySem.Spec PyProof.Rows
end L2
namespace RS
open PySem PySem.Spec PyProof.Rows L2
end RS
namespace L2
open PySem PySem.Spec PyProof.Rows
def zQ{o:Obj}:(o.mapFields f).dict=o.dict:=by
 obtain⟨c,d,I,sl⟩:=o;cases I<;>rfl
abbrev Exc(P:Addr->Prop)(e:Addr)(C:Addr)(od:Option Addr)(tb:Bool)(h:Heap):Prop :=
 ∃ I vs,h.get? e=some I/\(I.cls=.ref C/\I.dict=od)/\I.data=.fields vs/\vs[2]?=some .none/\¬ P e /\
  ((tb=false/\vs[1]?=some .none)\/∃ T R O,vs[1]?=some (.ref T)/\T≠e/\h.get? T=some R/\R.data=.fields O/\O[3]?=some .none/\¬ P T)
structure Off1(P:Addr->Prop)(fs:List Addr)(h h':Heap):Prop where
 sz:h.objs.size<=h'.objs.size
 keep:∀ b o,P b->b∉fs->h.get? b=some o->h'.get? b=some o
 slot:∀ b o,P b->b∈fs->h.get? b=some o->∃ sl,h'.get? b=some { o with slots:=sl }
def Off1.trans(a:Off1 P fs h h1)(b:Off1 P fs h1 h2):Off1 P fs h h2 where
 sz:=Qn a.sz b.sz
 keep:=fun c o p n e=>b.keep c o p n (a.keep c o p n e)
 slot:=fun c o p n e=>by
  obtain⟨sl,R⟩:=a.slot c o p n e;obtain⟨I,O⟩:=b.slot c _ p n R;exact#[I,O]
def Off1.ye(n:¬ P a)(f:Obj->Obj):Off1 P fs h (h.update a f) where
 sz:=by rw[(Heap.SameBut.update ..).1];exact Qb _
 keep:=fun b o p _ e=>by rw[Qv _ _ (show a≠b from fun z=>n (z.symm▸p))];exact e
 slot:=fun b o p _ e=>#[o.slots,by rw[Qv _ _ (show a≠b from fun z=>n (z.symm▸p))];exact e]
def Off1.ext(o:Obj):Off1 P fs h (h.push o) where
 sz:=by rw[Qw];exact Nat.le_succ _
 keep:=fun b _ _ _ e=>J2 _ e
 slot:=fun b o _ _ e=>#[o.slots,J2 _ e]
def Off1.slots(x:Heap.SlotsOnly fs h h'):Off1 P fs h h' where
 sz:=le_of_eq x.1.symm
 keep:=fun b o _ n e=>(x.2.1 b n).trans e
 slot:=fun b o _ _ e=>x.2.2 b o e
section
def t8(R:A.frames=some (env::outer))(hl:s.heap.FunFrames base (env::outer))(hf:env.frame=some L)(a:s.heap.get? e=some oe)(c:oe.cls=.ref C/\oe.dict=od)(hd:oe.data=.fields vs)(f:vs[2]?=some .none)
 (ne:¬ P e)(d:∀ b,P b->b<s.heap.objs.size)(k:∀ h',Exc P e C od true h'->Off1 P (frs (env::outer)) s.heap h'->Q () { s with heap:=h' }) :
  wpAny M A (do let fr <- frameOf env;let q <- entryPlaceOf L had;let t <- EntryCells.newEntry head fr .none (rawInt L) .none q;setField (.ref e) 1 t) (fun _ s2=>wpAny M A (setFlight (.ref e) none) Q E s2) E s:=by
 have U:e∉(env::outer).filterMap (·.frame):=fun z=>by
  obtain⟨_,o,Z,hn⟩:=hl.mem z;rw[a]at Z;cases Z;exact hn vs hd
 have z1:1<vs.size:=lt_trans ∅ (Array.getElem?_eq_some_iff.mp f).1;cbv;refine wpAny_frameOf_fun R hl hf fun I sl=>?_;cbv;refine wpAny_entryPlaceOf fun q j=>?_;unfold EntryCells.newEntry newFields;cbv;refine wpAny_newObj_type ?_ (j.sizeOk5 _ _ _ _ _);have i:I.get? e=some oe:=(sl.2.1 e U).trans a;generalize hto:({ cls:=.type "traceback",dict:=none,data:=.fields ([head,.ref L,.none,rawInt L,.none]++(if q.isEmpty then replicate 6 Value.none else q)).toArray }:Obj)=to;have h:(I.push to).get? e=some oe:=J2 _ i;have te:I.objs.size≠e:=ne_of_gt (Qf i);refine wpAny_setField h hd z1 ?_;have Y:=Obj.data_mapFields hd (·.setIfInBounds 1 (Value.ref I.objs.size));have g:=Qt (Obj.mapFields (·.setIfInBounds 1 (Value.ref I.objs.size))) h (Obj.isFreed_of_fields Y)
 have O:to.data=.fields ([head,.ref L,.none,rawInt L,.none]++(if q.isEmpty then replicate 6 Value.none else q)).toArray:=by rw[<-hto]
 have t3:=(Qv (I.push to) (Obj.mapFields (·.setIfInBounds 1 (Value.ref I.objs.size))) (Ne.symm te)).trans (Qc I (by rw[<-hto];rfl));unfold setFlight;cbv;refine wpAny_field g Y (x:=.ref I.objs.size) (by simp[z1]) ?_;rw[if_pos (show(Value.ref I.objs.size != Value.none)=true from by simp)];refine wpAny_setField t3 O (by simp only[size_toArray,length_append,length_cons,List.length_nil]<;>omega) (k _ ?_ ?_)
 ·refine#[_,_,(Qv _ _ te).trans g,#[(Obj.cls_mapFields _ _).trans c.1,zQ.trans c.2],Y,by rw[Array.getElem?_setIfInBounds_ne ∅];exact f,ne,.inr #[I.objs.size,_,_,by simp[z1],te,Qt _ t3 (Obj.isFreed_of_fields (Obj.data_mapFields O _)),Obj.data_mapFields O _,?_,fun z=>?_]]
  ·rw[Array.getElem?_setIfInBounds_self_of_lt (by simp only[size_toArray,length_append,length_cons,List.length_nil]<;>omega)];rfl
  ·have:=d _ z;rw[sl.1]at this;exact Qy _ this
 ·refine(((Off1.slots sl).trans (Off1.ext _)).trans (Off1.ye ne _)).trans (Off1.ye (fun z=>?_) _);have:=d _ z;rw[sl.1]at this;exact Qy _ this
def rH(O:A.frames=some (env::outer))(hl:s.heap.FunFrames base (env::outer))(hf:env.frame=some L)(x:Exc P e C od tb s.heap)(c:∀ b,P b->b<s.heap.objs.size)
 (k:∀ h',Exc P e C od true h'->Off1 P (frs (env::outer)) s.heap h'->Q () { s with heap:=h' }) :
  wpAny M A (noteFrame (.ref e) env) (fun _ s2=>wpAny M A (setFlight (.ref e) none) Q E s2) E s:=by
 obtain⟨j,vs,R,a,hd,f,ne,x⟩:=x;unfold noteFrame;simp only[hf];cbv
 rcases x with⟨_,Z⟩ | ⟨T,l,h,Z,Y,hT,I,d,i⟩
 ·refine wpAny_field R hd Z ?_;exact t8 O hl hf R a hd f ne c k
 ·refine wpAny_field R hd Z ?_;cbv;refine wpAny_field hT I d ?_;cbv;refine wpAny_setField hT I (Array.getElem?_eq_some_iff.mp d).1 ?_;have oth:∀ b,b≠T->(s.heap.update T (Obj.mapFields (·.setIfInBounds 3 Value.none))).get? b=s.heap.get? b:=fun b hb=>Qv _ _ (Ne.symm hb);have up:Off1 P (frs (env::outer)) s.heap (s.heap.update T (Obj.mapFields (·.setIfInBounds 3 Value.none))):=Off1.ye i _
  have U:=hl.of_keeps fun b o hb hn=>⟨o,(oth b fun z=>by
   rw[z,hT]at hb;cases hb
   exact hn h I).trans hb,rfl⟩
  exact t8 O U hf ((oth e (Ne.symm Y)).trans R) a hd f ne (fun b hb=>Qg (c b hb) up.sz) fun h' g o'=>k h' g (up.trans o')
def zu(I:A.frames=some (env::outer))(hl:s.heap.FunFrames base (env::outer))(hf:env.frame=some L)(x:Exc P e C od tb s.heap)(O:∀ b,P b->b<s.heap.objs.size)
 (k:∀ h',Exc P e C od true h'->Off1 P (frs (env::outer)) s.heap h'->Q () { s with heap:=h' }):wpAny M A (leaving env (.ref e)) Q E s:=by
 exact Qa (rH I hl hf x O k)
end
def bC.there(x:bC P w H h a o):∃ u,h.get? a=some u:=by
 cases o with
 | lst xs=>obtain⟨_,_,_,_,e⟩:=x;exact#[_,e]
 | tup xs=>obtain⟨_,_,_,o,e,_⟩:=x;exact#[_,e]
 | dK kvs=>obtain⟨_,_,_,_,o,_,_,e,_⟩:=x;exact#[_,e]
 | dT kvs=>obtain⟨_,_,_,_,o,_,_,e,_⟩:=x;exact#[_,e]
 | set S n=>obtain⟨o,_,_,_,e,_⟩:=x;exact#[_,e]
 | ins C dx fs=>obtain⟨_,_,_,e,_⟩:=x;exact#[_,e]
 | own y=>exact x
 | xd fs=>obtain⟨_,⟨_,_,_,e,_⟩,_⟩:=x;exact#[_,e]
 | rng lo hi=>obtain⟨_,_,_,e⟩:=x;exact#[_,e]
 | frz ob u=>exact#[_,x.1]
 | tbl ps=>exact#[_,x]
 | met f y=>exact#[_,x]
 | ext φ=>exact x.2.1
abbrev fR(h:Heap)(H:Hp)(b:Addr):Prop:=(∃ o,h.get? b=some o)\/H b≠none
def Exc.mono(x:Exc P e C od tb h)(k:∀ b,P' b->P b):Exc P' e C od tb h:=by
 obtain⟨O,vs,d,c,a,Z,Y,U⟩:=x;refine#[O,vs,d,c,a,Z,fun z=>Y (k _ z),U.imp (fun z=>z) fun#[T,R,I,a1,a2,a3,a4,a5,a6]=>#[T,R,I,a1,a2,a3,a4,a5,fun z=>a6 (k _ z)]]
abbrev CXE(P:Program)(w:World):CXT:=fun outer H s E e s'=>∃ x C od H',e=.ref x/\E (.ref C) od H'/\s'.os=s.os/\AllBare s'.gens/\Un (frs outer) [] H H' s.heap s'.heap/\HOk P w H' s'.heap/\Exc (fR s.heap H') x C od true s'.heap
section
def Inv.old(I:Inv X pins J H s)(O:X.ex=[])(e:X.s₀.heap.get? b=some o):∃ o',s.heap.get? b=some o':=I.base.there b o e (by rw[O];simp)
def nK(I:Inv X pins J H s)(hst:X.stack=X.env::X.outer)(O:X.env.frame=some X.env.locals)(d:X.ex=[])(x:Exc (fR X.s₀.heap H) e C od tb s.heap)(l:EE (.ref C) od H)(m:A.frames=some (X.env::X.outer)) :
  wpAny (model X.prog X.w) A (leaving X.env (.ref e)) (fun _ s2=>CXE X.prog X.w X.outer X.H₀ X.s₀ EE (.ref e) s2) E' s:=by
 have hl:=I.stack;rw[hst]at hl
 have c:∀ b∈frs (X.env::X.outer),H b=none:=by
  have:=I.m8;rw[hst]at this;exact this
 have k:∀ b,fR X.s₀.heap H b->b<s.heap.objs.size:=fun b hb=>by
  rcases hb with⟨o,e⟩ | hb
  ·exact Qg (Qf e) I.sz
  ·obtain⟨o,j⟩:=Option.ne_none_iff_exists'.mp hb;exact I.hok.lt j
 refine zu m hl O x k fun h' h o'=>?_;have t:X.fs=frs X.outer:=rfl
 have mem:∀ b o,X.s₀.heap.get? b=some o->b∉frs X.outer->b∉frs (X.env::X.outer):=fun b o e n z=>by
  unfold frs at z;rw[filterMap_cons,O]at z;rcases List.mem_cons.mp z with z | z
  ·have g:=Qf e;have p:=I.ok.above;rw[z]at g;exact Qy _ (Qg g p)
  ·exact n z
 have U:∀ b,b∈frs X.outer->b∈frs (X.env::X.outer):=fun b z=>by
  unfold frs;rw[filterMap_cons,O];exact Qk _ z
 have R:∀ b:Addr,b∉X.ex:=fun b=>by rw[d];simp
 refine#[e,C,od,H,rfl,l,I.os,I.bare,#[fun b o q n hb _=>?_,fun b o q n hb _=>?_,fun b o q n _=>I.base.free b o q n (R b),fun b o q _=>?_,I.base.f9,I.base.dD,I.base.fD],fun a o q=>?_,h]
 ·exact o'.keep b o (.inl #[o,q]) (mem b o q hb) (I.base.keep b o q n hb (R b))
 ·obtain⟨sl,Z⟩:=I.base.slot b o q n hb (R b);obtain⟨Y,i⟩:=o'.slot b _ (.inl #[o,q]) (U b hb) Z;exact#[Y,i]
 ·obtain⟨v,f⟩:=I.base.there b o q (R b);by_cases hb:b∈frs (X.env::X.outer)
  ·obtain⟨sl,Z⟩:=o'.slot b _ (.inl #[o,q]) hb f;exact#[_,Z]
  ·exact#[_,o'.keep b _ (.inl #[o,q]) hb f]
 ·refine(I.hok a o q).kU (fun b u hb r=>?_) (fun _ z=>z) fun _ _ z=>z
  have hn:H b≠none:=by
   rcases hb with rfl | hb
   ·rw[q];exact fun z=>nomatch z
   ·rw[hb];exact fun z=>nomatch z
  exact o'.keep b u (.inr hn) (fun z=>hn (c b z)) r
def Inv.refused(I:Inv X pins J H s)(R:X.ex=[])(h:CXE X.prog X.w X.stack H s E e s'):∃ x C od H',e=.ref x/\E (.ref C) od H'/\Inv X pins J H' s'/\Exc (fR X.s₀.heap H') x C od true s'.heap/\Exc (fR s.heap H') x C od true s'.heap/\Un (frs X.stack) [] H H' s.heap s'.heap:=by
 obtain⟨x,C,od,H',rfl,Y,os,bare,un,hok,ex⟩:=h;obtain⟨U,g,d,t,O⟩:=s';obtain rfl:O=s.os:=os;refine#[x,C,od,H',rfl,Y,I.call (h':=U) (g':=g) (d':=d) (t':=t) (ch:=[]) un hok bare (fun b z=>absurd z (by simp)),ex.mono fun b hb=>?_,ex,un];rcases hb with⟨o,q⟩ | hb
 ·exact .inl (I.old R q)
 ·exact .inr hb
def uE(hok:HOk P w H h)(m:Heap.MadeExcOf h h' e (.ref C) vs):Exc (fR h H) e C none false h':=by
 obtain⟨t,O,_,_⟩:=m.there;refine#[_,_,O,#[rfl,rfl],rfl,rfl,fun z=>?_,.inl #[rfl,rfl]];have hn:=m.new;rcases z with⟨o,q⟩ | z
 ·rw[hn]at q;cases q
 ·obtain⟨o,I⟩:=Option.ne_none_iff_exists'.mp z;obtain⟨u,q⟩:=(hok e o I).there;rw[hn]at q;cases q
def Inv.newExc(I:Inv X pins J H s)(O:X.ex=[])(m:Heap.MadeExcOf s.heap h' e (.ref C) vs):Inv X pins J H { s with heap:=h' }/\Exc (fR X.s₀.heap H) e C none false h' :=
 ⟨I.kept m.keeps,(uE I.hok m).mono fun b hb=>hb.imp (fun⟨o,q⟩=>I.old O q) fun z=>z⟩
end
open PySem.W
section
variable{K:W.Frag}
structure tU(K:W.Frag)(D:Addr):Prop where
 ga:findIn K (.ref D) "__getattribute__" = some (some (.builtin "BaseException.__getattribute__"))
 gn:findIn K (.ref D) "__getattr__" = some none
 fo:findObj K D none "__class__" = some (.bind (.builtin "getset_descriptor.__get__") (.builtin "object.__class__"))
 mo:mroIn K D (.type "object")=some true
 mb:subIn K (.ref D) (.type "BaseException")=some true
 is:(clsIn K D).isSome=true
def v9:takesIn K (.builtin "object.__class__")=some true:=by kernel_rfl
def yr(h:findObj K D none "__class__" = some (.bind (.builtin "getset_descriptor.__get__") (.builtin "object.__class__"))):findObj K D od "__class__" = some (.bind (.builtin "getset_descriptor.__get__") (.builtin "object.__class__")):=by
 unfold findObj at h ⊢;obtain⟨R,O,h⟩:=Option.bind_eq_some_iff.mp h;obtain⟨attr,ha,h⟩:=Option.bind_eq_some_iff.mp h;obtain⟨get,hg,h⟩:=Option.bind_eq_some_iff.mp h;obtain⟨data,hd,h⟩:=Option.bind_eq_some_iff.mp h;rw[O,Option.bind_some,ha,Option.bind_some,hg,Option.bind_some,hd,Option.bind_some]
 cases data with
 |true=>
  cases attr with
  | none=>cases get<;>cases hd
  |some a=>
   cases get with
   | none=>cases hd
   | some g=>exact h
 |false=>
  exfalso;obtain⟨own,I,h⟩:=Option.bind_eq_some_iff.mp (show((W.ownOf R none "__class__").bind _)=_ from h)
  have hn:own=none:=by
   unfold W.ownOf at I;split at I<;>exact(Option.some.inj I).symm
  subst hn;dsimp only at h;split at h
  ·cases h
  ·cases attr with
   | none=>cases h
   |some a=>
    cases get with
    |none=>
     dsimp only at h;split at h
     ·cases h
     ·cases h
    |some g=>
     cases h;dsimp only at hd;rw[v9]at hd;cases hd
def Iv(F:tU K D)(X:K.In s.heap)(I:InstAt s.heap x ox D od)(h:Q (some (.ref D)) { s with toks:=s.toks+1 }):wpAny (model prog w) A (getAttr? (.ref x) "__class__") Q E s:=by
 have U:=I.type (M:=model prog w);have b:=looks_findIn (M:=model prog w) X F.ga;have L2:=looks_findIn (M:=model prog w) X F.gn;have Y:=looks_find (M:=model prog w) X I (yr F.fo);have a:=looks_subIn (M:=model prog w) X F.mb;have Z:=fun(A:Around) (R:Result->Shared->Prop) (t:Nat)=>class_get (prog:=prog) (w:=w) (A:=A) (R:=R) (tp:=.ref D) (s:={ s with toks:=t }) X I F.mo;obtain⟨e,g,d,t,os⟩:=s;refine Qa (wpAny_mkText (Qa (wpAny_attempt (wpAny_holding (Qa (U.at (Qa (b.at ?_))))))))
 have c:¬ ((onTheHeap (Value.ref D)&&(Value.builtin "BaseException.__getattribute__" == Value.builtin "object.__getattribute__"))=true):=by
  have:(Value.builtin "BaseException.__getattribute__" == Value.builtin "object.__getattribute__")=false:=by decide +kernel
  exact Qj
 dsimp only;refine Qa (L2.at ?_);refine Qa (wpAny_attempt (wpAny_holding (Qa (wpAny_of_eq (PySem.F.attrBase_ValueError.ga.bind (.ref x)) ?_))));refine wpAny_call (codeAny_call_builtin PySem.F.attrBase_ValueError.ga.plain PySem.F.entry_bexc_ga ?_)
 have hk:builtinKind "BaseException.__getattribute__" = some .slot:=by decide +kernel
 have O:splitId "BaseException.__getattribute__" = some ("BaseException", "__getattribute__"):=by decide +kernel
 simp only[checkBuiltinCall,hk,O]
 repeat (any_goals (first | assumption | exact U | (with_reducible refine U.at ?_) | (with_reducible refine a.at ?_) | (with_reducible refine Y.at ?_) | (with_reducible refine Qa (Y.at ?_)) | wp_step))
 refine Z _ _ _ ?_;refine Qd ?_;exact wpAny_of_eq (handedOut_of rfl) (Qd h)
def ub(F:tU K D):KitX K (.ref x) (.ref D) (fun h=>InstAt h x ox D od) where
 ty:=fun _ _ _ I=>I.type
 it:=fun M h X _=>by
  have z:=F.is;unfold clsIn at z;split at z
  ·rename_i R;intro a Y Z s' k q;exact Qa (wpAny_loadPart (k _ _ (X _ _ R)) (Qd q))
  ·cases z
 ne:=fun h tp U its n sl X O=>by
  refine Bool.eq_false_iff.mpr fun q=>?_;have e:=Value.ref.inj (beq_iff_eq.mp q);subst e;have z:=F.is;unfold clsIn at z;split at z
  ·rename_i R;cases(X _ _ R).symm.trans O
  ·cases z
 ca:=fun X I k=>Iv F X I k
end
section
def qj(h:PGs X es t)(hn:(assignEach es X.env).length=n)(hst:(assignEach es X.env).findIdx? (·.1)=none):PG X (.Tuple es k pos) (qK X.K n t):=by
 intro pins s J H v u Q I r O;obtain⟨a,xs,d,c,hl,O⟩:=O;subst d;cases r;obtain⟨its,U,Z,f⟩:=I.tuple c
 have R:(assignEach es X.env).length=its.toArray.size:=by rw[hn,<-hl,U.length,size_toArray]
 rw[PyProof.Rows.assign_Tuple];refine Qa (wpAny_standAt ?_);unfold unpack;rw[R,hst];refine Qa (wpAny_holding (xT I.hd Z fun h' Y=>?_));exact h pins _ J H xs _ Q (I.kept (t':=s.toks) fun b o e=>Y b o (Ql (Qf e)) e) (by simpa using U) O
def qd(h:PGs X es t)(hn:(assignEach es X.env).length=n)(hst:(assignEach es X.env).findIdx? (·.1)=none):PG X (.Tuple es k pos) (RS.ql X.K n t):=by
 intro pins s J H v u Q I r O;obtain⟨a,xs,d,c,hl,O⟩:=O;subst d;cases r;obtain⟨its,U,Z,f⟩:=I.list c
 have R:(assignEach es X.env).length=its.toArray.size:=by rw[hn,<-hl,U.length,size_toArray]
 rw[PyProof.Rows.assign_Tuple];refine Qa (wpAny_standAt ?_);unfold unpack;rw[R,hst];refine Qa (wpAny_holding (xg I.hd Z.isList fun h' Y=>?_));exact h pins _ J H xs _ Q (I.kept (t':=s.toks) fun b o e=>Y b o (Ql (Qf e)) e) (by simpa using U) O
end
section
def PA.nox(h:PA X.nox es t):PA X es t:=fun O pins s J H Q I R =>
 wpAny_mono (h O pins s J H Q (I.eV _) R) (fun _ _ ⟨v,H',U,r,q⟩=>#[v,H',U.df,r,q]) fun _ _ z=>False.elim z
def PS.nox{st:Stmt}(h:PS X.nox st t):PS X st t:=fun pins s J H D I O =>
 wpAny_mono (h pins s J H D (I.eV _) O) (fun _ _ q=>q.df) fun _ _ z=>False.elim z
def PG.nox(h:PG X.nox tg t):PG X tg t:=fun pins s J H v u Q I r R =>
 wpAny_mono (h pins s J H v u Q (I.eV _) r R) (fun _ _ ⟨O,H',U,q⟩=>#[O,H',U.df,q]) fun _ _ z=>False.elim z
def PI.nox(h:PI X.nox tg iter wi):PI X tg iter wi:=fun pins s J H R I U =>
 wpAny_mono (h pins s J H R (I.eV _) U) (fun _ _ Y=>wpAny_mono Y (fun _ _ ⟨it,fp,tn,QK,H',e,Z,T,O,f,r⟩=>#[it,fp,tn,QK,H',e,Z.df,T,O,f,r]) fun _ _ z=>False.elim z) fun _ _ z=>False.elim z
def tJ{CX:CXT}{k:Nat}{f:Addr}{fd:FuncData}{ps:List Str}{sp:Sp}{EX:St->XK}{x:Str}{p O:Pos}{e:Expr}{es:List Expr}{t:TA}(F:eU X.prog X.w X.K X.mg X.base CX k f fd ps sp)(d:cH k X.A)(hg:Gl X x)(hm:X.mg x=some (.ref f))(hk:W.keepIn X.K (.ref f)=true)
 (hb:Binds X.K fd ps [])(c:∀ pins J H s e s',Inv X pins J H s->CX X.stack H s (EX J) e s'->X.xe e s')(ha:PA X (e::es) t)(b:(x == ("__debug__" : Str))=false)(g:starEach (e::es) X.env=(false,eval e X.env)::starEach es X.env)(a:(backTo O (starEach es X.env)).any (·.1)=false) :
  PE X (.Call (.Name x p) (e::es) [] O) (fun J H Q=>t J H fun vs Z=>sp vs Z Q (EX J)):=by
 lk;refine wpAny_Call_Name_kw (iG I hg hm ?_ b);refine W.callWith_K (h₀:=X.base) I.ok.mod.kin hk (thn (ha O pins s J H _ I h) fun us s1 ⟨vs,Z,Y,r,q⟩=>#[Y.kIn,?_]) g a
 have hl:us.length=ps.length:=by rw[<-r.length];exact F.len _ _ _ _ q
 have U:=hb s1 us Y.kIn (by rw[QA];exact hl);rw[QA]at U;refine wpAny_call (codeAny_mono (F.run X.A X.stack s1 Z ⟨us,[]⟩ us vs Q (EX J) d Y.B4 U r q) fun r s' R=>?_)
 cases r with
 | error e=>exact c pins J Z s1 e s' Y R
 |ok i=>
  cases i with
  | ret u=>exact Y.after R
  | next=>exact False.elim R
  | brk=>exact False.elim R
  | cont=>exact False.elim R
end
end L2
namespace RS
open PySem PySem.Spec PyProof.Rows L2
abbrev CO(K:W.Frag)(x:Str)(C:Addr)(od:Option Addr)(H:Hp):Prop:=Cls K (RL.baseOf x) C/\kz H (RL.jB x) od
abbrev spX(K:W.Frag)(cl:RL.Cl)(f:Nat):Sp:=fun vs H _ E=>∃ ds x,ae nP K H ds vs/\RL.clX cl f ds=some x/\∀ C od H',CO K x C od H'->aw H H'->E (.ref C) od H'
abbrev tXE(K:W.Frag)(cl:RL.Cl)(EX:L2.St->XK)(e:RL.E):TE:=fun J H _=>∃ I x,RV0 K I J H/\RL.evX cl I e=some x/\∀ C od O,CO K x C od O->aw H O->EX J (.ref C) od O
abbrev tXA(K:W.Frag)(cl:RL.Cl)(EX:L2.St->XK)(es:RL.Es):TA:=fun J H _=>∃ I x,RV0 K I J H/\RL.uH cl I es=some x/\∀ C od O,CO K x C od O->aw H O->EX J (.ref C) od O
abbrev RE(X:Cx)(EX:L2.St->XK)(cl:RL.Cl)(e:Expr)(e':RL.E):Prop:=PE X e (tXE X.K cl EX e')
abbrev RA(X:Cx)(EX:L2.St->XK)(cl:RL.Cl)(es:List Expr)(I:RL.Es):Prop:=PA X es (tXA X.K cl EX I)
abbrev tXS(K:W.Frag)(M:List Nat)(EX:L2.St->XK)(r:RL.St->Option (Str × RL.St)):TS:=fun _ J H=>∃ R x I,RVm K M R J H/\r R=some (x,I)/\∀ O U C od,CO K x C od U->RVm K M I O U->Fr' M J H O U->EX O (.ref C) od U
abbrev RZ(X:Cx)(EX:L2.St->XK)(cl:RL.Cl)(M:List Nat)(st:Stmt)(s:RL.S):Prop:=PS X st (tXS X.K M EX (RL.qS cl M s))
abbrev RZs(X:Cx)(EX:L2.St->XK)(cl:RL.Cl)(M:List Nat)(st:List Stmt)(s:RL.Ss):Prop:=PSs X st (tXS X.K M EX (RL.bY cl M s))
section
variable{st:Stmt}
def bB(h:∀ O,RL.evX cl O e'=none):RE X EX cl e e':=fun pins s J H Q I ⟨O,x,_,z,_⟩=>by
 rw[h]at z;cases z
def gR(h:∀ O,RL.qS cl M s' O=none):RZ X EX cl M st s':=fun pins s J H Q I ⟨O,x,_,_,z,_⟩=>by
 rw[h]at z;cases z
def JI:RA X EX cl es .nil:=fun R pins s J H Q I ⟨O,x,_,z,_⟩=>by
 cases z
def DM(c:SE X cl e e')(b:RE X EX cl e e')(a:RA X EX cl es es')(Z:starEach (e::es) X.env=(false,eval e X.env)::starEach es X.env):RA X EX cl (e::es) (.cons e' es'):=by
 intro R pins s J H Q I h;obtain⟨O,x,U,z,k⟩:=h;rw[RL.uH]at z
 cases hev:RL.ev cl O e' with
 |some d=>
  rw[hev]at z;exact bz c a Z R pins s J H Q I ⟨O,d,U,hev,fun v g Y=>#[O,x,U.same Y.same,z,fun C od H2 f sm=>k C od H2 f (Y.same.trans sm)]⟩
 |none=>
  rw[hev]at z;exact bz b a Z R pins s J H Q I ⟨O,x,U,z,k⟩
def Fg(F:eU X.prog X.w X.K X.mg X.base (CXE X.prog X.w) k fa fd ps (spX X.K cl f))(a:cH k X.A)(hg:Gl X x)
 (hm:X.mg x=some (.ref fa))(hk:W.keepIn X.K (.ref fa)=true)(hb:Binds X.K fd ps [])(Z:∀ pins J H s e s',Inv X pins J H s->CXE X.prog X.w X.stack H s (EX J) e s'->X.xe e s')(c:SEs X cl (e::es) es')(ha:RA X EX cl (e::es) es')(U:(x == ("__debug__" : Str))=false)(hn:noStar e=true)(R:es.all noStar=true) :
  RE X EX cl (.Call (.Name x p) (e::es) [] pos) (.call f es'):=by
 lk;obtain⟨O,y,Y,z,k⟩:=h;rw[RL.evX]at z
 cases hev:RL.evs cl O es' with
 |some ds=>
  rw[hev]at z;exact tJ F a hg hm hk hb Z c U (ay es hn) (d5 R) pins s J H Q I ⟨O,ds,Y,hev,fun vs g s1 b=>#[ds,y,b,z,fun C od H2 d sm=>k C od H2 d (s1.trans sm)]⟩
 |none=>
  rw[hev]at z;exact tJ F a hg hm hk hb Z ha U (ay es hn) (d5 R) pins s J H Q I ⟨O,y,Y,z,k⟩
def sk{s':RL.S}{g:Ends->L2.St->VK}(h:PS X st (fun D J H=>tXE X.K cl EX e' J H (g D J)))(U:∀ I,RL.qS cl M s' I=(RL.evX cl I e').map fun x=>(x,I)):RZ X EX cl M st s':=by
 refine PS.weak h fun D J H h=>?_;obtain⟨I,x,O,R,z,k⟩:=h;rw[U]at z;obtain⟨y,z1,z2⟩:=map_some z;cases z2;exact#[I,x,R.rv0,z1,fun C od Z Y sm=>k J Z C od Y (R.same sm) (Fr'.same sm)]
def Et:RZs X EX cl M sts .nil:=fun pins s J H Q I ⟨O,x,_,_,z,_⟩=>by
 cases z
def ED:RZs X EX cl M sts (.opn j e' r):=fun pins s J H Q I ⟨O,x,_,_,z,_⟩=>by
 cases z
def Ef:RZs X EX cl M sts (.act i g tbl a es):=fun pins s J H Q I ⟨O,x,_,_,z,_⟩=>by
 cases z
def C3(m:SS X cl M st s)(l:RZ X EX cl M st s)(g:RZs X EX cl M sts r):RZs X EX cl M (st::sts) (.cons s r):=by
 intro pins e J H D I h;obtain⟨R,x,O,f,z,k⟩:=h;rw[RL.bY]at z
 cases hev:RL.evS cl M s R with
 |some p=>
  obtain⟨o,U⟩:=p;rw[hev]at z
  cases o with
  | nx=>exact nL m g pins e J H D I ⟨R,.nx,U,f,hev,fun i H2 a c=>#[U,x,O,a,z,fun Y n C od j Z b=>k Y n C od j Z (c.trans b)]⟩
  | rt d=>cases z
 |none=>
  rw[hev]at z;exact nL l g pins e J H D I ⟨R,x,O,f,z,k⟩
def JR(Y:ST X cl c c')(ha:RZs X EX cl M a a')(hb:RZs X EX cl M b b'):RZ X EX cl M (.If c a b pos) (.ife c' a' b'):=by
 refine PS.weak (y8 Y ha hb) fun D J H h=>?_;obtain⟨O,x,I,U,z,k⟩:=h;obtain⟨t,z1,z2⟩:=bind_some z;refine#[O,t,U.rv0,z1,fun d sm=>?_];have Z:=fun R H2 C od Y r f=>k R H2 C od Y r ((Fr'.same sm).trans f)
 cases t with
 | true=>exact fW ⟨O,x,I,U.same sm,z2,Z⟩
 | false=>exact gC ⟨O,x,I,U.same sm,z2,Z⟩
end
section
def xZ(h:RL.j4 f fx tg (d::ds) J=some p):d.imm=true/\∃ I,RL.bu tg d J=some I /\
  ((∃ O,f I=some (.nx,O)/\RL.j4 f fx tg ds O=some p)\/fx I=some p):=by
 rw[RL.j4]at h;by_cases R:d.imm=true
 case neg=>rw[if_neg R]at h;cases h
 rw[if_pos R]at h;obtain⟨I,U,h⟩:=bind_some h;refine#[R,I,U,?_]
 cases hf:f I with
 | none=>rw[hf]at h;exact .inr h
 |some q=>
  obtain⟨o,O⟩:=q;rw[hf]at h
  cases o with
  | nx=>exact .inl #[O,rfl,h]
  | rt d=>cases h
def FT(hp:PassesOwn (model X.prog X.w) X.A X.env X.xe)(G:X.calm=true)(hi:SI X cl tgE iter it)(hg:PG X tgE (gT X.K tg))(hb:SSs X cl M body b)(L:RZs X EX cl M body b)(hs:∀ x,foldedSetIterable iter X.env x=pure x)(N:RL.sV M it=true)(hM:∀ i∈tg,M.contains i=false) :
  RZ X EX cl M (.For tgE iter body [] pos) (.forr tg it b):=by
 have both:PSs X body (fun D J H=>tS X.K M (RL.af cl M b) D J H\/tXS X.K M EX (RL.bY cl M b) D J H):=fun pins s J H D I h=>h.elim (hb pins s J H D I) (L pins s J H D I);refine PS.weak (zH hp G hi hg both hs) fun D J H h=>?_;obtain⟨g,x,U,u,e,k⟩:=h;obtain⟨ds,e1,e2⟩:=bind_some e;refine#[g,ds,u.rv0,e1,fun QK S s1 E=>?_]
 have ok:=E.2 M (bD M J) N u.xU fun j dj vj v P d=>by
  obtain⟨v',B,h4⟩:=u.val j dj P;rw[d]at B;cases B;rw[if_neg (by rw[v];decide)]at h4;exact h4
 refine#[fun i m Y H2=>∃ O,m=ds.length-i/\i<=ds.length/\RVm X.K M O Y H2/\Fr' M J S Y H2/\RL.j4 (RL.af cl M b) (RL.bY cl M b) tg (ds.drop i) O=some (x,U),#[_,g,rfl,zero_le _,u.same s1,Fr'.same (aw.refl _),e2],?_];rintro i m Y H2 ⟨O,rfl,hi2,F,Z,hl⟩;have off:=fun b o n e=>(Z.1 b o e n).1;by_cases c:i<ds.length
 ·refine .inr #[ok.go H2 i off c,fun R H'=>∃ m',m'<ds.length-i/\∃ O,m'=ds.length-(i+1)/\i+1<=ds.length/\RVm X.K M O R H'/\Fr' M J S R H'/\RL.j4 (RL.af cl M b) (RL.bY cl M b) tg (ds.drop (i+1)) O=some (x,U),fun R H' z=>z,fun y H3 yl=>?_];rw[List.drop_eq_getElem_cons c]at hl;obtain⟨r,p,P,d⟩:=xZ hl;obtain⟨T,rp⟩:=ok.yld H2 i ds[i] y H3 off (by simp[]) yl;obtain⟨dv,vs,V,q2,q3,q4,q5⟩:=xo P (rp (.inl r));refine q5 _ _ ?_;obtain⟨q,Q⟩:=(F.same T).bI hM q2 (q4 r) q3
  have t:Fr' M J S (dJ tg vs Y) H3:=#[fun b o e n=>#[T _ _ (Z.1 b o e n).1,by rw[Q];exact(Z.1 b o e n).2],fun j v=>(oi hM v).trans (Z.2 j v)]
  rcases d with⟨l,d,B⟩ | d
  ·exact .inl #[p,.nx,l,by rw[V];exact q,d,fun R H' a f=>#[_,by lia,l,rfl,c,a,t.trans f,B]]
  ·exact .inr #[p,x,U,by rw[V];exact q,d,fun R H' C od G a f=>k R H' C od G a (((Fr'.same s1).trans t).trans f)]
 ·have e:i=ds.length:=by lia
  subst e;rw[List.drop_length,RL.j4]at hl;cases hl
end
end RS
namespace L2
open PySem PySem.Spec PyProof.Rows
open RS (VE)
def DS{K:W.Frag}(X:K.In h)(q:W.excIn K C VE "ValueError.__new__" = true):∃ O N nm R bs hdct sn sub ab col dd k0 k1 k2 k3 k5 Y,h.get? C=some (excClassObj nm R C N bs O hdct sn sub ab col dd k0 k1 k2 k3 k5 "ValueError.__new__")/\h.Ns N Y/\Y "__init__" = none/\OwnTail h VE O:=by
 unfold W.excIn at q;split at q
 ·rename_i dd e sl c;split at q
  ·rename_i f O k0 k1 k2 k3 n k5 hm b;simp only[and_eq_true,beq_iff_eq,not_eq_true']at q;obtain⟨⟨⟨⟨⟨rfl,rfl⟩,I⟩,a⟩,hok⟩,U⟩:=q;obtain⟨nm,bs,Z,ns,R,hd,sn,sub,ab,col,d⟩:=e;subst hm I;obtain⟨l⟩:=sl;subst b;exact#[O,ns,nm,R,bs,hd,sn,sub,ab,col,dd,k0,k1,k2,k3,k5,_,X _ _ c,.of_isNs (W.isNs_of_in X hok),W.nsMap_none_of_in X hok U,W.tail_of_in X a]
  ·cases q
 ·cases q
def BM{K:W.Frag}(X:K.In h)(q:RS.yo K C=true):∃ U N nm Z bs R Y sub g I f e d c b a,h.get? C=some (excClassObj nm Z C N bs U R Y sub g I f e d c b a "ValueError.__new__")/\OwnTail h VE U:=by
 replace q:=(Bool.and_eq_true_iff.mp q).1
 unfold RS.oW at q;split at q
 ·rename_i f p sl m;split at q
  ·rename_i r U e d c b n a hm k;simp only[and_eq_true,beq_iff_eq,not_eq_true']at q;obtain⟨⟨⟨rfl,rfl⟩,O⟩,j⟩:=q;obtain⟨nm,bs,i,ns,Z,hd,Y,sub,g,I,o⟩:=p;subst hm O;obtain⟨l⟩:=sl;subst k;exact#[U,ns,nm,Z,bs,hd,Y,sub,g,I,f,e,d,c,b,a,X _ _ m,W.tail_of_in X j]
  ·cases q
 ·cases q
section
variable{EX:St->XK}
def AV(d:X.A.handled=none)(hg:Gl X x)(hm:X.mg x=some (.ref C))(Z:(x == ("__debug__" : Str))=false)(q:W.excIn X.K C VE "ValueError.__new__" = true)(hk:∀ pins J H s h' e vs,Inv X pins J H s->Heap.MadeExcOf s.heap h' e (.ref C) vs->EX J (.ref C) none H->X.xe (.ref e) { s with heap:=h' })
 (ha:PA X [arg] (p8 ta qv))(b:starEach [arg] X.env=[(false,eval arg X.env)]):PS X (.Raise (some (.Call (.Name x np) [arg] [] cpos)) none pos) (fun _ J H=>ta J H fun v R=>[v].length<=sizeLine/\EX J (.ref C) none R):=by
 k_all;obtain⟨j,N,nm,c,bs,hdct,sn,sub,ab,col,dd,k0,k1,k2,k3,k5,i,g,f,Y,T⟩:=DS I.ok.mod.kin q;refine wpAny_Raise_call_subT (C:=C) (nm:=nm) (q:=c) (N:=N) (bs:=bs) (hdct:=hdct) (sn:=sn) (sub:=sub) (ab:=ab) (col:=col) (dd:=dd) (k0:=k0) (k1:=k1) (k2:=k2) (k3:=k3) (k5:=k5) PySem.F.excBase_ValueError (T.hasType PySem.F.excBase_ValueError.hasBase) d (by rw[b];rfl) Y (iG I hg hm ⟨rfl,?_⟩ Z);have O:=ha cpos pins s J H (fun vs R=>vs.length<=sizeLine/\EX J (.ref C) none R) I h;rw[b]at O ⊢;refine Calls.evalArgs_plain (thn O fun us s1 ⟨vs,R,U,r,a⟩=>?_);exact#[rfl,by rw[<-r.length];exact a.1,U.bk _ _ g,f.keeps U.bk,T.keeps U.bk,fun h' e m=>hk pins J R s1 h' e us U m a.2]
abbrev PJ(X:Cx)(vs:List Expr)(t:TA):Prop:=∀ (pins:List (Addr × Obj)) (s:Shared) (J:St) (H:Hp) (Q:Hp->Prop) (out:Str),Inv X pins J H s->t J H (fun _ I=>Q I)->out.length+3000*vs.length<=sizeLine->wpAny (model X.prog X.w) X.A (joinParts out (evalEach vs X.env)) (EP X pins J fun v I=>(∃ x,v=.str x)/\Q I) X.xe s
def Jt:PJ X [] qv:=fun pins s J H Q out I h z=>joinParts_nil ⟨.str out,H,I.tok _,⟨_,rfl⟩,⟨_,rfl⟩,h⟩ (by simpa using z)
def EN(h:PJ X vs t)(R:y.length<=3000):PJ X (.Constant (.str y) k p::vs) t:=fun pins s J H Q out I q z=>by
 have O:(out++y).length+3000*vs.length<=sizeLine:=by
  rw[strLen_append];rw[length_cons]at z;omega
 refine joinParts_cons (Calls.Constant_str ⟨by omega,?_⟩);exact h pins _ J H Q (out++y) (I.tok _) q O
abbrev Af(te:TE)(t:TA):TA:=fun J H Q=>te J H fun v I=>∃ i,v=.int i/\i.natAbs<2 ^ 1900/\t J I Q
def JD(a:PE X e te)(h:PJ X vs t):PJ X (.FormattedValue e (-1) none p::vs) (Af te t):=fun pins s J H Q out I q z=>by
 refine joinParts_cons (FormattedValue_plain (thn (a pins s J H _ I q) fun u s1 ⟨v,c,b,U,i,Z,hi,Y⟩=>?_));subst Z;obtain⟨d,rfl⟩:=U
 have hl:i.natAbs.log2<1920:=by
  by_cases R:i.natAbs=0
  ·rw[R];decide
  ·exact lt_trans ((Nat.log2_lt R).mpr hi) ∅
 have f:(Str.ofString (toString i)).length<=1921:=by
  rw[PySem.ofString_length];exact int_text_length_le ∅ hl
 have O:(out++Str.ofString (toString i)).length+3000*vs.length<=sizeLine:=by
  rw[strLen_append];rw[length_cons]at z;omega
 refine formatField_int_small hl ⟨?_,?_⟩
 ·exact Qn (Nat.le_add_right _ _) O
 ·exact h pins _ J c Q _ ((b.tok _).tok _) Y O
def yO(h:PJ X (v::v2::vs) t)(hn:vs.length<=100):PE X (.JoinedStr (v::v2::vs) pos) (fun J H Q=>t J H fun _ O=>∀ x,Q (.str x) O):=by
 intro pins s J H Q I q;refine JoinedStr_many (thn (h pins s J H (fun O=>∀ x,Q (.str x) O) Str.empty I q ?_) fun u s1 ⟨v,O,Z,R,⟨x,Y⟩,U⟩=>#[v,O,Z,R,by rw[Y];exact U x]);rw[length_cons,length_cons,sizeLine_eq];have:Str.empty.length=0:=rfl;omega
end
open PySem.Builtin PySem.Builtin.ObjectAttr PySem.W
open Sem (wp)
open Sem (wp)
open RS (VE)
end L2
set_option exponentiation.threshold 2000
namespace L2
open PySem PySem.Spec PyProof.Rows
open RS (VE)
end L2
set_option exponentiation.threshold 2000
namespace L2
open PySem PySem.Spec PyProof.Rows
open RS (VE kz)
structure By(X:Cx)(H:Hp)(s:Shared)(C:Addr)(f:Option Nat)(e:Addr)(od:Option Addr)(H':Hp)(s':Shared):Prop where
 os:s'.os=s.os
 bare:AllBare s'.gens
 un:Un (frs X.stack) [] H H' s.heap s'.heap
 hok:HOk X.prog X.w H' s'.heap
 fld:kz H' f od
 ex:Exc (fR s.heap H') e C od false s'.heap
 sm:aw H H'
 ob:∃ t,s'.heap.get? e=some { cls:=.ref C,dict:=od,data:=.fields (List.toArray [.ref t,.none,.none,.none,.bool false,.none]) }
def Inv.newX(I:Inv X pins J H s)(O:X.ex=[])(nx:By X H s C f e od H' s'):Inv X pins J H' s'/\Exc (fR X.s₀.heap H') e C od false s'.heap :=
 ⟨I.so nx.os nx.un nx.hok nx.bare (fun b z=>absurd z (by simp)),nx.ex.mono fun b hb=>hb.imp (fun⟨o,q⟩=>I.old O q) fun z=>z⟩
open RS (VE)
end L2
namespace RS
open PySem PySem.Spec PyProof.Rows L2
end RS
namespace L2
open PySem PySem.Spec PyProof.Rows
section
variable{prog:Program}{w:World}{A:Around}{E:Value->Shared->Prop}{s:Shared}
def vA{R:List Value->Shared->Prop}{r:Addr}{a b c:Int}{t u v:Tok}{n:Nat}(p:A.handled=none)(Z:IsRange s.heap r a b c t u v)(m:Builtin.Range.small a b c=true)(hn:Builtin.Range.rangeSize a b c=n)(hl:n<=2 ^ 24)
 (k:∀ g O I,(∀ q o,s.heap.get? q=some o->g.get? q=some o)->ItemsOf (fun i x=>∃ t,x=.int (a+i*c) t) I n->R I.toList { s with heap:=g,toks:=O }):wpAny (model prog w) A (collect (.ref r)) R E s:=by
 unfold collect;refine Qa (wpAny_runValue (codeAny_builtin PySem.F.entry_proto_collect ?_));rw[Around.under_plainId PySem.F.plain_proto_collect _];refine Qa (wpAny_newObj_type ?_);refine Qd ⟨plainId_quiet PySem.F.plain_list_iadd _,codeAny_builtin PySem.F.entry_list_iadd ?_⟩;rw[Around.under_plainId PySem.F.plain_list_iadd _];have y:(s.heap.push { cls:=.type "list",data:=.seq ([]:List Value).toArray }).get? s.heap.objs.size=some { cls:=.type "list",data:=.seq (List.toArray []) 0 }:=Qc _ rfl;show wpAny _ A.in1 (Builtin.List.listExtendWith (.ref s.heap.objs.size) (.ref r) (.ref s.heap.objs.size)) _ _ _
 have U:∀ s',(∃ g O I c',s'={ s with heap:=g,toks:=O }/\(∀ q o,s.heap.get? q=some o->g.get? q=some o)/\g.get? s.heap.objs.size=some { cls:=.type "list",dict:=none,data:=.seq I c',slots:=(List.toArray []) }/\ItemsOf (fun i x=>∃ t,x=.int (a+i*c) t) I n) ->
   wpAny (model prog w) A (match Value.ref s.heap.objs.size with
   | Value.ref a=>do
    match(<- load a).data with
     | Data.seq xs _=>pure xs.toList
     | _=>unsupported "internal:collect"
   | _=>unsupported "internal:collect") R E s':=by
  rintro s' ⟨g,O,I,c',rfl,l,j,d⟩;exact Qa (wpAny_load j (Qd (k g O I l d)))
 refine wpAny_mono (wpAny_extend_range (A:=A) (R:=fun r s'=>r=.ok (.ret (.ref s.heap.objs.size))/\∃ g O I c',s'={ s with heap:=g,toks:=O }/\(∀ q o,s.heap.get? q=some o->g.get? q=some o)/\g.get? s.heap.objs.size=some { cls:=.type "list",dict:=none,data:=.seq I c',slots:=(List.toArray []) }/\ItemsOf (fun i x=>∃ t,x=.int (a+i*c) t) I n)
  (s:={ s with heap:=s.heap.push { cls:=.type "list",data:=.seq ([]:List Value).toArray } }) p (J2 _ Z) m hn hl s.heap.objs.size _ 0 y fun g O I c' l j d=>#[rfl,g,O,I,c',rfl,fun q o e=>l q o (Ql (Qf e)) (J2 _ e),j,d]) (fun f s' h=>?_) (fun e s' h=>?_)
 ·cases f with
  |done f=>
   obtain⟨e,h⟩:=h;cases e;exact U s' h
  | again c'=>exact⟨h.1,codeAny_mono h.2 fun r Y Z=>by obtain⟨rfl,h⟩:=Z;exact U Y h⟩
 ·exact absurd h.1 (by simp)
def Ab(r:Addr){a b c:Int}{t u v:Tok}{n:Nat}(e:Builtin.Range.small a b c=true)(hn:Builtin.Range.rangeSize a b c=n)(hl:n<=2 ^ 24) :
  Meets (Builtin.«tuple.__new__» ⟨[.type "tuple",.ref r],[]⟩) (fun A R s=>A.handled=none/\IsRange s.heap r a b c t u v /\
   ∀ (g:Heap) (Y:Nat) (I:Array Value),(∀ q o,s.heap.get? q=some o->g.get? q=some o)->ItemsOf (fun i x=>∃ t,x=.int (a+i*c) t) I n->R (.ok (.ret (.ref g.objs.size))) { s with heap:=g.push { cls:=.type "tuple",data:=.seq I },toks:=Y }) :=
 .of_wp fun prog w A R s h=>by
  obtain⟨f,U,h⟩:=h;have m:=sub_tuple_self;have l:=init_tuple_lookup;have k:=madeHere_tuple
  have hT:s.TypeIs (.ref r) "range" := #[_,U,rfl]
  obtain⟨p,g,d,Y,os⟩:=s
  wp_walk using wpAny_loadPart' U,wpAny_typeOf hT,vA (A:=A.in1) f U e hn hl
  intro j O I hk Z
  have es:I.size<=sizeLine:=by rw[Z.1];exact Qn hl ∅
  show wpAny _ _ (Builtin.Tuple.tupleExact I.toList.toArray >>= fun v=>ret v) _ _ _;exact Qa (wpAny_newObj_type (Qd ⟨_,rfl,h j O I hk Z⟩) es)
end
end L2
namespace RS
open PySem PySem.Spec PyProof.Rows L2
def uF{X:Cx}(f:X.calm=true):bL X (.type "tuple") (fun xs H Q=>∃ p a b c,xs=[.ref p]/\H p=some (nG p a b c)/\Builtin.Range.small a b c=true/\RL.bJ c a b<=RL.most /\
  ∀ l,H l=none->Q (.ref l) (upd H l (.tup (cL a c (RL.bJ c a b))))):=by
 fin2;obtain⟨p,a,b,c,rfl,d,Z,hn,q⟩:=h
 cases r with
 |cons r Y=>
  cases Y;cases r;obtain⟨⟨t,u,v,i⟩,_,_⟩:=I.hok p _ d;refine callType_new PySem.F.called_tuple ∅ (PySem.F.typeCall_tuple_1 _) (PySem.F.newCall_tuple_1 _) (fun obj=>PySem.F.args_object_init_2 obj _) PySem.F.entry_tuple_new (Ab p Z (jF a b c).symm (Qn hn ∅)) ⟨I.ok.hd.1 f,i,fun g R O hk j=>#[#[_,Qc _ rfl,rfl],?_]⟩;have U:=I.kept (t':=R) hk
  have k:Inv X pins J (upd H g.objs.size (.tup (cL a c (RL.bJ c a b)))) { s with heap:=g.push { cls:=.type "tuple",data:=.seq O },toks:=R } :=
   U.laid (fun b o e=>J2 _ e) (Qb _) (show bC X.prog X.w _ _ _ (.tup (cL a c (RL.bJ c a b)))from⟨by simp only[cL,length_map,length_range];exact Qn hn cD,O.toList,wu j,by rw[Array.toArray_toList];exact IsTup.new _ _⟩)
  exact#[.ref g.objs.size,_,k,rfl,q _ (U.hok.fresh (Qb _))]
def Ej{X:Cx}{cl:RL.Cl}{a:Expr}{f:RL.E}{p Y n I:Pos}(q:X.calm=true)(c:Gl X "tuple")(Z:X.mg "tuple" = none)(hg:Gl X "range")(hm:X.mg "range" = none)(ha:SE X cl a f)(hn:noStar a=true):SE X cl (.Call (.Name "tuple" n) [.Call (.Name "range" p) [a] [] Y] [] I) (.rngT f):=by
 refine PE.weak (cA (uF q) c Z (by decide +kernel) (bz (cA iS hg hm boot_range (bP ha da hn) ∅ ∅ (ay [] hn) rfl) cT rfl) ∅ ∅ rfl rfl) fun J H Q h=>?_;obtain⟨U,d,g,e,k⟩:=h;obtain⟨x,r,e⟩:=bind_some (show(RL.ev cl U f).bind _=some d from e);obtain⟨ds,R,t⟩:=map_some e;subst t;obtain⟨i,j,s,rfl,hb,b,rfl⟩:=l8 R;cases s
 have O:-(2 ^ 60)<=j/\j<2 ^ 60:=by
  simp only[RL.cb]at R;split at R
  ·lia
  ·cases R
 refine one g r fun v u s1 m=>#[0,j,1,.inl #[by rw[ag m],rfl,rfl],fun p o=>#[p,0,j,1,rfl,aV,j7 ∅ ∅ O.1 O.2 ∅ ∅,by rw[eM];exact b,fun l hl=>k _ _ ?_]]
 rw[k8,<-eM];exact gF (s1.trans (aw.bU o)) hl (lO _ _ _) fun _=>rfl
end RS
namespace L2
open PySem PySem.Spec PyProof.Rows
end L2
namespace RS
open PySem PySem.Spec PyProof.Rows L2
end RS
namespace L2
open PySem PySem.Spec PyProof.Rows
end L2
namespace RS
open PySem PySem.Spec PyProof.Rows L2
variable{X:Cx}
open Sem (wp)
end RS
namespace L2
open PySem PySem.Spec PyProof.Rows
end L2
namespace RS
open PySem PySem.Spec PyProof.Rows L2
end RS
namespace L2
open PySem PySem.Spec PyProof.Rows
end L2
namespace RS
open PySem PySem.Spec PyProof.Rows L2
end RS
namespace L2
open PySem PySem.Spec PyProof.Rows
end L2
namespace RS
open PySem PySem.Spec PyProof.Rows L2
end RS
namespace L2
open PySem PySem.Spec PyProof.Rows
section
variable{X:Cx}
abbrev GDc(X:Cx)(d:Addr)(kvs:List (Str × Addr)):Prop:=(d == sysModules)=false/\∀ h:Heap,X.K.In h->h.DictOf (bV X.prog X.w) d (kvs.map fun q=>((Sum.inr q.1:Key),Value.ref q.2))
end
end L2
namespace RS
open PySem PySem.Spec PyProof.Rows L2
end RS
namespace L2
open PySem PySem.Spec PyProof.Rows
end L2
namespace RS
open PySem PySem.Spec PyProof.Rows L2
def nos{α:Type}{P:Prop}{x:α}(h:(none:Option α)=some x):P:=by cases h
def aj{α:Type}{o:Option α}{f:α->Bool}(h:o.any f=true):∃ x,o=some x/\f x=true:=by
 cases o with
 | none=>cases h
 | some x=>exact#[x,rfl,h]
def aC{a b:Bool}(h:(a&&b)=true):a=true/\b=true:=by rw[and_eq_true]at h;exact h
abbrev vw{α:Type}{n:Nat}(k:Nat)(f:n=k->α):Option α:=if z:n=k then some (f z)else none
def bZ{α:Type}{n k:Nat}{f:n=k->α}{x:α}(h:vw k f=some x):∃ (_:n=k) (z:n=k),f z=x:=by
 unfold vw at h;split at h
 ·rename_i z;cases h;exact#[z,z,rfl]
 ·cases h
abbrev eN(e:Expr):Option Str:=vw 23 fun z=>Expr.Name.elim e z fun x _=>x
def cV{e:Expr}{x:Str}(h:eN e=some x):∃ p,e=.Name x p:=by
 k_go
 revert z
 exact Expr.Name.elim e y fun _ _ _ h=>by cases h;exact#[_,rfl]
abbrev qE(e:Expr):Option Const:=vw 19 fun z=>Expr.Constant.elim e z fun k _ _=>k
def km{e:Expr}{k:Const}(h:qE e=some k):∃ j p,e=.Constant k j p:=by
 k_go
 revert z
 exact Expr.Constant.elim e y fun _ _ _ _ h=>by cases h;exact#[_,_,rfl]
abbrev Iu(e:Expr):Option (Expr × Operator × Expr):=vw 2 fun z=>Expr.BinOp.elim e z fun l o r _=>(l,o,r)
def DL{e:Expr}{l r:Expr}{o:Operator}(h:Iu e=some (l,o,r)):∃ p,e=.BinOp l o r p:=by
 k_go
 revert z
 exact Expr.BinOp.elim e y fun _ _ _ _ _ h=>by cases h;exact#[_,rfl]
abbrev vUn(e:Expr):Option (UnaryOp × Expr):=vw 3 fun z=>Expr.UnaryOp.elim e z fun o x _=>(o,x)
def uy{e x:Expr}{o:UnaryOp}(h:vUn e=some (o,x)):∃ p,e=.UnaryOp o x p:=by
 k_go
 revert z
 exact Expr.UnaryOp.elim e y fun _ _ _ _ h=>by cases h;exact#[_,rfl]
abbrev oj(e:Expr):Option (Expr × List CmpOp × List Expr):=vw 15 fun z=>Expr.Compare.elim e z fun l o r _=>(l,o,r)
def iK{e l:Expr}{r:List Expr}{o:List CmpOp}(h:oj e=some (l,o,r)):∃ p,e=.Compare l o r p:=by
 k_go
 revert z
 exact Expr.Compare.elim e y fun _ _ _ _ _ h=>by cases h;exact#[_,rfl]
abbrev vBool(e:Expr):Option (BoolOp × List Expr × Pos):=vw 0 fun z=>Expr.BoolOp.elim e z fun o es p=>(o,es,p)
def kF{e:Expr}{es:List Expr}{o:BoolOp}{p:Pos}(h:vBool e=some (o,es,p)):e=.BoolOp o es p:=by
 k_go
 revert z
 exact Expr.BoolOp.elim e y fun _ _ _ _ h=>by cases h;exact rfl
abbrev HM(e:Expr):Option (Expr × Expr × Expr):=vw 5 fun z=>Expr.IfExp.elim e z fun c a b _=>(c,a,b)
def E6{e a b c:Expr}(h:HM e=some (c,a,b)):∃ p,e=.IfExp c a b p:=by
 k_go
 revert z
 exact Expr.IfExp.elim e y fun _ _ _ _ _ h=>by cases h;exact#[_,rfl]
abbrev mm(e:Expr):Option (List Expr):=vw 25 fun z=>Expr.Tuple.elim e z fun es _ _=>es
def eJ{e:Expr}{es:List Expr}(h:mm e=some es):∃ k p,e=.Tuple es k p:=by
 k_go
 revert z
 exact Expr.Tuple.elim e y fun _ _ _ _ h=>by cases h;exact#[_,_,rfl]
abbrev JA(e:Expr):Option (List Expr):=vw 24 fun z=>Expr.List.elim e z fun es _=>es
def Fp{e:Expr}{es:List Expr}(h:JA e=some es):∃ p,e=.List es p:=by
 k_go
 revert z
 exact Expr.List.elim e y fun _ _ _ h=>by cases h;exact#[_,rfl]
abbrev uq(e:Expr):Option (Expr × Expr):=vw 21 fun z=>Expr.Subscript.elim e z fun a b _=>(a,b)
def kh{e a b:Expr}(h:uq e=some (a,b)):∃ p,e=.Subscript a b p:=by
 k_go
 revert z
 exact Expr.Subscript.elim e y fun _ _ _ _ h=>by cases h;exact#[_,rfl]
abbrev vSl(e:Expr):Option (Option Expr × Option Expr × Option Expr):=vw 26 fun z=>Expr.Slice.elim e z fun a b c _=>(a,b,c)
def Jy{e:Expr}{a b c:Option Expr}(h:vSl e=some (a,b,c)):∃ p,e=.Slice a b c p:=by
 k_go
 revert z
 exact Expr.Slice.elim e y fun _ _ _ _ _ h=>by cases h;exact#[_,rfl]
abbrev kP(e:Expr):Option (Expr × List Expr × List Keyword × Pos):=vw 16 fun z=>Expr.Call.elim e z fun f I ks p=>(f,I,ks,p)
def fE{e f:Expr}{I:List Expr}{ks:List Keyword}{p:Pos}(h:kP e=some (f,I,ks,p)):e=.Call f I ks p:=by
 k_go
 revert z
 exact Expr.Call.elim e y fun _ _ _ _ _ h=>by cases h;exact rfl
abbrev yp(e:Expr):Option (Expr × Str × Pos):=vw 20 fun z=>Expr.Attribute.elim e z fun o x p=>(o,x,p)
def uI{e o:Expr}{x:Str}{p:Pos}(h:yp e=some (o,x,p)):e=.Attribute o x p:=by
 k_go
 revert z
 exact Expr.Attribute.elim e y fun _ _ _ _ h=>by cases h;exact rfl
abbrev xy(e:Expr):Option (Expr × List Comprehension × Scope × Pos):=vw 8 fun z=>Expr.ListComp.elim e z fun e gs sc p=>(e,gs,sc,p)
def u5{e x:Expr}{gs:List Comprehension}{sc:Scope}{p:Pos}(h:xy e=some (x,gs,sc,p)):e=.ListComp x gs sc p:=by
 k_go
 revert z
 exact Expr.ListComp.elim e y fun _ _ _ _ _ h=>by cases h;exact rfl
abbrev yb(e:Expr):Option (List (Option Expr) × List Expr):=vw 6 fun z=>Expr.Dict.elim e z fun ks vs _=>(ks,vs)
def ui{e:Expr}{ks:List (Option Expr)}{vs:List Expr}(h:yb e=some (ks,vs)):∃ p,e=.Dict ks vs p:=by
 k_go
 revert z
 exact Expr.Dict.elim e y fun _ _ _ _ h=>by cases h;exact#[_,rfl]
abbrev of1{α:Type}(xs:List α)(f:α->Bool):Bool:=match xs with
 | [a]=>f a
 | _=>false
abbrev of2{α:Type}(xs:List α)(f:α->α->Bool):Bool:=match xs with
 | [a,b]=>f a b
 | _=>false
abbrev of3{α:Type}(xs:List α)(f:α->α->α->Bool):Bool:=match xs with
 | [a,b,c]=>f a b c
 | _=>false
def aK{α:Type}:∀ {xs:List α} {f:α->Bool},of1 xs f=true->∃ a,xs=[a]/\f a=true
 | [a],_,h=>#[a,rfl,h]
def eC{α:Type}:∀ {xs:List α} {f:α->α->Bool},of2 xs f=true->∃ a b,xs=[a,b]/\f a b=true
 | [a,b],_,h=>#[a,b,rfl,h]
def yS{α:Type}:∀ {xs:List α} {f:α->α->α->Bool},of3 xs f=true->∃ a b c,xs=[a,b,c]/\f a b c=true
 | [a,b,c],_,h=>#[a,b,c,rfl,h]
abbrev ofM{α:Type}(xs:List α)(f:α->α->List α->Bool):Bool:=match xs with
 | a::b::r=>f a b r
 | _=>false
def pK{α:Type}:∀ {xs:List α} {f:α->α->List α->Bool},ofM xs f=true->∃ a b r,xs=a::b::r/\f a b r=true
 | a::b::r,_,h=>#[a,b,r,rfl,h]
abbrev nQ(e:Stmt):Option (List Expr × Expr):=vw 5 fun z=>Stmt.Assign.elim e z fun I e _=>(I,e)
def eP{st:Stmt}{I:List Expr}{e:Expr}(h:nQ st=some (I,e)):∃ p,st=.Assign I e p:=by
 k_go
 revert z
 exact Stmt.Assign.elim st y fun _ _ _ _ h=>by cases h;exact#[_,rfl]
abbrev FW(e:Stmt):Option (Expr × Operator × Expr):=vw 7 fun z=>Stmt.AugAssign.elim e z fun t o e _=>(t,o,e)
def DY{st:Stmt}{t e:Expr}{o:Operator}(h:FW st=some (t,o,e)):∃ p,st=.AugAssign t o e p:=by
 k_go
 revert z
 exact Stmt.AugAssign.elim st y fun _ _ _ _ _ h=>by cases h;exact#[_,rfl]
abbrev xK(e:Stmt):Option Expr:=vw 24 fun z=>Stmt.Expr.elim e z fun e _=>e
def mB{st:Stmt}{e:Expr}(h:xK st=some e):∃ p,st=.Expr e p:=by
 k_go
 revert z
 exact Stmt.Expr.elim st y fun _ _ _ h=>by cases h;exact#[_,rfl]
abbrev wIf(e:Stmt):Option (Expr × List Stmt × List Stmt):=vw 12 fun z=>Stmt.If.elim e z fun c a b _=>(c,a,b)
def sZ{st:Stmt}{c:Expr}{a b:List Stmt}(h:wIf st=some (c,a,b)):∃ p,st=.If c a b p:=by
 k_go
 revert z
 exact Stmt.If.elim st y fun _ _ _ _ _ h=>by cases h;exact#[_,rfl]
abbrev JE(e:Stmt):Option (Expr × Expr × List Stmt × List Stmt):=vw 9 fun z=>Stmt.For.elim e z fun t i b o _=>(t,i,b,o)
def wI{st:Stmt}{t i:Expr}{b o:List Stmt}(h:JE st=some (t,i,b,o)):∃ p,st=.For t i b o p:=by
 k_go
 revert z
 exact Stmt.For.elim st y fun _ _ _ _ _ _ h=>by cases h;exact#[_,rfl]
abbrev Io(e:Stmt):Option (Expr × List Stmt × List Stmt):=vw 11 fun z=>Stmt.While.elim e z fun c b o _=>(c,b,o)
def Eu{st:Stmt}{c:Expr}{b o:List Stmt}(h:Io st=some (c,b,o)):∃ p,st=.While c b o p:=by
 k_go
 revert z
 exact Stmt.While.elim st y fun _ _ _ _ _ h=>by cases h;exact#[_,rfl]
abbrev G1(e:Stmt):Option (Option Expr):=vw 3 fun z=>Stmt.Return.elim e z fun e _=>e
def vM{st:Stmt}{e:Option Expr}(h:G1 st=some e):∃ p,st=.Return e p:=by
 k_go
 revert z
 exact Stmt.Return.elim st y fun _ _ _ h=>by cases h;exact#[_,rfl]
end RS
namespace L2
open PySem PySem.Spec PyProof.Rows
section
variable{os:OsState}
def C4
 (O:h.get? R=some (excClassObj nm q R N bs bm hdct sn sub ab col dd k0 k1 k2 k3 k5 newId))(Y:h.get? e=some oe)(Z:oe.cls=.ref C)(hb:bm.contains (.type "BaseException")=true)(L:W.Looks M h (isSubtype (.ref C) (.ref R)) b)(U:Q b ⟨h,g,d,t,os⟩) :
  wpAny M A (excMatches (.ref e) (.ref R)) Q E ⟨h,g,d,t,os⟩:=by
 have I:(Value.ref R::bm).contains (.type "BaseException")=true:=by rw[contains_cons,hb,Bool.or_true]
 have f:=tc_notTuple;unfold excMatches
 repeat (first | (with_reducible refine wpAny_loadPart_at Y ?_;rw[Z]) | with_reducible refine wpAny_loadPart_at O ?_ | (with_reducible refine wpAny_isSubtype_exc O ?_;rw[I]) | (with_reducible refine L.at ?_) | wp_step)
 cases b<;>(wp_walk;exact U)
end
section
def vV(I:Inv X pins J H s)(QK:X.N.Nodup)(hi:X.N[i]?=some n)(hl:X.env.scope.names.lookup n=some .local)
 (k:∀ s',Inv X pins (J.set i none) H s'->Q () s'):wpAny M A (do bindName X.env n .none;unbindBehindTheSuite X.env n pos) Q E s:=by
 obtain⟨m,hn,f⟩:=id I.loc
 have Y:(X.env.scope.kind == .class || (X.env.scope.kind == .module&&X.env.locals != X.env.globals))=false:=by rw[I.ok.kind];rfl
 refine wpAny_nameGoes_keeps hl hn Y fun h' v d O=>k _ ?_;have up:∀ b o,X.s₀.heap.get? b=some o->b≠X.env.locals:=fun b o e=>Ql (Qg (Qf e) I.ok.above);have cne:=I.cne;refine#[I.ok,I.os,I.bare,#[fun b o e nn hb U=>(O.2 b (up b o e)).trans (I.base.keep b o e nn hb U),fun b o e nn hb U=>?_,I.base.free,fun b o e U=>?_,I.base.f9,I.base.dD,I.base.fD],#[_,d,fun j y l R Z K=>?_],fun y c e=>?_,I.free,I.di,fun p F=>?_,fun a o e=>?_,by simpa using I.len]
 ·obtain⟨sl,R⟩:=I.base.slot b o e nn hb U;exact#[sl,(O.2 b (up b o e)).trans R]
 ·obtain⟨o',R⟩:=I.base.there b o e U;exact#[o',(O.2 b (up b o e)).trans R]
 ·have h:j≠i:=fun z=>by
   subst z;rw[Qi (by rw[I.len];exact(List.getElem?_eq_some_iff.mp hi).1)]at Z;cases Z
  rw[Qe (Ne.symm h)]at Z;obtain⟨u,r,C⟩:=f j y l R Z K;refine#[u,r,?_]
  rcases C with⟨a1,a2⟩ | ⟨a1,c,a2,a3⟩
  ·have D:y≠n:=fun z=>h (nJ QK R (z▸hi));exact .inl #[a1,by simp[D,a2]]
  ·exact .inr #[a1,c,a2,a3.sameBut O (cne y c a2)]
 ·obtain⟨v,q⟩:=I.cell y c e;exact#[v,q.sameBut O (cne y c e)]
 ·obtain⟨B,x,g,t⟩:=I.pin p F;exact#[(O.2 p.1 g).trans B,x,g,t]
 ·refine(I.hok a o e).kU (fun c w G q=>(O.2 c fun z=>?_).trans q) (fun _ z=>z) fun _ _ z=>z;subst z;rcases G with z | z
  ·rw[<-z,I.free]at e;cases e
  ·rw[I.free]at z;cases z
@[reducible]noncomputable def Fz(I:Obj):HO:=.frz I (.ext fun _=>True)
@[reducible]noncomputable def Cx.bK(X:Cx)(e:Addr)(I:Obj):Cx:={ X with A:=X.A.mark (some (.ref e)),calm:=false,H₀:=upd X.H₀ e (Fz I) }
def rh(c:Inv X pins J H0 s0)(hst:X.stack=X.env::X.outer)(j:X.ex=[])(un:Un (frs X.stack) [] H0 H' s0.heap h1)(hok:HOk X.prog X.w H' h1)(bare:AllBare g)
 (o:Off1 (fR s0.heap H') (frs (X.env::X.outer)) h1 h2)(l:h2.get? e=some oe)(hd:oe.data=.fields vs)(s:vs[2]?=some .none)(ne:¬ fR s0.heap H' e) :
  Inv (X.bK e oe) pins J (upd H' e (Fz oe)) ⟨h2,g,dr,tk,s0.os⟩:=by
 have O:H' e=none:=Classical.byContradiction fun z=>ne (.inr z);have k:∀ b u,s0.heap.get? b=some u->b≠e:=fun b u q z=>ne (.inl #[u,z▸q]);have p:∀ b u,X.s₀.heap.get? b=some u->b≠e:=fun b u q=>let ⟨m,q'⟩:=c.old j q;k b m q';have off:∀ {b:Addr},b≠e->upd H' e (Fz oe) b=H' b:=fun z=>aJ z
 have h:∀ b,H' b≠none->b∉frs (X.env::X.outer):=fun b hb z=>by
  rw[<-hst]at z;obtain⟨_,ob,i,_⟩:=c.stack.mem z;exact hb (un.free b ob i (c.m8 b z) (by simp))
 have d:Un (frs X.stack) [] H0 (upd H' e (Fz oe)) s0.heap h2:=by
  refine#[fun b u q n hb U=>?_,fun b u q n hb U=>?_,fun b u q n U=>by rw[off (k b u q)];exact un.free b u q n U,fun b u q U=>?_,fun b xs q=>?_,fun b ob u q=>?_,fun b ps q=>?_]
  ·exact o.keep b u (.inl #[u,q]) (by rw[<-hst];exact hb) (un.keep b u q n hb U)
  ·obtain⟨sl,R⟩:=un.slot b u q n hb U;obtain⟨f,Y⟩:=o.slot b _ (.inl #[u,q]) (by rw[<-hst];exact hb) R;exact#[f,Y]
  ·obtain⟨t,R⟩:=un.there b u q U;by_cases hb:b∈frs (X.env::X.outer)
   ·obtain⟨sl,Y⟩:=o.slot b _ (.inl #[u,q]) hb R;exact#[_,Y]
   ·exact#[_,o.keep b _ (.inl #[u,q]) hb R]
  ·have:=un.f9 b xs q;rw[off (fun z=>by rw[z,O]at this;cases this)];exact this
  ·have:=un.dD b ob u q;rw[off (fun z=>by rw[z,O]at this;cases this)];exact this
  ·obtain⟨more,this⟩:=un.fD b ps q;rw[off (fun z=>by rw[z,O]at this;cases this)];exact#[more,this]
 have Z:HOk X.prog X.w (upd H' e (Fz oe)) h2:=fun a ob q=>by
  by_cases ha:a=e
  ·subst ha;rw[aV]at q;cases q;exact#[l,trivial,#[_,l],fun _ _ _ _=>trivial]
  ·rw[off ha]at q
   have up:∀ (b:Addr) (u:HO),H' b=some u->upd H' e (Fz oe) b=some u:=fun b u z=>by rw[off (aP z O)];exact z
   refine(hok a ob q).kU (fun b u hb r=>?_) (fun b z=>up b _ z) fun b xs z=>up b _ z
   have hn:H' b≠none:=by
    rcases hb with rfl | hb
    ·rw[q];exact fun z=>nomatch z
    ·rw[hb];exact fun z=>nomatch z
   exact o.keep b u (.inr hn) (h b hn) r
 have QK:=c.call (h':=h2) (g':=g) (d':=dr) (t':=tk) (ch:=[]) d Z bare (fun b z=>absurd z (by simp));have I:∀ {b:Addr} {u:Obj},X.s₀.heap.get? b=some u->upd X.H₀ e (Fz oe) b=X.H₀ b:=fun q=>aJ (p _ _ q);refine#[#[QK.ok.mod,QK.ok.kind,QK.ok.glob,QK.ok.blt,QK.ok.above,QK.ok.inj,QK.ok.has,QK.ok.cab,#[fun z=>(nomatch z),.inr #[e,oe,_,vs,rfl,aV,hd,s]],QK.ok.frames,QK.ok.stk,QK.ok.exf,fun b ob q=>?_,QK.ok.bsz,QK.ok.l3,QK.ok.lu,QK.ok.eI,fun b hb=>?_],QK.os,QK.bare,#[fun b u q n=>?_,fun b u q n=>?_,fun b u q n=>?_,QK.base.there,fun b xs q=>?_,fun b ob u q=>?_,fun b ps q=>?_],QK.loc,QK.cell,QK.free,QK.di,QK.pin,QK.hok,QK.len]
 ·obtain⟨R,Y⟩:=QK.ok.bs b ob q;exact#[R,(I R).trans Y]
 ·obtain⟨_,ob,q,_⟩:=QK.ok.eI.mem hb;exact(I q).trans (QK.ok.frf b hb)
 ·exact QK.base.keep b u q ((I q).symm.trans n)
 ·exact QK.base.slot b u q ((I q).symm.trans n)
 ·exact QK.base.free b u q ((I q).symm.trans n)
 ·by_cases hb:b=e
  ·subst hb;rw[show(X.bK b oe).H₀ b=some (Fz oe)from aV]at q;cases q
  ·exact QK.base.f9 b xs ((aJ hb).symm.trans q)
 ·by_cases hb:b=e
  ·subst hb;rw[show(X.bK b oe).H₀ b=some (Fz oe)from aV]at q;cases q;exact aV
  ·exact QK.base.dD b ob u ((aJ hb).symm.trans q)
 ·by_cases hb:b=e
  ·subst hb;rw[show(X.bK b oe).H₀ b=some (Fz oe)from aV]at q;cases q
  ·exact QK.base.fD b ps ((aJ hb).symm.trans q)
def pF(QK:Inv (X.bK e oe) pins J H s)(ok:X.Ok)(hn:X.s₀.heap.get? e=none)(U:∀ xs,X.H₀ e≠some (.tup xs))(R:∀ o u,X.H₀ e≠some (.frz o u))(O:∀ ps,X.H₀ e≠some (.tbl ps)):Inv X pins J H s:=by
 have I:∀ {b:Addr} {u:Obj},X.s₀.heap.get? b=some u->upd X.H₀ e (Fz oe) b=X.H₀ b:=fun {b u} q=>aJ fun z=>by rw[z,hn]at q;cases q
 have up:∀ (b:Addr) (u:HO),b≠e->X.H₀ b=some u->(X.bK e oe).H₀ b=some u:=fun b u hb z=>(aJ hb).trans z
 exact⟨ok,QK.os,QK.bare,⟨fun b u q n=>QK.base.keep b u q ((I q).trans n),fun b u q n=>QK.base.slot b u q ((I q).trans n),fun b u q n=>QK.base.free b u q ((I q).trans n),QK.base.there,
  fun b xs q=>QK.base.f9 b xs (up b _ (fun z=>U xs (z▸q)) q),fun b o u q=>QK.base.dD b o u (up b _ (fun z=>R o u (z▸q)) q),fun b ps q=>QK.base.fD b ps (up b _ (fun z=>O ps (z▸q)) q)⟩,QK.loc,QK.cell,QK.free,QK.di,QK.pin,QK.hok,QK.len⟩
end
end L2
namespace RS
open PySem PySem.Spec PyProof.Rows L2
def Cls.kin{K:W.Frag}(h:Cls K x C):tU K C:=by
 have:=h.ok;simp only[j8,and_eq_true,beq_iff_eq]at this;obtain⟨⟨⟨⟨⟨⟨⟨⟨_,a1⟩,a2⟩,a3⟩,a4⟩,a5⟩,a6⟩,_⟩,_⟩:=this;refine#[a1,a2,?_,a4,a5,a6];unfold tV at a3;split at a3
 ·rename_i a b e;simp only[and_eq_true,beq_iff_eq]at a3;rw[e,a3.1,a3.2]
 ·cases a3
section
def xq(Z:Inv X pins J H0 s0)(hst:X.stack=X.env::X.outer)(l:X.env.frame=some X.env.locals)(U:X.ex=[])
 (os:s1.os=s0.os)(bare:AllBare s1.gens)(un:Un (frs X.stack) [] H0 H' s0.heap s1.heap)(hok:HOk X.prog X.w H' s1.heap)(xx:Exc (fR s0.heap H') e C od tb s1.heap)(hc:Cls X.K (RL.baseOf x) C)(hR:Cls X.K c R)(P:c∈d7)(a:RL.i8 x c=true)(hg:Gl X c)(hm:X.mg c=some (.ref R))(G:(c == ("__debug__" : Str))=false)
 (hN:X.N.Nodup)(hi:X.N[i]?=some n)(hl:X.env.scope.names.lookup n=some .local)
 (h:∀ I H s,Inv (X.bK e I) pins J H s->s.heap.get? e=some I->I.cls=.ref C->wpAny (model X.prog X.w) X.A (handleBy (.ref e) X.env (.ExceptHandler (some (.Name c np)) (some n) (b0::bK) hpos::hrest)) Q E s->wpAny (model X.prog X.w) X.A (handleBy (.ref e) X.env hs) Q E s)
 (k:∀ I vs r,(I.cls=.ref C/\I.dict=od)->I.data=.fields vs->vs[2]?=some .none->H' e=none->X.s₀.heap.get? e=none->(∀ xs,X.H₀ e≠some (.tup xs))->(∀ o u,X.H₀ e≠some (.frz o u))->(∀ ps,X.H₀ e≠some (.tbl ps))->Inv (X.bK e I) pins (J.set i (some (.ref e))) (upd H' e (Fz I)) r ->
   wpAny (model X.prog X.w) (X.A.mark (some (.ref e))) (execs (b0::bK) X.env) (fun f s5=>wpAny (model X.prog X.w) X.A (do bindName X.env n .none;unbindBehindTheSuite X.env n hpos) (fun _ s6=>Q f s6) E s5) (fun _ _=>False) r) :
  wpAny (model X.prog X.w) X.A (noteFrame (.ref e) X.env) (fun _ s2=>wpAny (model X.prog X.w) X.A (setFlight (.ref e) none) (fun _ s3=>wpAny (model X.prog X.w) X.A (handleBy (.ref e) X.env hs) Q E s3) E s2) E s1:=by
 have I1:=Z.so (ch:=[]) os un hok bare (fun b z=>absurd z (by simp));have j:=I1.stack;have m:=I1.ok.frames;rw[hst]at j m
 have hP:∀ b,fR s0.heap H' b->b<s1.heap.objs.size:=fun b hb=>by
  rcases hb with⟨o,q⟩ | hb
  ·obtain⟨o',q'⟩:=un.there b o q (by simp);exact Qf q'
  ·obtain⟨o,ho⟩:=Option.ne_none_iff_exists'.mp hb;exact hok.lt ho
 refine rH m j l xx hP fun V x2 o2=>?_;obtain⟨I,vs,p,Y,hd,B,ne,xt⟩:=x2;obtain⟨hp,g,d,tk,y⟩:=s1;obtain rfl:y=s0.os:=os;have t:Inv (X.bK e I) pins J (upd H' e (Fz I)) ⟨V,g,d,tk,s0.os⟩:=rh Z hst U un hok bare o2 p hd B ne;refine h I _ _ t p Y.1 ?_;refine wpAny_handleBy_cons (codeAny_handlers_test ?_) (by intro q;cases q);refine iG t hg hm ?_ G;obtain⟨bm,N,nm,qn,bs,hdct,sn,sub,ab,col,dd,k0,k1,k2,k3,k5,g1,T⟩:=BM t.kIn hR.exc;have L:=W.looks_subIn (M:=model X.prog X.w) t.kIn (hc.ref P hR.ns).2;rw[show RL.dh (RL.baseOf x) c=true from a]at L;refine C4 g1 p Y.1 (T.hasType PySem.F.excBase_ValueError.hasBase) L ?_;refine codeAny_handlers_suite_as ?_
 rcases xt with⟨z,_⟩ | ⟨T,oT,ts,h1,S,hT,QK,h3,nT⟩
 ·cases z
 unfold setFlight;refine Qa (wpAny_field p hd h1 ?_);refine wpAny_setField hT QK (Array.getElem?_eq_some_iff.mp h3).1 ?_;have D:(V.update T (Obj.mapFields (·.setIfInBounds 3 Value.none))).get? e=some I:=(Qv _ _ S).trans p;have J3:Inv (X.bK e I) pins J (upd H' e (Fz I)) ⟨V.update T (Obj.mapFields (·.setIfInBounds 3 Value.none)),g,d,tk,s0.os⟩:=rh Z hst U un hok bare (o2.trans (Off1.ye nT _)) D hd B ne;have O:H' e=none:=Classical.byContradiction fun z=>ne (.inr z)
 have tup:∀ u,X.H₀ e=some u->(∀ b,X.H₀ b=some u->H' b=some u)->False:=fun u q z=>by
  have:=z e q;rw[O]at this;cases this
 refine gp (X:=X.bK e I) (v:=.ref e) J3 hN hi (.inl hl) rfl (fun r J4=>?_) (.inr hl);refine wpAny_mono (k I vs r Y hd B O ?_ (fun xs q=>?_) (fun o u q=>?_) (fun ps q=>?_) J4) (fun f s5 z=>z) fun _ _ z=>z.elim
 ·cases q:X.s₀.heap.get? e with
  | none=>rfl
  |some u=>
   obtain⟨u',q'⟩:=Z.old U q;exact(ne (.inl #[u',q'])).elim
 ·have:=un.f9 e xs (Z.base.f9 e xs q);rw[O]at this;cases this
 ·have:=un.dD e o u (Z.base.dD e o u q);rw[O]at this;cases this
 ·obtain⟨m1,q1⟩:=Z.base.fD e ps q;obtain⟨m2,q2⟩:=un.fD e _ q1;rw[O]at q2;cases q2
end
section
variable{K:W.Frag}
def bD.unset(hi:M.contains i=false):bD M (J.set i none)=bD M J:=by
 funext a;apply propext
 have O:∀ {j},M.contains j=true->i≠j:=fun I z=>by subst z;rw[hi]at I;cases I
 constructor
 ·rintro⟨j,I,e⟩;rw[Qe (O I)]at e;exact#[j,I,e]
 ·rintro⟨j,I,e⟩;exact#[j,I,by rw[Qe (O I)];exact e]
def kA{α:Type}{l:List (Option α)}{i j:Nat}{v:α}(h:(l.set i none)[j]?=some (some v)):i≠j/\l[j]?=some (some v):=by
 by_cases I:i=j
 ·subst I;rw[List.getElem?_set]at h;split at h
  ·split at h<;>cases h
  ·exact absurd rfl ‹_›
 ·rw[Qe I]at h;exact#[I,h]
def RVm.unset(h:RVm K M QL J H)(hi:M.contains i=false):RVm K M (QL.set i none) (J.set i none) H where
 len:=by simpa using h.len
 val:=fun j d e=>by
  obtain⟨I,e⟩:=kA e;obtain⟨v,O,R⟩:=h.val j d e;exact#[v,by rw[Qe I];exact O,by rw[bD.unset hi];exact R]
 non:=fun j v e=>by
  obtain⟨I,e⟩:=kA e;obtain⟨d,O⟩:=h.non j v e;exact#[d,by rw[Qe I];exact O]
 sep:=fun j k a I hk O R=>h.sep j k a I hk (kA O).2 (kA R).2
def Fr'.unset(hi:M.contains i=false):Fr' M J H (J.set i none) H:=⟨fun b o e n=>#[e,by rw[bD.unset hi];exact n],fun j I=>Qe fun z=>by subst z;rw[ke I]at hi;cases hi⟩
end
section
@[reducible]noncomputable def CxX(X:Cx)(pn:List (Addr × Obj))(E:Value->Shared->Prop):Cx:={ X with pn:=pn,xe:=E }
abbrev Cj(X:Cx)(EX:L2.St->XK):Prop:=(∀ pins J H s e s',Inv X pins J H s->CXE X.prog X.w X.stack H s (EX J) e s'->X.xe e s')/\(∀ pins J H s h' e C vs,Inv X pins J H s->Heap.MadeExcOf s.heap h' e (.ref C) vs->EX J (.ref C) none H->X.xe (.ref e) { s with heap:=h' }) /\
 ∀ pins J H s C i e od H' s',Inv X pins J H s->By X H s C (some i) e od H' s'->EX J (.ref C) od H'->X.xe (.ref e) s'
abbrev Ce(cl:RL.Cl)(M:List Nat)(b:RL.Ss)(i:Nat)(I:Str->Option RL.Ss)(J:RL.St):Option (RL.Out × RL.St):=match RL.af cl M b J with
 | some p=>some p
 | none=>(RL.bY cl M b J).bind fun q=>(I q.1).bind fun h=>(RL.af cl M h (q.2.set i (some (.exc q.1)))).map fun r=>(r.1,r.2.set i none)
abbrev K5(X:Cx)(cl:RL.Cl)(M:List Nat)(a:List ExceptHandler)(n:Str)(x:Str)(h:RL.Ss):Prop:=∃ c R Y bK Z U I,(∀ e O,SSs (X.bK e O) cl M (Y::bK) h)/\Cls X.K c R/\c∈d7/\RL.i8 x c=true/\Gl X c/\X.mg c=some (.ref R)/\(c == ("__debug__" : Str))=false /\
 ∀ C,Cls X.K (RL.baseOf x) C->∀ pins J Q E e O H s,Inv (X.bK e O) pins J H s->s.heap.get? e=some O->O.cls=.ref C->wpAny (model X.prog X.w) X.A (handleBy (.ref e) X.env (.ExceptHandler (some (.Name c Z)) (some n) (Y::bK) U::I)) Q E s->wpAny (model X.prog X.w) X.A (handleBy (.ref e) X.env a) Q E s
def DQ(hx:X.xe=fun _ _=>False)(hst:X.stack=X.env::X.outer)(hfrm:X.env.frame=some X.env.locals)(hex:X.ex=[])(hb:SSs X cl M body b)
 (hbx:∀ (pn:List (Addr × Obj)) (E:Value->Shared->Prop) (EX:L2.St->XK),Cj (CxX X pn E) EX->PassesOwn (model X.prog X.w) X.A X.env E->RZs (CxX X pn E) EX cl M body b)
 (hsel:∀ x h,sel x=some h->K5 X cl M (h0::hs) n x h)(g:∀ J,RL.evS cl M st' J=Ce cl M b i sel J)(hN:X.N.Nodup)(hi:X.N[i]?=some n)(hl:X.env.scope.names.lookup n=some .local)(hM:M.contains i=false) :
  SS X cl M (.Try body (h0::hs) [] [] pos) st':=by
 intro pins s J H D I hh;obtain⟨F,r,QP,rv,ev,post⟩:=hh;rw[g]at ev;unfold Ce at ev;clear g;refine wpAny_Try_except ?_
 cases g:RL.af cl M b F with
 |some p=>
  rw[g]at ev;cases ev
  refine wpAny_mono (hb pins s J H D I ⟨F,r,QP,rv,g,post⟩) (fun f s1 q=>?_) fun e s1 z=>by rw[hx]at z;exact z.elim
  cases f with
  | next=>exact wpAny_execs_nil q
  | ret u=>exact q
  | brk=>exact q
  | cont=>exact q
 |none=>
  rw[g]at ev;obtain⟨⟨x,Z⟩,hev2,ev⟩:=bind_some ev;obtain⟨h,hsx,ev⟩:=bind_some ev;obtain⟨c,R,b0,bK,np,hpos,hrest,hsu,hR,hcr,hsub,hg,hm,hdb,hpre⟩:=hsel x h hsx;obtain⟨⟨rr,QQ⟩,hev3,ev⟩:=map_some ev;cases ev;generalize hE:(fun(e:Value) (s₁:Shared)=>wpAny (model X.prog X.w) X.A (noteFrame e X.env) (fun _ s₂=>wpAny (model X.prog X.w) X.A (setFlight e none) (fun _ s₃=>wpAny (model X.prog X.w) X.A (handleBy e X.env (h0::hs)) (SP X pins D) X.xe s₃) X.xe s₂) X.xe s₁)=E1
  have own:PassesOwn (model X.prog X.w) X.A X.env E1:=by
   rw[<-hE];exact PassesOwn.looking
  have hand:∀ (U:List (Addr × Obj)) (O:L2.St) (t H':Hp) (k s1:Shared) (e C:Addr) (od:Option Addr) (tb:Bool),Inv (CxX X (X.pn++pins) E1) U O t k->s1.os=k.os->AllBare s1.gens->Un (frs X.stack) [] t H' k.heap s1.heap->HOk X.prog X.w H' s1.heap->Exc (fR k.heap H') e C od tb s1.heap ->
    (CO X.K x C od H'/\RVm X.K M Z O H'/\Fr' M J H O H')->E1 (.ref e) s1:=by
   intro U O t H' k s1 e C od tb QK os bare un hok ex ⟨l,L,T⟩
   have I0:Inv X pins O t k:=#[#[QK.ok.mod,QK.ok.kind,QK.ok.glob,QK.ok.blt,QK.ok.above,QK.ok.inj,QK.ok.has,QK.ok.cab,QK.ok.hd,QK.ok.frames,QK.ok.stk,QK.ok.exf,QK.ok.bs,QK.ok.bsz,QK.ok.l3,QK.ok.lu,QK.ok.eI,QK.ok.frf],QK.os,QK.bare,QK.base,QK.loc,QK.cell,QK.free,QK.di,fun p V=>QK.pin p (List.mem_append_left _ V),QK.hok,QK.len]
   rw[<-hE];refine xq I0 hst hfrm hex os bare un hok ex l.1 hR hcr hsub hg hm hdb hN hi hl (fun B H s=>hpre C l.1 pins O _ _ e B H s) fun B vs s4 hcd hd hv hne hn0 n1 n2 n3 J4=>?_
   have sm:aw H' (upd H' e (Fz B)):=fun a u q=>by rw[aJ (aP q hne)];exact q
   have rv4:RVm X.K M (Z.set i (some (.exc x))) (O.set i (some (.ref e))) (upd H' e (Fz B)):=(L.same sm).bind hM (by
    exact#[e,B,_,C,vs,rfl,aV,#[hcd.1,by rw[hcd.2];exact l.2.keep fun b o u q=>sm b _ q],hd,hv,l.1])
   have fr4:Fr' M J H (O.set i (some (.ref e))) (upd H' e (Fz B)):=T.trans (Fr'.bind hM sm)
   have Q:sT X.K M { nx:=fun Y y=>D.nx (Y.set i none) y,rt:=D.rt } (O.set i (some (.ref e))) (upd H' e (Fz B)) rr QQ:=by
    cases rr with
    | nx=>exact fun Y y G S=>post (Y.set i none) y (G.unset hM) ((fr4.trans S).trans (Fr'.unset hM))
    | rt d=>exact fun Y y v H6 G S sm5 rp=>post (Y.set i none) y v H6 (G.unset hM) ((fr4.trans S).trans (Fr'.unset hM)) sm5 fun P hP=>rp P fun p V=>by rw[<-bD.unset hM];exact hP p V
   refine wpAny_mono (hsu e B pins s4 _ _ _ J4 ⟨_,rr,QQ,rv4,hev3,Q⟩) (fun f s5 q=>?_) fun e s5 z=>by
    have z:X.xe e s5:=z;rw[hx]at z;exact z.elim
   cases f with
   |next=>
    obtain⟨Y,y,J5,q⟩:=q
    exact vV (pF J5 I0.ok hn0 n1 n2 n3) hN hi hl fun s6 J6=>#[_,y,J6,q]
   |ret u=>
    obtain⟨v,Y,y,J5,rel,q⟩:=q
    exact vV (pF J5 I0.ok hn0 n1 n2 n3) hN hi hl fun s6 J6=>#[v,_,y,J6,rel,q]
   |brk=>
    obtain⟨_,_,_,q⟩:=q;exact q.elim
   |cont=>
    obtain⟨_,_,_,q⟩:=q;exact q.elim
  have rz:=hbx (X.pn++pins) E1 (fun O Cv od H1=>∃ C,Cv=.ref C/\CO X.K x C od H1/\RVm X.K M Z O H1/\Fr' M J H O H1) ⟨fun U O t k e s1 QK z=>by
    obtain⟨x',C,od,H',rfl,⟨C',q,l⟩,os,bare,un,hok,ex⟩:=z;cases q
    exact hand U O t H' k s1 x' C od true QK os bare un hok ex l,fun U O t k h' e C vs QK m z=>by
    obtain⟨C',q,l⟩:=z;cases q
    exact hand U O t t k _ e C none false QK rfl QK.bare (Un.kept m.keeps) (QK.hok.kept m.keeps) (uE QK.hok m) l,fun U O t k C j e od H' s1 QK nx z=>by
    obtain⟨C',q,l⟩:=z;cases q
    exact hand U O t H' k s1 e C od false QK nx.os nx.bare nx.un nx.hok nx.ex l⟩ own
  have I1:Inv (CxX X (X.pn++pins) E1) [] J H s:=#[#[I.ok.mod,I.ok.kind,I.ok.glob,I.ok.blt,I.ok.above,I.ok.inj,I.ok.has,I.ok.cab,I.ok.hd,I.ok.frames,I.ok.stk,I.ok.exf,I.ok.bs,I.ok.bsz,I.ok.l3,I.ok.lu,I.ok.eI,I.ok.frf],I.os,I.bare,I.base,I.loc,I.cell,I.free,I.di,fun p V=>I.pin p (by rw[QA]at V;exact V),I.hok,I.len]
  refine wpAny_mono (rz [] s J H { nx:=fun _ _=>False,rt:=fun _ _=>False } I1 ⟨F,x,Z,rv,hev2,fun O H1 C od l L T=>#[C,rfl,l,L,T]⟩) (fun f s1 q=>?_) fun e s1 z=>by
   have z:E1 e s1:=z;subst hE;exact z
  cases f with
  |next=>
   obtain⟨_,_,_,q⟩:=q;exact q.elim
  |ret u=>
   obtain⟨_,_,_,_,_,q⟩:=q;exact q.elim
  |brk=>
   obtain⟨_,_,_,q⟩:=q;exact q.elim
  |cont=>
   obtain⟨_,_,_,q⟩:=q;exact q.elim
def G6(j:X.xe=fun _ _=>False)(hst:X.stack=X.env::X.outer)(O:X.env.frame=some X.env.locals)(Y:X.ex=[])(hb:SSs X cl M body b)
 (d:∀ (pn:List (Addr × Obj)) (E:Value->Shared->Prop) (EX:L2.St->XK),Cj (CxX X pn E) EX->PassesOwn (model X.prog X.w) X.A X.env E->RZs (CxX X pn E) EX cl M body b)
 (U:∀ e f,SSs (X.bK e f) cl M (g::bK) h)(m:Cls X.K c R)(a:c∈d7)(hg:Gl X c)(hm:X.mg c=some (.ref R))(Z:(c == ("__debug__" : Str))=false)(o:X.N.Nodup)(hi:X.N[i]?=some n)(hl:X.env.scope.names.lookup n=some .local)(hM:M.contains i=false) :
  SS X cl M (.Try body [.ExceptHandler (some (.Name c np)) (some n) (g::bK) hpos] [] [] pos) (.tryc b c i h):=by
 refine DQ (sel:=fun x=>if RL.i8 x c then some h else none) j hst O Y hb d (fun x h' e=>?_) (fun J=>?_) o hi hl hM
 ·obtain⟨I,e⟩:=cU e;subst e;exact#[c,R,g,bK,np,hpos,[],U,m,a,I,hg,hm,Z,fun C t pins J Q E e f H s QK r l k=>k]
 ·rw[RL.zY];unfold Ce
  cases RL.af cl M b J with
  | some p=>rfl
  |none=>
   show(RL.bY cl M b J).bind _=(RL.bY cl M b J).bind _;congr 1;funext q;dsimp only;by_cases I:RL.i8 q.1 c=true
   ·rw[if_pos I,if_pos I];rfl
   ·rw[if_neg I,if_neg I];rfl
end
section
variable{X:Cx}
def vv:bL X (.builtin "isinstance") (fun xs H Q=>∃ b o u C vs t k f,xs=[.ref b,t]/\H b=some (.frz o u)/\(o.cls=.ref C/\kz H f o.dict)/\o.data=.fields vs/\tU X.K C/\((∃ D,t=.ref D/\W.kitOne X.K (.ref C) (.ref D)=some k)\/∃ T,t=.ty T/\W.kitOne X.K (.ref C) (.type T)=some k)/\Q (.bl k) H):=by
 fin2;obtain⟨b,o,u,C,vs,t,k,f,rfl,hb,O,hd,F,hk,q⟩:=h
 cases r with
 |cons a U=>
  cases U with
  |cons U Z=>
   cases Z;cases a
   obtain⟨od,QK⟩:∃ od,W.InstAt s.heap b o C od:=by
    cases f with
    | none=>exact#[none,(I.hok _ _ hb).1,O.1,by unfold W.notCls;rw[hd],by rw[show o.dict=none from O.2];trivial]
    |some m=>
     obtain⟨n,g,i,R,Y,d,c⟩:=O.2;exact#[some _,(I.hok _ _ hb).1,O.1,by unfold W.notCls;rw[hd],by rw[d];exact(I.hok _ _ c).1]
   rcases hk with⟨D,rfl,e⟩ | ⟨T,rfl,e⟩
   ·cases U
    exact W.kia_one (ub F) I.kIn QK e (fun z=>nomatch z) fun R=>#[.bl k,H,I.tok R,rfl,q]
   ·cases U
    exact W.kia_one (ub F) I.kIn QK e (fun z=>nomatch z) fun R=>#[.bl k,H,I.tok R,rfl,q]
def zM(Y:∀ x C,Cls X.K x C->(∃ D,t=.ref D/\W.kitOne X.K (.ref C) (.ref D)=some (RL.dh x c))\/∃ T,t=.ty T/\W.kitOne X.K (.ref C) (.type T)=some (RL.dh x c))(h:tE X.K cl (.isx a' c) J H Q) :
  tCB (fun xs H Q=>∃ b o u C vs t k f,xs=[.ref b,t]/\H b=some (.frz o u)/\(o.cls=.ref C/\kz H f o.dict)/\o.data=.fields vs/\tU X.K C/\((∃ D,t=.ref D/\W.kitOne X.K (.ref C) (.ref D)=some k)\/∃ T,t=.ty T/\W.kitOne X.K (.ref C) (.type T)=some k)/\Q (.bl k) H) (p8 (tE X.K cl a') (p8 (tC t) qv)) J H Q:=by
 obtain⟨I,d,U,e,k⟩:=h;obtain⟨x,i,e⟩:=bind_some e
 cases x with
 |exc n=>
  cases e;refine#[I,_,U,i,fun v l O=>?_];have rp:=O.rep;obtain⟨b,o,u,C,vs,rfl,g,a,Z,j,R⟩:=rp;exact#[b,o,u,C,vs,t,_,_,rfl,g,a,Z,R.kin,Y _ C R,k _ _ (dR O.same)]
 | _=>cases e
def HC(hg:Gl X "isinstance")(hm:X.mg "isinstance" = none)(R:Gl X c)(O:X.mg c=some (.ref D))(I:W.nsIn X.K mainGlobals c=some (some (.ref D)))(Y:c∈d7)(U:(c == ("__debug__" : Str))=false)(ha:SE X cl a a')(hn:noStar a=true) :
  SE X cl (.Call (.Name "isinstance" p) [a,.Name c p2] [] pos) (.isx a' c) :=
 PE.weak (gI vv hg hm (by decide +kernel) (bz ha (bz (vJ (v:=.ref D) R O rfl U) cT rfl) (ay _ hn)) ∅ ∅ (ay _ hn) rfl) fun J H Q h=>zM (fun x C Z=>.inl #[D,rfl,(Z.ref Y I).1]) h
def Hj(hg:Gl X "isinstance")(hm:X.mg "isinstance" = none)(O:Gl X "ValueError")(I:X.mg "ValueError" = none)(ha:SE X cl a a')(hn:noStar a=true):SE X cl (.Call (.Name "isinstance" p) [a,.Name "ValueError" p2] [] pos) (.isx a' "ValueError") :=
 PE.weak (gI vv hg hm (by decide +kernel) (bz ha (bz (vP (v:=.ty "ValueError") O I PyProof.Rows.Boot.«ValueError» rfl ∅ ∅) cT rfl) (ay _ hn)) ∅ ∅ (ay _ hn) rfl) fun J H Q h=>zM (fun x C R=>.inr #[_,rfl,by rw[R.val];simp[RL.dh]]) h
end
def rJ:∀ ys:List Str,Str.join ⟨(List.toArray [])⟩ ys=⟨(ys.flatMap fun s=>s.cps.toList).toArray⟩
 | []=>rfl
 | [x]=>by simp[Str.join]
 | x::y::r=>by
  have I:=rJ (y::r);show x++(⟨(List.toArray [])⟩:Str)++Str.join ⟨(List.toArray [])⟩ (y::r)=_;rw[I];show(⟨(x.cps ++ (List.toArray []))++(List.flatMap (fun s=>s.cps.toList) (y::r)).toArray⟩:Str)=_;simp
def wg:∀ {ys:List Str} {us:List Value},Vals (ys.map V.str) us->StrsAre us ys
 | [],_,r=>by cases r;exact .nil
 | y::ys,_,r=>by
  cases r with
  |cons a b=>
   obtain⟨t,rfl⟩:=a;exact .cons y t (wg b)
def tm{P:Addr->Prop}{K:W.Frag}:∀ {ds:List RL.D} {I:List Str} {xs:List V},RL.strs? ds=some I->ae P K H ds xs->xs=I.map V.str
 | [],I,xs,h,r=>by
  cases h;exact r
 | d::ds,I,xs,h,r=>by
  obtain⟨x,t,rfl,R,O⟩:=r
  cases d with
  |str y=>
   obtain⟨q,Y,U⟩:=map_some h;subst U;rw[aQ R,tm Y O];rfl
  | _=>cases h
section
def Fu:MtR X "str.join" (fun x xs H Q=>∃ b ys,x=.str ⟨(List.toArray [])⟩/\xs=[.ref b]/\H b=some (.lst (ys.map V.str))/\(ys.map (·.length)).sum<=16777216/\Q (.str (Str.join ⟨(List.toArray [])⟩ ys)) H):=by
 intro pins s J H x xs v us Q I R r h;obtain⟨b,ys,rfl,rfl,hb,Z,q⟩:=h;obtain⟨t,rfl⟩:=R;obtain⟨u,rfl,Y⟩:=vals1 r;cases Y;obtain⟨its,U,a,_⟩:=I.list (SqL.of hb)
 refine join_list a.isList (by simpa using wg U) (by show _+_*0<=_;rw[Nat.mul_zero];exact Z) fun O k=>#[.str (Str.join #[(List.toArray [])] ys),H,I.tok _,#[O,?_],q]
 show Value.str (Builtin.Str.glued ⟨(List.toArray [])⟩ ys) O=_;rw[PySem.StrLaws.glued_eq_join]
def zj:∀ {I:List Str},I.all (fun s=>decide (s.length<=100))=true->(I.map (·.length)).sum<=100*I.length
 | [],_=>Qb _
 | x::r,h=>by
  rw[Qx,and_eq_true,decide_eq_true_eq]at h;have:=zj h.2;rw[map_cons,List.sum_cons,length_cons];omega
def F6(ha:SE X cl a a')(hn:noStar a=true)(I:(apos.endLine == pos.line)=true):SE X cl (.Call (.Attribute (.Constant (.str ⟨(List.toArray [])⟩) j p) "join" apos) [a] [] pos) (.join a'):=by
 refine PE.weak (D7 PySem.F.plainAttrs_str PySem.F.slot_str_join PySem.F.type_str_join Fu uK (bz ha cT (ay [] hn)) rfl ?_ I (ay [] hn) rfl) fun J H Q h=>?_
 ·rw[ay [] hn];rfl
 obtain⟨O,d,c,e,k⟩:=h;obtain⟨x,i,e⟩:=bind_some e
 cases x with
 |lst ds=>
  obtain⟨Z,l,R⟩:=bind_some e;split at R
  ·rename_i f;cases R;refine#[rfl,O,_,c,i,fun v n U=>?_];obtain⟨b,xs,rfl,_,Y,g⟩:=aW U.rep;rw[tm l g]at Y;have m:=zj f.2;have hm:RL.most=100000:=rfl;refine#[b,Z,rfl,rfl,Y,by omega,?_];rw[rJ];exact k _ _ (cS U.same iQ rfl)
  ·cases R
 | _=>cases e
end
end RS
namespace L2
open PySem PySem.Spec PyProof.Rows
structure gQ(k:Nat)(A:Around):Prop where
 dp:A.depth+3*k+5<recursionLimit
 un:A.units+16*k+200<cLine
def cH.h(r:cH k A):gQ k A:=#[r.dp,r.un]
def gQ.mono(r:gQ k A)(h:j<=k):gQ j A:=⟨by have:=r.dp;omega,by have:=r.un;omega⟩
abbrev HXH(A:Around)(H:Hp):Prop:=A.handled=none\/∃ h o u vs,A.handled=some (.ref h)/\H h=some (.frz o u)/\o.data=.fields vs/\vs[2]?=some .none
structure oD(P:Program)(w:World)(K:W.Frag)(mg:Str->Option Value)(base:Heap)(k:Nat)(f:Addr)(fd:FuncData)(ps:List Str)(sp:Sp):Prop where
 len:∀ vs H Q,sp vs H Q E0->vs.length=ps.length
 run:∀ (A:Around) (outer:List Env) (s:Shared) (H:Hp) (us:List Value) (vs:List V) (Q:VK),gQ k A->HXH A H->ur P w K mg base A outer s H->BindsTo s fd ⟨us,[]⟩ (ps.zip us)->Vals vs us->sp vs H Q E0->codeAny (model P w) A (.call (.ref f) ⟨us,[]⟩) (CR CX0 outer P w H s Q E0) s
@[reducible]noncomputable def cxH(P:Program)(w:World)(K:W.Frag)(mg:Str->Option Value)(base:Heap)(N:List Str)(qual:Str)(scope:Scope)(f:Addr)(I:Value)(A:Around)(outer:List Env)(s:Shared)(H:Hp):Cx:={ (jd CX0 P w K mg base N qual scope f I A outer s H E0).nox with calm:=false }
section
variable{K:W.Frag}{st:Stmt}
def Fun.okH(F:Fun K x qual st f fd)(S:gx N ps (aN st))(len:∀ vs H Q,sp vs H Q E0->vs.length=ps.length)
 (U:∀ (cdv:Value) (A:Around) (outer:List Env) (s:Shared) (H:Hp) (vs:List V) (Q:VK),gQ k (A.deeper (envOfC qual (aN st) s.heap.objs.size f cdv))->sp vs H Q E0->∃ t,PSs (cxH P w K mg base N qual (aN st) f cdv A outer s H) (cQ st) t/\t { nx:=fun _ H'=>Q .non H',rt:=Q } (start N vs) H):oD P w K mg base (k+1) f fd ps sp:=by
 obtain⟨oc,od,kV,doc,pm,an,cdv,ct,osl,rfl,j,g⟩:=F.ex;refine#[len,fun A outer s H us vs Q d m R hb r Z=>?_];have hl:=len _ _ _ Z;have h:=R.mod.kin.keeps fun b o e=>(R.bs b o e).1
 have kinds:∀ y∈ps.zip us,(aN st).names.lookup y.1=some .local\/((aN st).names.lookup y.1=some .cell/\((cellsFrom (s.heap.objs.size+1) (aN st).names []).lookup y.1).isSome=true):=fun⟨n,v⟩ l=>(S.par n (of_mem_zip l).1).imp (fun q=>q) fun q=>#[q,W.cellsFrom_some _ _ _ (.inl q)]
 refine codeAny_call_function (by have:=d.dp;omega) (h _ _ j) rfl S.co S.gen rfl (W.codeRec_of h g) (hb _ _ _ _ ?_);refine wpAny_newFunctionEnv_cells S.kind kinds fun env C s1 y=>?_;subst C;refine#[(R.mod.nolimit.keeps fun b o e=>(R.bs b o e).1).keeps y.toInCall.keep,codeAny_func ?_]
 have c:gQ k (A.deeper (envOfC qual (aN st) s.heap.objs.size f cdv)):=⟨by have:=d.dp;show A.depth+1+3*k+5<_;omega,by have:=d.un;show A.units+3+16*k+200<_;omega⟩
 obtain⟨t,p,B⟩:=U cdv A outer s H vs Q c Z;have O:Inv (jd CX0 P w K mg base N qual (aN st) f cdv { A with handled:=none } outer s H E0) [] (start N vs) H s1:=qT S rfl ⟨R.frames,R.mod,R.bs,R.bsz,R.eI,R.frf,R.hok,R.bare⟩ hl r y
 have I:Inv (cxH P w K mg base N qual (aN st) f cdv A outer s H) [] (start N vs) H s1:=#[#[O.ok.mod,O.ok.kind,O.ok.glob,O.ok.blt,O.ok.above,O.ok.inj,O.ok.has,O.ok.cab,#[fun z=>(nomatch z),m],Around.frames_deeper R.frames,O.ok.stk,O.ok.exf,O.ok.bs,O.ok.bsz,O.ok.l3,O.ok.lu,O.ok.eI,O.ok.frf],O.os,O.bare,O.base,O.loc,O.cell,O.free,O.di,O.pin,O.hok,O.len]
 refine wpAny_mono (p [] s1 (start N vs) H _ I B) (fun D s' Y=>?_) fun e s' Y=>Y.elim
 cases D with
 |ret u=>
  obtain⟨v,a,H',QK,i,q⟩:=Y;exact#[v,H',QK.os,QK.bare,QK.base,QK.hok,i,q]
 |next=>
  obtain⟨a,H',QK,q⟩:=Y;exact#[.non,H',QK.os,QK.bare,QK.base,QK.hok,rfl,q]
 |brk=>
  obtain⟨_,_,_,q⟩:=Y;exact q.elim
 |cont=>
  obtain⟨_,_,_,q⟩:=Y;exact q.elim
def Fun.okX(F:Fun K x qual st f fd)(S:gx N ps (aN st))(len:∀ vs H Q E,sp vs H Q E->vs.length=ps.length)
 (I:∀ (cdv:Value) (A:Around) (outer:List Env) (s:Shared) (H:Hp) (vs:List V) (Q:VK) (E:XK),cH k (A.deeper (envOfC qual (aN st) s.heap.objs.size f cdv))->sp vs H Q E->∃ t,PSs (jd (CXE P w) P w K mg base N qual (aN st) f cdv A outer s H E) (cQ st) t/\t { nx:=fun _ H'=>Q .non H',rt:=Q } (start N vs) H):eU P w K mg base (CXE P w) (k+1) f fd ps sp:=by
 obtain⟨oc,od,kV,doc,pm,an,cdv,ct,osl,rfl,U,R⟩:=F.ex;exact DG U R S len fun A outer s H vs Q E Y O=>I cdv A outer s H vs Q E Y O
end
def B6(F:oD X.prog X.w X.K X.mg X.base k f fd ps sp)(c:gQ k X.A)(hg:Gl X x)(hm:X.mg x=some (.ref f))(hk:W.keepIn X.K (.ref f)=true)
 (hb:Binds X.K fd ps [])(ha:PA X (e::es) t)(a:(x == ("__debug__" : Str))=false)(d:starEach (e::es) X.env=(false,eval e X.env)::starEach es X.env)(Z:(backTo pos (starEach es X.env)).any (·.1)=false) :
  PE X (.Call (.Name x p) (e::es) [] pos) (fun J H Q=>t J H fun vs Y=>sp vs Y Q E0):=by
 lk;refine wpAny_Call_Name_kw (iG I hg hm ?_ a);refine W.callWith_K I.ok.mod.kin hk (thn (ha pos pins s J H _ I h) fun us s1 ⟨vs,Y,O,r,q⟩=>#[O.kIn,?_]) d Z
 have hl:us.length=ps.length:=by rw[<-r.length];exact F.len _ _ _ q
 have U:=hb s1 us O.kIn (by rw[QA];exact hl);rw[QA]at U
 have b:HXH X.A Y:=by
  rcases O.ok.hd.2 with z | ⟨h,o,u,vs,j,i,g⟩
  ·exact .inl z
  ·exact .inr #[h,o,u,vs,j,O.base.dD _ _ _ i,g]
 refine wpAny_call (codeAny_mono (F.run X.A X.stack s1 Y us vs Q c b O.B4 U r q) fun r s' R=>?_)
 cases r with
 | error e=>exact R.elim
 |ok l=>
  cases l with
  | ret u=>exact O.after R
  | next=>exact False.elim R
  | brk=>exact False.elim R
  | cont=>exact False.elim R
end L2
namespace RS
open PySem PySem.Spec PyProof.Rows L2
abbrev DC:Expr->Option (List Expr)
 | .JoinedStr vs _=>some vs
 | _=>none
def BW{e:Expr}{vs:List Expr}(h:DC e=some vs):∃ p,e=.JoinedStr vs p:=by
 cases e
 case JoinedStr=>cases h;exact#[_,rfl]
 all_goals exact nos h
abbrev Gd:Expr->Option (Expr × Int × Option Expr)
 | .FormattedValue e c s _=>some (e,c,s)
 | _=>none
def EW{e x:Expr}{c:Int}{s:Option Expr}(h:Gd e=some (x,c,s)):∃ p,e=.FormattedValue x c s p:=by
 cases e
 case FormattedValue=>cases h;exact#[_,rfl]
 all_goals exact nos h
abbrev zd:Stmt->Option (Option Expr × Option Expr)
 | .Raise e c _=>some (e,c)
 | _=>none
def Ao{st:Stmt}{e c:Option Expr}(h:zd st=some (e,c)):∃ p,st=.Raise e c p:=by
 cases st
 case Raise=>cases h;exact#[_,rfl]
 all_goals exact nos h
abbrev GS:Stmt->Option (List Stmt × List ExceptHandler × List Stmt × List Stmt)
 | .Try b h o f _=>some (b,h,o,f)
 | _=>none
def Ep{st:Stmt}{b o f:List Stmt}{h:List ExceptHandler}(z:GS st=some (b,h,o,f)):∃ p,st=.Try b h o f p:=by
 cases st
 case Try=>cases z;exact#[_,rfl]
 all_goals exact nos z
abbrev sy:ExceptHandler->Option Expr × Option Str × List Stmt
 | .ExceptHandler t n b _=>(t,n,b)
def a3{O I c2:Bool}{P:Prop}(h:(O&&I&&c2)=true)(k:O=true->I=true->c2=true->P):P:=k (aC (aC h).1).1 (aC (aC h).1).2 (aC h).2
def a4{R O c2 I:Bool}{P:Prop}(h:(R&&O&&c2&&I)=true)(k:R=true->O=true->c2=true->I=true->P):P:=a3 (aC h).1 fun Z Y U=>k Z Y U (aC h).2
def a5{U R c2 O I:Bool}{P:Prop}(h:(U&&R&&c2&&O&&I)=true)(k:U=true->R=true->c2=true->O=true->I=true->P):P:=a4 (aC h).1 fun b a Z Y=>k b a Z Y (aC h).2
def a6{Y U c2 R O I:Bool}{P:Prop}(h:(Y&&U&&c2&&R&&O&&I)=true)(k:Y=true->U=true->c2=true->R=true->O=true->I=true->P):P:=a5 (aC h).1 fun d c b a Z=>k d c b a Z (aC h).2
def a7{Z Y c2 U R O I:Bool}{P:Prop}(h:(Z&&Y&&c2&&U&&R&&O&&I)=true)(k:Z=true->Y=true->c2=true->U=true->R=true->O=true->I=true->P):P:=a6 (aC h).1 fun f e d c b a=>k f e d c b a (aC h).2
def a8{a Z c2 Y U R O I:Bool}{P:Prop}(h:(a&&Z&&c2&&Y&&U&&R&&O&&I)=true)(k:a=true->Z=true->c2=true->Y=true->U=true->R=true->O=true->I=true->P):P:=a7 (aC h).1 fun i g f e d c b=>k i g f e d c b (aC h).2
def a9{b a c2 Z Y U R O I:Bool}{P:Prop}(h:(b&&a&&c2&&Z&&Y&&U&&R&&O&&I)=true)(k:b=true->a=true->c2=true->Z=true->Y=true->U=true->R=true->O=true->I=true->P):P:=a8 (aC h).1 fun l j i g f e d c=>k l j i g f e d c (aC h).2
def a10{c b c2 a Z Y U R O I:Bool}{P:Prop}(h:(c&&b&&c2&&a&&Z&&Y&&U&&R&&O&&I)=true)(k:c=true->b=true->c2=true->a=true->Z=true->Y=true->U=true->R=true->O=true->I=true->P):P:=a9 (aC h).1 fun n m l j i g f e d=>k n m l j i g f e d (aC h).2
structure CC where
 N:List Str
 sc:Scope
 B:List Str
 G:List (Str × Int)
 F:List (Str × List Nat)
 calm:Bool
 hf:List Nat
 Xr:List Str
 Xs:List Str
 Xi:List Str
 Xo:List (Str × Nat)
 W:List (Str × List (Str × Nat))
abbrev JG(scope sc:Scope):Scope:={ scope with names:=scope.names.map fun(n,k)=>if(k == NameKind.free&&sc.kind == .function&&sc.names.lookup n == some .cell)then(n,NameKind.cell)else(n,k) }
abbrev CC.inner(C:CC)(scope:Scope):CC:={ C with sc:=JG scope C.sc }
abbrev ko(x:Str):Bool:=!(x == ("__debug__" : Str)) && !(x == ("__classdict__" : Str))
abbrev CS(C:CC)(x:Str):Bool:=C.sc.names.lookup x == some .local || C.sc.names.lookup x == some .cell
abbrev Ci(C:CC)(x:Str):Bool:=C.sc.names.lookup x == some .local || C.sc.names.lookup x == some .cell || C.sc.names.lookup x == some .free
abbrev glB(C:CC)(x:Str):Bool:=C.sc.names.lookup x == some .globalImplicit&&ko x
abbrev nM(C:CC)(x:Str):Bool:=glB C x&&C.B.contains x
abbrev nmB(C:CC)(i:Nat)(x:Str):Bool:=C.N[i]? == some x&&ko x
structure XOk(C:CC)(X:Cx)(cl:RL.Cl):Prop where
 scope:X.env.scope=C.sc
 names:X.N=C.N
 nd:C.N.Nodup
 calm:C.calm=true->X.calm=true
 xe:X.xe=fun _ _=>False
 hu:X.A.units+100<cLine
 blt:∀ x∈C.B,X.mg x=none
 glb:∀ x i,C.G.lookup x=some i->∃ u,X.mg x=some u/\RelV (.int i) u
 fns:∀ (f:Nat) (x:Str) (mp:List Nat),C.calm=true->C.F[f]?=some (x,mp)->∃ k fa fd ps,eU X.prog X.w X.K X.mg X.base CX0 k fa fd ps (if mp=[]then spF X.K cl f else spM X.K cl mp f)/\cH k X.A/\X.mg x=some (.ref fa)/\W.keepIn X.K (.ref fa)=true/\Binds X.K fd ps []
 gds:∀ x tbl,C.W.lookup x=some tbl->∃ d kvs,X.mg x=some (.ref d)/\GDc X d kvs/\kvs.map (·.1)=tbl.map (·.1)/\∀ y m,RL.BC tbl (.str y)=some m->∃ q nm,(kvs.find? fun q=>decide (q.1=y))=some q/\C.F[m]?=some (nm,[])/\X.mg nm=some (.ref q.2)
 hfn:∀ (f:Nat) (x:Str),C.hf.contains f=true->C.F[f]?=some (x,[])->∃ k fa fd ps,oD X.prog X.w X.K X.mg X.base k fa fd ps (spF X.K cl f)/\gQ k X.A/\X.mg x=some (.ref fa)/\W.keepIn X.K (.ref fa)=true/\Binds X.K fd ps []
 cls:∀ c,C.Xr.contains c=true->∃ D,X.mg c=some (.ref D)/\Cls X.K c D/\W.excIn X.K D VE "ValueError.__new__" = true
 ref:∀ c,C.Xs.contains c=true->∃ D,X.mg c=some (.ref D)/\W.nsIn X.K mainGlobals c=some (some (.ref D))
section
variable{C:CC}{X:Cx}{cl:RL.Cl}{e:Expr}
def XOk.vis(h:XOk C X cl){x:Str}(v:Ci C x=true):Vis X.env.scope x:=by
 unfold Ci at v;rw[<-h.scope,or_eq_true,or_eq_true,beq_iff_eq,beq_iff_eq,beq_iff_eq]at v;rcases v with(v | v) | v
 ·exact .inl v
 ·exact .inr (.inl v)
 ·exact .inr (.inr v)
def XOk.loc(h:XOk C X cl){x:Str}(v:CS C x=true):Loc X.env.scope x:=by
 unfold CS at v;rw[<-h.scope,or_eq_true,beq_iff_eq,beq_iff_eq]at v;exact v
def cz{x:Str}(h:ko x=true):(x == ("__debug__" : Str))=false/\(x == ("__classdict__" : Str))=false:=by
 unfold ko at h;rw[and_eq_true,not_eq_true',not_eq_true']at h;exact h
def XOk.gl(h:XOk C X cl){x:Str}(v:glB C x=true):Gl X x/\ko x=true:=by
 unfold glB at v;rw[<-h.scope,and_eq_true,beq_iff_eq]at v;exact v
def XOk.bl(h:XOk C X cl){x:Str}(v:nM C x=true):Gl X x/\X.mg x=none:=by
 unfold nM at v;rw[and_eq_true]at v;exact#[(h.gl v.1).1,h.blt x (by simpa using v.2)]
def XOk.nm(h:XOk C X cl){i:Nat}{x:Str}(v:nmB C i x=true):X.N[i]?=some x/\ko x=true:=by
 unfold nmB at v;rw[<-h.names,and_eq_true,beq_iff_eq]at v;exact v
def XOk.ndX(h:XOk C X cl):X.N.Nodup:=by rw[h.names];exact h.nd
def XOk.blk(h:XOk C X cl){scope:Scope}(cls:List (Str × Addr))(I:Addr)(fp:List Addr)(s:Shared)(H:Hp):XOk (C.inner scope) (L2.blk X scope cls I fp s H) cl where
 scope:=by
  show relabel scope X.env=JG scope C.sc;rw[<-h.scope];rfl
 names:=h.names
 nd:=h.nd
 calm:=h.calm
 xe:=rfl
 hu:=h.hu
 blt:=h.blt
 glb:=h.glb
 fns:=h.fns
 hfn:=h.hfn
 cls:=h.cls
 ref:=h.ref
 gds:=h.gds
abbrev jy:RL.D->Const->Bool
 | .int i,.int j=>i == j
 | .bl i,.bool j=>i == j
 | .non,.none=>true
 | .str x,.str y=>x == y
 | _,_=>false
abbrev plainT:Expr->Bool
 | .UnaryOp .Not _ _=>false
 | .BoolOp _ _ _=>false
 | .IfExp _ _ _ _=>false
 | .Compare _ _ _ _=>false
 | _=>true
abbrev uR:Expr->Bool
 | .BoolOp _ _ _=>true
 | _=>false
abbrev oP:Expr->Bool
 | .Set _ _ _=>false
 | _=>true
abbrev xC:RL.Bi->Option Str
 | .len=>some "len"
 | .list=>some "list"
 | .tuple=>some "tuple"
 | .int=>some "int"
 | .all=>some "all"
 | _=>none
abbrev vc:RL.Ty->Str
 | .int => "int"
 | .bool => "bool"
 | .list => "list"
 | .tuple => "tuple"
 | .str => "str"
abbrev Ld(neg:Bool):CmpOp:=if neg then .IsNot else .Is
abbrev FL(neg:Bool):CmpOp:=if neg then .NotIn else .In
abbrev sG(C:CC)(i:Nat)(e:Expr):Bool:=(eN e).any fun x=>nmB C i x&&Ci C x
abbrev i7(C:CC)(i:Nat)(e:Expr):Bool:=(eN e).any fun x=>nmB C i x&&CS C x
abbrev m7(C:CC):List Nat->List Expr->Bool
 | [],es=>es.isEmpty
 | i::is,es=>match es with
  | e::es=>i7 C i e&&m7 C is es
  | []=>false
abbrev pU(C:CC)(tg:List Nat)(e:Expr):Bool :=
 match tg with
 | [i]=>i7 C i e
 | tg=>(mm e).any fun es=>m7 C tg es
abbrev oZ(C:CC)(scope:Scope)(tg:List Nat):Bool:=tg.all fun i=>match C.N[i]? with
 | some x=>scope.names.lookup x == some .local || scope.names.lookup x == some .cell
 | none=>false
abbrev pQ(C:CC)(scope:Scope)(tg:List Nat):Bool:=(List.range C.N.length).all fun i=>match C.N[i]? with
 | some x=>!(scope.names.lookup x == some .local || scope.names.lookup x == some .cell) || tg.contains i
 | none=>true
abbrev scB(scope sc:Scope):Bool:=scope.kind == .function&&scope.names.all (fun x=>(!(x.2 == .cell) || scope.names.lookup x.1 == some .cell)&&(!(x.2 == .local) || scope.names.lookup x.1 == some .local)&&(!(x.2 == .free) || sc.names.lookup x.1 == some .cell || sc.names.lookup x.1 == some .free))
abbrev bN(C:CC)(e:Expr)(nm:Str)(f:List Expr->Bool):Bool:=(kP e).any fun q=>(eN q.1).any (fun x=>x == nm&&nM C x)&&q.2.2.1.isEmpty&&q.2.1.all noStar&&f q.2.1
def bw{nm:Str}{f:List Expr->Bool}(h:XOk C X cl)(z:bN C e nm f=true):∃ p O I,e=.Call (.Name nm p) O [] I/\Gl X nm/\X.mg nm=none/\O.all noStar=true/\f O=true:=by
 unfold bN at z;obtain⟨⟨g,O,ks,I⟩,Z,z⟩:=aj z;have c:=fE Z;subst c;refine a4 z fun z1 z2 Y U=>?_;obtain⟨x,b,z1⟩:=aj z1;obtain⟨p,rfl⟩:=cV b;obtain⟨R,a⟩:=aC z1;rw[beq_iff_eq]at R;subst R;obtain⟨b1,b2⟩:=h.bl a;rw[Qp]at z2;subst z2;exact#[p,O,I,rfl,b1,b2,Y,U]
def all1{a:Expr}(h:[a].all noStar=true):noStar a=true:=by simpa using h
def all2{a b:Expr}(h:[a,b].all noStar=true):noStar a=true/\noStar b=true:=by simpa using h
def qO{a b c:Expr}(h:[a,b,c].all noStar=true):noStar a=true/\noStar b=true/\noStar c=true:=by simpa using h
end
abbrev yh:RL.It->Bool
 | .zip _ _=>true
 | _=>false
mutual
noncomputable def chk(C:CC)(t:Bool):RL.E->Expr->Bool
 | .var i=>fun e=>sG C i e
 | .cst d=>fun e=>(qE e).any fun k=>jy d k
 | .glb y i=>fun e=>(eN e).any fun x=>x == y&&glB C x&&C.G.lookup x == some i
 | .bin o a b=>fun e=>(Iu e).any fun q=>q.2.1 == uc o&&chk C false a q.1&&chk C false b q.2.2
 | .neg a=>fun e=>(vUn e).any fun q=>q.1 == .USub&&chk C false a q.2
 | .cmp c a b=>fun e=>(oj e).any fun q=>of1 q.2.1 fun O=>of1 q.2.2 fun r=>O == eK c&&chk C false a q.1&&chk C false b r
 | .chain c c' a b d=>fun e=>(oj e).any fun q=>of2 q.2.1 fun O R=>of2 q.2.2 fun r s=>O == eK c&&R == eK c'&&chk C false a q.1&&chk C false b r&&chk C false d s
 | .isN neg a=>fun e=>(oj e).any fun q=>of1 q.2.1 fun O=>of1 q.2.2 fun r=>O == Ld neg&&(qE r).any (fun k=>jy .non k)&&chk C false a q.1
 | .inn neg a b=>fun e=>(oj e).any fun q=>of1 q.2.1 fun O=>of1 q.2.2 fun r=>O == FL neg&&nX r&&chk C false a q.1&&chk C false b r
 | .inD neg a b=>fun e=>(oj e).any fun q=>of1 q.2.1 fun O=>of1 q.2.2 fun r=>O == FL neg&&nX r&&chk C false a q.1&&chk C false b r
 | .and a b=>fun e=>(vBool e).any fun q=>ofM q.2.1 fun l r rest=>q.1 == .And&&chk C t a l&&(if rest.isEmpty then chk C t b r else chk C t b (.BoolOp .And (r::rest) q.2.2))
 | .or a b=>fun e=>(vBool e).any fun q=>ofM q.2.1 fun l r rest=>q.1 == .Or&&chk C t a l&&(if rest.isEmpty then chk C t b r else chk C t b (.BoolOp .Or (r::rest) q.2.2))
 | .not a=>fun e=>(vUn e).any fun q=>q.1 == .Not&&chk C t a q.2
 | .ifx c a b=>fun e=>(HM e).any fun q=>!t&&chk C true c q.1&&chk C false a q.2.1&&chk C false b q.2.2
 | .tup es=>fun e=>(mm e).any fun xs=>mU C es xs&&decide (fq es<=1000)
 | .lst es=>fun e=>(JA e).any fun xs=>mU C es xs&&decide (fq es<=1000)
 | .ix a b=>fun e=>(uq e).any fun q=>nS q.2&&chk C false a q.1&&chk C false b q.2
 | .ixD a b=>fun e=>(uq e).any fun q=>nS q.2&&chk C false a q.1&&chk C false b q.2
 | .slT a b=>fun e=>(uq e).any fun q=>chk C false a q.1&&(vSl q.2).any fun s=>s.1.isNone&&s.2.2.isNone&&s.2.1.any fun r=>chk C false b r
 | .call f es=>fun e=>(C.calm || C.hf.contains f)&&(kP e).any fun q=>(eN q.1).any (fun x=>glB C x&&C.F[f]? == some (x,[]))&&q.2.2.1.isEmpty && !q.2.1.isEmpty&&mU C es q.2.1
 | .bi b a=>fun e=>C.calm&&match b with
  | .lenSet=>bN C e "len" fun ys=>of1 ys fun y=>bN C y "set" fun I=>of1 I fun z=>chk C false a z
  | b=>(xC b).any fun x=>bN C e x fun ys=>of1 ys fun y=>chk C false a y
 | .max a b=>fun e=>C.calm&&bN C e "max" fun ys=>of2 ys fun y z=>chk C false a y&&chk C false b z
 | .isi a ty=>fun e=>bN C e "isinstance" fun ys=>of2 ys fun y z=>(eN z).any (fun x=>x == vc ty&&nM C x)&&chk C false a y
 | .rng1 a=>fun e=>C.calm&&bN C e "list" fun ys=>of1 ys fun y=>bN C y "range" fun I=>of1 I fun z=>chk C false a z
 | .rngT a=>fun e=>C.calm&&bN C e "tuple" fun ys=>of1 ys fun y=>bN C y "range" fun I=>of1 I fun z=>chk C false a z
 | .rng2 a b=>fun e=>C.calm&&bN C e "list" fun ys=>of1 ys fun y=>bN C y "range" fun I=>of2 I fun z u=>chk C false a z&&chk C false b u
 | .rng3 c a b=>fun e=>C.calm&&bN C e "list" fun ys=>of1 ys fun y=>bN C y "range" fun I=>of3 I fun z u q=>j3 c q&&chk C false a z&&chk C false b u
 | .comp d tg it c=>fun e=>(xy e).any fun q=>of1 q.2.1 fun g=>of1 g.ifs fun w=>g.is_async == 0&&scB q.2.2.1 C.sc&&pQ C q.2.2.1 tg&&oP g.iter&&pU (C.inner q.2.2.1) tg g.target&&oZ C q.2.2.1 tg&&vd C it g.target g.iter&&chk (C.inner q.2.2.1) false d q.1&&chk (C.inner q.2.2.1) true c w&&(C.calm || yh it)
 | .compA d tg it=>fun e=>(xy e).any fun q=>of1 q.2.1 fun g=>g.ifs.isEmpty&&g.is_async == 0&&scB q.2.2.1 C.sc&&pQ C q.2.2.1 tg&&oP g.iter&&pU (C.inner q.2.2.1) tg g.target&&oZ C q.2.2.1 tg&&vd C it g.target g.iter&&chk (C.inner q.2.2.1) false d q.1&&C.calm
 | .dk0=>fun e=>(yb e).any fun q=>q.1.isEmpty&&q.2.isEmpty
 | .dt0=>fun e=>(yb e).any fun q=>q.1.isEmpty&&q.2.isEmpty
 | .join a=>fun e=>(kP e).any fun q=>(yp q.1).any (fun u=>u.2.1 == ("join" : Str)&&u.2.2.endLine == q.2.2.2.line&&(qE u.1).any fun k=>jy (.str ⟨(List.toArray [])⟩) k)&&q.2.2.1.isEmpty&&of1 q.2.1 fun y=>noStar y&&chk C false a y
 | .isx a c=>fun e=>bN C e "isinstance" fun ys=>of2 ys fun y z=>(eN z).any (fun x=>x == c&&(if c == ("ValueError" : Str)then nM C x else glB C x&&C.Xs.contains x&&d7.contains x))&&chk C false a y
noncomputable def mU(C:CC):RL.Es->List Expr->Bool
 | .nil=>fun xs=>xs.isEmpty
 | .cons e es=>fun xs=>match xs with
  | x::xs=>noStar x&&chk C false e x&&mU C es xs
  | []=>false
noncomputable def vd(C:CC):RL.It->Expr->Expr->Bool
 | .seq a=>fun _ e=>chk C false a e
 | .rng1 a=>fun _ e=>bN C e "range" fun ys=>of1 ys fun y=>chk C false a y
 | .rng2 a b=>fun _ e=>bN C e "range" fun ys=>of2 ys fun y z=>chk C false a y&&chk C false b z
 | .rng3 c a b=>fun _ e=>bN C e "range" fun ys=>of3 ys fun y z q=>j3 c q&&chk C false a y&&chk C false b z
 | .enm a=>fun tg e=>(mm tg).isSome&&bN C e "enumerate" fun ys=>of1 ys fun y=>chk C false a y
 | .zip a b=>fun tg e=>(mm tg).isSome&&bN C e "zip" fun ys=>of2 ys fun y z=>chk C false a y&&chk C false b z
end
abbrev u7(X:Cx)(cl:RL.Cl)(e:Expr)(e':RL.E)(b I:Bool):Prop:=(b=true->SE X cl e e')/\(I=true->ST X cl e e'/\(uR e=true->SW X cl e e'))
section
variable{C:CC}{X:Cx}{cl:RL.Cl}{e:Expr}{e':RL.E}{b:Bool}
def xj{env:Env}(h:plainT e=true)(whole:Sem Value):isTrue e env whole=(do let v <- whole;standAt e.pos;holding [v] (truthy v)):=by
 cases e<;>first
  | rfl
  | (cases h;done)
  | (rename_i I _ _;cases I<;>first | rfl | (cases h;done))
def aI(h:b=true->SE X cl e e'/\plainT e=true):u7 X cl e e' b b :=
 ⟨fun z=>(h z).1,fun z=>⟨C6 (h z).1 (xj (h z).2),fun q=>by
  have:=(h z).2
  cases e<;>first | (cases q;done) | (cases this;done)⟩⟩
def iT(h:b=true->SE X cl e e'/\ST X cl e e'/\uR e=false):u7 X cl e e' b b :=
 ⟨fun z=>(h z).1,fun z=>⟨(h z).2.1,fun q=>by rw[(h z).2.2]at q;cases q⟩⟩
def Mp(h:b=false){I:Bool}(h':I=false):u7 X cl e e' b I:=⟨fun z=>(by rw[h]at z;cases z),fun z=>(by rw[h']at z;cases z)⟩
def HN{d:RL.D}{k:Const}{j:Nat}{I:Pos}(h:jy d k=true):SE X cl (.Constant k j I) (.cst d):=by
 cases d<;>cases k<;>simp only[jy]at h<;>first | (cases h;done) | skip
 case non.none=>exact oH ug (fun P H=>by rw[Rep]) rfl
 case bl.bool i j=>rw[beq_iff_eq]at h;subst h;exact oH Kl (fun P H=>uo) rfl
 case int.int i j=>rw[beq_iff_eq]at h;subst h;exact oH vq (fun P H=>bg) rfl
 case str.str i j=>rw[beq_iff_eq]at h;subst h;exact oH uK (fun P H=>iQ) rfl
def E7{k:Const}(h:jy .non k=true):k=.none:=by
 cases k<;>simp only[jy]at h<;>first | (cases h;done) | rfl
def zT(t:RL.Ty):bootBuiltins (vc t)=some (.type (tyN t))/\vc t ≠ "__name__" /\ (vc t == ("__debug__" : Str))=false:=by
 cases t<;>exact#[by decide +kernel,by decide +kernel,by decide +kernel]
def eE(h:oP e=true)(env:Env)(x:Value):foldedSetIterable e env x=pure x:=by
 cases e<;>first | rfl | (cases h;done)
def Kw(R:X.calm=true){o:RL.Bi}{x:Str}{p U:Pos}{y:Expr}{Y:RL.E}(O:xC o=some x)(hb:Gl X x)(I:X.mg x=none)(ha:SE X cl y Y)(hn:noStar y=true):SE X cl (.Call (.Name x p) [y] [] U) (.bi o Y):=by
 cases o<;>simp only[xC]at O<;>first | (cases O;done) | skip
 case len=>cases O;exact Ia hb I ha hn
 case list=>cases O;exact F5 hb I ha hn
 case tuple=>cases O;exact Bq hb I ha hn
 case int=>cases O;exact Jm hb I ha hn
 case all=>cases O;exact Hh R hb I ha hn
def AE{r:Expr}(h:nS r=true):yA r:=by
 cases r<;>first | (cases h;done) | (intro a b;rfl) | skip
def jZ{i:Nat}(h:XOk C X cl)(z:sG C i e=true):∃ x p,e=.Name x p/\X.N[i]?=some x/\Vis X.env.scope x/\(x == ("__debug__" : Str))=false/\(x == ("__classdict__" : Str))=false:=by
 obtain⟨x,O,z⟩:=aj z;obtain⟨p,rfl⟩:=cV O;k_get;obtain⟨R,I⟩:=h.nm z1;exact#[x,p,rfl,R,h.vis z2,(cz I).1,(cz I).2]
def gj{i:Nat}(h:XOk C X cl)(z:i7 C i e=true):∃ x p,e=.Name x p/\X.N[i]?=some x/\Loc X.env.scope x:=by
 obtain⟨x,I,z⟩:=aj z;obtain⟨p,rfl⟩:=cV I;k_get;exact#[x,p,rfl,(h.nm z1).1,h.loc z2]
def ng(h:XOk C X cl){T:List Nat}(hf:∀ i x,i∈T->X.N[i]?=some x->X.fn x=true\/X.env.scope.names.lookup x=some .local):∀ {is:List Nat} {es:List Expr},(∀ i∈is,i∈T)->m7 C is es=true->PGs X es (gs is)/\(assignEach es X.env).length=is.length/\(assignEach es X.env).findIdx? (·.1)=none
 | [],es,_,z=>by
  rw[m7,Qp]at z;subst z;exact#[Ez,rfl,rfl]
 | i::is,[],_,z=>by cases z
 | i::is,e::es,hs,z=>by
  rw[m7]at z;k_get;obtain⟨x,p,rfl,I,Z⟩:=gj h z1;obtain⟨Y,U,R⟩:=ng h hf (fun j O=>hs j (Qk _ O)) z2;refine#[Bu (wZ h.ndX I Z (hf i x (hs i Qq) I)) Y rfl,?_,?_]
  ·show(assignEach es X.env).length+1=is.length+1;rw[U]
  ·show List.findIdx? (·.1) ((false,assign (.Name x p) X.env)::assignEach es X.env)=none;rw[List.findIdx?_cons];simp only[false_eq_true,if_false,R,Option.map_none]
def uL{tg:List Nat}{tgE:Expr}(h:XOk C X cl)(hf:∀ i x,i∈tg->X.N[i]?=some x->X.fn x=true\/X.env.scope.names.lookup x=some .local)(I:pU C tg tgE=true):PG X tgE (gT X.K tg):=by
 unfold pU at I;split at I
 ·obtain⟨x,p,rfl,Z,b⟩:=gj h I;exact wZ h.ndX Z b (hf _ x (by simp) Z)
 ·rename_i O;obtain⟨es,a,z⟩:=aj I;obtain⟨k,p,rfl⟩:=eJ a;obtain⟨Y,U,R⟩:=ng h hf (fun i hi=>hi) z
  have e:gT X.K tg=fun v J H Q=>qK X.K tg.length (gs tg) v J H Q\/ql X.K tg.length (gs tg) v J H Q:=by
   unfold gT;split
   ·rename_i i;exact absurd rfl (O i)
   ·rfl
  rw[e];exact tY (qj Y U R) (qd Y U R)
section rulesH
variable{pos:Pos}
def BX(F:oD X.prog X.w X.K X.mg X.base k fa fd ps (spF X.K cl f))(g:gQ k X.A)(hg:Gl X x)
 (hm:X.mg x=some (.ref fa))(hk:W.keepIn X.K (.ref fa)=true)(hb:Binds X.K fd ps [])(l:SEs X cl (e::es) (.cons e' es'))(Z:(x == ("__debug__" : Str))=false)(hn:noStar e=true)(Y:es.all noStar=true) :
  SE X cl (.Call (.Name x p) (e::es) [] pos) (.call f (.cons e' es')):=by
 refine PE.weak (B6 F g hg hm hk hb l Z (ay es hn) (d5 Y)) fun J H Q h=>?_;obtain⟨U,d,b,ev,q⟩:=h;obtain⟨ds,R,O⟩:=bind_some ev;refine#[U,ds,b,R,fun vs r s1 c=>?_];refine#[ds,d,c,O,fun v H2 s2 I=>q v H2 #[s1.trans s2,I.none,fun _ m a z=>?_,fun M _ P n _=>?_]]
 ·subst z
  have j:r a=none:=by
   cases d with
   | lst ds=>obtain⟨p,xs,R,O,_⟩:=aW I;cases R;exact Classical.byContradiction O
   | dK ks ds=>rw[Rep]at I;obtain⟨p,xs,R,O,_⟩:=I;cases R;exact Classical.byContradiction O
   | dT ks ds=>rw[Rep]at I;obtain⟨p,xs,R,O,_⟩:=I;cases R;exact Classical.byContradiction O
   | _=>cases m
  exact s1.free j
 ·refine I.weak fun a z=>?_;obtain⟨o,i⟩:=Option.ne_none_iff_exists'.mp (n a z);rw[s1 _ _ i]
  exact fun q=>nomatch q
end rulesH
def HG{x:Str}{i:Int}{I:Pos}(h:XOk C X cl)(hg:glB C x=true)(hl:C.G.lookup x=some i):SE X cl (.Name x I) (.glb x i):=by
 obtain⟨u,R,O⟩:=h.glb x i hl;obtain⟨Y,U⟩:=h.gl hg;exact HB (u:=u) (vJ Y R O (cz U).1)
def EK{x:Str}{f:Nat}(O:(C.calm || C.hf.contains f)=true){p R:Pos}{y:Expr}{ys:List Expr}{es:RL.Es}(h:XOk C X cl)(hg:glB C x=true)(hf:C.F[f]?=some (x,[]))(Z:SEs X cl (y::ys) es)(hl:fq es=ys.length+1)(hn:noStar y=true)(I:ys.all noStar=true) :
  SE X cl (.Call (.Name x p) (y::ys) [] R) (.call f es):=by
 obtain⟨c,b⟩:=h.gl hg;by_cases a:C.calm=true
 ·obtain⟨k,fa,fd,ps,F,U,hm,hk,hb⟩:=h.fns f x [] a hf;rw[if_pos rfl]at F
  cases es with
  | nil=>simp[fq]at hl
  | cons e' Y=>exact Ew F U c hm hk hb Z (cz b).1 hn I
 ·have d:C.hf.contains f=true:=by simpa[a]using O
  obtain⟨k,fa,fd,ps,F,U,hm,hk,hb⟩:=h.hfn f x d hf
  cases es with
  | nil=>simp[fq]at hl
  | cons e' Y=>exact BX F U c hm hk hb Z (cz b).1 hn I
def oV{scope sc:Scope}(h:scB scope sc=true):qt scope sc:=by
 unfold scB at h;obtain⟨R,O⟩:=aC h;rw[Qu]at O;refine#[by simpa using R,fun x I z=>?_,fun x I z=>?_,fun x I z=>?_]
 ·have:=O x I;rw[z]at this;simpa using this
 ·have:=O x I;rw[z]at this;simpa using this
 ·have:=O x I;rw[z]at this;simpa using this
def kC{scope:Scope}{tg:List Nat}(h:pQ C scope tg=true)(i:Nat)(x:Str)(I:C.N[i]?=some x)(hl:scope.names.lookup x=some .local\/scope.names.lookup x=some .cell):tg.contains i=true:=by
 unfold pQ at h;rw[Qu]at h;have:=h i (List.mem_range.mpr (List.getElem?_eq_some_iff.mp I).1);rw[I]at this;rcases hl with hl | hl
 ·simp only[hl,beq_self_eq_true,Bool.true_or,Bool.not_true,Bool.false_or]at this;exact this
 ·simp only[hl,beq_self_eq_true,Bool.or_true,Bool.not_true,Bool.false_or]at this;exact this
def qW{X:Cx}{cls:List (Str × Addr)}{scope:Scope}{O:Addr}{fp:List Addr}{s:Shared}{H:Hp}{pins:List (Addr × Obj)}{s':Shared}{J:L2.St}{H':Hp}{Q:Bool->Hp->Prop}(I:Inv (L2.blk X scope cls O fp s H) pins J H' s')(q:oJ J H' Q) :
  wpAny (model X.prog X.w) X.A (jj [] (compEnvC scope cls O X.env)) (TP (L2.blk X scope cls O fp s H) pins J Q) (fun _ _=>False) s':=by
 unfold jj;exact Qd ⟨H',I,q⟩
def rq{X:Cx}{cls:List (Str × Addr)}{scope:Scope}{O:Addr}{fp:List Addr}{s:Shared}{H:Hp}{pins:List (Addr × Obj)}{s':Shared}{J:L2.St}{H':Hp}{Q:Bool->Hp->Prop}{c:Expr}{t:TT}(R:PT (L2.blk X scope cls O fp s H) c t)(I:Inv (L2.blk X scope cls O fp s H) pins J H' s')(q:t J H' Q) :
  wpAny (model X.prog X.w) X.A (jj [c] (compEnvC scope cls O X.env)) (TP (L2.blk X scope cls O fp s H) pins J Q) (fun _ _=>False) s':=by
 have h:=R pins s' J H' Q I q;unfold jj;simp only[List.forIn_cons,List.forIn_nil,if_true];refine Qa (Qa (thn h fun b s1 hb=>Qd ?_));exact Qd hb
def oY(h:XOk C X cl){scope:Scope}{cls:List (Str × Addr)}{O:Addr}{fp:List Addr}{s:Shared}{H:Hp}{tg:List Nat}(ha:oZ C scope tg=true){tgE:Expr}(R:pU (C.inner scope) tg tgE=true):PG (L2.blk X scope cls O fp s H) tgE (gT X.K tg):=by
 have hb:=h.blk (scope:=scope) cls O fp s H;unfold oZ at ha;rw[Qu]at ha;refine uL hb (fun i x hi I=>?_) R;have:=ha i hi;have I:X.N[i]?=some x:=I;rw[h.names]at I;rw[I]at this;simp only[or_eq_true,beq_iff_eq]at this;rcases this with z | z
 ·exact .inr (lookup_relabel_local z)
 ·exact .inl (by show(scope.names.lookup x == some .cell)=true;rw[z];rfl)
def mK{α:Type}{o:Option α}(h:o.isNone=true):o=none:=by
 cases o with
 | none=>rfl
 | some _=>cases h
end
mutual
theorem ah{cl:RL.Cl}:∀ (e':RL.E) {C:CC} {X:Cx} (h:XOk C X cl) (e:Expr),u7 X cl e e' (chk C false e' e) (chk C true e' e)
 | .var i,C,X,h,e=>aI (b:=chk C false (.var i) e) fun z=>by
  obtain⟨x,p,rfl,g1,g2,g3,g4⟩:=jZ h z;exact#[Hr g1 g2 g3 g4,rfl]
 | .cst d,C,X,h,e=>aI (b:=chk C false (.cst d) e) fun z=>by
  obtain⟨k,R,z⟩:=aj z;obtain⟨j,p,rfl⟩:=km R;exact#[HN z,rfl]
 | .glb y i,C,X,h,e=>aI (b:=chk C false (.glb y i) e) fun z=>by
  obtain⟨x,R,z⟩:=aj z;obtain⟨p,rfl⟩:=cV R;refine a3 z fun z1 z2 O=>?_;rw[beq_iff_eq]at z1 O;subst z1;exact#[HG h z2 O,rfl]
 | .bin o a b,C,X,h,e=>aI (b:=chk C false (.bin o a b) e) fun z=>by
  obtain⟨⟨l,m,r⟩,R,z⟩:=aj z;obtain⟨p,rfl⟩:=DL R;refine a3 z fun z1 z2 O=>?_;rw[beq_iff_eq]at z1;have z1:m=uc o:=z1;subst z1;exact#[Ig ((ah a h l).1 z2) ((ah b h r).1 O),rfl]
 | .neg a,C,X,h,e=>aI (b:=chk C false (.neg a) e) fun z=>by
  obtain⟨⟨m,x⟩,R,z⟩:=aj z;obtain⟨p,rfl⟩:=uy R;k_get;rw[beq_iff_eq]at z1;have z1:m=.USub:=z1;subst z1;exact#[Ga ((ah a h x).1 z2),rfl]
 | .cmp c a b,C,X,h,e=>iT (b:=chk C false (.cmp c a b) e) fun z=>by
  obtain⟨⟨l,os,rs⟩,R,z⟩:=aj z;obtain⟨p,rfl⟩:=iK R;obtain⟨m,U,z⟩:=aK z;obtain⟨r,Z,z⟩:=aK z;have U:os=[m]:=U;have Z:rs=[r]:=Z;subst U Z;refine a3 z fun z1 z2 O=>?_;rw[beq_iff_eq]at z1;subst z1;exact#[GC h.hu ((ah a h l).1 z2) ((ah b h r).1 O),Jk h.hu ((ah a h l).1 z2) ((ah b h r).1 O),rfl]
 | .chain c c' a b d,C,X,h,e=>iT (b:=chk C false (.chain c c' a b d) e) fun z=>by
  obtain⟨⟨l,os,rs⟩,R,z⟩:=aj z;obtain⟨p,rfl⟩:=iK R;obtain⟨m,op',U,z⟩:=eC z;obtain⟨r,s,Z,z⟩:=eC z;have U:os=[m,op']:=U;have Z:rs=[r,s]:=Z;subst U Z;refine a5 z fun z1 z2 O Y v=>?_;rw[beq_iff_eq]at z1 z2;subst z1 z2;exact#[B5 h.hu ((ah a h l).1 O) ((ah b h r).1 Y) ((ah d h s).1 v),Bm h.hu ((ah a h l).1 O) ((ah b h r).1 Y) ((ah d h s).1 v),rfl]
 | .isN neg a,C,X,h,e=>iT (b:=chk C false (.isN neg a) e) fun z=>by
  obtain⟨⟨l,os,rs⟩,R,z⟩:=aj z;obtain⟨p,rfl⟩:=iK R;obtain⟨m,U,z⟩:=aK z;obtain⟨r,Z,z⟩:=aK z;have U:os=[m]:=U;have Z:rs=[r]:=Z;subst U Z;refine a3 z fun z1 z2 O=>?_;rw[beq_iff_eq]at z1;subst z1;obtain⟨k,T,w⟩:=aj z2;obtain⟨j,q,rfl⟩:=km T;have w:=E7 w;subst w;exact#[HW ((ah a h l).1 O),Je ((ah a h l).1 O),rfl]
 | .inn neg a b,C,X,h,e=>iT (b:=chk C false (.inn neg a b) e) fun z=>by
  obtain⟨⟨l,os,rs⟩,R,z⟩:=aj z;obtain⟨p,rfl⟩:=iK R;obtain⟨m,U,z⟩:=aK z;obtain⟨r,Z,z⟩:=aK z;have U:os=[m]:=U;have Z:rs=[r]:=Z;subst U Z;refine a4 z fun z1 z2 O Y=>?_;rw[beq_iff_eq]at z1;subst z1;exact#[GY ((ah a h l).1 O) ((ah b h r).1 Y) z2,Hw ((ah a h l).1 O) ((ah b h r).1 Y) z2,rfl]
 | .inD neg a b,C,X,h,e=>iT (b:=chk C false (.inD neg a b) e) fun z=>by
  obtain⟨⟨l,os,rs⟩,R,z⟩:=aj z;obtain⟨p,rfl⟩:=iK R;obtain⟨m,U,z⟩:=aK z;obtain⟨r,Z,z⟩:=aK z;have U:os=[m]:=U;have Z:rs=[r]:=Z;subst U Z;refine a4 z fun z1 z2 O Y=>?_;rw[beq_iff_eq]at z1;subst z1;exact#[HS h.hu ((ah a h l).1 O) ((ah b h r).1 Y) z2,JB h.hu ((ah a h l).1 O) ((ah b h r).1 Y) z2,rfl]
 | .and a b,C,X,h,e=>⟨(fun z=>by
   obtain⟨⟨m,es,p⟩,R,z⟩:=aj z;obtain⟨l,r,rest,U,z⟩:=pK z;have P:=kF R;have U:es=l::r::rest:=U;refine a3 z fun z1 z2 O=>?_;rw[beq_iff_eq]at z1;have z1:m=.And:=z1;subst U z1 P;refine G8 ((ah a h l).1 z2) ?_;split at O
   ·rename_i V;rw[Qp]at V;subst V;exact yG ((ah b h r).1 O)
   ·exact(ah b h _).1 O),(fun z=>by
   obtain⟨⟨m,es,p⟩,R,z⟩:=aj z;obtain⟨l,r,rest,U,z⟩:=pK z;have P:=kF R;have U:es=l::r::rest:=U;refine a3 z fun z1 z2 O=>?_;rw[beq_iff_eq]at z1;have z1:m=.And:=z1;subst U z1 P
   have w:SW X cl (.BoolOp .And (l::r::rest) p) (.and a b):=by
    refine Jq ((ah a h l).2 z2).1 ?_;split at O
    ·rename_i V;rw[Qp]at V;subst V;exact zF ((ah b h r).2 O).1
    ·exact((ah b h _).2 O).2 rfl
   exact#[w.pt,fun _=>w])⟩
 | .or a b,C,X,h,e=>⟨(fun z=>by
   obtain⟨⟨m,es,p⟩,R,z⟩:=aj z;obtain⟨l,r,rest,U,z⟩:=pK z;have P:=kF R;have U:es=l::r::rest:=U;refine a3 z fun z1 z2 O=>?_;rw[beq_iff_eq]at z1;have z1:m=.Or:=z1;subst U z1 P;refine JT ((ah a h l).1 z2) ?_;split at O
   ·rename_i V;rw[Qp]at V;subst V;exact yG ((ah b h r).1 O)
   ·exact(ah b h _).1 O),(fun z=>by
   obtain⟨⟨m,es,p⟩,R,z⟩:=aj z;obtain⟨l,r,rest,U,z⟩:=pK z;have P:=kF R;have U:es=l::r::rest:=U;refine a3 z fun z1 z2 O=>?_;rw[beq_iff_eq]at z1;have z1:m=.Or:=z1;subst U z1 P
   have w:SW X cl (.BoolOp .Or (l::r::rest) p) (.or a b):=by
    refine JY ((ah a h l).2 z2).1 ?_;split at O
    ·rename_i V;rw[Qp]at V;subst V;exact zF ((ah b h r).2 O).1
    ·exact((ah b h _).2 O).2 rfl
   exact#[w.pt,fun _=>w])⟩
 | .not a,C,X,h,e=>⟨(fun z=>by
   obtain⟨⟨m,x⟩,R,z⟩:=aj z;obtain⟨p,rfl⟩:=uy R;k_get;rw[beq_iff_eq]at z1;have z1:m=.Not:=z1;subst z1
   exact Hl ((ah a h x).1 z2)),(fun z=>by
   obtain⟨⟨m,x⟩,R,z⟩:=aj z;obtain⟨p,rfl⟩:=uy R;k_get;rw[beq_iff_eq]at z1;have z1:m=.Not:=z1;subst z1
   exact⟨G4 ((ah a h x).2 z2).1,fun q=>by cases q⟩)⟩
 | .ifx c a b,C,X,h,e=>⟨(fun z=>by
   obtain⟨⟨q,l,r⟩,R,z⟩:=aj z;obtain⟨p,rfl⟩:=E6 R;refine a4 z fun z1 z2 O Y=>?_
   exact Gq ((ah c h q).2 z2).1 ((ah a h l).1 O) ((ah b h r).1 Y)),(fun z=>by
   obtain⟨⟨q,l,r⟩,R,z⟩:=aj z;refine a4 z fun z1 z2 O Y=>?_
   cases z1)⟩
 | .tup es,C,X,h,e=>aI (b:=chk C false (.tup es) e) fun z=>by
  obtain⟨xs,R,z⟩:=aj z;obtain⟨k,p,rfl⟩:=eJ R;k_get;exact#[Hx (ja es h _ z1).1 (by simpa using z2),rfl]
 | .lst es,C,X,h,e=>aI (b:=chk C false (.lst es) e) fun z=>by
  obtain⟨xs,R,z⟩:=aj z;obtain⟨p,rfl⟩:=Fp R;k_get;exact#[GZ (ja es h _ z1).1 (by simpa using z2),rfl]
 | .ix a b,C,X,h,e=>aI (b:=chk C false (.ix a b) e) fun z=>by
  obtain⟨⟨l,r⟩,R,z⟩:=aj z;obtain⟨p,rfl⟩:=kh R;refine a3 z fun z1 z2 O=>?_;exact#[JO ((ah a h l).1 z2) ((ah b h r).1 O) z1,rfl]
 | .ixD a b,C,X,h,e=>aI (b:=chk C false (.ixD a b) e) fun z=>by
  obtain⟨⟨l,r⟩,R,z⟩:=aj z;obtain⟨p,rfl⟩:=kh R;refine a3 z fun z1 z2 O=>?_;exact#[Ja h.hu ((ah a h l).1 z2) ((ah b h r).1 O) (AE z1),rfl]
 | .slT a b,C,X,h,e=>aI (b:=chk C false (.slT a b) e) fun z=>by
  obtain⟨⟨l,s⟩,R,z⟩:=aj z;obtain⟨p,rfl⟩:=kh R;obtain⟨z1,z⟩:=aC z;obtain⟨⟨s1,s2,s3⟩,R,z⟩:=aj z;obtain⟨q,P⟩:=Jy R;have P:s=.Slice s1 s2 s3 q:=P;refine a3 z fun z2 O Y=>?_;have L:s1=none:=mK z2;have w3:s3=none:=mK O;obtain⟨r,y0,Y⟩:=aj Y;have U:s2=some r:=y0;rw[L,w3,U]at P;subst P;exact#[Jg ((ah a h l).1 z1) ((ah b h r).1 Y),rfl]
 | .call f es,C,X,h,e=>aI (b:=chk C false (.call f es) e) fun z=>by
  obtain⟨A,z⟩:=aC z;obtain⟨⟨g,S,ks,p⟩,R,z⟩:=aj z;have R:=fE R;subst R;refine a4 z fun z1 z2 O Y=>?_;obtain⟨x,y0,z1⟩:=aj z1;obtain⟨q,P⟩:=cV y0;have P:g=.Name x q:=P;obtain⟨U,Z⟩:=aC z1;rw[beq_iff_eq]at Z
  have L:ks=[]:=by rw[Qp]at z2;exact z2
  subst P L;obtain⟨q1,q2,q3⟩:=ja es h _ Y;dsimp only at O q1 q2 q3
  cases S with
  | nil=>cases O
  |cons y ys=>
   rw[Qx]at q3;exact#[EK A h U Z q1 q2 (aC q3).1 (aC q3).2,rfl]
 | .bi o a,C,X,h,e=>by
  have gen:(∀ t,chk C t (.bi o a) e=(C.calm&&(xC o).any fun x=>bN C e x fun ys=>of1 ys fun y=>chk C false a y))->u7 X cl e (.bi o a) (chk C false (.bi o a) e) (chk C true (.bi o a) e):=fun heq=>by
   rw[heq,heq];refine aI fun z=>?_;obtain⟨A,z⟩:=aC z;obtain⟨x,y0,z⟩:=aj z;k_cls;obtain⟨y,rfl,Y⟩:=aK Y;exact#[Kw (h.calm A) y0 b1 b2 ((ah a h y).1 Y) (all1 O),rfl]
  cases o
  case lenSet =>
   refine aI (b:=chk C false (.bi .lenSet a) e) fun z=>?_;obtain⟨A,z⟩:=aC z;k_cls;obtain⟨y,rfl,v⟩:=aK Y;obtain⟨p',as',pos',rfl,QK,G,n,F⟩:=bw h v;obtain⟨y,rfl,N⟩:=aK F;exact#[AO (h.calm A) b1 b2 QK G ((ah a h y).1 N) (all1 n),rfl]
  all_goals exact gen fun t=>rfl
 | .max a b,C,X,h,e=>aI (b:=chk C false (.max a b) e) fun z=>by
  obtain⟨A,z⟩:=aC z;k_cls;obtain⟨y,u,rfl,Y⟩:=eC Y;exact#[JF (h.calm A) b1 b2 ((ah a h y).1 (aC Y).1) ((ah b h u).1 (aC Y).2) (all2 O).1 (all2 O).2,rfl]
 | .isi a ty,C,X,h,e=>aI (b:=chk C false (.isi a ty) e) fun z=>by
  have z:(bN C e "isinstance" fun ys=>of2 ys fun y z=>(eN z).any (fun x=>x == vc ty&&nM C x)&&chk C false a y)=true:=z;k_cls;obtain⟨y,u,rfl,Y⟩:=eC Y;obtain⟨v,F⟩:=aC Y;obtain⟨x,T,w⟩:=aj v;obtain⟨q,rfl⟩:=cV T;obtain⟨w1,L⟩:=aC w;rw[beq_iff_eq]at w1;subst w1;obtain⟨t1,t2,t3⟩:=zT ty;exact#[Hd b1 b2 (h.bl L).1 (h.bl L).2 t1 t2 t3 ((ah a h y).1 F) (all2 O).1,rfl]
 | .rng1 a,C,X,h,e=>aI (b:=chk C false (.rng1 a) e) fun z=>by
  obtain⟨A,z⟩:=aC z;k_cls;obtain⟨y,rfl,v⟩:=aK Y;obtain⟨p',as',pos',rfl,QK,G,n,F⟩:=bw h v;obtain⟨y,rfl,N⟩:=aK F;exact#[Ek (h.calm A) b1 b2 QK G ((ah a h y).1 N) (all1 n),rfl]
 | .rngT a,C,X,h,e=>aI (b:=chk C false (.rngT a) e) fun z=>by
  obtain⟨A,z⟩:=aC z;k_cls;obtain⟨y,rfl,v⟩:=aK Y;obtain⟨p',as',pos',rfl,QK,G,n,F⟩:=bw h v;obtain⟨y,rfl,N⟩:=aK F;exact#[Ej (h.calm A) b1 b2 QK G ((ah a h y).1 N) (all1 n),rfl]
 | .rng2 a b,C,X,h,e=>aI (b:=chk C false (.rng2 a b) e) fun z=>by
  obtain⟨A,z⟩:=aC z;k_cls;obtain⟨y,rfl,v⟩:=aK Y;obtain⟨p',as',pos',rfl,QK,G,n,F⟩:=bw h v;obtain⟨y,u,rfl,N⟩:=eC F;exact#[EB (h.calm A) b1 b2 QK G ((ah a h y).1 (aC N).1) ((ah b h u).1 (aC N).2) (all2 n).1 (all2 n).2,rfl]
 | .rng3 c a b,C,X,h,e=>aI (b:=chk C false (.rng3 c a b) e) fun z=>by
  obtain⟨A,z⟩:=aC z;k_cls;obtain⟨y,rfl,v⟩:=aK Y;obtain⟨p',as',pos',rfl,QK,G,n,F⟩:=bw h v;obtain⟨y,u,q,rfl,N⟩:=yS F;refine a3 N fun N z8 z9=>?_;exact#[EV (h.calm A) b1 b2 QK G ((ah a h y).1 z8) ((ah b h u).1 z9) (qO n).1 (qO n).2.1 N,rfl]
 | .comp d tg it c,C,X,h,e=>aI (b:=chk C false (.comp d tg it c) e) fun z=>by
  obtain⟨⟨elt,gens,scope,p⟩,R,z⟩:=aj z;have R:=u5 R;subst R;obtain⟨⟨tgE,iter,ifs,asy⟩,U,z⟩:=aK z;have U:gens=[⟨tgE,iter,ifs,asy⟩]:=U;obtain⟨w,Z,z⟩:=aK z;have Z:ifs=[w]:=Z;refine a10 z fun R z1 z2 O Y v F N z8 A=>?_;rw[beq_iff_eq]at R;have T:asy=0:=R;subst U T;subst Z
  have B:kL X cl scope tgE tg elt d (tT X.K cl c) [w]:=#[fun cls Ca fp s H=>oY h v Y,fun cls Ca fp s H pins s' J H' Q I q=>rq ((ah c (h.blk cls Ca fp s H) _).2 z8).1 I q,fun cls Ca fp s H=>(ah d (h.blk cls Ca fp s H) _).1 N,fun i x hx hl=>kC z2 i x (by rw[<-h.names];exact hx) hl]
  by_cases hc:C.calm=true
  ·exact#[vm (fun _ _ _ _=>h.calm hc) (by rw[h.scope];exact oV z1) (iF it h _ _ F) B (eE O _),rfl]
  ·have hz:yh it=true:=by simpa[hc]using A
   exact#[vm (CM:=fun _=>True) (fun _ _ _ _=>trivial) (by rw[h.scope];exact oV z1) (E9 it h _ _ F hz) B (eE O _),rfl]
 | .compA d tg it,C,X,h,e=>aI (b:=chk C false (.compA d tg it) e) fun z=>by
  obtain⟨⟨elt,gens,scope,p⟩,R,z⟩:=aj z;have R:=u5 R;subst R;obtain⟨⟨tgE,iter,ifs,asy⟩,U,z⟩:=aK z;have U:gens=[⟨tgE,iter,ifs,asy⟩]:=U;refine a10 z fun Z R z1 z2 O Y v F N A=>?_;rw[beq_iff_eq]at R;have T:asy=0:=R
  have L:ifs=[]:=by rw[Qp]at Z;exact Z
  subst U T;subst L;refine#[Co (h.calm A) (by rw[h.scope];exact oV z1) (iF it h _ _ F) ?_ (eE O _),rfl];exact#[fun cls Ca fp s H=>oY h v Y,fun cls Ca fp s H pins s' J H' Q I q=>qW I q,fun cls Ca fp s H=>(ah d (h.blk cls Ca fp s H) _).1 N,fun i x hx hl=>kC z2 i x (by rw[<-h.names];exact hx) hl]
 | .dk0,C,X,h,e=>aI (b:=chk C false .dk0 e) fun z=>by
  obtain⟨⟨ks,vs⟩,R,z⟩:=aj z;obtain⟨p,rfl⟩:=ui R;k_get;rw[Qp]at z1 z2;have z1:ks=[]:=z1;have z2:vs=[]:=z2;subst z1 z2;exact#[Hm,rfl]
 | .dt0,C,X,h,e=>aI (b:=chk C false .dt0 e) fun z=>by
  obtain⟨⟨ks,vs⟩,R,z⟩:=aj z;obtain⟨p,rfl⟩:=ui R;k_get;rw[Qp]at z1 z2;have z1:ks=[]:=z1;have z2:vs=[]:=z2;subst z1 z2;exact#[JM,rfl]
 | .join a,C,X,h,e=>aI (b:=chk C false (.join a) e) fun z=>by
  obtain⟨⟨g,S,ks,p⟩,R,z⟩:=aj z;have R:=fE R;refine a3 z fun z1 z2 O=>?_;obtain⟨⟨o,nm,apos⟩,y0,z1⟩:=aj z1;have e1:=uI y0;have e1:g=.Attribute o nm apos:=e1;refine a3 z1 fun U Z y3=>?_;rw[beq_iff_eq]at U;have U:nm = "join" := U;obtain⟨kk,T,w⟩:=aj y3;obtain⟨j,q,e2⟩:=km T;have e2:o=.Constant kk j q:=e2
  have e4:kk=.str ⟨(List.toArray [])⟩:=by
   cases kk<;>simp only[jy]at w<;>first | (cases w;done) | skip
   rw[beq_iff_eq]at w;rw[<-w]
  have L:ks=[]:=by rw[Qp]at z2;exact z2
  obtain⟨y,e3,O⟩:=aK O;have e3:S=[y]:=e3;obtain⟨O,v⟩:=aC O;rw[e1,U,e2,e4,L,e3]at R;subst R;exact#[F6 ((ah a h y).1 v) O Z,rfl]
 | .isx a c,C,X,h,e=>aI (b:=chk C false (.isx a c) e) fun z=>by
  have z:(bN C e "isinstance" fun ys=>of2 ys fun y z=>(eN z).any (fun x=>x == c&&(if c == ("ValueError" : Str)then nM C x else glB C x&&C.Xs.contains x&&d7.contains x))&&chk C false a y)=true:=z;k_cls;obtain⟨y,u,rfl,Y⟩:=eC Y;obtain⟨v,F⟩:=aC Y;obtain⟨x,T,w⟩:=aj v;obtain⟨q,rfl⟩:=cV T;obtain⟨w1,L⟩:=aC w;rw[beq_iff_eq]at w1;subst w1;split at L
  ·rename_i hv;rw[beq_iff_eq]at hv;subst hv;exact#[Hj b1 b2 (h.bl L).1 (h.bl L).2 ((ah a h y).1 F) (all2 O).1,rfl]
  ·refine a3 L fun L w3 w4=>?_;obtain⟨D,d1,d2⟩:=h.ref x w3;exact#[HC b1 b2 (h.gl L).1 d1 d2 (by simpa using w4) (cz (h.gl L).2).1 ((ah a h y).1 F) (all2 O).1,rfl]
theorem ja{cl:RL.Cl}:∀ (I:RL.Es) {C:CC} {X:Cx} (h:XOk C X cl) (es:List Expr),mU C I es=true->SEs X cl es I/\fq I=es.length/\es.all noStar=true
 | .nil,C,X,h,es,z=>by
  have z:es=[]:=Qp.mp z;subst z;exact#[da,rfl,rfl]
 | .cons e' I,C,X,h,es,z=>by
  cases es with
  | nil=>cases z
  |cons e es=>
   refine a3 z fun z1 z2 O=>?_;obtain⟨Y,U,R⟩:=ja I h es O;exact#[bP ((ah e' h e).1 z2) Y z1,by rw[fq,U,length_cons],by rw[Qx,z1,R];rfl]
theorem iF{cl:RL.Cl}:∀ (it:RL.It) {C:CC} {X:Cx} (h:XOk C X cl) (tg e:Expr),vd C it tg e=true->SI X cl tg e it
 | .seq a,C,X,h,tg,e,z=>Eo ((ah a h e).1 z)
 | .rng1 a,C,X,h,tg,e,z=>by
  have z:(bN C e "range" fun ys=>of1 ys fun y=>chk C false a y)=true:=z;obtain⟨p,Y,R,rfl,b1,b2,O,I⟩:=bw h z;obtain⟨y,rfl,I⟩:=aK I;exact DU b1 b2 ((ah a h y).1 I) (all1 O)
 | .rng2 a b,C,X,h,tg,e,z=>by
  have z:(bN C e "range" fun ys=>of2 ys fun y z=>chk C false a y&&chk C false b z)=true:=z;obtain⟨p,Y,R,rfl,b1,b2,O,I⟩:=bw h z;obtain⟨y,u,rfl,I⟩:=eC I;exact EF b1 b2 ((ah a h y).1 (aC I).1) ((ah b h u).1 (aC I).2) (all2 O).1 (all2 O).2
 | .rng3 c a b,C,X,h,tg,e,z=>by
  have z:(bN C e "range" fun ys=>of3 ys fun y z q=>j3 c q&&chk C false a y&&chk C false b z)=true:=z;obtain⟨p,Y,R,rfl,b1,b2,O,I⟩:=bw h z;obtain⟨y,u,q,rfl,I⟩:=yS I;refine a3 I fun I f d=>?_;exact EG b1 b2 ((ah a h y).1 f) ((ah b h u).1 d) (qO O).1 (qO O).2.1 I
 | .enm a,C,X,h,tg,e,z=>by
  obtain⟨U,Z⟩:=aC z;obtain⟨g,U⟩:=Option.isSome_iff_exists.mp U;obtain⟨k,tp,rfl⟩:=eJ U;obtain⟨p,Y,R,rfl,b1,b2,O,I⟩:=bw h Z;obtain⟨y,rfl,I⟩:=aK I;exact Eh b1 b2 ((ah a h y).1 I) (all1 O)
 | .zip a b,C,X,h,tg,e,z=>by
  obtain⟨U,Z⟩:=aC z;obtain⟨g,U⟩:=Option.isSome_iff_exists.mp U;obtain⟨k,tp,rfl⟩:=eJ U;obtain⟨p,Y,R,rfl,b1,b2,O,I⟩:=bw h Z;obtain⟨y,u,rfl,I⟩:=eC I;exact PI'.calm (yW b1 b2 ((ah a h y).1 (aC I).1) ((ah b h u).1 (aC I).2) (all2 O).1 (all2 O).2)
theorem E9{cl:RL.Cl}:∀ (it:RL.It) {C:CC} {X:Cx} (h:XOk C X cl) (tg e:Expr),vd C it tg e=true->yh it=true->PI' (fun _=>True) X tg e (tI X.K cl it)
 | .zip a b,C,X,h,tg,e,z,_=>by
  obtain⟨O,U⟩:=aC z;obtain⟨Z,O⟩:=Option.isSome_iff_exists.mp O;obtain⟨k,tp,rfl⟩:=eJ O;obtain⟨p,c,Y,rfl,b1,b2,R,I⟩:=bw h U;obtain⟨y,u,rfl,I⟩:=eC I;exact yW b1 b2 ((ah a h y).1 (aC I).1) ((ah b h u).1 (aC I).2) (all2 R).1 (all2 R).2
 | .seq _,C,X,h,tg,e,z,w=>by cases w
 | .rng1 _,C,X,h,tg,e,z,w=>by cases w
 | .rng2 _ _,C,X,h,tg,e,z,w=>by cases w
 | .rng3 _ _ _,C,X,h,tg,e,z,w=>by cases w
 | .enm _,C,X,h,tg,e,z,w=>by cases w
end
abbrev dX:Expr->Bool
 | .ListComp _ _ _ _=>false
 | .SetComp _ _ _ _=>false
 | .DictComp _ _ _ _ _=>false
 | _=>true
abbrev AS:Expr->Bool
 | .Tuple vs _ _=>vs.all (foldedForSure 8)
 | _=>true
abbrev uh(e:Expr):Bool:=match e with
 | .SetComp _ _ _ _=>false
 | .DictComp _ _ _ _ _=>false
 | _=>true
abbrev Cr(C:CC)(x y:Str)(O I:Pos)(a b:Expr):Bool :=
 C.sc.kind == .function&&C.sc.names.lookup x == some .local&&C.sc.names.lookup y == some .local&&O.line == I.line && !(x == y)&&noStar a&&noStar b && !(foldedForSure 8 a&&foldedForSure 8 b) && !(constantsAlone 8 a&&constantsAlone 8 b)
abbrev wJ(M:List Nat):RL.E->Bool
 | .var i=>M.contains i
 | _=>false
abbrev xA(C:CC):RL.Es->List Expr->Bool
 | .nil=>fun xs=>xs.isEmpty
 | .cons e es=>fun xs=>match xs with
  | x::xs=>noStar x&&chk C false e x&&xA C es xs
  | []=>false
abbrev DE:RL.Bop->Operator->Bool
 | .add,.Add=>true
 | .sub,.Sub=>true
 | _,_=>false
abbrev tw:Expr->Option (Str × Pos)
 | .Name x p=>some (x,p)
 | _=>none
def rN{e:Expr}{x:Str}{p:Pos}(h:tw e=some (x,p)):e=.Name x p:=by
 cases e
 case Name=>cases h;rfl
 all_goals exact nos h
abbrev oG(C:CC)(i:Nat)(nm:Str)(e:Expr)(f:List Expr->Bool):Bool:=(kP e).any fun q=>(yp q.1).any (fun a=>sG C i a.1&&a.2.1 == nm&&a.2.2.endLine == q.2.2.2.line)&&q.2.2.1.isEmpty&&f q.2.1
abbrev tX(C:CC)(M:List Nat)(f:Nat)(es:RL.Es)(ps ms:List Nat)(e:Expr):Bool:=(kP e).any fun q=>(eN q.1).any (fun x=>glB C x&&C.F[f]? == some (x,ps))&&q.2.2.1.isEmpty && !q.2.1.isEmpty && !ps.isEmpty&&xA C es q.2.1&&cP es ps ms&&ms.all (fun i=>M.contains i)&&decide ms.Nodup&&decide ps.Nodup&&C.calm
abbrev uV(C:CC):List Expr->RL.Es->Bool
 | [],ps=>match ps with
  | .nil=>true
  | _=>false
 | v::vs,ps=>match qE v with
  | some (.str y)=>decide (y.length<=3000)&&uV C vs ps
  | some _=>false
  | none=>(Gd v).any fun q=>q.2.1 == -1&&q.2.2.isNone&&match ps with
   | .cons e es=>chk C false e q.1&&uV C vs es
   | .nil=>false
abbrev Ik:Const->Bool
 | .str _=>true
 | _=>false
abbrev isNil:RL.Es->Bool
 | .nil=>true
 | _=>false
abbrev Bj(C:CC)(ps:RL.Es)(a:Expr):Bool:=((qE a).any Ik&&isNil ps) || (DC a).any fun vs=>decide (2<=vs.length)&&decide (vs.length<=100)&&uV C vs ps
abbrev IX(C:CC)(c:Str):Bool:=C.Xr.contains c
mutual
noncomputable def BD(C:CC)(M:List Nat):RL.S->Stmt->Bool
 | .asg i e'=>fun st=>(nQ st).any fun q=>of1 q.1 fun t=>i7 C i t && !M.contains i&&uh q.2&&chk C false e' q.2&&(C.calm || dX q.2)
 | .own i e'=>fun st=>(nQ st).any fun q=>of1 q.1 fun t=>i7 C i t&&M.contains i&&decide (M.count i<2)&&uh q.2&&chk C false e' q.2&&(C.calm || dX q.2)
 | .unp is e'=>fun st=>(nQ st).any fun q=>of1 q.1 fun t=>(mm t).any fun U=>m7 C is U&&is.all (fun i=>!M.contains i)&&AS q.2&&chk C false e' q.2
 | .par i j R I=>fun st=>(nQ st).any fun q=>of1 q.1 fun t=>(mm t).any fun U=>of2 U fun s u=>(tw s).any fun x=>(tw u).any fun y=>(mm q.2).any fun vs=>of2 vs fun a b=>nmB C i x.1&&nmB C j y.1 && !(i == j) && !M.contains i && !M.contains j&&Cr C x.1 y.1 x.2 y.2 a b&&chk C false R a&&chk C false I b&&C.calm
 | .app i e'=>fun st=>(xK st).any fun e=>oG C i "append" e fun O=>of1 O fun y=>M.contains i&&noStar y&&chk C false e' y
 | .put i Z e'=>fun st=>(nQ st).any fun q=>of1 q.1 fun t=>(uq t).any fun u=>sG C i u.1&&M.contains i&&nS u.2&&dX q.2&&chk C false Z u.2&&chk C false e' q.2
 | .pop i j=>fun st=>(nQ st).any fun q=>of1 q.1 fun t=>i7 C j t&&M.contains i && !M.contains j&&oG C i "pop" q.2 fun O=>O.isEmpty
 | .aug i o e'=>fun st=>(FW st).any fun q=>i7 C i q.1 && !M.contains i&&DE o q.2.1&&chk C false e' q.2.2
 | .ife c' R I=>fun st=>(wIf st).any fun q=>chk C true c' q.1&&dm C M R q.2.1&&dm C M I q.2.2
 | .forr tg it I=>fun st=>(JE st).any fun q=>q.2.2.2.isEmpty&&vd C it q.1 q.2.1&&pU C tg q.1&&oP q.2.1&&RL.sV M it&&tg.all (fun i=>!M.contains i)&&dm C M I q.2.2.1&&C.calm
 | .mexc f es ps ms=>fun st=>(xK st).any fun e=>tX C M f es ps ms e
 | .ret e'=>fun st=>(G1 st).any fun o=>o.any fun e=>chk C false e' e
 | .exc e'=>fun st=>(xK st).any fun e=>dX e&&chk C false e' e
 | .ifp i e' R I=>fun st=>(wIf st).any fun q=>(oj q.1).any fun u=>of1 u.2.1 fun Y=>of1 u.2.2 fun e=>Y == .NotEq&&M.contains i&&chk C false e' e&&dm C M R q.2.1&&dm C M I q.2.2&&oG C i "pop" u.1 fun O=>O.isEmpty
 | .whil c' I=>fun st=>(Io st).any fun q=>q.2.2.isEmpty&&chk C true c' q.1&&dm C M I q.2.1
 | .rais c ps=>fun st=>(zd st).any fun q=>C.calm&&C.Xr.contains c&&(glB C c&&(RL.jB c).isNone)&&q.2.isNone&&q.1.any fun e=>(kP e).any fun u=>(eN u.1).any (fun x=>x == c)&&u.2.2.1.isEmpty&&of1 u.2.1 fun a=>noStar a&&Bj C ps a
 | .tryc b c i d=>fun st=>(GS st).any fun q=>C.calm&&q.2.2.1.isEmpty&&q.2.2.2.isEmpty&&IX C c&&d7.contains c&&glB C c && !M.contains i&&of1 q.2.1 (fun hd=>(sy hd).1.any (fun t=>(eN t).any fun x=>x == c)&&(sy hd).2.1.any (fun n=>nmB C i n&&C.sc.names.lookup n == some .local) && !(sy hd).2.2.isEmpty&&dm { C with calm:=false } M d (sy hd).2.2)&&dm C M b q.1
noncomputable def dm(C:CC)(M:List Nat):RL.Ss->List Stmt->Bool
 | .nil=>fun xs=>xs.isEmpty
 | .cons s r=>fun xs=>match xs with
  | x::xs=>BD C M s x&&dm C M r xs
  | []=>false
 | .act _ _ _ _ _=>fun _=>false
 | .opn _ _ _=>fun _=>false
end
structure YOk(C:CC)(X:Cx)(cl:RL.Cl):Prop extends XOk C X cl where
 fn:∀ x,X.fn x=true
 st:X.stack=X.env::X.outer/\X.env.frame=some X.env.locals/\X.ex=[]
 fnx:∀ (f:Nat) (x:Str),C.calm=true->C.F[f]?=some (x,[])->∃ k fa fd ps,eU X.prog X.w X.K X.mg X.base (CXE X.prog X.w) k fa fd ps (spX X.K cl f)/\cH k X.A/\X.mg x=some (.ref fa)/\W.keepIn X.K (.ref fa)=true/\Binds X.K fd ps []
structure ROk(C:CC)(X:Cx)(cl:RL.Cl)(EX:L2.St->XK):Prop where
 y:YOk C X.nox cl
 cal:C.calm=true
 pass:∀ pins J H s e s',Inv X pins J H s->CXE X.prog X.w X.stack H s (EX J) e s'->X.xe e s'
 made:∀ pins J H s h' e C vs,Inv X pins J H s->Heap.MadeExcOf s.heap h' e (.ref C) vs->EX J (.ref C) none H->X.xe (.ref e) { s with heap:=h' }
 Hb:∀ pins J H s C i e od H' s',Inv X pins J H s->By X H s C (some i) e od H' s'->EX J (.ref C) od H'->X.xe (.ref e) s'
 own:PassesOwn (model X.prog X.w) X.A X.env X.xe
section
variable{C:CC}{X:Cx}{cl:RL.Cl}{M:List Nat}{st:Stmt}{e:Expr}{e' k':RL.E}{i:Nat}
def fA{t:Option Expr}{l:Nat}{env:Env}(h:dX e=true):swapsWith e t l env=pure false:=by
 cases e<;>first | rfl | (cases h;done)
def D4{e:Expr}(h:¬ dX e=true)(ha:uh e=true):∃ elt gens scope p,e=.ListComp elt gens scope p:=by
 cases e<;>first | exact absurd rfl h | exact noConfusion ha | exact#[_,_,_,_,rfl]
def Ko{elt:Expr}{gens:List Comprehension}{scope:Scope}{p:Pos}(I:chk C false e' (.ListComp elt gens scope p)=true):(∃ d tg it c,e'=.comp d tg it c)\/∃ d tg it,e'=.compA d tg it:=by
 cases e'<;>first | exact noConfusion I | exact .inl #[_,_,_,_,rfl] | exact .inr #[_,_,_,rfl] | (obtain⟨_,I⟩:=aC I;exact noConfusion I) | (rename_i b a;cases b<;>(obtain⟨_,I⟩:=aC I;exact noConfusion I))
def Du{t:Expr}{R:Pos}(l:(C.calm || dX e)=true)(h:YOk C X cl)(hn:i7 C i t=true)(ha:uh e=true)(m:chk C false e' e=true):SA X cl (.Assign [t] e R) i e':=by
 obtain⟨y,g,rfl,F,hl⟩:=gj h.toXOk hn
 have plain:swapsWith e (some (.Name y g)) R.line X.env=pure false->SA X cl (.Assign [.Name y g] e R) i e':=fun z =>
  Cs h.ndX F hl ((ah e' h.toXOk e).1 m) (.inl (h.fn y)) z trivial
 by_cases O:dX e=true
 ·exact plain (fA O)
 ·have j:X.calm=true:=h.calm (by simpa[O]using l);obtain⟨elt,gens,scope,p,rfl⟩:=D4 O ha;have U:swapsWith (.ListComp elt gens scope p) (some (.Name y g)) R.line X.env=pure (X.env.blockKind == .function&&X.env.kindOf y == some .local&&g.line == p.line && !(scope.names.any fun(n,k)=>n == y&&(k == .local || k == .cell))):=rfl;by_cases hb:(X.env.blockKind == .function&&X.env.kindOf y == some .local&&g.line == p.line && !(scope.names.any fun(n,k)=>n == y&&(k == .local || k == .cell)))=true
  ·have QK:X.env.scope.names.lookup y=some .local:=by
    obtain⟨q,_⟩:=aC (aC hb).1;have G:=(aC q).2;rw[beq_iff_eq]at G;exact G
   rw[hb]at U
   rcases Ko m with⟨d,tg,it,c,rfl⟩ | ⟨d,tg,it,rfl⟩
   ·obtain⟨⟨tgE,iter,ifs,Y⟩,a,z⟩:=aK m;have a:gens=[⟨tgE,iter,ifs,Y⟩]:=a;obtain⟨w,b,z⟩:=aK z;have b:ifs=[w]:=b;refine a10 z fun f z1 z2 A v u r o L K=>?_;rw[beq_iff_eq]at f;have B:Y=0:=f;subst a B;subst b;refine AX j h.ndX F QK (by rw[h.scope];exact oV z1) (iF it h.toXOk _ _ r) ?_ (eE A _) U;exact#[fun cls Z fp s H=>oY h.toXOk u v,fun cls Z fp s H pins s' J H' Q I q=>rq ((ah c (h.toXOk.blk cls Z fp s H) _).2 L).1 I q,fun cls Z fp s H=>(ah d (h.toXOk.blk cls Z fp s H) _).1 o,fun i x D hl=>kC z2 i x (by rw[<-h.names];exact D) hl]
   ·obtain⟨⟨tgE,iter,ifs,Y⟩,a,z⟩:=aK m;have a:gens=[⟨tgE,iter,ifs,Y⟩]:=a;refine a10 z fun b f z1 z2 A v u r o K=>?_;rw[beq_iff_eq]at f;have B:Y=0:=f
    have M:ifs=[]:=by rw[Qp]at b;exact b
    subst a B;subst M;refine BQ j h.ndX F QK (by rw[h.scope];exact oV z1) (iF it h.toXOk _ _ r) ?_ (eE A _) U;exact#[fun cls Z fp s H=>oY h.toXOk u v,fun cls Z fp s H pins s' J H' Q I q=>qW I q,fun cls Z fp s H=>(ah d (h.toXOk.blk cls Z fp s H) _).1 o,fun i x D hl=>kC z2 i x (by rw[<-h.names];exact D) hl]
  ·have E:=not_eq_true _▸hb;rw[E]at U;exact plain U
def ue(h:XOk C X cl):∀ {I:RL.Es} {es:List Expr},xA C I es=true->PA X es (kW X.K cl I)/\es.all noStar=true
 | .nil,es,z=>by
  have z:es=[]:=Qp.mp z;subst z;exact#[cT,rfl]
 | .cons _ _,[],z=>by cases z
 | .cons e' I,e::es,z=>by
  refine a3 z fun z1 z2 R=>?_;obtain⟨Y,U⟩:=ue h R;refine#[?_,by rw[Qx,z1,U];rfl];rw[kW];refine bz ?_ Y (ay es z1);by_cases O:∃ j,e'=.var j
  ·obtain⟨j,rfl⟩:=O;obtain⟨x,p,rfl,d,c,b,a⟩:=jZ h z2;exact jh d c b a
  ·have Z:xp X.K cl e'=tE X.K cl e':=by
    cases e'<;>first | rfl | exact absurd ⟨_,rfl⟩ O
   rw[Z];exact(ah _ h e).1 z2
def qq{is:List Nat}(h:is.all (fun i=>!M.contains i)=true):∀ i∈is,M.contains i=false:=fun i hi=>by
 rw[Qu]at h;simpa using h i hi
def FV{is:List Nat}(h:is.all (fun i=>M.contains i)=true):∀ i∈is,M.contains i=true:=fun i hi=>by
 rw[Qu]at h;exact h i hi
def jg{b:Bool}(h:(!b)=true):b=false:=by simpa using h
def Be{f:Nat}{ps ms:List Nat}{es:RL.Es}(h:XOk C X cl)(z:tX C M f es ps ms e=true):PE X e (sF (spM X.K cl ps f) [] E0 (kW X.K cl es))/\cP es ps ms=true/\(∀ i∈ms,M.contains i=true)/\ms.Nodup/\ps.Nodup/\dX e=true:=by
 unfold tX at z;obtain⟨⟨g,w,ks,s⟩,m,z⟩:=aj z;have U:=fE m;refine a10 z fun z1 z2 l j d c b a Z Y=>?_;obtain⟨x,o,z1⟩:=aj z1;obtain⟨p,O⟩:=cV o;have O:g=.Name x p:=O;obtain⟨n,R⟩:=aC z1;rw[beq_iff_eq]at R
 have q:ks=[]:=by rw[Qp]at z2;exact z2
 rw[O,q]at U;subst U;refine#[?_,c,FV b,by simpa using a,by simpa using Z,rfl];obtain⟨k,fa,fd,pn,F,t,hm,hk,hb⟩:=h.fns f x ps Y R;rw[if_neg (fun z=>by subst z;cases j)]at F;obtain⟨r,I⟩:=ue h d;obtain⟨v,u⟩:=h.gl n
 cases w with
 | nil=>cases l
 |cons y ys=>
  rw[Qx]at I;exact vL F t v hm hk hb .nil Dh r (cz u).1 (ay ys (aC I).1) (d5 (aC I).2)
def qz{nm:Str}{f:List Expr->Bool}(h:XOk C X cl)(z:oG C i nm e f=true):∃ x p apos R I,e=.Call (.Attribute (.Name x p) nm apos) R [] I/\X.N[i]?=some x/\Vis X.env.scope x/\(x == ("__debug__" : Str))=false/\(x == ("__classdict__" : Str))=false/\(apos.endLine == I.line)=true/\f R=true:=by
 unfold oG at z;obtain⟨⟨g,R,ks,I⟩,c,z⟩:=aj z;have Z:=fE c;refine a3 z fun z1 z2 b=>?_;obtain⟨⟨o,a,apos⟩,k,z1⟩:=aj z1;have Y:=uI k;have Y:g=.Attribute o a apos:=Y;refine a3 z1 fun j O d=>?_;rw[beq_iff_eq]at O;have O:a=nm:=O
 have l:ks=[]:=by rw[Qp]at z2;exact z2
 obtain⟨x,p,U,r,q,n,m⟩:=jZ h j;have U:o=.Name x p:=U;rw[Y,l,O,U]at Z;exact#[x,p,apos,R,I,Z,r,q,n,m,d,b]
def DN(c:PS X st (qR (tE X.K cl e') (B7 (k6 i) (tE X.K cl k') xN)))(b:PS X st (yg (k6 i) (tE X.K cl k') (tE X.K cl e')))(hi:M.contains i=true):SS X cl M st (.put i k' e'):=by
 have a1:=G7 c hi trivial;have a2:=Fb b hi;k_all;obtain⟨R,o,O,U,e,k⟩:=h;obtain⟨d,a,e⟩:=bind_some e;obtain⟨f,Z,e⟩:=bind_some e;obtain⟨l,Y,e⟩:=bind_some e
 cases l with
 | lst ds=>exact a1 pins s J H D I ⟨R,o,O,U,by dsimp only;rw[a];dsimp only[Option.bind_some];rw[Z];dsimp only[Option.bind_some];rw[Y];exact e,k⟩
 | _=>exact a2 pins s J H D I ⟨R,o,O,U,by dsimp only;rw[a];dsimp only[Option.bind_some];rw[Z];dsimp only[Option.bind_some];rw[Y];exact e,k⟩
def xH{o k:Expr}{I:Pos}{env:Env}(h:nS k=true)(v:Value):assign (.Subscript o k I) env v=(do
   let ov <- holding [v] (eval o env)
   let O <- holding [v,ov] (eval k env)
   standAt I
   holding [v,ov,O] (setItem ov O v)
   release [v,ov,O] []):=by
 cases k<;>first | rfl | (cases h;done)
def rO{us:List Expr}{I:Nat}{tp:Pos}{env:Env}(h:AS e=true):swappedStores [.Tuple us I tp] e env=pure none:=by
 cases e with
 |Tuple vs k p=>
  have h:vs.all (foldedForSure 8)=true:=h;unfold swappedStores;dsimp only;split
  ·rfl
  ·split
   ·rfl
   ·split
    ·rfl
    ·first | rfl | (rw[if_pos h];rfl)
 | _=>rfl
def G5{x y:Str}{j i pt Z:Pos}{o c:Nat}{a b:Expr}(h:XOk C X cl)(k:Cr C x y j i a b=true):swappedStores [.Tuple [.Name x j,.Name y i] o pt] (.Tuple [a,b] c Z) X.env=pure (some [x,y]) /\
  X.env.scope.names.lookup x=some .local/\X.env.scope.names.lookup y=some .local/\noStar a=true/\noStar b=true:=by
 unfold Cr at k;refine a9 k fun g Y U n r m l f e=>?_;rw[beq_iff_eq]at g Y U n;rw[<-h.scope]at g Y U;refine#[?_,Y,U,m,l]
 have bk:X.env.blockKind=.function:=by
  unfold Env.blockKind;rw[g];rfl
 have q:X.env.kindOf x=some .local:=Y;have c:X.env.kindOf y=some .local:=U
 have d:x≠y:=by simpa using r
 have O:foldedForSure 8 a=true->foldedForSure 8 b=false:=fun z=>by simpa[z]using f
 have R:constantsAlone 8 a=true->constantsAlone 8 b=false:=fun z=>by simpa[z]using e
 have s:[x,y].eraseDups=[x,y]:=by
  rw[List.eraseDups_cons];simp[Ne.symm d];rfl
 unfold swappedStores;simp only[bk];simp[show ∀ (x:Str) (p:Pos),(Expr.Name x p).pos=p from fun _ _=>rfl,q,c,n,s];refine(if_neg ?_).trans ((if_neg ?_).trans (if_neg ?_))
 ·intro I;rcases I with I | I
  ·clear O R f e;cases a<;>first | exact noConfusion (show false=true from I) | exact noConfusion (show false=true from m)
  ·clear O R f e;cases b<;>first | exact noConfusion (show false=true from I) | exact noConfusion (show false=true from l)
 ·intro I;have:=O I.1;rw[I.2]at this;cases this
 ·intro I;have:=R I.1;rw[I.2]at this;cases this
end
section
variable{cl:RL.Cl}
def Fo{X:Cx}{C:CC}{EX:L2.St->XK}{x:Str}{f:Nat}{p I:Pos}{y:Expr}{ys:List Expr}{es:RL.Es}(h:ROk C X cl EX)(hg:glB C x=true)(hf:C.F[f]?=some (x,[]))(U:SEs X.nox cl (y::ys) es)(ha:RA X EX cl (y::ys) es)(hn:noStar y=true)(O:ys.all noStar=true) :
  RE X EX cl (.Call (.Name x p) (y::ys) [] I) (.call f es):=by
 obtain⟨k,fa,fd,ps,F,R,hm,hk,hb⟩:=h.y.fnx f x h.cal hf;obtain⟨Z,Y⟩:=h.y.gl hg;exact Fg F R Z hm hk hb h.pass (PA.nox U) ha (cz Y).1 hn O
mutual
theorem iP:∀ (e':RL.E) {X:Cx} {C:CC} {EX:L2.St->XK} (h:ROk C X cl EX) (e:Expr),chk C false e' e=true->RE X EX cl e e'
 | .call f es,X,C,EX,h,e,z=>by
  obtain⟨n,z⟩:=aC z;obtain⟨⟨g,m,ks,p⟩,I,z⟩:=aj z;have I:=fE I;subst I;refine a4 z fun z1 z2 O Y=>?_;obtain⟨x,i,z1⟩:=aj z1;obtain⟨q,U⟩:=cV i;have U:g=.Name x q:=U;obtain⟨d,Z⟩:=aC z1;rw[beq_iff_eq]at Z
  have j:ks=[]:=by rw[Qp]at z2;exact z2
  subst U j;obtain⟨c,k,R⟩:=ja es h.y.toXOk _ Y;have ha:=rG es h _ Y;dsimp only at O c k R ha
  cases m with
  | nil=>cases O
  |cons y ys=>
   rw[Qx]at R;exact Fo h d Z c ha (aC R).1 (aC R).2
 | .ix a b,X,C,EX,h,e,z=>by
  obtain⟨⟨l,r⟩,I,z⟩:=aj z;obtain⟨p,rfl⟩:=kh I;refine a3 z fun z1 z2 O=>?_;exact PE.weak (Dl Aa (iP a h l z2) (PE.nox ((ah b h.y.toXOk r).1 O)) (wA z1)) fun J H Q q=>q
 | .var _,X,C,EX,h,e,z=>bB fun _=>rfl
 | .cst _,X,C,EX,h,e,z=>bB fun _=>rfl
 | .glb _ _,X,C,EX,h,e,z=>bB fun _=>rfl
 | .bin _ _ _,X,C,EX,h,e,z=>bB fun _=>rfl
 | .cmp _ _ _,X,C,EX,h,e,z=>bB fun _=>rfl
 | .chain _ _ _ _ _,X,C,EX,h,e,z=>bB fun _=>rfl
 | .isN _ _,X,C,EX,h,e,z=>bB fun _=>rfl
 | .inn _ _ _,X,C,EX,h,e,z=>bB fun _=>rfl
 | .inD _ _ _,X,C,EX,h,e,z=>bB fun _=>rfl
 | .and _ _,X,C,EX,h,e,z=>bB fun _=>rfl
 | .or _ _,X,C,EX,h,e,z=>bB fun _=>rfl
 | .not _,X,C,EX,h,e,z=>bB fun _=>rfl
 | .ifx _ _ _,X,C,EX,h,e,z=>bB fun _=>rfl
 | .tup _,X,C,EX,h,e,z=>bB fun _=>rfl
 | .lst _,X,C,EX,h,e,z=>bB fun _=>rfl
 | .ixD _ _,X,C,EX,h,e,z=>bB fun _=>rfl
 | .slT _ _,X,C,EX,h,e,z=>bB fun _=>rfl
 | .bi _ _,X,C,EX,h,e,z=>bB fun _=>rfl
 | .max _ _,X,C,EX,h,e,z=>bB fun _=>rfl
 | .isi _ _,X,C,EX,h,e,z=>bB fun _=>rfl
 | .rng1 _,X,C,EX,h,e,z=>bB fun _=>rfl
 | .rngT _,X,C,EX,h,e,z=>bB fun _=>rfl
 | .rng2 _ _,X,C,EX,h,e,z=>bB fun _=>rfl
 | .rng3 _ _ _,X,C,EX,h,e,z=>bB fun _=>rfl
 | .neg _,X,C,EX,h,e,z=>bB fun _=>rfl
 | .comp _ _ _ _,X,C,EX,h,e,z=>bB fun _=>rfl
 | .compA _ _ _,X,C,EX,h,e,z=>bB fun _=>rfl
 | .join _,X,C,EX,h,e,z=>bB fun _=>rfl
 | .isx _ _,X,C,EX,h,e,z=>bB fun _=>rfl
 | .dk0,X,C,EX,h,e,z=>bB fun _=>rfl
 | .dt0,X,C,EX,h,e,z=>bB fun _=>rfl
theorem rG:∀ (I:RL.Es) {X:Cx} {C:CC} {EX:L2.St->XK} (h:ROk C X cl EX) (es:List Expr),mU C I es=true->RA X EX cl es I
 | .nil,X,C,EX,h,es,z=>JI
 | .cons e' I,X,C,EX,h,es,z=>by
  cases es with
  | nil=>cases z
  |cons e es=>
   refine a3 z fun z1 z2 O=>?_;exact DM (PE.nox ((ah e' h.y.toXOk e).1 z2)) (iP e' h e z2) (rG I h es O) (ay es z1)
end
section
variable{X:Cx}{C:CC}{EX:L2.St->XK}{M:List Nat}
def Ec{X:Cx}{st:Stmt}{c:Str}{ps:RL.Es}:SS X cl M st (.rais c ps):=fun pins s J H D I ⟨R,r,O,_,e,_⟩=>by
 cases e
def A9{t e:Expr}{R:Pos}{i:Nat}{e':RL.E}{s:RL.S}(h:ROk C X cl EX)(hn:i7 C i t=true)(ha:uh e=true)(U:chk C false e' e=true)(Y:∀ O,RL.qS cl M s O=(RL.evX cl O e').map fun x=>(x,O)):RZ X EX cl M (.Assign [t] e R) s:=by
 obtain⟨y,c,rfl,Z,hl⟩:=gj h.y.toXOk hn;by_cases I:dX e=true
 ·exact sk (tq (X:=X) h.y.ndX Z hl (iP e' h e U) (fA I) (.inl (h.y.fn y))) Y
 ·refine gR fun O=>?_;rw[Y];obtain⟨elt,gens,scope,p,rfl⟩:=D4 I ha
  cases e' with
  |call f es=>
   obtain⟨_,z⟩:=aC U;exact noConfusion z
  | ix a b=>exact noConfusion U
  | _=>rfl
abbrev tW(K:W.Frag)(cl:RL.Cl):RL.Es->TA
 | .nil=>qv
 | .cons e es=>Af (tE K cl e) (tW K cl es)
def DA{K:W.Frag}{I:RL.St}{J:L2.St}:∀ {ps:RL.Es} {ds:List RL.D} {H:Hp} {Q:List V->Hp->Prop},RV0 K I J H->RL.evs cl I ps=some ds->ds.all RL.written=true->(∀ vs U,aw H U->Q vs U)->tW K cl ps J H Q
 | .nil,ds,H,Q,O,e,w,k=>k [] H (aw.refl _)
 | .cons p ps,ds,H,Q,O,e,w,k=>by
  rw[RL.evs]at e;obtain⟨d,a,e⟩:=bind_some e;obtain⟨b,Z,Y⟩:=map_some e;subst Y;rw[Qx,and_eq_true]at w
  cases d with
  |int i=>
   refine#[I,.int i,O,a,fun v U R=>#[i,ag R.rep,by simpa[RL.written]using w.1,DA (O.same R.same) Z w.2 fun vs H2 sm=>k vs H2 (R.same.trans sm)]]
  | _=>cases w.1
def qL{X:Cx}(h:XOk C X cl):∀ {vs:List Expr} {ps:RL.Es},uV C vs ps=true->PJ X vs (tW X.K cl ps)
 | [],.nil,z=>Jt
 | [],.cons _ _,z=>by cases z
 | v::vs,ps,z=>by
  rw[uV]at z;split at z
  ·rename_i y a;obtain⟨j,p,rfl⟩:=km a;k_get;exact EN (qL h z2) (by simpa using z1)
  ·cases z
  ·obtain⟨⟨e,b,sp⟩,O,z⟩:=aj z;obtain⟨p,rfl⟩:=EW O;refine a3 z fun z1 z2 I=>?_;rw[beq_iff_eq]at z1;have Z:b=-1:=z1;have Y:sp=none:=mK z2;clear z1 z2 z O;subst Z Y
   cases ps with
   | nil=>cases I
   |cons q c=>
    obtain⟨U,R⟩:=aC I;exact JD ((ah q h e).1 U) (qL h R)
def B3{c:Str}{ps:RL.Es}{a:Expr}{np cpos pos:Pos}(h:ROk C X cl EX)(z1:C.calm=true)(z2:C.Xr.contains c=true)(f:(glB C c&&(RL.jB c).isNone)=true)(hn:noStar a=true)(r:Bj C ps a=true):RZ X EX cl M (.Raise (some (.Call (.Name c np) [a] [] cpos)) none pos) (.rais c ps):=by
 obtain⟨D,N,L,QK⟩:=h.y.cls c z2;obtain⟨f,b⟩:=Bool.and_eq_true_iff.mp f;have b:RL.jB c=none:=Option.isNone_iff_eq_none.mp b;obtain⟨F,E⟩:=h.y.gl f
 have Z:∀ {i:TE},PE X a i->(∀ O J H ds (Q:VK),RV0 X.K O J H->RL.evs cl O ps=some ds->ds.all RL.written=true->(∀ v R,aw H R->Q v R)->i J H Q)->RZ X EX cl M (.Raise (some (.Call (.Name c np) [a] [] cpos)) none pos) (.rais c ps):=fun {i} u rd=>by
  intro pins s J H t I q;refine PS.weak (AV (np:=np) (cpos:=cpos) (pos:=pos) (I.ok.hd.1 (h.y.calm z1)) F N (cz E).1 QK (fun pins J H s h' e vs I m q=>h.made pins J H s h' e D vs I m q) (bz u cT (ay [] hn)) (ay [] hn)) (fun t J H q=>?_) pins s J H t I q;obtain⟨O,x,o,Y,e,k⟩:=q;obtain⟨ds,G,n⟩:=bind_some e;obtain⟨B,n⟩:=cU n;cases n
  exact rd O J H ds _ Y.rv0 G B fun v R sm=>#[by show 1<=sizeLine;decide,k J R D none #[by rw[RL.EM b];exact L,by rw[b];rfl] (Y.same sm) (Fr'.same sm)]
 unfold Bj at r;rcases Bool.or_eq_true_iff.mp r with z | z
 ·obtain⟨d,U⟩:=aC z;obtain⟨A,l,q⟩:=aj d;obtain⟨j,p,rfl⟩:=km l
  cases A with
  | str y=>exact Z uK fun O J H ds Q Y e w k=>k _ H (aw.refl _)
  | _=>cases q
 ·obtain⟨vs,l,z⟩:=aj z;obtain⟨p,rfl⟩:=BW l;refine a3 z fun d U g=>?_;rw[decide_eq_true_eq]at d U
  match vs,d,U,g with
  |v::v2::vs,_,U,g=>
   exact Z (PE.nox (yO (qL h.y.toXOk g) (by simp at U;omega))) fun O J H ds Q Y e w k=>DA Y e w fun vs R sm x=>k _ R sm
end
def YOk.L9{C:CC}{X:Cx}(h:YOk C X cl){c:Str}(z:IX C c=true):∃ D,X.mg c=some (.ref D)/\Cls X.K c D:=by
 obtain⟨D,O,I,_⟩:=h.cls c z;exact#[D,O,I]
def YOk.rok{C:CC}{X:Cx}(h:YOk C X cl)(pn:List (Addr × Obj))(E:Value->Shared->Prop)(EX:L2.St->XK)(R:C.calm=true)(I:Cj (CxX X pn E) EX)(O:PassesOwn (model X.prog X.w) X.A X.env E):ROk C (CxX X pn E) cl EX where
 y:={ scope:=h.scope,names:=h.names,nd:=h.nd,calm:=h.calm,xe:=rfl,hu:=h.hu,blt:=h.blt,glb:=h.glb,fns:=h.fns,gds:=h.gds,hfn:=h.hfn,cls:=h.cls,ref:=h.ref,fn:=h.fn,st:=h.st,fnx:=h.fnx }
 cal:=R
 pass:=I.1
 made:=I.2.1
 Hb:=I.2.2
 own:=O
def YOk.bK{C:CC}{X:Cx}(h:YOk C X cl)(e:Addr)(O:Obj):YOk { C with calm:=false } (X.bK e O) cl where
 scope:=h.scope
 names:=h.names
 nd:=h.nd
 calm:=fun z=>nomatch z
 xe:=h.xe
 hu:=h.hu
 blt:=h.blt
 glb:=h.glb
 fns:=fun _ _ _ z=>nomatch z
 gds:=h.gds
 hfn:=fun f x a b=>by
  obtain⟨k,fa,fd,ps,F,I,r⟩:=h.hfn f x a b;exact#[k,fa,fd,ps,F,#[I.dp,I.un],r]
 cls:=h.cls
 ref:=h.ref
 fn:=h.fn
 st:=h.st
 fnx:=fun _ _ z=>nomatch z
end
section
variable{cl:RL.Cl}
mutual
theorem vH:∀ (s:RL.S) {X:Cx} {C:CC} {M:List Nat} (h:YOk C X cl) (st:Stmt),BD C M s st=true->SS X cl M st s
 | .asg i e',X,C,M,h,st,z=>by
  obtain⟨⟨D,e⟩,I,z⟩:=aj z;obtain⟨p,rfl⟩:=eP I;obtain⟨t,O,z⟩:=aK z;have O:D=[t]:=O;refine a5 z fun z1 z2 U Y K=>?_;subst O;exact FN (Du K h z1 U Y) (jg z2)
 | .own i e',X,C,M,h,st,z=>by
  obtain⟨⟨D,e⟩,I,z⟩:=aj z;obtain⟨p,rfl⟩:=eP I;obtain⟨t,O,z⟩:=aK z;have O:D=[t]:=O;refine a6 z fun z1 z2 U Y Z K=>?_;subst O;exact Js (Du K h z1 Y Z) z2 (by simpa using U)
 | .unp is e',X,C,M,h,st,z=>by
  obtain⟨⟨D,e⟩,I,z⟩:=aj z;obtain⟨p,rfl⟩:=eP I;obtain⟨t,O,z⟩:=aK z;have O:D=[t]:=O;obtain⟨us,G,z⟩:=aj z;obtain⟨k,tp,rfl⟩:=eJ G;refine a4 z fun z1 z2 U Y=>?_;subst O;obtain⟨m,g,d⟩:=ng h.toXOk (T:=is) (fun i x _ _=>.inl (h.fn x)) (fun _ h=>h) z1;refine Fh (vf ((ah e' h.toXOk e).1 Y) (tY (qj m g d) (qd m g d)) ?_ (rO U) rfl) (qq z2);cases e<;>rfl
 | .par i j V H,X,C,M,h,st,z=>by
  obtain⟨⟨D,e⟩,I,z⟩:=aj z;obtain⟨p,rfl⟩:=eP I;obtain⟨t,O,z⟩:=aK z;have O:D=[t]:=O;obtain⟨us,G,z⟩:=aj z;obtain⟨k,tp,v⟩:=eJ G;obtain⟨s1,s2,y3,z⟩:=eC z;obtain⟨⟨x,QK⟩,y4,z⟩:=aj z;obtain⟨⟨y,py⟩,y5,z⟩:=aj z;obtain⟨vs,y6,z⟩:=aj z;obtain⟨Q,P,e6⟩:=eJ y6;have e6:e=.Tuple vs Q P:=e6;obtain⟨a,b,y7,w⟩:=eC z;rw[rN y4,rN y5]at y3;rw[y3]at v
  have e7:e=.Tuple [a,b] Q P:=by rw[<-y7];exact e6
  rw[v]at O;subst O e7;refine a9 w fun z1 z2 U Y Z r u B K=>?_;obtain⟨m,g,d,A,g5⟩:=G5 h.toXOk r;exact Gi (F9 (h.calm K) h.ndX (h.nm z1).1 (h.nm z2).1 (by simpa using U) g d (bP (cl:=cl) ((ah V h.toXOk a).1 u) (bP ((ah H h.toXOk b).1 B) da g5) A) m rfl) (jg Y) (jg Z)
 | .app i e',X,C,M,h,st,z=>by
  obtain⟨e,I,B⟩:=aj z;obtain⟨p0,rfl⟩:=mB I;obtain⟨x,p,apos,N,pos,rfl,m,g,d,A,r,u⟩:=qz h.toXOk B;obtain⟨y,rfl,L⟩:=aK u;refine a3 L fun Y Z u=>?_;refine Ji (m4 (D7 PySem.F.plainAttrs_list PySem.F.slot_list_append PySem.F.type_list_append qU (jh m g d A) (bP (cl:=cl) ((ah e' h.toXOk y).1 u) da Z) rfl ?_ r (ay [] Z) rfl) rfl) Y;rw[ay [] Z];rfl
 | .put i Q e',X,C,M,h,st,z=>by
  obtain⟨⟨D,e⟩,I,z⟩:=aj z;obtain⟨p,rfl⟩:=eP I;obtain⟨t,O,z⟩:=aK z;have O:D=[t]:=O;obtain⟨⟨o,k⟩,G,z⟩:=aj z;obtain⟨sp,v⟩:=kh G;refine a6 z fun z1 U Y Z r u=>?_;obtain⟨x,QK,e3,m,g,d,A⟩:=jZ h.toXOk z1;have e3:o=.Name x QK:=e3;rw[e3]at v;rw[v]at O;subst O;have pv:=fun pos=>jh (X:=X) (pos:=pos) m g d A;refine DN (vf ((ah e' h.toXOk e).1 u) (Gg (pv _) ((ah Q h.toXOk k).1 r) set_list (xH Y)) ?_ ?_ rfl) (DW (Nat.lt_of_le_of_lt ⋯ h.hu) (pv _) ((ah Q h.toXOk k).1 r) ((ah e' h.toXOk e).1 u) (fA Z)) U
  ·unfold swapsWithSole;exact fA Z
  ·rfl
 | .pop i j,X,C,M,h,st,z=>by
  obtain⟨⟨D,e⟩,I,z⟩:=aj z;obtain⟨p,rfl⟩:=eP I;obtain⟨t,O,z⟩:=aK z;have O:D=[t]:=O;refine a4 z fun z1 z2 U Y=>?_;obtain⟨y,py,rfl,l1,l2⟩:=gj h.toXOk z1;obtain⟨x,QK,apos,N,pos,v,m,g,d,A,r,Z⟩:=qz h.toXOk Y;have v:e=.Call (.Attribute (.Name x QK) "pop" apos) N [] pos:=v;have Z:N=[]:=Qp.mp Z;subst O Z v;exact He (tq h.ndX l1 l2 (AM PySem.F.plainAttrs_list PySem.F.slot_list_pop PySem.F.type_list_pop Ac (jh m g d A) rfl r) rfl (.inl (h.fn _))) z2 (jg U)
 | .aug i o e',X,C,M,h,st,z=>by
  obtain⟨⟨t,op,e⟩,I,z⟩:=aj z;obtain⟨p,rfl⟩:=DY I;refine a4 z fun z1 z2 U Y=>?_;obtain⟨x,QK,e1,l1,l2⟩:=gj h.toXOk z1;have e1:t=.Name x QK:=e1;subst e1;have U:DE o op=true:=U;have Y:chk C false e' e=true:=Y;clear I z1 z
  cases o<;>cases op<;>first | (cases U;done) | skip
  ·exact yI (f:=fun a b=>a+b) (fun a b=>rfl) (yJ h.ndX l1 l2 ((ah e' h.toXOk e).1 Y) G0 (.inl (h.fn x))) (jg z2)
  ·exact yI (f:=fun a b=>a-b) (fun a b=>rfl) (yJ h.ndX l1 l2 ((ah e' h.toXOk e).1 Y) Hi (.inl (h.fn x))) (jg z2)
 | .ife c' V H,X,C,M,h,st,z=>by
  obtain⟨⟨c,a,b⟩,I,z⟩:=aj z;obtain⟨p,rfl⟩:=sZ I;refine a3 z fun z1 z2 U=>?_;exact JW ((ah c' h.toXOk c).2 z1).1 (cJ V h a z2) (cJ H h b U)
 | .forr tg it H,X,C,M,h,st,z=>by
  obtain⟨⟨t,it',b,o⟩,I,z⟩:=aj z;obtain⟨p,rfl⟩:=wI I;refine a8 z fun z1 z2 U Y Z r u K=>?_;have z1:o=[]:=Qp.mp z1;subst z1;exact Im h.xe (h.calm K) (iF it h.toXOk t it' z2) (uL h.toXOk (fun i x _ _=>.inl (h.fn x)) U) (cJ H h b u) (eE Y _) Z (qq r)
 | .mexc f es ps ms,X,C,M,h,st,z=>by
  obtain⟨e,I,z⟩:=aj z;obtain⟨p0,rfl⟩:=mB I;obtain⟨m,g,d,A,g5,g6⟩:=Be h.toXOk z;exact Fw (m4 m (fA g6)) g d A g5
 | .ret e',X,C,M,h,st,z=>by
  obtain⟨o,I,z⟩:=aj z;obtain⟨p,rfl⟩:=vM I;obtain⟨e,rfl,zz⟩:=aj z;by_cases hv:wJ M e'=true
  ·have:∃ i,e'=.var i:=by
    cases e'<;>first | exact#[_,rfl] | exact noConfusion hv
   obtain⟨i,rfl⟩:=this;obtain⟨x,q,rfl,m,g,d,A⟩:=jZ h.toXOk zz;exact Fc m g d A hv
  ·exact Hq ((ah e' h.toXOk e).1 zz) fun i hi=>by
    subst hi;simpa[wJ]using hv
 | .exc e',X,C,M,h,st,z=>by
  obtain⟨e,I,z⟩:=aj z;obtain⟨p0,rfl⟩:=mB I;k_get;exact GK (m4 ((ah e' h.toXOk e).1 z2) (fA z1))
 | .ifp i e' V H,X,C,M,h,st,z=>by
  obtain⟨⟨c,a,b⟩,I,z⟩:=aj z;obtain⟨p,rfl⟩:=sZ I;obtain⟨⟨l,os,rs⟩,I,z⟩:=aj z;obtain⟨cp,ec⟩:=iK I;have ec:c=.Compare l os rs cp:=ec;obtain⟨op,O,z⟩:=aK z;obtain⟨e,G,z⟩:=aK z;have O:os=[op]:=O;have G:rs=[e]:=G;refine a6 z fun z1 z2 U Y Z r=>?_;rw[beq_iff_eq]at z1;obtain⟨x,QK,apos,N,pos,v,m,g,d,A,u,B⟩:=qz h.toXOk r;have v:l=.Call (.Attribute (.Name x QK) "pop" apos) N [] pos:=v;have B:N=[]:=Qp.mp B;rw[B]at v;rw[O,G,z1,v]at ec;subst ec;exact Ib (AM PySem.F.plainAttrs_list PySem.F.slot_list_pop PySem.F.type_list_pop Ac (jh m g d A) rfl u) ((ah e' h.toXOk e).1 U) (cJ V h a Y) (cJ H h b Z) z2
 | .whil c' H,X,C,M,h,st,z=>by
  obtain⟨⟨c,b,o⟩,I,z⟩:=aj z;obtain⟨p,rfl⟩:=Eu I;refine a3 z fun z1 z2 U=>?_;have z1:o=[]:=Qp.mp z1;subst z1;exact Cm h.xe ((ah c' h.toXOk c).2 z2).1 (cJ H h b U)
 | .rais _ _,X,C,M,h,st,z=>Ec
 | .tryc b c i hh,X,C,M,h,st,z=>by
  obtain⟨⟨bd,hs,oe,fi⟩,I,z⟩:=aj z;obtain⟨p,rfl⟩:=Ep I;refine a9 z fun z1 z2 U Y Z r u B L=>?_;have v2:oe=[]:=Qp.mp z2;have v3:fi=[]:=Qp.mp U;obtain⟨hd,O,B⟩:=aK B;have v1:hs=[hd]:=O;obtain⟨ht,hn,hb,hp⟩:=hd;refine a4 B fun w1 w2 w3 w4=>?_;obtain⟨te,q1,w5⟩:=aj w1;have u1:ht=some te:=q1;obtain⟨x,q2,w6⟩:=aj w5;obtain⟨np,q4⟩:=cV q2;rw[beq_iff_eq]at w6;clear w1 w5 q2;subst q4 w6;obtain⟨n,q3,w7⟩:=aj w2;have u3:hn=some n:=q3;obtain⟨n1,n2⟩:=aC w7;rw[beq_iff_eq]at n2;have L:dm C M b bd=true:=L;have w4:dm { C with calm:=false } M hh hb=true:=w4;have w3:(!hb.isEmpty)=true:=w3;clear z2 U O q1 q3 I z;subst v2 v3 u1 u3
  cases hb with
  | nil=>cases w3
  |cons b0 bK=>
   subst v1;obtain⟨R,r1,r2⟩:=h.L9 Y;refine G6 h.xe h.st.1 h.st.2.1 h.st.2.2 (cJ b h bd L) (fun pn E EX ou ow=>fJ b (h.rok pn E EX z1 ou ow) bd L) (fun e oe=>cJ hh (h.bK e oe) (b0::bK) w4) r2 (by simpa using Z) (h.gl r).1 r1 (cz (h.gl r).2).1 h.ndX (h.nm n1).1 (by rw[h.scope];exact n2) (jg u)
theorem cJ:∀ (s:RL.Ss) {X:Cx} {C:CC} {M:List Nat} (h:YOk C X cl) (st:List Stmt),dm C M s st=true->SSs X cl M st s
 | .nil,X,C,M,h,st,z=>by
  have z:st=[]:=Qp.mp z;subst z;exact Er
 | .cons s r,X,C,M,h,st,z=>by
  cases st with
  | nil=>cases z
  |cons x xs=>
   k_get;exact BA (vH s h x z1) (cJ r h xs z2)
 | .act _ _ _ _ _,X,C,M,h,st,z=>by cases z
 | .opn _ _ _,X,C,M,h,st,z=>by cases z
theorem BR:∀ (s:RL.S) {X:Cx} {C:CC} {M:List Nat} {EX:L2.St->XK} (h:ROk C X cl EX) (st:Stmt),BD C M s st=true->RZ X EX cl M st s
 | .asg i e',X,C,M,EX,h,st,z=>by
  obtain⟨⟨d,e⟩,I,z⟩:=aj z;obtain⟨p,rfl⟩:=eP I;obtain⟨t,R,z⟩:=aK z;have R:d=[t]:=R;refine a5 z fun z1 z2 U O m=>?_;subst R;exact A9 h z1 U O (fun _=>rfl)
 | .own i e',X,C,M,EX,h,st,z=>by
  obtain⟨⟨d,e⟩,I,z⟩:=aj z;obtain⟨p,rfl⟩:=eP I;obtain⟨t,R,z⟩:=aK z;have R:d=[t]:=R;refine a6 z fun z1 z2 U O Y m=>?_;subst R;exact A9 h z1 O Y (fun _=>rfl)
 | .unp is e',X,C,M,EX,h,st,z=>by
  obtain⟨⟨d,e⟩,I,z⟩:=aj z;obtain⟨p,rfl⟩:=eP I;obtain⟨t,R,z⟩:=aK z;have R:d=[t]:=R;obtain⟨us,QK,z⟩:=aj z;obtain⟨k,tp,rfl⟩:=eJ QK;refine a4 z fun z1 z2 U O=>?_;subst R;obtain⟨F,E,B⟩:=ng h.y.toXOk (T:=is) (fun i x _ _=>.inl (h.y.fn x)) (fun _ h=>h) z1;refine sk (vf (iP e' h e O) (PG.nox (tY (qj F E B) (qd F E B))) ?_ (rO U) rfl) fun _=>rfl;cases e<;>rfl
 | .exc e',X,C,M,EX,h,st,z=>by
  obtain⟨e,I,z⟩:=aj z;obtain⟨p0,rfl⟩:=mB I;k_get;exact sk (m4 (iP e' h e z2) (fA z1)) fun _=>rfl
 | .ret e',X,C,M,EX,h,st,z=>by
  obtain⟨o,I,z⟩:=aj z;obtain⟨p,rfl⟩:=vM I;obtain⟨e,rfl,G⟩:=aj z;exact sk (g:=fun D _=>D.rt) (uN (iP e' h e G)) fun _=>rfl
 | .ife c' V l,X,C,M,EX,h,st,z=>by
  obtain⟨⟨c,a,b⟩,I,z⟩:=aj z;obtain⟨p,rfl⟩:=sZ I;refine a3 z fun z1 z2 U=>?_;exact JR (PT.nox ((ah c' h.y.toXOk c).2 z1).1) (fJ V h a z2) (fJ l h b U)
 | .forr tg it l,X,C,M,EX,h,st,z=>by
  obtain⟨⟨t,v,b,o⟩,I,z⟩:=aj z;obtain⟨p,rfl⟩:=wI I;refine a8 z fun z1 z2 U O Y H A m=>?_;have z1:o=[]:=Qp.mp z1;subst z1;exact FT h.own (h.y.calm m) (PI.nox (iF it h.y.toXOk t v z2)) (PG.nox (uL h.y.toXOk (fun i x _ _=>.inl (h.y.fn x)) U)) (PSs.nox (cJ l h.y b A)) (fJ l h b A) (eE O _) Y (qq H)
 | .rais c ps,X,C,M,EX,h,st,z=>by
  obtain⟨⟨P,co⟩,I,z⟩:=aj z;obtain⟨p,rfl⟩:=Ao I;refine a5 z fun z1 z2 U O Y=>?_;have O:co=none:=mK O;obtain⟨e,u,Y⟩:=aj Y;have u:P=some e:=u;obtain⟨⟨g,Q,ks,cp⟩,j,w⟩:=aj Y;have j:=fE j;refine a3 w fun f n Z=>?_;obtain⟨x,L,f⟩:=aj f;obtain⟨N,r⟩:=cV L;have r:g=.Name x N:=r;rw[beq_iff_eq]at f;subst f;have n:ks=[]:=Qp.mp n;obtain⟨a,q,Z⟩:=aK Z;have q:Q=[a]:=q;obtain⟨Z,K⟩:=aC Z;rw[r,n,q]at j;subst j O u;exact B3 h z1 z2 U Z K
 | .par _ _ _ _,X,C,M,EX,h,st,z=>gR fun _=>rfl
 | .app _ _,X,C,M,EX,h,st,z=>gR fun _=>rfl
 | .put _ _ _,X,C,M,EX,h,st,z=>gR fun _=>rfl
 | .pop _ _,X,C,M,EX,h,st,z=>gR fun _=>rfl
 | .aug _ _ _,X,C,M,EX,h,st,z=>gR fun _=>rfl
 | .ifp _ _ _ _,X,C,M,EX,h,st,z=>gR fun _=>rfl
 | .whil _ _,X,C,M,EX,h,st,z=>gR fun _=>rfl
 | .mexc _ _ _ _,X,C,M,EX,h,st,z=>gR fun _=>rfl
 | .tryc _ _ _ _,X,C,M,EX,h,st,z=>gR fun _=>rfl
theorem fJ:∀ (s:RL.Ss) {X:Cx} {C:CC} {M:List Nat} {EX:L2.St->XK} (h:ROk C X cl EX) (st:List Stmt),dm C M s st=true->RZs X EX cl M st s
 | .nil,X,C,M,EX,h,st,z=>Et
 | .opn j e' r,X,C,M,EX,h,st,z=>ED
 | .act _ _ _ _ _,X,C,M,EX,h,st,z=>Ef
 | .cons s r,X,C,M,EX,h,st,z=>by
  cases st with
  | nil=>cases z
  |cons x xs=>
   k_get;exact C3 (PS.nox (vH s h.y x z1)) (BR s h x z1) (fJ r h xs z2)
end
end
structure eT where
 name:Str
 st:Stmt
 ps:List Str
 N:List Str
 h:Bool
structure PT' where
 B:List Str
 G:List (Str × Int)
 Ds:List eT
 T:List RL.Fn
 Xr:List Str
 Xs:List Str
 Xi:List Str
 Xo:List (Str × Nat)
 W:List (Str × List (Str × Nat)):=[]
abbrev PT'.F(p:PT'):List (Str × List Nat):=(p.Ds.zip p.T).map fun q=>(q.1.name,q.2.mp)
abbrev PT'.hf(p:PT'):List Nat:=(List.range p.Ds.length).filter fun f=>(p.Ds[f]?).any (·.h)
abbrev PT'.cc(p:PT')(d:eT):CC:=#[d.N,aN d.st,p.B,p.G,p.F,true,p.hf,p.Xr,p.Xs,p.Xi,p.Xo,p.W]
abbrev vp(N ps:List Str)(sc:Scope):Bool :=
 sc.kind == .function && !sc.isCoroutine && !sc.isGenerator&&decide N.Nodup&&N.take ps.length == ps&&ps.all (fun x=>sc.names.lookup x == some .local || sc.names.lookup x == some .cell)&&sc.names.all (fun y=>!(y.2 == .free))
abbrev fnB(p:PT')(d:eT)(fn:RL.Fn):Bool :=
 vp d.N d.ps (aN d.st)&&fn.ps == d.ps.length&&fn.nn == d.N.length&&decide (d.ps.length<=d.N.length)&&(List.range fn.ps).all (fun i=>!fn.M.contains i || fn.mp.contains i)&&fn.mp.all (fun i=>decide (i<fn.ps)&&decide (2<=fn.M.count i))&&dm (p.cc d) fn.M fn.body (cQ d.st)&&(!d.h || dm { p.cc d with calm:=false } fn.M fn.body (cQ d.st))
abbrev PT'.ok(p:PT'):Bool:=decide (p.T.length<=1000)&&p.Ds.length == p.T.length&&(p.Ds.zip p.T).all fun q=>fnB p q.1 q.2
def CK{N ps:List Str}{sc:Scope}(h:vp N ps sc=true):gx N ps sc:=by
 unfold vp at h;refine a7 h fun c b a Z Y O I=>?_;refine#[by simpa using c,by simpa using b,by simpa using a,by simpa using Z,by simpa using Y,fun x U=>?_,fun y R=>?_]
 ·rw[Qu]at O;have:=O x U;rw[or_eq_true,beq_iff_eq,beq_iff_eq]at this;exact this
 ·rw[Qu]at I;have:=I y R;intro z;rw[z]at this;simp at this
structure xu(p:PT')(w:World)(K:W.Frag)(mg:Str->Option Value):Prop where
 defs:∀ (f:Nat) (d:eT),p.Ds[f]?=some d->∃ fa fd,mg d.name=some (.ref fa)/\Fun K d.name d.name d.st fa fd/\W.keepIn K (.ref fa)=true/\Binds K fd d.ps []
 blt:∀ x∈p.B,mg x=none
 glb:∀ x i,p.G.lookup x=some i->∃ u,mg x=some u/\RelV (.int i) u
 cls:∀ c,p.Xr.contains c=true->∃ D,mg c=some (.ref D)/\Cls K c D/\W.excIn K D VE "ValueError.__new__" = true
 ref:∀ c,p.Xs.contains c=true->∃ D,mg c=some (.ref D)/\W.nsIn K mainGlobals c=some (some (.ref D))
 gds:∀ x tbl,p.W.lookup x=some tbl->∃ (d:Addr) (kvs:List (Str × Addr)),mg x=some (.ref d)/\((d == sysModules)=false/\∀ (P:Program) (h:Heap),K.In h->h.DictOf (bV P w) d (kvs.map fun q=>((Sum.inr q.1:Key),Value.ref q.2)))/\kvs.map (·.1)=tbl.map (·.1)/\∀ y m,RL.BC tbl (.str y)=some m->∃ q nm,(kvs.find? fun q=>decide (q.1=y))=some q/\p.F[m]?=some (nm,[])/\mg nm=some (.ref q.2)
section
variable{p:PT'}{K:W.Frag}{mg:Str->Option Value}{base:Heap}{P:Program}{w:World}
abbrev pX(K:W.Frag)(cl:RL.Cl)(mp:List Nat)(f:Nat):Sp:=if mp=[]then spF K cl f else spM K cl mp f
def bA{α:Type}(vs:List α)(k:Nat)(i:Nat)(v:α):(vs.map some++replicate k none)[i]?=some (some v)↔vs[i]?=some v:=by
 by_cases h:i<vs.length
 ·rw[getElem?_append_left (by simpa using h)];simp[h]
 ·rw[Qm (by simpa using h)];constructor
  ·intro e;rw[List.getElem?_replicate]at e;split at e<;>cases e
  ·intro e;have:=(List.getElem?_eq_some_iff.mp e).1;lia
def vI{ds:List RL.D}{vs:List V}{H:Hp}{M:List Nat}{k n:Nat}(r:ae nP K H ds vs)(hM:∀ i,i<n->M.contains i=false)(hn:ds.length=n):RVm K M (ds.map some++replicate k none) (vs.map some++replicate k none) H:=by
 have I:∀ a,¬ bD M (vs.map some++replicate k none) a:=fun a ⟨i,hi,e⟩=>by
  rw[bA]at e;have:=(List.getElem?_eq_some_iff.mp e).1;rw[hM i (by rw[<-hn,r.length];exact this)]at hi;cases hi
 refine#[by simp[r.length],fun i d e=>?_,fun i v e=>?_,fun i j a hi Y U Z=>(I a #[i,hi,U]).elim]
 ·rw[bA]at e;obtain⟨v,R,O⟩:=r.get e;have hl:=(List.getElem?_eq_some_iff.mp e).1;refine#[v,(bA _ _ _ _).mpr R,?_];rw[if_neg (by rw[hM i ⋯];decide)];exact O.weak fun a ha=>I a ha
 ·rw[bA]at e;have hl:=(List.getElem?_eq_some_iff.mp e).1;exact#[ds[i]'(by rw[r.length];exact hl),(bA _ _ _ _).mpr (by simp)]
def EJ{ds:List RL.D}{vs:List V}{H:Hp}{M mp:List Nat}{k n:Nat}(a:ID K mp ds vs H)(hM:∀ i,i<n->M.contains i=true->i∈mp)(h:∀ i∈mp,M.contains i=true)(hn:ds.length=n):RVm K M (ds.map some++replicate k none) (vs.map some++replicate k none) H:=by
 have r:=a.lU
 have I:∀ i v,(vs.map some++replicate k none)[i]?=some (some v)->M.contains i=true->i∈mp/\vs[i]?=some v:=fun i v e hi=>by
  rw[bA]at e;have:=(List.getElem?_eq_some_iff.mp e).1;exact#[hM i (by rw[<-hn,r.length];exact this) hi,e]
 refine#[by simp[r.length],fun i d e=>?_,fun i v e=>?_,fun i j b hi U p o=>?_]
 ·rw[bA]at e;obtain⟨v,Y,q⟩:=r.get e;have hl:=(List.getElem?_eq_some_iff.mp e).1;refine#[v,(bA _ _ _ _).mpr Y,?_];by_cases hm:M.contains i=true
  ·rw[if_pos hm];obtain⟨s,b,c,Z,l⟩:=a.own i (hM i ⋯ hm);rw[e]at c;cases c;rw[Y]at Z;cases Z;exact l
  ·rw[if_neg hm];refine(a.oth i d v (fun z=>hm (h i z)) e Y).weak fun b ⟨j,U,m⟩=>?_;obtain⟨R,O⟩:=I j _ m U;exact#[j,R,O]
 ·rw[bA]at e;have hl:=(List.getElem?_eq_some_iff.mp e).1;exact#[ds[i]'(by rw[r.length];exact hl),(bA _ _ _ _).mpr (by simp)]
 ·obtain⟨R,O⟩:=I i _ p hi;obtain⟨g,f⟩:=I j _ o U;exact a.sep i R j g b O f
def um{J:RL.St}:∀ {mp:List Nat} {outs:List RL.D},RL.jk J mp=some outs->outs.length=mp.length/\∀ (k i:Nat) o,mp[k]?=some i->outs[k]?=some o->J[i]?=some (some o)
 | [],outs,h=>by
  rw[RL.jk]at h;cases h;exact#[rfl,fun k i o e=>by simp at e]
 | m::mp,outs,h=>by
  rw[RL.jk]at h;obtain⟨d,Y,h⟩:=bind_some h;obtain⟨os,U,R⟩:=map_some h;subst R;obtain⟨a,Z⟩:=um U;refine#[by simp[a],fun k i o O I=>?_]
  cases k with
  |zero=>
   simp at O I;subst O I;exact slot_get Y
  | succ k=>exact Z k i o (by simpa using O) (by simpa using I)
def As{fn:RL.Fn}{d r:RL.D}{J:RL.St}(h:RL.bh fn d J=some r)(hm:fn.mp=[]):r=d:=by
 unfold RL.bh at h;rw[hm]at h;simpa using h.symm
def HV{fn:RL.Fn}{d r:RL.D}{J:RL.St}(h:RL.bh fn d J=some r)(hm:fn.mp≠[]):d.imm=true/\∃ outs,RL.jk J fn.mp=some outs/\r=.tup (d::outs):=by
 unfold RL.bh at h;rw[if_neg (by simpa using hm)]at h;split at h
 ·rename_i I;obtain⟨os,R,O⟩:=map_some h;exact#[I,os,R,O.symm]
 ·cases h
structure FnB(p:PT')(d:eT)(fn:RL.Fn):Prop where
 sc:gx d.N d.ps (aN d.st)
 ps:fn.ps=d.ps.length
 nn:fn.nn=d.N.length
 hM:∀ i,i<fn.ps->fn.M.contains i=true->i∈fn.mp
 mp:∀ i∈fn.mp,i<fn.ps/\2<=fn.M.count i
 body:dm (p.cc d) fn.M fn.body (cQ d.st)=true
 hb:d.h=true->dm { p.cc d with calm:=false } fn.M fn.body (cQ d.st)=true
def Hn{d:eT}{fn:RL.Fn}(I:fnB p d fn=true):FnB p d fn:=by
 unfold fnB at I;refine a8 I fun b1 b2 b3 b4 b5 b6 b7 b8=>?_;rw[beq_iff_eq]at b2 b3;rw[Qu]at b5 b6;refine#[CK b1,b2,b3,fun i hi hm=>?_,fun i hi=>by simpa using b6 i hi,b7,fun O=>by simpa[O]using b8];have:=b5 i (List.mem_range.mpr hi);rw[hm]at this;simpa using this
def zb{f:Nat}(h:p.hf.contains f=true):∃ d,p.Ds[f]?=some d/\d.h=true:=by
 unfold PT'.hf at h;rw[List.contains_iff_mem,mem_filter]at h;exact aj h.2
def zZ{cl:RL.Cl}{f:Nat}{d:eT}{fn:RL.Fn}{vs:List V}{H:Hp}{Q:VK}{ds:List RL.D}{r:RL.D}{o:RL.Out}{I:RL.St}(B:FnB p d fn)(O:fn.mp=[])(h:ae nP K H ds vs)(hlen:ds.length=fn.ps)(l:(match o with | .nx=>RL.bh fn .non I | .rt d=>RL.bh fn d I)=some r)(s:RL.af cl fn.M fn.body (ds.map some++replicate (fn.nn-fn.ps) none)=some (o,I))
 (k:∀ v H',aw H H'->Rep (fun p=>H p≠none) K H' r v->Q v H'):tS K fn.M (RL.af cl fn.M fn.body) { nx:=fun _ H'=>Q .non H',rt:=Q } (start d.N vs) H:=by
 have hst:start d.N vs=vs.map some++replicate (d.N.length-vs.length) none:=rfl
 have e:vs.length=fn.ps:=by rw[<-h.length];exact hlen
 refine#[_,o,I,?_,s,?_]
 ·rw[hst,e,<-B.nn]
  exact vI h (fun i hi=>by
   cases hc:fn.M.contains i with
   | false=>rfl
   |true=>
    have:=B.hM i hi hc;rw[O]at this
    cases this) hlen
 ·have U:∀ a,¬ bD fn.M (start d.N vs) a:=fun a ⟨i,hi,j⟩=>by
   rw[hst,bA]at j;have w:=(List.getElem?_eq_some_iff.mp j).1;have:=B.hM i ⋯ hi;rw[O]at this;cases this
  cases o with
  |nx=>
   have Y:=As (d:=.non) l O;subst Y;intro Z m c R;refine k .non m (fun b u g=>(R.1 b u g (U b)).1) (by rw[Rep])
  |rt t=>
   have Y:=As (d:=t) l O;subst Y;intro Z m v H' c R sm rp;refine k v H' (fun b u g=>sm _ _ (R.1 b u g (U b)).1) (rp _ fun q n=>?_);obtain⟨u,hu⟩:=Option.ne_none_iff_exists'.mp n;have:=R.1 q u hu (U q);exact#[(by rw[this.1];exact fun z=>nomatch z),this.2]
def Hy{cl:RL.Cl}{d:eT}{fn:RL.Fn}{vs:List V}{H:Hp}{E:XK}{ds:List RL.D}{x:Str}{I:RL.St}{D:Ends}(B:FnB p d fn)(O:fn.mp=[])(Z:ae nP K H ds vs)(hlen:ds.length=fn.ps)(g:RL.bY cl fn.M fn.body (ds.map some++replicate (fn.nn-fn.ps) none)=some (x,I))
 (k:∀ C od H',CO K x C od H'->aw H H'->E (.ref C) od H'):tXS K fn.M (fun _=>E) (RL.bY cl fn.M fn.body) D (start d.N vs) H:=by
 have hst:start d.N vs=vs.map some++replicate (d.N.length-vs.length) none:=rfl
 have R:vs.length=fn.ps:=by rw[<-Z.length];exact hlen
 refine#[_,x,I,?_,g,fun c h C od U e Y=>k C od h U fun b u f=>(Y.1 b u f fun#[i,hi,a]=>?_).1]
 ·rw[hst,R,<-B.nn]
  exact vI Z (fun i hi=>by
   cases U:fn.M.contains i with
   | false=>rfl
   |true=>
    have:=B.hM i hi U;rw[O]at this
    cases this) hlen
 ·rw[hst,bA]at a;have j:=(List.getElem?_eq_some_iff.mp a).1;have:=B.hM i ⋯ hi;rw[O]at this;cases this
structure Lo(P:Program)(w:World)(K:W.Frag)(mg:Str->Option Value)(base:Heap)(p:PT')(n f:Nat)(d:eT)(fn:RL.Fn)(fa:Addr)(fd:FuncData):Prop where
 nor:eU P w K mg base CX0 (6*n+9) fa fd d.ps (pX K (RL.ak p.T n) fn.mp f)
 ref:fn.mp=[]->eU P w K mg base (CXE P w) (6*n+9) fa fd d.ps (spX K (RL.ak p.T n) f)
 sui:d.h=true->fn.mp=[]->oD P w K mg base (6*n+9) fa fd d.ps (spF K (RL.ak p.T n) f)
def jU(hok:p.ok=true)(tp:xu p w K mg):∀ (n f:Nat) (d:eT) (fn:RL.Fn),p.Ds[f]?=some d->p.T[f]?=some fn->∀ fa fd,Fun K d.name d.name d.st fa fd->Lo P w K mg base p n f d fn fa fd
 | 0,f,d,fn,hd,hf,fa,fd,F=>by
  have no:∀ vs H Q E,¬ pX K (RL.ak p.T 0) fn.mp f vs H Q E:=fun vs H Q E h=>by
   unfold pX at h;split at h
   ·obtain⟨ds,r,_,e,_⟩:=h;cases e
   ·obtain⟨ds,r,o,e,_⟩:=h;cases e
  have noF:∀ vs H Q E,¬ spF K (RL.ak p.T 0) f vs H Q E:=fun vs H Q E h=>by
   obtain⟨ds,r,_,e,_⟩:=h;cases e
  have noX:∀ vs H Q E,¬ spX K (RL.ak p.T 0) f vs H Q E:=fun vs H Q E h=>by
   obtain⟨ds,r,_,e,_⟩:=h;cases e
  exact#[#[fun vs H Q E h=>(no vs H Q E h).elim,fun A outer s H args us vs Q E _ _ _ _ h=>(no vs H Q E h).elim],fun _=>#[fun vs H Q E h=>(noX vs H Q E h).elim,fun A outer s H args us vs Q E _ _ _ _ h=>(noX vs H Q E h).elim],fun _ _=>#[fun vs H Q h=>(noF vs H Q E0 h).elim,fun A outer s H us vs Q _ _ _ _ _ h=>(noF vs H Q E0 h).elim]]
 | n+1,f,d,fn,hd,hf,fa,fd,F=>by
  have hok':=hok;unfold PT'.ok at hok';refine a3 hok' fun hT hl hall=>?_;rw[beq_iff_eq]at hl;rw[decide_eq_true_eq]at hT;rw[Qu]at hall
  have hz:(p.Ds.zip p.T)[f]?=some (d,fn):=by
   rw[List.getElem?_zip_eq_some];exact#[hd,hf]
  have B:=Hn (hall (d,fn) (Qs hz))
  have S:∀ ds r,RL.ak p.T (n+1) f ds=some r->ds.length=fn.ps/\∃ o O,RL.af (RL.ak p.T n) fn.M fn.body (ds.map some++replicate (fn.nn-fn.ps) none)=some (o,O)/\(match o with | .nx=>RL.bh fn .non O | .rt d=>RL.bh fn d O)=some r:=by
   intro ds r h;rw[RL.ak,hf]at h;dsimp only at h;split at h
   ·rename_i hlen;obtain⟨⟨o,O⟩,h1,h2⟩:=bind_some h;exact#[hlen,o,O,h1,h2]
   ·cases h
  have unx:∀ ds x,RL.clX (RL.ak p.T (n+1)) f ds=some x->ds.length=fn.ps/\fn.mp=[]/\∃ O,RL.bY (RL.ak p.T n) fn.M fn.body (ds.map some++replicate (fn.nn-fn.ps) none)=some (x,O):=by
   intro ds x h;unfold RL.clX at h;obtain⟨r,h1,h2⟩:=bind_some h;have hT2:p.T[f+1000]?=none:=List.getElem?_eq_none_iff.mpr ⋯;rw[RL.ak,hT2]at h1;dsimp only at h1;rw[Nat.add_sub_cancel,hf]at h1;dsimp only[Option.bind_some]at h1;split at h1
   ·rename_i hlen;obtain⟨⟨y,O⟩,h3,h4⟩:=map_some h1;subst h4;cases h2;exact#[hlen.1,hlen.2,O,h3]
   ·cases h1
  have look:∀ {g:Nat} {x:Str} {mp:List Nat},p.F[g]?=some (x,mp)->∃ t U,p.Ds[g]?=some t/\p.T[g]?=some U/\t.name=x/\U.mp=mp:=fun {g x mp} hg=>by
   unfold PT'.F at hg;rw[getElem?_map]at hg;obtain⟨⟨t,U⟩,G,q2⟩:=map_some hg;cases q2;rw[List.getElem?_zip_eq_some]at G;exact#[t,U,G.1,G.2,rfl,rfl]
  have Y:∀ (CX:CXT) (E:XK) (cdv:Value) (A:Around) (outer:List Env) (s:Shared) (H:Hp),cH (6*n+14) (A.deeper (envOfC d.name (aN d.st) s.heap.objs.size fa cdv))->YOk (p.cc d) (jd CX P w K mg base d.N d.name (aN d.st) fa cdv A outer s H E).nox (RL.ak p.T n):=fun CX E cdv A outer s H hr=>{
   scope:=rfl
   names:=rfl
   nd:=B.sc.nd
   calm:=fun _=>rfl
   xe:=rfl
   hu:=by
    have:=hr.un;show(A.deeper _).units+100<cLine;lia
   blt:=tp.blt
   glb:=tp.glb
   gds:=fun x tbl hx=>let ⟨d,kvs,a,b,c⟩:=tp.gds x tbl hx;⟨d,kvs,a,⟨b.1,fun h q=>b.2 _ h q⟩,c⟩
   fns:=fun g x mp _ hg=>by
    obtain⟨t,U,G,q2,rfl,rfl⟩:=look hg;obtain⟨l,j,t1,t2,t3,t4⟩:=tp.defs g t G;exact#[6*n+9,l,j,t.ps,(jU hok tp n g t U G q2 l j t2).nor,hr.mono ⋯,t1,t3,t4]
   hfn:=fun g x hh hg=>by
    obtain⟨t,U,G,q2,rfl,q3⟩:=look hg;obtain⟨d2,q4,q5⟩:=zb hh;rw[G]at q4;cases q4;obtain⟨l,j,t1,t2,t3,t4⟩:=tp.defs g t G;exact#[6*n+9,l,j,t.ps,(jU hok tp n g t U G q2 l j t2).sui q5 q3,(hr.mono ⋯).h,t1,t3,t4]
   cls:=tp.cls
   ref:=tp.ref
   fn:=fun _=>rfl
   st:=#[rfl,rfl,rfl]
   fnx:=fun g x _ hg=>by
    obtain⟨t,U,G,q2,rfl,q3⟩:=look hg;obtain⟨l,j,t1,t2,t3,t4⟩:=tp.defs g t G
    exact#[6*n+9,l,j,t.ps,(jU hok tp n g t U G q2 l j t2).ref q3,hr.mono ⋯,t1,t3,t4] }
  refine#[?_,fun L=>?_,fun hh L=>?_]
  ·refine Fun.ok F B.sc (fun vs H Q E h=>?_) fun cdv A outer s H vs Q E hr h=>?_
   ·unfold pX at h;split at h
    ·obtain⟨ds,r,r1,e,_⟩:=h;rw[<-r1.length,(S ds r e).1,B.ps]
    ·obtain⟨ds,r,o,e,a,_⟩:=h;rw[<-a.lU.length,(S ds _ e).1,B.ps]
   ·refine#[_,cJ fn.body (Y CX0 E cdv A outer s H hr) (M:=fn.M) _ B.body,?_];have hst:start d.N vs=vs.map some++replicate (d.N.length-vs.length) none:=rfl;unfold pX at h;split at h
    ·rename_i L;obtain⟨ds,r,r1,e,k⟩:=h;obtain⟨hlen,o,O,e1,e2⟩:=S ds r e;exact zZ (f:=f) B L r1 hlen e2 e1 k
    ·rename_i L;obtain⟨ds,r,outs,e,a,k⟩:=h;obtain⟨hlen,o,O,e1,e2⟩:=S ds _ e
     have hvl:vs.length=fn.ps:=by rw[<-a.lU.length];exact hlen
     refine#[_,o,O,?_,e1,?_]
     ·rw[hst,hvl,<-B.nn];exact EJ a B.hM (fun i hi=>ke (B.mp i hi).2) hlen
     ·-- the lists behind it
      have fin:∀ (d0:RL.D) (QK:L2.St) (H1 H':Hp) (v:V),RL.bh fn d0 O=some (.tup (r::outs))->RVm K fn.M O QK H1->Fr' fn.M (start d.N vs) H QK H1->aw H1 H'->(d0.imm=true->Rep nP K H' d0 v)->Q v H':=by
       intro d0 QK H1 H' v ht rv1 X sm rp;obtain⟨im,os,g1,g2⟩:=HV ht L;cases g2;obtain⟨l1,l2⟩:=um g1;refine k v H' (fun b u nb eb=>sm _ _ (X.1 b u eb fun⟨i,hi,ei⟩=>?_).1) (rp im) im ⟨l1,fun kk pp oo hk ho=>?_⟩
       ·rw[hst,bA]at ei;have h3:=(List.getElem?_eq_some_iff.mp ei).1;exact nb ⟨i,B.hM i ⋯ hi,ei⟩
       ·have hpm:=Qs hk;obtain⟨dp,ap,g3,g4,g5⟩:=a.own pp hpm;have g6:=X.2 pp (B.mp pp hpm).2
        have g7:(start d.N vs)[pp]?=some (some (.ref ap)):=by rw[hst,bA];exact g4
        rw[g7]at g6;obtain⟨v',g8,g9⟩:=rv1.val pp oo (l2 kk pp oo hk ho);rw[g6]at g8;cases g8;rw[if_pos (ke (B.mp pp hpm).2)]at g9;exact#[ap,g4,g9.same sm]
      cases o with
      |nx=>
       intro QK H1 rv1 X
       exact fin .non QK H1 H1 .non e2 rv1 X (aw.refl _) fun _=>by rw[Rep]
      |rt d0=>
       intro QK H1 v H' rv1 X sm rp;exact fin d0 QK H1 H' v e2 rv1 X sm fun im=>rp nP fun _ z=>z.elim
  ·refine Fun.okX F B.sc (fun vs H Q E h=>?_) fun cdv A outer s H vs Q E hr h=>?_
   ·obtain⟨ds,x,r1,e,_⟩:=h;rw[<-r1.length,(unx ds x e).1,B.ps]
   ·have R:ROk (p.cc d) (jd (CXE P w) P w K mg base d.N d.name (aN d.st) fa cdv A outer s H E) (RL.ak p.T n) (fun _=>E):={
     y:=Y (CXE P w) E cdv A outer s H hr
     cal:=rfl
     pass:=fun pins J H1 s1 e s' I z=>by
      obtain⟨x,C,od,H',rfl,hE,I',ex,_⟩:=I.refused rfl z;exact nK I' rfl rfl rfl ex hE I'.ok.frames
     made:=fun pins J H1 s1 h' e C vs I m z=>by
      obtain⟨I',ex⟩:=I.newExc rfl m;exact nK I' rfl rfl rfl ex z I'.ok.frames
     Hb:=fun pins J H1 s1 C i e od H' s' I nx z=>by
      obtain⟨I',ex⟩:=I.newX rfl nx;exact nK I' rfl rfl rfl ex z I'.ok.frames
     own:=PassesOwn.leaving }
    obtain⟨ds,x,r1,e,k⟩:=h;obtain⟨hlen,_,O,e1⟩:=unx ds x e;exact#[_,fJ fn.body R (M:=fn.M) _ B.body,Hy B L r1 hlen e1 k]
  ·refine Fun.okH F B.sc (fun vs H Q h=>?_) fun cdv A outer s H vs Q hr h=>?_
   ·obtain⟨ds,r,r1,e,_⟩:=h;rw[<-r1.length,(S ds r e).1,B.ps]
   ·have Z:YOk { p.cc d with calm:=false } (cxH P w K mg base d.N d.name (aN d.st) fa cdv A outer s H) (RL.ak p.T n):={
     scope:=rfl
     names:=rfl
     nd:=B.sc.nd
     calm:=fun z=>(nomatch z)
     xe:=rfl
     hu:=by
      have:=hr.un;show(A.deeper _).units+100<cLine;lia
     blt:=tp.blt
     glb:=tp.glb
     gds:=fun x tbl hx=>let ⟨d,kvs,a,b,c⟩:=tp.gds x tbl hx;⟨d,kvs,a,⟨b.1,fun h q=>b.2 _ h q⟩,c⟩
     fns:=fun _ _ _ z=>(nomatch z)
     hfn:=fun g x hh hg=>by
      obtain⟨t,U,G,q2,rfl,q3⟩:=look hg;obtain⟨d2,q4,q5⟩:=zb hh;rw[G]at q4;cases q4;obtain⟨l,j,t1,t2,t3,t4⟩:=tp.defs g t G;exact#[6*n+9,l,j,t.ps,(jU hok tp n g t U G q2 l j t2).sui q5 q3,hr.mono ⋯,t1,t3,t4]
     cls:=tp.cls
     ref:=tp.ref
     fn:=fun _=>rfl
     st:=#[rfl,rfl,rfl]
     fnx:=fun _ _ z=>(nomatch z) }
    obtain⟨ds,r,r1,e,k⟩:=h;obtain⟨hlen,o,O,e1,e2⟩:=S ds r e;exact#[_,cJ fn.body Z (M:=fn.M) _ (B.hb hh),zZ (f:=f) B L r1 hlen e2 e1 k]
def FE(hok:p.ok=true)(tp:xu p w K mg):∀ (n f:Nat) (d:eT) (fn:RL.Fn),p.Ds[f]?=some d->p.T[f]?=some fn->∀ fa fd,Fun K d.name d.name d.st fa fd->eU P w K mg base CX0 (6*n+9) fa fd d.ps (pX K (RL.ak p.T n) fn.mp f):=fun n f d fn a b fa fd F=>(jU hok tp n f d fn a b fa fd F).nor
end
abbrev spL(n:Nat)(p:PT')(f:Nat)(K:W.Frag):Sp:=spF K (RL.ak p.T n) f
def Jc{n:Nat}{p:PT'}{f:Nat}{K:W.Frag}{H:Hp}{a:Addr}{ns:List Int}(R:vt H)(I:SqL K H a (ns.map V.int))(h:RL.ak p.T n f [.scr (ns.map RL.D.int)]=some (.bl true)):spL n p f K [.ref a] H (fun v _=>v=.bl true) fun _ _ _=>False:=by
 refine#[_,_,?_,h,fun v H' _ r=>br r];refine ae.cons ?_ ae.nil;rw[Rep];refine#[a,ns.map V.int,rfl,?_,?_]
 ·rcases I with(z | ⟨o,z⟩) | z
  ·rcases R a with q | ⟨o,xs,q⟩
   ·rw[q]at z;cases z
   ·rw[q]at z;cases z
  ·exact .inl #[o,z]
  ·exact .inr (.inr z)
 ·clear I h
  induction ns with
  | nil=>exact ae.nil
  | cons i r O=>exact ae.cons bg O
end RS
namespace K15
open PySem PySem.Spec PyProof.Rows L2
abbrev top(i:Nat):Stmt:=PySem.Challenge.pw_ribbonloft_k15_halves_put_together.main.body.getD i (.Pass ⟨0,0,0,0⟩)
abbrev mkD(x:Str)(i n:Nat)(N:List Str)(b:Bool:=false):RS.eT:=#[x,top i,N.take n,N,b]
abbrev Ds:List RS.eT:=[
 mkD "is_number" 19 1 ["value"],
 mkD "is_peg_count" 20 1 ["value"],
 mkD "check_pegs" 21 1 ["pegs"],
 mkD "is_pairing" 23 1 ["row", "place"],
 mkD "names_back" 24 2 ["row", "place", "other"],
 mkD "is_uncrossed" 25 1 ["row", "waiting", "place", "other"],
 mkD "run" 26 3 ["one", "other", "start", "places", "onward", "side"],
 mkD "rings_of" 27 2 ["one", "other", "seen", "start", "many"],
 mkD "mark" 28 2 ["seen", "places", "place"],
 mkD "is_frame" 30 1 ["frame", "pegs", "alone", "peg", "other"],
 mkD "check_frame" 31 1 ["frame"],
 mkD "check_two_frames" 32 2 ["one", "other"],
 mkD "pegs_of" 33 1 ["frame"],
 mkD "plain" 34 1 ["pegs"],
 mkD "over" 35 1 ["frame"],
 mkD "through" 36 1 ["frame", "pegs", "other"],
 mkD "round_place" 37 2 ["pegs", "peg"],
 mkD "in_round" 38 1 ["frame", "pegs", "peg"],
 mkD "moved" 39 2 ["frame", "to", "ends", "peg", "other"],
 mkD "is_half" 41 1 ["half"],
 mkD "check_half" 42 1 ["half"],
 mkD "check_two_halves" 43 2 ["one", "other"],
 mkD "upper" 44 1 ["frame", "pegs", "peg", "other"],
 mkD "lower" 45 1 ["frame"],
 mkD "meeting" 46 2 ["one", "other", "ends", "both", "peg", "end"],
 mkD "going" 47 1 ["half", "peg", "other"],
 mkD "hung" 49 2 ["upper", "lower"],
 mkD "put_under" 50 2 ["upper", "lower", "pegs", "ribbons", "joints", "outer", "ends", "frame", "peg", "end"],
 mkD "joints_between" 51 1 ["pegs", "top", "above", "beneath", "bottom"],
 mkD "_law_kin" 53 1 ["_law_e", "_law_found", "_law_words", "_law_word_here", "_law_kin_here"] true,
 mkD "_law_mix" 54 1 ["_law_seed", "_law_one", "_law_two"],
 mkD "_law_raw" 55 2 ["_law_script", "_law_k", "_law_cell", "_law_found", "_law_turn"],
 mkD "_law_digits" 56 3 ["_law_script", "_law_k", "_law_sizes", "_law_rest", "_law_found", "_law_size"],
 mkD "_law_plain" 57 1 ["_law_pegs", "_law_peg"],
 mkD "_law_hook" 58 2 ["_law_pegs", "_law_number", "_law_found", "_law_start"],
 mkD "_law_circle" 59 1 ["_law_pegs"],
 mkD "_law_from_text" 60 1 ["_law_text_here", "_law_pegs", "_law_circle_here", "_law_found", "_law_line", "_law_place", "_law_sign", "_law_peg", "_law_other"],
 mkD "_law_text" 61 2 ["_law_raw_here", "_law_pegs", "_law_text_here", "_law_deep", "_law_left", "_law_up", "_law_step"],
 mkD "_law_rings_by" 62 3 ["_law_high", "_law_low", "_law_inner", "_law_pegs", "_law_head", "_law_peg", "_law_other", "_law_one", "_law_keep", "_law_go"],
 mkD "_law_hung" 63 2 ["_law_high", "_law_low", "_law_pegs", "_law_near", "_law_peg", "_law_found", "_law_gone", "_law_here", "_law_turn"],
 mkD "_law_over" 64 1 ["_law_frame_here", "_law_pegs", "_law_peg"],
 mkD "_law_frame" 65 3 ["_law_script", "_law_k", "_law_pegs", "_law_found", "_law_way", "_law_raw_here", "_law_number"],
 mkD "_law_frames" 66 4 ["_law_script", "_law_k", "_law_pegs", "_law_count", "_law_at"],
 mkD "_law_upper" 67 1 ["_law_frame_here", "_law_pegs", "_law_peg"],
 mkD "_law_lower" 68 1 ["_law_frame_here"],
 mkD "_law_joined" 69 2 ["_law_one", "_law_other", "_law_pegs", "_law_found", "_law_high", "_law_low", "_law_here", "_law_there", "_law_peg", "_law_end"],
 mkD "_law_same" 70 2 ["_law_told", "_law_due", "_law_one", "_law_other"],
 mkD "_law_word" 71 2 ["_law_one", "_law_other", "_law_word_here", "_law_e"],
 mkD "law" 72 1 ["_law_script", "_law_k", "_law_bad", "_law_pegs", "_law_due", "_law_peg", "_law_short", "_law_words", "_law_high", "_law_low", "_law_here", "_law_there", "_law_frame_here", "_law_rings", "_law_told", "_law_fallen"]]
abbrev p:RS.PT':=#[["ValueError", "all", "bool", "enumerate", "int", "isinstance", "len", "list", "max", "range", "set", "str", "tuple", "zip"],[("MOST_PEGS",10)],Ds,T,["BadFrame", "BadHalf", "BadPegs", "RibbonError"],["BadFrame", "BadHalf", "BadHook", "BadName", "BadPage", "BadPegs", "BadTrade", "Full", "Hangs", "NoFrame", "NoNumber", "NoPlace", "NoStack", "NothingThere", "Taken"],[],[],[]]
def LR:p.ok=true:=by decide +kernel
def jN{P:List Value->Prop}{n:Nat}(h:∀ a t,t.length=n->P (a::t))(us:List Value)(hl:us.length=n+1):P us:=by
 cases us with
 | nil=>cases hl
 | cons a t=>exact h a t (Nat.succ.inj hl)
def xI{P:List Value->Prop}(h:P [])(us:List Value)(hl:us.length=0):P us:=by
 rw[List.eq_nil_of_length_eq_zero hl];exact h
def all1{P:List Value->Prop}(h:∀ I,P [I]):∀ us:List Value,us.length=1->P us :=
 jN fun I=>xI (h I)
def all2{P:List Value->Prop}(h:∀ I a1,P [I,a1]):∀ us:List Value,us.length=2->P us :=
 jN fun I=>jN fun a1=>xI (h I a1)
def qO{P:List Value->Prop}(h:∀ I a1 a2,P [I,a1,a2]):∀ us:List Value,us.length=3->P us :=
 jN fun I=>jN fun a1=>jN fun a2=>xI (h I a1 a2)
def LP{P:List Value->Prop}(h:∀ I a1 a2 a3,P [I,a1,a2,a3]):∀ us:List Value,us.length=4->P us :=
 jN fun I=>jN fun a1=>jN fun a2=>jN fun a3=>xI (h I a1 a2 a3)
section
variable{K:W.Frag}{h:Heap}{mg:Str->Option Value}{x:Str}{st:Stmt}{f:Addr}{oc kV dc pm cd ct:Value}{od an:Option Addr}{sl:Array (Option Value)}{ps:List Str}
abbrev At(K:W.Frag)(mg:Str->Option Value)(x:Str)(st:Stmt)(ps:List Str):Prop:=∃ f fd,mg x=some (.ref f)/\Fun K x x st f fd/\W.keepIn K (.ref f)=true/\Binds K fd ps []
def FJ(X:K.In h)(G:h.Ns mainGlobals mg)(a:W.nsIn K mainGlobals x=some (some (.ref f)))(l:K.lookup f=some ⟨oc,od,.func (W.fnOf x x (iR st) (cQ st) (aN st) .none kV dc pm an cd ct),sl⟩)(c:W.codeIn K cd x=true)(k:W.keepIn K (.ref f)=true)
 (b:∀ (kV doc pm:Value) (an:Option Addr) (cdv ct:Value) (us:List Value),us.length=ps.length->bindArgs (W.fnOf x x (iR st) (cQ st) (aN st) .none kV doc pm an cdv ct) ⟨us,[]⟩=pure (ps.zip us)):At K mg x st ps :=
 ⟨f,_,W.mg_of X G a,yB (st:=st) l c k,k,(yB (st:=st) l c k).binds b⟩
abbrev pS(K:W.Frag)(mg:Str->Option Value):List RS.eT->Prop
 | []=>True
 | d::r=>At K mg d.name d.st d.ps/\pS K mg r
def pS.get:∀ {l:List RS.eT} {f:Nat} {d:RS.eT},pS K mg l->l[f]?=some d->At K mg d.name d.st d.ps
 | [],_,_,_,e=>by cases e
 | _::_,0,_,h,e=>by cases e;exact h.1
 | _::_,f+1,_,h,e=>pS.get (f:=f) h.2 e
abbrev AllP(P:Str->Prop):List Str->Prop
 | []=>True
 | x::r=>P x/\AllP P r
def AllP.get{P:Str->Prop}:∀ {l:List Str},AllP P l->x∈l->P x
 | _::_,h,e=>(List.mem_cons.mp e).elim (fun z=>z▸h.1) fun z=>AllP.get h.2 z
abbrev qM(K:W.Frag):List (Str × Int)->Prop
 | []=>True
 | q::r=>(∃ t,W.nsIn K mainGlobals q.1=some (some (.int q.2 t)))/\qM K r
def qM.get{i:Int}:∀ {l:List (Str × Int)},qM K l->l.lookup x=some i->∃ t,W.nsIn K mainGlobals x=some (some (.int i t))
 | [],_,e=>by cases e
 | q::_,h,e=>by
  rw[Qo]at e
  cases hb:x == q.1 with
  | true=>rw[hb]at e;cases e;rw[eq_of_beq hb];exact h.1
  | false=>rw[hb]at e;exact qM.get h.2 e
structure Tp(w:World)(K:W.Frag)(mg:Str->Option Value):Prop where
 t1:pS K mg Ds
 t2:AllP (fun x=>W.nsIn K mainGlobals x=some none) p.B
 t3:qM K p.G
 t4:AllP (fun c=>∃ D,W.nsIn K mainGlobals c=some (some (.ref D))/\RS.j8 K c D=true/\W.excIn K D RS.VE "ValueError.__new__" = true) p.Xr
 t5:AllP (fun c=>∃ D,W.nsIn K mainGlobals c=some (some (.ref D))) p.Xs
def IE{w:World}(X:K.In h)(G:h.Ns mainGlobals mg)(A:Tp w K mg):RS.xu p w K mg where
 gds:=fun x t e=>by cases e
 defs:=fun f d e=>A.t1.get e
 blt:=fun x I=>W.mg_none_of X G (A.t2.get I)
 glb:=fun x i I=>let ⟨t,R⟩:=A.t3.get I;⟨_,W.mg_of X G R,t,rfl⟩
 cls:=fun c O=>let ⟨D,a,b,e⟩:=A.t4.get (by simpa using O);⟨D,W.mg_of X G a,⟨a,b⟩,e⟩
 ref:=fun c O=>let ⟨D,a⟩:=A.t5.get (by simpa using O);⟨D,W.mg_of X G a,a⟩
end
end K15
end
open PySem PySem.W PyProof.Rows
set_option maxRecDepth 100000 in
set_option maxHeartbeats 0 in
theorem PySem.Challenge.cw_ribbonloft_k15_halves_put_together_holds : PySem.Challenge.rw_ribbonloft_k15_halves_put_together.Holds := by
 refine hdTop ?_
 k_fill
 refine L2.C7 (l:=PySem.Challenge.rw_ribbonloft_k15_halves_put_together) (n:=63) (k:=189) (x := "_law_script") (CX:=L2.CX0) (sp:=RS.spL 30 K15.p 48) rfl (by decide) rfl ⟨rfl,by decide,by decide⟩ (fun w h Y=>kIn_of Y) ?F ?S ?C
 case F =>
  intro w mg fa h KX G hmg
  have T:K15.Tp w (L2.KOf KX) mg:=by
   dsimp only[L2.KOf];constructor
   ·dsimp only[K15.pS,K15.Ds,K15.mkD,List.take]
    iterate 49 (refine' ⟨K15.FJ KX G ?a ?l ?c ?k ?b,?_⟩;(case a=>k_is);(case l=>k_is);(case c=>k_is);(case k=>k_is);(case b=>first | exact fun _ _ _ _ _ _=>K15.all1 fun _=>rfl | exact fun _ _ _ _ _ _=>K15.all2 fun _ _=>rfl | exact fun _ _ _ _ _ _=>K15.qO fun _ _ _=>rfl | exact fun _ _ _ _ _ _=>K15.LP fun _ _ _ _=>rfl))
    exact True.intro
   ·dsimp only[K15.AllP,K15.p]
    iterate 14 (refine' ⟨?a,?_⟩;(case a=>k_is))
    exact True.intro
   ·dsimp only[K15.qM,K15.p]
    iterate 1 (refine⟨⟨_,by k_is⟩,?_⟩)
    exact True.intro
   ·dsimp only[K15.AllP,K15.p]
    iterate 4 (refine' ⟨⟨_,?n,RS.Jf ?c,?exc1⟩,?_⟩;(case n=>k_is);(case exc1=>k_exc);(case c=>constructor;(refine RS.E4 ?_;k_exc);(iterate 9 k_is);kit_is;(iterate 16 (refine' RS.Gu ?n ?k ?s ?e;(case n=>k_is);(case k=>kit_is);(case s=>k_is);(case e=>decide +kernel)))))
    exact True.intro
   ·dsimp only[K15.AllP,K15.p]
    iterate 15 (refine⟨⟨_,by k_is⟩,?_⟩)
    exact True.intro
  have tp:=K15.IE KX G T;obtain⟨fa',fd,h1,h2,h3,h4⟩:=tp.defs 48 _ rfl;have e0:=hmg.symm.trans h1;cases e0;refine⟨fd,fun s u=>?_,fun base kb nb=>RS.FE K15.LR tp 30 48 _ _ rfl rfl _ _ h2⟩;obtain⟨oc,od,kV,doc,pm,an,cdv,ct,osl,e9,_,_⟩:=h2.ex;subst e9;exact .of_eq rfl
 case S=>exact fun K H a ns hl hO hS=>RS.Jc hO hS (K15.main ns hl)
 case C=>exact fun _ _ _ _ h=>h
