import PyProof.Rows.All
import OpenK.KLine
import Wide.FinOn
import KE.KSortAsk
import KE.KUnpack
import OpenK.KOwn
import KE.RegKIsAll
import KE.KItem
import KE.KDictOf
import PyProof.EqAt
import PyProof.EqKinds
import PyProof.TupleCall
import PySem.Str
import PyProof.NeKinds
import PyProof.CompMap
import PyProof.CompFree
import PyProof.EnumMake
import PyProof.Draws
import PyProof.ListRange
import PyProof.ConsumeWalk
import PyProof.Rows.SetFrom
import PyProof.SetRoads
import PyProof.ZipIter
import PyProof.Rows.SumAny
import PyProof.Rows.SortWalk
import PyProof.Rows.SeqMore2
import PyProof.Rows.SeqMore
import PyProof.StrWalks
import PyProof.SliceStr2
import PyProof.StrBlockI
import PyProof.StrOps2
import PySem.SetOps
import PyProof.SetScanFacts
import KE.KDictSum
import PyProof.DictWalks
import PyProof.DictRoadsH
import PyProof.MeetsSeq3
import PyProof.MinMaxWalk
import PyProof.WalkInts
import PyProof.MeetsIn
import PyProof.Rows.TupDisplay
import PyProof.Rows.TupIter
import PyProof.CollectIter
import PyProof.WalksS
import PyProof.WalksMore
import PySem.Challenge.RW_ribbonloft_k34_whole_pairs_that_make_the
set_option Elab.async false
set_option linter.all false
set_option maxRecDepth 100000
set_option maxHeartbeats 4000000
set_option autoImplicit true
set_option relaxedAutoImplicit true
set_option genSizeOf false
set_option genSizeOfSpec false
set_option genInjectivity false
namespace HK
open PySem PySem.W
noncomputable def live : Obj → Bool
  | ⟨_, _, .freed, _⟩ => false
  | _ => true
noncomputable def pick : List Nat → Nat → List Obj → List (Nat × Obj)
  | a :: as, i, o :: os => cond (Nat.beq a i) (cond (live o) ((a, o) :: pick as (i + 1) os) []) (pick (a :: as) (i + 1) os)
  | _, _, _ => []
theorem sub_step {a i : Nat} (h : i + 1 ≤ a) : a - i = (a - (i + 1)) + 1 := by omega
theorem pick_in : ∀ {as : List Nat} {i : Nat} {os : List Obj} {a : Nat} {o : Obj}, (pick as i os).lookup a = some o → i ≤ a ∧ os[a - i]? = some o ∧ live o = true
  | [], _, [], _, _, h => nomatch h
  | [], _, _ :: _, _, _, h => nomatch h
  | _ :: _, _, [], _, _, h => nomatch h
  | b :: as, i, u :: os, a, o, h => by
    rw [pick] at h
    have go : ∀ {l : List Nat}, (pick l (i + 1) os).lookup a = some o → i ≤ a ∧ (u :: os)[a - i]? = some o ∧ live o = true := fun h => by
      obtain ⟨h1, h2, h3⟩ := pick_in h
      refine ⟨Nat.le_of_succ_le h1, ?_, h3⟩
      rw [sub_step h1, List.getElem?_cons_succ]
      exact h2
    cases hb : Nat.beq b i with
    | true =>
      rw [hb] at h
      have e := Nat.eq_of_beq_eq_true hb
      subst e
      cases hl : live u with
      | false => rw [hl] at h; cases h
      | true =>
        rw [hl] at h
        have h : ((b, u) :: pick as (b + 1) os).lookup a = some o := h
        rw [List.lookup_cons] at h
        cases hc : a == b with
        | true =>
          rw [hc] at h
          cases h
          have e := eq_of_beq hc
          subst e
          exact ⟨Nat.le_refl _, by rw [Nat.sub_self]; rfl, hl⟩
        | false =>
          rw [hc] at h
          exact go h
    | false =>
      rw [hb] at h
      exact go h
noncomputable def hook (K : Params → Frag) (as : List Nat) : Hook :=
  ⟨List (Nat × Obj), fun s => pick as 0 s.heap.objs.toList, fun w => K w.params, InK K, fun w s e a o l => by
    rw [← show pick as 0 s.heap.objs.toList = K w.params from e] at l
    obtain ⟨_, h, v⟩ := pick_in l
    rw [Nat.sub_zero, Array.getElem?_toList] at h
    unfold Heap.get?
    rw [h]
    unfold live at v
    split at v
    · cases v
    · rename_i h'
      split
      · rename_i h1
        cases h1
        exact absurd rfl (h' _ _ _)
      · rfl, InK.keeps⟩
theorem in_of {K : Params → Frag} {as : List Nat} {w : World} {h : Heap} (Y : (hook K as).says w h) : (K w.params).In h := Y
end HK
namespace PySem.W.Fast
local macro_rules|`(universe $x*)=>do pure (Lean.mkNullNode (<-x.mapM fun x=>`(theorem $(Lean.mkIdent (.mkSimple s!"tw{x.getId.toString.foldl (fun a c=>52*a+c.toNat-if c.toNat<97 then 65 else 71) 0}")) :True:=trivial)))
universe FCQoQzqIwGI BykEVEFhwpyo rZobMsOjFwQ BoflJdPOyjfE KXwfPTnSkOI BfsqKtVtTmMw PwPtFKHHOZs UgrptMpaXuY qPeSDibrkZM RhhtZefoCTk LKMrCdaKUCY CDfHzKdzYoA mnDgSToGxHk BakZlApGkehs ISFoXXXmBdM BnfAjSjpphNM fvSeXMYhgDE BKkRhDAcBKaZ CWAvttDMtuep BqoTegnPyRkB nAZGgaXNqcR BqQUDrQuJAmJ LTaqVFWriep taAxVCkbiYh BztXdmUOEOJ BnVXuTyQyGDl BJaAXEpnmfEB CNGhUibNWzRd onKnkJCRXYR JsoNltiolpd CCvMsXNQLVTV CFgqqQArGnaJ YYtfVBjLSsy imslCRxLCAi BYaVYBiMHSte TDINJKmyHwS uDGeqhpzDUC BwkuetmKLwOK WitaxOrbyDm FdbRaUYekAC iaFKbkpNsAi BvpoXBYCrfki qipcqnOQvqq BSKpGRfMcCjG CVYQBowtrDtO CJrDfnquOmNe rIxaUooUxaK RxcUJCErHBf CLgHksTOWqib meQUbhmwFwz hjKDmWKIOGL CVcoulTYjCCb CXMSEDPwMgpv nSkEdypZhZf BpbiBJlUcWOr DjeZNLxPNdP BvwMLPSYngWr NiNoHATTMJP vOjRNHGCoFA BdDXHQXriTKM NjzlbuBIgkU fiGezBrbExw BrheQGSmbLFw CNNwFdRvHfys BXMJoajqzsjI FAgdBeWycdg BhKNnZpZnUcU wySsBpyjwNA oxEwbVbAtsk hJItHxqJNHJ BELEWAbAJKkV keUKDoDjIGN bYyOWeEsKAF SZRqkvJgqAl BoejajAzTYWN BfcmXqBeCqZR jbupBssRpit CLeZbOcGBXQV QRZbTmnIQRx BugEAKRmEAid sVcrvZkGbud BDEbhAPhglMF BNcGmFqiiYWN BMeZLApDOrSt BAuLMGiazrhh jlIIaQqAFBB cIPpUCDzTlx BcynjMpBbLBh UjxdQNoOVVx BiFHTwBRUNXq qhkquUSArTa BFdTswiMkiEW NtvzPvKvhoW hJImGIVyNDa wTxGfBCRseO WgYUBcpNtJC nMtzWHTEhKO BlcRukyvlhsm CSEomhfOBcAG yHmoiCRWlCO CWsyAXLgdkWP ijZtWAqMkCf pZDYiPvNzTb BREcaoHBdtdT BoMTrytyjVRD mShMSskXmeQ GZnqDUwlIKg BcpBbLehAnCQ BwSpRrjZByPc BiyBarkYhmiA uYRDUlMKnuA CEcJRfuhNxPs BIOJnfDBLoFE WDwLaRiJAaA BOPpEauVFTjc BdWNTEpuKIoI BQjmsuPjCZeA xmpHwyVykrt BUvEhlvDkIrt BZOaOrJEOJax CKCFkHmCMzft euZGPHHFrNV CRhHXWLNVUSh BSYnmAIlQWZV CAbwUBvEvnZF CMGZdScUJyEa WOfvpaubhnO BCSCKAEpHYuS BxFoUYQyxigK dpTtmAfRIYK BoQrnPIdXFPu BMuDKbspsUgq CSWNimoTLGyi BuzUdwsqmulG KewCNwQfiai fXblvKqrwDO BLCkNxurmSiC IsKAfNfbgru bmADjyGOISi dmapjtsMByy CFkCZycEPSOy CVMtHSIJuDOD NvygSnmnmGT eXMuQAFOWiD BnYJVfuWVwgL ikwvpUthsjP BswdRPOFZvcr BCBytrrGDsoL SkXcxUJTxWj BXmKzTVatMKD BTndywGgBQFH BVmKBfRNRhqT lQwbhiWlrZn COjyMAGcwAmT fjOPSWQkfRo BhTAStooqsjQ BBjCPpXrZOjQ TNyOFUdziws kZzpqlQJwmU BugvzMImRWLw CQZHTQLQDQHA REloBVpemzQ UXFuqKMkpGE CKdNWMYuIJoc BvSrHXIoCNTA COOShMNQZLqV tVwPhknuVJJ BOaceJHfyMBZ MDqTiNdRVDB IBvsedjLwIN TpFtscZJGzR BZLIioVKjiaF BtBtYYHPBvHR TOGXpoPCVQd zoZfhzeCkyl clqqKJiwTDh BVVBuJSlpzCV smzatYVqike mlJDlZgyKVK QRzCtbsxBEO tCLtqWHABQe CLeCSHVzZFJq BzjjABbIkvTC BzuxpbDWRvbi xspzkNmeBPy CXQUXBSCzMce BgtGFUrxbVNa plefgUFqbri zvHHCytoSzS BIZHbmmaGmrS CBtZxUXDshGG CBrbskTBBRKW BHLlKboTLDRr CAKEZSOtJTTj BTSlflhOTOUf cTNQKunKhMv uOXIYkgtbGH CKAIMjwKegvj bQYRCbKBqrT BOdcobwLhEHk oljuZLgCLuo BKMuDvdOYBxs BxVoQxOtlvwA CHlzmSUFxSGY BOwGwaVeVRzE BUOkuaHRtSkA BgxRJiFotanE MJKVbhGopJs BUAEssWIagvl rTGNKkWXWFN BriCBeuNeeXl BOnveCEQUoaJ EnBHNvneffV fmklRBUfQgR KfQjPlyrvMR YpyXNiKmGdN BlNodGxXaGBd qxHeFQySOZ CQWePYULzdjG CQxJPXclJiFO BfmEHXswhszW qGHfvdzANUy CPDLyoowEPte BKcNHhXkodrm BtaWCKXxJSPG CQxYVdfXvzaa BLijnrBXGKdu BlSLsubDzasC BekNNfhfHrEy BBOMCDLJvfTm CQfsQQvuktYi qiHYRQliAnG BSCGHlTiBMvG mFmBcWuGTcS BljomlIcEqRf BUxPTsfLTQCL CTPXBHxSXoir CRgukFDgPKoz fyLzRBRfQj BvZjaLXEPZLH BhNYBOJJwMwT NhnOslvcDBP BSFUBzZMtZIj oqftzVNUPJP hYqTSRjiArX CSQPGEmCoZLH BmNMkGqWOIgz jrHagdeMlOL CAdflnBClRib CAzlOwxUglWL jpjQYzKamSL BoSRZcjWKvDH buOzWQkHFeL BxxrHVToZgfn BazPHyLepmbY CRbaCamVHtSc mOgrMEhILzo vxCpoFiZbQk BQtPdfwbBCqs slExnIXFZuM BsfqrfrDCIrY BkLDvCJVsoDY CKnfdRLffsbZ LXyuMMXeZlh BRnhlmurumMl BogJytERqnPZ aGqRrhQNMHp CROmAQtZjgxh CAVVmFNHxmlR mQhXmNdyZxx BuYtHrFEqUdx BCtYfaVMIRrp XGBYMkYCJZR CKdxaNPeDlOt BvnaelKoxRSe BxjhsqwjrNgm BonzgGvfdDdC BOLmOZeTQgBi BqUdtBHQFVuu vRTpmwYnHUW BllvyvACIopi LkqkXXgWXCe sxGGlJBtfjq BoEPSVQAvFCf jouVkyElOdz CSjCqKdXwOyP CJvPfHwXDbtD SSREnfNZspD BRpxtDnoFDkX qqUthdredhT eSzpFYgBFUX KhyrtENrmRj BLZTmVwkQAmf CNsEJcAPzvEY BRgEeNZJzwrc CRbcZyYefWRk HamyzvVQztE CQDiMUCGPKSw CUmYCNdeoco qJUTuTSQzLM BIQboemSKLrs LqjFTdCLBcZ WKaDsaBikrd ZQRYHmtXqjd BYBUwpsQYxFl kkIRHZbkctV sbnidirnzTt VihnIkmmAFV BAeteoosTmIZ BfxLJvgdbex BpRhCfHqtKnt iHQNGkPXxii BcmjfRqWqzka CKXUGXHwPdSC wTsJidBPVG CBwmVXCNLoUK CWtxhCaYQZxW tdIcncNHfFG sUlQsFPxyKS BoZprVNdLrbu BDlqOuIINLLu CUvPdQwxHukK BSWDMNyTIxYq CPCTogiRjsxm BglGBCdLXwwb BbfeNkfuXhaj VGgdllwEHKD PjmhUBxSNVH qOnpwdxMxlH CAHmGOOrtKWj CPojyiRzQHrv KLdBPmRzXyD pTyizfrIOZH xPtzKNtSKGj BGUWFlYcAZgL tQvBeadNJOz CFfnfRMfwXfA CFEzYVkWRXKE FTkkakMHzwM BkYsIAkHMWRI qKTweWpgmZI BTyxfrMiZUjg BkpEysdxBXgs BjHmSuyCPsgd keYderwtuLh jjlhJKDNkst lzfatbkfOzB BaYFEQTNPHkd BtragjjgDxbR ZROjIFQJITB OmgNqtrgRFp WWGmRXzSgqW RkKhtJkJFou ByyscqvVynse BJoYHDiIfCXS BziuAmVSOObC zTNIIWOQTgO oaPHHSTFWTC BySbfPkdkrby CTfbDXLDgRQO PavcqJQMtmW YCSexAQJPEe VkmShKhVfni BmIwWRyPxSEu BzPSkXCdfWRK CROQenVsxYsu BidVXOvjQOFa CNEmoCqYGIBr CGggwxsoljCH CXYKyLhGIcXz DlEQxAzyUrD bynKEQVenjT hQNZqxXNsIf BBOJBnKSElUf CBCLnwsmbQGn wyeRjvFbIhr bzWKaKnMrdL yQAFGLqwCkP CWglCxiEvxfD ZvYIdLdFABL FFWXLFFunFr NMWwuMXXjKn pbSqvAOdMgf CKelEFqDEmfT KdRelwgzYv BifmdrQeKRIv GeHqjkhdKWS BnKnawJOouBK
end PySem.W.Fast
section
open PySem PySem.W PyProof.Rows
local macro_rules | `(tactic| o_head (kHook $k $a $e)) => `(tactic| o_head (HK.hook $k $a))
set_option maxHeartbeats 0 in
open_top hdTop for PySem.Challenge.rw_ribbonloft_k34_whole_pairs_that_make_the
end
section
local macro_rules
|`(def $d $s:optDeclSig $v:declVal)=>`(theorem $d $(Lean.TSyntax.mk (Lean.mkNode ``Lean.Parser.Command.declSig #[s.raw[0],s.raw[1][0]])):declSig $v:declVal)
|`(abbrev $d $s:optDeclSig $v:declVal)=>`(noncomputable def $d $s:optDeclSig $v:declVal)
local macro_rules|`($i:num#$n)=>if n.raw.isNatLit?==some 0 then `(.var $i) else `(.cst (.int $i))
local macro_rules|`(%[$x,*|$k])=>do pure (<-x.getElems.foldrM (fun x k=>`(.cons $x $k)) k).raw
set_option hygiene false
local macro_rules
|`(tactic|cbv)=>`(tactic|obtain⟨z1,z2⟩:=ag z)
|`(tactic|fin2)=>`(tactic|obtain⟨Zy,d,rv,e,k⟩:=h)
|`(tactic|k_go)=>`(tactic|obtain⟨z,z3⟩:=ag z)
|`(tactic|k_in)=>`(tactic|obtain⟨x,ea,e⟩:=bind_some e)
|`(tactic|k_ne)=>`(tactic|intro pins s Y H Q I h)
|`(tactic|k_all)=>`(tactic|obtain⟨Zy,o,ZD,rv,e,k⟩:=h)
|`(⋯)=>`(by lia)
|`(∅)=>`(by decide)
set_option hygiene true
local macro_rules|`(#[$x,*])=>`(⟨$x,*⟩)
abbrev QT:=@PySem.wpAny_bind
abbrev QU:=@PySem.Heap.get?_push_of_some
abbrev QV:=@Nat.le_refl
abbrev QW:=@PySem.wpAny_pure
abbrev QX:=@PySem.Heap.get?_push_size
abbrev QY:=@PySem.Heap.lt_size
abbrev QZ:=@List.getElem?_set_ne
abbrev Q0:=@Nat.lt_of_lt_of_le
abbrev Q1:=@decide_eq_false
abbrev Q2:=@List.getElem?_set_self
abbrev Q3:=@Bool.false_ne_true
abbrev Q4:=@List.mem_cons_of_mem
abbrev Q5:=@Nat.ne_of_lt
abbrev Q6:=@List.append_assoc
abbrev Q7:=@List.mem_append_right
abbrev Q8:=@List.isEmpty_iff
abbrev Q9:=@List.dropLast_concat_getLast
abbrev Za:=@Nat.le_trans
abbrev Zb:=@List.mem_of_getElem?
abbrev Zc:=@List.mem_cons_self
abbrev Zd:=@Bool.eq_iff_iff
abbrev Ze:=@List.append_nil
abbrev Zf:=@List.all_eq_true
abbrev Zg:=@Int.eq_ofNat_of_zero_le
abbrev Zh:=@List.getElem?_append_right
abbrev Zi:=@Nat.mod_eq_of_lt
abbrev Zj:=@PySem.Heap.get?_update_self
abbrev Zk:=@PySem.Heap.size_push
abbrev Zl:=@List.replicate_succ
abbrev Zm:=@List.map_append
abbrev Zn:=@List.getElem?_append_left
abbrev Zo:=@List.all_cons
abbrev Zp:=@List.pairwise_append
abbrev Zq:=@List.reverse_cons
abbrev Zr:=@List.reverse_append
abbrev Zs:=@List.any_cons
abbrev Zt:=@List.length_take
abbrev Zu:=@List.length_drop
abbrev Zv:=@List.flatten_cons
abbrev Zw:=@Nat.lt_irrefl
namespace RL
open PySem
abbrev mkR(c:Str)(k:Nat):Str:=#[c.cps.push (1114112+k)]
abbrev w6(x:Str):Option Nat:=match x.cps.back? with
 | some n=>if 1114112<=n then some (n-1114112)else none
 | none=>none
abbrev baseOf(x:Str):Str:=if(w6 x).isSome then⟨x.cps.pop⟩else x
open PySem (Str)
@[reducible]noncomputable def Ky:=Sum Int Str
set_option genInjectivity true in
inductive D where
 | non
 | bl (b:Bool)
 | int (i:Int)
 | str (x:Str)
 | tup (xs:List D)
 | lst (xs:List D)
 | dK (ks:List Ky) (vs:List D)
 | dT (ks:List (List Ky)) (vs:List D)
 | scr (xs:List D)
 | exc (c:Str)
 | fT (ks:List (List Ky)) (vs:List D)
 | fL (xs:List D)
 | obj
 deriving Inhabited
mutual
noncomputable def D.imm:D->Bool
 | .tup xs=>aw xs
 | .lst _=>false
 | .dK _ _=>false
 | .dT _ _=>false
 | .scr xs=>aw xs
 | .fT _ vs=>aw vs
 | .fL xs=>aw xs
 | _=>true
noncomputable def aw:List D->Bool
 | []=>true
 | d::r=>d.imm&&aw r
end
inductive Bop where | add | sub | mul | fdiv | mod | pow
 deriving DecidableEq
inductive Cop where | lt | le | gt | ge | eq | ne
 deriving DecidableEq
inductive Bi where | len | list | tuple | int | all | any | lenSet | sorted | sortedSet | abs | sum | sortedS
 deriving DecidableEq
inductive Ty where | int | bool | list | tuple | str
 deriving DecidableEq
mutual
inductive E where
 | var (i:Nat)
 | cst (d:D)
 | glb (x:Str) (i:Int)
 | bin (o:Bop) (a b:E)
 | cmp (c:Cop) (a b:E)
 | chain (c c':Cop) (a b e:E)
 | isN (neg:Bool) (a:E)
 | inn (neg:Bool) (a b:E)
 | inD (neg:Bool) (a b:E)
 | and (a b:E)
 | or (a b:E)
 | not (a:E)
 | ifx (t a b:E)
 | tup (es:Es)
 | lst (es:Es)
 | ix (a b:E)
 | ixD (a b:E)
 | slT (a b:E)
 | slF (a b:E)
 | rev (a:E)
 | call (f:Nat) (es:Es)
 | bi (b:Bi) (a:E)
 | max (a b:E)
 | min (a b:E)
 | isi (a:E) (t:Ty)
 | rng1 (a:E)
 | rng2 (a b:E)
 | rng3 (c:Int) (a b:E)
 | neg (a:E)
 | comp (e:E) (tg:List Nat) (it:It) (c:E)
 | compA (e:E) (tg:List Nat) (it:It)
 | idx2 (a b c:E)
 | frz (a:E)
 | dk0
 | dt0
inductive Es where
 | nil
 | cons (e:E) (es:Es)
inductive It where
 | seq (e:E)
 | rng1 (a:E)
 | rng2 (a b:E)
 | rng3 (c:Int) (a b:E)
 | enm (e:E)
 | zip (a b:E)
end
mutual
inductive S where
 | asg (i:Nat) (e:E)
 | own (i:Nat) (e:E)
 | unp (is:List Nat) (e:E)
 | par (i j:Nat) (a b:E)
 | parL (i j:Nat) (a b:E)
 | app (i:Nat) (e:E)
 | put (i:Nat) (k e:E)
 | put2 (i:Nat) (k l a b:E)
 | del (i:Nat) (k:E)
 | dels (i:Nat) (a b:E)
 | ife (t:E) (a b:Ss)
 | ifp (i:Nat) (e:E) (a b:Ss)
 | forr (tg:List Nat) (it:It) (b:Ss)
 | whil (t:E) (b:Ss)
 | mexc (f:Nat) (es:Es) (ps ms:List Nat)
 | maug (i f:Nat) (es:Es) (ps ms:List Nat)
 | ret (e:E)
 | exc (e:E)
 | rais (c:Str) (ps:Es)
inductive Ss where
 | nil
 | cons (s:S) (r:Ss)
 | act (i:Nat) (g:Str) (tbl:List (Str × Nat)) (a:E) (es:Es)
 | opn (j:Nat) (e:E) (r:Sq)
inductive Sq where
 | cls (r:Ss)
 | cons (s:S) (r:Sq)
 | opn (j:Nat) (e:E) (r:Sq)
 | frz (j:Nat) (r:Ss)
 | fz (j:Nat) (r:Sq)
end
@[reducible]noncomputable def St:=List (Option D)
@[reducible]noncomputable def Cl:=Nat->List D->Option D
abbrev most:Nat:=100000
abbrev bI{α:Type}(xs:List α)(i:Int):Option α :=
 if 0<=i then xs[i.toNat]? else if -(xs.length:Int)<=i then xs[(i+xs.length).toNat]? else none
abbrev jY(n:Nat)(i:Int):Option Nat :=
 if 0<=i then(if i<n then some i.toNat else none)else if -(n:Int)<=i then some (i+n).toNat else none
abbrev cutAt(n:Nat)(i:Int):Nat:=if 0<=i then min i.toNat n else(i+n).toNat
abbrev aF:Bop->D->D->Option D
 | .add,.int a,.int b=>some (.int (a+b))
 | .add,.str a,.str b=>if a.length+b.length<=most then some (.str (a++b))else none
 | .add,.lst a,.lst b=>if a.length+b.length<=most then some (.lst (a++b))else none
 | .add,.tup a,.tup b=>if a.length+b.length<=most/\0<a.length then some (.tup (a++b))else none
 | .sub,.int a,.int b=>some (.int (a-b))
 | .mul,.int a,.int b=>if(-(2 ^ 64)<a/\a<2 ^ 64)\/(-(2 ^ 64)<b/\b<2 ^ 64)then some (.int (a*b))else none
 | .mul,.lst a,.int b=>if 0<=b/\b<=most/\a.length*b.toNat<=most then some (.lst (List.replicate b.toNat a).flatten)else none
 | .fdiv,.int a,.int b=>if 0<b/\b<2 ^ 200 then some (.int (a / b))else none
 | .mod,.int a,.int b=>if 0<b then some (.int (a%b))else none
 | .pow,.int a,.int b=>if 0<=b/\b<=1000/\a.natAbs<2 ^ 64 then some (.int (a ^ b.toNat))else none
 | _,_,_=>none
abbrev eqs(f:D->D->Option Bool):List D->List D->Option Bool
 | a::r,b::s=>(f a b).bind fun e=>(eqs f r s).map fun k=>e&&k
 | _,_=>some true
abbrev eqD:Nat->D->D->Option Bool
 | _,.int a,.int b=>some (a == b)
 | _,.str a,.str b=>some (a == b)
 | _,.bl a,.bl b=>some (a == b)
 | n+1,.tup a,.tup b=>(eqs (eqD n) a b).map fun k=>k&&a.length == b.length
 | n+1,.lst a,.lst b=>(eqs (eqD n) a b).map fun k=>k&&a.length == b.length
 | n+1,.fL a,.fL b=>(eqs (eqD n) a b).map fun k=>k&&a.length == b.length
 | n+1,.lst a,.fL b=>(eqs (eqD n) a b).map fun k=>k&&a.length == b.length
 | n+1,.fL a,.lst b=>(eqs (eqD n) a b).map fun k=>k&&a.length == b.length
 | _,_,_=>none
abbrev ba:Cop->D->D->Option Bool
 | .lt,.int a,.int b=>some (decide (a<b))
 | .le,.int a,.int b=>some (decide (a<=b))
 | .gt,.int a,.int b=>some (decide (b<a))
 | .ge,.int a,.int b=>some (decide (b<=a))
 | .eq,a,b=>eqD 8 a b
 | .ne,a,b=>(eqD 8 a b).map not
 | _,_,_=>none
abbrev truth:D->Option Bool
 | .bl b=>some b
 | .lst xs=>some (!xs.isEmpty)
 | .tup xs=>some (!xs.isEmpty)
 | .int i=>some (i != 0)
 | _=>none
abbrev cK:List D->Option (List Int)
 | []=>some []
 | .int i::r=>(cK r).map (i :: ·)
 | _=>none
abbrev d7:List D->Option (List Bool)
 | []=>some []
 | .bl i::r=>(d7 r).map (i :: ·)
 | _=>none
abbrev strs?:List D->Option (List Str)
 | []=>some []
 | .str i::r=>(strs? r).map (i :: ·)
 | _=>none
abbrev uY(a:Int):List Int->List Int
 | []=>[a]
 | b::r=>if a<=b then a::b::r else b::uY a r
abbrev sortI:List Int->List Int
 | []=>[]
 | a::r=>uY a (sortI r)
abbrev fR(xs:List Int):List Int:=xs.foldl (fun m k=>if m.any (· == k)then m else m++[k]) []
abbrev items:D->Option (List D)
 | .lst xs=>some xs
 | .tup xs=>some xs
 | .fL xs=>some xs
 | _=>none
abbrev lu:D->Option (List D)
 | .fL xs=>some xs
 | .lst xs=>some xs
 | .tup xs=>some xs
 | _=>none
@[simp] theorem itemsS_lst:lu (.lst xs)=some xs:=rfl
@[simp] theorem itemsS_tup:lu (.tup xs)=some xs:=rfl
abbrev jN:D->Option (List D)
 | .lst xs=>some xs
 | .tup xs=>some xs
 | .str x=>some (x.cps.toList.map fun c=>.str ⟨(List.toArray [c])⟩)
 | _=>none
abbrev ET:List Str->Bool
 | a::b::r=>!decide (b.cps.toList<a.cps.toList)&&ET (b::r)
 | _=>true
abbrev biV:Bi->D->Option D
 | .len,.str x=>if x.length<=most then some (.int x.length)else none
 | .len,.dK ks _=>some (.int ks.length)
 | .len,.dT ks _=>some (.int ks.length)
 | .len,.fT ks _=>some (.int ks.length)
 | .len,d=>(items d).map fun xs=>.int xs.length
 | .list,d=>(items d).map .lst
 | .tuple,d=>(items d).map .tup
 | .int,.bl b=>some (.int (if b then 1 else 0))
 | .int,.int i=>some (.int i)
 | .int,_=>none
 | .all,.lst xs=>(d7 xs).map fun bs=>.bl (bs.all id)
 | .any,.lst xs=>(d7 xs).map fun bs=>.bl (bs.any id)
 | .all,_=>none
 | .any,_=>none
 | .lenSet,.lst xs=>if xs.length<=1000 then(cK xs).map fun is=>.int (fR is).length else none
 | .lenSet,_=>none
 | .sorted,.lst xs=>if xs.length<64 then(cK xs).map fun is=>.lst ((sortI is).map .int)else none
 | .sorted,_=>none
 | .sortedSet,.lst xs=>if xs.length<=5 then(cK xs).map fun is=>.lst ((sortI (fR is)).map .int)else(cK xs).bind fun is=>if(fR is).length<=4 then some (.lst ((sortI (fR is)).map .int))else none
 | .sortedSet,_=>none
 | .abs,.int i=>some (.int (if i<0 then -i else i))
 | .abs,_=>none
 | .sortedS,.lst xs=>(strs? xs).bind fun ss=>if ET ss then some (.lst xs)else none
 | .sortedS,_=>none
 | .sum,.lst xs=>(cK xs).map fun is=>.int is.sum
 | .sum,_=>none
abbrev gf:Ty->D->Option Bool
 | .int,.int _=>some true
 | .int,.bl _=>some true
 | .bool,.bl _=>some true
 | .list,.lst _=>some true
 | .list,.fL _=>some true
 | .tuple,.tup _=>some true
 | .str,.str _=>some true
 | _,.non=>some false
 | _,.bl _=>some false
 | _,.int _=>some false
 | _,.str _=>some false
 | _,.tup _=>some false
 | _,.lst _=>some false
 | _,.fL _=>some false
 | _,_=>none
abbrev keyOf:D->Option Ky
 | .int i=>some (.inl i)
 | .str x=>some (.inr x)
 | _=>none
abbrev keysOf:List D->Option (List Ky)
 | []=>some []
 | d::r=>(keyOf d).bind fun k=>(keysOf r).map (k :: ·)
abbrev aG{κ:Type} [DecidableEq κ]:List κ->List D->κ->Option D
 | k::ks,v::vs,x=>if k=x then some v else aG ks vs x
 | _,_,_=>none
abbrev putD{κ:Type} [DecidableEq κ](ks:List κ)(vs:List D)(x:κ)(d:D):List κ × List D :=
 if x∈ks then(ks,List.zipWith (fun k v=>if k=x then d else v) ks vs)else(ks++[x],vs++[d])
abbrev ixV:D->D->Option D
 | .lst xs,.int i=>bI xs i
 | .tup xs,.int i=>bI xs i
 | .str x,.int i=>if x.length<=most then(bI x.cps.toList i).map fun c=>.str ⟨(List.toArray [c])⟩else none
 | .fL xs,.int i=>if aw xs then bI xs i else none
 | _,_=>none
abbrev ka:D->D->Option D
 | .dK ks vs,k=>(keyOf k).bind (aG ks vs)
 | .dT ks vs,.tup k=>(keysOf k).bind (aG ks vs)
 | .fT ks vs,.tup k=>(keysOf k).bind (aG ks vs)
 | _,_=>none
abbrev Kv:D->D->D->Option D
 | .dK ks vs,k,z=>(keyOf k).map fun q=>(aG ks vs q).getD z
 | .dT ks vs,.tup k,z=>(keysOf k).map fun q=>(aG ks vs q).getD z
 | _,_,_=>none
abbrev kc:D->D->Option Bool
 | .dK ks vs,k=>(keyOf k).map fun k=>(aG ks vs k).isSome
 | .dT ks vs,.tup k=>(keysOf k).map fun k=>(aG ks vs k).isSome
 | .fT ks _,.tup k=>(keysOf k).map fun k=>ks.any fun x=>decide (x=k)
 | _,_=>none
abbrev flat:D->Bool
 | .int _=>true
 | .str _=>true
 | _=>false
abbrev eqF:D->D->Bool
 | .int a,.int b=>a == b
 | .str a,.str b=>a == b
 | _,_=>false
abbrev inV(a b:D):Option Bool :=
 (items b).bind fun xs=>if flat a&&xs.all flat then some (xs.any fun x=>eqF x a)else none
abbrev ij:D->D->Option D
 | .fL xs,.int k=>some (.lst (xs.take (cutAt xs.length k)))
 | .scr xs,.int k=>some (.lst (xs.take (cutAt xs.length k)))
 | .lst xs,.int k=>some (.lst (xs.take (cutAt xs.length k)))
 | .tup xs,.int k=>if cutAt xs.length k<xs.length then some (.tup (xs.take (cutAt xs.length k)))else none
 | _,_=>none
abbrev i6:D->D->Option D
 | .fL xs,.int k=>some (.lst (xs.drop (cutAt xs.length k)))
 | .lst xs,.int k=>some (.lst (xs.drop (cutAt xs.length k)))
 | .tup xs,.int k=>if 0<cutAt xs.length k then some (.tup (xs.drop (cutAt xs.length k)))else none
 | _,_=>none
abbrev cw(lo:Int):Nat->List D
 | 0=>[]
 | n+1=>.int lo::cw (lo+1) n
abbrev bN(c lo:Int):Nat->List D
 | 0=>[]
 | n+1=>.int lo::bN c (lo+c) n
abbrev aM(c a b:Int):Nat:=(if c > 0 then(if a<b then(b-a-1) / c+1 else 0)else(if a > b then(a-b-1) / (-c)+1 else 0)).toNat
abbrev bR:D->D->Option (List D)
 | .int a,.int b=>if(b-a).toNat<=most/\-(2 ^ 60)<=a/\a<2 ^ 60/\-(2 ^ 60)<=b/\b<2 ^ 60 then some (cw a (b-a).toNat)else none
 | _,_=>none
abbrev cV(c:Int):D->D->Option (List D)
 | .int a,.int b=>if c≠0/\-(2 ^ 60)<c/\c<2 ^ 60/\aM c a b<=most/\-(2 ^ 60)<=a/\a<2 ^ 60/\-(2 ^ 60)<=b/\b<2 ^ 60 then some (bN c a (aM c a b))else none
 | _,_=>none
abbrev cM(i:Int):List D->List D
 | []=>[]
 | d::r=>.tup [.int i,d]::cM (i+1) r
abbrev eO:List D->List D->List D
 | a::r,b::s=>.tup [a,b]::eO r s
 | _,_=>[]
abbrev bA:List Nat->List D->St->Option St
 | [],[],Y=>some Y
 | i::is,d::ds,Y=>bA is ds (Y.set i (some d))
 | _,_,_=>none
abbrev bf(tg:List Nat)(d:D)(Y:St):Option St :=
 match tg with
 | [i]=>some (Y.set i (some d))
 | tg=>match d with
  | .tup ds=>bA tg ds Y
  | .lst ds=>bA tg ds Y
  | _=>none
abbrev kC(y:Option D)(ys:List D):Option (List D) :=
 match y with
 | some e=>if e.imm then some (e::ys)else none
 | none=>some ys
abbrev cq(f:St->Option (Option D))(tg:List Nat)(Y:St):List D->Option (List D)
 | []=>some []
 | d::r=>(bf tg d Y).bind fun ZA=>(f ZA).bind fun y=>(cq f tg Y r).bind (kC y)
abbrev aB:D->Bool
 | .lst xs=>aw xs
 | .dK _ vs=>aw vs
 | .dT _ vs=>aw vs
 | _=>false
abbrev JF(f:St->Option D)(fr:Bool)(tg:List Nat)(Y:St):List D->Option (List D)
 | []=>some []
 | d::r=>(bf tg d Y).bind fun ZA=>(f ZA).bind fun y=>if aB y&&fr then(JF f fr tg Y r).map (y :: ·)else none
abbrev fits(xs:List D):Option (List D):=if xs.length<=most then some xs else none
abbrev aC:E->Bool
 | .lst _=>true
 | .tup _=>true
 | .comp _ _ _ _=>true
 | .compA _ _ _=>true
 | .bin _ _ _=>true
 | .slT _ _=>true
 | .slF _ _=>true
 | .rev _=>true
 | .call _ _=>true
 | .bi _ _=>true
 | .rng1 _=>true
 | .rng2 _ _=>true
 | .rng3 _ _ _=>true
 | .dk0=>true
 | .dt0=>true
 | _=>false
abbrev sH(n c:Str):Bool:=n == c || c == "RibbonError" || c == "ValueError"
abbrev Kk(n c:Str):Bool:=sH (baseOf n) c
abbrev G7(neg:Bool):D->Option D
 | .non=>some (.bl (!neg))
 | .dK _ _=>none
 | .dT _ _=>none
 | .fT _ _=>none
 | _=>some (.bl neg)
abbrev vT(y:Option D):D->Option D
 | .bl true=>y
 | .bl false=>some (.bl false)
 | _=>none
abbrev orV(y:Option D):D->Option D
 | .bl false=>y
 | .bl true=>some (.bl true)
 | _=>none
abbrev HQ:D->Option D
 | .lst xs=>some (.lst xs.reverse)
 | .tup xs=>some (.tup xs.reverse)
 | _=>none
abbrev A9:D->Option D
 | .int i=>some (.int (-i))
 | _=>none
abbrev Ay:D->D->Option D
 | .int i,.int j=>some (.int (if j > i then j else i))
 | _,_=>none
abbrev AU:D->D->Option D
 | .int i,.int j=>some (.int (if j<i then j else i))
 | _,_=>none
abbrev me:D->D->D->Option D
 | .lst xs,.int i,.int j=>(cK xs).bind fun is=>if 0<=j/\i∈is.drop j.toNat then some (.int (j.toNat+(is.drop j.toNat).idxOf i:Nat))else none
 | _,_,_=>none
abbrev Ki:D->D->Option D
 | .str x,.str y=>match y.cps.toList with
  | [c]=>some (.int (x.cps.toList.count c:Nat))
  | _=>none
 | _,_=>none
abbrev Ku:D->D->Option D
 | .str x,.int k=>if 0<=k/\x.length<=most then some (.str ⟨(x.cps.toList.take k.toNat).toArray⟩)else none
 | _,_=>none
abbrev Kw:D->D->Option D
 | .str x,.int k=>if 0<=k/\x.length<=most then some (.str ⟨(x.cps.toList.drop k.toNat).toArray⟩)else none
 | _,_=>none
abbrev Kz:D->D->D->D->Option D
 | .str x,y,.str z,w=>if x≠z/\y.imm=true/\w.imm=true then some (.dK [.inr x,.inr z] [y,w])else none
 | _,_,_,_=>none
abbrev Ko:D->D->Option D
 | .str x,.int n=>if 1<n/\n<=1000/\0<x.length/\x.length<=100 then some (.str ⟨(List.replicate n.toNat x.cps.toList).flatten.toArray⟩)else none
 | _,_=>none
abbrev Kr:D->Option D
 | .exc n=>(w6 n).bind fun k=>some (.int (Int.ofNat k))
 | _=>none
abbrev kyD:Ky->D
 | .inl i=>.int i
 | .inr x=>.str x
abbrev K1:D->Option (List D)
 | .fT ks _=>some (ks.map fun k=>.tup (k.map kyD))
 | _=>none
abbrev JV:D->Option D
 | .lst xs=>if aw xs then some (.fL xs)else none
 | _=>none
abbrev Kx:D->D->Option D
 | .fL a,.lst b=>if a.length+b.length<=most then some (.lst (a++b))else none
 | .lst a,.fL b=>if a.length+b.length<=most then some (.lst (a++b))else none
 | _,_=>none
abbrev K0:D->D->Option D
 | .tup k,v=>(keysOf k).bind fun q=>if v.imm then some (.dT [q] [v])else none
 | _,_=>none
abbrev B9:List D->Option (List (List Int))
 | []=>some []
 | .fL ds::r=>(cK ds).bind fun is=>(B9 r).map (is :: ·)
 | _=>none
abbrev ltL:List Int->List Int->Bool
 | [],[]=>false
 | [],_::_=>true
 | _::_,[]=>false
 | a::r,b::s=>if a=b then ltL r s else decide (a<b)
abbrev Fh:List Int->List (List Int)->List Int
 | b,[]=>b
 | b,x::r=>Fh (if ltL x b then x else b) r
abbrev Kn:D->Option D
 | .lst xs=>(B9 xs).bind fun rs=>match rs with
  | []=>none
  | x::r=>some (.fL ((Fh x r).map .int))
 | _=>none
abbrev Kp(ks:List Str):D->Option D
 | .str w=>some (.bl (ks.any fun k=>decide (k=w)))
 | _=>none
abbrev Be(tbl:List (Str × Nat)):D->Option Nat
 | .str w=>(tbl.find? fun q=>decide (q.1=w)).map (·.2)
 | _=>none
abbrev Kl:D->Option (D × D)
 | .tup (d::r)=>if d.imm&&aw r then some (d,.fL r)else none
 | _=>none
abbrev Fi:D->Option D
 | .dT ks vs=>some (.fT ks vs)
 | _=>none
@[simp] theorem sv_andt {y:Option D}:vT y (.bl true)=y:=rfl
@[simp] theorem sv_andf {y:Option D}:vT y (.bl false)=some (.bl false):=rfl
@[simp] theorem sv_ort {y:Option D}:orV y (.bl true)=some (.bl true):=rfl
@[simp] theorem sv_orf {y:Option D}:orV y (.bl false)=y:=rfl
@[simp] theorem sv_max {i j:Int}:Ay (.int i) (.int j)=some (.int (if j > i then j else i)):=rfl
@[simp] theorem sv_min {i j:Int}:AU (.int i) (.int j)=some (.int (if j<i then j else i)):=rfl
@[simp] theorem sv_neg {i:Int}:A9 (.int i)=some (.int (-i)):=rfl
mutual
noncomputable def ev(cl:Cl)(Y:St):E->Option D
 | .var i=>(Y[i]?).bind id
 | .cst d=>some d
 | .glb _ i=>some (.int i)
 | .bin o a b=>(ev cl Y a).bind fun x=>(ev cl Y b).bind fun y=>aF o x y
 | .cmp c a b=>(ev cl Y a).bind fun x=>(ev cl Y b).bind fun y=>(ba c x y).map .bl
 | .chain c c' a b e=>(ev cl Y a).bind fun x=>(ev cl Y b).bind fun y=>(ba c x y).bind fun k=>if k then(ev cl Y e).bind fun z=>(ba c' y z).map .bl else some (.bl false)
 | .isN neg a=>(ev cl Y a).bind (G7 neg)
 | .inn neg a b=>(ev cl Y a).bind fun x=>(ev cl Y b).bind fun y=>(inV x y).map fun k=>.bl (if neg then !k else k)
 | .inD neg a b=>(ev cl Y a).bind fun x=>(ev cl Y b).bind fun y=>(kc y x).map fun k=>.bl (if neg then !k else k)
 | .and a b=>(ev cl Y a).bind (vT (ev cl Y b))
 | .or a b=>(ev cl Y a).bind (orV (ev cl Y b))
 | .not a=>((ev cl Y a).bind truth).map fun k=>.bl (!k)
 | .ifx t a b=>((ev cl Y t).bind truth).bind fun k=>if k then ev cl Y a else ev cl Y b
 | .tup es=>(evs cl Y es).map .tup
 | .lst es=>(evs cl Y es).map .lst
 | .ix a b=>(ev cl Y a).bind fun x=>(ev cl Y b).bind fun y=>ixV x y
 | .ixD a b=>(ev cl Y a).bind fun x=>(ev cl Y b).bind fun y=>ka x y
 | .slT a b=>(ev cl Y a).bind fun x=>(ev cl Y b).bind fun y=>ij x y
 | .slF a b=>(ev cl Y a).bind fun x=>(ev cl Y b).bind fun y=>i6 x y
 | .rev a=>(ev cl Y a).bind HQ
 | .call f es=>(evs cl Y es).bind fun ds=>cl f ds
 | .bi b a=>(ev cl Y a).bind fun x=>biV b x
 | .max a b=>(ev cl Y a).bind fun x=>(ev cl Y b).bind fun y=>Ay x y
 | .min a b=>(ev cl Y a).bind fun x=>(ev cl Y b).bind fun y=>AU x y
 | .isi a t=>(ev cl Y a).bind fun x=>(gf t x).map .bl
 | .rng1 a=>(ev cl Y a).bind fun x=>(bR (.int 0) x).map .lst
 | .rng2 a b=>(ev cl Y a).bind fun x=>(ev cl Y b).bind fun y=>(bR x y).map .lst
 | .rng3 c a b=>(ev cl Y a).bind fun x=>(ev cl Y b).bind fun y=>(cV c x y).map .lst
 | .neg a=>(ev cl Y a).bind A9
 | .comp e tg it c=>(b9 cl Y it).bind fun ds=>(fits ds).bind fun ds=>(cq (fun ZA=>((ev cl ZA c).bind truth).bind fun k=>if k then(ev cl ZA e).map some else some none) tg Y ds).map .lst
 | .compA e tg it=>(b9 cl Y it).bind fun ds=>(fits ds).bind fun ds=>(cq (fun ZA=>(ev cl ZA e).map some) tg Y ds).map .lst
 | .idx2 a b c=>(ev cl Y a).bind fun x=>(ev cl Y b).bind fun y=>(ev cl Y c).bind fun z=>me x y z
 | .frz a=>(ev cl Y a).bind fun x=>if aC a then JV x else none
 | .dk0=>some (.dK [] [])
 | .dt0=>some (.dT [] [])
noncomputable def evs(cl:Cl)(Y:St):Es->Option (List D)
 | .nil=>some []
 | .cons e es=>(ev cl Y e).bind fun d=>(evs cl Y es).map (d :: ·)
noncomputable def b9(cl:Cl)(Y:St):It->Option (List D)
 | .seq e=>(ev cl Y e).bind lu
 | .rng1 a=>(ev cl Y a).bind fun x=>bR (.int 0) x
 | .rng2 a b=>(ev cl Y a).bind fun x=>(ev cl Y b).bind fun y=>bR x y
 | .rng3 c a b=>(ev cl Y a).bind fun x=>(ev cl Y b).bind fun y=>cV c x y
 | .enm e=>(ev cl Y e).bind fun x=>(jN x).map (cM 0)
 | .zip a b=>(ev cl Y a).bind fun x=>(ev cl Y b).bind fun y=>(items x).bind fun xs=>(items y).bind fun ys=>if xs.length=ys.length then some (eO xs ys)else none
end
abbrev clX(cl:Cl)(f:Nat)(ds:List D):Option Str:=(cl (f+1000) ds).bind fun d=>match d with
 | .str x=>some x
 | _=>none
mutual
noncomputable def evX(cl:Cl)(Y:St):E->Option Str
 | .call f es=>match evs cl Y es with
  | some ds=>clX cl f ds
  | none=>Gg cl Y es
 | .ix a _=>evX cl Y a
 | _=>none
noncomputable def Gg(cl:Cl)(Y:St):Es->Option Str
 | .nil=>none
 | .cons e es=>match ev cl Y e with
  | some _=>Gg cl Y es
  | none=>evX cl Y e
end
abbrev written:D->Bool
 | .int i=>decide (i.natAbs<2 ^ 1900)
 | _=>false
abbrev Ks(c:Str):D->Option Str
 | .int i=>if 0<=i/\written (.int i)then some (mkR c i.toNat)else none
 | _=>none
inductive Out where
 | nx
 | rt (d:D)
abbrev avE(M:List Nat):E->Bool
 | .var j=>!M.contains j
 | .ix a _=>avE M a
 | .ixD a _=>avE M a
 | .call _ _=>true
 | .ifx _ a b=>avE M a&&avE M b
 | _=>false
abbrev vZ(M:List Nat):It->Bool
 | .seq e=>avE M e || aC e
 | .enm e=>avE M e || aC e
 | .zip a b=>(avE M a || aC a)&&(avE M b || aC b)
 | _=>true
abbrev bj(M:List Nat)(e:E)(d:D):Bool :=
 d.imm || (aB d&&(aC e || match e with | .var i=>M.contains i | _=>false))
abbrev aK(M:List Nat)(e:E)(d:D):Bool:=d.imm || (aB d&&aC e) || avE M e
abbrev isVar:E->Bool
 | .var _=>true
 | _=>false
abbrev dX(M ps:List Nat):Nat->Es->List D->Bool
 | _,.nil,[]=>true
 | q,.cons e es,d::ds=>(if ps.contains q then isVar e else aK M e d)&&dX M ps (q+1) es ds
 | _,_,_=>false
abbrev cI:D->D->D->Option D
 | .lst xs,.int k,d=>(jY xs.length k).map fun j=>.lst (xs.set j d)
 | .dK ks vs,k,d=>(keyOf k).bind fun k=>if ks.length<most then some (.dK (putD ks vs k d).1 (putD ks vs k d).2)else none
 | .dT ks vs,.tup k,d=>(keysOf k).bind fun k=>if ks.length<most then some (.dT (putD ks vs k d).1 (putD ks vs k d).2)else none
 | _,_,_=>none
abbrev aP(f:St->Option (Out × St))(tg:List Nat):List D->St->Option (Out × St)
 | [],Y=>some (.nx,Y)
 | d::r,Y=>if d.imm then(bf tg d Y).bind fun ZA=>(f ZA).bind fun p=>match p.1 with
   | .nx=>aP f tg r p.2
   | .rt d=>some (.rt d,p.2)
  else none
abbrev whF(t:St->Option Bool)(f:St->Option (Out × St)):Nat->St->Option (Out × St)
 | 0,_=>none
 | n+1,Y=>(t Y).bind fun k=>if k then(f Y).bind fun p=>match p.1 with
   | .nx=>whF t f n p.2
   | .rt d=>some (.rt d,p.2)
  else some (.nx,Y)
abbrev B6(f:St->Option (Out × St))(fx:St->Option (Str × St))(tg:List Nat):List D->St->Option (Str × St)
 | [],_=>none
 | d::r,Y=>if d.imm then(bf tg d Y).bind fun ZA=>match f ZA with
   | some p=>match p.1 with
    | .nx=>B6 f fx tg r p.2
    | .rt _=>none
   | none=>fx ZA
  else none
abbrev Kq:D->Option (D × D)
 | .lst xs=>(xs[xs.length-1]?).map fun d=>(d,.lst xs.dropLast)
 | _=>none
abbrev pB:D->D->Option D
 | .lst xs,.int k=>if 0<=k/\k<xs.length then some (.lst (xs.eraseIdx k.toNat))else none
 | _,_=>none
abbrev lZ:D->D->D->Option D
 | .lst xs,.int a,.int b=>if 0<=a/\a<=b/\b<=xs.length then some (.lst (xs.take a.toNat++xs.drop b.toNat))else none
 | _,_,_=>none
abbrev Kt:D->Option D
 | .lst xs=>some (.lst xs.reverse)
 | _=>none
abbrev Km(Y:St)(r w:Nat)(l:D):D->Option (Out × St)
 | .tup [_,R]=>some (.nx,(Y.set w (some l)).set r (some R))
 | _=>none
abbrev Kj:D->D->Option D
 | .str a,.str b=>if a.length+b.length<=most then some (.str (a++b))else none
 | _,_=>none
mutual
noncomputable def evS(cl:Cl)(M:List Nat):S->St->Option (Out × St)
 | .asg i e,Y=>(ev cl Y e).bind fun d=>if aK M e d then some (.nx,Y.set i (some d))else none
 | .own i e,Y=>(ev cl Y e).bind fun d=>if aB d&&aC e then some (.nx,Y.set i (some d))else none
 | .unp is e,Y=>(ev cl Y e).bind fun d=>(items d).bind fun ds=>if aw ds then(bA is ds Y).map fun ZA=>(.nx,ZA)else none
 | .par i j a b,Y=>(ev cl Y a).bind fun x=>(ev cl Y b).bind fun y=>if x.imm&&y.imm then some (.nx,(Y.set i (some x)).set j (some y))else none
 | .parL i j a b,Y=>(ev cl Y a).bind fun x=>(ev cl Y b).bind fun y=>if x.imm&&(aB y&&aC b)then some (.nx,(Y.set i (some x)).set j (some y))else none
 | .app i e,Y=>(ev cl Y e).bind fun d=>((Y[i]?).bind id).bind fun l=>match l with
  | .lst xs=>if d.imm&&decide (xs.length<most)then some (.nx,Y.set i (some (.lst (xs++[d]))))else none
  | _=>none
 | .put i k e,Y=>(ev cl Y e).bind fun d=>(ev cl Y k).bind fun kk=>((Y[i]?).bind id).bind fun l=>if d.imm then(cI l kk d).map fun l'=>(.nx,Y.set i (some l'))else none
 | .put2 i k l a b,Y=>(ev cl Y a).bind fun x=>(ev cl Y b).bind fun y=>if x.imm&&y.imm then
   (ev cl Y k).bind fun kk=>((Y[i]?).bind id).bind fun c=>match c with
   | .lst _=>(cI c kk x).bind fun c1=>(ev cl (Y.set i (some c1)) l).bind fun ll=>(cI c1 ll y).map fun c2=>(.nx,(Y.set i (some c1)).set i (some c2))
   | _=>none
  else none
 | .del i k,Y=>((Y[i]?).bind id).bind fun l=>(ev cl Y k).bind fun x=>(pB l x).map fun q=>(.nx,Y.set i (some q))
 | .dels i a b,Y=>((Y[i]?).bind id).bind fun l=>(ev cl Y a).bind fun x=>(ev cl Y b).bind fun y=>(lZ l x y).map fun q=>(.nx,Y.set i (some q))
 | .ife t a b,Y=>((ev cl Y t).bind truth).bind fun k=>if k then ao cl M a Y else ao cl M b Y
 | .ifp i e a b,Y=>((Y[i]?).bind id).bind fun l=>match l with
  | .lst xs=>(xs[xs.length-1]?).bind fun d=>(ev cl (Y.set i (some (.lst xs.dropLast))) e).bind fun y=>match d,y with
   | .int p,.int q=>if decide (p=q)then ao cl M b (Y.set i (some (.lst xs.dropLast)))else ao cl M a (Y.set i (some (.lst xs.dropLast)))
   | _,_=>none
  | _=>none
 | .forr tg it b,Y=>(b9 cl Y it).bind fun ds=>aP (ao cl M b) tg ds Y
 | .whil t b,Y=>whF (fun Y=>(ev cl Y t).bind truth) (ao cl M b) most Y
 | .mexc f es ps ms,Y=>(evs cl Y es).bind fun ds=>if dX M ps 0 es ds then(cl f ds).bind fun r=>match r with
  | .tup (_::outs)=>(bA ms outs Y).map fun ZA=>(.nx,ZA)
  | _=>none
  else none
 | .maug i f es ps ms,Y=>((Y[i]?).bind id).bind fun x=>(evs cl Y es).bind fun ds=>if dX M ps 0 es ds then(cl f ds).bind fun r=>match r with
  | .tup (y::outs)=>match x,y with
   | .int a,.int b=>(bA ms outs Y).map fun ZA=>(.nx,ZA.set i (some (.int (a+b))))
   | _,_=>none
  | _=>none
  else none
 | .ret e,Y=>(ev cl Y e).bind fun d=>if bj M e d then some (.rt d,Y)else none
 | .exc e,Y=>(ev cl Y e).map fun _=>(.nx,Y)
 | .rais _ _,_=>none
noncomputable def ao(cl:Cl)(M:List Nat):Ss->St->Option (Out × St)
 | .nil,Y=>some (.nx,Y)
 | .cons s r,Y=>(evS cl M s Y).bind fun p=>match p.1 with
  | .nx=>ao cl M r p.2
  | .rt d=>some (.rt d,p.2)
 | .opn j e r,Y=>(ev cl Y e).bind fun d=>if aB d&&aC e then wC cl M (j::M) r (Y.set j (some d))else none
 | .act i _ tbl a es,Y=>((ev cl Y a).bind (Be tbl)).bind fun f=>(evs cl (Y.set i none) es).bind fun ds=>(cl f ds).bind fun d=>if d.imm then some (.rt d,Y)else none
noncomputable def wC(cl:Cl)(M:List Nat):List Nat->Sq->St->Option (Out × St)
 | _,.cls r,Y=>ao cl M r Y
 | M1,.cons s r,Y=>(evS cl M1 s Y).bind fun p=>match p.1 with
  | .nx=>wC cl M M1 r p.2
  | .rt _=>none
 | M1,.opn j e r,Y=>(ev cl Y e).bind fun d=>if aB d&&aC e then wC cl M (j::M1) r (Y.set j (some d))else none
 | _,.frz j r,Y=>(((Y[j]?).bind id).bind Fi).bind fun d=>ao cl M r (Y.set j (some d))
 | M1,.fz j r,Y=>(((Y[j]?).bind id).bind Fi).bind fun d=>wC cl M M1.tail r (Y.set j (some d))
noncomputable def JR(cl:Cl)(M:List Nat):S->St->Option (Str × St)
 | .asg _ e,Y=>(evX cl Y e).map fun x=>(x,Y)
 | .own _ e,Y=>(evX cl Y e).map fun x=>(x,Y)
 | .unp _ e,Y=>(evX cl Y e).map fun x=>(x,Y)
 | .exc e,Y=>(evX cl Y e).map fun x=>(x,Y)
 | .ret e,Y=>(evX cl Y e).map fun x=>(x,Y)
 | .ife t a b,Y=>((ev cl Y t).bind truth).bind fun k=>if k then oQ cl M a Y else oQ cl M b Y
 | .forr tg it b,Y=>(b9 cl Y it).bind fun ds=>B6 (ao cl M b) (oQ cl M b) tg ds Y
 | .rais c ps,Y=>(evs cl Y ps).bind fun ds=>if ds.all written then some (c,Y)else none
 | _,_=>none
noncomputable def oQ(cl:Cl)(M:List Nat):Ss->St->Option (Str × St)
 | .nil,_=>none
 | .cons s r,Y=>match evS cl M s Y with
  | some p=>match p.1 with
   | .nx=>oQ cl M r p.2
   | .rt _=>none
  | none=>JR cl M s Y
 | .opn _ _ _,_=>none
 | .act _ _ _ _ _,_=>none
end
def aX:ev cl Y (.var i)=((Y[i]?).bind id):=rfl
def bU:ev cl Y (.cst d)=(some d):=rfl
def IG:ev cl Y (.glb y1 i)=(some (.int i)):=rfl
def bT:ev cl Y (.bin o a b)=((ev cl Y a).bind fun x=>(ev cl Y b).bind fun y=>aF o x y):=rfl
def dP:ev cl Y (.cmp c a b)=((ev cl Y a).bind fun x=>(ev cl Y b).bind fun y=>(ba c x y).map .bl):=rfl
def lO:ev cl Y (.chain c c' a b e)=((ev cl Y a).bind fun x=>(ev cl Y b).bind fun y=>(ba c x y).bind fun k=>if k then(ev cl Y e).bind fun z=>(ba c' y z).map .bl else some (.bl false)):=rfl
def IW:ev cl Y (.isN neg a)=((ev cl Y a).bind (G7 neg)):=rfl
def ID:ev cl Y (.inn neg a b)=((ev cl Y a).bind fun x=>(ev cl Y b).bind fun y=>(inV x y).map fun k=>.bl (if neg then !k else k)):=rfl
def qN:ev cl Y (.inD neg a b)=((ev cl Y a).bind fun x=>(ev cl Y b).bind fun y=>(kc y x).map fun k=>.bl (if neg then !k else k)):=rfl
def gZ:ev cl Y (.and a b)=((ev cl Y a).bind (vT (ev cl Y b))):=rfl
def zQ:ev cl Y (.or a b)=((ev cl Y a).bind (orV (ev cl Y b))):=rfl
def qV:ev cl Y (.not a)=(((ev cl Y a).bind truth).map fun k=>.bl (!k)):=rfl
def BN:ev cl Y (.ifx t a b)=(((ev cl Y t).bind truth).bind fun k=>if k then ev cl Y a else ev cl Y b):=rfl
def lV:ev cl Y (.tup es)=((evs cl Y es).map .tup):=rfl
def fD:ev cl Y (.lst es)=((evs cl Y es).map .lst):=rfl
def iw:ev cl Y (.ix a b)=((ev cl Y a).bind fun x=>(ev cl Y b).bind fun y=>ixV x y):=rfl
def wL:ev cl Y (.ixD a b)=((ev cl Y a).bind fun x=>(ev cl Y b).bind fun y=>ka x y):=rfl
def BE:ev cl Y (.slT a b)=((ev cl Y a).bind fun x=>(ev cl Y b).bind fun y=>ij x y):=rfl
def Iq:ev cl Y (.slF a b)=((ev cl Y a).bind fun x=>(ev cl Y b).bind fun y=>i6 x y):=rfl
def Ja:ev cl Y (.rev a)=((ev cl Y a).bind HQ):=rfl
def cx:ev cl Y (.call f es)=((evs cl Y es).bind fun ds=>cl f ds):=rfl
def jl:ev cl Y (.bi b a)=((ev cl Y a).bind fun x=>biV b x):=rfl
def wM:ev cl Y (.max a b)=((ev cl Y a).bind fun x=>(ev cl Y b).bind fun y=>Ay x y):=rfl
def xq:ev cl Y (.min a b)=((ev cl Y a).bind fun x=>(ev cl Y b).bind fun y=>AU x y):=rfl
def IU:ev cl Y (.isi a t)=((ev cl Y a).bind fun x=>(gf t x).map .bl):=rfl
def si:ev cl Y (.rng1 a)=((ev cl Y a).bind fun x=>(bR (.int 0) x).map .lst):=rfl
def xZ:ev cl Y (.rng2 a b)=((ev cl Y a).bind fun x=>(ev cl Y b).bind fun y=>(bR x y).map .lst):=rfl
def FI:ev cl Y (.rng3 c a b)=((ev cl Y a).bind fun x=>(ev cl Y b).bind fun y=>(cV c x y).map .lst):=rfl
def wj:ev cl Y (.neg a)=((ev cl Y a).bind A9):=rfl
def uo:ev cl Y (.comp e tg it c)=((b9 cl Y it).bind fun ds=>(fits ds).bind fun ds=>(cq (fun ZA=>((ev cl ZA c).bind truth).bind fun k=>if k then(ev cl ZA e).map some else some none) tg Y ds).map .lst):=rfl
def pE:ev cl Y (.compA e tg it)=((b9 cl Y it).bind fun ds=>(fits ds).bind fun ds=>(cq (fun ZA=>(ev cl ZA e).map some) tg Y ds).map .lst):=rfl
def HH:ev cl Y (.idx2 a b c)=((ev cl Y a).bind fun x=>(ev cl Y b).bind fun y=>(ev cl Y c).bind fun z=>me x y z):=rfl
def IZ:ev cl Y (.dk0)=(some (.dK [] [])):=rfl
def IM:ev cl Y (.dt0)=(some (.dT [] [])):=rfl
def di:evS cl M (.asg i e) Y=((ev cl Y e).bind fun d=>if aK M e d then some (.nx,Y.set i (some d))else none):=rfl
def lF:evS cl M (.own i e) Y=((ev cl Y e).bind fun d=>if aB d&&aC e then some (.nx,Y.set i (some d))else none):=rfl
def Iz:evS cl M (.unp is e) Y=((ev cl Y e).bind fun d=>(items d).bind fun ds=>if aw ds then(bA is ds Y).map fun ZA=>(.nx,ZA)else none):=rfl
def IC:evS cl M (.par i j a b) Y=((ev cl Y a).bind fun x=>(ev cl Y b).bind fun y=>if x.imm&&y.imm then some (.nx,(Y.set i (some x)).set j (some y))else none):=rfl
def lU:evS cl M (.app i e) Y=((ev cl Y e).bind fun d=>((Y[i]?).bind id).bind fun l=>match l with
  | .lst xs=>if d.imm&&decide (xs.length<most)then some (.nx,Y.set i (some (.lst (xs++[d]))))else none
  | _=>none):=rfl
def ke:evS cl M (.put i k e) Y=((ev cl Y e).bind fun d=>(ev cl Y k).bind fun kk=>((Y[i]?).bind id).bind fun l=>if d.imm then(cI l kk d).map fun l'=>(.nx,Y.set i (some l'))else none):=rfl
def Ek:evS cl M (.put2 i k l a b) Y=((ev cl Y a).bind fun x=>(ev cl Y b).bind fun y=>if x.imm&&y.imm then
   (ev cl Y k).bind fun kk=>((Y[i]?).bind id).bind fun c=>match c with
   | .lst _=>(cI c kk x).bind fun c1=>(ev cl (Y.set i (some c1)) l).bind fun ll=>(cI c1 ll y).map fun c2=>(.nx,(Y.set i (some c1)).set i (some c2))
   | _=>none
  else none):=rfl
def dm:evS cl M (.ife t a b) Y=(((ev cl Y t).bind truth).bind fun k=>if k then ao cl M a Y else ao cl M b Y):=rfl
def Jb:evS cl M (.ifp i e a b) Y=(((Y[i]?).bind id).bind fun l=>match l with
  | .lst xs=>(xs[xs.length-1]?).bind fun d=>(ev cl (Y.set i (some (.lst xs.dropLast))) e).bind fun y=>match d,y with
   | .int p,.int q=>if decide (p=q)then ao cl M b (Y.set i (some (.lst xs.dropLast)))else ao cl M a (Y.set i (some (.lst xs.dropLast)))
   | _,_=>none
  | _=>none):=rfl
def fE:evS cl M (.forr tg it b) Y=((b9 cl Y it).bind fun ds=>aP (ao cl M b) tg ds Y):=rfl
def Et:evS cl M (.whil t b) Y=(whF (fun Y=>(ev cl Y t).bind truth) (ao cl M b) most Y):=rfl
def sv:evS cl M (.mexc f es ps ms) Y=((evs cl Y es).bind fun ds=>if dX M ps 0 es ds then(cl f ds).bind fun r=>match r with
  | .tup (_::outs)=>(bA ms outs Y).map fun ZA=>(.nx,ZA)
  | _=>none
  else none):=rfl
def EC:evS cl M (.maug i f es ps ms) Y=(((Y[i]?).bind id).bind fun x=>(evs cl Y es).bind fun ds=>if dX M ps 0 es ds then(cl f ds).bind fun r=>match r with
  | .tup (y::outs)=>match x,y with
   | .int a,.int b=>(bA ms outs Y).map fun ZA=>(.nx,ZA.set i (some (.int (a+b))))
   | _,_=>none
  | _=>none
  else none):=rfl
def cy:evS cl M (.ret e) Y=((ev cl Y e).bind fun d=>if bj M e d then some (.rt d,Y)else none):=rfl
def BB:evS cl M (.exc e) Y=((ev cl Y e).map fun _=>(.nx,Y)):=rfl
def xI:evS cl M (.rais y1 y2) Y=(none):=rfl
def pd:aF .add (.lst a) (.lst b)=(if a.length+b.length<=most then some (.lst (a++b))else none):=rfl
def Bl:aF .mul (.int a) (.int b)=(if(-(2 ^ 64)<a/\a<2 ^ 64)\/(-(2 ^ 64)<b/\b<2 ^ 64)then some (.int (a*b))else none):=rfl
def J8:aF .mul (.lst a) (.int b)=(if 0<=b/\b<=most/\a.length*b.toNat<=most then some (.lst (List.replicate b.toNat a).flatten)else none):=rfl
def JK:aF .fdiv (.int a) (.int b)=(if 0<b/\b<2 ^ 200 then some (.int (a / b))else none):=rfl
def Kb:aF .mod (.int a) (.int b)=(if 0<b then some (.int (a%b))else none):=rfl
def Hx:ba .ge (.int a) (.int b)=(some (decide (b<=a))):=rfl
def Gk:ba .eq a b=(eqD 8 a b):=rfl
def F0:cI (.lst xs) (.int k) d=((jY xs.length k).map fun j=>.lst (xs.set j d)):=rfl
def EI:cI (.dK ks vs) k d=((keyOf k).bind fun k=>if ks.length<most then some (.dK (putD ks vs k d).1 (putD ks vs k d).2)else none):=rfl
def GO:cI (.dT ks vs) (.tup k) d=((keysOf k).bind fun k=>if ks.length<most then some (.dT (putD ks vs k d).1 (putD ks vs k d).2)else none):=rfl
def Bk:ixV (.lst xs) (.int i)=(bI xs i):=rfl
def eW:bf [i] d Y=some (Y.set i (some d)):=rfl
def Gx:bf (a::b::t) (.tup ds) Y=bA (a::b::t) ds Y:=rfl
def xr:bA [] [] Y=some Y:=rfl
def xc:bA (i::is) (d::ds) Y=bA is ds (Y.set i (some d)):=rfl
def Gj:eqD n (.int a) (.int b)=some (a == b):=by cases n<;>rfl
def G0:eqD n (.str a) (.str b)=some (a == b):=by cases n<;>rfl
def Hs:eqD n (.bl a) (.bl b)=some (a == b):=by cases n<;>rfl
def IJ:biV .len (.lst xs)=some (.int xs.length):=rfl
def BD:biV .len (.tup xs)=some (.int xs.length):=rfl
def FR:biV .list d=(items d).map .lst:=rfl
def rq:biV .tuple d=(items d).map .tup:=rfl
def Fl:biV .int (.bl b)=some (.int (if b then 1 else 0)):=rfl
def EH:biV .all (.lst xs)=(d7 xs).map fun bs=>.bl (bs.all id):=rfl
def Bz:biV .lenSet (.lst xs)=if xs.length<=1000 then(cK xs).map fun is=>.int (fR is).length else none:=rfl
def IV:biV .len (.str x)=if x.length<=most then some (.int x.length)else none:=rfl
def J3:avE M (.call f es)=true:=rfl
def EX:avE M (.var j)=!M.contains j:=rfl
set_option autoImplicit false
structure Fn where
 ps:Nat
 nn:Nat
 M:List Nat
 mp:List Nat
 body:Ss
abbrev cF(Y:St):List Nat->Option (List D)
 | []=>some []
 | i::is=>((Y[i]?).bind id).bind fun d=>(cF Y is).map (d :: ·)
abbrev aZ(fn:Fn)(d:D)(Y:St):Option D :=
 if fn.mp.isEmpty then some d else if d.imm then(cF Y fn.mp).map fun os=>.tup (d::os)else none
abbrev a7(T:List Fn):Nat->Cl
 | 0,_,_=>none
 | n+1,f,ds=>match T[f]? with
  | some fn=>if ds.length=fn.ps then(ao (a7 T n) fn.M fn.body (ds.map some++List.replicate (fn.nn-fn.ps) none)).bind fun p=>match p.1 with
   | .nx=>aZ fn .non p.2
   | .rt d=>aZ fn d p.2
   else none
  | none=>(T[f-1000]?).bind fun fn=>if ds.length=fn.ps/\fn.mp=[]then(oQ (a7 T n) fn.M fn.body (ds.map some++List.replicate (fn.nn-fn.ps) none)).map fun p=>.str p.1 else none
end RL
namespace RT
open RL
abbrev eK:Fn :=
 ⟨1,1,[],[],%[.ret (.and (.isi 0#0 .int) (.not (.isi 0#0 .bool)))|.nil]⟩
abbrev df(Qa:Nat):Fn :=
 ⟨1,1,[],[],%[.ret (.and (.call Qa %[0#0|.nil]) (.chain .le .le 1#1 0#0 (.glb "MOST_PEGS" 10)))|.nil]⟩
abbrev fP(Qb:Nat):Fn :=
 ⟨1,1,[],[],%[.ife (.not (.call Qb %[0#0|.nil])) %[.rais "BadPegs" %[.glb "MOST_PEGS" 10|.nil]|.nil] .nil|.nil]⟩
abbrev nZ:Fn :=
 ⟨3,3,[0,0],[0],%[.put 0 1#0 2#0,.put 0 2#0 1#0|.nil]⟩
abbrev gy:Fn :=
 ⟨1,1,[],[],%[.ret (.bin .fdiv (.bi .len 0#0) 2#1)|.nil]⟩
abbrev lP(Qc:Nat):Fn :=
 ⟨1,1,[],[],%[.exc (.call Qc %[0#0|.nil]),.ret (.bi .tuple (.bin .add (.rng2 0#0 (.bin .mul 2#1 0#0)) (.rng1 0#0)))|.nil]⟩
abbrev pL(Qd Qe Qf:Nat):Ss :=
 %[.maug 3 Qd %[2#0,4#0|.nil] [0] [2]|.nil]
abbrev nW(Qd Qe Qf:Nat):Fn :=
 ⟨2,5,[2],[],%[.exc (.call Qf %[0#0,1#0|.nil]),.own 2 (.bi .list (.call Qe %[0#0|.nil])),.asg 3 0#1,.forr [4] (.seq 1#0) (pL Qd Qe Qf),.ret (.tup %[.bi .tuple 2#0,3#0|.nil])|.nil]⟩
abbrev eJ(Qg Qh:Nat):Fn :=
 ⟨2,4,[0,0],[0],%[.asg 2 (.bin .add (.call Qh %[0#0|.nil]) 1#0),.asg 3 (.bin .add 2#0 1#1),.ife (.cmp .eq (.ix 0#0 2#0) 3#0) %[.ret 1#1|.nil] .nil,.mexc Qg %[0#0,.ix 0#0 2#0,.ix 0#0 3#0|.nil] [0] [0],.mexc Qg %[0#0,2#0,3#0|.nil] [0] [0],.ret 0#1|.nil]⟩
abbrev iS(Qa:Nat):Fn :=
 ⟨2,2,[],[],%[.ret (.and (.call Qa %[1#0|.nil]) (.chain .le .le 0#1 1#0 (.bin .sub 0#0 2#1)))|.nil]⟩
abbrev kO(Qi Qc:Nat):Ss :=
 %[.ife (.not (.call Qi %[0#0,2#0|.nil])) %[.rais "BadHook" %[2#0,0#0|.nil]|.nil] .nil|.nil]
abbrev gn(Qi Qc:Nat):Fn :=
 ⟨2,3,[],[],%[.exc (.call Qc %[0#0|.nil]),.forr [2] (.seq 1#0) (kO Qi Qc)|.nil]⟩
abbrev kP:Fn :=
 ⟨1,3,[],[],%[.asg 1 (.bin .mod (.bin .add (.bin .mul 0#0 48271#1) 11#1) 2147483647#1),.asg 2 (.bin .mod (.bin .add (.bin .add (.bin .mul 1#0 1#0) (.bin .mul 40692#1 1#0)) 0#0) 2147483399#1),.ret (.bin .mod (.bin .add (.bin .add (.bin .mul 2#0 2#0) (.bin .mul 69621#1 2#0)) 1#0) 2147483563#1)|.nil]⟩
abbrev kj(Qj:Nat):Ss :=
 %[.asg 3 (.bin .add (.bin .mul 3#0 2147483563#1) (.call Qj %[.bin .add (.bin .add 2#0 (.bin .mul 1009#1 1#0)) (.bin .mul 7919#1 4#0)|.nil]))|.nil]
abbrev l6(Qj:Nat):Fn :=
 ⟨2,5,[],[],%[.asg 2 (.bin .add (.bin .mul 7#1 1#0) 3#1),.ife (.cmp .gt (.bi .len 0#0) 0#1) %[.asg 2 (.bin .add (.ix 0#0 (.bin .mod 1#0 (.bi .len 0#0))) (.bin .mul 9973#1 (.bin .fdiv 1#0 (.bi .len 0#0))))|.nil] .nil,.ife (.and (.cmp .lt 1#0 (.bi .len 0#0)) (.cmp .ge 2#0 (.bin .pow 10#1 18#1))) %[.ret (.bin .sub 2#0 (.bin .pow 10#1 18#1))|.nil] .nil,.asg 3 0#1,.forr [4] (.rng1 40#1) (kj Qj),.ret 3#0|.nil]⟩
abbrev gG(Qk:Nat):Ss :=
 %[.app 4 (.bin .mod 3#0 5#0),.asg 3 (.bin .fdiv 3#0 5#0)|.nil]
abbrev fQ(Qk:Nat):Fn :=
 ⟨3,6,[4],[],%[.asg 3 (.call Qk %[0#0,1#0|.nil]),.own 4 (.lst .nil),.forr [5] (.seq 2#0) (gG Qk),.ret 4#0|.nil]⟩
abbrev cJ(Ql:Nat):Ss :=
 %[.ife (.cmp .lt 2#0 2#1) %[.ret (.lst .nil)|.nil] .nil,.asg 8 (.bin .mod 7#0 (.bin .sub 2#0 1#1)),.ife (.and (.cmp .ne 4#0 (.lst .nil)) (.cmp .eq (.bin .mod 7#0 3#1) 1#1)) %[.asg 8 (.min (.bin .sub 2#0 2#1) (.max 0#1 (.bin .add (.ix 4#0 (.neg 1#1)) (.ix (.lst %[1#1,.neg 1#1,0#1|.nil]) (.bin .mod (.bin .mod 7#0 7#1) 3#1)))))|.nil] .nil,.app 4 8#0|.nil]
abbrev fA(Ql:Nat):Ss :=
 %[.asg 6 (.call Ql %[0#0,.bin .add 1#0 (.bin .fdiv 5#0 12#1),.bin .mul (.lst %[97#1|.nil]) 12#1|.nil]),.forr [7] (.seq (.slT 6#0 (.bin .sub 3#0 5#0))) (cJ Ql)|.nil]
abbrev dF(Ql:Nat):Fn :=
 ⟨4,9,[4],[],%[.own 4 (.lst .nil),.forr [5] (.rng3 (12) 0#1 3#0) (fA Ql),.ret 4#0|.nil]⟩
abbrev iA(Qm:Nat):Fn :=
 ⟨1,2,[],[],%[.ret (.and (.isi 0#0 .tuple) (.bi .all (.compA (.call Qm %[0#0,1#0|.nil]) [1] (.rng1 (.bi .len 0#0)))))|.nil]⟩
abbrev iP(Qa:Nat):Fn :=
 ⟨2,3,[],[],%[.asg 2 (.ix 0#0 1#0),.ret (.and (.call Qa %[2#0|.nil]) (.and (.chain .le .lt 0#1 2#0 (.bi .len 0#0)) (.cmp .eq (.ix 0#0 2#0) 1#0)))|.nil]⟩
abbrev bL:Ss :=
 %[.ife (.cmp .gt 3#0 2#0) %[.app 1 2#0|.nil] %[.ife (.cmp .eq 3#0 2#0) %[.ife 1#0 %[.ret (.cst (.bl false))|.nil] .nil|.nil] %[.ifp 1 3#0 %[.ret (.cst (.bl false))|.nil] .nil|.nil]|.nil]|.nil]
abbrev fV:Fn :=
 ⟨1,4,[1],[],%[.own 1 (.lst .nil),.forr [2,3] (.enm 0#0) (bL),.ret (.cst (.bl true))|.nil]⟩
abbrev gP(Qn Qo Qp Qb Qh:Nat):Fn :=
 ⟨1,5,[],[],%[.asg 1 (.call Qh %[0#0|.nil]),.ife (.or (.cmp .ne (.bi .len 0#0) (.bin .mul 2#1 1#0)) (.or (.not (.call Qb %[1#0|.nil])) (.not (.call Qp %[0#0|.nil])))) %[.ret (.cst (.bl false))|.nil] .nil,.asg 2 (.comp 3#0 [3,4] (.enm 0#0) (.cmp .eq 3#0 4#0)),.ret (.and (.not 2#0) (.call Qn %[.call Qo %[0#0|.nil]|.nil]))|.nil]⟩
abbrev eL(Qq:Nat):Fn :=
 ⟨1,1,[],[],%[.ife (.not (.call Qq %[0#0|.nil])) %[.rais "BadFrame" .nil|.nil] .nil|.nil]⟩
abbrev dz:Fn :=
 ⟨2,2,[],[],%[.ret (.ifx (.cmp .lt 1#0 0#0) 1#0 (.bin .sub (.bin .sub (.bin .mul 3#1 0#0) 1#1) 1#0))|.nil]⟩
abbrev fM(Qr Qs Qh:Nat):Fn :=
 ⟨1,3,[],[],%[.asg 1 (.call Qh %[0#0|.nil]),.ret (.call Qr %[0#0,.compA (.call Qs %[1#0,2#0|.nil]) [2] (.rng1 (.bin .mul 2#1 1#0))|.nil])|.nil]⟩
abbrev mF:Ss :=
 %[.put 2 (.ix 1#0 3#0) (.ix 1#0 4#0)|.nil]
abbrev jH:Fn :=
 ⟨2,5,[2],[],%[.own 2 (.bin .mul (.lst %[0#1|.nil]) (.bi .len 0#0)),.forr [3,4] (.enm 0#0) (mF),.ret (.bi .tuple 2#0)|.nil]⟩
abbrev dC:Fn :=
 ⟨1,2,[],[],%[.ret (.bi .tuple (.bin .add (.compA (.bin .add 0#0 1#0) [1] (.rng1 0#0)) (.rng1 0#0)))|.nil]⟩
abbrev m8(Qt:Nat):Ss :=
 %[.put 2 3#0 (.bin .add 3#0 1#1),.put 2 (.bin .add 3#0 1#1) 3#0|.nil]
abbrev gO(Qt:Nat):Fn :=
 ⟨2,4,[2],[],%[.own 2 (.bi .list (.call Qt %[0#0|.nil])),.forr [3] (.seq (.tup %[1#0,.bin .add 0#0 1#0|.nil])) (m8 Qt),.ret (.bi .tuple 2#0)|.nil]⟩
abbrev dQ:Ss :=
 %[.ife (.cmp .eq (.ixD 4#0 7#0) 9#0) %[.put 4 7#0 8#0|.nil] .nil|.nil]
abbrev fN:Ss :=
 %[.par 8 9 (.ixD 4#0 5#0) (.ixD 4#0 6#0),.forr [7] (.seq 2#0) (dQ)|.nil]
abbrev iU:Ss :=
 %[.forr [6] (.seq (.tup %[.ix 1#0 5#0,.bin .sub (.ix 0#0 (.bin .add 3#0 5#0)) 3#0|.nil])) (fN)|.nil]
abbrev jj:Ss :=
 %[.put 4 5#0 5#0|.nil]
abbrev eC:Fn :=
 ⟨3,10,[4],[],%[.asg 3 (.bin .fdiv (.bi .len 0#0) 2#1),.own 4 .dk0,.forr [5] (.seq 2#0) (jj),.forr [5] (.seq 2#0) (iU),.ret (.bi .lenSet (.compA (.ixD 4#0 5#0) [5] (.seq 2#0)))|.nil]⟩
abbrev dB(Qu:Nat):Ss :=
 %[.ife (.cmp .eq (.cmp .eq (.ix 7#0 0#1) (.cst (.str "high"))) (.cmp .ge (.ix 7#0 1#1) 2#0)) %[.put 6 (.bin .mod (.ix 7#0 1#1) 2#0) (.cst (.bl true)),.asg 7 (.ixD 3#0 (.tup %[.ix (.lst %[.cst (.str "high"),.cst (.str "low")|.nil]) (.bi .int (.cmp .eq (.ix 7#0 0#1) (.cst (.str "high")))),.bin .mod (.bin .add (.ix 7#0 1#1) 2#0) (.bin .mul 2#1 2#0)|.nil]))|.nil] .nil|.nil]
abbrev gj(Qu:Nat):Ss :=
 %[.asg 7 (.ixD 3#0 (.tup %[.ix (.lst %[.cst (.str "high"),.cst (.str "low")|.nil]) (.bi .int (.cmp .ge 4#0 2#0)),4#0|.nil])),.forr [8] (.rng1 (.bin .mul 4#1 2#0)) (dB Qu),.app 5 (.ix 7#0 1#1)|.nil]
abbrev gp(Qu:Nat):Ss :=
 %[.put 3 (.tup %[.cst (.str "high"),4#0|.nil]) (.tup %[.cst (.str "high"),.ix 0#0 4#0|.nil]),.put 3 (.tup %[.cst (.str "low"),4#0|.nil]) (.tup %[.cst (.str "low"),.ix 1#0 4#0|.nil])|.nil]
abbrev fO(Qu:Nat):Fn :=
 ⟨2,9,[3,5,6],[],%[.asg 2 (.bin .fdiv (.bi .len 0#0) 2#1),.own 3 .dt0,.forr [4] (.rng1 (.bin .mul 2#1 2#0)) (gp Qu),.own 5 (.lst .nil),.own 6 .dk0,.forr [4] (.rng1 (.bin .mul 2#1 2#0)) (gj Qu),.ret (.tup %[.bi .tuple 5#0,.call Qu %[0#0,1#0,.comp 4#0 [4] (.rng1 2#0) (.inD true 4#0 6#0)|.nil]|.nil])|.nil]⟩
abbrev cQ(Qv:Nat):Fn :=
 ⟨2,4,[],[],%[.ife (.isN false 1#0) %[.ret (.isN false 0#0)|.nil] .nil,.ife (.or (.cmp .ne (.isi 0#0 .bool) (.isi 1#0 .bool)) (.cmp .ne (.isi 0#0 .int) (.isi 1#0 .int))) %[.ret (.cst (.bl false))|.nil] .nil,.ife (.or (.cmp .ne (.isi 0#0 .list) (.isi 1#0 .list)) (.cmp .ne (.isi 0#0 .tuple) (.isi 1#0 .tuple))) %[.ret (.cst (.bl false))|.nil] .nil,.ife (.and (.not (.isi 1#0 .list)) (.not (.isi 1#0 .tuple))) %[.ret (.and (.cmp .eq (.isi 0#0 .str) (.isi 1#0 .str)) (.cmp .eq 0#0 1#0))|.nil] .nil,.ret (.and (.cmp .eq (.bi .len 0#0) (.bi .len 1#0)) (.bi .all (.compA (.call Qv %[2#0,3#0|.nil]) [2,3] (.zip 0#0 1#0))))|.nil]⟩
abbrev eG(Qh:Nat):Fn :=
 ⟨2,3,[],[],%[.ret (.comp 2#0 [2] (.rng1 (.bin .sub (.call Qh %[0#0|.nil]) 1#1)) (.cmp .eq (.ix 0#0 (.bin .add 1#0 2#0)) (.bin .add (.bin .add 1#0 2#0) 1#1)))|.nil]⟩
abbrev fH(Qw Qx Qy:Nat):Ss :=
 %[.app 2 (.ix 3#0 0#1),.mexc Qx %[1#0,.ix 3#0 0#1|.nil] [0] [1],.asg 3 (.call Qw %[1#0,0#1|.nil])|.nil]
abbrev gd(Qw Qx Qy:Nat):Fn :=
 ⟨1,4,[1,2],[],%[.exc (.call Qy %[0#0|.nil]),.own 1 (.bi .list 0#0),.own 2 (.lst .nil),.asg 3 (.call Qw %[1#0,0#1|.nil]),.whil 3#0 (fH Qw Qx Qy),.ret 2#0|.nil]⟩
abbrev k6(Qg Qz:Nat):Fn :=
 ⟨2,4,[0,0],[0],%[.asg 2 (.call Qz %[0#0,1#0|.nil]),.asg 3 (.ix 0#0 2#0),.mexc Qg %[0#0,2#0,1#0|.nil] [0] [0],.mexc Qg %[0#0,3#0,.bin .add 1#0 1#1|.nil] [0] [0]|.nil]⟩
abbrev gN(Qh:Nat):Fn :=
 ⟨2,5,[],[],%[.asg 2 (.call Qh %[0#0|.nil]),.asg 3 (.bin .add (.rev (.rng1 1#0)) (.rng2 2#0 (.bin .add (.bin .add 2#0 1#0) 1#1))),.ret (.ix (.comp 4#0 [4] (.seq 3#0) (.cmp .gt (.bin .mod (.ix 0#0 4#0) 2#0) 1#0)) 0#1)|.nil]⟩
end RT
namespace M
abbrev hg(l r:Nat)(g:Nat->Nat):Nat->Nat:=fun x=>if g l=r then g x else if x=r then l else if x=l then r else if x=g r then g l else if x=g l then g r else g x
abbrev rg(l r:Nat)(g:Nat->Nat):Nat:=if g l=r then 1 else 0
section
def oD(e:g l=r):hg l r g=g:=by funext x;unfold hg;rw[if_pos e]
def eT(hlr:l≠r):hg l r g l=r:=by
 unfold hg;by_cases e:g l=r
 ·rw[if_pos e,e]
 ·rw[if_neg e,if_neg hlr,if_pos rfl]
def iy(hlr:l≠r)(h:∀ x,g (g x)=x):hg l r g r=l:=by
 unfold hg;by_cases e:g l=r
 ·rw[if_pos e,<-e,h]
 ·rw[if_neg e,if_pos rfl]
def sw{g:Nat->Nat}{x y:Nat}(h:∀ x,g (g x)=x):g x=y↔x=g y:=#[fun z=>by rw[<-z,h],fun z=>by rw[z,h]]
abbrev wk(l r:Nat)(g:Nat->Nat)(y:Nat):Nat:=if y=r then g l else if y=l then g r else y
def dU(h:∀ x,g (g x)=x)(a:x≠l)(b:x≠r):hg l r g x=wk l r g (g x):=by
 unfold hg wk;rw[if_neg b,if_neg a];by_cases e:g l=r
 ·rw[if_pos e,if_neg fun z=>a (by rw[<-h x,z,<-e,h]),if_neg fun z=>b (by rw[<-h x,z,e])]
 ·rw[if_neg e];simp only[sw h]
def xk(a:y≠l)(b:y≠r):wk l r g y=y:=by
 unfold wk;rw[if_neg b,if_neg a]
def iO(hlr:l≠r)(h:∀ x,g (g x)=x)(n1:g l≠l)(n2:g r≠r)(x:Nat):hg l r g (hg l r g x)=x:=by
 by_cases e:g l=r
 ·rw[oD e];exact h x
 by_cases a:x=l
 ·rw[a,eT hlr,iy hlr h]
 by_cases b:x=r
 ·rw[b,iy hlr h,eT hlr]
 rw[dU h a b];have e':g r≠l:=fun z=>e (by rw[<-z,h]);by_cases c:g x=r
 ·rw[c,wk,if_pos rfl,dU h n1 e,h,wk,if_neg hlr,if_pos rfl,<-c,h]
 by_cases d:g x=l
 ·rw[d,wk,if_neg hlr,if_pos rfl,dU h e' n2,h,wk,if_pos rfl,<-d,h]
 rw[xk d c,dU h d c,h,xk a b]
def Bj(hlr:l≠r)(h:∀ x,g (g x)=x)(n1:g l≠l)(n2:g r≠r)(nx:g x≠x):hg l r g x≠x:=by
 by_cases a:x=l
 ·rw[a,eT hlr];exact hlr.symm
 by_cases b:x=r
 ·rw[b,iy hlr h];exact hlr
 rw[dU h a b,wk];by_cases c:g x=r
 ·rw[if_pos c];exact fun z=>hlr (by rw[<-c,<-z,h])
 ·rw[if_neg c];by_cases d:g x=l
  ·rw[if_pos d];exact fun z=>c (by rw[<-z,h])
  ·rw[if_neg d];exact nx
def Ic(l r:Nat)(g:Nat->Nat)(hlr:l≠r):wk l r g y=wk r l g y:=by
 unfold wk;by_cases a:y=r
 ·rw[if_pos a,if_neg fun z=>hlr (z.symm.trans a),if_pos a]
 ·rw[if_neg a,if_neg a]
def mm(hlr:l≠r)(h:∀ x,g (g x)=x):hg l r g=hg r l g:=by
 funext x;by_cases a:x=l
 ·rw[a,eT hlr,iy hlr.symm h]
 by_cases b:x=r
 ·rw[b,iy hlr h,eT hlr.symm]
 rw[dU h a b,dU h b a,Ic l r g hlr]
def eB(h:∀ x,g (g x)=x)(e:g x=y)(a:x≠p)(b:x≠q)(c:y≠p)(d:y≠q):hg p q g x=y:=by rw[dU h a b,e,xk c d]
def xg(h1:l≠r)(h2:p≠q)(d1:l≠p)(d2:l≠q)(d3:r≠p)(d4:r≠q)(h:∀ x,g (g x)=x)(n1:g l≠l)(n2:g r≠r)(n3:g p≠p)(n4:g q≠q)(a:x≠l)(b:x≠r)(c:x≠p)(d:x≠q)(e:g x=r):hg l r (hg p q g) x=hg p q (hg l r g) x:=by
 have hi:=iO h1 h n1 n2;have hj:=iO h2 h n3 n4;rw[dU hj a b,eB h e c d d3 d4,wk,if_pos rfl,dU h d1 d2,dU hi c d,dU h a b,e];have k:wk l r g r=g l:=if_pos rfl;have w:∀ y,y≠x->y≠l->y≠r->g y≠r:=fun y u _ _ z=>u (by rw[<-h y,z,<-e,h]);rw[k];unfold wk;by_cases y1:g l=q
 ·rw[if_pos y1,if_pos y1,eB h rfl d1.symm d3.symm (fun z=>h2 (by rw[<-h p,z,y1])) (w p c.symm d1.symm d3.symm)]
 ·rw[if_neg y1,if_neg y1];by_cases y2:g l=p
  ·rw[if_pos y2,if_pos y2,eB h rfl d2.symm d4.symm (fun z=>h2 (by rw[<-y2,<-z,h])) (w q d.symm d2.symm d4.symm)]
  ·rw[if_neg y2,if_neg y2]
def far(h1:l≠r)(h2:p≠q)(d1:l≠p)(d2:l≠q)(d3:r≠p)(d4:r≠q)(h:∀ x,g (g x)=x)(n1:g l≠l)(n2:g r≠r)(n3:g p≠p)(n4:g q≠q):hg l r (hg p q g)=hg p q (hg l r g)/\rg p q g+rg l r (hg p q g)=rg l r g+rg p q (hg l r g):=by
 have hi:=iO h1 h n1 n2;have hj:=iO h2 h n3 n4;constructor
 ·funext x;by_cases a:x=l
  ·rw[a,eT h1,eB hi (eT h1) d1 d2 d3 d4]
  by_cases b:x=r
  ·rw[b,iy h1 hj,eB hi (iy h1 h) d3 d4 d1 d2]
  by_cases c:x=p
  ·rw[c,eT h2,eB hj (eT h2) d1.symm d3.symm d2.symm d4.symm]
  by_cases d:x=q
  ·rw[d,iy h2 hi,eB hj (iy h2 h) d2.symm d4.symm d1.symm d3.symm]
  by_cases e1:g x=r
  ·exact xg h1 h2 d1 d2 d3 d4 h n1 n2 n3 n4 a b c d e1
  by_cases e2:g x=l
  ·rw[mm h1 hj,mm h1 h];exact xg h1.symm h2 d3 d4 d1 d2 h n2 n1 n3 n4 b a c d e2
  by_cases e3:g x=q
  ·exact(xg h2 h1 d1.symm d3.symm d2.symm d4.symm h n3 n4 n1 n2 c d a b e3).symm
  by_cases e4:g x=p
  ·rw[mm h2 hi,mm h2 h];exact(xg h2.symm h1 d2.symm d4.symm d1.symm d3.symm h n4 n3 n1 n2 d c a b e4).symm
  rw[eB hj (eB h rfl c d e4 e3) a b e2 e1,eB hi (eB h rfl a b e2 e1) c d e4 e3]
 ·have k1:hg p q g l=wk p q g (g l):=dU h d1 d2;have k2:hg l r g p=wk l r g (g p):=dU h d1.symm d3.symm;unfold rg;by_cases e1:g l=r
  ·have k:=eB h e1 d1 d2 d3 d4;rw[if_pos e1,if_pos k,oD e1,Nat.add_comm]
  by_cases e2:g p=q
  ·rw[if_pos e2,oD e2,if_pos (eB h e2 d1.symm d3.symm d2.symm d4.symm),Nat.add_comm]
  rw[if_neg e1,if_neg e2,k1,k2];congr 1
  have:(wk p q g (g l)=r)=(wk l r g (g p)=q):=by
   unfold wk;by_cases y1:g l=q
   ·rw[if_pos y1];by_cases y2:g p=r
    ·rw[if_pos y2,y1,y2,eq_self,eq_self]
    ·rw[if_neg y2,if_neg fun z=>h2 (by rw[<-h p,z,y1])];exact propext ⟨fun z=>absurd z y2,fun z=>absurd z e2⟩
   ·rw[if_neg y1];by_cases y2:g l=p
    ·have y3:g p=l:=by rw[<-y2,h]
     rw[if_pos y2,y3,if_neg h1,if_pos rfl];exact propext ⟨fun z=>by rw[<-z,h],fun z=>by rw[<-z,h]⟩
    ·rw[if_neg y2];refine propext ⟨fun z=>absurd z e1,fun z=>?_⟩;by_cases y3:g p=r
     ·rw[if_pos y3]at z;exact absurd z y1
     ·rw[if_neg y3,if_neg fun z=>y2 (by rw[<-z,h])]at z;exact absurd z e2
  simp only[this]
def up1(h1:l≠r)(h2:r≠s)(h3:l≠s)(h:∀ x,g (g x)=x)(e:g l=r)(n3:g s≠s):hg l r (hg r s g)=g/\rg r s g=0/\rg l r (hg r s g)=0:=by
 have e2:g r=l:=by rw[<-e,h]
 have f:g r≠s:=by rw[e2];exact h3
 have kl:hg r s g l=g s:=by rw[dU h h1 h3,wk,e,if_neg h2,if_pos rfl]
 have f2:g s≠r:=fun z=>f (by rw[<-z,h])
 have n1:g r≠r:=by rw[e2];exact h1
 have hj:=iO h2 h n1 n3;refine#[funext fun x=>?_,if_neg f,if_neg (by rw[kl];exact f2)];by_cases a:x=l
 ·rw[a,eT h1,e]
 by_cases b:x=r
 ·rw[b,iy h1 hj,e2]
 rw[dU hj a b,wk];by_cases c:x=s
 ·rw[c,iy h2 h,if_pos rfl,kl]
 rw[dU h b c,wk,eT h2,kl];by_cases d:g x=s
 ·rw[if_pos d,e2,if_neg h1,if_pos rfl,d]
 ·have u:g x≠r:=fun z=>a (by rw[<-h x,z,e2]);rw[if_neg d,if_neg u,if_neg u,if_neg fun z=>b (by rw[<-h x,z,e])]
def dn1(h1:l≠r)(h2:r≠s)(h3:l≠s)(h:∀ x,g (g x)=x)(e:g l=r)(n3:g s≠s):hg l r (hg s l g)=g/\rg s l g=0/\rg l r (hg s l g)=0:=by
 have e2:g r=l:=by rw[<-e,h]
 have n1:g l≠l:=by rw[e];exact h1.symm
 have hj:=iO h3.symm h n3 n1;have f:g s≠l:=fun z=>h2 (by rw[<-e,<-z,h]);have f2:g s≠l:=f;rw[mm h1 hj,mm h3.symm h];obtain⟨a,b,c⟩:=up1 h1.symm h3 h2 h e2 n3;refine#[a,if_neg f,if_neg ?_];rw[eT h3];exact h2.symm
end
end M
namespace RL
abbrev evF(cl:Cl)(fn:Fn)(ds:List D):Option D:=if ds.length=fn.ps then(ao cl fn.M fn.body (ds.map some++List.replicate (fn.nn-fn.ps) none)).bind fun p=>match p.1 with
  | .nx=>aZ fn .non p.2
  | .rt d=>aZ fn d p.2
  else none
def a5(h:T[f]?=some fn):a7 T (n+1) f ds=evF (a7 T n) fn ds:=by
 rw[a7,h];rfl
abbrev L(xs:List Nat):List D:=xs.map fun(i:Nat)=>.int (i:Int)
def uG(I:List D->St->Prop):∀ (ds done:List D) (Y:St),(∀ pre d post Y,done++ds=pre++d::post->I pre Y->d.imm=true/\∃ ZC,(bf tg d Y).bind f=some (.nx,ZC)/\I (pre++[d]) ZC)->I done Y->∃ Zz,aP f tg ds Y=some (.nx,Zz)/\I (done++ds) Zz
 | [],done,Y,_,h=>#[Y,rfl,by simpa using h]
 | d::ds,done,Y,hs,h=>by
  obtain⟨im,ZC,h1,h3⟩:=hs done d ds Y rfl h;obtain⟨Zz,h4,h5⟩:=uG I ds (done++[d]) ZC (fun pre e post Y he=>hs pre e post Y (by simpa using he)) h3;refine#[Zz,?_,by simpa using h5];rw[aP,if_pos im]
  cases hb:bf tg d Y with
  | none=>rw[hb]at h1;cases h1
  |some ZA=>
   rw[hb]at h1;simp only[Option.bind_some]at h1 ⊢;rw[h1];exact h4
def BZ(I:List D->St->Prop)(h0:I [] Y)(hs:∀ pre d post Y,ds=pre++d::post->I pre Y->d.imm=true/\∃ ZC,(bf tg d Y).bind f=some (.nx,ZC)/\I (pre++[d]) ZC):∃ Zz,aP f tg ds Y=some (.nx,Zz)/\I ds Zz :=
 uG I ds [] Y (by simpa using hs) h0
@[simp] theorem tf_lst:aC (.lst a)=true:=rfl
@[simp] theorem tf_tup:aC (.tup a)=true:=rfl
@[simp] theorem tf_comp:aC (.comp a b c d)=true:=rfl
@[simp] theorem tf_compA:aC (.compA a b c)=true:=rfl
@[simp] theorem tf_bin:aC (.bin a b c)=true:=rfl
@[simp] theorem tf_slT:aC (.slT a b)=true:=rfl
@[simp] theorem tf_slF:aC (.slF a b)=true:=rfl
@[simp] theorem tf_rev:aC (.rev a)=true:=rfl
@[simp] theorem tf_call:aC (.call a b)=true:=rfl
@[simp] theorem tf_bi:aC (.bi a b)=true:=rfl
@[simp] theorem tf_rng1:aC (.rng1 a)=true:=rfl
@[simp] theorem tf_rng2:aC (.rng2 a b)=true:=rfl
@[simp] theorem tf_rng3:aC (.rng3 a b c)=true:=rfl
@[simp] theorem tf_dk0:aC .dk0=true:=rfl
@[simp] theorem tf_dt0:aC .dt0=true:=rfl
end RL
namespace RM
open RL RT
section basics
def iN:ba .lt (.int a) (.int b)=some (decide (a<b)):=rfl
def sA:ba .le (.int a) (.int b)=some (decide (a<=b)):=rfl
def tR:ba .gt (.int a) (.int b)=some (decide (b<a)):=rfl
def AS:ba .ge (.int a) (.int b)=some (decide (b<=a)):=rfl
def fF:ba .eq (.int a) (.int b)=some (a == b):=rfl
def JM:ba .ne (.int a) (.int b)=some (!(a == b)):=rfl
def bS:aF .add (.int a) (.int b)=some (.int (a+b)):=rfl
def gr:aF .sub (.int a) (.int b)=some (.int (a-b)):=rfl
def dN(h:0<b):aF .mod (.int a) (.int b)=some (.int (a%b)):=Kb.trans (if_pos h)
def qR(h:0<b)(h':b<2 ^ 200):aF .fdiv (.int a) (.int b)=some (.int (a / b)):=JK.trans (if_pos ⟨h,h'⟩)
def cP(h1:-(2 ^ 64)<a)(h2:a<2 ^ 64):aF .mul (.int a) (.int b)=some (.int (a*b)):=Bl.trans (if_pos (.inl #[h1,h2]))
def xH(h1:-(2 ^ 64)<b)(h2:b<2 ^ 64):aF .mul (.int a) (.int b)=some (.int (a*b)):=Bl.trans (if_pos (.inr #[h1,h2]))
def zU(k:Bool):truth (.bl k)=some k:=rfl
end basics
def Dt(h:L xs=pre++d::post):∃ p x q,xs=p++x::q/\pre=L p/\d=.int (x:Nat)/\post=L q:=by
 unfold L at h;obtain⟨p,r,rfl,h1,h2⟩:=List.map_eq_append_iff.mp h;obtain⟨x,q,rfl,h3,h4⟩:=List.map_eq_cons_iff.mp h2;exact#[p,x,q,rfl,h1.symm,h3.symm,h4.symm]
def lQ:∀ {a b:List Nat},L a=L b->a=b
 | [],[],_=>rfl
 | [],_::_,h=>by simp[L]at h
 | _::_,[],h=>by simp[L]at h
 | x::a,y::b,h=>by
  unfold L at h;rw[List.map_cons,List.map_cons,List.cons.injEq]at h
  have h1:(x:Int)=y:=by injection h.1
  rw[lQ (a:=a) (b:=b) h.2,Int.ofNat_inj.mp h1]
def cX(I:List Nat->St->Prop)(h0:I [] Y)(hs:∀ p x q Y,xs=p++x::q->I p Y->∃ ZC,(bf tg (.int (x:Nat)) Y).bind f=some (.nx,ZC)/\I (p++[x]) ZC):∃ Zz,aP f tg (L xs) Y=some (.nx,Zz)/\I xs Zz:=by
 obtain⟨Zz,e,p,hp,hi⟩:=BZ (f:=f) (tg:=tg) (ds:=L xs) (Y:=Y) (fun pre Y=>∃ p,pre=L p/\I p Y) ⟨[],rfl,h0⟩ (by
  rintro pre d post Y hd ⟨p',hp',hi⟩;obtain⟨p,x,q,rfl,rfl,rfl,rfl⟩:=Dt hd;have:=lQ hp';subst this;obtain⟨ZC,h1,h2⟩:=hs p x q Y rfl hi
  exact#[rfl,ZC,h1,p++[x],by simp[L],h2])
 have:=lQ hp;subst this;exact#[Zz,e,hi]
def aS(xs:List Nat):(L xs).length=xs.length:=by simp[L]
def om(xs:List Nat)(i:Nat):(L xs)[i]?=(xs[i]?).map fun(i:Nat)=>.int (i:Int):=by simp[L]
def BU(xs:List Nat)(i j:Nat):(L xs).set i (.int j)=L (xs.set i j):=by simp[L,List.map_set]
def aY:∀ xs:List Nat,aw (L xs)=true
 | []=>rfl
 | x::xs=>by
  show((D.int x).imm&&aw (L xs))=true;rw[aY xs];rfl
def eg(xs ys:List Nat):L (xs++ys)=L xs++L ys:=by simp[L]
def eX(xs:List α)(i:Nat):bI xs (i:Int)=xs[i]?:=by
 unfold bI;rw[if_pos (Int.natCast_nonneg i)];rfl
def Ax(h:i<n):jY n (i:Int)=some i:=by
 unfold jY;rw[if_pos (Int.natCast_nonneg i),if_pos ⋯];rfl
def mV(a:Nat):∀ n:Nat,cw (a:Int) n=L (List.range' a n)
 | 0=>rfl
 | n+1=>by
  rw[cw,List.range'_succ];have:=mV (a+1) n;rw[show((a+1:Nat):Int)=(a:Int)+1 by lia]at this;rw[this];rfl
def iZ{a b:Nat}(h1:a<=1000)(h2:b<=1000):bR (.int a) (.int b)=some (L (List.range' a (b-a))):=by
 dsimp only[bR]
 have:((b:Int)-a).toNat=b-a:=by lia
 rw[if_pos ⟨by unfold most;lia,by lia,by lia,by lia,by lia⟩,this,mV]
section
def gM(i:Int):evF cl eK [.int i]=some (.bl true):=rfl
def iz(h:∀ i:Int,cl f [.int i]=some (.bl true))(i:Int):evF cl (df f) [.int i]=some (.bl (decide (1<=i/\i<=10))):=by
 simp[evF,df,ao,cy,gZ,cx,lO,bU,IG,aX,evs,h,sA,bj,D.imm,aZ];by_cases h1:1<=i<;>simp[h1,bj,D.imm,aZ]
def pM(h:cl f [.int i]=some (.bl true)):evF cl (fP f) [.int i]=some .non:=by
 simp[evF,fP,ao,dm,xI,cx,qV,aX,evs,h,truth,aZ]
def uT(xs:List Nat)(hi:i<xs.length)(hj:j<xs.length):evF cl nZ [.lst (L xs),.int i,.int j]=some (.tup [.non,.lst (L ((xs.set i j).set j i))]):=by
 simp[evF,nZ,ao,ke,aX,evs,F0,jY,hi,hj,D.imm,aZ,cF,aS,BU]
def mD(xs:List D):evF cl gy [.lst xs]=some (.int (xs.length / 2)):=rfl
def se(xs:List D):evF cl gy [.tup xs]=some (.int (xs.length / 2)):=rfl
abbrev a9(n:Nat):List Nat:=List.range' n n++List.range' 0 n
def run_plain{f:Nat}{n:Nat}(hn:n<=10)(h:cl f [.int n]=some .non):evF cl (lP f) [.int n]=some (.tup (L (a9 n))):=by
 have e1:=iZ (a:=n) (b:=2*n) ⋯ ⋯;rw[show 2*n-n=n by lia,show((2*n:Nat):Int)=2*(n:Int) by lia]at e1;have e2:=iZ (a:=0) (b:=n) ⋯ ⋯;rw[Nat.sub_zero]at e2
 have e3:aF .mul (.int 2) (.int n)=some (.int (2*n)):=by
  rw[Bl];rw[if_pos ⋯]
 have e4:aF .add (.lst (L (List.range' n n))) (.lst (L (List.range' 0 n)))=some (.lst (L (a9 n))):=by
  rw[pd];rw[if_pos (by simp[aS,most];lia),a9,eg]
 simp only[Int.natCast_zero]at e2;simp[evF,lP,ao,BB,cy,jl,bT,bU,si,xZ,aX,cx,evs,h,e1,e2,e3,e4,FR,rq,items,bj,D.imm,aY,aZ]
def u6(h:∀ i:Int,cl f [.int i]=some (.bl true))(n i:Int):evF cl (iS f) [.int n,.int i]=some (.bl (decide (0<=i/\i<=n-2))):=by
 simp[evF,iS,ao,cy,gZ,bT,cx,lO,bU,aX,evs,h,sA,gr];by_cases h1:0<=i<;>simp[h1,bj,D.imm,aZ]
abbrev at'(f:List Nat)(x:Nat):Nat:=(f[x]?).getD x
abbrev a4(f:List Nat)(l:Nat):List Nat:=if at' f l=l+1 then f else(((f.set (at' f l) (at' f (l+1))).set (at' f (l+1)) (at' f l)).set l (l+1)).set (l+1) l
abbrev bu(f:List Nat)(l:Nat):Nat:=if at' f l=l+1 then 1 else 0
structure Frm(n:Nat)(f:List Nat):Prop where
 len:f.length=2*n
 lt:∀ x,x<2*n->at' f x<2*n
 inv:∀ x,at' f (at' f x)=x
 no:∀ x,x<2*n->at' f x≠x
def fk(h:x<f.length):f[x]?=some (at' f x):=by simp[at',h]
def cY(h:i<f.length):at' (f.set i j) x=if x=i then j else at' f x:=by
 unfold at';rw[List.getElem?_set];by_cases e:i=x
 ·subst e;simp[h]
 ·simp[e,Ne.symm e]
def bq(F:Frm n f)(hl:l+1<2*n):at' (a4 f l)=M.hg l (l+1) (at' f):=by
 funext x;unfold a4 M.hg;have a1:=F.lt l ⋯;have a2:=F.lt (l+1) hl;have hlen:=F.len;by_cases e:at' f l=l+1
 ·rw[if_pos e,if_pos e]
 ·rw[if_neg e,if_neg e,cY (by simp;lia),cY (by simp;lia),cY (by simp;lia),cY ⋯]
def fX:(a4 f l).length=f.length:=by
 unfold a4;split
 ·rfl
 ·simp
def bF(F:Frm n f)(hl:l+1<2*n):Frm n (a4 f l):=by
 have n1:=F.no l ⋯;have n2:=F.no (l+1) hl;refine#[by rw[fX];exact F.len,fun x hx=>?_,fun x=>?_,fun x hx=>?_]
 ·rw[bq F hl];unfold M.hg;have a1:=F.lt l ⋯;have a2:=F.lt (l+1) hl;have a3:=F.lt x hx
  repeat' split
  all_goals lia
 ·rw[bq F hl];exact M.iO ⋯ F.inv n1 n2 x
 ·rw[bq F hl];exact M.Bj ⋯ F.inv n1 n2 (F.no x hx)
def nR(F:f.length=2*n)(G:g.length=2*n)(h:at' f=at' g):f=g:=by
 apply List.ext_getElem?;intro i;by_cases hi:i<2*n
 ·rw[fk ⋯,fk ⋯,h]
 ·rw[List.getElem?_eq_none ⋯,List.getElem?_eq_none ⋯]
def qA(F:Frm n f)(hi:i+1<n)(hp:∀ xs:List D,cl QA [.lst xs]=some (.int (xs.length / 2)))
 (ht:∀ (xs:List Nat) (i j:Nat),i<xs.length->j<xs.length->cl Qg [.lst (L xs),.int i,.int j]=some (.tup [.non,.lst (L ((xs.set i j).set j i))])) :
  evF cl (eJ Qg QA) [.lst (L f),.int i]=some (.tup [.int (bu f (n+i)),.lst (L (a4 f (n+i)))]):=by
 have hlen:=F.len
 have h2:((2*n:Nat):Int) / 2=n:=by lia
 have g1:((L f).length:Int) / 2=n:=by rw[aS,hlen];exact h2
 have hl:n+i+1<2*n:=by lia
 have k1:f[n+i]?=some (at' f (n+i)):=fk ⋯;have k2:f[n+i+1]?=some (at' f (n+i+1)):=fk ⋯
 have p1:∀ k:Nat,bI (L f) ((n:Int)+(k:Int))=(f[n+k]?).map fun(i:Nat)=>.int (i:Int):=fun k=>by
  have:=eX (L f) (n+k);rw[show((n+k:Nat):Int)=(n:Int)+(k:Int) by lia]at this;rw[this,om]
 have p2:=p1 (i+1);rw[show(n:Int)+((i+1:Nat):Int)=(n:Int)+(i:Int)+1 by lia,show n+(i+1)=n+i+1 by lia]at p2;have a1:=F.lt (n+i) ⋯;have a2:=F.lt (n+i+1) hl;have t1:=ht f (at' f (n+i)) (at' f (n+i+1)) ⋯ ⋯;have t2:=ht ((f.set (at' f (n+i)) (at' f (n+i+1))).set (at' f (n+i+1)) (at' f (n+i))) (n+i) (n+i+1) (by simp;lia) (by simp;lia);rw[show((n+i:Nat):Int)=(n:Int)+(i:Int) by lia,show((n+i+1:Nat):Int)=(n:Int)+(i:Int)+1 by lia]at t2;by_cases e:at' f (n+i)=n+i+1
 ·have e':((at' f (n+i):Nat):Int)=(n:Int)+(i:Int)+1:=by lia
  simp[evF,eJ,ao,di,dm,sv,cy,bT,dP,bU,iw,aX,cx,evs,hp,g1,bS,aK,D.imm,Bk,p1,p2,k1,k2,fF,truth,e',bj,aZ,cF,bu,a4,e]
 ·have e':¬ ((at' f (n+i):Nat):Int)=(n:Int)+(i:Int)+1:=by lia
  simp[evF,eJ,ao,di,dm,sv,cy,bT,dP,bU,iw,aX,cx,evs,hp,g1,bS,aK,D.imm,Bk,p1,p2,k1,k2,fF,truth,e',bj,aZ,cF,bu,a4,e,dX,isVar,t1,t2,xr,xc]
end
end RM
namespace RL
section
def aN:ao cl M .nil Y=some (.nx,Y):=by rw[ao]
def cU(h:evS cl M s Y=some (.nx,Zz))(k:ao cl M r Zz=res):ao cl M %[s|r] Y=res:=by
 rw[ao,h];exact k
def qJ(h:evS cl M s Y=some (.rt d,Zz)):ao cl M %[s|r] Y=some (.rt d,Zz):=by
 rw[ao,h];rfl
def aJ(h:ev cl Y e=some d)(ok:aK M e d=true)(k:ao cl M r (Y.set i (some d))=res):ao cl M %[.asg i e|r] Y=res :=
 cU (by rw[di,h];show(if aK M e d=true then _ else _)=_;rw[if_pos ok]) k
def d8(h:ev cl Y e=some d)(ok:(aB d&&aC e)=true)(k:ao cl M r (Y.set i (some d))=res):ao cl M %[.own i e|r] Y=res :=
 cU (by rw[lF,h];show(if(aB d&&aC e)=true then _ else _)=_;rw[if_pos ok]) k
def rQ(h:ev cl Y e=some d)(k:ao cl M r Y=res):ao cl M %[.exc e|r] Y=res :=
 cU (by rw[BB,h];rfl) k
def aL(h:ev cl Y e=some d)(ok:bj M e d=true):ao cl M %[.ret e|r] Y=some (.rt d,Y) :=
 qJ (by rw[cy,h];show(if bj M e d=true then _ else _)=_;rw[if_pos ok])
def j8(h:(ev cl Y t).bind truth=some true)(h1:ao cl M a Y=some (.nx,Zz))(k:ao cl M r Zz=res):ao cl M %[.ife t a b|r] Y=res :=
 cU (by rw[dm,h];exact h1) k
def cC(h:(ev cl Y t).bind truth=some true)(h1:ao cl M a Y=some (.rt d,Zz)):ao cl M %[.ife t a b|r] Y=some (.rt d,Zz) :=
 qJ (by rw[dm,h];exact h1)
def oH(h:(ev cl Y t).bind truth=some false)(h1:ao cl M b Y=some (.nx,Zz))(k:ao cl M r Zz=res):ao cl M %[.ife t a b|r] Y=res :=
 cU (by rw[dm,h];exact h1) k
def lM(h:(ev cl Y t).bind truth=some false)(h1:ao cl M b Y=some (.rt d,Zz)):ao cl M %[.ife t a b|r] Y=some (.rt d,Zz) :=
 qJ (by rw[dm,h];exact h1)
def bc(h:(ev cl Y t).bind truth=some false)(k:ao cl M r Y=res):ao cl M %[.ife t a .nil|r] Y=res:=oH h aN k
def jK(h:ev cl Y e=some d)(hd:items d=some ds)(im:aw ds=true)(hs:bA is ds Y=some Zz)(k:ao cl M r Zz=res):ao cl M %[.unp is e|r] Y=res :=
 cU (by rw[Iz,h,Option.bind_some,hd];show(if aw ds=true then _ else _)=_;rw[if_pos im,hs];rfl) k
def kU(h:ev cl Y e=some x)(h':ev cl Y e'=some y)(im:(x.imm&&y.imm)=true)(k:ao cl M r ((Y.set i (some x)).set j (some y))=res):ao cl M %[.par i j e e'|r] Y=res :=
 cU (by rw[IC,h,Option.bind_some,h'];show(if(x.imm&&y.imm)=true then _ else _)=_;rw[if_pos im]) k
def lr(h:ev cl Y e=some d)(hi:(Y[i]?).bind id=some (.lst xs))(im:d.imm=true)(hl:xs.length<most)(k:ao cl M r (Y.set i (some (.lst (xs++[d]))))=res):ao cl M %[.app i e|r] Y=res :=
 cU (by rw[lU,h,Option.bind_some,hi];show(if(d.imm&&decide (xs.length<most))=true then _ else _)=_;rw[if_pos (by rw[im,decide_eq_true hl];rfl)]) k
def rB(h:ev cl Y e'=some x)(h':ev cl Y e=some kk)(hi:(Y[i]?).bind id=some l)(im:x.imm=true)(hp:cI l kk x=some l')(k:ao cl M r (Y.set i (some l'))=res):ao cl M %[.put i e e'|r] Y=res :=
 cU (by rw[ke,h,Option.bind_some,h',Option.bind_some,hi,Option.bind_some,if_pos im,hp];rfl) k
def bY(h:b9 cl Y it=some ds)(h1:aP (ao cl M b) tg ds Y=some (.nx,Zz))(k:ao cl M r Zz=res):ao cl M %[.forr tg it b|r] Y=res :=
 cU (by rw[fE,h];exact h1) k
def my(h:b9 cl Y it=some ds)(h1:aP (ao cl M b) tg ds Y=some (.rt d,Zz)):ao cl M %[.forr tg it b|r] Y=some (.rt d,Zz) :=
 qJ (by rw[fE,h];exact h1)
def xK(h1:whF (fun Y=>(ev cl Y t).bind truth) (ao cl M b) most Y=some (.nx,Zz))(k:ao cl M r Zz=res):ao cl M (.cons (.whil t b) r) Y=res :=
 cU (by rw[Et];exact h1) k
def dE(h:evs cl Y es=some ds)(ok:dX M ps 0 es ds=true)(hc:cl f ds=some (.tup (d::outs)))(hs:bA ms outs Y=some Zz)(k:ao cl M r Zz=res):ao cl M %[.mexc f es ps ms|r] Y=res :=
 cU (by rw[sv,h,Option.bind_some,if_pos ok,hc,Option.bind_some];show Option.map _ (bA ms outs Y)=_;rw[hs];rfl) k
def aa(h:(Y[i]?).bind id=some d):ev cl Y (.var i)=some d:=by rw[aX];exact h
def aj:ev cl Y (.cst d)=some d:=by rw[bU]
def x_call(h:evs cl Y es=some ds)(hc:cl f ds=some d):ev cl Y (.call f es)=some d:=by rw[cx,h];exact hc
def aA:evs cl Y .nil=some []:=by rw[evs]
def ah(h:ev cl Y e=some d)(hr:evs cl Y es=some ds):evs cl Y %[e|es]=some (d::ds):=by rw[evs,h,Option.bind_some,hr];rfl
def gI(h:ev cl Y e=some d)(hc:cl f [d]=some x):ev cl Y (.call f %[e|.nil])=some x:=x_call (ah h aA) hc
def cZ(h:ev cl Y e=some d)(h':ev cl Y e'=some d')(hc:cl f [d,d']=some x):ev cl Y (.call f %[e,e'|.nil])=some x:=x_call (ah h (ah h' aA)) hc
def k7(h:ev cl Y e=some d)(h':ev cl Y e'=some d')(h'':ev cl Y e''=some d'')(hc:cl f [d,d',d'']=some x):ev cl Y (.call f %[e,e',e''|.nil])=some x:=x_call (ah h (ah h' (ah h'' aA))) hc
def az(h:ev cl Y e=some x)(h':ev cl Y e'=some y)(hb:aF o x y=some d):ev cl Y (.bin o e e')=some d:=by rw[bT,h,Option.bind_some,h'];exact hb
def aH(h:ev cl Y e=some x)(h':ev cl Y e'=some y)(hb:ba o x y=some k):ev cl Y (.cmp o e e')=some (.bl k):=by rw[dP,h,Option.bind_some,h',Option.bind_some,hb];rfl
def aI(h:ev cl Y e=some x)(h':ev cl Y e'=some y)(hb:ixV x y=some d):ev cl Y (.ix e e')=some d:=by rw[iw,h,Option.bind_some,h'];exact hb
def bJ(h:ev cl Y e=some x)(hb:biV o x=some d):ev cl Y (.bi o e)=some d:=by rw[jl,h];exact hb
def k8(h:ev cl Y e=some x)(h':ev cl Y e'=some y)(hb:ij x y=some d):ev cl Y (.slT e e')=some d:=by rw[BE,h,Option.bind_some,h'];exact hb
def qX(h:ev cl Y e=some x)(h':ev cl Y e'=some y)(hb:i6 x y=some d):ev cl Y (.slF e e')=some d:=by rw[Iq,h,Option.bind_some,h'];exact hb
def wq(h:ev cl Y e=some (.lst xs)):ev cl Y (.rev e)=some (.lst xs.reverse):=by rw[Ja,h];rfl
def gY(h:ev cl Y e=some x)(h':ev cl Y e'=some y)(hb:ka x y=some d):ev cl Y (.ixD e e')=some d:=by rw[wL,h,Option.bind_some,h'];exact hb
def wI(h:ev cl Y e=some x)(h':ev cl Y e'=some y)(hb:inV x y=some k):ev cl Y (.inn n e e')=some (.bl (if n then !k else k)):=by rw[ID,h,Option.bind_some,h',Option.bind_some,hb];rfl
def Bv(h:ev cl Y e=some x)(h':ev cl Y e'=some y)(hb:kc y x=some k):ev cl Y (.inD n e e')=some (.bl (if n then !k else k)):=by rw[qN,h,Option.bind_some,h',Option.bind_some,hb];rfl
def cb{t:Ty}(h:ev cl Y e=some x)(hb:gf t x=some k):ev cl Y (.isi e t)=some (.bl k):=by rw[IU,h,Option.bind_some,hb];rfl
def lB(h:ev cl Y e=some x)(h':ev cl Y e'=some y)(h'':ev cl Y e''=some z)(b1:ba c x y=some true)(b2:ba c' y z=some k):ev cl Y (.chain c c' e e' e'')=some (.bl k):=by rw[lO,h,Option.bind_some,h',Option.bind_some,b1,Option.bind_some,if_pos rfl,h'',Option.bind_some,b2];rfl
def zC(h:ev cl Y e=some x)(h':ev cl Y e'=some y)(b1:ba c x y=some false):ev cl Y (.chain c c' e e' e'')=some (.bl false):=by rw[lO,h,Option.bind_some,h',Option.bind_some,b1];rfl
def DU(h:ev cl Y e=some x)(hr:bR (.int 0) x=some ds):ev cl Y (.rng1 e)=some (.lst ds):=by rw[si,h,Option.bind_some,hr];rfl
def pC(h:ev cl Y e=some x)(h':ev cl Y e'=some y)(hr:bR x y=some ds):ev cl Y (.rng2 e e')=some (.lst ds):=by rw[xZ,h,Option.bind_some,h',Option.bind_some,hr];rfl
def dR(h:evs cl Y es=some ds):ev cl Y (.lst es)=some (.lst ds):=by rw[fD,h];rfl
def b8(h:evs cl Y es=some ds):ev cl Y (.tup es)=some (.tup ds):=by rw[lV,h];rfl
def bO(h:ev cl Y e=some (.bl true))(h':ev cl Y e'=some d):ev cl Y (.and e e')=some d:=by rw[gZ,h];exact h'
def et(h:ev cl Y e=some (.bl false)):ev cl Y (.and e e')=some (.bl false):=by rw[gZ,h];rfl
def wK(h:ev cl Y e=some (.bl false))(h':ev cl Y e'=some d):ev cl Y (.or e e')=some d:=by rw[zQ,h];exact h'
def xt(h:(ev cl Y e).bind truth=some k):ev cl Y (.not e)=some (.bl (!k)):=by rw[qV,h];rfl
def de(h:ev cl Y e=some (.bl k)):ev cl Y (.not e)=some (.bl (!k)):=xt (by rw[h];rfl)
def bb(h:ev cl Y e=some (.bl k)):(ev cl Y e).bind truth=some k:=by rw[h];rfl
def gg(h:b9 cl Y it=some ds)(hf:ds.length<=most)(hm:cq (fun ZA=>(ev cl ZA e).map some) tg Y ds=some ys):ev cl Y (.compA e tg it)=some (.lst ys):=by
 rw[pE,h,Option.bind_some,fits,if_pos hf,Option.bind_some,hm];rfl
def sQ(h:b9 cl Y it=some ds)(hf:ds.length<=most)(hm:cq (fun ZA=>((ev cl ZA t).bind truth).bind fun k=>if k then(ev cl ZA e).map some else some none) tg Y ds=some ys):ev cl Y (.comp e tg it t)=some (.lst ys):=by
 rw[uo,h,Option.bind_some,fits,if_pos hf,Option.bind_some,hm];rfl
def nS(h:ev cl Y e=some x)(hr:bR (.int 0) x=some ds):b9 cl Y (.rng1 e)=some ds:=by rw[b9,h];exact hr
def F8(h:ev cl Y e=some x)(h':ev cl Y e'=some y)(hr:bR x y=some ds):b9 cl Y (.rng2 e e')=some ds:=by rw[b9,h,Option.bind_some,h'];exact hr
def yx(h:ev cl Y e=some x)(h':ev cl Y e'=some y)(hr:cV c x y=some ds):b9 cl Y (.rng3 c e e')=some ds:=by rw[b9,h,Option.bind_some,h'];exact hr
def oF(h:ev cl Y e=some x)(hr:lu x=some ds):b9 cl Y (.seq e)=some ds:=by rw[b9,h];exact hr
def dM(h:ev cl Y e=some x)(hr:items x=some ds):b9 cl Y (.seq e)=some ds:=oF h (by
 cases x with
 | lst _=>exact hr
 | tup _=>exact hr
 | fL _=>exact hr
 | _=>cases hr)
def B5(h:ev cl Y e=some x)(h':ev cl Y e'=some y)(hx:items x=some xs)(hy:items y=some ys)(hl:xs.length=ys.length):b9 cl Y (.zip e e')=some (eO xs ys):=by rw[b9,h,Option.bind_some,h',Option.bind_some,hx,Option.bind_some,hy,Option.bind_some,if_pos hl]
def lC(hk:(match x with | .non=>some (D.bl (!n)) | .dK _ _=>none | .dT _ _=>none | .fT _ _=>none | _=>some (.bl n))=some (D.bl k))(h:ev cl Y e=some x):ev cl Y (.isN n e)=some (.bl k):=by rw[IW,h];exact hk
def nK(h:ev cl Y e=some x)(hr:jN x=some ds):b9 cl Y (.enm e)=some (cM 0 ds):=by rw[b9,h,Option.bind_some,hr];rfl
end
def jI:aP f tg [] Y=some (.nx,Y):=rfl
def eE(im:d.imm=true)(hb:bf tg d Y=some ZA)(h:f ZA=some (.nx,ZC))(k:aP f tg r ZC=res):aP f tg (d::r) Y=res:=by
 rw[aP,if_pos im,hb,Option.bind_some,h];exact k
def aU(hl:ds.length=fn.ps)(hm:fn.mp=[])(h:ao cl fn.M fn.body (ds.map some++List.replicate (fn.nn-fn.ps) none)=some (.rt d,Zz)):evF cl fn ds=some d:=by
 unfold evF;rw[if_pos hl,h];show aZ fn d Zz=_;unfold aZ;rw[hm];rfl
def Hv(hl:ds.length=fn.ps)(hm:fn.mp=[])(h:ao cl fn.M fn.body (ds.map some++List.replicate (fn.nn-fn.ps) none)=some (.nx,Zz)):evF cl fn ds=some .non:=by
 unfold evF;rw[if_pos hl,h];show aZ fn .non Zz=_;unfold aZ;rw[hm];rfl
end RL
set_option maxHeartbeats 1000000
namespace RL
open PySem (Str)
section
end
end RL
namespace RT
open RL
end RT
namespace RM
open RL RT
section
abbrev hangs(n:Nat):List Nat->List Nat × Nat->List Nat × Nat
 | [],s=>s
 | i::row,s=>hangs n row (a4 s.1 (n+i),s.2+bu s.1 (n+i))
def da(n:Nat):∀ (a b:List Nat) (s:List Nat × Nat),hangs n (a++b) s=hangs n b (hangs n a s)
 | [],_,_=>rfl
 | i::a,b,s=>by
  rw[List.cons_append,hangs,hangs,da n a b]
def dA(n:Nat):∀ (row:List Nat) (f:List Nat) (r:Nat),hangs n row (f,r)=((hangs n row (f,0)).1,r+(hangs n row (f,0)).2)
 | [],_,_=>rfl
 | i::row,f,r=>by
  rw[hangs,hangs,dA n row _ (r+_),dA n row _ (0+_)];simp only[Nat.zero_add,Nat.add_assoc]
def iW:∀ {row:List Nat} {s:List Nat × Nat},(∀ i∈row,i+1<n)->Frm n s.1->Frm n (hangs n row s).1
 | [],_,_,F=>F
 | i::row,s,h,F=>by
  rw[hangs];have:=h i Zc;exact iW (fun j hj=>h j (Q4 _ hj)) (bF F ⋯)
def plain_at(n x:Nat):at' (a9 n) x=if x<n then n+x else if x<2*n then x-n else x:=by
 unfold at' a9;by_cases h1:x<n
 ·rw[Zn (by simpa using h1),if_pos h1];simp[h1]
 ·rw[Zh (by simpa using h1),if_neg h1];by_cases h2:x<2*n
  ·rw[if_pos h2];simp[show x-n<n by lia]
  ·rw[if_neg h2];simp[show ¬ x-n<n by lia]
def cO(n:Nat):Frm n (a9 n):=by
 refine#[by simp[a9];lia,fun x hx=>?_,fun x=>?_,fun x hx=>?_]
 ·rw[plain_at];repeat' split
  all_goals lia
 ·rw[plain_at,plain_at];repeat' split
  all_goals lia
 ·rw[plain_at];repeat' split
  all_goals lia
end
abbrev LI(xs:List Int):List D:=xs.map D.int
def zx(xs:List Int):(LI xs).length=xs.length:=by simp[LI]
def xA:∀ xs:List Int,aw (LI xs)=true
 | []=>rfl
 | x::xs=>by
  show((D.int x).imm&&aw (LI xs))=true;rw[xA xs];rfl
section
def mod_lt{a b:Int}(h:0<b):0<=a%b/\a%b<b:=#[Int.emod_nonneg _ ⋯,Int.emod_lt_of_pos _ h]
def Ci(s:Int):∃ m:Int,evF cl kP [.int s]=some (.int m):=by
 have a1:=mod_lt (a:=s*48271+11) (b:=2147483647) ∅;generalize h1:(s*48271+11)%2147483647=one at a1;have a2:=mod_lt (a:=one*one+40692*one+s) (b:=2147483399) ∅;generalize h2:(one*one+40692*one+s)%2147483399=two at a2
 exact⟨_,aU rfl rfl (aJ (d:=.int one) (az (az (az (aa rfl) aj (xH ∅ ∅)) aj bS) aj (by rw[dN ∅,h1])) rfl
  (aJ (d:=.int two) (az (az (az (az (aa rfl) (aa rfl) (cP ⋯ ⋯)) (az aj (aa rfl) (cP ∅ ∅)) bS) (aa rfl) bS) aj (by rw[dN ∅,h2])) rfl
  (aL (az (az (az (az (aa rfl) (aa rfl) (cP (by omega) (by omega))) (az aj (aa rfl) (cP ∅ ∅)) bS) (aa rfl) bS) aj (dN ∅)) rfl)))⟩
def CK{f:Nat}(h:∀ s:Int,∃ m:Int,cl f [.int s]=some (.int m)){ns:List Int}(hl:ns.length<=63){k:Nat}(hk:k<=1000):∃ r:Int,evF cl (l6 f) [.lst (LI ns),.int k]=some (.int r):=by
 have pw:aF .pow (.int 10) (.int 18)=some (.int 1000000000000000000):=rfl
 have rest:∀ c:Int,∃ r Zz,ao cl [] %[.asg 3 0#1,.forr [4] (.rng1 40#1) (kj f),.ret 3#0|.nil] [some (.lst (LI ns)),some (.int k),some (.int c),none,none]=some (.rt (.int r),Zz):=by
  intro c;have hr:bR (.int 0) (.int 40)=some (L (List.range' 0 40)):=congrArg some (mV 0 40)
  obtain⟨Zz,e,r,o,rfl⟩:=cX (f:=ao cl [] (kj f)) (tg:=[4]) (xs:=List.range' 0 40) (Y:=[some (.lst (LI ns)),some (.int k),some (.int c),some (.int 0),none])
   (fun p Y=>∃ (r:Int) (o:Option D),Y=[some (.lst (LI ns)),some (.int k),some (.int c),some (.int r),o]) ⟨0,none,rfl⟩ (by
    rintro p x q Y hx ⟨r,o,rfl⟩;obtain⟨m,hm⟩:=h (c+1009*k+7919*x)
    exact#[_,aJ (az (az (aa rfl) aj (xH ∅ ∅)) (gI (az (az (aa rfl) (az aj (aa rfl) (cP ∅ ∅)) bS) (az aj (aa rfl) (cP ∅ ∅)) bS) hm) bS) rfl aN,_,_,rfl])
  exact#[r,_,aJ aj rfl (bY (nS aj hr) e (aL (aa rfl) rfl))]
 have len:biV .len (.lst (LI ns))=some (.int ns.length):=congrArg (fun n:Nat=>some (D.int n)) (zx ns)
 have first:ev cl [some (.lst (LI ns)),some (.int k),none,none,none] (.bin .add (.bin .mul 7#1 1#0) 3#1)=some (.int (7*k+3)):=az (az aj (aa rfl) (cP ∅ ∅)) aj bS
 by_cases h0:0<ns.length
 ·have hmod:=mod_lt (a:=(k:Int)) (b:=(ns.length:Int)) ⋯;obtain⟨j,hj⟩:=Zg hmod.1
  have hjl:j<ns.length:=by lia
  have ix:ixV (.lst (LI ns)) (.int ((k:Int)%ns.length))=some (.int ns[j]):=by
   show bI (LI ns) _=_;rw[hj,eX];simp[LI,hjl]
  obtain⟨r,Zz,hr⟩:=rest (ns[j]+9973*((k:Int) / ns.length));generalize hc:ns[j]+9973*((k:Int) / ns.length)=cell at hr
  have cel:∀ {r':Ss} {res:Option (Out × St)},ao cl [] r' [some (.lst (LI ns)),some (.int k),some (.int cell),none,none]=res->ao cl [] (.cons (.asg 2 (.bin .add (.bin .mul 7#1 1#0) 3#1)) (.cons (.ife (.cmp .gt (.bi .len 0#0) 0#1) (.cons (.asg 2 (.bin .add (.ix 0#0 (.bin .mod 1#0 (.bi .len 0#0))) (.bin .mul 9973#1 (.bin .fdiv 1#0 (.bi .len 0#0))))) .nil) .nil) r')) [some (.lst (LI ns)),some (.int k),none,none,none]=res:=fun z =>
   aJ first rfl (j8 (bb (aH (bJ (aa rfl) len) aj (by rw[tR,decide_eq_true ⋯]))) (aJ (d:=.int cell) (az (aI (aa rfl) (az (aa rfl) (bJ (aa rfl) len) (dN ⋯)) ix) (az aj (az (aa rfl) (bJ (aa rfl) len) (qR ⋯ ⋯)) (cP ∅ ∅)) (by rw[bS,hc])) rfl aN) z)
  by_cases h1:k<ns.length
  ·have c1:ba .lt (.int (k:Nat)) (.int (ns.length:Nat))=some true:=by rw[iN,decide_eq_true ⋯]
   by_cases h2:(1000000000000000000:Int)<=cell
   ·exact#[_,aU rfl rfl (cel (cC (bb (bO (aH (aa rfl) (bJ (aa rfl) len) c1) (aH (aa rfl) (az aj aj pw) (by rw[AS,decide_eq_true h2])))) (aL (az (aa rfl) (az aj aj pw) gr) rfl)))]
   ·exact#[r,aU rfl rfl (cel (bc (bb (bO (aH (aa rfl) (bJ (aa rfl) len) c1) (aH (aa rfl) (az aj aj pw) (by rw[AS,Q1 h2])))) hr))]
  ·exact#[r,aU rfl rfl (cel (bc (bb (et (aH (aa rfl) (bJ (aa rfl) len) (by rw[iN,Q1 ⋯])))) hr))]
 ·obtain⟨r,Zz,hr⟩:=rest (7*k+3);exact#[r,aU rfl rfl (aJ first rfl (bc (bb (aH (bJ (aa rfl) len) aj (by rw[tR,Q1 ⋯]))) (bc (bb (et (aH (aa rfl) (bJ (aa rfl) len) (by rw[iN,Q1 ⋯])))) hr)))]
end
section
abbrev ju(ds sizes:List Nat):Prop:=ds.length=sizes.length/\∀ (i d s:Nat),ds[i]?=some d->sizes[i]?=some s->d<s
def ju.snoc(h:ju ds sizes)(hd:d<s):ju (ds++[d]) (sizes++[s]):=by
 refine#[by simp[h.1],fun i x y h1 h2=>?_];by_cases hi:i<ds.length
 ·rw[Zn hi]at h1;rw[Zn (by rw[<-h.1];exact hi)]at h2;exact h.2 i x y h1 h2
 ·rw[Zh ⋯]at h1;rw[Zh (by rw[<-h.1];lia)]at h2;rw[h.1]at h1
  cases hk:i-sizes.length with
  | zero=>rw[hk]at h1 h2;simp at h1 h2;lia
  | succ k=>rw[hk]at h1;simp at h1
def xo(h:cl f [scr,.int k]=some (.int r))(hp:∀ s∈sizes,0<s/\s<2 ^ 200)(hlen:sizes.length<=1000):∃ ds:List Nat,ju ds sizes/\evF cl (fQ f) [scr,.int k,.lst (L sizes)]=some (.lst (L ds)):=by
 obtain⟨Zz,e,r',ds,o,hds,rfl⟩:=cX (f:=ao cl [4] (gG f)) (tg:=[5]) (xs:=sizes) (Y:=[some scr,some (.int k),some (.lst (L sizes)),some (.int r),some (.lst []),none])
  (fun p Y=>∃ (r:Int) (ds:List Nat) (o:Option D),ju ds p/\Y=[some scr,some (.int k),some (.lst (L sizes)),some (.int r),some (.lst (L ds)),o]) ⟨r,[],none,⟨rfl,by simp⟩,rfl⟩ (by
   rintro p x q Y hx ⟨r,ds,o,hds,rfl⟩;have hx0:=hp x (by rw[hx];simp)
   have hpl:p.length<1000:=by
    have:=congrArg List.length hx;simp at this;lia
   have hx1:(0:Int)<x:=by lia
   have hx2:(x:Int)<2 ^ 200:=by
    have:=hx0.2;lia
   obtain⟨d,hd⟩:=Zg (Int.emod_nonneg r (show(x:Int)≠0 by lia))
   have hdx:d<x:=by
    have:=Int.emod_lt_of_pos r hx1;lia
   refine#[[some scr,some (.int k),some (.lst (L sizes)),some (.int (r / x)),some (.lst (L (ds++[d]))),some (.int x)],?_,_,_,_,hds.snoc hdx,rfl]
   have hl:(L ds).length<most:=by
    rw[aS,hds.1];unfold most;lia
   simp[eW,gG,ao,lU,di,bT,aX,dN hx1,qR hx1 hx2,hd,D.imm,hl,aK,eg]
   rfl)
 refine#[ds,hds,?_];simp[evF,fQ,ao,di,fE,lF,cy,fD,aX,cx,evs,b9,items,h,aK,D.imm,aB,aw];simp[e,bj,aB,aY,aZ]
end
section
def mM(c:Nat):∀ (n a:Nat),bN (c:Int) (a:Int) n=L (List.range' a n c)
 | 0,a=>rfl
 | n+1,a=>by
  rw[bN,List.range'_succ];have:=mM c n (a+c);rw[show((a+c:Nat):Int)=(a:Int)+(c:Int) by lia]at this;rw[this];rfl
def ne_nil(hs:List Nat):ba .ne (.lst (L hs)) (.lst [])=some (!hs.isEmpty):=by
 cases hs with
 | nil=>rfl
 |cons h t=>
  show((eqs (eqD 7) (D.int h::L t) []).map fun k=>k&&(D.int h::L t).length == ([]:List D).length).map not=_;simp[eqs]
def Dn(h:hs≠[]):∃ m,m∈hs/\bI (L hs) (-1)=some (.int (m:Nat)):=by
 have hl:0<hs.length:=List.length_pos_iff.mpr h;refine#[hs[hs.length-1],List.getElem_mem _,?_];unfold bI;rw[if_neg ∅,if_pos (by rw[aS];lia),aS,show((-1:Int)+hs.length).toNat=hs.length-1 by lia,om,List.getElem?_eq_getElem (by omega)];rfl
def AH(x:Nat):∃ v:Int,(v=1\/v=-1\/v=0)/\bI [D.int 1,D.int (-1),D.int 0] ((x:Int)%7%3)=some (.int v):=by
 have h:x%7%3=0\/x%7%3=1\/x%7%3=2:=by lia
 have e:(x:Int)%7%3=((x%7%3:Nat):Int):=by lia
 rw[e,eX];rcases h with h | h | h
 ·exact#[1,.inl rfl,by rw[h];rfl]
 ·exact#[-1,.inr (.inl rfl),by rw[h];rfl]
 ·exact#[0,.inr (.inr rfl),by rw[h];rfl]
def vV(hn:2<=n)(hh:∀ h∈hs,h+1<n)(hl:hs.length<10000):∃ m:Nat,m+1<n /\
  (bf [7] (.int (x:Nat)) [some scr,some (.int k),some (.int n),some (.int size),some (.lst (L hs)),some (.int start),some (.lst (L steps)),o7,o8]).bind (ao cl [4] (cJ f)) =
   some (.nx,[some scr,some (.int k),some (.int n),some (.int size),some (.lst (L (hs++[m]))),some (.int start),some (.lst (L steps)),some (.int x),some (.int m)]):=by
 have hlen:(L hs).length<most:=by rw[aS];unfold most;lia
 have c1:¬ (n:Int)<2:=by lia
 have pos1:(0:Int)<(n:Int)-1:=by lia
 have ap:∀ m:Nat,L hs++[D.int m]=L (hs++[m]):=fun m=>by rw[eg];rfl
 obtain⟨m0,hm0⟩:=Zg (Int.emod_nonneg (x:Int) (show(n:Int)-1≠0 by lia))
 have hm0':m0+1<n:=by
  have:=Int.emod_lt_of_pos (x:Int) pos1;lia
 by_cases hc:hs.isEmpty=false/\(x:Int)%3=1
 ·have hne:hs≠[]:=by
   intro z;subst z;cases hc.1
  obtain⟨m1,hm1,e1⟩:=Dn hne;obtain⟨v,hv,e2⟩:=AH x;have hm1':=hh m1 hm1
  have fin:∃ m:Nat,(if(if(m1:Int)+v > 0 then(m1:Int)+v else 0)<(n:Int)-2 then(if(m1:Int)+v > 0 then(m1:Int)+v else 0)else(n:Int)-2)=(m:Int)/\m+1<n:=by
   refine#[(if(if(m1:Int)+v > 0 then(m1:Int)+v else 0)<(n:Int)-2 then(if(m1:Int)+v > 0 then(m1:Int)+v else 0)else(n:Int)-2).toNat,?_,?_]<;>rcases hv with rfl | rfl | rfl<;>(repeat' split)<;>lia
  obtain⟨m,em,hm⟩:=fin;refine#[m,hm,?_];simp only[eW,Option.bind_some,cJ,ao,lU,di,dm,cy,gZ,bT,dP,bU,iw,fD,wM,xq,wj,aX,sv_andt,sv_andf,sv_max,sv_min,sv_neg,evs,List.set_cons_succ,List.set_cons_zero,List.getElem?_cons_succ,List.getElem?_cons_zero,id,iN,c1,decide_false,Option.map_some,zU,Bool.false_eq_true,if_false,gr,dN pos1,hm0,aK,D.imm,Bool.true_or,if_true,ne_nil,hc.1,Bool.not_false,dN (show(0:Int)<3 by decide),dN (show(0:Int)<7 by decide),hc.2,fF,beq_self_eq_true,Bk,e1,e2,bS,em,Bool.and_eq_true,decide_eq_true_eq,true_and,hlen,ap]
 ·refine#[m0,hm0',?_];by_cases h1:hs.isEmpty=false
  ·have h2:((x:Int)%3 == 1)=false:=by
    have:¬ (x:Int)%3=1:=fun z=>hc ⟨h1,z⟩;simpa using this
   simp only[eW,Option.bind_some,cJ,ao,lU,di,dm,cy,gZ,bT,dP,bU,iw,fD,wM,xq,wj,aX,sv_andt,sv_andf,sv_max,sv_min,sv_neg,evs,List.set_cons_succ,List.set_cons_zero,List.getElem?_cons_succ,List.getElem?_cons_zero,id,iN,c1,decide_false,Option.map_some,zU,Bool.false_eq_true,if_false,gr,dN pos1,hm0,aK,D.imm,Bool.true_or,if_true,ne_nil,h1,Bool.not_false,dN (show(0:Int)<3 by decide),fF,h2,Bool.and_eq_true,decide_eq_true_eq,true_and,hlen,ap]
  ·have h1':hs.isEmpty=true:=by
    cases hz:hs.isEmpty with
    | true=>rfl
    | false=>exact absurd hz h1
   simp only[eW,Option.bind_some,cJ,ao,lU,di,dm,cy,gZ,bT,dP,bU,iw,fD,wM,xq,wj,aX,sv_andt,sv_andf,sv_max,sv_min,sv_neg,evs,List.set_cons_succ,List.set_cons_zero,List.getElem?_cons_succ,List.getElem?_cons_zero,id,iN,c1,decide_false,Option.map_some,zU,Bool.false_eq_true,if_false,gr,dN pos1,hm0,aK,D.imm,Bool.true_or,if_true,ne_nil,h1',Bool.not_true,Bool.and_eq_true,decide_eq_true_eq,true_and,hlen,ap]
def tN(xs:List Nat)(n:Nat):(L xs).take n=L (xs.take n):=by simp[L]
end
section
def ff:bu f l=M.rg l (l+1) (at' f):=rfl
def wb(F:Frm n f)(hl:l+1<2*n):a4 (a4 f l) l=a4 f l/\bu (a4 f l) l=1:=by
 have e:at' (a4 f l) l=l+1:=by rw[bq F hl];exact M.eT ⋯
 exact#[by unfold a4;rw[if_pos (by unfold a4 at e;exact e)],by unfold bu;rw[if_pos e]]
def Dy(F:Frm n f)(hl:l+2<2*n):a4 (a4 (a4 f l) (l+1)) l=a4 f l/\bu (a4 f l) (l+1)=0/\bu (a4 (a4 f l) (l+1)) l=0:=by
 have F1:=bF F (l:=l) ⋯;have F2:=bF F1 (l:=l+1) ⋯;have F3:=bF F2 (l:=l) ⋯
 have e:at' (a4 f l) l=l+1:=by rw[bq F ⋯];exact M.eT ⋯
 obtain⟨h1,h2,h3⟩:=M.up1 (l:=l) (r:=l+1) (s:=l+1+1) (g:=at' (a4 f l)) ⋯ ⋯ ⋯ F1.inv e (F1.no _ ⋯);refine#[nR F3.len F1.len ?_,?_,?_]
 ·rw[bq F2 ⋯,bq F1 ⋯];exact h1
 ·rw[ff];exact h2
 ·rw[ff,bq F1 ⋯];exact h3
def D9(F:Frm n f)(hl:l+2<2*n):a4 (a4 (a4 f (l+1)) l) (l+1)=a4 f (l+1)/\bu (a4 f (l+1)) l=0/\bu (a4 (a4 f (l+1)) l) (l+1)=0:=by
 have F1:=bF F (l:=l+1) ⋯;have F2:=bF F1 (l:=l) ⋯;have F3:=bF F2 (l:=l+1) ⋯
 have e:at' (a4 f (l+1)) (l+1)=l+1+1:=by rw[bq F ⋯];exact M.eT ⋯
 obtain⟨h1,h2,h3⟩:=M.dn1 (l:=l+1) (r:=l+1+1) (s:=l) (g:=at' (a4 f (l+1))) ⋯ ⋯ ⋯ F1.inv e (F1.no _ ⋯);refine#[nR F3.len F1.len ?_,?_,?_]
 ·rw[bq F2 ⋯,bq F1 ⋯];exact h1
 ·rw[ff];exact h2
 ·rw[ff,bq F1 ⋯];exact h3
def rT(F:Frm n f)(hl:l+1<2*n)(hp:p+1<2*n)(hd:l+1<p\/p+1<l):a4 (a4 f p) l=a4 (a4 f l) p/\bu f p+bu (a4 f p) l=bu f l+bu (a4 f l) p:=by
 have F1:=bF F hl;have F2:=bF F hp;obtain⟨h1,h2⟩:=M.far (l:=l) (r:=l+1) (p:=p) (q:=p+1) (g:=at' f) ⋯ ⋯ ⋯ ⋯ ⋯ ⋯ F.inv (F.no _ ⋯) (F.no _ hl) (F.no _ ⋯) (F.no _ hp);refine#[nR (bF F2 hl).len (bF F1 hp).len ?_,?_]
 ·rw[bq F2 hl,bq F1 hp,bq F hl,bq F hp];exact h1
 ·rw[ff,ff,ff,ff,bq F hl,bq F hp];exact h2
end
abbrev aq(n:Nat)(row:List Nat):List Nat × Nat:=hangs n row (a9 n,0)
def nh(h:∀ f:List Nat,Frm n f->(hangs n mid (f,0)).1=(hangs n mid' (f,0)).1/\(hangs n mid (f,0)).2=(hangs n mid' (f,0)).2+k)(ha:∀ i∈a,i+1<n) :
  (aq n (a++mid++b)).1=(aq n (a++mid'++b)).1/\(aq n (a++mid++b)).2=(aq n (a++mid'++b)).2+k:=by
 unfold aq;have F:Frm n (hangs n a (a9 n,0)).1:=iW ha (cO n);obtain⟨h1,h2⟩:=h _ F;rw[da,da,da,da];rw[show hangs n mid (hangs n a (a9 n,0))=((hangs n mid ((hangs n a (a9 n,0)).1,0)).1,(hangs n a (a9 n,0)).2+(hangs n mid ((hangs n a (a9 n,0)).1,0)).2)from dA n mid _ _];rw[show hangs n mid' (hangs n a (a9 n,0))=((hangs n mid' ((hangs n a (a9 n,0)).1,0)).1,(hangs n a (a9 n,0)).2+(hangs n mid' ((hangs n a (a9 n,0)).1,0)).2)from dA n mid' _ _];rw[h1,h2,dA n b _ (_+(_+k)),dA n b _ (_+_)];exact#[rfl,by lia]
def uk(hi:i+1<n)(ha:∀ i∈a,i+1<n):(aq n (a++[i,i]++b)).1=(aq n (a++[i]++b)).1/\(aq n (a++[i,i]++b)).2=(aq n (a++[i]++b)).2+1:=by
 refine nh (fun f F=>?_) ha;obtain⟨h1,h2⟩:=wb F (l:=n+i) ⋯;simp only[hangs,h1,h2,Nat.zero_add];exact#[trivial,trivial]
def pS(hi:i+1<n)(hj:j+1<n)(hd:j=i+1\/i=j+1)(ha:∀ i∈a,i+1<n):aq n (a++[i,j,i]++b)=aq n (a++[i]++b):=by
 have:=nh (n:=n) (a:=a) (mid:=[i,j,i]) (mid':=[i]) (b:=b) (k:=0) (fun f F=>by
  rcases hd with rfl | rfl
  ·obtain⟨h1,h2,h3⟩:=Dy F (l:=n+i) ⋯;rw[show n+i+1=n+(i+1) by lia]at h1 h2 h3;simp[hangs,h1,h2,h3]
  ·obtain⟨h1,h2,h3⟩:=D9 F (l:=n+j) ⋯;rw[show n+j+1=n+(j+1) by lia]at h1 h2 h3
   simp[hangs,h1,h2,h3]) ha
 exact Prod.ext this.1 this.2
def Ex(hi:i+1<n)(hj:j+1<n)(hd:i+1<j\/j+1<i)(ha:∀ i∈a,i+1<n):aq n (a++[i,j]++b)=aq n (a++[j,i]++b):=by
 have:=nh (n:=n) (a:=a) (mid:=[i,j]) (mid':=[j,i]) (b:=b) (k:=0) (fun f F=>by
  obtain⟨h1,h2⟩:=rT F (l:=n+j) (p:=n+i) ⋯ ⋯ ⋯;simp only[hangs]
  exact#[h1,by lia]) ha
 exact Prod.ext this.1 this.2
def gq(h:(List.range k).map g=p++x::q):p.length<k/\x=g p.length:=by
 have l:((List.range k).map g).length=(p++x::q).length:=by rw[h]
 have e:((List.range k).map g)[p.length]?=(p++x::q)[p.length]?:=by rw[h]
 simp at l e;obtain⟨y,hy,e⟩:=e;refine#[by lia,?_];rw[List.getElem?_range ⋯]at hy;cases hy;exact e.symm
abbrev rd(n q:Nat):Nat:=if q<n then q else 3*n-1-q
def du(h:q<2*n):rd n q<2*n:=by unfold rd;split<;>omega
def eM(h:q<2*n):rd n (rd n q)=q:=by
 unfold rd;by_cases e:q<n
 ·rw[if_pos e,if_pos e]
 ·rw[if_neg e,if_neg (by omega)];lia
def yj(hp:p<2*n)(hq:q<2*n)(h:rd n p=rd n q):p=q:=by rw[<-eM hp,h,eM hq]
abbrev rnd(n:Nat)(f:List Nat)(q:Nat):Nat:=rd n (at' f (rd n q))
structure Val(n:Nat)(f:List Nat):Prop where
 frm:Frm n f
 nox:∀ q q',q<2*n->q'<2*n->¬ (q<q'/\q'<rnd n f q/\rnd n f q<rnd n f q')
abbrev pK(n:Nat):List Nat:=(List.range (2*n)).map (rd n)
def D7{n q:Nat}(h:q<2*n):ixV (.lst (L (pK n))) (.int (q:Int))=some (.int ((rd n q:Nat):Int)):=by
 show bI _ _=_;rw[eX,om];simp[pK,h]
def i5{f:List Nat}{i j:Nat}(h:i<f.length):cI (.lst (L f)) (.int (i:Int)) (.int (j:Int))=some (.lst (L (f.set i j))):=by
 rw[F0];rw[aS,Ax h];simp[BU]
def rR(im:∀ x,(g x).imm=true):∀ xs:List Nat,(∀ x∈xs,(bf tg (.int (x:Nat)) Y).bind F=some (some (g x)))->cq F tg Y (L xs)=some (xs.map g)
 | [],_=>rfl
 | x::r,h=>by
  have a:=h x (by simp);have b:=rR im r (fun y hy=>h y (by simp[hy]));rw[show L (x::r)=.int x::L r from rfl,cq]
  cases hb:bf tg (.int (x:Nat)) Y with
  | none=>rw[hb]at a;cases a
  |some ZA=>
   rw[hb]at a;simp only[Option.bind_some]at a ⊢;rw[a,b];simp[kC,im]
def sG(im:∀ x,(g x).imm=true):∀ xs:List Nat,(∀ x∈xs,(bf tg (.int (x:Nat)) Y).bind F=some (if c x then some (g x)else none))->cq F tg Y (L xs)=some ((xs.filter c).map g)
 | [],_=>rfl
 | x::r,h=>by
  have a:=h x (by simp);have b:=sG im r (fun y hy=>h y (by simp[hy]));rw[show L (x::r)=.int x::L r from rfl,cq]
  cases hb:bf tg (.int (x:Nat)) Y with
  | none=>rw[hb]at a;cases a
  |some ZA=>
   rw[hb]at a;simp only[Option.bind_some]at a ⊢;rw[a,b];cases hc:c x<;>simp[kC,im,hc]
def EJ(xs:List Nat)(g:Nat->Nat):(xs.map fun x=>D.int (g x:Nat))=L (xs.map g):=by simp[L]
def sL(h:xs.length<=1000):fits (L xs)=some (L xs):=by
 unfold fits;rw[if_pos (by rw[aS];unfold most;lia)]
def dk{n:Nat}(h:n<=1000):bR (.int 0) (.int n)=some (L (List.range n)):=by
 have e2:=iZ (a:=0) (b:=n) ⋯ h;rw[Nat.sub_zero,<-List.range_eq_range']at e2;exact e2
def pf{n:Nat}(hn:n<=100):evF cl dC [.int n]=some (.tup (L (a9 n))):=by
 have e2:=dk (n:=n) ⋯
 have e3:=rR (F:=fun ZA=>(ev cl ZA (.bin .add 0#0 1#0)).map some) (tg:=[1]) (Y:=[some (.int n),none]) (g:=fun x=>.int ((n+x:Nat):Int)) (fun _=>rfl) (List.range n) (by
  intro x _
  simp[eW,bT,aX,bS])
 rw[EJ]at e3
 have e4:aF .add (.lst (L ((List.range n).map fun x=>n+x))) (.lst (L (List.range n)))=some (.lst (L (a9 n))):=by
  rw[pd];rw[if_pos (by simp[aS,most];lia),a9,eg];congr 3
  ·rw[List.range'_eq_map_range]
  ·rw[List.range_eq_range']
 have e5:=sL (xs:=List.range n) (by simp;lia);simp only[evF,dC,ao,cy,jl,bT,pE,si,aX,b9,itemsS_lst,itemsS_tup];simp[e2,e5];simp[bT,aX]at e3;rw[e3];simp[e4,rq,items,bj,D.imm,aY,aZ]
def kI{n:Nat}(hn:n<=10):evF cl dC [.int n]=some (.tup (L (a9 n))):=pf ⋯
def pW(h:q<2*n):rnd n (a9 n) q=2*n-1-q:=by
 unfold rnd rd;by_cases c:q<n
 ·rw[if_pos c,plain_at,if_pos c,if_neg ⋯];lia
 ·have e:at' (a9 n) (3*n-1-q)=2*n-1-q:=by rw[plain_at,if_neg (by omega),if_pos (by omega)];lia
  rw[if_neg c,e,if_pos (by omega)]
def pX(n:Nat):Val n (a9 n):=by
 refine#[cO n,fun q q' h1 h2=>?_];rw[pW h1,pW h2];omega
abbrev aT(n i:Nat):List Nat:=a4 (a9 n) (n+i)
def uV(h:i+1<n):at' (aT n i) x=if x=n+i+1 then n+i else if x=n+i then n+i+1 else if x=i+1 then i else if x=i then i+1 else if x<n then n+x else if x<2*n then x-n else x:=by
 have F:=cO n;unfold aT a4
 have a1:at' (a9 n) (n+i)=i:=by rw[plain_at,if_neg ⋯,if_pos ⋯];lia
 have a2:at' (a9 n) (n+i+1)=i+1:=by rw[plain_at,if_neg ⋯,if_pos ⋯];lia
 have hl:=F.len;rw[a1,a2,if_neg ⋯,cY (by simp;lia),cY (by simp;lia),cY (by simp;lia),cY ⋯,plain_at]
set_option synthInstance.maxSize 10000 in
set_option synthInstance.maxHeartbeats 0 in
def zY:∀ n,n<11->∀ i,i<n->i+1<n->∀ q,q<2*n->∀ q',q'<2*n->¬ (q<q'/\q'<rnd n (aT n i) q/\rnd n (aT n i) q<rnd n (aT n i) q'):=by decide +kernel
def rY(hn:n<=10)(h:i+1<n):Val n (aT n i):=#[bF (cO n) ⋯,fun q q' h1 h2=>zY n ⋯ i ⋯ h q h1 q' h2]
def sX{fp:Nat}{n i:Nat}(hn:n<=10)(hi:i+1<n)(hp:cl fp [.int n]=some (.tup (L (a9 n)))):evF cl (gO fp) [.int n,.int i]=some (.tup (L (aT n i))):=by
 have hl:=(cO n).len
 have e:aT n i=((((a9 n).set i (i+1)).set (i+1) i).set (n+i) (n+i+1)).set (n+i+1) (n+i):=by
  unfold aT a4
  have a1:at' (a9 n) (n+i)=i:=by rw[plain_at,if_neg ⋯,if_pos ⋯];lia
  have a2:at' (a9 n) (n+i+1)=i+1:=by rw[plain_at,if_neg ⋯,if_pos ⋯];lia
  rw[a1,a2,if_neg ⋯]
 have p1:=i5 (f:=a9 n) (i:=i) (j:=i+1) ⋯;have p2:=i5 (f:=(a9 n).set i (i+1)) (i:=i+1) (j:=i) (by simp;lia);have p3:=i5 (f:=((a9 n).set i (i+1)).set (i+1) i) (i:=n+i) (j:=n+i+1) (by simp;lia);have p4:=i5 (f:=(((a9 n).set i (i+1)).set (i+1) i).set (n+i) (n+i+1)) (i:=n+i+1) (j:=n+i) (by simp;lia);rw[<-e]at p4;simp only[Int.natCast_add,Int.natCast_one]at p1 p2 p3 p4;simp[evF,gO,ao,fE,lF,ke,cy,jl,bT,bU,lV,aX,cx,evs,hp,FR,rq,items,aB,aY,b9,bS,aP,D.imm,eW,m8,p1,p2,p3,p4,bj,aZ]
def half{xs:List D}(h:xs.length=2*n):biV .len (.tup xs)=some (.int (2*n)):=by
 simp[BD,h]
def E6(n:Nat):aF .fdiv (.int (2*(n:Int))) (.int 2)=some (.int n):=by
 rw[qR ∅ ∅];congr 2;lia
def jF(h:x<f.length):ixV (.tup (L f)) (.int (x:Nat))=some (.int (at' f x:Nat)):=by
 show bI _ _=_;rw[eX,om,fk h];rfl
section dicts
variable [DecidableEq κ]
def tM:∀ {ks:List κ} {vs:List D} {x:κ} {d:D} {y:κ},ks.length=vs.length->x∉ks->aG (ks++[x]) (vs++[d]) y=if x=y then some d else aG ks vs y
 | [],[],x,d,y,_,_=>by simp[aG]
 | k::ks,v::vs,x,d,y,h,hn=>by
  simp at h hn;have:=tM (ks:=ks) (vs:=vs) (x:=x) (d:=d) (y:=y) h hn.2;simp only[List.cons_append,aG];by_cases e:k=y
  ·rw[if_pos e,if_pos e,if_neg (fun c=>hn.1 (c.trans e.symm))]
  ·rw[if_neg e,if_neg e,this]
def rC:∀ {ks:List κ} {vs:List D} {x:κ} {d:D} {y:κ},ks.length=vs.length->x∈ks->aG ks (List.zipWith (fun k v=>if k=x then d else v) ks vs) y=if x=y then some d else aG ks vs y
 | k::ks,v::vs,x,d,y,h,hm=>by
  simp at h;simp only[List.zipWith_cons_cons,aG];by_cases e:k=y
  ·rw[if_pos e,if_pos e];by_cases e':k=x
   ·rw[if_pos e',if_pos (e'.symm.trans e)]
   ·rw[if_neg e',if_neg (fun c=>e' (e.trans c.symm))]
  ·rw[if_neg e,if_neg e];by_cases hx:x∈ks
   ·exact rC h hx
   ·have kx:x=k:=by simpa[hx]using hm
    rw[if_neg (fun c=>e (kx.symm.trans c))]
    have:List.zipWith (fun k v=>if k=x then d else v) ks vs=vs:=by
     clear e hm kx
     induction ks generalizing vs with
     | nil=>cases vs with | nil=>rfl | cons _ _=>simp at h
     | cons a ks ih=>cases vs with
      | nil=>simp at h
      |cons b vs=>
       simp at h hx;simp only[List.zipWith_cons_cons];rw[if_neg (fun c=>hx.1 c.symm),ih (vs:=vs) (h:=h) (hx:=hx.2)]
    rw[this]
def ee{ks:List κ}(h:ks.length=vs.length):aG (putD ks vs x d).1 (putD ks vs x d).2 y=if x=y then some d else aG ks vs y:=by
 unfold putD;split
 ·exact rC h ‹_›
 ·exact tM h ‹_›
def fg{ks:List κ}(h:ks.length=vs.length):(putD ks vs x d).1.length=(putD ks vs x d).2.length/\(putD ks vs x d).1.length<=ks.length+1:=by
 unfold putD;split<;>simp[h]
end dicts
abbrev sd(b:Bool):PySem.Str:=if b then PySem.Str.ofString "high" else PySem.Str.ofString "low"
def qL(b:Bool):(sd b == PySem.Str.ofString "high")=b:=by cases b<;>decide +kernel
def GL(h:sd a=sd b):a=b:=by
 have:=qL a;rw[h,qL]at this;exact this.symm
abbrev nk(b:Bool)(p:Nat):List Ky:=[.inr (sd b),.inl (p:Int)]
def tD(h:nk a p=nk b q):a=b/\p=q:=by
 unfold nk at h;injection h with h1 h2;injection h1 with h1;injection h2 with h2;injection h2 with h2;exact#[GL h1,by lia]
abbrev bz(b:Bool)(x:Nat):D:=.tup [.str (sd b),.int x]
abbrev pick(h l:List Nat)(b:Bool):List Nat:=if b then h else l
abbrev kX(h l:List Nat)(k:Nat)(ks:List (List Ky))(vs:List D):Prop:=ks.length=vs.length/\ks.length<=2*k/\∀ b p,p<k->aG ks vs (nk b p)=some (bz b (at' (pick h l b) p))
def kX.next{h l:List Nat}(N:kX h l k ks vs):kX h l (k+1) (putD (putD ks vs (nk true k) (bz true (at' h k))).1 (putD ks vs (nk true k) (bz true (at' h k))).2 (nk false k) (bz false (at' l k))).1 (putD (putD ks vs (nk true k) (bz true (at' h k))).1 (putD ks vs (nk true k) (bz true (at' h k))).2 (nk false k) (bz false (at' l k))).2:=by
 obtain⟨n1,n2,n3⟩:=N;obtain⟨a1,a2⟩:=fg (x:=nk true k) (d:=bz true (at' h k)) n1;obtain⟨b1,b2⟩:=fg (x:=nk false k) (d:=bz false (at' l k)) a1;refine#[b1,by lia,fun b p hp=>?_];rw[ee a1,ee n1];by_cases e:p=k
 ·subst e;cases b
  ·rw[if_pos rfl];rfl
  ·rw[if_neg (fun c=>by have:=(tD c).1;cases this),if_pos rfl];rfl
 ·rw[if_neg (fun c=>e (tD c).2.symm),if_neg (fun c=>e (tD c).2.symm)];exact n3 b p ⋯
def yk{fr:Nat}(hn:n<=10)(hh:h.length=2*n)(hl:l.length=2*n):∃ ks vs o,kX h l (2*n) ks vs/\aP (ao cl [3,5,6] (gp fr)) [4] (L (List.range (2*n))) [some (.tup (L h)),some (.tup (L l)),some (.int n),some (.dT [] []),none,none,none,none,none]=some (.nx,[some (.tup (L h)),some (.tup (L l)),some (.int n),some (.dT ks vs),o,none,none,none,none]):=by
 obtain⟨Zz,e,ks,vs,o,rfl,N⟩:=cX (f:=ao cl [3,5,6] (gp fr)) (tg:=[4]) (xs:=List.range (2*n)) (Y:=[some (.tup (L h)),some (.tup (L l)),some (.int n),some (.dT [] []),none,none,none,none,none])
  (fun p Y=>∃ ks vs o,Y=[some (.tup (L h)),some (.tup (L l)),some (.int n),some (.dT ks vs),o,none,none,none,none]/\kX h l p.length ks vs) ⟨[],[],none,rfl,rfl,by simp,by simp⟩ (by
   rintro p x q Y hx ⟨ks,vs,o,rfl,N⟩;obtain⟨h1,h2⟩:=gq (g:=id) (by simpa using hx);simp only[id]at h2;subst h2;have i1:=jF (f:=h) (x:=p.length) ⋯;have i2:=jF (f:=l) (x:=p.length) ⋯;have a:=fg (x:=nk true p.length) (d:=bz true (at' h p.length)) N.1
   have m1:ks.length<most:=by have:=N.2.1;unfold most;lia
   have m2:(putD ks vs (nk true p.length) (bz true (at' h p.length))).1.length<most:=by have:=N.2.1;unfold most;lia
   refine#[_,?_,_,_,some (.int (p.length:Int)),rfl,by simpa using N.next];have k1:keysOf [.str (PySem.Str.ofString "high"),.int (p.length:Int)]=some (nk true p.length):=rfl;have k2:keysOf [.str (PySem.Str.ofString "low"),.int (p.length:Int)]=some (nk false p.length):=rfl
   have u1:cI (.dT ks vs) (.tup [.str (PySem.Str.ofString "high"),.int (p.length:Int)]) (.tup [.str (PySem.Str.ofString "high"),.int (at' h p.length:Nat)])=some (.dT (putD ks vs (nk true p.length) (bz true (at' h p.length))).1 (putD ks vs (nk true p.length) (bz true (at' h p.length))).2):=by
    rw[GO];rw[k1,Option.bind_some,if_pos m1];rfl
   have u2:∀ ks vs,ks.length<most->cI (.dT ks vs) (.tup [.str (PySem.Str.ofString "low"),.int (p.length:Int)]) (.tup [.str (PySem.Str.ofString "low"),.int (at' l p.length:Nat)])=some (.dT (putD ks vs (nk false p.length) (bz false (at' l p.length))).1 (putD ks vs (nk false p.length) (bz false (at' l p.length))).2):=by
    intro ks vs m;rw[GO];rw[k2,Option.bind_some,if_pos m];rfl
   simp only[eW,gp,ao,ke,bU,iw,lV,aX,evs,List.set,Option.bind_some,List.getElem?_cons_zero,List.getElem?_cons_succ,id,i1,i2,Option.map_some,D.imm,aw,Bool.and_self,if_true,u1,u2 _ _ m2])
 simp only[List.length_range]at N;exact#[ks,vs,o,N,e]
abbrev stp(n:Nat)(h l:List Nat)(s:Bool × Nat):Bool × Nat:=if s.1=decide (n<=s.2)then(!s.1,at' (pick h l (!s.1)) ((s.2+n)%(2*n)))else s
abbrev itr(n:Nat)(h l:List Nat):Nat->Bool × Nat->Bool × Nat
 | 0,s=>s
 | i+1,s=>stp n h l (itr n h l i s)
abbrev Tr(n:Nat)(s:Bool × Nat)(m:Nat):Prop:=s.1=decide (n<=s.2)/\s.2%n=m
abbrev GD(gk:List Ky)(gv:List D)(k:Nat)(P:Nat->Prop):Prop:=gk.length=gv.length/\gk.length<=k/\∀ m:Nat,(aG gk gv (.inl (m:Int))).isSome=true↔P m
def GD.put(G:GD gk gv k P)(m0:Nat)(d:D):GD (putD gk gv (.inl (m0:Int)) d).1 (putD gk gv (.inl (m0:Int)) d).2 (k+1) (fun m=>P m\/m0=m):=by
 obtain⟨g1,g2,g3⟩:=G;obtain⟨a1,a2⟩:=fg (x:=(.inl (m0:Int):Ky)) (d:=d) g1;refine#[a1,by lia,fun m=>?_];rw[ee g1];by_cases e:m0=m
 ·subst e;simp
 ·rw[if_neg (fun c=>e (by injection c;lia)),g3];simp[e]
def GD.mono(G:GD gk gv k P)(hk:k<=k')(h:∀ m,P m↔Q m):GD gk gv k' Q :=
 ⟨G.1,by have:=G.2.1;lia,fun m=>(G.2.2 m).trans (h m)⟩
abbrev hst(n:Nat)(h l:List Nat)(ks:List (List Ky))(vs:List D)(o4:Option D)(fnd:List Nat)(gk:List Ky)(gv:List D)(o7 o8:Option D):St :=
 [some (.tup (L h)),some (.tup (L l)),some (.int n),some (.dT ks vs),o4,some (.lst (L fnd)),some (.dK gk gv),o7,o8]
section
def ui(b:Bool)(x:Nat):ixV (bz b x) (.int 0)=some (.str (sd b)):=rfl
def mK(b:Bool)(x:Nat):ixV (bz b x) (.int 1)=some (.int (x:Nat)):=rfl
def mR(b:Bool):ixV (.lst [.str (PySem.Str.ofString "high"),.str (PySem.Str.ofString "low")]) (.int (if b=true then 1 else 0))=some (.str (sd !b)):=by cases b<;>rfl
def Cg(h1:1<=n)(hn:n<=10)(N:kX h l (2*n) ks vs)(hx:x<2*n)(G:GD gk gv k P)(hk:k<=2000)(o4 o8:Option D)(t:D) :
  ∃ gk' gv',GD gk' gv' (k+1) (fun m=>P m\/Tr n (b,x) m)/\(bf [8] t (hst n h l ks vs o4 fnd gk gv (some (bz b x)) o8)).bind (ao cl [3,5,6] (dB fr))=some (.nx,hst n h l ks vs o4 fnd gk' gv' (some (bz (stp n h l (b,x)).1 (stp n h l (b,x)).2)) (some t)):=by
 have e1:aF .mul (.int 2) (.int n)=some (.int (2*n)):=cP ∅ ∅
 have cnd:ev cl (hst n h l ks vs o4 fnd gk gv (some (bz b x)) (some t)) (.cmp .eq (.cmp .eq (.ix 7#0 0#1) (.cst (.str "high"))) (.cmp .ge (.ix 7#0 1#1) 2#0))=some (.bl (b == decide (n<=x))):=by
  simp only[hst,dP,iw,aX,bU,Option.bind_some,List.getElem?_cons_zero,List.getElem?_cons_succ,id,ui,mK,Hx,Gk,G0,Hs,Gj,qL,Option.map_some];simp
 by_cases e:b=decide (n<=x)
 ·refine#[_,_,(G.put (x%n) (.bl true)).mono (QV _) (fun m=>by simp[Tr,e]),?_]
  have m1:aF .mod (.int (x:Nat)) (.int n)=some (.int ((x%n:Nat):Int)):=by rw[dN ⋯];simp
  have m2:aF .mod (.int ((x:Nat)+(n:Int))) (.int (2*(n:Int)))=some (.int (((x+n)%(2*n):Nat):Int)):=by rw[dN ⋯];simp
  have u:cI (.dK gk gv) (.int ((x%n:Nat):Int)) (.bl true)=some (.dK (putD gk gv (.inl ((x%n:Nat):Int)) (.bl true)).1 (putD gk gv (.inl ((x%n:Nat):Int)) (.bl true)).2):=by
   rw[EI];dsimp only[keyOf];rw[Option.bind_some,if_pos (by have:=G.2.1;unfold most;lia)]
  have lk:ka (.dT ks vs) (.tup [.str (sd !b),.int (((x+n)%(2*n):Nat):Int)])=some (bz (!b) (at' (pick h l !b) ((x+n)%(2*n)))):=by
   have:=N.2.2 (!b) ((x+n)%(2*n)) (Nat.mod_lt _ ⋯);rw[<-this];rfl
  have s1:stp n h l (b,x)=(!b,at' (pick h l !b) ((x+n)%(2*n))):=by unfold stp;rw[if_pos e]
  rw[s1]
  have eb:(b == decide (n<=x))=true:=by simp[e]
  rw[eb]at cnd;simp only[eW,hst,List.set,Option.bind_some,dB,ao,di,dm,ke]at cnd ⊢;rw[cnd];simp only[Option.bind_some,truth,if_true,ao,jl,bT,dP,bU,iw,wL,fD,lV,aX,evs,List.getElem?_cons_zero,List.getElem?_cons_succ,id,ui,mK,m1,u,D.imm,Option.map_some,List.set,Hx,Gk,G0,Hs,Gj,qL,Fl,mR,bS,e1,m2,lk];have ok:aK [3,5,6] (.ixD 3#0 (.tup %[.ix (.lst %[.cst (.str "high"),.cst (.str "low")|.nil]) (.bi .int (.cmp .eq (.ix 7#0 0#1) (.cst (.str "high")))),.bin .mod (.bin .add (.ix 7#0 1#1) 2#0) (.bin .mul 2#1 2#0)|.nil])) (bz (!b) (at' (pick h l !b) ((x+n)%(2*n))))=true:=rfl;rw[if_pos ok];rfl
 ·refine#[gk,gv,G.mono ⋯ (fun m=>by simp[Tr,e]),?_]
  have s1:stp n h l (b,x)=(b,x):=by unfold stp;rw[if_neg e]
  rw[s1]
  have eb:(b == decide (n<=x))=false:=by simp[e]
  rw[eb]at cnd;simp only[eW,hst,List.set,Option.bind_some,dB,ao,di,dm,ke]at cnd ⊢;rw[cnd];simp[truth,ao]
def HL(hh:∀ x,x<2*n->at' h x<2*n)(hl:∀ x,x<2*n->at' l x<2*n)(hs:s.2<2*n):(stp n h l s).2<2*n:=by
 unfold stp;split
 ·have m:(s.2+n)%(2*n)<2*n:=Nat.mod_lt _ ⋯;cases s.1
  ·exact hh _ m
  ·exact hl _ m
 ·exact hs
def iF(hh:∀ x,x<2*n->at' h x<2*n)(hl:∀ x,x<2*n->at' l x<2*n)(hs:s.2<2*n):∀ i,(itr n h l i s).2<2*n
 | 0=>hs
 | i+1=>HL hh hl (iF hh hl hs i)
abbrev Met(n:Nat)(h l:List Nat)(s:Bool × Nat)(i:Nat)(m:Nat):Prop:=∃ j,j<i/\Tr n (itr n h l j s) m
def C1(h1:1<=n)(hn:n<=10)(N:kX h l (2*n) ks vs)(hh:∀ x,x<2*n->at' h x<2*n)(hl:∀ x,x<2*n->at' l x<2*n)(hs:s.2<2*n)(G:GD gk gv k P)(hk:k<=1000)(o4 o8:Option D) :
  ∃ gk' gv' o8',GD gk' gv' (k+4*n) (fun m=>P m\/Met n h l s (4*n) m)/\aP (ao cl [3,5,6] (dB fr)) [8] (L (List.range (4*n))) (hst n h l ks vs o4 fnd gk gv (some (bz s.1 s.2)) o8)=some (.nx,hst n h l ks vs o4 fnd gk' gv' (some (bz (itr n h l (4*n) s).1 (itr n h l (4*n) s).2)) o8'):=by
 obtain⟨Zz,e,gk',gv',o8',rfl,G'⟩:=cX (f:=ao cl [3,5,6] (dB fr)) (tg:=[8]) (xs:=List.range (4*n)) (Y:=hst n h l ks vs o4 fnd gk gv (some (bz s.1 s.2)) o8)
  (fun p Y=>∃ gk' gv' o8',Y=hst n h l ks vs o4 fnd gk' gv' (some (bz (itr n h l p.length s).1 (itr n h l p.length s).2)) o8'/\GD gk' gv' (k+p.length) (fun m=>P m\/Met n h l s p.length m))
  ⟨gk,gv,o8,rfl,G.mono (by simp) (fun m=>by simp[Met])⟩ (by
   rintro p x q Y hx ⟨gk',gv',o8',rfl,G'⟩;obtain⟨a1,a2⟩:=gq (g:=id) (by simpa using hx);obtain⟨gk2,gv2,G2,e2⟩:=Cg (cl:=cl) (fr:=fr) (fnd:=fnd) h1 hn N (iF hh hl hs p.length) G' ⋯ o4 o8' (.int (x:Nat)) (b:=(itr n h l p.length s).1);refine#[_,e2,gk2,gv2,_,by rw[List.length_append];rfl,G2.mono (by simp;lia) (fun m=>?_)];simp only[Met,List.length_append,List.length_singleton];constructor
   ·rintro((hp | ⟨j,h1,h2⟩) | h2)
    ·exact .inl hp
    ·exact .inr #[j,by lia,h2]
    ·exact .inr #[p.length,by lia,h2]
   ·rintro(hp | ⟨j,h1,h2⟩)
    ·exact .inl (.inl hp)
    ·by_cases hj:j=p.length
     ·subst hj;exact .inr h2
     ·exact .inl (.inr #[j,by lia,h2]))
 simp only[List.length_range]at G' e;exact#[gk',gv',o8',G',e]
abbrev beg(n:Nat)(h l:List Nat)(p:Nat):Bool × Nat:=(decide (p<n),at' (pick h l (decide (p<n))) p)
abbrev cD(n:Nat)(h l:List Nat):List Nat:=(List.range (2*n)).map fun p=>(itr n h l (4*n) (beg n h l p)).2
abbrev Gn(n:Nat)(h l:List Nat)(k m:Nat):Prop:=∃ p,p<k/\Met n h l (beg n h l p) (4*n) m
def Jl(b:Bool):ixV (.lst [.str (PySem.Str.ofString "high"),.str (PySem.Str.ofString "low")]) (.int (if b=true then 1 else 0))=some (.str (sd !b)):=mR b
def Dc(h1:1<=n)(hn:n<=10)(N:kX h l (2*n) ks vs)(hh:∀ x,x<2*n->at' h x<2*n)(hl:∀ x,x<2*n->at' l x<2*n)(o4 o7 o8:Option D) :
  ∃ gk gv o4' o7' o8',GD gk gv 1000 (Gn n h l (2*n))/\aP (ao cl [3,5,6] (gj fr)) [4] (L (List.range (2*n))) (hst n h l ks vs o4 [] [] [] o7 o8)=some (.nx,hst n h l ks vs o4' (cD n h l) gk gv o7' o8'):=by
 have e4:aF .mul (.int 4) (.int n)=some (.int (4*n)):=cP ∅ ∅;have r4:=dk (n:=4*n) ⋯;rw[show((4*n:Nat):Int)=4*(n:Int) by lia]at r4
 obtain⟨Zz,e,gk,gv,o4',o7',o8',rfl,G⟩:=cX (f:=ao cl [3,5,6] (gj fr)) (tg:=[4]) (xs:=List.range (2*n)) (Y:=hst n h l ks vs o4 [] [] [] o7 o8)
  (fun p Y=>∃ gk gv o4' o7' o8',Y=hst n h l ks vs o4' ((List.range p.length).map fun p=>(itr n h l (4*n) (beg n h l p)).2) gk gv o7' o8'/\GD gk gv (40*p.length) (Gn n h l p.length))
  ⟨[],[],o4,o7,o8,rfl,rfl,by simp,fun m=>by simp[aG,Gn]⟩ (by
   rintro p x q Y hx ⟨gk,gv,o4',o7',o8',rfl,G⟩;obtain⟨a1,a2⟩:=gq (g:=id) (by simpa using hx);simp only[id]at a2;subst a2
   have hb:(beg n h l p.length).2<2*n:=by
    unfold beg pick;cases decide (p.length<n)
    ·exact hl _ a1
    ·exact hh _ a1
   obtain⟨gk2,gv2,o82,G2,e2⟩:=C1 (cl:=cl) (fr:=fr) (fnd:=(List.range p.length).map fun p=>(itr n h l (4*n) (beg n h l p)).2) h1 hn N hh hl hb G ⋯ (some (.int (p.length:Nat))) o8'
   have c1:ba .ge (.int (p.length:Nat)) (.int n)=some (!decide (p.length<n)):=by
    rw[AS];congr 1;by_cases c:p.length<n
    ·simp[c]
    ·simp[c];lia
   have lk:ka (.dT ks vs) (.tup [.str (sd (decide (p.length<n))),.int (p.length:Nat)])=some (bz (beg n h l p.length).1 (beg n h l p.length).2):=by
    have:=N.2.2 (decide (p.length<n)) p.length a1;rw[show bz (beg n h l p.length).1 (beg n h l p.length).2=bz (decide (p.length<n)) (at' (pick h l (decide (p.length<n))) p.length)from rfl,<-this];rfl
   have sx:=mR (!decide (p.length<n));rw[Bool.not_not]at sx;refine#[hst n h l ks vs (some (.int (p.length:Nat))) ((List.range (p++[p.length]).length).map fun p=>(itr n h l (4*n) (beg n h l p)).2) gk2 gv2 (some (bz (itr n h l (4*n) (beg n h l p.length)).1 (itr n h l (4*n) (beg n h l p.length)).2)) o82,?_,gk2,gv2,_,_,_,rfl,G2.mono (by simp;lia) (fun m=>?_)]
   ·have ok:aK [3,5,6] (.ixD 3#0 (.tup %[.ix (.lst %[.cst (.str "high"),.cst (.str "low")|.nil]) (.bi .int (.cmp .ge 4#0 2#0)),4#0|.nil])) (bz (beg n h l p.length).1 (beg n h l p.length).2)=true:=rfl;simp only[eW,hst,List.set,Option.bind_some,gj,ao,lU,di,fE,bT,bU,iw,aX,wL,fD,lV,jl,dP,evs,b9,itemsS_lst,itemsS_tup,List.getElem?_cons_zero,List.getElem?_cons_succ,id,c1,Option.map_some,Fl,sx,lk,e4,r4]at e2 ⊢;rw[if_pos ok];simp only[Option.bind_some,e4,r4,List.getElem?_cons_zero,List.getElem?_cons_succ,id,e2,mK]
    have ml:((D.int (((itr n h l (4*n) (beg n h l p.length)).2:Nat):Int)).imm&&decide ((L (List.map (fun p=>(itr n h l (4*n) (beg n h l p)).snd) (List.range p.length))).length<most))=true:=by
     simp[D.imm,aS,most];lia
    rw[if_pos ml];simp[L,List.range_succ]
   ·simp only[Gn,List.length_append,List.length_singleton];constructor
    ·rintro(⟨j,h1,h2⟩ | h2)
     ·exact#[j,by lia,h2]
     ·exact#[p.length,by lia,h2]
    ·rintro⟨j,h1,h2⟩;by_cases hj:j=p.length
     ·subst hj;exact .inr h2
     ·exact .inl #[j,by lia,h2])
 simp only[List.length_range]at G e;exact#[gk,gv,o4',o7',o8',G.mono ⋯ (fun _=>Iff.rfl),e]
def Br(h1:1<=n)(hn:n<=10)(h2:h.length=2*n)(l2:l.length=2*n)(hh:∀ x,x<2*n->at' h x<2*n)(hl:∀ x,x<2*n->at' l x<2*n) :
  ∃ inner:List Nat,(∀ m,m∈inner↔m<n/\¬ Gn n h l (2*n) m)/\inner.length<=n/\∀ r:Int,cl fr [.tup (L h),.tup (L l),.lst (L inner)]=some (.int r)->evF cl (fO fr) [.tup (L h),.tup (L l)]=some (.tup [.tup (L (cD n h l)),.int r]):=by
 have e1:aF .mul (.int 2) (.int n)=some (.int (2*n)):=cP ∅ ∅;have r2:=dk (n:=2*n) ⋯;rw[show((2*n:Nat):Int)=2*(n:Int) by lia]at r2;have r1:=dk (n:=n) ⋯;obtain⟨ks,vs,o,N,en⟩:=yk (cl:=cl) (fr:=fr) hn h2 l2;obtain⟨gk,gv,o4,o7,o8,G,eb⟩:=Dc (cl:=cl) (fr:=fr) h1 hn N hh hl o none none;refine#[(List.range n).filter fun m:Nat=>!(aG gk gv (.inl (m:Int))).isSome,fun m=>?_,?_,?_]
 ·have:=G.2.2 m;simp[<-this]
 ·have:=List.length_filter_le (fun m:Nat=>!(aG gk gv (.inl (m:Int))).isSome) (List.range n);simpa using this
 ·intro r hr;have e6:=half (xs:=L h) (n:=n) (by rw[aS,h2]);have e7:=E6 n;have ft:=sL (xs:=List.range n) (by simp;lia)
  have mc:=sG (F:=fun ZA=>((ev cl ZA (.inD true 4#0 6#0)).bind truth).bind fun k=>if k then(ev cl ZA 4#0).map some else some none) (tg:=[4]) (Y:=hst n h l ks vs o4 (cD n h l) gk gv o7 o8) (g:=fun m=>.int (m:Nat)) (c:=fun m=>!(aG gk gv (.inl (m:Int))).isSome) (fun _=>rfl) (List.range n) (by
   intro x _;simp only[eW,hst,List.set,Option.bind_some,qN,aX,List.getElem?_cons_zero,List.getElem?_cons_succ,id,kc,keyOf,Option.map_some,truth,if_true]
   cases(aG gk gv (.inl (x:Int))).isSome<;>rfl)
  simp only[evF,fO,ao,di,fE,lF,cy,jl,bT,bU,aX,fD,lV,IZ,IM,b9,itemsS_lst,itemsS_tup];simp[e6,e7,aK,D.imm,aB,aw,e1,r2];rw[en];simp[ao,jl,cx,uo,aX,qN,evs,b9,e1,r2,aB,aw,D.imm];simp[hst]at eb;rw[show L []=[]from rfl]at eb;rw[eb];simp[ao,evs,b9,r1,ft,rq,items];simp[qN,aX,hst]at mc;rw[mc];rw[show(List.map (fun m:Nat=>D.int (m:Int)) (List.filter (fun m:Nat=>(aG gk gv (Sum.inl (m:Int))).isNone) (List.range n)))=L (List.filter (fun m:Nat=>(aG gk gv (Sum.inl (m:Int))).isNone) (List.range n))from rfl];simp at hr;simp[hr,bj,D.imm,aw,aY,aZ]
end
def rN [DecidableEq κ]:∀ {ks:List κ} {vs:List D} {x:κ} {d:D},aG ks vs x=some d->x∈ks
 | k::ks,v::vs,x,d,h=>by
  rw[aG]at h;by_cases e:k=x
  ·simp[e]
  ·rw[if_neg e]at h;simp[rN h]
def Bt{κ:Type} [DecidableEq κ]{ks:List κ}{vs:List D}{x:κ}(h:aG ks vs x=some d):(putD ks vs x e).1=ks:=by
 unfold putD;rw[if_pos (rN h)]
abbrev HI(inner:List Nat)(hk:List Ky)(hv:List D):Prop:=hk.length=hv.length/\hk.length<=10/\∀ m∈inner,∃ v:Int,aG hk hv (.inl (m:Int))=some (.int v)
def HI.put{inner:List Nat}{hk:List Ky}{hv:List D}(H:HI inner hk hv){m:Nat}(hm:m∈inner)(v:Int):HI inner (putD hk hv (.inl (m:Int)) (.int v)).1 (putD hk hv (.inl (m:Int)) (.int v)).2:=by
 obtain⟨a,b,c⟩:=H;obtain⟨v0,h0⟩:=c m hm;refine#[(fg a).1,by rw[Bt h0];exact b,fun i hi=>?_];rw[ee a];by_cases e:(.inl (m:Int):Ky)=.inl (i:Int)
 ·rw[if_pos e];exact#[v,rfl]
 ·rw[if_neg e];exact c i hi
abbrev rst(n:Nat)(h l inner:List Nat)(hk:List Ky)(hv:List D)(o5 o6 o7 o8 o9:Option D):St :=
 [some (.tup (L h)),some (.tup (L l)),some (.lst (L inner)),some (.int n),some (.dK hk hv),o5,o6,o7,o8,o9]
section
def lT(e:aG hk hv (.inl (m:Int))=some (.int v)):ka (.dK hk hv) (.int (m:Nat))=some (.int v):=e
def ints_map(v:Nat->Int):∀ xs:List Nat,cK (xs.map fun m=>.int (v m))=some (xs.map v)
 | []=>rfl
 | x::r=>by simp[cK,ints_map v r]
end
section
end
def nM(im:∀ x,(g x).imm=true):∀ xs:List Nat,(∀ x∈xs,(bf tg (h x) Y).bind F=some (if c x then some (g x)else none))->cq F tg Y (xs.map h)=some ((xs.filter c).map g)
 | [],_=>rfl
 | x::r,hh=>by
  have a:=hh x (by simp);have b:=nM im r (fun y hy=>hh y (by simp[hy]));rw[List.map_cons,cq]
  cases hb:bf tg (h x) Y with
  | none=>rw[hb]at a;cases a
  |some ZA=>
   rw[hb]at a;simp only[Option.bind_some]at a ⊢;rw[a,b];cases hc:c x<;>simp[kC,im,hc]
abbrev pr(f:List Nat)(p:Nat):D:=.tup [.int (p:Nat),.int (at' f p:Nat)]
def vE:∀ (f:List Nat) (k:Nat),cM (k:Int) (L f)=(List.range f.length).map fun p=>.tup [.int ((k+p:Nat):Int),.int (at' f p:Nat)]
 | [],k=>rfl
 | x::r,k=>by
  rw[show L (x::r)=.int x::L r from rfl,cM,show(k:Int)+1=((k+1:Nat):Int) by lia,vE r (k+1),List.length_cons,List.range_succ_eq_map,List.map_cons,List.map_map];congr 1;apply List.map_congr_left;intro p hp;simp at hp
  have e:at' (x::r) (p+1)=at' r p:=by simp[at',hp]
  simp[e];lia
def tm(h:f.length=m):cM 0 (L f)=(List.range m).map (pr f):=by
 have:=vE f 0;rw[h]at this;simp only[Nat.zero_add]at this;exact this
def yd(g:β->D)(im:∀ b,(g b).imm=true)(I:List β->St->Prop):∀ (w done:List β) (Y:St),(∀ u b v Y,done++w=u++b::v->I u Y->∃ ZC,(bf tg (g b) Y).bind f=some (.nx,ZC)/\I (u++[b]) ZC)->I done Y->∃ Zz,aP f tg (w.map g) Y=some (.nx,Zz)/\I (done++w) Zz
 | [],done,Y,_,h=>#[Y,rfl,by simpa using h]
 | b::w,done,Y,hs,h=>by
  obtain⟨ZC,h1,h3⟩:=hs done b w Y rfl h;obtain⟨Zz,h4,h5⟩:=yd g im I w (done++[b]) ZC (fun pre e post Y he=>hs pre e post Y (by simpa using he)) h3;refine#[Zz,?_,by simpa using h5];rw[List.map_cons,aP,if_pos (im b)]
  cases hb:bf tg (g b) Y with
  | none=>rw[hb]at h1;cases h1
  |some ZA=>
   rw[hb]at h1;simp only[Option.bind_some]at h1 ⊢;rw[h1];exact h4
section
variable{n:Nat}
def oJ(hp:p<2*n):evF cl dz [.int n,.int (p:Nat)]=some (.int (rd n p:Nat)):=by
 have e1:aF .mul (.int 3) (.int n)=some (.int (3*n)):=cP ∅ ∅;by_cases c:p<n
 ·have c1:decide ((p:Int)<n)=true:=by simp;lia
  simp[evF,dz,ao,cy,bT,dP,bU,BN,aX,iN,c1,truth,bj,D.imm,aZ,rd,c]
 ·have c1:decide ((p:Int)<n)=false:=by simp;lia
  simp[evF,dz,ao,cy,bT,dP,bU,BN,aX,iN,c1,truth,e1,gr,bj,D.imm,aZ,rd,c];lia
def wQ{T:D}{c:List D->D}{to:Nat->Nat}(hc:c=.tup\/c=.lst)(hn:n<=10)(F:Frm n f)(hT:∀ p:Nat,p<2*n->ixV T (.int (p:Nat))=some (.int (to p:Nat)))(hlt:∀ p,p<2*n->to p<2*n)(inj:∀ p q,p<2*n->q<2*n->to p=to q->p=q) :
  ∃ E:List Nat,E.length=2*n/\(∀ p,p<2*n->at' E (to p)=to (at' f p))/\evF cl jH [c (L f),T]=some (.tup (L E)):=by
 have ln:biV .len (c (L f))=some (.int (2*n)):=by rcases hc with rfl | rfl<;>simp[IJ,BD,aS,F.len]
 have it:jN (c (L f))=some (L f):=by rcases hc with rfl | rfl<;>rfl
 have en:=tm F.len
 have e0:aF .mul (.lst [.int 0]) (.int (2*(n:Int)))=some (.lst (L (List.replicate (2*n) 0))):=by
  rw[J8];rw[if_pos ⟨by lia,by unfold most;lia,by simp[most];lia⟩]
  have:(2*(n:Int)).toNat=2*n:=by lia
  rw[this];simp[L]
 obtain⟨Zz,e,E,o3,o4,rfl,El,EE⟩:=yd (f:=ao cl [2] mF) (tg:=[3,4]) (pr f) (fun _=>rfl)
  (fun u Y=>∃ (E:List Nat) (o3 o4:Option D),Y=[some (c (L f)),some T,some (.lst (L E)),o3,o4]/\E.length=2*n/\∀ p∈u,at' E (to p)=to (at' f p))
  (List.range (2*n)) [] [some (c (L f)),some T,some (.lst (L (List.replicate (2*n) 0))),none,none] (by
   rintro u p v Y hu ⟨E,o3,o4,rfl,El,EE⟩
   have hp:p<2*n:=by
    have:p∈List.range (2*n):=by
     simp only[List.nil_append]at hu;rw[hu];simp
    simpa using this
   have hpu:∀ x∈u,x<2*n/\x≠p:=by
    intro x hx;simp only[List.nil_append]at hu;have nd:(List.range (2*n)).Nodup:=List.nodup_range
    have m:x∈List.range (2*n):=by rw[hu];simp[hx]
    rw[hu,List.nodup_append]at nd;exact#[by simpa using m,nd.2.2 x hx p (by simp)]
   have t1:=hT p hp;have t2:=hT (at' f p) (F.lt p hp);have pt:=i5 (f:=E) (i:=to p) (j:=to (at' f p)) (by have:=hlt p hp;lia);refine#[_,?_,E.set (to p) (to (at' f p)),some (.int (p:Nat)),some (.int (at' f p:Nat)),rfl,by simp[El],fun x hx=>?_]
   ·simp[Gx,xr,xc,pr,mF,ao,ke,iw,aX,t1,t2,D.imm,pt]
   ·rw[cY (by have:=hlt p hp;lia)];simp at hx;rcases hx with hx | rfl
    ·rw[if_neg (fun c=>(hpu x hx).2 (inj x p (hpu x hx).1 hp c))];exact EE x hx
    ·rw[if_pos rfl])
  ⟨_,none,none,rfl,by simp,by simp⟩
 refine#[E,El,fun p hp=>EE p (by simp[hp]),?_];simp only[evF,jH,ao,fE,lF,cy,jl,bT,bU,fD,aX,evs,b9,itemsS_lst,itemsS_tup];simp[evs,ln,e0,aB,aY,it,en];rw[e];simp[ao,rq,items,bj,D.imm,aY,aZ]
def xx{T:D}{to:Nat->Nat}(hn:n<=10)(F:Frm n f)(hT:∀ p:Nat,p<2*n->ixV T (.int (p:Nat))=some (.int (to p:Nat)))(hlt:∀ p,p<2*n->to p<2*n)(inj:∀ p q,p<2*n->q<2*n->to p=to q->p=q) :
  ∃ E:List Nat,E.length=2*n/\(∀ p,p<2*n->at' E (to p)=to (at' f p))/\evF cl jH [.tup (L f),T]=some (.tup (L E)):=wQ (.inl rfl) hn F hT hlt inj
def qG{c:List D->D}(hc:c=.tup\/c=.lst)(hn:n<=10)(F:Frm n f)(hpo:∀ xs:List D,cl fpo [c xs]=some (.int (xs.length / 2)))(hrp:∀ p:Nat,p<2*n->cl frp [.int n,.int (p:Nat)]=some (.int (rd n p:Nat)))
 (hm:∃ E:List Nat,E.length=2*n/\(∀ p,p<2*n->at' E (rd n p)=rd n (at' f p))/\cl fm [c (L f),.lst (L (pK n))]=some (.tup (L E))) :
  ∃ E:List Nat,E.length=2*n/\(∀ q,q<2*n->at' E q=rnd n f q)/\evF cl (fM fm frp fpo) [c (L f)]=some (.tup (L E)):=by
 obtain⟨E,El,EE,hm⟩:=hm;refine#[E,El,fun q hq=>?_,?_]
 ·have:=EE (rd n q) (du hq);rw[eM hq]at this;exact this
 ·have e1:aF .mul (.int 2) (.int n)=some (.int (2*n)):=cP ∅ ∅;have r2:=dk (n:=2*n) ⋯;rw[show((2*n:Nat):Int)=2*(n:Int) by lia]at r2;have ft:=sL (xs:=List.range (2*n)) (by simp;lia);have po:=hpo (L f);rw[aS,F.len,show(((2*n:Nat):Int) / 2)=(n:Int) by lia]at po
  have mc:=rR (F:=fun ZA=>(ev cl ZA (.call frp (.cons 1#0 (.cons 2#0 .nil)))).map some) (tg:=[2]) (Y:=[some (c (L f)),some (.int n),none]) (g:=fun p=>.int (rd n p:Nat)) (fun _=>rfl) (List.range (2*n)) (by
   intro x hx;simp at hx;have:=hrp x hx
   simp[eW,cx,aX,evs,this])
  rw[EJ,show(List.range (2*n)).map (fun p=>rd n p)=pK n from rfl]at mc;simp only[evF,fM,ao,di,cy,cx,aX,bT,pE,bU,evs,b9,itemsS_lst,itemsS_tup];simp[evs,po,aK,D.imm,e1,r2,ft];simp[cx,aX,evs]at mc;rw[mc];simp[hm,bj,D.imm,aY,aZ]
def t9(hn:n<=10)(F:Frm n f)(hpo:∀ xs:List D,cl fpo [.tup xs]=some (.int (xs.length / 2)))(hrp:∀ p:Nat,p<2*n->cl frp [.int n,.int (p:Nat)]=some (.int (rd n p:Nat)))
 (hm:∃ E:List Nat,E.length=2*n/\(∀ p,p<2*n->at' E (rd n p)=rd n (at' f p))/\cl fm [.tup (L f),.lst (L (pK n))]=some (.tup (L E))) :
  ∃ E:List Nat,E.length=2*n/\(∀ q,q<2*n->at' E q=rnd n f q)/\evF cl (fM fm frp fpo) [.tup (L f)]=some (.tup (L E)):=qG (.inl rfl) hn F hpo hrp hm
end
structure Op(r:Nat->Nat)(k:Nat)(W:List Nat):Prop where
 up:W.Pairwise (·<·)
 mem:∀ p,p∈W↔p<k/\k<=r p
section
def Op.push(O:Op r k W)(inv:∀ q,q<m->r (r q)=q)(hk:k<m)(h:k<r k):Op r (k+1) (W++[k]):=by
 refine#[?_,fun p=>?_]
 ·rw[Zp];exact⟨O.up,by simp,fun a ha b hb=>by simp at hb;have:=(O.mem a).mp ha;lia⟩
 ·simp only[List.mem_append,List.mem_singleton,O.mem];constructor
  ·rintro(⟨a,b⟩ | rfl)
   ·refine#[by lia,?_];by_cases c:r p=k
    ·have:=inv p ⋯;rw[c]at this;lia
    ·lia
   ·lia
  ·rintro⟨a,b⟩;by_cases c:p=k
   ·exact .inr c
   ·exact .inl #[by lia,by lia]
end
section
def rh(h1:1<=n)(hn:n<=10)(V:Val n f)(hpo:∀ xs:List D,cl fo [.tup xs]=some (.int (xs.length / 2)))(hc:cl fc [.int n]=some (.bl true))(hp:cl fp [.tup (L f)]=some (.bl true))
 (hi:∃ E:List Nat,E.length=2*n/\(∀ q,q<2*n->at' E q=rnd n f q)/\cl fi [.tup (L f)]=some (.tup (L E)))
 (hu:∀ E:List Nat,E.length=2*n->(∀ q,q<2*n->at' E (at' E q)=q)->(∀ q,q<2*n->at' E q≠q)->(∀ q q',q<2*n->q'<2*n->¬ (q<q'/\q'<at' E q/\at' E q<at' E q'))->(∀ q,q<2*n->at' E q<2*n)->cl fu [.tup (L E)]=some (.bl true)) :
  evF cl (gP fu fi fp fc fo) [.tup (L f)]=some (.bl true):=by
 have F:=V.frm;obtain⟨E,El,Ea,hi⟩:=hi;have rl:∀ q,q<2*n->rnd n f q<2*n:=fun q hq=>du (F.lt _ (du hq))
 have hu:=hu E El (fun q hq=>by
   rw[Ea q hq,Ea _ (rl q hq)];unfold rnd
   rw[eM (F.lt _ (du hq)),F.inv,eM hq]) (fun q hq e=>by
   rw[Ea q hq]at e;unfold rnd at e;have:=congrArg (rd n) e;rw[eM (F.lt _ (du hq))]at this
   exact F.no _ (du hq) this) (fun q q' h h'=>by
   rw[Ea q h,Ea q' h']
   exact V.nox q q' h h') (fun q hq=>by rw[Ea q hq];exact rl q hq)
 have e1:aF .mul (.int 2) (.int n)=some (.int (2*n)):=cP ∅ ∅;have ln:=half (xs:=L f) (n:=n) (by rw[aS,F.len]);have po:=hpo (L f);rw[aS,F.len,show(((2*n:Nat):Int) / 2)=(n:Int) by lia]at po;have en:=tm F.len
 have ft:fits ((List.range (2*n)).map (pr f))=some ((List.range (2*n)).map (pr f)):=by
  unfold fits;rw[if_pos (by simp[most];lia)]
 have mc:=nM (F:=fun ZA=>((ev cl ZA (.cmp .eq 3#0 4#0)).bind truth).bind fun k=>if k then(ev cl ZA 3#0).map some else some none) (tg:=[3,4]) (Y:=[some (.tup (L f)),some (.int n),none,none,none]) (h:=pr f) (g:=fun p=>.int (p:Nat)) (c:=fun _=>false) (fun _=>rfl) (List.range (2*n)) (by
  intro x hx;simp at hx;have c2:((x:Int) == (at' f x:Nat))=false:=beq_eq_false_iff_ne.mpr (by have:=F.no x hx;lia)
  simp[Gx,xr,xc,pr,dP,aX,fF,c2,truth])
 rw[show(List.range (2*n)).filter (fun _=>false)=[]from List.filter_eq_nil_iff.mpr (by simp),List.map_nil]at mc
 have ne0:ba .ne (.int (2*(n:Int))) (.int (2*(n:Int)))=some false:=by
  rw[JM];simp
 simp only[evF,gP,ao,di,dm,cy,cx,aX,gZ,jl,bT,dP,uo,bU,qV,zQ,evs,b9,itemsS_lst,itemsS_tup];simp[evs,po,aK,D.imm,ln,e1,ne0,hc,hp,truth,ao,b9,jN,en,ft];simp[dP,aX]at mc;rw[mc];simp[ao,evs,aB,aw,hi,hu,truth,bj,D.imm,aZ,J3]
def nO(h:cl fi [x]=some (.bl true)):evF cl (eL fi) [x]=some .non:=by
 simp[evF,eL,ao,dm,xI,cx,qV,aX,evs,h,truth,aZ]
end
def jC{β:Type}{F:St->Option (Option D)}{tg:List Nat}{Y:St}{h g:β->D}(im:∀ x,(g x).imm=true):∀ xs:List β,(∀ x∈xs,(bf tg (h x) Y).bind F=some (some (g x)))->cq F tg Y (xs.map h)=some (xs.map g)
 | [],_=>rfl
 | x::r,hh=>by
  have a:=hh x (by simp);have b:=jC im r (fun y hy=>hh y (by simp[hy]));rw[List.map_cons,cq]
  cases hb:bf tg (h x) Y with
  | none=>rw[hb]at a;cases a
  |some ZA=>
   rw[hb]at a;simp only[Option.bind_some]at a ⊢;rw[a,b];simp[kC,im]
def qM(x:Bool):ba .ne (.bl x) (.bl x)=some false:=by cases x<;>rfl
def Ir(x:Bool):ba .eq (.bl x) (.bl x)=some true:=by cases x<;>rfl
section
def mr(hN:(match d with | .non=>some (D.bl (!false)) | .dK _ _=>none | .dT _ _=>none | .fT _ _=>none | _=>some (.bl false))=some (D.bl false))(hb:gf .bool d=some kb)(hi:gf .int d=some ki)(hl:gf .list d=some kl)(ht:gf .tuple d=some kt)
 (k:ao cl [] r [some d,some d,none,none]=res):ao cl [] %[.ife (.isN false 1#0) %[.ret (.isN false 0#0)|.nil] .nil,.ife (.or (.cmp .ne (.isi 0#0 .bool) (.isi 1#0 .bool)) (.cmp .ne (.isi 0#0 .int) (.isi 1#0 .int))) %[.ret (.cst (.bl false))|.nil] .nil,.ife (.or (.cmp .ne (.isi 0#0 .list) (.isi 1#0 .list)) (.cmp .ne (.isi 0#0 .tuple) (.isi 1#0 .tuple))) %[.ret (.cst (.bl false))|.nil] .nil|r] [some d,some d,none,none]=res :=
 bc (bb (lC hN (aa rfl))) (bc (bb (wK (aH (cb (aa rfl) hb) (cb (aa rfl) hb) (qM _)) (aH (cb (aa rfl) hi) (cb (aa rfl) hi) (qM _)))) (bc (bb (wK (aH (cb (aa rfl) hl) (cb (aa rfl) hl) (qM _)) (aH (cb (aa rfl) ht) (cb (aa rfl) ht) (qM _)))) k))
def za(hN:(match d with | .non=>some (D.bl (!false)) | .dK _ _=>none | .dT _ _=>none | .fT _ _=>none | _=>some (.bl false))=some (D.bl false))(hb:gf .bool d=some kb)(hi:gf .int d=some ki)(hl:gf .list d=some false)(ht:gf .tuple d=some false)(hs:gf .str d=some ks)(he:ba .eq d d=some true):evF cl (cQ fs) [d,d]=some (.bl true) :=
 aU rfl rfl (mr hN hb hi hl ht (cC (bb (bO (de (cb (aa rfl) hl)) (de (cb (aa rfl) ht)))) (aL (bO (aH (cb (aa rfl) hs) (cb (aa rfl) hs) (Ir _)) (aH (aa rfl) (aa rfl) he)) rfl)))
end
def same_int(a:Int):evF cl (cQ fs) [.int a,.int a]=some (.bl true):=za rfl rfl rfl rfl rfl rfl (by rw[fF,beq_self_eq_true])
def i8:∀ xs:List D,eO xs xs=xs.map fun x=>.tup [x,x]
 | []=>rfl
 | x::r=>by simp[eO,i8 r]
def rJ:∀ xs:List β,d7 (xs.map fun _=>D.bl true)=some (xs.map fun _=>true)
 | []=>rfl
 | x::r=>by simp[d7,rJ r]
def An{fs:Nat}{d:D}{xs:List D}(hd:d=.tup xs\/d=.lst xs)(hl:xs.length<=1000)(h:∀ x∈xs,cl fs [x,x]=some (.bl true)):evF cl (cQ fs) [d,d]=some (.bl true):=by
 have al:biV .all (.lst (xs.map fun _=>.bl true))=some (.bl true):=by
  simp only[EH,rJ];simp
 have mc:=jC (F:=fun ZA=>(ev cl ZA (.call fs (.cons 2#0 (.cons 3#0 .nil)))).map some) (tg:=[2,3]) (Y:=[some d,some d,none,none]) (h:=fun x=>.tup [x,x]) (g:=fun _=>.bl true) (fun _=>rfl) xs (by
  intro x hx;show(ev cl [some d,some d,some x,some x] (.call fs %[2#0,3#0|.nil])).map some=_;rw[cZ (aa rfl) (aa rfl) (h x hx)]
  rfl)
 have it:items d=some xs:=by rcases hd with rfl | rfl<;>rfl
 have ln:biV .len d=some (.int xs.length):=by rcases hd with rfl | rfl<;>rfl
 have lq:ba .eq (.int (xs.length:Int)) (.int (xs.length:Int))=some true:=by simp[fF]
 have lz:(eO xs xs).length<=most:=by rw[i8,List.length_map];unfold most;lia
 rw[<-i8]at mc;have tl:∀ {res:Option (Out × St)},some (Out.rt (.bl true),[some d,some d,none,none])=res->ao cl [] (.cons (.ret (.and (.cmp .eq (.bi .len 0#0) (.bi .len 1#0)) (.bi .all (.compA (.call fs (.cons 2#0 (.cons 3#0 .nil))) [2,3] (.zip 0#0 1#0))))) .nil) [some d,some d,none,none]=res:=fun e=>(aL (bO (aH (bJ (aa rfl) ln) (bJ (aa rfl) ln) lq) (bJ (gg (B5 (aa rfl) (aa rfl) it it rfl) lz mc) al)) rfl).trans e;rcases hd with rfl | rfl
 ·exact aU rfl rfl (mr rfl rfl rfl rfl rfl (bc (bb (bO (de (k:=false) (cb (aa rfl) rfl)) (de (k:=true) (cb (aa rfl) rfl)))) (tl rfl)))
 ·exact aU rfl rfl (mr rfl rfl rfl rfl rfl (bc (bb (et (de (k:=true) (cb (aa rfl) rfl)))) (tl rfl)))
end RM
set_option maxHeartbeats 1000000
namespace RM
open RL RT
def yN(g:β->D)(im:∀ b,(g b).imm=true)(I:List β->St->Prop):∀ (w done:List β) (Y:St),(∀ u b v Y,done++w=u++b::v->I u Y->(∃ ZC,(bf tg (g b) Y).bind f=some (.nx,ZC)/\I (u++[b]) ZC)\/(B/\∃ ZC,(bf tg (g b) Y).bind f=some (.rt d,ZC)))->I done Y->(∃ Zz,aP f tg (w.map g) Y=some (.nx,Zz)/\I (done++w) Zz)\/(B/\∃ Zz,aP f tg (w.map g) Y=some (.rt d,Zz))
 | [],done,Y,_,h=>.inl #[Y,rfl,by simpa using h]
 | b::w,done,Y,hs,h=>by
  rcases hs done b w Y rfl h with⟨ZC,h1,h3⟩ | ⟨hB,ZC,h1⟩
  ·have go:∀ {r:Option (Out × St)},aP f tg (w.map g) ZC=r->aP f tg ((b::w).map g) Y=r:=fun {r} e=>by
    rw[List.map_cons,aP,if_pos (im b)]
    cases hb:bf tg (g b) Y with
    | none=>rw[hb]at h1;cases h1
    |some ZA=>
     rw[hb]at h1;simp only[Option.bind_some]at h1 ⊢;rw[h1];exact e
   rcases yN (d:=d) (B:=B) g im I w (done++[b]) ZC (fun pre e post Y he=>hs pre e post Y (by simpa using he)) h3 with⟨Zz,h4,h5⟩ | ⟨hB,Zz,h4⟩
   ·exact .inl #[Zz,go h4,by simpa using h5]
   ·exact .inr #[hB,Zz,go h4]
  ·refine .inr #[hB,ZC,?_];rw[List.map_cons,aP,if_pos (im b)]
   cases hb:bf tg (g b) Y with
   | none=>rw[hb]at h1;cases h1
   |some ZA=>
    rw[hb]at h1;simp only[Option.bind_some]at h1 ⊢;rw[h1];rfl
def zo(hi:(Y[i]?).bind id=some (.lst (xs++[.int p])))(h:ev cl (Y.set i (some (.lst xs))) e=some (.int q))(k:ao cl M %[.ife (.cst (.bl (decide (p=q)))) b a|r] (Y.set i (some (.lst xs)))=res):ao cl M %[.ifp i e a b|r] Y=res:=by
 have l:evS cl M (.ifp i e a b) Y=if decide (p=q)=true then ao cl M b (Y.set i (some (.lst xs)))else ao cl M a (Y.set i (some (.lst xs))):=by
  rw[Jb,hi,Option.bind_some];show((xs++[D.int p])[(xs++[D.int p]).length-1]?).bind _=_;rw[show(xs++[D.int p])[(xs++[D.int p]).length-1]?=some (.int p) by simp,Option.bind_some,List.dropLast_concat,h];rfl
 have r':evS cl M (.ife (.cst (.bl (decide (p=q)))) b a) (Y.set i (some (.lst xs)))=if decide (p=q)=true then ao cl M b (Y.set i (some (.lst xs)))else ao cl M a (Y.set i (some (.lst xs))):=by
  rw[dm,aj];rfl
 rw[ao,r',<-l,<-ao]at k;exact k
abbrev Nx(r:Nat->Nat)(m:Nat):Prop:=∀ q q',q<q'->q'<r q->r q<m->¬ (r q<r q'\/r q'=q')
structure Oq(r:Nat->Nat)(k:Nat)(W:List Nat):Prop extends Op r k W where
 nx:Nx r k
 al:∀ q q',q<q'->q'<k->k<=r q->r q'≠q'
section
def Oq.push(O:Oq r k W)(inv:∀ q,q<m->r (r q)=q)(hk:k<m)(h:k<r k):Oq r (k+1) (W++[k]) where
 toOp:=O.toOp.push inv hk h
 nx:=fun q q' h1 h2 h3=>by
  by_cases c:r q=k
  ·exfalso;have:=inv q ⋯;rw[c]at this;lia
  ·exact O.nx q q' h1 h2 ⋯
 al:=fun q q' h1 h2 h3=>by
  by_cases c:q'=k
  ·subst c;lia
  ·exact O.al q q' h1 ⋯ ⋯
def Oq.alone(O:Oq r k [])(inv:∀ q,q<m->r (r q)=q)(hk:k<m)(h:r k=k):Oq r (k+1) []:=by
 have no:∀ q,q<k->k<=r q->False:=fun q h1 h2=>by
  have:=(O.mem q).mpr ⟨h1,h2⟩;cases this
 refine⟨⟨.nil,fun p=>⟨fun h=>(by cases h),fun⟨a,b⟩=>?_⟩⟩,fun q q' h1 h2 h3=>?_,fun q q' h1 h2 h3=>?_⟩
 ·by_cases c:p=k
  ·subst c;lia
  ·exact(no p ⋯ ⋯).elim
 ·by_cases c:r q=k
  ·exfalso;have:=inv q ⋯;rw[c,h]at this;lia
  ·exact O.nx q q' h1 h2 ⋯
 ·exact(no q ⋯ ⋯).elim
def Oq.pop(O:Oq r k (W0++[r k]))(inv:∀ q,q<m->r (r q)=q)(hk:k<m)(h:r k<k):Oq r (k+1) W0:=by
 have up:=O.up;rw[Zp]at up;refine#[#[up.1,fun p=>?_],fun q q' h1 h2 h3=>?_,fun q q' h1 h2 h3=>?_]
 ·constructor
  ·intro hp;have lt:=up.2.2 p hp (r k) (by simp);have:=(O.mem p).mp (by simp[hp]);refine#[by lia,?_];by_cases c:r p=k
   ·have i:=inv p ⋯;rw[c]at i;lia
   ·lia
  ·rintro⟨a,b⟩
   have pk:p≠k:=by rintro rfl;lia
   have:=(O.mem p).mpr ⟨by lia,by lia⟩;simp at this;rcases this with h | h
   ·exact h
   ·rw[h,inv k hk]at b;lia
 ·by_cases c:r q=k
  ·have i:=inv q ⋯;rw[c]at i;subst i;rintro(z | z)
   ·have mq:=(O.mem q').mpr ⟨by lia,by lia⟩;simp at mq;rcases mq with mq | mq
    ·have:=up.2.2 q' mq (r k) (by simp);lia
    ·lia
   ·exact O.al (r k) q' h1 ⋯ ⋯ z
  ·exact O.nx q q' h1 h2 ⋯
 ·by_cases c:q'=k
  ·subst c;lia
  ·exact O.al q q' h1 ⋯ ⋯
end
def DG{cl:Cl}{m:Nat}{E:List Nat}(hm:m<=1000)(El:E.length=m)(inv:∀ q,q<m->at' E (at' E q)=q)(lt:∀ q,q<m->at' E q<m):∃ b:Bool,evF cl fV [.tup (L E)]=some (.bl b)/\(b=true->Nx (at' E) m)/\(Nx (at' E) m->b=true):=by
 have en:=tm El
 have st:=yN (B:=¬ Nx (at' E) m) (f:=ao cl [1] bL) (tg:=[2,3]) (d:=.bl false) (pr E) (fun _=>rfl)
  (fun u Y=>∃ (W:List Nat) (o2 o3:Option D),Y=[some (.tup (L E)),some (.lst (L W)),o2,o3]/\Oq (at' E) u.length W/\W.length<=u.length)
  (List.range m) [] [some (.tup (L E)),some (.lst (L [])),none,none] (by
   rintro u p v Y hu ⟨W,o2,o3,rfl,O,Wl⟩;obtain⟨hk,hp⟩:=gq (g:=id) (by simpa using hu);simp only[id]at hp;subst hp
   have ml:(L W).length<most:=by rw[aS];unfold most;lia
   by_cases c:u.length<at' E u.length
   ·refine .inl #[_,show ao cl [1] bL [some (.tup (L E)),some (.lst (L W)),some (.int (u.length:Nat)),some (.int (at' E u.length:Nat))]=some (.nx,_)from j8 (bb (aH (k:=true) (aa rfl) (aa rfl) (by rw[tR,decide_eq_true ⋯]))) (lr (aa rfl) rfl rfl ml aN) aN,W++[u.length],some (.int (u.length:Nat)),some (.int (at' E u.length:Nat)),?_,?_,?_]
    ·rw[eg];rfl
    ·rw[List.length_append];exact O.push inv hk c
    ·simp;lia
   ·have cg:(ev cl [some (.tup (L E)),some (.lst (L W)),some (.int (u.length:Nat)),some (.int (at' E u.length:Nat))] (.cmp .gt 3#0 2#0)).bind truth=some false:=bb (aH (k:=false) (aa rfl) (aa rfl) (by rw[tR,Q1 ⋯]));by_cases c2:at' E u.length=u.length
    ·have ce:(ev cl [some (.tup (L E)),some (.lst (L W)),some (.int (u.length:Nat)),some (.int (at' E u.length:Nat))] (.cmp .eq 3#0 2#0)).bind truth=some true:=bb (aH (k:=true) (aa rfl) (aa rfl) (by rw[fF,c2,beq_self_eq_true]))
     cases W with
     |nil=>
      exact .inl #[_,show ao cl [1] bL [some (.tup (L E)),some (.lst (L [])),some (.int (u.length:Nat)),some (.int (at' E u.length:Nat))]=some (.nx,_)from oH cg (j8 ce (bc (by rw[aa rfl];rfl) aN) aN) aN,[],_,_,rfl,by rw[List.length_append];exact O.alone inv hk c2,by simp]
     |cons w W=>
      exact .inr ⟨fun N=>by
       obtain⟨w1,w2⟩:=(O.mem w).mp (Zc ..)
       have wk:at' E w≠u.length:=fun z=>by
        have:=inv w ⋯;rw[z,c2]at this;lia
       exact N w u.length w1 ⋯ (lt w ⋯) (.inr c2),_,show ao cl [1] bL [some (.tup (L E)),some (.lst (L (w::W))),some (.int (u.length:Nat)),some (.int (at' E u.length:Nat))]=some (.rt (.bl false),_)from lM cg (cC ce (cC (by rw[aa rfl];rfl) (aL aj rfl)))⟩
    ·have ce:(ev cl [some (.tup (L E)),some (.lst (L W)),some (.int (u.length:Nat)),some (.int (at' E u.length:Nat))] (.cmp .eq 3#0 2#0)).bind truth=some false:=bb (aH (k:=false) (aa rfl) (aa rfl) (by rw[fF,beq_eq_false_iff_ne.mpr ⋯]));have m1:at' E u.length∈W:=(O.mem _).mpr ⟨by lia,by rw[inv _ hk];exact QV _⟩;have ne:W≠[]:=List.ne_nil_of_mem m1;have dl:=Q9 ne;generalize W.getLast ne=z at dl;generalize W.dropLast=W0 at dl;subst dl
     have hi:(([some (D.tup (L E)),some (.lst (L (W0++[z]))),some (.int (u.length:Nat)),some (.int (at' E u.length:Nat))]:St)[1]?).bind id=some (.lst (L W0++[.int (z:Nat)])):=by rw[eg];rfl
     by_cases c3:z=at' E u.length
     ·refine .inl #[_,show ao cl [1] bL [some (.tup (L E)),some (.lst (L (W0++[z]))),some (.int (u.length:Nat)),some (.int (at' E u.length:Nat))]=some (.nx,_)from oH cg (oH ce (zo hi (aa rfl) (j8 (by rw[aj,decide_eq_true ⋯];rfl) aN aN)) aN) aN,W0,_,_,rfl,?_,?_]
      ·rw[List.length_append];subst c3;exact O.pop inv hk ⋯
      ·simp at Wl ⊢;lia
     ·exact .inr ⟨fun N=>by
       have up:=O.up;rw[Zp]at up
       have m0:at' E u.length∈W0:=by
        rcases List.mem_append.mp m1 with h | h
        ·exact h
        ·exact absurd (List.mem_singleton.mp h).symm c3
       have lz:=up.2.2 _ m0 z (by simp);have zz:=(O.mem z).mp (by simp)
       have zk:at' E z≠u.length:=fun q=>by
        have:=inv z ⋯;rw[q]at this;exact c3 this.symm
       have i:=inv u.length hk
       exact N (at' E u.length) z lz (by rw[i];exact zz.1) (by rw[i];exact hk) (.inl (by rw[i];lia)),_,show ao cl [1] bL [some (.tup (L E)),some (.lst (L (W0++[z]))),some (.int (u.length:Nat)),some (.int (at' E u.length:Nat))]=some (.rt (.bl false),_)from lM cg (lM ce (zo hi (aa rfl) (lM (by rw[aj,Q1 ⋯];rfl) (aL aj rfl))))⟩)
  ⟨[],none,none,rfl,⟨⟨by simp,by simp⟩,fun q q' _ _ h=>absurd h (Nat.not_lt_zero _),fun q q' _ h=>absurd h (Nat.not_lt_zero _)⟩,by simp⟩
 rw[<-en]at st
 rcases st with⟨Zz,e,W,o2,o3,rfl,O,_⟩ | ⟨nN,Zz,e⟩
 ·refine#[true,aU rfl rfl (d8 (dR aA) rfl (bY (nK (aa rfl) rfl) e (aL aj rfl))),fun _=>?_,fun _=>rfl];have:=O.nx;rw[List.nil_append,List.length_range]at this;exact this
 ·exact⟨false,aU rfl rfl (d8 (dR aA) rfl (my (nK (aa rfl) rfl) e)),(fun h=>by cases h),fun N=>absurd N nN⟩
end RM
set_option maxHeartbeats 1000000
namespace RM
open RL RT
abbrev xi(xs:List Int)(p:Nat):Int:=(xs[p]?).getD 0
abbrev nb(xs:List Int)(p:Nat):Bool:=decide (0<=xi xs p/\xi xs p<xs.length)&&decide (xi xs (xi xs p).toNat=p)
def BC(h:p<xs.length):ixV (.tup (LI xs)) (.int (p:Nat))=some (.int (xi xs p)):=by
 show bI _ _=_;rw[eX];simp[LI,xi,h]
def tW(xs:List Int):biV .len (.tup (LI xs))=some (.int (xs.length:Nat)):=congrArg (fun n:Nat=>some (D.int n)) (zx xs)
def bls(g:β->Bool):∀ xs:List β,d7 (xs.map fun x=>D.bl (g x))=some (xs.map g)
 | []=>rfl
 | x::r=>by rw[List.map_cons,d7,bls g r];rfl
def CF(g:β->Bool)(xs:List β):biV .all (.lst (xs.map fun x=>D.bl (g x)))=some (.bl (xs.all g)):=by
 show(d7 (xs.map fun x=>D.bl (g x))).map _=_;rw[bls,Option.map_some,List.all_map];rfl
section
def Ga(hnum:∀ i:Int,cl fn [.int i]=some (.bl true))(hp:p<xs.length):evF cl (iP fn) [.tup (LI xs),.int (p:Nat)]=some (.bl (nb xs p)):=by
 unfold nb;have a1:ev cl [some (.tup (LI xs)),some (.int (p:Nat)),some (.int (xi xs p))] (.call fn (.cons 2#0 .nil))=some (.bl true):=gI (aa rfl) (hnum _);have as:∀ {res:Option (Out × St)} {r:Ss},ao cl [] r [some (.tup (LI xs)),some (.int (p:Nat)),some (.int (xi xs p))]=res->ao cl [] (.cons (.asg 2 (.ix 0#0 1#0)) r) [some (.tup (LI xs)),some (.int (p:Nat)),none]=res:=fun h=>aJ (aI (aa rfl) (aa rfl) (BC hp)) rfl h;by_cases c:0<=xi xs p/\xi xs p<xs.length
 ·rw[decide_eq_true c,Bool.true_and];obtain⟨j,hj⟩:=Zg c.1;rw[hj]at c as a1 ⊢;have i2:=BC (xs:=xs) (p:=j) ⋯
  exact aU rfl rfl (as (aL (bO a1 (bO (lB (k:=true) aj (aa rfl) (bJ (aa rfl) (tW xs)) (by rw[sA,decide_eq_true c.1]) (by rw[iN,decide_eq_true c.2])) (aH (aI (aa rfl) (aa rfl) i2) (aa rfl) (by
   rw[fF,Int.toNat_natCast]
   congr 1)))) rfl))
 ·rw[Q1 c,Bool.false_and];by_cases c1:0<=xi xs p
  ·exact aU rfl rfl (as (aL (bO a1 (et (lB (k:=false) aj (aa rfl) (bJ (aa rfl) (tW xs)) (by rw[sA,decide_eq_true c1]) (by rw[iN,Q1 (fun z=>c ⟨c1,z⟩)])))) rfl))
  ·exact aU rfl rfl (as (aL (bO a1 (et (zC aj (aa rfl) (by rw[sA,Q1 c1])))) rfl))
def uv(hm:xs.length<=1000)(hb:∀ p:Nat,p<xs.length->cl fb [.tup (LI xs),.int (p:Nat)]=some (.bl (nb xs p))):evF cl (iA fb) [.tup (LI xs)]=some (.bl ((List.range xs.length).all (nb xs))):=by
 have mc:=jC (F:=fun ZA=>(ev cl ZA (.call fb (.cons 0#0 (.cons 1#0 .nil)))).map some) (tg:=[1]) (Y:=[some (.tup (LI xs)),none]) (h:=fun p=>.int (p:Nat)) (g:=fun p=>.bl (nb xs p)) (fun _=>rfl) (List.range xs.length) (by
  intro p hp;show(ev cl [some (.tup (LI xs)),some (.int (p:Nat))] (.call fb %[0#0,1#0|.nil])).map some=_;rw[cZ (aa rfl) (aa rfl) (hb p (List.mem_range.mp hp))]
  rfl)
 exact aU rfl rfl (aL (bO (cb (aa rfl) rfl) (bJ (gg (nS (bJ (aa rfl) (tW xs)) (dk hm)) (by rw[aS,List.length_range];unfold most;lia) mc) (CF _ _))) rfl)
def JI(f:List Nat):L f=LI (f.map Int.ofNat):=by unfold L LI;rw[List.map_map];rfl
def wx(len:h.length=m)(lt:∀ q,q<m->at' h q<m)(inv:∀ q,q<m->at' h (at' h q)=q):(List.range (h.map Int.ofNat).length).all (nb (h.map Int.ofNat))=true:=by
 have x1:∀ q,q<m->xi (h.map Int.ofNat) q=(at' h q:Nat):=fun q hq=>by simp[xi,at',show q<h.length by lia]
 rw[Zf,List.length_map,len];intro q hq;have hq:=List.mem_range.mp hq;have l:=lt q hq;unfold nb;rw[x1 q hq,Int.toNat_natCast,x1 _ l,inv q hq,List.length_map,len];rw[decide_eq_true ⟨by lia,by lia⟩];simp
end
structure Dg(T:List Fn)(mx rw dg:Nat):Prop where
 Kf:T[mx]?=some kP
 JB:T[rw]?=some (l6 mx)
 JY:T[dg]?=some (fQ rw)
def Dg.digits{T:List Fn}{mx rw dg:Nat}(h:Dg T mx rw dg){ns:List Int}(hl:ns.length<=63)(n:Nat){k:Nat}{sizes:List Nat}(hk:k<=1000)(hp:∀ s∈sizes,0<s/\s<2 ^ 200)(hz:sizes.length<=1000) :
  ∃ ds:List Nat,ju ds sizes/\a7 T (n+3) dg [.lst (LI ns),.int k,.lst (L sizes)]=some (.lst (L ds)):=by
 obtain⟨r,hr⟩:=CK (cl:=a7 T (n+1)) (f:=mx) (fun s=>by
  obtain⟨m,hm⟩:=Ci (cl:=a7 T n) s
  exact#[m,(a5 h.Kf).trans hm]) hl hk
 obtain⟨ds,h1,h2⟩:=xo (cl:=a7 T (n+2)) (f:=rw) ((a5 h.JB).trans hr) hp hz;exact#[ds,h1,(a5 h.JY).trans h2]
section
variable{T:List Fn}{mx rw dg pl hk ci ft tx rg hu ov fr:Nat}
end
structure Ck(T:List Fn)(nu pc pa nb un if' cf po rp ir mv:Nat):Prop where
 Jx:T[nu]?=some eK
 Ju:T[pc]?=some (df nu)
 JL:T[pa]?=some (iA nb)
 JJ:T[nb]?=some (iP nu)
 Jv:T[un]?=some fV
 Ig:T[if']?=some (gP un ir pa pc po)
 JU:T[cf]?=some (eL if')
 Hu:T[po]?=some gy
 J0:T[rp]?=some dz
 J6:T[ir]?=some (fM mv rp po)
 J7:T[mv]?=some jH
section
variable{T:List Fn}{nu pc pa nb un if' cf po rp ir mv:Nat}
def Ck.num(h:Ck T nu pc pa nb un if' cf po rp ir mv)(n:Nat)(i:Int):a7 T (n+1) nu [.int i]=some (.bl true):=(a5 h.Jx).trans (gM i)
def Ck.Ke(h:Ck T nu pc pa nb un if' cf po rp ir mv)(n:Nat)(i:Int):a7 T (n+2) pc [.int i]=some (.bl (decide (1<=i/\i<=10))):=(a5 h.Ju).trans (iz (h.num n) i)
def Ck.of(h:Ck T nu pc pa nb un if' cf po rp ir mv)(n:Nat)(xs:List D):a7 T (n+1) po [.tup xs]=some (.int (xs.length / 2)):=(a5 h.Hu).trans (se xs)
def Ck.ofL(h:Ck T nu pc pa nb un if' cf po rp ir mv)(n:Nat)(xs:List D):a7 T (n+1) po [.lst xs]=some (.int (xs.length / 2)):=(a5 h.Hu).trans (mD xs)
def Ck.place(h:Ck T nu pc pa nb un if' cf po rp ir mv)(n:Nat){k p:Nat}(hp:p<2*k):a7 T (n+1) rp [.int k,.int (p:Nat)]=some (.int (rd k p:Nat)):=(a5 h.J0).trans (oJ hp)
def Ck.move(h:Ck T nu pc pa nb un if' cf po rp ir mv)(n:Nat){k:Nat}{f:List Nat}{U:D}{to:Nat->Nat}(hk:k<=10)(F:Frm k f)(hT:∀ p:Nat,p<2*k->ixV U (.int (p:Nat))=some (.int (to p:Nat)))(hlt:∀ p,p<2*k->to p<2*k)(inj:∀ p q,p<2*k->q<2*k->to p=to q->p=q) :
  ∃ E:List Nat,E.length=2*k/\(∀ p,p<2*k->at' E (to p)=to (at' f p))/\a7 T (n+1) mv [.tup (L f),U]=some (.tup (L E)):=by
 obtain⟨E,h1,h2,h3⟩:=xx (cl:=a7 T n) (T:=U) (to:=to) hk F hT hlt inj;exact#[E,h1,h2,(a5 h.J7).trans h3]
def Ck.round(h:Ck T nu pc pa nb un if' cf po rp ir mv)(n:Nat){k:Nat}{f:List Nat}(hk:k<=10)(F:Frm k f):∃ E:List Nat,E.length=2*k/\(∀ q,q<2*k->at' E q=rnd k f q)/\a7 T (n+2) ir [.tup (L f)]=some (.tup (L E)):=by
 obtain⟨E,h1,h2,h3⟩:=t9 (cl:=a7 T (n+1)) (fm:=mv) (frp:=rp) (fpo:=po) hk F (h.of n) (fun p hp=>h.place n hp) (h.move n (U:=.lst (L (pK k))) (to:=rd k) hk F (fun p hp=>D7 hp) (fun p hp=>du hp) (fun p q hp hq h=>yj hp hq h));exact#[E,h1,h2,(a5 h.J6).trans h3]
def Ck.frame(h:Ck T nu pc pa nb un if' cf po rp ir mv)(n:Nat){k:Nat}{f:List Nat}(h1:1<=k)(hk:k<=10)(V:Val k f):a7 T (n+4) if' [.tup (L f)]=some (.bl true) :=
 (a5 h.Ig).trans (rh h1 hk V (h.of (n+2)) (by rw[h.Ke (n+1),decide_eq_true ⋯])
  (by
   have F:=V.frm;have p:=(a5 (n:=n+2) h.JL).trans (uv (xs:=f.map Int.ofNat) (by rw[List.length_map,F.len];lia) fun q hq=>(a5 h.JJ).trans (Ga (h.num n) hq));rw[wx F.len F.lt (fun q _=>F.inv q),<-JI]at p
   exact p)
  (h.round (n+1) hk V.frm) (fun E a b c d l=>(a5 h.Jv).trans (by
   obtain⟨w,e,_,hb⟩:=DG (cl:=a7 T (n+2)) (m:=2*k) ⋯ a b l
   rw[hb fun q q' x y z w=>by
    have:=d q q' ⋯ ⋯;have:=c q' ⋯
    lia]at e
   exact e)))
def Ck.check(h:Ck T nu pc pa nb un if' cf po rp ir mv)(n:Nat){k:Nat}{f:List Nat}(h1:1<=k)(hk:k<=10)(V:Val k f):a7 T (n+5) cf [.tup (L f)]=some .non:=(a5 h.JU).trans (nO (h.frame n h1 hk V))
end
def sT(hf:f.length=n)(hg:g.length=n)(h:∀ x,x<n->at' f x=at' g x):f=g:=by
 refine List.ext_getElem? fun x=>?_;by_cases hx:x<n
 ·rw[fk ⋯,fk ⋯,h x hx]
 ·rw[List.getElem?_eq_none ⋯,List.getElem?_eq_none ⋯]
def mZ:∀ {a b:List Nat},a.Nodup->(∀ x∈a,x∈b)->a.length<=b.length
 | [],_,_,_=>Nat.zero_le _
 | x::r,b,hn,h=>by
  rw[List.nodup_cons]at hn;have hx:=h x Zc;have:=mZ (a:=r) (b:=b.erase x) hn.2 fun y hy=>(List.mem_erase_of_ne (fun e=>hn.1 (by rw[<-e];exact hy))).mpr (h y (Q4 _ hy));rw[List.length_erase_of_mem hx]at this;have:0<b.length:=List.length_pos_of_mem hx;simp only[List.length_cons];lia
def IX(hl:ns.length<=63):ij (.scr (LI ns)) (.int 63)=some (.lst (LI ns)):=by
 show some (D.lst ((LI ns).take (cutAt (LI ns).length 63)))=_;rw[List.take_of_length_le]
 have:(LI ns).length=ns.length:=by simp[LI]
 rw[this];unfold cutAt;rw[if_pos ∅];have:(63:Int).toNat=63:=rfl;lia
def zX(hl:ns.length<=63)(hN:N<=1000)
 (turn:∀ (k:Nat) (os:List (Option D)),k<N->os.length=m->∃ os',os'.length=m+1/\ao cl M B (some (.lst (LI ns))::some (.int (k:Nat))::os)=some (.nx,some (.lst (LI ns))::os')) :
  evF cl ⟨1,m+2,M,[],.cons (.asg 0 (.slT 0#0 63#1)) %[.forr [1] (.rng1 (.cst (.int (N:Nat)))) B,.ret (.cst (.bl true))|.nil]⟩ [.scr (LI ns)]=some (.bl true):=by
 have e1:=dk (n:=N) hN
 obtain⟨Zz,e,os,hos,rfl⟩:=cX (f:=ao cl M B) (tg:=[1]) (xs:=List.range N) (Y:=some (.lst (LI ns))::List.replicate (m+1) none) (fun _ Y=>∃ os:List (Option D),os.length=m+1/\Y=some (.lst (LI ns))::os) ⟨_,by simp,rfl⟩ (by
  rintro p x q Y hx ⟨os,ho,rfl⟩
  have hxN:x<N:=by
   have:x∈List.range N:=by rw[hx];simp
   simpa using this
  cases os with
  | nil=>simp at ho
  |cons o os=>
   obtain⟨os',h1,h2⟩:=turn x os hxN (by simpa using ho)
   exact#[_,by simpa[eW]using h2,os',h1,rfl])
 exact aU rfl rfl (aJ (k8 (aa rfl) aj (IX hl)) (by simp[aK,D.imm,aB,xA]) (bY (nS aj e1) e (aL aj rfl)))
section
end
section
variable{nu pc pa nb un if' cf po rp ir mv:Nat}
end
end RM
set_option maxHeartbeats 1000000
namespace RT
open RL
end RT
namespace RM
open RL RT
section
end
structure Two(m:Nat)(a b:Nat->Nat):Prop where
 al:∀ x,x<m->a x<m
 bl:∀ x,x<m->b x<m
 ai:∀ x,x<m->a (a x)=x
 bi:∀ x,x<m->b (b x)=x
abbrev wk(a b:Nat->Nat)(x:Nat):Nat->Nat
 | 0=>x
 | k+1=>if k%2=0 then b (wk a b x k)else a (wk a b x k)
abbrev Stp(a b:Nat->Nat)(x k:Nat):Prop:=wk a b x (k+1)=wk a b x k\/wk a b x (k+1)=x
noncomputable instance{a b:Nat->Nat}{x k:Nat}:Decidable (Stp a b x k):=inferInstanceAs (Decidable (_\/_))
section
def eN(h:k%2=0):wk a b x (k+1)=b (wk a b x k):=by rw[wk,if_pos h]
def gW(h:k%2=1):wk a b x (k+1)=a (wk a b x k):=by rw[wk,if_neg ⋯]
def jd(T:Two m a b)(hx:x<m):∀ k,wk a b x k<m
 | 0=>hx
 | k+1=>by
  rw[wk];split
  ·exact T.bl _ (jd T hx k)
  ·exact T.al _ (jd T hx k)
def jM(T:Two m a b)(hx:x<m)(k:Nat):(if k%2=0 then b (wk a b x (k+1))else a (wk a b x (k+1)))=wk a b x k:=by
 have h:=jd T hx k;rw[wk];split
 ·exact T.bi _ h
 ·exact T.ai _ h
def GV(T:Two m a b)(hx:x<m)(hp:i%2=j%2)(h:wk a b x (i+1)=wk a b x (j+1)):wk a b x i=wk a b x j:=by
 rw[<-jM T hx i,<-jM T hx j,h,hp]
def uA(T:Two m a b)(hx:x<m)(hs:∀ j,j<k->¬ Stp a b x j)(hd:d%2=1):∀ i,i+(d+1)<=k->wk a b x i≠wk a b x (i+(d+1))
 | 0,hk,h=>hs d ⋯ (.inr (by rw[Nat.zero_add]at h;exact h.symm))
 | i+1,hk,h=>uA T hx hs hd i ⋯ (GV T hx (i:=i) (j:=i+(d+1)) ⋯ (by rw[h];congr 1;lia))
def yX(T:Two m a b)(hx:x<m)(hs:∀ j,j<k->¬ Stp a b x j):∀ (c i:Nat),i+(2*c+1)<=k->wk a b x i≠wk a b x (i+(2*c+1))
 | 0,i,hk,h=>hs i ⋯ (.inl h.symm)
 | c+1,i,hk,h=>by
  refine yX T hx hs c (i+1) ⋯ ?_;have h1:=jM T hx (i+(2*c+2));rw[show i+(2*c+2)+1=i+(2*(c+1)+1) by lia,<-h]at h1
  have h2:wk a b x (i+1)=if(i+(2*c+2))%2=0 then b (wk a b x i)else a (wk a b x i):=by
   rw[wk]
   have:(i+(2*c+2))%2=i%2:=by lia
   rw[this]
  rw[h2,h1];congr 1;lia
def qH(T:Two m a b)(hx:x<m)(hs:∀ j,j<k->¬ Stp a b x j)(hij:i<j)(hj:j<=k):wk a b x i≠wk a b x j:=by
 obtain⟨d,rfl⟩:∃ d,j=i+(d+1):=#[j-i-1,by lia]
 by_cases c:d%2=1
 ·exact uA T hx hs c i hj
 ·obtain⟨e,rfl⟩:∃ e,d=2*e:=#[d / 2,by lia]
  exact yX T hx hs e i hj
def least{P:Nat->Prop} [DecidablePred P]:∀ n,P n->∃ k,k<=n/\P k/\∀ j,j<k->¬ P j:=by
 intro n
 induction n using Nat.strongRecOn with
 |_ n ih=>
  intro h;by_cases c:∃ j,j<n/\P j
  ·obtain⟨j,hj,hp⟩:=c;obtain⟨k,h1,h2,h3⟩:=ih j hj hp;exact#[k,by lia,h2,h3]
  ·exact#[n,QV _,h,fun j hj hp=>c #[j,hj,hp]]
def ng(T:Two m a b)(hx:x<m):∃ k,k<m/\Stp a b x k/\∀ j,j<k->¬ Stp a b x j:=by
 by_cases c:∃ k,k<m/\Stp a b x k
 ·obtain⟨k,h1,h2⟩:=c;obtain⟨j,h3,h4,h5⟩:=least k h2;exact#[j,by lia,h4,h5]
 ·exfalso;have hs:∀ j,j<m->¬ Stp a b x j:=fun j hj h=>c ⟨j,hj,h⟩
  have nd:((List.range (m+1)).map (wk a b x)).Nodup:=by
   rw[List.nodup_iff_pairwise_ne,List.pairwise_map];refine List.Pairwise.imp_of_mem ?_ (List.pairwise_lt_range (n:=m+1));intro i j hi hj hlt;exact qH T hx hs hlt (by have:=List.mem_range.mp hj;lia)
  have:=mZ nd (b:=List.range m) fun y hy=>by
   obtain⟨i,_,rfl⟩:=List.mem_map.mp hy;exact List.mem_range.mpr (jd T hx i)
  simp at this;lia
inductive Cn (a b:Nat->Nat) (x:Nat):Nat->Prop
 | refl:Cn a b x x
 | sa {y:Nat}:Cn a b x y->Cn a b x (a y)
 | sb {y:Nat}:Cn a b x y->Cn a b x (b y)
def Cn.lt(T:Two m a b)(hx:x<m)(h:Cn a b x y):y<m:=by
 induction h with
 | refl=>exact hx
 | sa _ ih=>exact T.al _ ih
 | sb _ ih=>exact T.bl _ ih
def Cn.trans(h:Cn a b x y)(h':Cn a b y z):Cn a b x z:=by
 induction h' with
 | refl=>exact h
 | sa _ ih=>exact .sa ih
 | sb _ ih=>exact .sb ih
def Cn.symm(T:Two m a b)(hx:x<m)(h:Cn a b x y):Cn a b y x:=by
 induction h with
 | refl=>exact .refl
 |@sa y h ih=>
  have:=Cn.sa (a:=a) (b:=b) (Cn.refl (x:=a y));rw[T.ai _ (h.lt T hx)]at this;exact this.trans ih
 |@sb y h ih=>
  have:=Cn.sb (a:=a) (b:=b) (Cn.refl (x:=b y));rw[T.bi _ (h.lt T hx)]at this;exact this.trans ih
def oE:∀ k,Cn a b x (wk a b x k)
 | 0=>.refl
 | k+1=>by
  rw[wk];split
  ·exact .sb (oE k)
  ·exact .sa (oE k)
def vD(T:Two m a b)(hx:x<m)(st:Stp a b x k)(hs:∀ j,j<k->¬ Stp a b x j)(h:a x=x\/∀ y,Cn a b x y->a y≠y/\b y≠y)(hy:Cn a b x y):∃ i,i<=k/\wk a b x i=y:=by
 have bx:∃ i,i<=k/\wk a b x i=b x:=by
  by_cases c:k=0
  ·subst c;refine#[0,QV _,?_];rcases st with st | st
   ·rw[eN rfl]at st;exact st.symm
   ·rw[eN rfl]at st;exact st.symm
  ·exact#[1,by lia,eN rfl]
 have key:∀ j,0<j->j<=k->(∃ i,i<=k/\wk a b x i=a (wk a b x j))/\∃ i,i<=k/\wk a b x i=b (wk a b x j):=by
  intro j h0 hj;have prev:=jM T hx (j-1);rw[show j-1+1=j by omega]at prev
  have next:∃ i,i<=k/\wk a b x i=wk a b x (j+1):=by
   by_cases c:j<k
   ·exact#[j+1,by lia,rfl]
   ·have:j=k:=by lia
    subst this;rcases st with st | st
    ·exact#[j,QV _,st.symm]
    ·exact#[0,by lia,st.symm]
  by_cases c:j%2=0
  ·rw[if_neg ⋯]at prev
   rw[eN c]at next
   exact#[#[j-1,by lia,prev.symm],next]
  ·rw[if_pos ⋯]at prev
   rw[gW ⋯]at next
   exact#[next,#[j-1,by omega,prev.symm]]
 have ax:∃ i,i<=k/\wk a b x i=a x:=by
  rcases h with h | h
  ·exact#[0,by lia,h.symm]
  ·rcases st with st | st
   ·exfalso;have hc:=h _ (oE k);by_cases c:k%2=0
    ·rw[eN c]at st;exact hc.2 st
    ·rw[gW ⋯]at st;exact hc.1 st
   ·by_cases c:k%2=0
    ·exfalso;rw[eN c]at st
     have e:wk a b x k=b x:=by
      have:=congrArg b st;rw[T.bi _ (jd T hx k)]at this;exact this
     by_cases k0:k=0
     ·subst k0;exact(h x .refl).2 e.symm
     ·have:wk a b x 1=b x:=eN rfl;exact qH T hx hs (i:=1) (j:=k) ⋯ (QV _) (by rw[this,e])
    ·rw[gW ⋯]at st
     exact⟨k,QV _,by
      have:=congrArg a st;rw[T.ai _ (jd T hx k)]at this
      exact this⟩
 induction hy with
 | refl=>exact#[0,by lia,rfl]
 |sa _ ih=>
  obtain⟨i,hi,rfl⟩:=ih;by_cases c:i=0
  ·subst c;exact ax
  ·exact(key i ⋯ hi).1
 |sb _ ih=>
  obtain⟨i,hi,rfl⟩:=ih;by_cases c:i=0
  ·subst c;exact bx
  ·exact(key i ⋯ hi).2
def ph(T:Two m a b)(hx:x<m)(st:Stp a b x k)(hs:∀ j,j<k->¬ Stp a b x j)(hb:∀ y,y<m->b y≠y)(ha:a x=x):k%2=1/\a (wk a b x k)=wk a b x k:=by
 have lk:=jd T hx k;by_cases c:k%2=0
 ·exfalso;rcases st with st | st
  ·rw[eN c]at st;exact hb _ lk st
  ·rw[eN c]at st
   have e:wk a b x k=b x:=by
    have:=congrArg b st;rw[T.bi _ lk]at this;exact this
   by_cases k0:k=0
   ·subst k0;exact hb x hx e.symm
   ·have:wk a b x 1=b x:=eN rfl;exact qH T hx hs (i:=1) (j:=k) ⋯ (QV _) (by rw[this,e])
 ·refine#[by lia,?_];rcases st with st | st
  ·rw[gW ⋯]at st;exact st
  ·exfalso;rw[gW ⋯]at st
   have e:wk a b x k=x:=by rw[<-T.ai _ lk,st,ha]
   exact qH T hx hs (i:=0) (j:=k) ⋯ (QV _) e.symm
end
structure fK(m:Nat)(a b:Nat->Nat)(S:List Nat):Prop where
 lt:∀ s∈S,s<m
 nd:S.Pairwise fun s t=>¬ Cn a b s t
 ring:∀ s∈S,∀ y,Cn a b s y->a y≠y/\b y≠y
 all:∀ x,x<m->(∃ s,s<m/\(a s=s\/b s=s)/\Cn a b s x)\/∃ s∈S,Cn a b s x
def fK.le{m:Nat}{a b:Nat->Nat}(T:Two m a b){S S':List Nat}(R:fK m a b S)(R':fK m a b S'):S.length<=S'.length:=by
 have pick:∀ s∈S,∃ t∈S',Cn a b t s:=fun s hs=>by
  rcases R'.all s (R.lt s hs)with⟨q,h1,h2,h3⟩ | h
  ·exfalso;have:=R.ring s hs q (h3.symm T h1);rcases h2 with h2 | h2
   ·exact this.1 h2
   ·exact this.2 h2
  ·exact h
 have:∀ s,∃ t,s∈S->t∈S'/\Cn a b t s:=fun s=>by
  by_cases hs:s∈S
  ·obtain⟨t,h1,h2⟩:=pick s hs;exact#[t,fun _=>#[h1,h2]]
  ·exact#[0,fun z=>absurd z hs]
 obtain⟨g,hg⟩:=Classical.axiomOfChoice this
 have nd:(S.map g).Nodup:=by
  rw[List.nodup_iff_pairwise_ne,List.pairwise_map];refine List.Pairwise.imp_of_mem ?_ R.nd;intro s t hs ht hn e;obtain⟨h1,h2⟩:=hg s hs;obtain⟨h3,h4⟩:=hg t ht;rw[<-e]at h4;exact hn ((h2.symm T (R'.lt _ h1)).trans h4)
 have:=mZ nd (b:=S') fun y hy=>by
  obtain⟨s,hs,rfl⟩:=List.mem_map.mp hy;exact(hg s hs).1
 simpa using this
def fK.one{m:Nat}{a b:Nat->Nat}(T:Two m a b){S S':List Nat}(R:fK m a b S)(R':fK m a b S'):S.length=S'.length:=Nat.le_antisymm (R.le T R') (R'.le T R)
section
end
section
variable{cl:Cl}
abbrev Pth(m:Nat)(a b:Nat->Nat)(y:Nat):Prop:=∃ s,s<m/\(a s=s\/b s=s)/\Cn a b s y
end
abbrev jn(n x:Nat):Nat:=if x<n then x else if x<2*n then x+n else if x<3*n then x-n else x
abbrev rb(n:Nat)(h l:List Nat)(x:Nat):Nat:=if x<2*n then at' h x else 2*n+at' l (x-2*n)
abbrev out(n p:Nat):Nat:=if p<n then p else p+2*n
section
def two(F:Frm n h)(G:Frm n l):Two (4*n) (jn n) (rb n h l):=by
 refine#[fun x hx=>?_,fun x hx=>?_,fun x hx=>?_,fun x hx=>?_]
 ·unfold jn;(repeat' split)<;>lia
 ·unfold rb;split
  ·have:=F.lt x ⋯;lia
  ·have:=G.lt (x-2*n) (by omega);lia
 ·unfold jn;(repeat' split)<;>lia
 ·unfold rb;by_cases c:x<2*n
  ·rw[if_pos c,if_pos (F.lt x c),F.inv]
  ·rw[if_neg c,if_neg ⋯,Nat.add_sub_cancel_left,G.inv];omega
def ot(F:Frm n h)(G:Frm n l)(hx:x<4*n):rb n h l x≠x:=by
 unfold rb;split
 ·rename_i c;exact F.no x c
 ·have:=G.no (x-2*n) (by omega);lia
def cR(hp:p<2*n):out n p<4*n:=by unfold out;split<;>lia
def gB(hp:p<2*n):jn n (out n p)=out n p:=by unfold out jn;(repeat' split)<;>lia
def uP(e:out n p=out n q)(hp:p<2*n)(hq:q<2*n):p=q:=by unfold out at e;(repeat' split at e)<;>lia
def He(hx:x<4*n)(e:jn n x=x):∃ p,p<2*n/\x=out n p:=by
 by_cases c:x<n
 ·exact#[x,by lia,by unfold out;rw[if_pos c]]
 ·have:3*n<=x:=by
   unfold jn at e
   (repeat' split at e)<;>lia
  exact#[x-2*n,by lia,by unfold out;rw[if_neg ⋯];lia]
abbrev en2(n:Nat)(s:Bool × Nat):Nat:=if s.1 then s.2 else 2*n+s.2
def Gd(hs:s.2<2*n)(c:s.1=decide (n<=s.2)):en2 n (stp n h l s)=rb n h l (jn n (en2 n s)):=by
 obtain⟨b,q⟩:=s;unfold stp;rw[if_pos c];dsimp only at c hs ⊢;rw[c];clear c;by_cases c:n<=q
 ·have e:(q+n)%(2*n)=q-n:=by rw[Nat.mod_eq_sub_mod ⋯,Zi (by omega)];lia
  have e2:jn n q=q+n:=by unfold jn;rw[if_neg ⋯,if_pos hs]
  simp only[c,decide_true,Bool.not_true,en2,pick,if_true,Bool.false_eq_true,if_false,e,e2,rb];rw[if_neg ⋯,show q+n-2*n=q-n by lia]
 ·have e:(q+n)%(2*n)=q+n:=Zi ⋯
  have e2:jn n (2*n+q)=n+q:=by unfold jn;rw[if_neg ⋯,if_neg ⋯,if_pos ⋯];lia
  simp only[c,decide_false,Bool.not_false,en2,pick,if_true,Bool.false_eq_true,if_false,e,e2,rb];rw[if_pos ⋯,Nat.add_comm]
def wG(hs:s.2<2*n):s.1=decide (n<=s.2)↔jn n (en2 n s)≠en2 n s:=by
 obtain⟨b,q⟩:=s;dsimp only at hs;cases b
 ·simp only[en2,Bool.false_eq_true,if_false];by_cases c:n<=q
  ·simp only[c,decide_true,Bool.false_eq_true,false_iff,Classical.not_not];unfold jn;rw[if_neg ⋯,if_neg ⋯,if_neg ⋯]
  ·simp only[c,decide_false,true_iff];unfold jn;rw[if_neg ⋯,if_neg ⋯,if_pos ⋯];lia
 ·simp only[en2,if_true];by_cases c:n<=q
  ·simp only[c,decide_true,true_iff];unfold jn;rw[if_neg ⋯,if_pos hs];lia
  ·simp only[c,decide_false,Bool.true_eq_false,false_iff,Classical.not_not];unfold jn;rw[if_pos ⋯]
def Ej(c:¬ s.1=decide (n<=s.2)):stp n h l s=s:=by
 unfold stp;rw[if_neg c]
def EO(hp:p<2*n):en2 n (beg n h l p)=rb n h l (out n p):=by
 unfold beg en2 rb out pick;by_cases c:p<n
 ·simp only[c,decide_true,if_true];rw[if_pos ⋯]
 ·simp only[c,decide_false,Bool.false_eq_true,if_false];rw[if_neg ⋯,show p+2*n-2*n=p by lia]
def jU(F:Frm n h)(G:Frm n l)(hp:p<2*n)(st:Stp (jn n) (rb n h l) (out n p) k)(hs:∀ j,j<k->¬ Stp (jn n) (rb n h l) (out n p) j) :
  ∀ j,en2 n (itr n h l j (beg n h l p))=wk (jn n) (rb n h l) (out n p) (if 2*j+1<=k then 2*j+1 else k):=by
 have T:=two F G;obtain⟨k1,k2⟩:=ph T (cR hp) st hs (fun y hy=>ot F G hy) (gB hp)
 have blt:(beg n h l p).2<2*n:=by
  unfold beg pick;dsimp only;split
  ·exact F.lt p hp
  ·exact G.lt p hp
 intro j
 induction j with
 |zero=>
  rw[if_pos ⋯];show en2 n (beg n h l p)=_;rw[EO hp];exact(eN (k:=0) rfl).symm
 |succ j ih=>
  have hl:=iF (fun x hx=>F.lt x hx) (fun x hx=>G.lt x hx) (h:=h) (l:=l) blt j;show en2 n (stp n h l (itr n h l j (beg n h l p)))=_;by_cases c:2*(j+1)+1<=k
  ·rw[if_pos ⋯]at ih;rw[if_pos c]
   have ne:jn n (en2 n (itr n h l j (beg n h l p)))≠en2 n (itr n h l j (beg n h l p)):=by
    rw[ih];intro e;exact hs (2*j+1) ⋯ (.inl (by rw[gW ⋯];exact e))
   rw[Gd hl ((wG hl).mpr ne),ih,<-gW (a:=jn n) (b:=rb n h l) (x:=out n p) (k:=2*j+1) ⋯,<-eN (a:=jn n) (b:=rb n h l) (x:=out n p) (k:=2*j+1+1) ⋯];congr 1
  ·rw[if_neg c]
   have e:(if 2*j+1<=k then 2*j+1 else k)=k:=by split<;>lia
   rw[e]at ih;rw[Ej (fun z=>(wG hl).mp z (by rw[ih];exact k2)),ih]
def qp:(cD n h l).length=2*n:=by simp[cD]
def AA(hp:p<2*n):at' (cD n h l) p=(itr n h l (4*n) (beg n h l p)).2:=by simp[cD,at',hp]
def yK(F:Frm n h)(G:Frm n l)(hp:p<2*n)(hk:k<4*n)(st:Stp (jn n) (rb n h l) (out n p) k)(hs:∀ j,j<k->¬ Stp (jn n) (rb n h l) (out n p) j) :
  at' (cD n h l) p<2*n/\wk (jn n) (rb n h l) (out n p) k=out n (at' (cD n h l) p):=by
 have T:=two F G;obtain⟨k1,k2⟩:=ph T (cR hp) st hs (fun y hy=>ot F G hy) (gB hp);have w:=jU F G hp st hs (4*n);rw[show(if 2*(4*n)+1<=k then 2*(4*n)+1 else k)=k by split<;>lia]at w;rw[AA hp]
 have blt:(beg n h l p).2<2*n:=by
  unfold beg pick;dsimp only;split
  ·exact F.lt p hp
  ·exact G.lt p hp
 have hl:=iF (fun x hx=>F.lt x hx) (fun x hx=>G.lt x hx) (h:=h) (l:=l) blt (4*n);refine#[hl,?_];rw[<-w];have no:¬ (itr n h l (4*n) (beg n h l p)).1=decide (n<=(itr n h l (4*n) (beg n h l p)).2):=fun z=>(wG hl).mp z (by rw[w];exact k2);generalize itr n h l (4*n) (beg n h l p)=s at *;obtain⟨b,q⟩:=s;unfold en2 out;dsimp only at no hl ⊢;cases b
 ·rw[if_neg ∅];have:¬ q<n:=fun c=>no (by simp[show ¬ n<=q by lia]);rw[if_neg this];lia
 ·rw[if_pos rfl]
  have:q<n:=by
   apply Classical.byContradiction;intro c;exact no (by simp[show n<=q by lia])
  rw[if_pos this]
def found_iff(F:Frm n h)(G:Frm n l)(hp:p<2*n)(hq:q<2*n)(ne:p≠q):at' (cD n h l) p=q↔Cn (jn n) (rb n h l) (out n p) (out n q):=by
 have T:=two F G;obtain⟨k,hk,st,hs⟩:=ng T (cR hp);obtain⟨e1,e2⟩:=yK F G hp hk st hs;constructor
 ·intro e;rw[<-e,<-e2];exact oE k
 ·intro c;obtain⟨i,hi,e⟩:=vD T (cR hp) st hs (.inl (gB hp)) c
  have fx:jn n (wk (jn n) (rb n h l) (out n p) i)=wk (jn n) (rb n h l) (out n p) i:=by rw[e];exact gB hq
  have ik:i=k:=by
   apply Classical.byContradiction;intro z
   have i0:i≠0:=fun z=>by
    subst z;exact ne (uP e hp hq)
   by_cases c:i%2=1
   ·exact hs i ⋯ (.inl (by rw[gW c];exact fx))
   ·have:=jM T (cR hp) (i-1);rw[show i-1+1=i by lia,if_neg ⋯,fx]at this;exact hs (i-1) ⋯ (.inl (by rw[show i-1+1=i by lia];exact this))
  subst ik;rw[e2]at e;exact(uP e e1 hq)
end
section
def CJ{β:Type}{Y:St}{e:E}{i:Nat}{u g:β->D}(im:∀ x,(g x).imm=true)(xs:List β)(h:∀ x∈xs,ev cl (Y.set i (some (u x))) e=some (g x)):cq (fun ZA=>(ev cl ZA e).map some) [i] Y (xs.map u)=some (xs.map g) :=
 jC im xs fun x hx=>by
  show Option.map some (ev cl (Y.set i (some (u x))) e)=_;rw[h x hx];rfl
def Ed{Y:St}{e:E}{i:Nat}{g:Nat->D}(im:∀ x,(g x).imm=true)(xs:List Nat)(h:∀ x∈xs,ev cl (Y.set i (some (.int (x:Nat)))) e=some (g x)):cq (fun ZA=>(ev cl ZA e).map some) [i] Y (L xs)=some (xs.map g) :=
 CJ im xs h
end
section
def Pth.step{m:Nat}{a b:Nat->Nat}{x y:Nat}(h:Pth m a b x)(c:Cn a b x y):Pth m a b y:=by
 obtain⟨s,h1,h2,h3⟩:=h;exact#[s,h1,h2,h3.trans c]
def iK(hm:m<n):jn n (n+m)=2*n+m:=by unfold jn;rw[if_neg ⋯,if_pos ⋯];lia
def jz(hm:m<n):jn n (2*n+m)=n+m:=by unfold jn;rw[if_neg ⋯,if_neg ⋯,if_pos ⋯];lia
def lY(e:a x=y):Cn a b x y:=by rw[<-e];exact .sa .refl
def lA(e:b x=y):Cn a b x y:=by rw[<-e];exact .sb .refl
def sE(F:Frm n h)(G:Frm n l)(hm:m<n):Gn n h l (2*n) m↔Pth (4*n) (jn n) (rb n h l) (n+m):=by
 have T:=two F G;constructor
 ·rintro⟨p,hp,j,hj,t1,t2⟩;obtain⟨k,hk,st,hs⟩:=ng T (cR hp);have w:=jU F G hp st hs j;refine#[out n p,cR hp,.inl (gB hp),?_]
  have c:Cn (jn n) (rb n h l) (out n p) (en2 n (itr n h l j (beg n h l p))):=by rw[w];exact oE _
  have blt:(beg n h l p).2<2*n:=by
   unfold beg pick;dsimp only;split
   ·exact F.lt p hp
   ·exact G.lt p hp
  have hl:=iF (fun x hx=>F.lt x hx) (fun x hx=>G.lt x hx) (h:=h) (l:=l) blt j;generalize itr n h l j (beg n h l p)=s at *;obtain⟨b,q⟩:=s;dsimp only at t1 t2 hl;unfold en2 at c;cases b
  ·simp only[Bool.false_eq_true,if_false]at c
   have:q<n:=by
    apply Classical.byContradiction;intro z;rw[decide_eq_true ⋯]at t1;cases t1
   rw[Zi this]at t2;subst t2;have:=Cn.sa c;rw[jz hm]at this;exact this
  ·rw[if_pos rfl]at c;have:n<=q:=of_decide_eq_true t1.symm;rw[Nat.mod_eq_sub_mod this,Zi ⋯]at t2;rw[show n+m=q by lia];exact c
 ·rintro⟨s,h1,h2,h3⟩;have h2:jn n s=s:=h2.resolve_right (ot F G h1);obtain⟨p,hp,rfl⟩:=He h1 h2;obtain⟨k,hk,st,hs⟩:=ng T (cR hp);obtain⟨k1,k2⟩:=ph T (cR hp) st hs (fun y hy=>ot F G hy) (gB hp);obtain⟨i,hi,e⟩:=vD T (cR hp) st hs (.inl (gB hp)) h3;have na:=iK hm
  have i0:i≠0:=fun z=>by
   subst z;have:=gB hp;rw[show out n p=n+m from e,na]at this;lia
  have ik:i≠k:=fun z=>by
   subst z;rw[e,na]at k2;lia
  have blt:(beg n h l p).2<2*n:=by
   unfold beg pick;dsimp only;split
   ·exact F.lt p hp
   ·exact G.lt p hp
  by_cases c:i%2=1
  ·obtain⟨j,rfl⟩:∃ j,i=2*j+1:=#[i / 2,by lia]
   have w:=jU F G hp st hs j;rw[if_pos hi,e]at w;have hl:=iF (fun x hx=>F.lt x hx) (fun x hx=>G.lt x hx) (h:=h) (l:=l) blt j;refine#[p,hp,j,by lia,?_];unfold Tr;generalize itr n h l j (beg n h l p)=s at *;obtain⟨b,q⟩:=s;unfold en2 at w;dsimp only at w hl ⊢;cases b
   ·rw[if_neg ∅]at w;lia
   ·rw[if_pos rfl]at w;subst w;exact#[(decide_eq_true ⋯).symm,by rw[Nat.mod_eq_sub_mod ⋯,Zi ⋯];lia]
  ·obtain⟨j,rfl⟩:∃ j,i=2*j+1+1:=#[i / 2-1,by lia]
   have w:=jU F G hp st hs j;rw[gW ⋯]at e
   have e':wk (jn n) (rb n h l) (out n p) (2*j+1)=2*n+m:=by
    have:=congrArg (jn n) e;rw[T.ai _ (jd T (cR hp) _),na]at this;exact this
   rw[if_pos ⋯,e']at w;have hl:=iF (fun x hx=>F.lt x hx) (fun x hx=>G.lt x hx) (h:=h) (l:=l) blt j;refine#[p,hp,j,by lia,?_];unfold Tr;generalize itr n h l j (beg n h l p)=s at *;obtain⟨b,q⟩:=s;unfold en2 at w;dsimp only at w hl ⊢;cases b
   ·rw[if_neg ∅]at w
    have:q=m:=by lia
    subst this;exact#[(Q1 ⋯).symm,Zi hm]
   ·rw[if_pos rfl]at w;lia
def mY(F:Frm n h)(G:Frm n l)(hx:x<4*n)(np:¬ Pth (4*n) (jn n) (rb n h l) x):∃ m,m<n/\(x=n+m\/x=2*n+m)/\¬ Pth (4*n) (jn n) (rb n h l) (n+m):=by
 have no:jn n x≠x:=fun e=>np ⟨x,hx,.inl e,.refl⟩;by_cases c:x<2*n
 ·have:n<=x:=by
   apply Classical.byContradiction;intro z;exact no (by unfold jn;rw[if_pos ⋯])
  exact#[x-n,by omega,.inl ⋯,by rw[show n+(x-n)=x by lia];exact np]
 ·have:x<3*n:=by
   apply Classical.byContradiction;intro z;exact no (by unfold jn;rw[if_neg ⋯,if_neg ⋯,if_neg ⋯])
  refine#[x-2*n,by omega,.inr ⋯,fun z=>np (z.step ?_)];have:=iK (n:=n) (m:=x-2*n) (by omega);rw[show 2*n+(x-2*n)=x by lia]at this;exact lY this
def t7(F:Frm n h)(G:Frm n l)(hm:m<n)(np:¬ Pth (4*n) (jn n) (rb n h l) (n+m)):at' l m<n/\¬ Pth (4*n) (jn n) (rb n h l) (n+at' l m)/\Cn (jn n) (rb n h l) (n+m) (n+at' l m):=by
 have T:=two F G;have hl:=G.lt m ⋯
 have e:rb n h l (2*n+m)=2*n+at' l m:=by unfold rb;rw[if_neg ⋯,show 2*n+m-2*n=m by lia]
 have c:Cn (jn n) (rb n h l) (n+m) (2*n+at' l m):=(lY (iK hm)).trans (lA e);have np':¬ Pth (4*n) (jn n) (rb n h l) (2*n+at' l m):=fun z=>np (z.step (c.symm T ⋯));obtain⟨j,hj,e1 | e1,e2⟩:=mY F G ⋯ np'
 ·lia
 ·have:at' l m=j:=by lia
  rw[this];refine#[hj,e2,?_];rw[this]at c;have:=Cn.sa c;rw[jz hj]at this;exact this
def qt(F:Frm n h)(G:Frm n l)(hm:m<n)(np:¬ Pth (4*n) (jn n) (rb n h l) (n+m)):∃ j,j<n/\at' h (n+m)=n+j/\¬ Pth (4*n) (jn n) (rb n h l) (n+j)/\Cn (jn n) (rb n h l) (n+m) (n+j):=by
 have T:=two F G;have hl:=F.lt (n+m) ⋯
 have e:rb n h l (n+m)=at' h (n+m):=by unfold rb;rw[if_pos ⋯]
 have c:Cn (jn n) (rb n h l) (n+m) (at' h (n+m)):=lA e;have np':¬ Pth (4*n) (jn n) (rb n h l) (at' h (n+m)):=fun z=>np (z.step (c.symm T ⋯));obtain⟨j,hj,e1 | e1,e2⟩:=mY F G ⋯ np'
 ·exact#[j,hj,e1,e2,by rw[<-e1];exact c]
 ·lia
def AN(F:Frm n h)(G:Frm n l){inner:List Nat}(hin:∀ m,m∈inner↔m<n/\¬ Pth (4*n) (jn n) (rb n h l) (n+m))
 (f1:∀ x∈inner,∀ y∈inner,f x=f y->Cn (jn n) (rb n h l) (n+x) (n+y))(f2:∀ m∈inner,f (at' l m)=f m)(f3:∀ m∈inner,∀ j,at' h (n+m)=n+j->f j=f m) :
  ∃ S,fK (4*n) (jn n) (rb n h l) S/\(fR (inner.map f)).length=S.length:=by
 have T:=two F G
 have f4:∀ x∈inner,∀ z,Cn (jn n) (rb n h l) (n+x) z->∃ m∈inner,(z=n+m\/z=2*n+m)/\f m=f x:=by
  intro x hx z c
  induction c with
  | refl=>exact#[x,hx,.inl rfl,rfl]
  |sa _ ih=>
   obtain⟨m,hm,e | e,ef⟩:=ih
   ·exact#[m,hm,.inr (by rw[e,iK ((hin m).mp hm).1]),ef]
   ·exact#[m,hm,.inl (by rw[e,jz ((hin m).mp hm).1]),ef]
  |sb _ ih=>
   obtain⟨m,hm,e | e,ef⟩:=ih
   ·have mn:=((hin m).mp hm).1;obtain⟨j,h1,h2,h3,_⟩:=qt F G ((hin m).mp hm).1 ((hin m).mp hm).2;exact#[j,(hin j).mpr #[h1,h3],.inl (by rw[e];unfold rb;rw[if_pos ⋯,h2]),by rw[f3 m hm j h2,ef]]
   ·obtain⟨h1,h2,_⟩:=t7 F G ((hin m).mp hm).1 ((hin m).mp hm).2;exact#[at' l m,(hin _).mpr #[h1,h2],.inr (by rw[e];unfold rb;rw[if_neg ⋯,show 2*n+m-2*n=m by lia]),by rw[f2 m hm,ef]]
 have kR:∀ xs:List Nat,∃ R:List Nat,(∀ r∈R,r∈xs)/\R.map f=fR (xs.map f)/\(R.Pairwise fun r t=>f r≠f t)/\∀ x∈xs,∃ r∈R,f r=f x:=by
  intro xs
  suffices H:∀ (ys:List Nat) (R:List Nat) (done:List Nat),(∀ r∈R,r∈done)->(R.Pairwise fun r t=>f r≠f t)->(∀ x∈done,∃ r∈R,f r=f x)->∃ R':List Nat,(∀ r∈R',r∈done++ys)/\R'.map f=(ys.map f).foldl (fun m k=>if m.any (· == k)then m else m++[k]) (R.map f)/\(R'.Pairwise fun r t=>f r≠f t)/\∀ x∈done++ys,∃ r∈R',f r=f x by
   obtain⟨R,h1,h2,h3,h4⟩:=H xs [] [] (by simp) .nil (by simp);exact#[R,by simpa using h1,h2,h3,by simpa using h4]
  intro ys
  induction ys with
  | nil=>intro R done h1 h2 h3;exact#[R,by simpa using h1,rfl,h2,by simpa using h3]
  |cons y ys ih=>
   intro R done h1 h2 h3;by_cases c:(R.map f).any (· == f y)=true
   ·obtain⟨R',g1,g2,g3,g4⟩:=ih R (done++[y]) (fun r hr=>by simp[h1 r hr]) h2 (fun x hx=>by
     rcases List.mem_append.mp hx with hx | hx
     ·exact h3 x hx
     ·have:x=y:=by simpa using hx
      subst this
      simpa using c)
    exact#[R',by simpa using g1,by rw[List.map_cons,List.foldl_cons,if_pos c];exact g2,g3,by simpa using g4]
   ·obtain⟨R',g1,g2,g3,g4⟩:=ih (R++[y]) (done++[y]) (fun r hr=>by
     rcases List.mem_append.mp hr with hr | hr
     ·simp[h1 r hr]
     ·simp at hr;simp[hr]) (by
     rw[Zp];refine#[h2,by simp,fun r hr t ht e=>c ?_]
     have:t=y:=by simpa using ht
     subst this
     simpa using⟨r,hr,e⟩) (fun x hx=>by
     rcases List.mem_append.mp hx with hx | hx
     ·obtain⟨r,a1,a2⟩:=h3 x hx;exact#[r,by simp[a1],a2]
     ·have:x=y:=by simpa using hx
      subst this
      exact#[x,by simp,rfl])
    exact#[R',by simpa using g1,by rw[List.map_cons,List.foldl_cons,if_neg c];simpa using g2,g3,by simpa using g4]
 obtain⟨R,r1,r2,r3,r4⟩:=kR inner;refine#[R.map fun m=>n+m,#[fun s hs=>?_,?_,fun s hs y hy=>?_,fun x hx=>?_],by rw[<-r2];simp]
 ·obtain⟨m,hm,rfl⟩:=List.mem_map.mp hs;have:=((hin m).mp (r1 m hm)).1;lia
 ·rw[List.pairwise_map];refine List.Pairwise.imp_of_mem ?_ r3;intro a b ha hb ne c;obtain⟨m,hm,e | e,ef⟩:=f4 a (r1 a ha) _ c
  ·have:m=b:=by lia
   subst this;exact ne ef.symm
  ·have:=((hin m).mp hm).1;have:=((hin b).mp (r1 b hb)).1;lia
 ·obtain⟨m,hm,rfl⟩:=List.mem_map.mp hs;obtain⟨j,hj,e,_⟩:=f4 m (r1 m hm) y hy;have jn':=((hin j).mp hj).1;refine⟨?_,ot F G (by rcases e with rfl | rfl<;>lia)⟩;rcases e with rfl | rfl
  ·rw[iK jn'];lia
  ·rw[jz jn'];lia
 ·by_cases np:Pth (4*n) (jn n) (rb n h l) x
  ·exact .inl np
  ·obtain⟨m,hm,e,nm⟩:=mY F G hx np;have mi:=(hin m).mpr ⟨hm,nm⟩;obtain⟨r,hr,er⟩:=r4 m mi;refine .inr #[n+r,List.mem_map.mpr #[r,hr,rfl],?_];have c:=f1 r (r1 r hr) m mi er;rcases e with rfl | rfl
   ·exact c
   ·exact c.trans (lY (iK hm))
end
section
abbrev HF(inner:List Nat)(hk:List Ky)(hv:List D)(f:Nat->Int):Prop:=hk.length=hv.length/\hk.length<=10/\∀ m∈inner,aG hk hv (.inl (m:Int))=some (.int (f m))
def HF.hi(H:HF inner hk hv f):HI inner hk hv:=#[H.1,H.2.1,fun m hm=>#[f m,H.2.2 m hm]]
def HF.put(H:HF inner hk hv f)(hm:m∈inner)(v:Int):HF inner (putD hk hv (.inl (m:Int)) (.int v)).1 (putD hk hv (.inl (m:Int)) (.int v)).2 (fun x=>if x=m then v else f x):=by
 obtain⟨p1,p2,_⟩:=H.hi.put hm v;refine#[p1,p2,fun x hx=>?_];rw[ee H.1];dsimp only;by_cases c:x=m
 ·subst c;rw[if_pos rfl,if_pos rfl]
 ·rw[if_neg (fun e=>c (by injection e with e;lia)),if_neg c];exact H.2.2 x hx
def xG(hl:hk.length<=10)(x:Nat)(d:D):cI (.dK hk hv) (.int (x:Nat)) d=some (.dK (putD hk hv (.inl (x:Int)) d).1 (putD hk hv (.inl (x:Int)) d).2):=by
 rw[EI];dsimp only[keyOf];rw[Option.bind_some,if_pos (by unfold most;lia)]
def sk(H:HF inner hk hv f)(o5 o6 o7:Option D)(keep go:Int):∃ hk' hv' o7',HF inner hk' hv' (fun x=>if f x=go then keep else f x)/\aP (ao cl [4] dQ) [7] (L inner) (rst n h l inner hk hv o5 o6 o7 (some (.int keep)) (some (.int go)))=some (.nx,rst n h l inner hk' hv' o5 o6 o7' (some (.int keep)) (some (.int go))):=by
 obtain⟨Zz,e,hk',hv',o7',g,rfl,H',hg⟩:=cX (f:=ao cl [4] dQ) (tg:=[7]) (xs:=inner) (Y:=rst n h l inner hk hv o5 o6 o7 (some (.int keep)) (some (.int go)))
  (fun p Y=>∃ (hk':List Ky) (hv':List D) (o7':Option D) (g:Nat->Int),Y=rst n h l inner hk' hv' o5 o6 o7' (some (.int keep)) (some (.int go))/\HF inner hk' hv' g/\∀ x,g x=if x∈p then(if f x=go then keep else f x)else f x) ⟨hk,hv,o7,f,rfl,H,fun x=>by simp⟩ (by
   rintro p x q Y hx ⟨hk',hv',o7',g,rfl,H',hg⟩
   have hm:x∈inner:=by rw[hx];simp
   have lk:=lT (H'.2.2 x hm);show ∃ ZC,ao cl [4] dQ (rst n h l inner hk' hv' o5 o6 (some (.int (x:Nat))) (some (.int keep)) (some (.int go)))=some (.nx,ZC)/\_;by_cases c:g x=go
   ·refine#[rst n h l inner (putD hk' hv' (.inl (x:Int)) (.int keep)).1 (putD hk' hv' (.inl (x:Int)) (.int keep)).2 o5 o6 (some (.int (x:Nat))) (some (.int keep)) (some (.int go)),j8 (bb (aH (gY (aa rfl) (aa rfl) lk) (aa rfl) (by rw[fF];congr 1;simp[c]))) (rB (aa rfl) (aa rfl) rfl rfl (xG H'.2.1 x _) aN) aN,_,_,_,_,rfl,H'.put hm keep,fun y=>?_];by_cases e:y=x
    ·subst e;rw[if_pos rfl,if_pos (by simp)];rw[hg]at c;split at c
     ·split
      ·rfl
      ·rename_i z1 z2;rw[if_neg z2]at c;exact absurd c z2
     ·rw[if_pos c]
    ·rw[if_neg e,hg y];simp[e]
   ·refine#[rst n h l inner hk' hv' o5 o6 (some (.int (x:Nat))) (some (.int keep)) (some (.int go)),bc (bb (aH (gY (aa rfl) (aa rfl) lk) (aa rfl) (by rw[fF];congr 1;simp[c]))) aN,_,_,_,_,rfl,H',fun y=>?_];by_cases e:y=x
    ·subst e;rw[if_pos (by simp)];rw[hg]at c ⊢;split at c
     ·rename_i z;rw[if_pos z]
     ·rename_i z;rw[if_neg z,if_neg c]
    ·rw[hg y]
     simp[e])
 refine#[hk',hv',o7',#[H'.1,H'.2.1,fun m hm=>?_],e];rw[H'.2.2 m hm,hg m,if_pos hm]
abbrev Tog(n:Nat)(h l inner:List Nat)(f:Nat->Int):Prop:=∀ x∈inner,∀ y∈inner,f x=f y->Cn (jn n) (rb n h l) (n+x) (n+y)
abbrev mg(f:Nat->Int)(m o x:Nat):Int:=if f x=f o then f m else f x
def nG(e:f a=f b):mg f m o a=mg f m o b:=by unfold mg;rw[e]
def BP:mg f m o o=mg f m o m:=by
 unfold mg;rw[if_pos rfl];split<;>rfl
def Tog.merge(F:Frm n h)(G:Frm n l)(t:Tog n h l inner f)(hlt:∀ m∈inner,m<n)(hm:m∈inner)(ho:o∈inner)(c:Cn (jn n) (rb n h l) (n+m) (n+o)):Tog n h l inner (mg f m o):=by
 have T:=two F G;intro x hx y hy e;have lx:=hlt x hx;have ly:=hlt y hy;have lm:=hlt m hm;have lo:=hlt o ho;unfold mg at e;split at e
 ·rename_i e1;split at e
  ·rename_i e2;exact t x hx y hy (e1.trans e2.symm)
  ·exact(t x hx o ho e1).trans ((c.symm T ⋯).trans (t m hm y hy e))
 ·split at e
  ·rename_i e2;exact(t x hx m hm e).trans (c.trans (t o ho y hy e2.symm))
  ·exact t x hx y hy e
def wo(h1:1<=n)(hn:n<=10)(F:Frm n h)(G:Frm n l)(hil:inner.length<=n)(hin:∀ m,m∈inner↔m<n/\¬ Pth (4*n) (jn n) (rb n h l) (n+m)):∃ S:List Nat,fK (4*n) (jn n) (rb n h l) S/\evF cl eC [.tup (L h),.tup (L l),.lst (L inner)]=some (.int (S.length:Nat)):=by
 have e6:=half (xs:=L h) (n:=n) (by rw[aS,F.len])
 obtain⟨ZA,l1,hk,hv,o5,rfl,H0,H1,H2⟩:=cX (f:=ao cl [4] jj) (tg:=[5]) (xs:=inner) (Y:=rst n h l inner [] [] none none none none none)
  (fun p Y=>∃ hk hv o5,Y=rst n h l inner hk hv o5 none none none none/\hk.length=hv.length/\hk.length<=p.length/\∀ m∈p,aG hk hv (.inl (m:Int))=some (.int (m:Nat))) ⟨[],[],none,rfl,rfl,by simp,by simp⟩ (by
   rintro p x q Y hx ⟨hk,hv,o5,rfl,H0,H1,H2⟩
   have hp:p.length<10:=by
    have:=congrArg List.length hx;simp at this;lia
   have pl:=fg (x:=(.inl (x:Int):Ky)) (d:=.int (x:Nat)) H0;refine⟨rst n h l inner (putD hk hv (.inl (x:Int)) (.int (x:Nat))).1 (putD hk hv (.inl (x:Int)) (.int (x:Nat))).2 (some (.int (x:Nat))) none none none none,rB (cl:=cl) (M:=[4]) (Y:=rst n h l inner hk hv (some (.int (x:Nat))) none none none none) (r:=.nil) (aa rfl) (aa rfl) rfl rfl (xG ⋯ x _) aN,_,_,_,rfl,pl.1,by have:=pl.2;simp;lia,fun m hm=>?_⟩;rw[ee H0];by_cases e:(.inl (x:Int):Ky)=.inl (m:Int)
   ·rw[if_pos e];injection e with e
    have:x=m:=by lia
    rw[this]
   ·rw[if_neg e];simp at hm;rcases hm with hm | hm
    ·exact H2 m hm
    ·exact absurd (by rw[hm]) e)
 have H:HF inner hk hv (fun m=>(m:Int)):=#[H0,by lia,H2]
 obtain⟨ZC,l2',hk',hv',o5',o6',o7',o8',o9',f,rfl,H',t,pr⟩:=cX (f:=ao cl [4] iU) (tg:=[5]) (xs:=inner) (Y:=rst n h l inner hk hv o5 none none none none)
  (fun p Y=>∃ (hk:List Ky) (hv:List D) (o5 o6 o7 o8 o9:Option D) (f:Nat->Int),Y=rst n h l inner hk hv o5 o6 o7 o8 o9/\HF inner hk hv f/\Tog n h l inner f/\∀ m∈p,f (at' l m)=f m/\∀ j,at' h (n+m)=n+j->f j=f m) ⟨hk,hv,o5,none,none,none,none,_,rfl,H,fun x _ y _ e=>by
   have e:(x:Int)=(y:Int):=e
   have:x=y:=by lia
   subst this
   exact .refl,by simp⟩ (by
   rintro p x q Y hx ⟨hk',hv',o5',o6',o7',o8',o9',f,rfl,H',t,pr⟩
   have hm:x∈inner:=by rw[hx];simp
   have hsub:∀ m∈p,m∈inner:=fun m hm=>by rw[hx];simp[hm]
   have hlt:∀ m∈inner,m<n:=fun m hm=>((hin m).mp hm).1;have xn:=hlt x hm;obtain⟨ln,lp,lc⟩:=t7 F G xn ((hin x).mp hm).2;obtain⟨j,jn',hjj,jp,jc⟩:=qt F G xn ((hin x).mp hm).2;have li:=(hin _).mpr ⟨ln,lp⟩;have ji:=(hin _).mpr ⟨jn',jp⟩;obtain⟨hk2,hv2,o72,H2,e2⟩:=sk (cl:=cl) (n:=n) (h:=h) (l:=l) H' (some (.int (x:Nat))) (some (.int (at' l x:Nat))) o7' (f x) (f (at' l x));have t2:=t.merge F G hlt hm li lc;have H2:HF inner hk2 hv2 (mg f x (at' l x)):=H2;obtain⟨hk3,hv3,o73,H3,e3⟩:=sk (cl:=cl) (n:=n) (h:=h) (l:=l) H2 (some (.int (x:Nat))) (some (.int (j:Nat))) o72 (mg f x (at' l x) x) (mg f x (at' l x) j);have H3:HF inner hk3 hv3 (mg (mg f x (at' l x)) x j):=H3;have t3:=t2.merge F G hlt hm ji jc
   have s1:ao cl [4] fN (rst n h l inner hk' hv' (some (.int (x:Nat))) (some (.int (at' l x:Nat))) o7' o8' o9')=some (.nx,rst n h l inner hk2 hv2 (some (.int (x:Nat))) (some (.int (at' l x:Nat))) o72 (some (.int (f x))) (some (.int (f (at' l x))))) :=
    kU (gY (aa rfl) (aa rfl) (lT (H'.2.2 x hm))) (gY (aa rfl) (aa rfl) (lT (H'.2.2 _ li))) rfl (bY (dM (aa rfl) rfl) e2 aN)
   have s2:ao cl [4] fN (rst n h l inner hk2 hv2 (some (.int (x:Nat))) (some (.int (j:Nat))) o72 (some (.int (f x))) (some (.int (f (at' l x)))))=some (.nx,rst n h l inner hk3 hv3 (some (.int (x:Nat))) (some (.int (j:Nat))) o73 (some (.int (mg f x (at' l x) x))) (some (.int (mg f x (at' l x) j)))) :=
    kU (gY (aa rfl) (aa rfl) (lT (H2.2.2 x hm))) (gY (aa rfl) (aa rfl) (lT (H2.2.2 _ ji))) rfl (bY (dM (aa rfl) rfl) e3 aN)
   have i1:=jF (f:=l) (x:=x) (by rw[G.len];lia);have i2:=jF (f:=h) (x:=n+x) (by rw[F.len];lia);rw[hjj]at i2;refine#[rst n h l inner hk3 hv3 (some (.int (x:Nat))) (some (.int (j:Nat))) o73 (some (.int (mg f x (at' l x) x))) (some (.int (mg f x (at' l x) j))),bY (cl:=cl) (M:=[4]) (Y:=rst n h l inner hk' hv' (some (.int (x:Nat))) o6' o7' o8' o9') (dM (x:=.tup [.int (at' l x:Nat),.int (j:Nat)]) (b8 (ah (aI (aa rfl) (aa rfl) i1) (ah (az (aI (aa rfl) (az (aa rfl) (aa rfl) (by rw[bS];rfl)) i2) (aa rfl) (by rw[gr];congr 2;lia)) aA))) rfl) ?_ aN,_,_,_,_,_,_,_,_,rfl,H3,t3,fun m hm'=>?_]
   ·exact eE rfl rfl s1 (eE rfl rfl s2 jI)
   ·rcases List.mem_append.mp hm' with hp | hp
    ·obtain⟨q1,q2⟩:=pr m hp;exact#[nG (nG q1),fun j' hj'=>nG (nG (q2 j' hj'))]
    ·have:m=x:=by simpa using hp
     subst this;refine#[nG BP,fun j' hj'=>?_]
     have:j'=j:=by lia
     subst this
     exact BP)
 obtain⟨S,R,hS⟩:=AN F G hin t (fun m hm=>(pr m hm).1) (fun m hm=>(pr m hm).2);refine#[S,R,?_];have mc:=Ed (cl:=cl) (Y:=rst n h l inner hk' hv' o5' o6' o7' o8' o9') (e:=.ixD 4#0 5#0) (i:=5) (g:=fun m=>.int (f m)) (fun _=>rfl) inner (fun x hx=>gY (aa rfl) (aa rfl) (lT (H'.2.2 x hx)))
 have ls:biV .lenSet (.lst (inner.map fun m=>.int (f m)))=some (.int (S.length:Nat)):=by
  rw[Bz];rw[if_pos (by simp;lia),ints_map,<-hS];rfl
 exact aU rfl rfl (aJ (az (bJ (aa rfl) e6) aj (E6 n)) rfl (d8 (d:=.dK [] []) rfl rfl (bY (dM (aa rfl) rfl) l1 (bY (dM (aa rfl) rfl) l2' (aL (bJ (gg (dM (aa rfl) rfl) (by rw[aS];unfold most;lia) mc) ls) rfl)))))
end
section
variable{nu pc pa nb un if' cf po rp ir mv rn mk rg jb pu c2 hu:Nat}
end
section
variable{mx rw dg pl hk ci ft tx rg hu ov fr:Nat}
end
section
end
section
end
section
end
section
variable{mx rw dg pl hk ci ft tx rg hu ov fr:Nat}
end
section
end
section
end
section
end
section
def jZ(hp:p<2*n):rb n f g p=at' f p:=by unfold rb;rw[if_pos hp]
def oy:rb n f g (2*n+p)=2*n+at' g p:=by unfold rb;rw[if_neg ⋯,show 2*n+p-2*n=p by lia]
end
end RM
set_option maxHeartbeats 1000000
namespace RM
open RL RT
section
end
end RM
set_option maxHeartbeats 1000000
namespace RT
open RL
end RT
namespace RM
open RL RT
section
variable{nu pc pa nb un if' cf po rp ir mv rn mk rg jb pu c2 hu:Nat}
end
end RM
set_option maxHeartbeats 1000000
namespace RM
open RL RT
abbrev rgN(n:Nat)(h l:List Nat):Nat:=Classical.epsilon fun r=>∃ S,fK (4*n) (jn n) (rb n h l) S/\S.length=r
section
def xl(F:Frm n h)(G:Frm n l){S:List Nat}(R:fK (4*n) (jn n) (rb n h l) S):rgN n h l=S.length:=by
 have:=Classical.epsilon_spec (p:=fun r=>∃ S,fK (4*n) (jn n) (rb n h l) S/\S.length=r) ⟨_,S,R,rfl⟩;obtain⟨S',R',e⟩:=this;exact e.symm.trans (R'.one (two F G) R)
end
end RM
set_option maxHeartbeats 1000000
namespace RT
open RL
end RT
namespace RM
open RL RT
section
end
section
variable{nu pc pa nb un if' cf po rp ir mv:Nat}
end
section
end
section
end
def rL(k:Nat):∀ a b:List Nat,a.length=b.length->eqs (eqD k) (L a) (L b)=some (decide (a=b))
 | [],[],_=>rfl
 | x::r,y::s,h=>by
  have ih:=rL k r s (by simpa using h);show((eqD k (.int (x:Nat)) (.int (y:Nat))).bind fun e=>(eqs (eqD k) (L r) (L s)).map fun j=>e&&j)=_;rw[ih,show eqD k (.int (x:Nat)) (.int (y:Nat))=some ((x:Int) == (y:Int)) by cases k<;>rfl];show some (((x:Int) == (y:Int))&&decide (r=s))=_;congr 1;rw[Zd];simp;intro _;lia
def Jk(h:a.length=b.length):ba .eq (.tup (L a)) (.tup (L b))=some (decide (a=b)):=by
 show(eqs (eqD 7) (L a) (L b)).map (fun k=>k&&(L a).length == (L b).length)=_;rw[rL 7 a b h,aS,aS,h];simp
end RM
set_option maxHeartbeats 1000000
namespace RM
open RL RT
section
abbrev iq(n:Nat)(f:List Nat):List Nat:=(List.range (n-1)).filter fun i=>decide (at' f i=i+1)
def Ha(x y:Nat):ba .eq (.int (x:Nat)) (.int (y:Nat))=some (decide (x=y)):=by
 rw[fF];congr 1;rw[Zd,beq_iff_eq,decide_eq_true_eq];omega
def sub_one(h1:1<=n):aF .sub (.int (n:Nat)) (.int 1)=some (.int ((n-1:Nat):Int)):=by
 rw[gr];congr 2;omega
end
section
variable{nu pc pa nb un if' cf po rp ir mv:Nat}
end
end RM
set_option maxHeartbeats 1000000
namespace RM
open RL RT
section
variable{cl:Cl}
end
section
variable{T:List Fn}{nu pc:Nat}
def DZ{ish n:Nat}{k i:Nat}(hnu:T[nu]?=some eK)(his:T[ish]?=some (iS nu))(hi:i+1<k):a7 T (n+2) ish [.int (k:Nat),.int (i:Nat)]=some (.bl true):=by
 refine(a5 his).trans ((u6 (fun i=>(a5 hnu).trans (gM i)) _ _).trans ?_);rw[decide_eq_true (by omega)]
def Hy{cp n:Nat}{k:Nat}(hnu:T[nu]?=some eK)(hpc:T[pc]?=some (df nu))(hcp:T[cp]?=some (fP pc))(h1:1<=k)(hk:k<=10):a7 T (n+3) cp [.int (k:Nat)]=some .non:=by
 refine(a5 hcp).trans (pM ((a5 hpc).trans ((iz (fun i=>(a5 hnu).trans (gM i)) _).trans ?_)));rw[decide_eq_true (by omega)]
end
end RM
namespace RT
open RL
end RT
namespace RM
open RL RT
abbrev fsD(fs:List (List Nat)):List D:=fs.map fun f=>.tup (L f)
abbrev prD(a:List Nat × Nat):D:=.tup [.tup (L a.1),.int (a.2:Nat)]
def lH(f:List Nat):(D.tup (L f)).imm=true:=by simp[D.imm,aY]
def lb(a:List Nat × Nat):(prD a).imm=true:=by
 show((D.tup (L a.1)).imm&&((D.int (a.2:Nat)).imm&&true))=true;rw[lH];rfl
section
variable{nu pc pa nb un if' cf po rp ir mv rn mk rg jb pu c2 hu:Nat}
end
end RM
set_option maxHeartbeats 1000000
namespace RT
open RL
abbrev j5(QB Qt:Nat):Ss :=
 %[.unp [3,5] (.call QB %[2#0,3#0|.nil]),.asg 4 (.bin .add 4#0 5#0)|.nil]
abbrev kH(QB Qt:Nat):Fn :=
 ⟨2,6,[],[],%[.par 3 4 (.call Qt %[0#0|.nil]) 0#1,.forr [2] (.seq (.rev 1#0)) (j5 QB Qt),.ret (.tup %[3#0,4#0|.nil])|.nil]⟩
end RT
namespace RM
open RL RT
section
def yB(t_hu:T[hu]?=some (fO rg))(t_rg:T[rg]?=some eC)(n:Nat)(h1:1<=k)(hk':k<=10)(F:Frm k f)(G:Frm k g) :
  a7 T (n+2) hu [.tup (L f),.tup (L g)]=some (prD (cD k f g,rgN k f g)):=by
 obtain⟨inner,i1,i2,i3⟩:=Br (cl:=a7 T (n+1)) (fr:=rg) h1 hk' F.len G.len F.lt G.lt
 obtain⟨S,R,e⟩:=wo (cl:=a7 T n) h1 hk' F G i2 (fun m=>by
  rw[i1 m]
  exact#[fun#[a,b]=>#[a,fun z=>b ((sE F G a).mpr z)],fun#[a,b]=>#[a,fun z=>b ((sE F G a).mp z)]])
 rw[prD,xl F G R];exact(a5 t_hu).trans (i3 _ ((a5 t_rg).trans e))
end
end RM
set_option maxHeartbeats 1000000
namespace RM
open RL RT
section
end
end RM
set_option maxHeartbeats 1000000
namespace RM
open RL RT
section
end
end RM
set_option maxHeartbeats 1000000
namespace RM
end RM
set_option maxHeartbeats 1000000
namespace RM
open RL RT
def sC(h:x<f.length):ixV (.lst (L f)) (.int (x:Nat))=some (.int (at' f x:Nat)):=by
 show bI _ _=_;rw[eX,om,fk h];rfl
def BV(x:Nat)(h:0<q):aF .mod (.int (x:Nat)) (.int (q:Nat))=some (.int ((x%q:Nat):Int)):=by
 rw[dN (by omega)];congr 2
section
end
end RM
set_option maxHeartbeats 1000000
namespace RM
end RM
set_option maxHeartbeats 1000000
namespace RM
abbrev tkL(f:List Nat)(i l:Nat):List Nat:=(((f.set l i).set i l).set (at' f l) (i+1)).set (i+1) (at' f l)
section
end
end RM
set_option maxHeartbeats 1000000
namespace RM
section
end
end RM
set_option maxHeartbeats 1000000
namespace RM
abbrev dI(n i:Nat):List Nat:=(List.range i).reverse++List.range' n (i+1)
abbrev bef(n i a b:Nat):Prop:=(a<i/\b<i/\b<a)\/(a<i/\n<=b)\/(n<=a/\a<b)
section
def mH:x∈dI n i↔x<i\/(n<=x/\x<=n+i):=by
 unfold dI;rw[List.mem_append,List.mem_reverse,List.mem_range,List.mem_range'_1];lia
def Dh:(dI n i).Pairwise (bef n i):=by
 unfold dI;rw[Zp];refine#[?_,?_,?_]
 ·rw[List.pairwise_reverse];refine List.Pairwise.imp_of_mem ?_ (List.pairwise_lt_range (n:=i));intro a b ha hb h;have:=List.mem_range.mp ha;have:=List.mem_range.mp hb;exact .inl #[by lia,by lia,h]
 ·refine List.Pairwise.imp_of_mem ?_ (List.pairwise_lt_range' (s:=n) (n:=i+1));intro a b ha hb h;have:=List.mem_range'_1.mp ha;exact .inr (.inr #[by lia,h])
 ·intro a ha b hb;rw[List.mem_reverse,List.mem_range]at ha;have:=List.mem_range'_1.mp hb;exact .inr (.inl #[ha,by lia])
end
end RM
set_option maxHeartbeats 1000000
namespace RM
section
end
end RM
set_option maxHeartbeats 1000000
namespace RM
section
end
end RM
set_option maxHeartbeats 1000000
namespace RM
open RL RT
section
def DJ(h1:1<=n)(hn:n<=10)(F:Frm n f)(ho:cl po [.lst (L f)]=some (.int (n:Nat))):evF cl (eG po) [.lst (L f),.int 0]=some (.lst (L (iq n f))):=by
 have mc:=nM (F:=fun ZA=>((ev cl ZA (.cmp .eq (.ix 0#0 (.bin .add 1#0 2#0)) (.bin .add (.bin .add 1#0 2#0) 1#1))).bind truth).bind fun k=>if k then(ev cl ZA 2#0).map some else some none) (tg:=[2]) (Y:=[some (.lst (L f)),some (.int 0),none]) (h:=fun i=>.int (i:Nat)) (g:=fun i=>.int (i:Nat)) (c:=fun i=>decide (at' f i=i+1)) (fun _=>rfl) (List.range (n-1)) (by
  intro i hi;have hi:=List.mem_range.mp hi;show((ev cl [some (.lst (L f)),some (.int 0),some (.int (i:Nat))] (.cmp .eq (.ix 0#0 (.bin .add 1#0 2#0)) (.bin .add (.bin .add 1#0 2#0) 1#1))).bind truth).bind (fun k=>if k then(ev cl [some (.lst (L f)),some (.int 0),some (.int (i:Nat))] 2#0).map some else some none)=_
  have z:aF .add (.int 0) (.int (i:Nat))=some (.int (i:Nat)):=by rw[bS,Int.zero_add]
  rw[bb (aH (aI (aa rfl) (az (aa rfl) (aa rfl) z) (sC (by rw[F.len];omega))) (az (d:=.int ((i+1:Nat):Int)) (az (aa rfl) (aa rfl) z) aj rfl) (Ha _ _)),Option.bind_some,aa rfl]
  split<;>rfl)
 have r1:=dk (n:=n-1) (by omega);exact aU rfl rfl (aL (sQ (nS (az (gI (aa rfl) ho) aj (sub_one h1)) r1) (by rw[aS,List.length_range];unfold most;omega) mc) (by unfold bj;rw[show ∀ xs:List Nat,aB (.lst (L xs))=true from fun xs=>aY xs];rfl))
def Bo(hn:n<=10)(F:Frm n f)(hi:i+1<n)(g:(dI n i).filter (fun p=>decide (i<at' f p%n))=l::r')(ho:cl po [.lst (L f)]=some (.int (n:Nat))):evF cl (gN po) [.lst (L f),.int (i:Nat)]=some (.int (l:Nat)):=by
 have e1:=dk (n:=i) (by omega)
 have e2:bR (.int (n:Nat)) (.int ((n+i+1:Nat):Int))=some (L (List.range' n (i+1))):=by
  have:=iZ (a:=n) (b:=n+i+1) (by omega) (by omega);rw[show n+i+1-n=i+1 by omega]at this;exact this
 have er:(L (List.range i)).reverse=L (List.range i).reverse:=by unfold L;rw[List.map_reverse]
 have ad:aF .add (.lst (L (List.range i).reverse)) (.lst (L (List.range' n (i+1))))=some (.lst (L (dI n i))):=by
  show(if(L (List.range i).reverse).length+(L (List.range' n (i+1))).length<=most then _ else none)=_;rw[if_pos (by rw[aS,aS,List.length_reverse,List.length_range,List.length_range'];unfold most;omega),<-eg];rfl
 have mc:=nM (F:=fun ZA=>((ev cl ZA (.cmp .gt (.bin .mod (.ix 0#0 4#0) 2#0) 1#0)).bind truth).bind fun k=>if k then(ev cl ZA 4#0).map some else some none) (tg:=[4]) (Y:=[some (.lst (L f)),some (.int (i:Nat)),some (.int (n:Nat)),some (.lst (L (dI n i))),none]) (h:=fun i=>.int (i:Nat)) (g:=fun i=>.int (i:Nat)) (c:=fun p=>decide (i<at' f p%n)) (fun _=>rfl) (dI n i) (by
  intro p hp;have hp:=mH.mp hp;show((ev cl [some (.lst (L f)),some (.int (i:Nat)),some (.int (n:Nat)),some (.lst (L (dI n i))),some (.int (p:Nat))] (.cmp .gt (.bin .mod (.ix 0#0 4#0) 2#0) 1#0)).bind truth).bind (fun k=>if k then(ev cl [some (.lst (L f)),some (.int (i:Nat)),some (.int (n:Nat)),some (.lst (L (dI n i))),some (.int (p:Nat))] 4#0).map some else some none)=_
  have cg:ba .gt (.int ((at' f p%n:Nat):Int)) (.int (i:Nat))=some (decide (i<at' f p%n)):=by
   rw[tR];congr 1;rw[decide_eq_decide];omega
  rw[bb (aH (az (aI (aa rfl) (aa rfl) (sC (by rw[F.len];omega))) (aa rfl) (BV _ (by omega))) (aa rfl) cg),Option.bind_some,aa rfl]
  split<;>rfl)
 rw[g]at mc
 have al:(dI n i).length<=100:=by unfold dI;rw[List.length_append,List.length_reverse,List.length_range,List.length_range'];omega
 have im:aB (.lst (L (dI n i)))=true:=aY _
 exact aU rfl rfl (aJ (gI (aa rfl) ho) rfl (aJ (az (wq (DU (aa rfl) e1)) (pC (aa rfl) (az (d:=.int ((n+i+1:Nat):Int)) (az (aa rfl) (aa rfl) bS) aj rfl) e2) (by rw[er];exact ad)) (by unfold aK;rw[im];rfl)
  (aL (aI (sQ (dM (aa rfl) rfl) (by rw[List.length_map];unfold most;omega) mc) aj rfl) rfl)))
def DW(hl:ds.length=fn.ps)(hm:fn.mp=[0])(h:ao cl fn.M fn.body (ds.map some++List.replicate (fn.nn-fn.ps) none)=some (.nx,Zz))(h0:(Zz[0]?).bind id=some x):evF cl fn ds=some (.tup [.non,x]):=by
 unfold evF;rw[if_pos hl,h];show aZ fn .non Zz=_;unfold aZ;rw[hm];show(cF Zz [0]).map _=_;rw[cF,h0];rfl
end
end RM
set_option maxHeartbeats 1000000
namespace RM
open RL RT
section
abbrev bw(u v x:Nat):Prop:=u<x/\x<v\/v<x/\x<u
def Er:bw u v x↔bw v u x:=or_comm
def vH(h1:u<v)(h2:x<y)(z1:¬ (u<x/\x<v/\v<y))(z2:¬ (x<u/\u<y/\y<v))(n1:x≠u)(n2:x≠v)(n3:y≠u)(n4:y≠v):bw u v x↔bw u v y:=by
 constructor
 ·rintro(h | h)
  ·exact .inl (by omega)
  ·omega
 ·rintro(h | h)
  ·exact .inl (by omega)
  ·omega
def Gr{m:Nat->Nat}(lt:∀ x,x<N->m x<N)(inv:∀ x,x<N->m (m x)=x)(no:∀ x,x<N->m x≠x)(h:∀ q q',q<N->q'<N->¬ (q<q'/\q'<m q/\m q<m q'))(hu:u<N)(hx:x<N)(h1:x≠u)(h2:x≠m u):bw u (m u) x↔bw u (m u) (m x):=by
 have a:=lt u hu;have b:=lt x hx;have i1:=inv u hu;have i2:=inv x hx;have n1:m x≠u:=fun z=>h2 (by rw[<-z,i2]);have n2:m x≠m u:=fun z=>h1 (by rw[<-i2,z,i1])
 have g:∀ u,u<N->u<m u->x≠u->x≠m u->m x≠u->m x≠m u->(bw u (m u) x↔bw u (m u) (m x)):=fun u hu l q1 q2 q3 q4=>by
  rcases Nat.lt_or_gt_of_ne (no x hx)with k | k
  ·have z1:=h u (m x) hu b;have z2:=h (m x) u b hu;rw[i2]at z1 z2;exact(vH l k z1 z2 q3 q4 q1 q2).symm
  ·exact vH l k (h u x hu hx) (h x u hx hu) q1 q2 q3 q4
 rcases Nat.lt_or_gt_of_ne (no u hu)with k | k
 ·have:=g (m u) a (by rw[i1];exact k) h2 (by rw[i1];exact h1) n2 (by rw[i1];exact n1);rw[i1]at this;exact(Er.trans this).trans Er
 ·exact g u hu k h1 h2 n1 n2
def Fy{m:Nat->Nat}(h:∀ u x,u<N->x<N->x≠u->x≠m u->(bw u (m u) x->bw u (m u) (m x)))(q q':Nat)(hq:q<N)(hq':q'<N):¬ (q<q'/\q'<m q/\m q<m q'):=fun⟨a,b,c⟩=>by
 have:=h q q' hq hq' (by omega) (by omega) (.inl #[a,b]);unfold bw at this;omega
def qW(ab:b=a+1\/a=b+1):¬ bw a b x:=by
 rintro(h | h)<;>omega
def yL(ab:b=a+1\/a=b+1)(h1:a≠u)(h2:a≠v)(h3:b≠u)(h4:b≠v):bw u v a↔bw u v b:=by
 have k:∀ {w},a≠w->b≠w->(w<a↔w<b)/\(a<w↔b<w):=fun _ _=>by omega
 obtain⟨k1,k2⟩:=k h1 h3;obtain⟨k3,k4⟩:=k h2 h4;unfold bw;rw[k1,k2,k3,k4]
def FJ(h1:u≠x)(h2:u≠y)(h3:v≠x)(h4:v≠y)(h:bw x y u↔bw x y v):bw u v x↔bw u v y:=by
 have k:∀ {p q:Nat},p≠q->(q<p↔¬ p<q):=fun _=>by omega
 unfold bw at *;rw[k h1,k h2,k h3,k h4]at *;generalize(u<x)=A at *;generalize(u<y)=B at *;generalize(v<x)=C at *;generalize(v<y)=D at *;by_cases A<;>by_cases B<;>by_cases C<;>by_cases D<;>simp_all
def IY{m:Nat->Nat}(inv:∀ x,x<N->m (m x)=x)(no:∀ x,x<N->m x≠x)(B:∀ u x,u<N->x<N->x≠u->x≠m u->(bw u (m u) x↔bw u (m u) (m x)))(ha:a<N)(hb:b<N)(ab:b=a+1\/a=b+1)(hu:u<N)(hx:x<N)(h1:x≠u)(h2:x≠M.hg a b m u):bw u (M.hg a b m u) x↔bw u (M.hg a b m u) (M.hg a b m x):=by
 by_cases e:m a=b
 ·rw[M.oD e]at *;exact B u x hu hx h1 h2
 ·have ia:=inv a ha;have ib:=inv b hb;have na:=no a ha;have nb:=no b hb;have e':m b≠a:=fun z=>e (by rw[<-z,ib]);have ne:∀ {y z},y<N->y≠m z->z≠m y:=fun {y z} hy q r=>q (by rw[r,inv y hy])
  have X:∀ {y},y<N->y≠a->y≠b->y≠m a->y≠m b->(bw y (m y) (m a)↔bw y (m y) (m b))/\(bw y (m y) a↔bw y (m y) b):=fun {y} hy y1 y2 y3 y4 =>
   have q:=yL ab y1.symm (ne hy y3) y2.symm (ne hy y4)
   ⟨((B y a hy ha y1.symm (ne hy y3)).symm.trans q).trans (B y b hy hb y2.symm (ne hy y4)),q⟩
  have Z:∀ {v w},v≠a->v≠b->w≠a->w≠b->(bw v w a↔bw v w b):=fun v1 v2 w1 w2=>yL ab v1.symm w1.symm v2.symm w2.symm
  have U:∀ {y},y<N->y≠a->y≠b->y≠m a->y≠m b->(bw (m b) (m a) y↔bw (m b) (m a) (m y))/\(bw (m a) (m b) y↔bw (m a) (m b) (m y)):=fun {y} hy y1 y2 y3 y4=>by
   have q:=(X hy y1 y2 y3 y4).1;have k:∀ {z},z<N->y≠z->m z≠m y:=fun {z} hz h r=>h (by rw[<-inv y hy,<-r,inv z hz]);exact#[FJ y4.symm (k hb y2) y3.symm (k ha y1) q.symm,FJ y3.symm (k ha y1) y4.symm (k hb y2) q]
  have w:∀ y,M.hg a b m y=if y=b then a else if y=a then b else if y=m b then m a else if y=m a then m b else m y:=fun y=>by unfold M.hg;rw[if_neg e]
  rw[w u]at *;rw[w x];by_cases u1:u=b
  ·rw[if_pos u1,u1];exact iff_of_false (qW ab.symm) (qW ab.symm)
  ·rw[if_neg u1]at *;by_cases u2:u=a
   ·rw[if_pos u2,u2];exact iff_of_false (qW ab) (qW ab)
   ·rw[if_neg u2]at *;by_cases u3:u=m b
    ·rw[if_pos u3]at *;subst u3;by_cases x1:x=b
     ·rw[if_pos x1,x1];exact(Z e' nb na e).symm
     ·rw[if_neg x1];by_cases x2:x=a
      ·rw[if_pos x2,x2];exact Z e' nb na e
      ·rw[if_neg x2,if_neg h1,if_neg h2];exact(U hx x2 x1 h2 h1).1
    ·rw[if_neg u3]at *;by_cases u4:u=m a
     ·rw[if_pos u4]at *;subst u4;by_cases x1:x=b
      ·rw[if_pos x1,x1];exact(Z na e e' nb).symm
      ·rw[if_neg x1];by_cases x2:x=a
       ·rw[if_pos x2,x2];exact Z na e e' nb
       ·rw[if_neg x2,if_neg h2,if_neg h1];exact(U hx x2 x1 h1 h2).2
     ·rw[if_neg u4]at *;obtain⟨k1,k2⟩:=X hu u2 u1 u4 u3;by_cases x1:x=b
      ·rw[if_pos x1,x1];exact k2.symm
      ·rw[if_neg x1];by_cases x2:x=a
       ·rw[if_pos x2,x2];exact k2
       ·rw[if_neg x2];by_cases x3:x=m b
        ·rw[if_pos x3,x3];exact k1.symm
        ·rw[if_neg x3];by_cases x4:x=m a
         ·rw[if_pos x4,x4];exact k1
         ·rw[if_neg x4];exact B u x hu hx h1 h2
def rG(V:Val n f)(hl:l+1<n\/n<=l/\l+1<2*n):Val n (a4 f l):=by
 have F:=V.frm
 have hl':l+1<2*n:=by omega
 have lt:∀ x,x<2*n->rnd n f x<2*n:=fun x hx=>du (F.lt _ (du hx))
 have inv:∀ x,x<2*n->rnd n f (rnd n f x)=x:=fun x hx=>by
  unfold rnd;rw[eM (F.lt _ (du hx)),F.inv,eM hx]
 have no:∀ x,x<2*n->rnd n f x≠x:=fun x hx z=>F.no (rd n x) (du hx) (by
  have:=congrArg (rd n) z;unfold rnd at this
  rwa [eM (F.lt _ (du hx))]at this)
 have m:∀ x,x<2*n->rnd n (a4 f l) x=M.hg (rd n l) (rd n (l+1)) (rnd n f) x:=fun x hx=>by
  have g:∀ y,y<2*n->rnd n f (rd n y)=rd n (at' f y):=fun y hy=>by unfold rnd;rw[eM hy]
  have a1:=F.lt l (by omega);have a2:=F.lt (l+1) hl'
  obtain⟨y,hy,rfl⟩:∃ y,y<2*n/\x=rd n y:=#[rd n x,du hx,(eM hx).symm]
  have q:∀ {y z},y<2*n->z<2*n->(rd n y=rd n z↔y=z):=fun hy hz=>#[yj hy hz,congrArg _]
  have hl0:l<2*n:=by omega
  show rd n (at' (a4 f l) (rd n (rd n y)))=_;rw[bq F hl',eM hy];unfold M.hg;simp only[g _ hy,g l hl0,g _ hl',q hy hl',q hy hl0,q hy a1,q hy a2,q a1 hl']
  (repeat' split)<;>rfl
 refine#[bF F hl',Fy fun u x hu hx h1 h2=>?_];rw[m u hu]at h2 ⊢;rw[m x hx];refine(IY inv no (fun u x hu hx h1 h2=>Gr lt inv no V.nox hu hx h1 h2) (du (by omega)) (du hl') ?_ hu hx h1 h2).mp;unfold rd;split<;>split<;>omega
def zt(hn:n<=10)(hi:i+1<n)(F:Frm n f):cD n (aT n i) f=a4 f i/\rgN n (aT n i) f=bu f i:=by
 have K:=(rY hn hi).frm;have T2:=two K F;have hk:=fun x=>uV (n:=n) (i:=i) (x:=x) hi;have mj:∀ {j},j<n->Cn (jn n) (rb n (aT n i) f) (n+j) (2*n+j):=fun hj=>lY (iK hj)
 have r1:∀ p,p<2*n->p≠i->p≠i+1->Cn (jn n) (rb n (aT n i) f) (out n p) (2*n+p):=fun p hp h1 h2=>by
  unfold out;by_cases c:p<n
  ·rw[if_pos c];refine(lA ?_).trans (mj c);rw[jZ hp,hk,if_neg ⋯,if_neg ⋯,if_neg h2,if_neg h1,if_pos c]
  ·rw[if_neg c,Nat.add_comm];exact .refl
 have r2:Cn (jn n) (rb n (aT n i) f) (2*n+i) (2*n+(i+1)):=by
  refine((lY (jz ⋯)).trans (lA ?_)).trans (mj hi);rw[jZ ⋯,hk,if_neg ⋯,if_pos rfl,Nat.add_assoc]
 have r3:Cn (jn n) (rb n (aT n i) f) (out n i) (out n (i+1)):=by
  unfold out;rw[if_pos ⋯,if_pos hi];refine lA ?_;rw[jZ ⋯,hk,if_neg ⋯,if_neg ⋯,if_neg ⋯,if_pos rfl]
 have st:∀ p,Cn (jn n) (rb n (aT n i) f) (2*n+p) (2*n+at' f p):=fun p=>lA oy;have s2:=r2.symm T2 ⋯;have s3:=r3.symm T2 (cR ⋯);have back:∀ p,p<2*n->p≠i->p≠i+1->Cn (jn n) (rb n (aT n i) f) (2*n+p) (out n p):=fun p hp h1 h2=>(r1 p hp h1 h2).symm T2 (cR hp);have a1:=F.lt i ⋯;have b1:=F.lt (i+1) ⋯;have a2:=F.no i ⋯;have b2:=F.no (i+1) ⋯;have ia:=F.inv i;have ib:=F.inv (i+1)
 have oth:∀ p,p<2*n->p≠i->p≠i+1->p≠at' f i->p≠at' f (i+1)->at' (cD n (aT n i) f) p=at' f p:=fun p hp h1 h2 h3 h4=>by
  have ip:=F.inv p;rw[found_iff K F hp (F.lt p hp) (F.no p hp).symm];exact((r1 p hp h1 h2).trans (st p)).trans (back _ (F.lt p hp) (fun z=>h3 (by rw[<-z,ip])) fun z=>h4 (by rw[<-z,ip]))
 have up:at' (cD n (aT n i) f) i=i+1:=(found_iff K F ⋯ ⋯ ⋯).mpr r3;have dn:at' (cD n (aT n i) f) (i+1)=i:=(found_iff K F ⋯ ⋯ ⋯).mpr s3
 have fx:∀ p,p<2*n->jn n (out n p)=out n p:=fun p hp=>by unfold out jn;(repeat' split)<;>lia
 have pt:∀ p,p<2*n->p≠i->p≠i+1->∃ s,s<4*n/\(jn n s=s\/rb n (aT n i) f s=s)/\Cn (jn n) (rb n (aT n i) f) s (2*n+p):=fun p hp h1 h2=>#[_,cR hp,.inl (fx p hp),r1 p hp h1 h2]
 have all:∀ S:List Nat,(∀ j,j<n->(∃ s,s<4*n/\(jn n s=s\/rb n (aT n i) f s=s)/\Cn (jn n) (rb n (aT n i) f) s (2*n+j))\/∃ s∈S,Cn (jn n) (rb n (aT n i) f) s (2*n+j))->∀ x,x<4*n->(∃ s,s<4*n/\(jn n s=s\/rb n (aT n i) f s=s)/\Cn (jn n) (rb n (aT n i) f) s x)\/∃ s∈S,Cn (jn n) (rb n (aT n i) f) s x:=fun S h x hx=>by
  by_cases c:n<=x/\x<3*n
  ·by_cases c2:x<2*n
   ·obtain⟨j,rfl⟩:∃ j,x=n+j:=#[x-n,by lia]
    have hj:j<n:=by lia
    have b:=lY (b:=rb n (aT n i) f) (jz hj)
    exact(h j hj).imp (fun⟨s,q1,q2,q3⟩=>#[s,q1,q2,q3.trans b]) fun⟨s,q1,q2⟩=>#[s,q1,q2.trans b]
   ·obtain⟨j,rfl⟩:∃ j,x=2*n+j:=#[x-2*n,by lia]
    exact h j ⋯
  ·exact .inl #[x,hx,.inl (by unfold jn;(repeat' split)<;>lia),.refl]
 by_cases e:at' f i=i+1
 ·have e':at' f (i+1)=i:=by rw[<-e,ia]
  unfold a4 bu;rw[if_pos e,if_pos e];refine#[sT (n:=2*n) qp F.len fun p hp=>?_,?_]
  ·by_cases c1:p=i
   ·rw[c1,up,e]
   ·by_cases c2:p=i+1
    ·rw[c2,dn,e']
    ·exact oth p hp c1 c2 (by rw[e];exact c2) (by rw[e'];exact c1)
  ·have cl:∀ y,Cn (jn n) (rb n (aT n i) f) (2*n+i) y->y=2*n+i\/y=2*n+(i+1)\/y=n+i\/y=n+i+1:=fun y h=>by
    induction h with
    | refl=>exact .inl rfl
    |sa _ ih=>
     rcases ih with rfl | rfl | rfl | rfl
     ·rw[jz ⋯];lia
     ·rw[jz hi];lia
     ·rw[iK ⋯];lia
     ·rw[Nat.add_assoc,iK hi];lia
    |sb _ ih=>
     rcases ih with rfl | rfl | rfl | rfl
     ·rw[oy,e];lia
     ·rw[oy,e'];lia
     ·rw[jZ ⋯,hk,if_neg ⋯,if_pos rfl];lia
     ·rw[jZ ⋯,hk,if_pos rfl];lia
   refine xl K F (S:=[2*n+i]) ⟨fun s hs=>by rw[List.mem_singleton.mp hs];lia,List.pairwise_singleton _ _,fun s hs y h=>?_,all _ fun j hj=>?_⟩
   ·rw[List.mem_singleton.mp hs]at h;rcases cl y h with rfl | rfl | rfl | rfl
    ·rw[jz ⋯,oy,e];lia
    ·rw[jz hi,oy,e'];lia
    ·rw[iK ⋯,jZ ⋯,hk,if_neg ⋯,if_pos rfl];lia
    ·rw[jZ ⋯,hk,if_pos rfl,Nat.add_assoc,iK hi];lia
   ·by_cases c1:j=i
    ·rw[c1];exact .inr #[_,.head _,.refl]
    ·by_cases c2:j=i+1
     ·rw[c2];exact .inr #[_,.head _,r2]
     ·exact .inl (pt j ⋯ c1 c2)
 ·have e':at' f (i+1)≠i:=fun z=>e (by rw[z]at ib;exact ib)
  have nn:at' f i≠at' f (i+1):=fun z=>by rw[z,ib]at ia;lia
  have ta:=st (at' f i);have tb:=st (at' f (i+1));rw[ia]at ta;rw[ib]at tb;refine#[sT (n:=2*n) qp (by rw[fX];exact F.len) fun p hp=>?_,?_]
  ·rw[bq F ⋯];unfold M.hg;rw[if_neg e];by_cases c1:p=i+1
   ·rw[if_pos c1,c1,dn]
   ·rw[if_neg c1];by_cases c2:p=i
    ·rw[if_pos c2,c2,up]
    ·rw[if_neg c2];by_cases c3:p=at' f (i+1)
     ·rw[if_pos c3,c3,found_iff K F b1 a1 nn.symm];exact((((r1 _ b1 e' b2).trans tb).trans s2).trans (st i)).trans (back _ a1 a2 e)
     ·rw[if_neg c3];by_cases c4:p=at' f i
      ·rw[if_pos c4,c4,found_iff K F a1 b1 nn];exact((((r1 _ a1 a2 e).trans ta).trans r2).trans (st _)).trans (back _ b1 e' b2)
      ·rw[if_neg c4];exact oth p hp c2 c1 c4 c3
  ·unfold bu;rw[if_neg e];refine xl K F (S:=[]) ⟨fun s hs=>(nomatch hs),.nil,fun s hs=>(nomatch hs),all _ fun j hj=>.inl ?_⟩;by_cases c1:j=i
   ·obtain⟨s,q1,q2,q3⟩:=pt _ a1 a2 e;rw[c1];exact#[s,q1,q2,q3.trans ta]
   ·by_cases c2:j=i+1
    ·obtain⟨s,q1,q2,q3⟩:=pt _ b1 e' b2;rw[c2];exact#[s,q1,q2,q3.trans tb]
    ·exact pt j ⋯ c1 c2
def qo(hi:i+1<n):∀ {row:List Nat} {f:List Nat} {r:Nat},(∀ j∈row,j+1<n)->Frm n f->hangs n row (a4 f i,r+bu f i)=(a4 (hangs n row (f,r)).1 i,(hangs n row (f,r)).2+bu (hangs n row (f,r)).1 i)
 | [],_,_,_,_=>rfl
 | j::row,f,r,h,F=>by
  have hj:=h j (.head _);obtain⟨e1,e2⟩:=rT F (l:=n+j) (p:=i) ⋯ ⋯ ⋯;rw[hangs,hangs];dsimp only;rw[e1,show r+bu f i+bu (a4 f i) (n+j)=r+bu f (n+j)+bu (a4 f (n+j)) i by lia];exact qo hi (fun k hk=>h k (.tail _ hk)) (bF F ⋯)
def yD(hi:i+1<n):a4 (a9 n) (n+i)=a4 (a9 n) i/\bu (a9 n) (n+i)=0/\bu (a9 n) i=0:=by
 have F:=cO n;have p:=plain_at n
 have p1:at' (a9 n) (n+i)=i:=by rw[p,if_neg ⋯,if_pos ⋯];lia
 have p2:at' (a9 n) i=n+i:=by rw[p,if_pos ⋯]
 have p3:at' (a9 n) (i+1)=n+i+1:=by rw[p,if_pos hi];rfl
 unfold bu;rw[p1,p2,if_neg ⋯,if_neg ⋯];refine#[nR (n:=n) (by rw[fX];exact F.len) (by rw[fX];exact F.len) (funext fun x=>?_),rfl,rfl];have h:=uV (x:=x) hi;unfold aT at h
 have r:M.hg i (i+1) (at' (a9 n)) x=if x=i+1 then i else if x=i then i+1 else if x=n+i+1 then n+i else if x=n+i then n+i+1 else at' (a9 n) x:=by
  unfold M.hg;rw[p2,p3,if_neg ⋯]
 rw[h,<-p,bq F ⋯,r];by_cases c1:x=i+1
 ·rw[c1,if_neg ⋯,if_neg ⋯,if_pos rfl,if_pos rfl]
 ·by_cases c2:x=i
  ·rw[c2,if_neg ⋯,if_neg ⋯,if_neg ⋯,if_pos rfl,if_neg ⋯,if_pos rfl]
  ·simp only[if_neg c1,if_neg c2]
def mG(hi:i+1<n)(h:∀ j∈row,j+1<n):aq n (i::row)=(a4 (aq n row).1 i,(aq n row).2+bu (aq n row).1 i):=by
 obtain⟨e1,e2,e3⟩:=yD hi;unfold aq;rw[<-qo hi h (cO n),hangs];dsimp only;rw[e1,e2,e3]
def zZ(h:∀ j∈row,j+1<n):Val n (aq n row).1:=by
 induction row with
 | nil=>exact pX n
 |cons i row ih=>
  rw[mG (h i (.head _)) fun j hj=>h j (.tail _ hj)];exact rG (ih fun j hj=>h j (.tail _ hj)) (.inl (h i (.head _)))
def DN(t_hu:T[hu]?=some (fO rg))(t_rg:T[rg]?=some eC)(t_pl:T[pl]?=some dC)(t_st:T[st]?=some (kH hu pl))(m:Nat)(h1:1<=n)(hn:n<=10)(hr:∀ j∈row,j+1<n) :
  a7 T (m+3) st [.int (n:Nat),.lst (fsD (row.map (aT n)))]=some (prD (aq n row)):=by
 have go:∀ (d:List Nat) (z:List Nat) (o o5:Option D),(∀ j∈d,j+1<n)->(∀ j∈z,j+1<n)->∃ o' o5',aP (ao (a7 T (m+2)) [] (j5 hu pl)) [2] (fsD (d.map (aT n))) [some (.int (n:Nat)),some (.lst (fsD (row.map (aT n)))),o,some (.tup (L (aq n z).1)),some (.int ((aq n z).2:Nat)),o5]=some (.nx,[some (.int (n:Nat)),some (.lst (fsD (row.map (aT n)))),o',some (.tup (L (aq n (d.reverse++z)).1)),some (.int ((aq n (d.reverse++z)).2:Nat)),o5']):=fun d=>by
  induction d with
  | nil=>exact fun z o o5 _ _=>#[o,o5,jI]
  |cons i d ih=>
   intro z o o5 hd hz;have hi:=hd i (.head _);have V:=zZ hz;obtain⟨e1,e2⟩:=zt hn hi V.frm
   obtain⟨o',o5',q⟩:=ih (i::z) (some (.tup (L (aT n i)))) (some (.int (bu (aq n z).1 i:Nat))) (fun j hj=>hd j (.tail _ hj)) (fun j hj=>by
    rcases List.mem_cons.mp hj with rfl | hj
    ·exact hi
    ·exact hz j hj)
   rw[mG hi hz]at q;rw[Zq,Q6,List.singleton_append];have c:=yB t_hu t_rg m h1 hn (rY hn hi).frm V.frm;rw[e1,e2]at c;exact#[o',o5',eE (lH _) rfl (jK (cZ (aa rfl) (aa rfl) c) rfl (by simp[aw,D.imm,aY]) rfl (aJ (az (aa rfl) (aa rfl) bS) rfl aN)) q]
 obtain⟨o',o5',q⟩:=go row.reverse [] none none (fun j hj=>hr j (List.mem_reverse.mp hj)) (fun j hj=>(nomatch hj));rw[List.reverse_reverse,Ze]at q
 have er:(fsD (row.map (aT n))).reverse=fsD (row.reverse.map (aT n)):=by unfold fsD;rw[List.map_reverse,List.map_reverse]
 exact(a5 t_st).trans (aU rfl rfl (kU (gI (aa rfl) ((a5 t_pl).trans (kI hn))) aj (by rw[lH];rfl) (bY (dM (wq (aa rfl)) (by rw[er];rfl)) q (aL (d:=prD (aq n row)) (b8 (ah (aa rfl) (ah (aa rfl) aA))) (by unfold bj;rw[lb];rfl)))))
end
end RM
set_option maxHeartbeats 1000000
namespace RM
section
def vd(hb:b+1<n)(V:Val n f):Val n (a4 f b):=rG V (.inl hb)
def dS(F:Frm n f)(hb:b+1<n)(ne:at' f b≠b+1)(x:Nat):at' (a4 f b) x=if x=b+1 then b else if x=b then b+1 else if x=at' f (b+1)then at' f b else if x=at' f b then at' f (b+1)else at' f x:=by
 rw[bq F (by omega)];unfold M.hg;rw[if_neg ne]
def EA(F:Frm n f)(hb:b+1<n)(ne:at' f b≠b+1):tkL (a4 f b) b (at' f b)=f:=by
 have l1:=F.lt b (by omega);have l2:=F.lt (b+1) (by omega);have n1:=F.no b (by omega);have n2:=F.no (b+1) (by omega);have i1:=F.inv b;have i2:=F.inv (b+1);have hl:=F.len
 have n3:at' f b≠at' f (b+1):=fun z=>by rw[z,i2]at i1;omega
 have n4:at' f (b+1)≠b:=fun z=>by rw[z]at i2;exact ne i2
 have e:at' (a4 f b) (at' f b)=at' f (b+1):=by rw[dS F hb ne,if_neg ne,if_neg n1,if_neg n3,if_pos rfl]
 refine sT (n:=2*n) (by unfold tkL;simp only[List.length_set];rw[fX];exact hl) hl fun x hx=>?_;unfold tkL
 have hs:(a4 f b).length=2*n:=by rw[fX];exact hl
 rw[e,cY (by simp only[List.length_set];omega),cY (by simp only[List.length_set];omega),cY (by simp only[List.length_set];omega),cY (by omega),dS F hb ne];by_cases c1:x=b+1
 ·rw[if_pos c1,c1]
 ·rw[if_neg c1];by_cases c3:x=at' f (b+1)
  ·rw[if_pos c3,c3,i2]
  ·rw[if_neg c3];by_cases c2:x=b
   ·rw[if_pos c2,c2]
   ·rw[if_neg c2];by_cases c4:x=at' f b
    ·rw[if_pos c4,c4,i1]
    ·rw[if_neg c4,if_neg c1,if_neg c2,if_neg c3,if_neg c4]
def rz{R:Nat->Nat->Prop}{l:List Nat}{p:Nat->Bool}{x:Nat}(pw:l.Pairwise R)(hx:x∈l)(px:p x=true)(no:∀ y∈l,R y x->p y=false):∃ r,l.filter p=x::r:=by
 induction l with
 | nil=>cases hx
 |cons a t ih=>
  rw[List.pairwise_cons]at pw;by_cases e:x=a
  ·subst e;exact#[t.filter p,by rw[List.filter_cons,if_pos px]]
  ·have hx:x∈t:=(List.mem_cons.mp hx).resolve_left e;have:=no a (.head _) (pw.1 x hx);rw[List.filter_cons,this];exact ih pw.2 hx fun y hy=>no y (.tail _ hy)
inductive Tw (n:Nat):List Nat->List Nat->Prop
 | done:Tw n (a9 n) []
 | step {f row r r':List Nat} {b:Nat} (V:Val n f) (S:Tw n f row) (hb:b+1<n) (ne:at' f b≠b+1) (h:iq n (a4 f b)=b::r) (g:(dI n b).filter (fun p=>decide (b<at' (a4 f b) p%n))=at' f b::r'):Tw n (a4 f b) (b::row)
def Cz(S:Tw n f row):(∀ j∈row,j+1<n)/\aq n row=(f,0):=by
 induction S with
 | done=>exact#[fun j hj=>(nomatch hj),rfl]
 |step V S hb ne _ _ ih=>
  refine#[fun j hj=>?_,by rw[mG hb ih.1,ih.2];unfold bu;rw[if_neg ne]];rcases List.mem_cons.mp hj with rfl | hj
  ·exact hb
  ·exact ih.1 j hj
def rH(hb:b+1<n)(V:Val n f)(S:Tw n f row)(ne:at' f b≠b+1)(nf:∀ i,i<b->at' (a4 f b) i≠i+1)(mx:at' f b∈dI n b)(mp:b<at' f (b+1)%n)(no:∀ y,y∈dI n b->bef n b y (at' f b)->at' (a4 f b) y%n<=b):Tw n (a4 f b) (b::row):=by
 have F:=V.frm;have n1:=F.no b (by omega);have i1:=F.inv b;have i2:=F.inv (b+1)
 have n3:at' f b≠at' f (b+1):=fun z=>by rw[z,i2]at i1;omega
 have e:at' (a4 f b) (at' f b)=at' f (b+1):=by rw[dS F hb ne,if_neg ne,if_neg n1,if_neg n3,if_pos rfl]
 have e0:at' (a4 f b) b=b+1:=by rw[dS F hb ne,if_neg (by omega),if_pos rfl]
 obtain⟨r,h1⟩:=rz (p:=fun i=>decide (at' (a4 f b) i=i+1)) (x:=b) List.pairwise_lt_range (List.mem_range.mpr (show b<n-1 by omega)) (decide_eq_true e0) fun y _ hy=>Q1 (nf y hy);obtain⟨r',h2⟩:=rz (p:=fun q=>decide (b<at' (a4 f b) q%n)) Dh mx (by rw[e];exact decide_eq_true mp) fun y hy h=>Q1 (by have:=no y hy h;omega);exact .step V S hb ne h1 h2
structure Nf(n c l H:Nat)(f:List Nat):Prop where
 lc:l<=c
 cH:c<H
 Hn:H<n
 cc:at' f c=c+1
 lo:∀ i,i<l->at' f i=n+i
 hi:∀ i,i<=H->i≠c->i≠c+1->H<at' f i/\i<=at' f i%n
structure Cf(n c l:Nat)(f:List Nat):Prop where
 lc:l<=c
 cn:c<n
 lo:∀ i,i<l->at' f i=n+i
 hi:∀ i,i<=c->c<at' f i/\i<=at' f i%n
def Nf.cf(h:Nf n c l H f):Cf n c l f where
 lc:=h.lc
 cn:=Nat.lt_trans h.cH h.Hn
 lo:=h.lo
 hi:=fun i hi=>by
  have:=h.cH;have:=h.Hn;by_cases e:i=c
  ·subst e;rw[h.cc,Zi (by omega)];exact#[by omega,by omega]
  ·obtain⟨a,b⟩:=h.hi i (by omega) e (by omega);exact#[by omega,b]
def Bf(h1:1<=n):Cf n (n-1) (n-1) (a9 n) where
 lc:=QV _
 cn:=by omega
 lo:=fun i hi=>by rw[plain_at,if_pos (by omega)]
 hi:=fun i hi=>by
  rw[plain_at,if_pos (by omega),Nat.add_mod_left,Zi (by omega)];exact#[by omega,QV _]
def DV(hn:n<=10)(V:Val n f)(S:Tw n f row)(C:Cf n c l f)(hb:b<l):Val n (a4 f b)/\Tw n (a4 f b) (b::row)/\Nf n b b c (a4 f b):=by
 have F:=V.frm;have lc:=C.lc;have cn:=C.cn
 have hb':b+1<n:=by omega
 have ex:=C.lo b hb;obtain⟨y1,y2⟩:=C.hi (b+1) (by omega)
 have ne:at' f b≠b+1:=by omega
 have i2:=F.inv (b+1)
 have lo:∀ i,i<b->at' (a4 f b) i=n+i:=fun i hi=>by
  rw[dS F hb' ne,if_neg (by omega),if_neg (by omega),if_neg (by omega),if_neg (by omega)];exact C.lo i (by omega)
 have lo2:∀ i,i<b->at' (a4 f b) (n+i)=i:=fun i hi=>by
  have a:=C.lo i (by omega)
  have q:at' f (n+i)=i:=by rw[<-a];exact F.inv i
  rw[dS F hb' ne,if_neg (by omega),if_neg (by omega),if_neg (fun z=>by rw[z,i2]at q;omega),if_neg (by omega)];exact q
 refine#[vd hb' V,rH hb' V S ne (fun i hi=>by rw[lo i hi];omega) (by rw[ex,mH];exact .inr #[by omega,by omega]) (by omega) (fun y hy h=>?_),#[QV _,by omega,cn,?_,lo,fun i hi h1 h2=>?_]]
 ·rw[ex]at h;rcases h with h | h | h
  ·omega
  ·rw[lo y h.1,Nat.add_mod_left,Zi (by omega)];omega
  ·rw[show y=n+(y-n) by omega,lo2 (y-n) (by omega),Zi (by omega)];omega
 ·rw[dS F hb' ne,if_neg (by omega),if_pos rfl]
 ·rw[dS F hb' ne,if_neg (by omega),if_neg (by omega),if_neg (by omega),if_neg (by omega)];exact C.hi i hi
def A4(hn:n<=10)(V:Val n f)(S:Tw n f row)(C:Nf n c l H f)(hb:c+1<H):Val n (a4 f (c+1))/\Tw n (a4 f (c+1)) ((c+1)::row)/\Nf n (c+1) l H (a4 f (c+1)):=by
 have F:=V.frm;have lc:=C.lc;have Hn:=C.Hn
 have hb':c+1+1<n:=by omega
 have ex:at' f (c+1)=c:=by rw[<-C.cc];exact F.inv c
 obtain⟨y1,y2⟩:=C.hi (c+1+1) (by omega) (by omega) (by omega)
 have ne:at' f (c+1)≠c+1+1:=by omega
 have i2:=F.inv (c+1+1)
 have ec:at' (a4 f (c+1)) c=at' f (c+1+1):=by rw[dS F hb' ne,if_neg (by omega),if_neg (by omega),if_neg (by omega),if_pos ex.symm]
 have lo:∀ i,i<=H->i≠c->i≠c+1->i≠c+1+1->at' (a4 f (c+1)) i=at' f i:=fun i hi h1 h2 h3=>by
  rw[dS F hb' ne,if_neg h3,if_neg h2,if_neg (by omega),if_neg (by omega)]
 refine#[vd hb' V,rH hb' V S ne (fun i hi=>?_) (by rw[ex,mH];exact .inl (by omega)) (by omega) (fun y hy h=>?_),#[by omega,hb,Hn,?_,fun i hi=>?_,fun i hi h1 h2=>?_]]
 ·by_cases e:i=c
  ·subst e;rw[ec];omega
  ·rw[lo i (by omega) e (by omega) (by omega)];have:=(C.hi i (by omega) e (by omega)).1;omega
 ·rw[ex]at h;rcases h with h | h | h<;>omega
 ·rw[dS F hb' ne,if_neg (by omega),if_pos rfl]
 ·rw[lo i (by omega) (by omega) (by omega) (by omega)];exact C.lo i hi
 ·by_cases e:i=c
  ·subst e;rw[ec];exact#[y1,by omega]
  ·rw[lo i hi e h1 h2];exact C.hi i hi e h1
abbrev dwn(h l:Nat):List Nat:=(List.range' l (h+1-l)).reverse
def nj(l:Nat):dwn l l=[l]:=by unfold dwn;rw[show l+1-l=1 by omega];rfl
def Bp(h:l<=k):dwn (k+1) l=(k+1)::dwn k l:=by
 unfold dwn;rw[show k+1+1-l=(k+1-l)+1 by omega,List.range'_1_concat,Zr,show l+(k+1-l)=k+1 by omega];rfl
def uL(hn:n<=10)(V:Val n f)(S:Tw n f row)(C:Cf n c l f)(hb:b<l):∀ k,b+k<c->∃ g,Val n g/\Tw n g (dwn (b+k) b++row)/\Nf n (b+k) b c g
 | 0,_=>by
  obtain⟨h1,h2,h3⟩:=DV hn V S C hb;exact#[_,h1,by rw[Nat.add_zero,nj];exact h2,h3]
 | k+1,h=>by
  obtain⟨g,h1,h2,h3⟩:=uL hn V S C hb k (by omega);obtain⟨h4,h5,h6⟩:=A4 hn h1 h2 h3 (by omega);exact#[_,h4,by rw[<-Nat.add_assoc,Bp (by omega)];exact h5,h6]
abbrev Rns(n:Nat)(rs:List (Nat × Nat)):Prop:=(∀ r∈rs,r.2<=r.1/\r.1+1<n)/\rs.Pairwise fun a b=>a.1<b.1/\a.2<b.2
abbrev wrd(rs:List (Nat × Nat)):List Nat:=rs.flatMap fun r=>dwn r.1 r.2
def vK(h1:1<=n)(hn:n<=10):∀ {rs:List (Nat × Nat)},Rns n rs->∃ f c l,Val n f/\Tw n f (wrd rs)/\Cf n c l f/\(match rs with | []=>c=n-1/\l=n-1 | r::_=>c=r.1/\l=r.2)
 | [],_=>by
  exact#[a9 n,n-1,n-1,pX n,.done,Bf h1,rfl,rfl]
 | r::rs,⟨a,b⟩=>by
  rw[List.pairwise_cons]at b;obtain⟨f,c,l,V,S,C,q⟩:=vK h1 hn (rs:=rs) ⟨fun r hr=>a r (.tail _ hr),b.2⟩;obtain⟨r1,r2⟩:=a r (.head _)
  have hc:r.1<c/\r.2<l:=by
   cases rs with
   | nil=>obtain⟨rfl,rfl⟩:=q;exact#[by omega,by omega]
   | cons r' t=>obtain⟨rfl,rfl⟩:=q;exact b.1 r' (.head _)
  obtain⟨g,g1,g2,g3⟩:=uL hn V S C hc.2 (r.1-r.2) (by omega);rw[show r.2+(r.1-r.2)=r.1 by omega]at g2 g3;exact#[g,r.1,r.2,g1,g2,g3.cf,rfl,rfl]
end
end RM
set_option maxHeartbeats 1000000
namespace RM
open RL RT
section
def xM(n:Nat):iq n (a9 n)=[]:=by
 unfold iq;rw[List.filter_eq_nil_iff];intro i hi;have:=List.mem_range.mp hi;rw[plain_at,if_pos (by omega)];simp;omega
def CP(F:Frm n f)(hb:b+1<n)(ne:at' f b≠b+1)(hna:cl na [.lst (L (a4 f b)),.int (b:Nat)]=some (.int (at' f b:Nat)))
 (ht:∀ (xs:List Nat) (i j:Nat),i<xs.length->j<xs.length->cl ti [.lst (L xs),.int i,.int j]=some (.tup [.non,.lst (L ((xs.set i j).set j i))])):evF cl (k6 ti na) [.lst (L (a4 f b)),.int (b:Nat)]=some (.tup [.non,.lst (L f)]):=by
 have G:=bF F (l:=b) (by omega);have len:=G.len;have h1:=F.lt b (by omega);have h2:=G.lt _ h1;have t1:=ht (a4 f b) (at' f b) b (by omega) (by omega);have t2:=ht (((a4 f b).set (at' f b) b).set b (at' f b)) (at' (a4 f b) (at' f b)) (b+1) (by simp;omega) (by simp;omega);have e:=EA F hb ne;unfold tkL at e;rw[e]at t2
 exact DW rfl rfl (aJ (cZ (aa rfl) (aa rfl) hna) rfl (aJ (aI (aa rfl) (aa rfl) (sC (by omega))) rfl
  (dE (ah (aa rfl) (ah (aa rfl) (ah (aa rfl) aA))) rfl t1 rfl
  (dE (ah (aa rfl) (ah (aa rfl) (ah (az (d:=.int ((b+1:Nat):Int)) (aa rfl) aj rfl) aA))) rfl t2 rfl aN)))) rfl
abbrev srS(f0 f done:List Nat)(n:Nat):St:=[some (.tup (L f0)),some (.lst (L f)),some (.lst (L done)),some (.lst (L (iq n f)))]
def Jg(hnt:∀ f:List Nat,Frm n f->cl nt [.lst (L f),.int 0]=some (.lst (L (iq n f))))
 (hto:∀ (f r':List Nat) (b:Nat),Frm n f->b+1<n->at' f b≠b+1->(dI n b).filter (fun p=>decide (b<at' (a4 f b) p%n))=at' f b::r'->cl to [.lst (L (a4 f b)),.int (b:Nat)]=some (.tup [.non,.lst (L f)]))
 {f row:List Nat}(S:Tw n f row):∀ (done:List Nat) (fuel:Nat),row.length<fuel->done.length+row.length<1000->whF (fun Y=>(ev cl Y 3#0).bind truth) (ao cl [1,2] (fH nt to cf)) fuel (srS f0 f done n)=some (.nx,srS f0 (a9 n) (done++row) n):=by
 induction S with
 |done=>
  intro done fuel hf hd
  obtain⟨k,rfl⟩:∃ k,fuel=k+1:=#[fuel-1,by omega]
  rw[whF]
  have t:(ev cl (srS f0 (a9 n) done n) 3#0).bind truth=some false:=by
   rw[aa (d:=.lst (L (iq n (a9 n)))) rfl,xM];rfl
  show((ev cl (srS f0 (a9 n) done n) 3#0).bind truth).bind _=_;rw[t,Ze];rfl
 |@step f row r r' b V S hb ne h g ih=>
  intro done fuel hf hd
  obtain⟨k,rfl⟩:∃ k,fuel=k+1:=#[fuel-1,by omega]
  rw[List.length_cons]at hf hd;have q:=ih (done++[b]) k (by omega) (by rw[List.length_append,List.length_singleton];omega);rw[whF]
  have tt:(ev cl (srS f0 (a4 f b) done n) 3#0).bind truth=some true:=by
   rw[aa (d:=.lst (L (iq n (a4 f b)))) rfl,h];rfl
  have v3:∀ Y:St,(Y[3]?).bind id=some (.lst (L (iq n (a4 f b))))->ev cl Y (.ix 3#0 0#1)=some (.int (b:Nat)):=fun Y ZO=>aI (aa ZO) aj (by rw[h];rfl)
  have body:ao cl [1,2] (fH nt to cf) (srS f0 (a4 f b) done n)=some (.nx,srS f0 f (done++[b]) n):=by
   have ap:L done++[D.int (b:Nat)]=L (done++[b]):=by rw[eg];rfl
   refine lr (v3 _ rfl) (xs:=L done) rfl rfl (by rw[aS];unfold most;omega) ?_;rw[ap]
   exact dE (ah (aa rfl) (ah (v3 _ rfl) aA)) rfl (hto f r' b V.frm hb ne g) rfl
    (aJ (cZ (aa rfl) aj (hnt _ V.frm)) (by unfold aK;rw[show aB (.lst (L (iq n f)))=true from aY _];rfl) aN)
  show((ev cl (srS f0 (a4 f b) done n) 3#0).bind truth).bind _=_;rw[tt,Option.bind_some,if_pos rfl,body];show whF _ _ k (srS f0 f (done++[b]) n)=_;rw[q,Q6];rfl
def u5(V:Val n f)(hl:row.length<=900)(hcf:cl cf [.tup (L f)]=some .non)(hnt:∀ f:List Nat,Frm n f->cl nt [.lst (L f),.int 0]=some (.lst (L (iq n f))))
 (hto:∀ (f r':List Nat) (b:Nat),Frm n f->b+1<n->at' f b≠b+1->(dI n b).filter (fun p=>decide (b<at' (a4 f b) p%n))=at' f b::r'->cl to [.lst (L (a4 f b)),.int (b:Nat)]=some (.tup [.non,.lst (L f)]))
 (S:Tw n f row):evF cl (gd nt to cf) [.tup (L f)]=some (.lst (L row)):=by
 have w:=Jg (cf:=cf) (f0:=f) hnt hto S [] most (by unfold most;omega) (by rw[List.length_nil];omega);have im:∀ xs:List Nat,aB (.lst (L xs))=true:=fun xs=>aY xs;rw[List.nil_append]at w
 exact aU rfl rfl (rQ (gI (aa rfl) hcf) (d8 (d:=.lst (L f)) (bJ (aa rfl) rfl) (by rw[im];rfl) (d8 (d:=.lst []) (dR aA) rfl
  (aJ (cZ (aa rfl) aj (hnt f V.frm)) (by unfold aK;rw[im];rfl) (xK w (aL (d:=.lst (L row)) (aa rfl) (by unfold bj;rw[im];rfl)))))))
end
end RM
set_option maxHeartbeats 1000000
namespace RM
section
abbrev far(x y:Nat):Prop:=x+1<y\/y+1<x
abbrev prj(a:Nat)(w:List Nat):List Nat:=w.filter fun y=>y == a || y == a+1
abbrev Eqv(u v:List Nat):Prop:=∀ a,prj a u=prj a v
def Eqv.refl(u:List Nat):Eqv u u:=fun _=>rfl
def Eqv.symm(h:Eqv u v):Eqv v u:=fun a=>(h a).symm
def Eqv.trans(h:Eqv u v)(h':Eqv v w):Eqv u w:=fun a=>(h a).trans (h' a)
def eF(a:Nat)(u v:List Nat):prj a (u++v)=prj a u++prj a v:=List.filter_append ..
def Eqv.app(h:Eqv u v)(h':Eqv u' v'):Eqv (u++u') (v++v'):=fun a=>by rw[eF,eF,h a,h' a]
def bK(a x:Nat)(w:List Nat):prj a (x::w)=if x=a\/x=a+1 then x::prj a w else prj a w:=by
 unfold prj;rw[List.filter_cons];by_cases h:x=a\/x=a+1
 ·rw[if_pos h,if_pos (by simpa using h)]
 ·rw[if_neg h,if_neg (by simpa using h)]
def sR(h:∀ b∈w,b≠a/\b≠a+1):prj a w=[]:=by
 unfold prj;rw[List.filter_eq_nil_iff];intro b hb;have:=h b hb;simp[this.1,this.2]
def Av(x:Nat)(B:List Nat)(h:∀ b∈B,far b x):Eqv (x::B) (B++[x]):=fun a=>by
 rw[bK,eF];by_cases hx:x=a\/x=a+1
 ·have e:prj a B=[]:=sR fun b hb=>by have:=h b hb;unfold far at this;omega
  rw[if_pos hx,e,bK,if_pos hx];rfl
 ·have e:prj a [x]=[]:=sR fun b hb=>by rw[List.mem_singleton.mp hb];omega
  rw[if_neg hx,e,Ze]
def ny(h:Eqv w (x::v)):∃ B C,w=B++x::C/\(∀ b∈B,far b x)/\Eqv (B++C) v:=by
 have hx:x∈w:=by
  have e:=h x;rw[bK,if_pos (.inl rfl)]at e
  have m:x∈prj x w:=by rw[e];exact .head _
  exact(List.mem_filter.mp m).1
 obtain⟨B,C,e,nx⟩:∃ B C,w=B++x::C/\x∉B:=List.eq_append_cons_of_mem hx;subst e
 have key:∀ a,(x=a\/x=a+1)->prj a B=[]:=fun a ha=>by
  have e:=h a;rw[eF,bK,bK,if_pos ha,if_pos ha]at e
  cases hB:prj a B with
  | nil=>rfl
  |cons y r=>
   rw[hB]at e;have ey:y=x:=(List.cons.inj e).1
   have:y∈prj a B:=by rw[hB];exact .head _
   exact absurd (ey▸(List.mem_filter.mp this).1) nx
 have f:∀ b∈B,far b x:=fun b hb=>by
  unfold far;have n1:b≠x:=fun z=>nx (z▸hb)
  have n2:b≠x+1:=fun z=>by
   have:b∈prj x B:=List.mem_filter.mpr ⟨hb,by simp[z]⟩;rw[key x (.inl rfl)]at this;cases this
  have n3:b+1≠x:=fun z=>by
   have:b∈prj b B:=List.mem_filter.mpr ⟨hb,by simp⟩;rw[key b (.inr z.symm)]at this;cases this
  omega
 refine#[B,C,rfl,f,fun a=>?_];have e:=h a;rw[eF,bK,bK]at e;rw[eF];by_cases ha:x=a\/x=a+1
 ·rw[if_pos ha,if_pos ha,key a ha]at e;rw[key a ha];exact(List.cons.inj e).2
 ·rw[if_neg ha,if_neg ha]at e;exact e
abbrev nbs(x:Nat)(B:List Nat):Nat:=B.countP fun y=>y == x+1 || y+1 == x
abbrev Ok1(w:List Nat)(x:Nat):Prop:=∀ A B,w=A++x::B->x∉B->2<=nbs x B
def eR(x y:Nat)(B:List Nat):nbs x (y::B)=nbs x B+if y=x+1\/y+1=x then 1 else 0:=by
 unfold nbs;rw[List.countP_cons];congr 1;by_cases h:y=x+1\/y+1=x
 ·rw[if_pos h,if_pos (by simpa using h)]
 ·rw[if_neg h,if_neg (by simpa using h)]
def vN(x:Nat)(A B:List Nat):nbs x (A++B)=nbs x A+nbs x B:=List.countP_append
def mJ:∀ B:List Nat,0∉B->nbs 0 B=(prj 0 B).length
 | [],_=>rfl
 | y::B,h=>by
  have hy:y≠0:=fun z=>h (by rw[z];exact .head _);rw[eR,mJ B fun z=>h (.tail _ z),bK];by_cases h1:y=1
  ·rw[if_pos (.inl h1),if_pos (.inr h1)];rfl
  ·rw[if_neg (by omega),if_neg (by omega)];rfl
def kW(x:Nat):∀ B:List Nat,x+1∉B->nbs (x+1) B=(prj (x+1) B).length+(prj x B).length
 | [],_=>rfl
 | y::B,h=>by
  have hy:y≠x+1:=fun z=>h (by rw[z];exact .head _);rw[eR,kW x B fun z=>h (.tail _ z),bK,bK];by_cases h1:y=x+2
  ·rw[if_pos (.inl h1),if_pos (.inr h1),if_neg (by omega),List.length_cons];omega
  ·by_cases h2:y=x
   ·rw[if_pos (.inr (by omega)),if_neg (by omega),if_pos (.inl h2),List.length_cons];omega
   ·rw[if_neg (by omega),if_neg (by omega),if_neg (by omega)];omega
def p6{x:Nat}:∀ {w:List Nat},x∈w->∃ A B,w=A++x::B/\x∉B
 | y::w,h=>by
  by_cases hw:x∈w
  ·obtain⟨A,B,e,n⟩:=p6 hw;exact#[y::A,B,by rw[e];rfl,n]
  ·rcases List.mem_cons.mp h with e | e
   ·exact#[[],w,by rw[e];rfl,hw]
   ·exact absurd e hw
def oz{A A' B B':List Nat}{x:Nat}(h:A++x::B=A'++x::B')(n1:x∉B)(n2:x∉B'):B=B':=by
 rcases List.append_eq_append_iff.mp h with⟨c,e1,e2⟩ | ⟨c,e1,e2⟩
 ·cases c with
  | nil=>exact(List.cons.inj e2).2
  |cons y c=>
   have e2:=(List.cons.inj e2).2;exact absurd (by rw[e2];simp) n1
 ·cases c with
  | nil=>exact(List.cons.inj e2).2.symm
  |cons y c=>
   have e2:=(List.cons.inj e2).2;exact absurd (by rw[e2];simp) n2
def vB(h:x∉B):x∉prj a B:=fun z=>h (List.mem_filter.mp z).1
def Ok1.eqv(h:Ok1 w x)(e:Eqv w w'):Ok1 w' x:=fun A' B' ew nx=>by
 subst ew
 have hx:x∈w:=by
  have:x∈prj x w:=by rw[e x,eF,bK,if_pos (.inl rfl)];simp
  exact(List.mem_filter.mp this).1
 obtain⟨A,B,rfl,nB⟩:∃ A B,w=A++x::B/\x∉B:=p6 hx;have k:=h A B rfl nB
 have one:∀ a,(x=a\/x=a+1)->prj a B=prj a B':=fun a ha=>by
  have q:=e a;rw[eF,eF,bK,bK,if_pos ha,if_pos ha]at q;exact oz q (vB nB) (vB nx)
 cases x with
 |zero=>
  rw[mJ B nB,one 0 (.inl rfl)]at k;rw[mJ B' nx];exact k
 |succ x=>
  rw[kW x B nB,one (x+1) (.inl rfl),one x (.inr rfl)]at k;rw[kW x B' nx];exact k
end
end RM
set_option maxHeartbeats 1000000
namespace RM
section
def hG:y∈dwn h l↔l<=y/\y<l+(h+1-l):=by
 unfold dwn;rw[List.mem_reverse,List.mem_range'_1]
def lE(h:l<=k):dwn k l=dwn k (l+1)++[l]:=by
 unfold dwn;rw[show k+1-l=(k+1-(l+1))+1 by omega,List.range'_succ,Zq]
def vA(h1:l<=x)(h2:x<=k):dwn k l=dwn k (x+1)++x::(if l=x then []else dwn (x-1) l):=by
 by_cases hl:l=x
 ·subst hl;rw[if_pos rfl,lE h2]
 ·rw[if_neg hl];unfold dwn
  have e:List.range' l (k+1-l)=List.range' l (x-l)++x::List.range' (x+1) (k-x):=by
   have a1:k+1-l=(x-l)+((k-x)+1):=by omega
   rw[a1,<-List.range'_append_1,show l+(x-l)=x by omega,List.range'_succ]
  rw[e,Zr,Zq,show x-1+1-l=x-l by omega,show k+1-(x+1)=k-x by omega,Q6];rfl
def mP(h:∀ b∈B,b≠x+1/\b+1≠x):nbs x B=0:=by
 induction B with
 | nil=>rfl
 |cons b B ih=>
  have:=h b (.head _);rw[eR,ih fun b hb=>h b (.tail _ hb),if_neg (by omega)]
def DK(k:Nat):dwn k (k+1)=[]:=by unfold dwn;rw[Nat.sub_self];rfl
def DH(h:l<=k):nbs (k+1) (dwn k l)<=1:=by
 have z:nbs (k+1) (if l=k then []else dwn (k-1) l)=0:=mP fun b hb=>by
  by_cases e:l=k
  ·rw[if_pos e]at hb;cases hb
  ·rw[if_neg e,hG]at hb;omega
 rw[vA h (QV _),DK,List.nil_append,eR,z,if_pos (.inr rfl)];exact QV _
def eV(rs:List (Nat × Nat))(r:Nat × Nat):wrd (rs++[r])=wrd rs++dwn r.1 r.2:=by simp[wrd]
def iM:Rns n (rs++[r])↔Rns n rs/\(r.2<=r.1/\r.1+1<n)/\∀ q∈rs,q.1<r.1/\q.2<r.2:=by
 unfold Rns;rw[Zp];constructor
 ·rintro⟨h1,h2,_,h3⟩;exact#[#[fun q hq=>h1 q (List.mem_append_left _ hq),h2],h1 r (by simp),fun q hq=>h3 q hq r (by simp)]
 ·rintro⟨⟨h1,h2⟩,h3,h4⟩;refine#[fun q hq=>?_,h2,List.pairwise_singleton ..,fun q hq s hs=>?_]
  ·rcases List.mem_append.mp hq with hq | hq
   ·exact h1 q hq
   ·rw[List.mem_singleton.mp hq];exact h3
  ·rw[List.mem_singleton.mp hs];exact h4 q hq
def sy(hx:x+1<n):∀ (m:Nat) (rs:List (Nat × Nat)),rs.length=m->Rns n rs->Ok1 (wrd rs) x ->
  ∃ rs',Rns n rs'/\Eqv (wrd rs++[x]) (wrd rs')/\∀ h l,(∀ q∈rs,q.1<h/\q.2<l)->x<h->x<l->∀ q∈rs',q.1<h/\q.2<l
 | 0,rs,e,_,_=>by
  cases List.length_eq_zero_iff.mp e;exact#[[(x,x)],#[fun r hr=>by rw[List.mem_singleton.mp hr];exact#[QV _,hx],List.pairwise_singleton ..],by simp[wrd,nj];exact .refl _,fun h l _ h1 h2 q hq=>by rw[List.mem_singleton.mp hq];exact#[h1,h2]]
 | m+1,rs,e,R,O=>by
  obtain⟨rs0,r,rfl⟩:∃ rs0 r,rs=rs0++[r]:=⟨rs.dropLast,rs.getLast (by intro z;rw[z]at e;cases e),(Q9 _).symm⟩
  obtain⟨h,l⟩:=r;obtain⟨R0,⟨hl,hn⟩,Rl⟩:=iM.mp R;have hl:l<=h:=hl;have hn:h+1<n:=hn;rw[eV]at O;have O:Ok1 (wrd rs0++dwn h l) x:=O;by_cases c1:h<x
  ·refine#[(rs0++[(h,l)])++[(x,x)],iM.mpr #[R,#[QV _,hx],fun q hq=>?_],?_,fun H L hb h1 h2 q hq=>?_]
   ·rcases List.mem_append.mp hq with hq | hq
    ·have:=Rl q hq;have h1:q.1<h:=this.1;have h2:q.2<l:=this.2;exact#[by show q.1<x;omega,by show q.2<x;omega]
    ·rw[List.mem_singleton.mp hq];exact#[c1,by show l<x;omega]
   ·rw[eV (rs0++[(h,l)])];show Eqv _ (_++dwn x x);rw[nj];exact .refl _
   ·rcases List.mem_append.mp hq with hq | hq
    ·exact hb q hq
    ·rw[List.mem_singleton.mp hq];exact#[h1,h2]
  ·by_cases c2:l<=x
   ·exfalso
    have k:=O (wrd rs0++dwn h (x+1)) (if l=x then []else dwn (x-1) l) (by rw[vA c2 (by omega),Q6]) (fun z=>by
     by_cases e:l=x
     ·rw[if_pos e]at z;cases z
     ·rw[if_neg e,hG]at z;omega)
    by_cases e:l=x
    ·rw[if_pos e]at k;exact absurd k (by unfold nbs;simp)
    ·rw[if_neg e]at k;have:=DH (k:=x-1) (l:=l) (by omega);rw[show x-1+1=x by omega]at this;omega
   ·by_cases c3:x+1=l
    ·by_cases c4:∀ q∈rs0,q.2<x
     ·refine#[rs0++[(h,x)],iM.mpr #[R0,#[by show x<=h;omega,hn],fun q hq=>#[(Rl q hq).1,c4 q hq]],?_,fun H L hb h1 h2 q hq=>?_]
      ·rw[eV,eV];show Eqv (wrd rs0++dwn h l++[x]) (wrd rs0++dwn h x);rw[lE (l:=x) (by omega),c3,Q6];exact .refl _
      ·rcases List.mem_append.mp hq with hq | hq
       ·exact hb q (List.mem_append_left _ hq)
       ·rw[List.mem_singleton.mp hq];exact#[(hb (h,l) (by simp)).1,h2]
     ·exfalso;have hm:rs0≠[]:=fun z=>c4 (by rw[z];intro q hq;cases hq)
      obtain⟨rs1,r1,rfl⟩:∃ rs1 r1,rs0=rs1++[r1]:=#[rs0.dropLast,rs0.getLast hm,(Q9 _).symm]
      obtain⟨h',l'⟩:=r1;obtain⟨R1,⟨hl',hn'⟩,Rl'⟩:=iM.mp R0;have a1:l'<l:=(Rl (h',l') (by simp)).2;have hl':l'<=h':=hl'
      have a2:l'=x:=by
       by_cases q0:l'<x
       ·exact absurd (fun q hq=>by
         rcases List.mem_append.mp hq with hq | hq
         ·have:q.2<l':=(Rl' q hq).2;omega
         ·rw[List.mem_singleton.mp hq];exact q0) c4
       ·omega
      subst a2;have k:=O (wrd rs1++dwn h' (l'+1)) (dwn h l) (by rw[eV];show wrd rs1++dwn h' l'++dwn h l=_;rw[lE hl'];simp) (fun z=>by rw[hG]at z;omega)
      have c:nbs l' (dwn h l)<=1:=by
       rw[lE hl,vN];rw[mP fun b hb=>by rw[hG]at hb;omega];unfold nbs;rw[Nat.zero_add];exact List.countP_le_length
      omega
    ·have nx:x∉dwn h l:=fun z=>by rw[hG]at z;omega
     have fr:∀ b∈dwn h l,far b x:=fun b hb=>by rw[hG]at hb;unfold far;omega
     have O0:Ok1 (wrd rs0) x:=fun A B e nB=>by
      have k:=O A (B++dwn h l) (by rw[e,Q6];rfl) (fun z=>(List.mem_append.mp z).elim nB nx);rw[vN,mP (B:=dwn h l) fun b hb=>by have:=fr b hb;unfold far at this;omega]at k;exact k
     obtain⟨rs',q1,q2,q3⟩:=sy hx m rs0 (by simpa using e) R0 O0;have lt:=q3 h l Rl (by omega) (by omega);refine#[rs'++[(h,l)],iM.mpr #[q1,#[hl,hn],lt],?_,fun H L hb h1 h2 q hq=>?_]
     ·rw[eV,eV,Q6];refine((Eqv.refl (wrd rs0)).app (Av x _ fr).symm).trans ?_;show Eqv (wrd rs0++([x]++dwn h l)) _;rw[<-Q6];exact q2.app (.refl _)
     ·rcases List.mem_append.mp hq with hq | hq
      ·exact q3 H L (fun q hq=>hb q (List.mem_append_left _ hq)) h1 h2 q hq
      ·exact hb q (Q7 _ hq)
abbrev NL(r:List Nat):Prop:=∀ w x C,r=w++x::C->Ok1 w x
def CA(hr:∀ i∈r,i+1<n)(h:NL r):∃ rs,Rns n rs/\Eqv r (wrd rs):=by
 have key:∀ (m:Nat) (w:List Nat),w.length=m->(∃ C,r=w++C)->∃ rs,Rns n rs/\Eqv w (wrd rs):=fun m=>by
  induction m with
  |zero=>
   intro w hw _;cases List.length_eq_zero_iff.mp hw;exact#[[],#[fun q hq=>(nomatch hq),List.Pairwise.nil],.refl _]
  |succ m ih=>
   rintro w hw ⟨C,e⟩
   obtain⟨w0,x,rfl⟩:∃ w0 x,w=w0++[x]:=⟨w.dropLast,w.getLast (by intro z;rw[z]at hw;cases hw),(Q9 _).symm⟩
   obtain⟨rs,R,E⟩:=ih w0 (by simpa using hw) ⟨x::C,by rw[e];simp⟩;have O:Ok1 (wrd rs) x:=(h w0 x C (by rw[e];simp)).eqv E;obtain⟨rs',R',E',_⟩:=sy (hr x (by rw[e];simp)) _ rs rfl R O;exact#[rs',R',(E.app (.refl [x])).trans E']
 exact key _ r rfl ⟨[],by simp⟩
end
end RM
set_option maxHeartbeats 1000000
namespace K32
open RL RT
abbrev dH:Fn :=
 ⟨3,9,[],[],%[.unp [3,4] 1#0,.par 5 6 (.ix 2#0 0#1) (.ix 2#0 1#1),.ife (.or (.not (.chain .le .lt 0#1 6#0 (.bi .len 4#0))) (.cmp .ne (.bi .len 2#0) (.bin .add 2#1 (.bi .int (.cmp .eq 5#0 (.cst (.str "grow"))))))) %[.ret (.cst .non)|.nil] .nil,.parL 7 8 (.ix 4#0 6#0) (.slF 4#0 (.bin .add 6#0 1#1)),.ife (.and (.cmp .eq 5#0 (.cst (.str "double"))) (.cmp .gt 3#0 0#1)) %[.ret (.tup %[.bin .sub 3#0 1#1,.frz (.bin .add (.bin .add (.slT 4#0 (.bin .add 6#0 1#1)) (.lst %[7#0|.nil])) 8#0)|.nil])|.nil] .nil,.ife (.and (.cmp .eq 5#0 (.cst (.str "grow"))) (.and (.chain .le .lt 0#1 (.ix 2#0 2#1) (.bin .sub 0#0 1#1)) (.inn false (.ix 2#0 2#1) (.tup %[.bin .sub 7#0 1#1,.bin .add 7#0 1#1|.nil])))) %[.ret (.tup %[3#0,.frz (.bin .add (.bin .add (.slT 4#0 (.bin .add 6#0 1#1)) (.lst %[.ix 2#0 2#1,7#0|.nil])) 8#0)|.nil])|.nil] .nil,.ife (.and (.cmp .eq 5#0 (.cst (.str "swap"))) (.and (.cmp .ne 8#0 (.lst .nil)) (.inn true (.ix 8#0 0#1) (.tup %[.bin .sub 7#0 1#1,7#0,.bin .add 7#0 1#1|.nil])))) %[.ret (.tup %[3#0,.frz (.bin .add (.bin .add (.slT 4#0 6#0) (.lst %[.ix 8#0 0#1,7#0|.nil])) (.slF 8#0 1#1))|.nil])|.nil] .nil,.ife (.and (.cmp .eq 5#0 (.cst (.str "drop"))) (.and (.cmp .ne 8#0 (.lst .nil)) (.cmp .eq (.ix 8#0 0#1) 7#0))) %[.ret (.tup %[.bin .add 3#0 1#1,.frz (.bin .add (.slT 4#0 (.bin .add 6#0 1#1)) (.slF 8#0 1#1))|.nil])|.nil] .nil,.ife (.and (.cmp .eq 5#0 (.cst (.str "cut"))) (.and (.cmp .gt (.bi .len 8#0) 1#1) (.and (.cmp .eq (.ix 8#0 1#1) 7#0) (.inn false (.ix 8#0 0#1) (.tup %[.bin .sub 7#0 1#1,.bin .add 7#0 1#1|.nil]))))) %[.ret (.tup %[3#0,.frz (.bin .add (.slT 4#0 (.bin .add 6#0 1#1)) (.slF 8#0 2#1))|.nil])|.nil] .nil,.ret (.cst .non)|.nil]⟩
open RM
section
variable{cl:Cl}
def iY(h:ev cl Y a=some (.lst xs))(tf:aC a=true)(im:aw xs=true):ev cl Y (.frz a)=some (.fL xs):=by
 show(ev cl Y a).bind _=_;rw[h,Option.bind_some,if_pos tf];exact if_pos im
def Dq(h:ev cl Y e=some x)(h':ev cl Y e'=some y)(ok:(x.imm&&(aB y&&aC e'))=true)(k:ao cl M r ((Y.set i (some x)).set j (some y))=res):ao cl M %[.parL i j e e'|r] Y=res :=
 cU (by
  show(ev cl Y e).bind _=_;rw[h,Option.bind_some,h',Option.bind_some]
  exact if_pos ok) k
def weq(x:PySem.Str):ba .eq (.str x) (.str x)=some true:=by
 show some (x == x)=_;rw[beq_self_eq_true]
def wne{x y:PySem.Str}(h:x≠y):ba .eq (.str x) (.str y)=some false:=by
 show some (x == y)=_;rw[beq_eq_false_iff_ne.mpr h]
end
def JE{xs:List Nat}{k x:Nat}(h:xs[k]?=some x):ixV (.fL (L xs)) (.int (k:Nat))=some (.int (x:Nat)):=by
 show(if aw (L xs)=true then bI (L xs) (k:Nat)else none)=_;rw[if_pos (aY xs)];unfold bI L;rw[if_pos (Int.natCast_nonneg k),Int.toNat_natCast,List.getElem?_map,h];rfl
def nY{xs:List Nat}{k x:Nat}(h:xs[k]?=some x):ixV (.lst (L xs)) (.int (k:Nat))=some (.int (x:Nat)):=by
 show bI (L xs) (k:Nat)=_;unfold bI L;rw[if_pos (Int.natCast_nonneg k),Int.toNat_natCast,List.getElem?_map,h];rfl
def xa{xs:List Nat}{k:Nat}(h:k<=xs.length):cutAt (L xs).length (k:Nat)=k:=by
 unfold cutAt;rw[if_pos (Int.natCast_nonneg k),Int.toNat_natCast,aS];omega
def BK{xs:List Nat}{k:Nat}(h:k<=xs.length):ij (.fL (L xs)) (.int (k:Nat))=some (.lst (L (xs.take k))):=by
 show some (D.lst ((L xs).take (cutAt (L xs).length (k:Nat))))=_;rw[xa h,tN]
def zb(xs:List Nat)(n:Nat):(L xs).drop n=L (xs.drop n):=by simp[L]
def IA{xs:List Nat}{k:Nat}(h:k<=xs.length):i6 (.fL (L xs)) (.int (k:Nat))=some (.lst (L (xs.drop k))):=by
 show some (D.lst ((L xs).drop (cutAt (L xs).length (k:Nat))))=_;rw[xa h,zb]
def sj{xs:List Nat}{k:Nat}(h:k<=xs.length):i6 (.lst (L xs)) (.int (k:Nat))=some (.lst (L (xs.drop k))):=by
 show some (D.lst ((L xs).drop (cutAt (L xs).length (k:Nat))))=_;rw[xa h,zb]
def ja{a b:List Nat}(h:a.length+b.length<=50000):aF .add (.lst (L a)) (.lst (L b))=some (.lst (L (a++b))):=by
 rw[pd,if_pos (by rw[aS,aS];unfold most;omega)];simp[L]
def IF(xs:List Nat):biV .len (.fL (L xs))=some (.int (xs.length:Nat)):=by
 show some (D.int ((L xs).length:Nat))=_;rw[aS]
def By(xs:List Nat):biV .len (.lst (L xs))=some (.int (xs.length:Nat)):=by
 show some (D.int ((L xs).length:Nat))=_;rw[aS]
abbrev prF(r:Nat)(row:List Nat):D:=.tup [.int (r:Nat),.fL (L row)]
def lX(r:Nat)(row:List Nat):(prF r row).imm=true:=by simp[prF,D.imm,aw,aY]
inductive Stp (n:Nat):Nat->List Nat->PySem.Str->Int->List Int->Nat->List Nat->Prop
 | swap {r:Nat} {p q:List Nat} {h x:Nat}:(h+1<x\/x+1<h)->Stp n r (p++h::x::q) "swap" (p.length:Nat) [] r (p++x::h::q)
 | drop {r:Nat} {p q:List Nat} {h:Nat}:Stp n r (p++h::h::q) "drop" (p.length:Nat) [] (r+1) (p++h::q)
 | dbl {r:Nat} {p q:List Nat} {h:Nat}:Stp n (r+1) (p++h::q) "double" (p.length:Nat) [] r (p++h::h::q)
 | cut {r:Nat} {p q:List Nat} {h x:Nat}:(x=h+1\/h=x+1)->Stp n r (p++h::x::h::q) "cut" (p.length:Nat) [] r (p++h::q)
 | grow {r:Nat} {p q:List Nat} {h b:Nat}:b+1<n->(b=h+1\/h=b+1)->Stp n r (p++h::q) "grow" (p.length:Nat) [((b:Nat):Int)] r (p++h::b::h::q)
abbrev trD(w:PySem.Str)(a:Int)(bs:List Int):D:=.tup (.str w :: .int a::bs.map .int)
def vI:∀ (w:PySem.Str) (a:Int) (bs:List Int),(trD w a bs).imm=true:=fun w a bs=>by
 have:∀ bs:List Int,aw (bs.map D.int)=true:=fun bs=>by
  induction bs with
  | nil=>rfl
  | cons b r ih=>rw[List.map_cons,aw,ih];rfl
 simp[trD,D.imm,aw,this]
def Stp.keep(S:Stp n r row w a bs r' row')(hr:∀ i∈row,i+1<n):(∀ i∈row',i+1<n)/\(aq n row').1=(aq n row).1/\(aq n row').2+r'=(aq n row).2+r/\row'.length<=row.length+2:=by
 have app:∀ (p q:List Nat) (m:List Nat),p++m++q=p++(m++q):=fun p q m=>Q6 ..
 cases S with
 |@swap r p q h x d=>
  have e:=Ex (n:=n) (i:=h) (j:=x) (a:=p) (b:=q) (hr h (by simp)) (hr x (by simp)) d (fun i hi=>hr i (by simp[hi]));rw[app,app]at e;have e:aq n (p++h::x::q)=aq n (p++x::h::q):=e;exact⟨fun i hi=>hr i (by simp at hi ⊢;rcases hi with a | a | a | a<;>simp[a]),by rw[e],by rw[e],by simp⟩
 |@drop r p q h=>
  have e:=uk (n:=n) (i:=h) (a:=p) (b:=q) (hr h (by simp)) (fun i hi=>hr i (by simp[hi]));rw[app,app]at e;have e:(aq n (p++h::h::q)).1=(aq n (p++h::q)).1/\(aq n (p++h::h::q)).2=(aq n (p++h::q)).2+1:=e;exact⟨fun i hi=>hr i (by simp at hi ⊢;rcases hi with a | a | a<;>simp[a]),e.1.symm,by rw[e.2];omega,by simp;omega⟩
 |@dbl r p q h=>
  have e:=uk (n:=n) (i:=h) (a:=p) (b:=q) (hr h (by simp)) (fun i hi=>hr i (by simp[hi]));rw[app,app]at e;have e:(aq n (p++h::h::q)).1=(aq n (p++h::q)).1/\(aq n (p++h::h::q)).2=(aq n (p++h::q)).2+1:=e;exact⟨fun i hi=>hr i (by simp only[List.mem_append,List.mem_cons]at hi ⊢;rcases hi with a | a | a | a<;>simp[a]),e.1,by rw[e.2];omega,by simp;omega⟩
 |@cut r p q h x d=>
  have e:=pS (n:=n) (i:=h) (j:=x) (a:=p) (b:=q) (hr h (by simp)) (hr x (by simp)) d (fun i hi=>hr i (by simp[hi]));rw[app,app]at e;have e:aq n (p++h::x::h::q)=aq n (p++h::q):=e;exact⟨fun i hi=>hr i (by simp at hi ⊢;rcases hi with a | a | a<;>simp[a]),by rw[e],by rw[e],by simp;omega⟩
 |@grow r p q h b hb d=>
  have e:=pS (n:=n) (i:=h) (j:=b) (a:=p) (b:=q) (hr h (by simp)) hb d (fun i hi=>hr i (by simp[hi]));rw[app,app]at e;have e:aq n (p++h::b::h::q)=aq n (p++h::q):=e;exact⟨fun i hi=>(by simp only[List.mem_append,List.mem_cons]at hi;rcases hi with a | a | a | a | a<;>first | (rw[a];exact hb) | exact hr i (by simp[a])),by rw[e],by rw[e],by simp;omega⟩
end K32
set_option maxHeartbeats 1000000
namespace K32
open RL RT RM
section
variable{cl:Cl}{n r:Nat}{row:List Nat}
def C4{a:Int}(h:0<=a/\a<(row.length:Nat))(h6:(Y[6]?).bind id=some (.int a))(h4:(Y[4]?).bind id=some (.fL (L row))):ev cl Y (.chain .le .lt 0#1 6#0 (.bi .len 4#0))=some (.bl true) :=
 lB aj (aa h6) (bJ (aa h4) (IF row)) (by show some (decide _)=_;rw[decide_eq_true h.1]) (by show some (decide _)=_;rw[decide_eq_true h.2])
def in2(x h:Nat):inV (.int (x:Nat)) (.tup [.int ((h:Int)-1),.int ((h:Int)+1)])=some (decide (x=h+1\/h=x+1)):=by
 show some (((h:Int)-1 == (x:Int)) || (((h:Int)+1 == (x:Int)) || false))=_;congr 1;rw[Zd];simp;omega
def in3(x h:Nat):inV (.int (x:Nat)) (.tup [.int ((h:Int)-1),.int (h:Nat),.int ((h:Int)+1)])=some (!decide (h+1<x\/x+1<h)):=by
 show some (((h:Int)-1 == (x:Int)) || ((((h:Nat):Int) == (x:Int)) || (((h:Int)+1 == (x:Int)) || false)))=_;congr 1;rw[Zd];simp;omega
def JS(b:Int)(h:Nat):inV (.int b) (.tup [.int ((h:Int)-1),.int ((h:Int)+1)])=some (decide (b=h-1\/b=h+1)):=by
 show some (((h:Int)-1 == b) || (((h:Int)+1 == b) || false))=_;congr 1;rw[Zd];simp;omega
abbrev A5:Ss :=
 %[.ife (.and (.cmp .eq 5#0 (.cst (.str "double"))) (.cmp .gt 3#0 0#1)) %[.ret (.tup %[.bin .sub 3#0 1#1,.frz (.bin .add (.bin .add (.slT 4#0 (.bin .add 6#0 1#1)) (.lst %[7#0|.nil])) 8#0)|.nil])|.nil] .nil,.ife (.and (.cmp .eq 5#0 (.cst (.str "grow"))) (.and (.chain .le .lt 0#1 (.ix 2#0 2#1) (.bin .sub 0#0 1#1)) (.inn false (.ix 2#0 2#1) (.tup %[.bin .sub 7#0 1#1,.bin .add 7#0 1#1|.nil])))) %[.ret (.tup %[3#0,.frz (.bin .add (.bin .add (.slT 4#0 (.bin .add 6#0 1#1)) (.lst %[.ix 2#0 2#1,7#0|.nil])) 8#0)|.nil])|.nil] .nil,.ife (.and (.cmp .eq 5#0 (.cst (.str "swap"))) (.and (.cmp .ne 8#0 (.lst .nil)) (.inn true (.ix 8#0 0#1) (.tup %[.bin .sub 7#0 1#1,7#0,.bin .add 7#0 1#1|.nil])))) %[.ret (.tup %[3#0,.frz (.bin .add (.bin .add (.slT 4#0 6#0) (.lst %[.ix 8#0 0#1,7#0|.nil])) (.slF 8#0 1#1))|.nil])|.nil] .nil,.ife (.and (.cmp .eq 5#0 (.cst (.str "drop"))) (.and (.cmp .ne 8#0 (.lst .nil)) (.cmp .eq (.ix 8#0 0#1) 7#0))) %[.ret (.tup %[.bin .add 3#0 1#1,.frz (.bin .add (.slT 4#0 (.bin .add 6#0 1#1)) (.slF 8#0 1#1))|.nil])|.nil] .nil,.ife (.and (.cmp .eq 5#0 (.cst (.str "cut"))) (.and (.cmp .gt (.bi .len 8#0) 1#1) (.and (.cmp .eq (.ix 8#0 1#1) 7#0) (.inn false (.ix 8#0 0#1) (.tup %[.bin .sub 7#0 1#1,.bin .add 7#0 1#1|.nil]))))) %[.ret (.tup %[3#0,.frz (.bin .add (.slT 4#0 (.bin .add 6#0 1#1)) (.slF 8#0 2#1))|.nil])|.nil] .nil,.ret (.cst .non)|.nil]
abbrev s9(n r:Nat)(p:List Nat)(h:Nat)(q:List Nat)(w:PySem.Str)(bs:List Int):St:=[some (.int (n:Nat)),some (prF r (p++h::q)),some (trD w (p.length:Nat) bs),some (.int (r:Nat)),some (.fL (L (p++h::q))),some (.str w),some (.int (p.length:Nat)),some (.int (h:Nat)),some (.lst (L q))]
section
variable{p q:List Nat}{h:Nat}{w:PySem.Str}{bs:List Int}
def b1:aF .add (.int (p.length:Nat)) (.int 1)=some (.int ((p.length+1:Nat):Int)):=rfl
def tk1:ij (.fL (L (p++h::q))) (.int ((p.length+1:Nat):Int))=some (.lst (L (p++[h]))):=by
 rw[BK (by simp)]
 have e:(p++h::q).take (p.length+1)=p++[h]:=by
  rw[show p++h::q=(p++[h])++q by simp,List.take_left' (by simp)]
 rw[e]
def tk0:ij (.fL (L (p++h::q))) (.int (p.length:Nat))=some (.lst (L p)):=by
 rw[BK (by simp),List.take_left' rfl]
def no(x:PySem.Str)(hx:w≠x)(e:E)(Y:St)(h5:(Y[5]?).bind id=some (.str w)):(ev cl Y (.and (.cmp .eq 5#0 (.cst (.str x))) e)).bind truth=some false:=bb (et (aH (aa h5) aj (wne hx)))
def yes(x:PySem.Str)(e:E)(Y:St)(h5:(Y[5]?).bind id=some (.str x))(h:ev cl Y e=some (.bl true)):(ev cl Y (.and (.cmp .eq 5#0 (.cst (.str x))) e)).bind truth=some true:=bb (bO (aH (aa h5) aj (weq x)) h)
def oa{r':Nat}{row':List Nat}{xs:List Nat}(e:xs=row'):D.tup [.int (r':Nat),.fL (L xs)]=prF r' row':=by rw[e];rfl
def rk{e:E}(r':Nat)(xs:List Nat):bj [] e (.tup [.int (r':Nat),.fL (L xs)])=true:=by
 unfold bj;rw[show(D.tup [.int (r':Nat),.fL (L xs)]).imm=true from lX r' xs];rfl
def FH:ba .ne (.lst (L q)) (.lst [])=some (!q.isEmpty):=ne_nil q
end
end
end K32
set_option maxHeartbeats 1000000
namespace K32
open RL RT RM
section
variable{cl:Cl}{n r:Nat}{row:List Nat}{w:PySem.Str}{bs:List Int}
abbrev A3:Ss:=.cons (.ife (.or (.not (.chain .le .lt 0#1 6#0 (.bi .len 4#0))) (.cmp .ne (.bi .len 2#0) (.bin .add 2#1 (.bi .int (.cmp .eq 5#0 (.cst (.str "grow"))))))) %[.ret (.cst .non)|.nil] .nil) %[.parL 7 8 (.ix 4#0 6#0) (.slF 4#0 (.bin .add 6#0 1#1))|A5]
abbrev s7(n r:Nat)(row:List Nat)(w:PySem.Str)(a:Int)(bs:List Int):St:=[some (.int (n:Nat)),some (prF r row),some (trD w a bs),some (.int (r:Nat)),some (.fL (L row)),some (.str w),some (.int a),none,none]
def out{a:Int}{d:D}(k:ao cl [] A3 (s7 n r row w a bs)=some (.rt d,Zz)):evF cl dH [.int (n:Nat),prF r row,trD w a bs]=some d:=by
 have im2:aw [D.int (r:Nat),.fL (L row)]=true:=by simp[aw,D.imm,aY]
 exact aU (fn:=dH) rfl rfl (jK (aa rfl) rfl im2 rfl (kU (aI (aa rfl) aj rfl) (aI (aa rfl) aj rfl) rfl k))
def JC{a:Int}{k:Bool}(hk:ba .eq (.str w) (.str "grow")=some k):ev cl (s7 n r row w a bs) (.cmp .ne (.bi .len 2#0) (.bin .add 2#1 (.bi .int (.cmp .eq 5#0 (.cst (.str "grow"))))))=some (.bl (!decide (bs.length=if k then 1 else 0))):=by
 refine aH (bJ (aa rfl) (d:=.int ((bs.length+2:Nat):Int)) (by show some (D.int ((D.str w::D.int _::bs.map D.int).length:Nat))=_;rw[List.length_cons,List.length_cons,List.length_map])) (az aj (bJ (aH (aa rfl) aj hk) rfl) rfl) ?_;show some (!(_ == _))=_;congr 2;rw[Zd,beq_iff_eq,decide_eq_true_eq];cases k
 ·show((bs.length+2:Nat):Int)=2+0↔bs.length=0;omega
 ·show((bs.length+2:Nat):Int)=2+1↔bs.length=1;omega
end
section
variable{cl:Cl}{n r:Nat}{row:List Nat}
variable{p q:List Nat}{h x:Nat}
def J5(a b:Nat):biV .abs (.int ((a:Int)-(b:Nat)))=some (.int ((a:Int)-b).natAbs):=by
 show some (D.int (if(a:Int)-b<0 then -((a:Int)-b)else(a:Int)-b))=_;congr 2;split<;>omega
end
end K32
set_option maxHeartbeats 1000000
namespace K34
open RL RT RM K32
section
variable{cl:Cl}
def iE{p q:List Nat}{h n r:Nat}{w:PySem.Str}{bs:List Int}{k:Bool}(hk:ba .eq (.str w) (.str "grow")=some k)(hb:bs.length=if k then 1 else 0){d:D}{Zz:St}(z:ao cl [] A5 (s9 n r p h q w bs)=some (.rt d,Zz)):evF cl dH [.int (n:Nat),prF r (p++h::q),trD w (p.length:Nat) bs]=some d:=by
 have hp:0<=((p.length:Nat):Int)/\((p.length:Nat):Int)<((p++h::q).length:Nat):=by simp;omega
 have pl:ev cl (s7 n r (p++h::q) w (p.length:Nat) bs) (.chain .le .lt 0#1 6#0 (.bi .len 4#0))=some (.bl true):=C4 hp rfl rfl;have ixh:ixV (.fL (L (p++h::q))) (.int (p.length:Nat))=some (.int (h:Nat)):=JE (by simp)
 have dr:i6 (.fL (L (p++h::q))) (.int ((p.length+1:Nat):Int))=some (.lst (L q)):=by
  rw[IA (by simp)];simp
 have l:=JC (cl:=cl) (n:=n) (r:=r) (row:=p++h::q) (a:=(p.length:Nat)) (bs:=bs) hk;rw[decide_eq_true hb]at l;exact out (bc (bb (wK (de pl) l)) (Dq (aI (aa rfl) (aa rfl) ixh) (qX (aa rfl) (az (aa rfl) aj b1) dr) (by simp[D.imm,aB,aY]) z))
def nw{n r:Nat}{p q:List Nat}{h:Nat}{w:PySem.Str}{bs:List Int}(x:PySem.Str)(hx:w≠x)(e:E):(ev cl (s9 n r p h q w bs) (.and (.cmp .eq 5#0 (.cst (.str x))) e)).bind truth=some false:=no x hx e _ rfl
def Al{n r r':Nat}{row row':List Nat}{w:PySem.Str}{a:Int}{bs:List Int}(S:Stp n r row w a bs r' row')(hz:row.length<=5000):evF cl dH [.int (n:Nat),prF r row,trD w a bs]=some (prF r' row'):=by
 cases S with
 |@swap r p q h x d=>
  have hz:p.length+(q.length+2)<=5000:=by simpa using hz
  have i0:ev cl (s9 n r p h (x::q) "swap" []) (.ix 8#0 0#1)=some (.int (x:Nat)):=aI (aa rfl) aj rfl;have tp:ev cl (s9 n r p h (x::q) "swap" []) (.tup %[.bin .sub 7#0 1#1,7#0,.bin .add 7#0 1#1|.nil])=some (.tup [.int ((h:Int)-1),.int (h:Nat),.int ((h:Int)+1)]):=b8 (ah (az (aa rfl) aj rfl) (ah (aa rfl) (ah (az (aa rfl) aj rfl) aA)));have c:=wI (n:=true) i0 tp (in3 x h);rw[decide_eq_true d]at c;have s1:i6 (.lst (L (x::q))) (.int 1)=some (.lst (L q)):=sj (xs:=x::q) (k:=1) (by simp);exact Eq.trans (iE (wne ∅) rfl (bc (nw "double" ∅ _) (bc (nw "grow" ∅ _) (cC (yes "swap" _ _ rfl (bO (aH (aa rfl) (dR aA) FH) c)) (aL (b8 (ah (aa rfl) (ah (iY (az (az (k8 (aa rfl) (aa rfl) tk0) (dR (ah i0 (ah (aa rfl) aA))) (ja (b:=[x,h]) (by simp;omega))) (qX (aa rfl) aj s1) (ja (by simp;omega))) rfl (aY _)) aA))) (rk _ _)))))) (congrArg some (oa (xs:=p++[x,h]++q) (by simp)))
 |@drop r p q x=>
  have hz:p.length+(q.length+2)<=5000:=by simpa using hz
  have i0:ev cl (s9 n r p x (x::q) "drop" []) (.ix 8#0 0#1)=some (.int (x:Nat)):=aI (aa rfl) aj rfl;have s1:i6 (.lst (L (x::q))) (.int 1)=some (.lst (L q)):=sj (xs:=x::q) (k:=1) (by simp);have bs:aF .add (.int (r:Nat)) (.int 1)=some (.int ((r+1:Nat):Int)):=rfl;exact Eq.trans (iE (wne ∅) rfl (bc (nw "double" ∅ _) (bc (nw "grow" ∅ _) (bc (nw "swap" ∅ _) (cC (yes "drop" _ _ rfl (bO (aH (aa rfl) (dR aA) FH) (aH i0 (aa rfl) (by show some (_ == _)=_;rw[beq_self_eq_true])))) (aL (b8 (ah (az (aa rfl) aj bs) (ah (iY (az (k8 (aa rfl) (az (aa rfl) aj b1) tk1) (qX (aa rfl) aj s1) (ja (by simp;omega))) rfl (aY _)) aA))) (rk _ _))))))) (congrArg some (oa (xs:=(p++[x])++q) (by simp)))
 |@dbl r p q h=>
  have hz:p.length+(q.length+1)<=5000:=by simpa using hz
  have t:ev cl (s9 n (r'+1) p h q "double" []) (.cmp .gt 3#0 0#1)=some (.bl true):=aH (aa rfl) aj (by show some (decide _)=_;rw[decide_eq_true (by omega)])
  have bs:aF .sub (.int ((r'+1:Nat):Int)) (.int 1)=some (.int (r':Nat)):=by show some (D.int _)=_;congr 2;omega
  exact Eq.trans (iE (wne ∅) rfl (cC (yes "double" _ _ rfl t) (aL (b8 (ah (az (aa rfl) aj bs) (ah (iY (az (az (k8 (aa rfl) (az (aa rfl) aj b1) tk1) (dR (ah (aa rfl) aA)) (ja (b:=[h]) (by simp;omega))) (aa rfl) (ja (by simp;omega))) rfl (aY _)) aA))) (rk _ _)))) (congrArg some (oa (xs:=(p++[h])++[h]++q) (by simp)))
 |@cut r p q y x d=>
  have hz:p.length+(q.length+3)<=5000:=by simpa using hz
  have t0:ev cl (s9 n r p y (x::y::q) "cut" []) (.cmp .gt (.bi .len 8#0) 1#1)=some (.bl true):=aH (bJ (aa rfl) (By _)) aj (by show some (decide _)=_;rw[decide_eq_true (by simp;omega)]);have i1:ev cl (s9 n r p y (x::y::q) "cut" []) (.ix 8#0 1#1)=some (.int (y:Nat)):=aI (aa rfl) aj rfl;have i0:ev cl (s9 n r p y (x::y::q) "cut" []) (.ix 8#0 0#1)=some (.int (x:Nat)):=aI (aa rfl) aj rfl;have t1:ev cl (s9 n r p y (x::y::q) "cut" []) (.cmp .eq (.ix 8#0 1#1) 7#0)=some (.bl true):=aH i1 (aa rfl) (by show some (_ == _)=_;rw[beq_self_eq_true]);have tp:ev cl (s9 n r p y (x::y::q) "cut" []) (.tup %[.bin .sub 7#0 1#1,.bin .add 7#0 1#1|.nil])=some (.tup [.int ((y:Int)-1),.int ((y:Int)+1)]):=b8 (ah (az (aa rfl) aj rfl) (ah (az (aa rfl) aj rfl) aA));have c:=wI (n:=false) i0 tp (in2 x y);rw[decide_eq_true d]at c;have s1:i6 (.lst (L (x::y::q))) (.int 2)=some (.lst (L q)):=sj (xs:=x::y::q) (k:=2) (by simp);exact Eq.trans (iE (wne ∅) rfl (bc (nw "double" ∅ _) (bc (nw "grow" ∅ _) (bc (nw "swap" ∅ _) (bc (nw "drop" ∅ _) (cC (yes "cut" _ _ rfl (bO t0 (bO t1 c))) (aL (b8 (ah (aa rfl) (ah (iY (az (k8 (aa rfl) (az (aa rfl) aj b1) tk1) (qX (aa rfl) aj s1) (ja (by simp;omega))) rfl (aY _)) aA))) (rk _ _)))))))) (congrArg some (oa (xs:=(p++[y])++q) (by simp)))
 |@grow r p q h m hm d=>
  have hz:p.length+(q.length+1)<=5000:=by simpa using hz
  have i2:ev cl (s9 n r p h q "grow" [((m:Nat):Int)]) (.ix 2#0 2#1)=some (.int (m:Nat)):=aI (aa rfl) aj rfl;have tp:ev cl (s9 n r p h q "grow" [((m:Nat):Int)]) (.tup %[.bin .sub 7#0 1#1,.bin .add 7#0 1#1|.nil])=some (.tup [.int ((h:Int)-1),.int ((h:Int)+1)]):=b8 (ah (az (aa rfl) aj rfl) (ah (az (aa rfl) aj rfl) aA));have bn:aF .sub (.int (n:Nat)) (.int 1)=some (.int ((n:Int)-1)):=rfl;have c1:ev cl (s9 n r p h q "grow" [((m:Nat):Int)]) (.chain .le .lt 0#1 (.ix 2#0 2#1) (.bin .sub 0#0 1#1))=some (.bl true):=lB aj i2 (az (aa rfl) aj bn) (by show some (decide _)=_;rw[decide_eq_true (by omega)]) (by show some (decide _)=_;rw[decide_eq_true (by omega)]);have c2:=wI (n:=false) i2 tp ((JS m h).trans (by rw[decide_eq_true (by omega)]));exact Eq.trans (iE (weq _) rfl (bc (nw "double" ∅ _) (cC (yes "grow" _ _ rfl (bO c1 c2)) (aL (b8 (ah (aa rfl) (ah (iY (az (az (k8 (aa rfl) (az (aa rfl) aj b1) tk1) (dR (ah i2 (ah (aa rfl) aA))) (ja (b:=[m,h]) (by simp;omega))) (aa rfl) (ja (by simp;omega))) rfl (aY _)) aA))) (rk _ _))))) (congrArg some (oa (xs:=(p++[h])++[m,h]++q) (by simp)))
end
end K34
namespace RM
open RL RT
section
def wB{f:Nat}{scr:D}{k n size:Nat}(hn:2<=n)(hs:size<=100)(hk:k<=900)(h:∀ k:Nat,k<=1000->∃ ds:List Nat,ju ds (List.replicate 12 97)/\cl f [scr,.int k,.lst (L (List.replicate 12 97))]=some (.lst (L ds))) :
  ∃ hs:List Nat,(∀ h∈hs,h+1<n)/\hs.length<=12*aM 12 0 size/\evF cl (dF f) [scr,.int k,.int n,.int size]=some (.lst (L hs)):=by
 have cnt:aM 12 0 size<=100:=by
  unfold aM;rw[if_pos ∅];split
  ·lia
  ·simp
 have rg:cV 12 (.int 0) (.int size)=some (L (List.range' 0 (aM 12 0 size) 12)):=by
  dsimp only[cV];rw[if_pos ⟨by decide,by decide,by decide,by unfold most;lia,by decide,by decide,by lia,by lia⟩];have:=mM 12 (aM 12 0 size) 0;exact congrArg some this
 have m97:aF .mul (.lst [.int 97]) (.int 12)=some (.lst (L (List.replicate 12 97))):=rfl
 obtain⟨Zz,e,hs',o5,o6,o7,o8,q1,q2,rfl⟩:=cX (f:=ao cl [4] (fA f)) (tg:=[5]) (xs:=List.range' 0 (aM 12 0 size) 12) (Y:=[some scr,some (.int k),some (.int n),some (.int size),some (.lst []),none,none,none,none])
  (fun p Y=>∃ (hs:List Nat) (o5 o6 o7 o8:Option D),(∀ h∈hs,h+1<n)/\hs.length<=12*p.length/\Y=[some scr,some (.int k),some (.int n),some (.int size),some (.lst (L hs)),o5,o6,o7,o8]) ⟨[],none,none,none,none,by simp,by simp,rfl⟩ (by
   rintro p x q Y hx ⟨hs,o5,o6,o7,o8,q1,q2,rfl⟩
   have hxm:x∈List.range' 0 (aM 12 0 size) 12:=by rw[hx];simp
   have hxb:x<=1200:=by
    obtain⟨i,hi,rfl⟩:=List.mem_range'.mp hxm;lia
   have hpl:p.length<100:=by
    have:=congrArg List.length hx;simp at this;lia
   obtain⟨ds,hds,ed⟩:=h (k+x / 12) ⋯
   have ek:(k:Int)+(x:Int) / 12=((k+x / 12:Nat):Int):=by lia
   have hdl:ds.length=12:=by rw[hds.1];simp
   obtain⟨ZC,e2,hs2,o7',o8',g1,g2,rfl⟩:=cX (f:=ao cl [4] (cJ f)) (tg:=[7]) (xs:=ds.take (cutAt (L ds).length ((size:Int)-(x:Int)))) (Y:=[some scr,some (.int k),some (.int n),some (.int size),some (.lst (L hs)),some (.int x),some (.lst (L ds)),o7,o8])
    (fun p Y=>∃ (hs':List Nat) (o7 o8:Option D),(∀ h∈hs',h+1<n)/\hs'.length<=hs.length+p.length/\Y=[some scr,some (.int k),some (.int n),some (.int size),some (.lst (L hs')),some (.int x),some (.lst (L ds)),o7,o8]) ⟨hs,o7,o8,q1,by simp,rfl⟩ (by
     rintro p' y q' Y hy ⟨hs',o7,o8,g1,g2,rfl⟩
     have hpl':p'.length<12:=by
      have:=congrArg List.length hy;simp at this;lia
     obtain⟨m,hm,em⟩:=vV (cl:=cl) (f:=f) (scr:=scr) (k:=k) (size:=size) (start:=x) (x:=y) (steps:=ds) (o7:=o7) (o8:=o8) hn g1 ⋯;refine#[_,em,_,_,_,?_,?_,rfl]
     ·intro h hh;rcases List.mem_append.mp hh with z | z
      ·exact g1 h z
      ·rw[List.mem_singleton.mp z];exact hm
     ·simp;lia)
   have hcl:(ds.take (cutAt (L ds).length ((size:Int)-(x:Int)))).length<=12:=by
    rw[Zt];lia
   refine#[[some scr,some (.int k),some (.int n),some (.int size),some (.lst (L hs2)),some (.int x),some (.lst (L ds)),o7',o8'],?_,hs2,_,_,_,_,g1,?_,rfl]
   ·simp only[eW,Option.bind_some,fA,ao,di,fE,bT,BE,aX,cx,bU,fD,evs,b9,itemsS_lst,itemsS_tup,List.set_cons_succ,List.set_cons_zero,List.getElem?_cons_succ,List.getElem?_cons_zero,id,Option.map_some,qR (show(0:Int)<12 by decide) (show(12:Int)<2 ^ 200 by decide),bS,ek,m97,ed,aK,D.imm,aB,aY,aC,Bool.true_and,Bool.or_true,Bool.true_or,if_true,gr,ij,tN,items,e2]
   ·simp only[List.length_append,List.length_cons,List.length_nil]
    lia)
 refine#[hs',q1,by rw[List.length_range']at q2;exact q2,?_];simp[evF,dF,ao,fE,lF,cy,bU,aX,fD,evs,b9,rg,aB,aw];simp[e,bj,aB,aY,aZ]
def wV(im:d.imm=true)(hb:bf tg d Y=some ZA)(h:g ZA=some (.rt x,ZC)):aP g tg (d::r) Y=some (.rt x,ZC):=by
 rw[aP,if_pos im,hb,Option.bind_some,h];rfl
def wF{f:Nat}{scr:D}{k n size:Nat}(hn:n<2)(hs:size<=100)(hk:k<=900)(h:∀ k:Nat,k<=1000->∃ ds:List Nat,ju ds (List.replicate 12 97)/\cl f [scr,.int k,.lst (L (List.replicate 12 97))]=some (.lst (L ds))) :
  evF cl (dF f) [scr,.int k,.int n,.int size]=some (.lst []):=by
 have cnt:aM 12 0 size<=100:=by
  unfold aM;rw[if_pos ∅];split
  ·lia
  ·simp
 have rg:cV 12 (.int 0) (.int size)=some (L (List.range' 0 (aM 12 0 size) 12)):=by
  dsimp only[cV];rw[if_pos ⟨by decide,by decide,by decide,by unfold most;lia,by decide,by decide,by lia,by lia⟩];have:=mM 12 (aM 12 0 size) 0;exact congrArg some this
 by_cases c:size=0
 ·subst c;have r0:cV 12 (.int 0) (.int ((0:Nat):Int))=some []:=rfl;exact aU rfl rfl (d8 (dR aA) rfl (bY (yx aj (aa rfl) r0) jI (aL (aa rfl) rfl)))
 ·obtain⟨m,hm⟩:∃ m,aM 12 0 size=m+1:=by
   refine#[aM 12 0 size-1,?_]
   have:0<aM 12 0 size:=by
    unfold aM;rw[if_pos ∅,if_pos (by omega)];omega
   omega
  rw[hm,List.range'_succ]at rg;obtain⟨ds,hds,ed⟩:=h k (by omega)
  have hdl:ds.length=12:=by rw[hds.1];simp
  have cu:cutAt (L ds).length ((size:Int)-0)=min size 12:=by
   unfold cutAt;rw[if_pos (by omega),aS,hdl,show((size:Int)-0).toNat=size by omega]
  obtain⟨d,r,hd⟩:∃ d r,ds.take (min size 12)=d::r:=by
   cases e:ds.take (min size 12)with
   |nil=>
    have:=congrArg List.length e;rw[Zt,hdl]at this;simp at this;omega
   | cons d r=>exact#[d,r,rfl]
  have sl:ij (.lst (L ds)) (.int ((size:Int)-0))=some (.lst (L (d::r))):=by
   show some (D.lst ((L ds).take (cutAt (L ds).length ((size:Int)-0))))=_;rw[cu,tN,hd]
  have m97:aF .mul (.lst [.int 97]) (.int 12)=some (.lst (L (List.replicate 12 97))):=rfl
  have e0:aF .add (.int (k:Nat)) (.int 0)=some (.int (k:Nat)):=by rw[bS,Int.add_zero]
  have b2:ao cl [4] (cJ f) [some scr,some (.int k),some (.int n),some (.int size),some (.lst []),some (.int 0),some (.lst (L ds)),some (.int (d:Nat)),none]=some (.rt (.lst []),[some scr,some (.int k),some (.int n),some (.int size),some (.lst []),some (.int 0),some (.lst (L ds)),some (.int (d:Nat)),none]) :=
   cC (bb (aH (aa rfl) aj (by rw[iN,decide_eq_true (by omega)]))) (aL (dR aA) rfl)
  have b1:ao cl [4] (fA f) [some scr,some (.int k),some (.int n),some (.int size),some (.lst []),some (.int 0),none,none,none]=some (.rt (.lst []),[some scr,some (.int k),some (.int n),some (.int size),some (.lst []),some (.int 0),some (.lst (L ds)),some (.int (d:Nat)),none]) :=
   aJ (k7 (aa rfl) (az (aa rfl) (az (aa rfl) aj rfl) e0) (az (dR (ah aj aA)) aj m97) ed) (by unfold aK;rw[show aB (.lst (L ds))=true from aY ds];rfl)
    (my (dM (k8 (aa rfl) (az (aa rfl) (aa rfl) gr) sl) rfl) (by
     exact wV (d:=.int (d:Nat)) rfl rfl b2))
  exact aU rfl rfl (d8 (dR aA) rfl (my (yx aj (aa rfl) rg) (by
   exact wV (d:=.int ((0:Nat):Int)) rfl rfl b1)))
end
end RM
set_option maxHeartbeats 1000000
namespace K34
open RL RT RM K32
abbrev mO(QC QD:Nat):Fn :=
 ⟨3,7,[],[],%[.ife (.cmp .ne (.call QD %[0#0,1#0|.nil]) (.call QD %[0#0,2#0|.nil])) %[.ret (.cst .non)|.nil] .nil,.asg 3 (.call QC %[0#0,.ix 1#0 1#1|.nil]),.asg 4 (.call QC %[0#0,.ix 2#0 1#1|.nil]),.ret (.bin .add (.compA 5#0 [5,6] (.seq 3#0)) (.compA 6#0 [5,6] (.seq (.rev 4#0))))|.nil]⟩
abbrev j6(QE:Nat):Fn :=
 ⟨2,6,[],[],%[.unp [2,3] 1#0,.unp [4,5] (.call QE %[0#0,3#0|.nil]),.ret (.tup %[4#0,.bin .add 2#0 5#0|.nil])|.nil]⟩
abbrev nV(QF QG QE QH:Nat):Fn :=
 ⟨2,4,[2,3],[],%[.own 2 (.bi .list 1#0),.own 3 (.lst .nil),.mexc QH %[2#0,3#0|.nil] [0,1] [2,3],.mexc QF %[2#0,3#0,.call QG %[.ix (.call QE %[0#0,1#0|.nil]) 0#1|.nil]|.nil] [0,1] [2,3],.ret 3#0|.nil]⟩
abbrev jW(QI QJ:Nat):Ss :=
 %[.unp [3,4] 2#0,.mexc QJ %[0#0,1#0,3#0,4#0|.nil] [0,1] [0,1],.asg 2 (.call QI %[0#0|.nil])|.nil]
abbrev iV(QI QJ:Nat):Fn :=
 ⟨2,5,[0,0,1,1],[0,1],%[.asg 2 (.call QI %[0#0|.nil]),.whil (.isN true 2#0) (jW QI QJ)|.nil]⟩
abbrev cL(QK:Nat):Ss :=
 %[.ife (.and (.inD false 3#0 1#0) (.cmp .lt (.bi .len (.call QK %[0#0,.ixD 1#0 3#0,2#0|.nil])) 2#1)) %[.ret (.tup %[.ixD 1#0 3#0,2#0|.nil])|.nil] .nil,.put 1 3#0 2#0|.nil]
abbrev cE(QK:Nat):Fn :=
 ⟨1,4,[1],[],%[.own 1 .dk0,.forr [2,3] (.enm 0#0) (cL QK),.ret (.cst .non)|.nil]⟩
abbrev cz:Fn :=
 ⟨3,4,[],[],%[.ret (.comp 3#0 [3] (.rng2 (.bin .add 1#0 1#1) 2#0) (.cmp .eq (.bi .abs (.bin .sub (.ix 0#0 3#0) (.ix 0#0 1#0))) 1#1))|.nil]⟩
abbrev fB(QL QK:Nat):Fn :=
 ⟨4,6,[0,0,1,1],[0,1],%[.asg 4 (.call QK %[0#0,2#0,3#0|.nil]),.ife (.not 4#0) %[.mexc QL %[0#0,1#0,3#0,.bin .add 2#0 1#1|.nil] [0,1] [0,1],.del 0 (.bin .add 2#0 1#1),.app 1 (.tup %[.tup %[.cst (.str "drop"),2#0|.nil],.tup %[.cst (.str "double"),2#0|.nil]|.nil]),.ret (.cst .non)|.nil] .nil,.asg 5 (.ix 4#0 0#1),.mexc QL %[0#0,1#0,3#0,.bin .add 5#0 1#1|.nil] [0,1] [0,1],.mexc QL %[0#0,1#0,2#0,.bin .sub 5#0 1#1|.nil] [0,1] [0,1],.app 1 (.tup %[.tup %[.cst (.str "cut"),.bin .sub 5#0 1#1|.nil],.tup %[.cst (.str "grow"),.bin .sub 5#0 1#1,.ix 0#0 5#0|.nil]|.nil]),.dels 0 5#0 (.bin .add 5#0 2#1)|.nil]⟩
abbrev nQ(QL:Nat):Ss :=
 %[.mexc QL %[0#0,1#0,.idx2 0#0 4#0 3#0,3#0|.nil] [0,1] [0,1]|.nil]
abbrev iT(QL:Nat):Fn :=
 ⟨3,5,[0,0,1,1],[0,1],%[.forr [3,4] (.enm 2#0) (nQ QL)|.nil]⟩
abbrev ko:Ss :=
 %[.put2 0 4#0 (.bin .add 4#0 1#1) (.ix 0#0 (.bin .add 4#0 1#1)) (.ix 0#0 4#0),.app 1 (.tup %[.tup %[.cst (.str "swap"),4#0|.nil],.tup %[.cst (.str "swap"),4#0|.nil]|.nil])|.nil]
abbrev fU:Fn :=
 ⟨4,5,[0,0,1,1],[0,1],%[.forr [4] (.seq (.bin .add (.rng2 2#0 3#0) (.rng3 (-1) (.bin .sub 2#0 1#1) (.bin .sub 3#0 1#1)))) (ko)|.nil]⟩
abbrev oN(QM QN:Nat):Fn :=
 ⟨2,3,[],[],%[.ret (.call QM %[0#0,.compA (.call QN %[0#0,2#0|.nil]) [2] (.seq 1#0)|.nil])|.nil]⟩
abbrev kT(Qv QO:Nat):Ss :=
 %[.ife (.or (.not (.isi 5#0 .tuple)) (.not (.isi (.ix 5#0 0#1) .str))) %[.ret (.cst (.bl false))|.nil] .nil,.asg 4 (.call QO %[0#0,4#0,5#0|.nil]),.ife (.isN false 4#0) %[.ret (.cst (.bl false))|.nil] .nil|.nil]
abbrev m9(Qv QO:Nat):Fn :=
 ⟨4,6,[],[],%[.ife (.not (.isi 3#0 .list)) %[.ret (.cst (.bl false))|.nil] .nil,.asg 4 1#0,.forr [5] (.seq 3#0) (kT Qv QO),.ret (.call Qv %[4#0,2#0|.nil])|.nil]⟩
abbrev yy(QP QQ QG QR QS Ql:Nat):Ss :=
 %[.unp [2,8,9,10,11] (.call Ql %[0#0,.bin .add 40#1 1#0,.lst %[4#1,8#1,8#1,4#1,4#1|.nil]|.nil]),.asg 2 (.bin .add 2#1 2#0),.asg 3 (.tup %[10#0,.frz (.call QS %[0#0,.bin .mul 2#1 1#0,2#0,8#0|.nil])|.nil]),.asg 4 (.tup %[11#0,.frz (.call QS %[0#0,.bin .add (.bin .mul 2#1 1#0) 1#1,2#0,9#0|.nil])|.nil]),.par 12 13 (.call QR %[2#0,.ix 3#0 1#1|.nil]) (.call QR %[2#0,.ix 4#0 1#1|.nil]),.ife (.and (.cmp .eq (.ix 12#0 0#1) (.ix 13#0 0#1)) (.and (.cmp .ge (.bin .add 10#0 (.ix 12#0 1#1)) (.ix 13#0 1#1)) (.cmp .eq (.bin .mod 11#0 2#1) 0#1))) %[.asg 4 (.tup %[.bin .sub (.bin .add 10#0 (.ix 12#0 1#1)) (.ix 13#0 1#1),.ix 4#0 1#1|.nil])|.nil] .nil,.asg 5 (.cmp .eq (.tup %[.ix 12#0 0#1,.bin .add (.ix 12#0 1#1) (.ix 3#0 0#1)|.nil]) (.tup %[.ix 13#0 0#1,.bin .add (.ix 13#0 1#1) (.ix 4#0 0#1)|.nil])),.asg 6 (.call QQ %[2#0,3#0,4#0|.nil]),.ife (.cmp .ne (.isN true 6#0) 5#0) %[.ret (.cst (.bl false))|.nil] .nil,.ife (.and 5#0 (.not (.call QP %[2#0,3#0,4#0,6#0|.nil]))) %[.ret (.cst (.bl false))|.nil] .nil,.asg 7 (.frz (.call QG %[.ix 12#0 0#1|.nil])),.asg 6 (.call QQ %[2#0,3#0,.tup %[.bin .add 10#0 (.ix 12#0 1#1),7#0|.nil]|.nil]),.ife (.not (.call QP %[2#0,3#0,.tup %[.bin .add 10#0 (.ix 12#0 1#1),7#0|.nil],6#0|.nil])) %[.ret (.cst (.bl false))|.nil] .nil|.nil]
abbrev B7(QP QQ QG QR QS Ql:Nat):Fn :=
 ⟨1,14,[],[],%[.asg 0 (.slT 0#0 63#1),.forr [1] (.rng1 8#1) (yy QP QQ QG QR QS Ql),.ret (.cst (.bl true))|.nil]⟩
abbrev T:List Fn:=[eK,df 0,fP 1,iA 4,iP 0,fV,nZ,gP 5 12 3 1 9,eL 7,gy,lP 2,dz,fM 13 11 9,jH,nW 15 10 17,eJ 6 9,iS 0,gn 16 2,gd 19 20 8,eG 9,k6 6 21,gN 9,mO 24 23,j6 14,nV 29 18 14 25,iV 26 28,cE 27,cz,fB 30 27,iT 30,fU,kP,l6 31,fQ 32,dF 33,dC,eC,fO 36,kH 37 35,gO 35,oN 38 39,dH,cQ 42,m9 42 41,B7 43 22 18 40 34 33]
section
variable{cl:Cl}
def jT{fn:Fn}{ds:List D}{Zz:St}{o:Out}{x y:D}(hl:ds.length=fn.ps)(hm:fn.mp=[0,1])(h:ao cl fn.M fn.body (ds.map some++List.replicate (fn.nn-fn.ps) none)=some (o,Zz))(ho:o=.nx\/o=.rt .non)(h0:(Zz[0]?).bind id=some x)(h1:(Zz[1]?).bind id=some y):evF cl fn ds=some (.tup [.non,x,y]):=by
 have key:aZ fn .non Zz=some (.tup [.non,x,y]):=by
  unfold aZ;rw[hm];show(if D.non.imm=true then Option.map _ (cF Zz [0,1])else none)=_;rw[if_pos (show D.non.imm=true from rfl),cF,h0];show Option.map _ ((cF Zz [1]).map _)=_;rw[cF,h1];rfl
 unfold evF;rw[if_pos hl,h];rcases ho with rfl | rfl<;>exact key
inductive Chn (n:Nat):Nat->List Nat->List D->Nat->List Nat->Prop
 | nil {r:Nat} {row:List Nat}:Chn n r row [] r row
 | cons {r r1 r':Nat} {row row1 row':List Nat} {w:PySem.Str} {a:Int} {bs:List Int} {ts:List D}:row.length<=5000->Stp n r row w a bs r1 row1->Chn n r1 row1 ts r' row'->Chn n r row (trD w a bs::ts) r' row'
def Chn.app{n r r1 r':Nat}{row row1 row':List Nat}{ts us:List D}(h:Chn n r row ts r1 row1)(h':Chn n r1 row1 us r' row'):Chn n r row (ts++us) r' row':=by
 induction h with
 | nil=>exact h'
 | cons l s _ ih=>exact .cons l s (ih h')
def Chn.keep{n r r':Nat}{row row':List Nat}{ts:List D}(h:Chn n r row ts r' row'):(∀ i∈row,i+1<n)->(∀ i∈row',i+1<n)/\(aq n row').1=(aq n row).1/\(aq n row').2+r'=(aq n row).2+r:=by
 induction h with
 | nil=>exact fun hr=>#[hr,rfl,rfl]
 |cons l s _ ih=>
  intro hr;obtain⟨k1,k2,k3,_⟩:=s.keep hr;obtain⟨j1,j2,j3⟩:=ih k1;exact#[j1,j2.trans k2,j3.trans k3]
abbrev stD(s:D × D):D:=.tup [s.1,s.2]
structure Way(n:Nat)(row:List Nat)(ss:List (D × D))(k:Nat)(row':List Nat):Prop where
 fw:∀ r,Chn n r row (ss.map (·.1)) (r+k) row'
 bw:∀ r,Chn n (r+k) row' (ss.reverse.map (·.2)) r row
def Way.refl(n:Nat)(row:List Nat):Way n row [] 0 row:=#[fun _=>.nil,fun _=>.nil]
def Way.trans{n k k':Nat}{row row1 row':List Nat}{ss ss':List (D × D)}(h:Way n row ss k row1)(h':Way n row1 ss' k' row'):Way n row (ss++ss') (k+k') row' where
 fw:=fun r=>by rw[Zm,<-Nat.add_assoc];exact(h.fw r).app (h'.fw (r+k))
 bw:=fun r=>by rw[Zr,Zm,<-Nat.add_assoc];exact(h'.bw (r+k)).app (h.bw r)
def Way.keep{n k:Nat}{row row':List Nat}{ss:List (D × D)}(h:Way n row ss k row')(hr:∀ i∈row,i+1<n):(∀ i∈row',i+1<n)/\(aq n row').1=(aq n row).1/\(aq n row').2+k=(aq n row).2:=by
 obtain⟨a,b,c⟩:=(h.fw 0).keep hr;exact#[a,b,by omega]
abbrev sw(i:Nat):D × D:=(trD "swap" (i:Nat) [],trD "swap" (i:Nat) [])
def sY{n:Nat}{p q:List Nat}{h x:Nat}(d:far h x)(hz:(p++h::x::q).length<=5000):Way n (p++h::x::q) [sw p.length] 0 (p++x::h::q) where
 fw:=fun r=>.cons hz (.swap d) .nil
 bw:=fun r=>.cons (by simpa using hz) (.swap (by unfold far at d;omega)) .nil
def zL{n:Nat}{p q:List Nat}{h:Nat}(hz:(p++h::h::q).length<=5000):Way n (p++h::h::q) [(trD "drop" (p.length:Nat) [],trD "double" (p.length:Nat) [])] 1 (p++h::q) where
 fw:=fun r=>.cons hz .drop .nil
 bw:=fun r=>.cons (by simp at hz ⊢;omega) .dbl .nil
def DP{n:Nat}{p q:List Nat}{h x:Nat}(d:x=h+1\/h=x+1)(hx:x+1<n)(hz:(p++h::x::h::q).length<=5000):Way n (p++h::x::h::q) [(trD "cut" (p.length:Nat) [],trD "grow" (p.length:Nat) [((x:Nat):Int)])] 0 (p++h::q) where
 fw:=fun r=>.cons hz (.cut d) .nil
 bw:=fun r=>.cons (by simp at hz ⊢;omega) (.grow hx d) .nil
def C3{M:List Nat}{Y:St}{i:Nat}{k l a b:E}{r:Ss}{x y kk ll c1 c2:D}{zs:List D}{res:Option (Out × St)}(h:ev cl Y a=some x)(h':ev cl Y b=some y)(im:(x.imm&&y.imm)=true)(hk:ev cl Y k=some kk)(hi:(Y[i]?).bind id=some (.lst zs))(hp:cI (.lst zs) kk x=some c1)(hl:ev cl (Y.set i (some c1)) l=some ll)(hq:cI c1 ll y=some c2)(kt:ao cl M r ((Y.set i (some c1)).set i (some c2))=res):ao cl M %[.put2 i k l a b|r] Y=res :=
 cU (by
  rw[Ek,h,Option.bind_some,h',Option.bind_some,if_pos im,hk,Option.bind_some,hi,Option.bind_some];show(cI (.lst zs) kk x).bind _=_;rw[hp,Option.bind_some,hl,Option.bind_some,hq]
  rfl) kt
def sU{p q:List Nat}{h x:Nat}{ss:List D}{s2 s3:Option D}(hz:ss.length<50000)(o4:Option D):(bf [4] (.int (p.length:Nat)) [some (.lst (L (p++h::x::q))),some (.lst ss),s2,s3,o4]).bind (ao cl [0,0,1,1] ko)=some (.nx,[some (.lst (L (p++x::h::q))),some (.lst (ss++[stD (sw p.length)])),s2,s3,some (.int (p.length:Nat))]):=by
 have a0:ixV (.lst (L (p++h::x::q))) (.int (p.length:Nat))=some (.int (h:Nat)):=nY (by simp);have a1:ixV (.lst (L (p++h::x::q))) (.int ((p.length+1:Nat):Int))=some (.int (x:Nat)):=nY (by simp)
 have q0:cI (.lst (L (p++h::x::q))) (.int (p.length:Nat)) (.int (x:Nat))=some (.lst (L (p++x::x::q))):=by
  rw[i5 (by simp)];simp
 have q1:cI (.lst (L (p++x::x::q))) (.int ((p.length+1:Nat):Int)) (.int (h:Nat))=some (.lst (L (p++x::h::q))):=by
  rw[i5 (by simp)];simp
 exact C3 (aI (aa rfl) (az (aa rfl) aj b1) a1) (aI (aa rfl) (aa rfl) a0) rfl (aa rfl) rfl q0 (az (aa rfl) aj b1) q1 (lr (b8 (ah (b8 (ah aj (ah (aa rfl) aA))) (ah (b8 (ah aj (ah (aa rfl) aA))) aA))) rfl rfl (by unfold most;omega) aN)
end
end K34
set_option maxHeartbeats 1000000
namespace K34
open RL RT RM K32
section
variable{cl:Cl}
def rS(l:Nat):∀ k:Nat,bN (-1) ((l+k:Nat):Int) (k+1)=L ((List.range' l (k+1)).reverse)
 | 0=>rfl
 | k+1=>by
  have ih:=rS l k
  have e:(((l+(k+1):Nat):Int)+-1)=((l+k:Nat):Int):=by omega
  have hr:(List.range' l (k+1+1)).reverse=(l+(k+1))::(List.range' l (k+1)).reverse:=by rw[List.range'_concat,Zr,Nat.one_mul];rfl
  rw[bN,e,ih,hr];rfl
def EG{l m:Nat}(h:l+m<=5000):cV (-1) (.int (((l+m:Nat):Int)-1)) (.int ((l:Int)-1))=some (L ((List.range' l m).reverse)):=by
 have hN:aM (-1) (((l+m:Nat):Int)-1) ((l:Int)-1)=m:=by
  unfold aM;rw[if_neg ∅];by_cases hm:m=0
  ·rw[if_neg (by omega)];omega
  ·rw[if_pos (by omega)]
   have:((((l+m:Nat):Int)-1)-((l:Int)-1)-1) / (- -1)=(m:Int)-1:=by
    rw[show(- -1:Int)=1 by decide,Int.ediv_one];omega
   rw[this];omega
 unfold cV;dsimp only;rw[hN,if_pos (by unfold most;omega)]
 cases m with
 | zero=>rfl
 | succ k=>rw[show(((l+(k+1):Nat):Int)-1)=((l+k:Nat):Int) by omega,rS]
def rI(l:Nat):∀ k:Nat,cw (l:Int) k=L (List.range' l k)
 | 0=>rfl
 | k+1=>by
  rw[cw,show((l:Int)+1)=((l+1:Nat):Int) by omega,rI (l+1) k];rfl
def zg{l m:Nat}(h:l+m<=5000):bR (.int (l:Nat)) (.int ((l+m:Nat):Int))=some (L (List.range' l m)):=by
 have e:(((l+m:Nat):Int)-(l:Nat)).toNat=m:=by omega
 unfold bR;dsimp only;rw[e,if_pos (by unfold most;omega),rI]
def IT{l m:Nat}(h:l+m<=5000):bR (.int ((l+m:Nat):Int)) (.int (l:Nat))=some []:=by
 have e:((l:Int)-((l+m:Nat):Int)).toNat=0:=by omega
 unfold bR;dsimp only;rw[e,if_pos (by unfold most;omega)];rfl
def Iv{l m:Nat}(h:l+m<=5000):cV (-1) (.int ((l:Int)-1)) (.int (((l+m:Nat):Int)-1))=some []:=by
 have hN:aM (-1) ((l:Int)-1) (((l+m:Nat):Int)-1)=0:=by
  unfold aM;rw[if_neg ∅,if_neg (by omega)];rfl
 unfold cV;dsimp only;rw[hN,if_pos (by unfold most;omega)];rfl
def uJ{Y:St}{e e':E}{x y:D}{c:Int}{ds:List D}(h:ev cl Y e=some x)(h':ev cl Y e'=some y)(hr:cV c x y=some ds):ev cl Y (.rng3 c e e')=some (.lst ds):=by
 rw[FI,h,Option.bind_some,h',Option.bind_some,hr];rfl
abbrev swL(a m:Nat):List (D × D):=((List.range' a m).reverse).map sw
abbrev swR(a m:Nat):List (D × D):=(List.range' a m).map sw
def lpL{A:List Nat}{x:Nat}{s2 s3:Option D}:∀ (m:Nat) (B C:List Nat) (ss:List D) (o4:Option D),B.length=m->ss.length+m<50000 ->
  ∃ o4',aP (ao cl [0,0,1,1] ko) [4] (L ((List.range' A.length m).reverse)) [some (.lst (L (A++B++x::C))),some (.lst ss),s2,s3,o4]=some (.nx,[some (.lst (L (A++x::B++C))),some (.lst (ss++(swL A.length m).map stD)),s2,s3,o4'])
 | 0,B,C,ss,o4,hB,_=>by
  cases List.length_eq_zero_iff.mp hB;exact#[o4,by simp[swL];rfl]
 | m+1,B,C,ss,o4,hB,hz=>by
  obtain⟨B,b,rfl⟩:∃ B' b,B=B'++[b]:=⟨B.dropLast,B.getLast (by intro z;rw[z]at hB;cases hB),(Q9 _).symm⟩
  have hB:B.length=m:=by simpa using hB
  have hr:(List.range' A.length (m+1)).reverse=(A.length+m)::(List.range' A.length m).reverse:=by
   rw[List.range'_concat,Zr,Nat.one_mul];rfl
  have one:=sU (cl:=cl) (p:=A++B) (q:=C) (h:=b) (x:=x) (ss:=ss) (s2:=s2) (s3:=s3) (by omega) o4
  have e1:(A++B).length=A.length+m:=by rw[List.length_append,hB]
  rw[e1]at one;obtain⟨o4',ih⟩:=lpL (A:=A) (x:=x) (s2:=s2) (s3:=s3) m B (b::C) (ss++[stD (sw (A.length+m))]) (some (.int ((A.length+m:Nat):Int))) hB (by simp;omega);refine#[o4',?_];rw[hr];show aP _ [4] (.int ((A.length+m:Nat):Int)::L ((List.range' A.length m).reverse)) _=_;obtain⟨ZA,g1,g2⟩:=Option.bind_eq_some_iff.mp one;rw[show A++(B++[b])++x::C=A++B++b::x::C by simp];refine eE rfl g1 g2 (ih.trans ?_);simp[swL,hr]
def lpR{x:Nat}{s2 s3:Option D}:∀ (B A C:List Nat) (ss:List D) (o4:Option D),ss.length+B.length<50000 ->
  ∃ o4',aP (ao cl [0,0,1,1] ko) [4] (L (List.range' A.length B.length)) [some (.lst (L (A++x::B++C))),some (.lst ss),s2,s3,o4]=some (.nx,[some (.lst (L (A++B++x::C))),some (.lst (ss++(swR A.length B.length).map stD)),s2,s3,o4'])
 | [],A,C,ss,o4,_=>#[o4,by simp[swR];rfl]
 | b::B,A,C,ss,o4,hz=>by
  have hz:ss.length+(B.length+1)<50000:=hz;have one:=sU (cl:=cl) (p:=A) (q:=B++C) (h:=x) (x:=b) (ss:=ss) (s2:=s2) (s3:=s3) (by omega) o4;obtain⟨o4',ih⟩:=lpR (x:=x) (s2:=s2) (s3:=s3) B (A++[b]) C (ss++[stD (sw A.length)]) (some (.int (A.length:Nat))) (by simp;omega);refine#[o4',?_];rw[List.length_cons,List.range'_succ];show aP _ [4] (.int (A.length:Nat)::L (List.range' (A.length+1) B.length)) _=_;obtain⟨ZA,g1,g2⟩:=Option.bind_eq_some_iff.mp one;rw[show A++x::b::B++C=A++x::b::(B++C) by simp];refine eE rfl g1 g2 ?_;rw[show A++b::x::(B++C)=(A++[b])++x::B++C by simp,show A.length+1=(A++[b]).length by simp];refine ih.trans ?_;simp[swR,List.range'_succ]
def Eh{A B C:List Nat}{x:Nat}{ss:List D}(hz:ss.length+B.length<50000)(hl:A.length+B.length<=5000):evF cl fU [.lst (L (A++B++x::C)),.lst ss,.int ((A.length+B.length:Nat):Int),.int (A.length:Nat)]=some (.tup [.non,.lst (L (A++x::B++C)),.lst (ss++(swL A.length B.length).map stD)]):=by
 obtain⟨o4,h⟩:=lpL (cl:=cl) (A:=A) (x:=x) (s2:=some (.int ((A.length+B.length:Nat):Int))) (s3:=some (.int (A.length:Nat))) B.length B C ss none rfl hz;exact jT (fn:=fU) rfl rfl (bY (dM (az (pC (aa rfl) (aa rfl) (IT hl)) (uJ (az (aa rfl) aj rfl) (az (aa rfl) aj rfl) (EG hl)) (by rw[pd,if_pos (by simp[aS,most];omega),List.nil_append])) rfl) h aN) (.inl rfl) rfl rfl
def CD{A B C:List Nat}{x:Nat}{ss:List D}(hz:ss.length+B.length<50000)(hl:A.length+B.length<=5000):evF cl fU [.lst (L (A++x::B++C)),.lst ss,.int (A.length:Nat),.int ((A.length+B.length:Nat):Int)]=some (.tup [.non,.lst (L (A++B++x::C)),.lst (ss++(swR A.length B.length).map stD)]):=by
 obtain⟨o4,h⟩:=lpR (cl:=cl) (x:=x) (s2:=some (.int (A.length:Nat))) (s3:=some (.int ((A.length+B.length:Nat):Int))) B A C ss none hz;exact jT (fn:=fU) rfl rfl (bY (dM (az (pC (aa rfl) (aa rfl) (zg hl)) (uJ (az (aa rfl) aj rfl) (az (aa rfl) aj rfl) (Iv hl)) (by rw[pd,if_pos (by simp[aS,most];omega),Ze])) rfl) h aN) (.inl rfl) rfl rfl
def j7{n x:Nat}{A:List Nat}:∀ (m:Nat) (B C:List Nat),B.length=m->(∀ b∈B,far b x)->(A++B++x::C).length<=5000->Way n (A++B++x::C) (swL A.length m) 0 (A++x::B++C)
 | 0,B,C,hB,_,_=>by
  cases List.length_eq_zero_iff.mp hB;have:=Way.refl n (A++x::C);simpa[swL]using this
 | m+1,B,C,hB,hf,hz=>by
  obtain⟨B,b,rfl⟩:∃ B' b,B=B'++[b]:=⟨B.dropLast,B.getLast (by intro z;rw[z]at hB;cases hB),(Q9 _).symm⟩
  have hB:B.length=m:=by simpa using hB
  have hr:(List.range' A.length (m+1)).reverse=(A.length+m)::(List.range' A.length m).reverse:=by
   rw[List.range'_concat,Zr,Nat.one_mul];rfl
  have one:=sY (n:=n) (p:=A++B) (q:=C) (h:=b) (x:=x) (hf b (by simp)) (by simpa using hz);have two:=j7 (n:=n) (x:=x) (A:=A) m B (b::C) hB (fun c hc=>hf c (by simp[hc])) (by simp at hz ⊢;omega);have w:=one.trans two;rw[show(A++B).length=A.length+m by rw[List.length_append,hB]]at w
  have e:swL A.length (m+1)=[sw (A.length+m)]++swL A.length m:=by simp[swL,hr]
  rw[e,show A++(B++[b])++x::C=A++B++b::x::C by simp,show A++x::(B++[b])++C=A++x::B++b::C by simp];exact w
def vb{n x:Nat}:∀ (B A C:List Nat),(∀ b∈B,far b x)->(A++x::B++C).length<=5000->Way n (A++x::B++C) (swR A.length B.length) 0 (A++B++x::C)
 | [],A,C,_,_=>by
  have:=Way.refl n (A++x::C);simpa[swR]using this
 | b::B,A,C,hf,hz=>by
  have one:=sY (n:=n) (p:=A) (q:=B++C) (h:=x) (x:=b) (by have:=hf b (by simp);unfold far at this ⊢;omega) (by simp at hz ⊢;omega);have two:=vb (n:=n) (x:=x) B (A++[b]) C (fun c hc=>hf c (by simp[hc])) (by simp at hz ⊢;omega);rw[show(A++[b])++x::B++C=A++b::x::(B++C) by simp]at two;have w:=one.trans two
  have e:swR A.length (b::B).length=[sw A.length]++swR (A++[b]).length B.length:=by simp[swR,List.range'_succ]
  rw[e,show A++x::b::B++C=A++x::b::(B++C) by simp,show A++b::B++x::C=A++[b]++B++x::C by simp];exact w
end
end K34
set_option maxHeartbeats 1000000
namespace K34
open RL RT RM K32
section
variable{cl:Cl}
abbrev bes(b x:Nat):Bool:=b == x+1 || b+1 == x
abbrev nbp(x o:Nat):List Nat->List Nat
 | []=>[]
 | b::B=>if bes b x then o::nbp x (o+1) B else nbp x (o+1) B
def lI(x:Nat):∀ (B:List Nat) (o:Nat),(nbp x o B).length=nbs x B
 | [],_=>rfl
 | b::B,o=>by
  have ih:=lI x B (o+1);rw[eR,nbp];by_cases h:b=x+1\/b+1=x
  ·rw[if_pos h,if_pos (by unfold bes;simpa using h),List.length_cons,ih]
  ·rw[if_neg h,if_neg (by unfold bes;simpa using h),ih];rfl
def vP(x:Nat)(row:List Nat):∀ (B P C:List Nat),row=P++B++C->(List.range' P.length B.length).filter (fun a=>bes (row.getD a 0) x)=nbp x P.length B
 | [],P,C,_=>rfl
 | b::B,P,C,e=>by
  have ih:=vP x row B (P++[b]) C (by rw[e];simp)
  have g:row.getD P.length 0=b:=by rw[e];simp[List.getD]
  rw[List.length_cons,List.range'_succ,List.filter_cons,g,nbp];rw[show(P++[b]).length=P.length+1 by simp]at ih;rw[ih]
def FQ{A B C:List Nat}{x:Nat}(hz:(A++x::B++C).length<=5000):evF cl cz [.lst (L (A++x::B++C)),.int (A.length:Nat),.int ((A.length+1+B.length:Nat):Int)]=some (.lst (L (nbp x (A.length+1) B))):=by
 have hz:A.length+(1+B.length+C.length)<=5000:=by simp at hz;omega
 have mc:=sG (F:=fun ZA=>((ev cl ZA (.cmp .eq (.bi .abs (.bin .sub (.ix 0#0 3#0) (.ix 0#0 1#0))) 1#1)).bind truth).bind fun k=>if k then(ev cl ZA 3#0).map some else some none) (tg:=[3]) (Y:=[some (.lst (L (A++x::B++C))),some (.int (A.length:Nat)),some (.int ((A.length+1+B.length:Nat):Int)),none]) (g:=fun a=>.int (a:Nat)) (c:=fun a=>bes ((A++x::B++C).getD a 0) x) (fun _=>rfl) (List.range' (A.length+1) B.length) (by
  intro a ha;rw[List.mem_range'_1]at ha
  obtain⟨b,hb⟩:∃ b,(A++x::B++C)[a]?=some b:=#[_,List.getElem?_eq_getElem (by simp;omega)]
  have hg:(A++x::B++C).getD a 0=b:=by rw[List.getD,hb];rfl
  show((ev cl [some (.lst (L (A++x::B++C))),some (.int (A.length:Nat)),some (.int ((A.length+1+B.length:Nat):Int)),some (.int (a:Nat))] (.cmp .eq (.bi .abs (.bin .sub (.ix 0#0 3#0) (.ix 0#0 1#0))) 1#1)).bind truth).bind (fun k=>if k then(ev cl [some (.lst (L (A++x::B++C))),some (.int (A.length:Nat)),some (.int ((A.length+1+B.length:Nat):Int)),some (.int (a:Nat))] 3#0).map some else some none)=_
  have c:ba .eq (.int (((b:Int)-x).natAbs:Nat)) (.int 1)=some (bes b x):=by
   show some (_ == _)=_;congr 1;rw[Zd];unfold bes;simp;omega
  rw[bb (aH (bJ (az (aI (aa rfl) (aa rfl) (nY hb)) (aI (aa rfl) (aa rfl) (nY (x:=x) (by simp))) rfl) (J5 b x)) aj c),Option.bind_some,aa rfl,hg]
  split<;>rfl)
 rw[show A.length+1=(A++[x]).length by simp,vP x (A++x::B++C) B (A++[x]) C (by simp),show(A++[x]).length=A.length+1 by simp]at mc;have im:∀ xs:List Nat,aB (.lst (L xs))=true:=fun xs=>aY xs;exact aU (fn:=cz) rfl rfl (aL (sQ (F8 (az (aa rfl) aj rfl) (aa rfl) (zg (l:=A.length+1) (m:=B.length) (by omega))) (by rw[aS,List.length_range'];unfold most;omega) mc) (by unfold bj;rw[im];rfl))
structure Lst(u:List Nat)(ks:List Ky)(vs:List D):Prop where
 len:ks.length=vs.length
 sm:ks.length<=u.length
 at_:∀ (A:List Nat) (v:Nat) (B:List Nat),u=A++v::B->v∉B->aG ks vs (.inl (v:Int))=some (.int (A.length:Nat))
 no:∀ v:Nat,v∉u->aG ks vs (.inl (v:Int))=none
def nz{u A B:List Nat}{b v:Nat}(h:u++[b]=A++v::B):(B=[]/\A=u/\v=b)\/∃ B0,B=B0++[b]/\u=A++v::B0:=by
 by_cases hB:B=[]
 ·subst hB;have:=List.append_inj' h rfl;exact .inl #[rfl,this.1.symm,(List.cons.inj this.2).1.symm]
 ·obtain⟨B0,b',rfl⟩:∃ B0 b',B=B0++[b']:=#[B.dropLast,B.getLast hB,(Q9 _).symm]
  rw[show A++v::(B0++[b'])=(A++v::B0)++[b'] by simp]at h;have:=List.append_inj' h rfl;exact .inr #[B0,by rw[(List.cons.inj this.2).1],this.1]
def Lst.put{u:List Nat}{ks:List Ky}{vs:List D}(h:Lst u ks vs)(b:Nat):Lst (u++[b]) (putD ks vs (.inl (b:Int)) (.int (u.length:Nat))).1 (putD ks vs (.inl (b:Int)) (.int (u.length:Nat))).2 where
 len:=(fg h.len).1
 sm:=by have:=(fg (x:=Sum.inl (b:Int)) (d:=.int (u.length:Nat)) h.len).2;have:=h.sm;rw[List.length_append];simp;omega
 at_:=fun A v B e nB=>by
  rw[ee h.len]
  rcases nz e with⟨rfl,rfl,rfl⟩ | ⟨B0,rfl,e'⟩
  ·rw[if_pos rfl]
  ·have hv:v≠b:=fun z=>nB (by rw[z];simp);rw[if_neg fun z=>hv (by have:=Sum.inl.inj z;omega)];exact h.at_ A v B0 e' fun z=>nB (by simp[z])
 no:=fun v hv=>by
  rw[ee h.len,if_neg fun z=>hv (by have:=Sum.inl.inj z;simp;omega)];exact h.no v fun z=>hv (by simp[z])
def NL.snoc{u:List Nat}{b:Nat}(h:NL u)(o:Ok1 u b):NL (u++[b]):=fun w x C e=>by
 rcases nz e with⟨rfl,rfl,rfl⟩ | ⟨B0,rfl,e'⟩
 ·exact o
 ·exact h w x B0 e'
abbrev LR(cl:Cl)(nb:Nat)(row:List Nat)(i:Int)(v:List Nat)(Y:St):Prop:=(NL row/\∃ Zz,aP (ao cl [1] (cL nb)) [2,3] (cM i (L v)) Y=some (.nx,Zz)) \/
 ∃ A x B C,row=A++x::B++x::C/\x∉B/\nbs x B<2/\∃ Zz,aP (ao cl [1] (cL nb)) [2,3] (cM i (L v)) Y=some (.rt (.tup [.int (A.length:Nat),.int ((A.length+1+B.length:Nat):Int)]),Zz)
def LR.next{nb:Nat}{row:List Nat}{i:Int}{b:Nat}{v:List Nat}{ZA:St}{d:D}{s2 s3:Option D}(h:LR cl nb row (i+1) v ZA)(hf:ao cl [1] (cL nb) [some (.lst (L row)),some d,some (.int i),some (.int (b:Nat))]=some (.nx,ZA)):LR cl nb row i (b::v) [some (.lst (L row)),some d,s2,s3]:=by
 rcases h with⟨q1,Zz,q2⟩ | ⟨A,x,B,C,q1,q2,q3,Zz,q4⟩
 ·exact .inl #[q1,Zz,eE rfl rfl hf q2]
 ·exact .inr #[A,x,B,C,q1,q2,q3,Zz,eE rfl rfl hf q4]
def tX{nb:Nat}{row:List Nat}(hz:row.length<=5000)(hnb:∀ {A B C:List Nat} {x:Nat},(A++x::B++C).length<=5000->cl nb [.lst (L (A++x::B++C)),.int (A.length:Nat),.int ((A.length+1+B.length:Nat):Int)]=some (.lst (L (nbp x (A.length+1) B)))) :
  ∀ (v u:List Nat) (ks:List Ky) (vs:List D) (s2 s3:Option D),row=u++v->Lst u ks vs->NL u->LR cl nb row (u.length:Nat) v [some (.lst (L row)),some (.dK ks vs),s2,s3]
 | [],u,ks,vs,s2,s3,e,_,h=>.inl #[by rw[e,Ze];exact h,_,jI]
 | b::v,u,ks,vs,s2,s3,e,T,h=>by
  have hu:u.length<=5000:=by rw[e]at hz;simp at hz;omega
  have pt:cI (.dK ks vs) (.int (b:Nat)) (.int (u.length:Nat))=some (.dK (putD ks vs (.inl (b:Int)) (.int (u.length:Nat))).1 (putD ks vs (.inl (b:Int)) (.int (u.length:Nat))).2):=by
   show(if ks.length<most then some (D.dK _ _)else none)=_;rw[if_pos (by have:=T.sm;unfold most;omega)]
  have next:∀ {t:E} {a:Ss},Ok1 u b->(ev cl [some (.lst (L row)),some (.dK ks vs),some (.int (u.length:Nat)),some (.int (b:Nat))] t).bind truth=some false->cL nb=.cons (.ife t a .nil) (.cons (.put 1 3#0 2#0) .nil)->LR cl nb row (u.length:Nat) (b::v) [some (.lst (L row)),some (.dK ks vs),s2,s3]:=fun {t a} o ht eb=>by
   have ih:=tX hz hnb v (u++[b]) _ _ (some (.int (u.length:Nat))) (some (.int (b:Nat))) (by rw[e];simp) (T.put b) (NL.snoc h o);rw[show(((u++[b]).length:Nat):Int)=((u.length:Nat):Int)+1 by simp]at ih;refine ih.next ?_;rw[eb];exact bc ht (rB (aa rfl) (aa rfl) rfl rfl pt aN)
  by_cases hb:b∈u
  ·obtain⟨A,B,rfl,nB⟩:=p6 hb;have lk:=T.at_ A b B rfl nB
   have e':row=A++b::B++b::v:=by rw[e]
   have el:(A++b::B).length=A.length+1+B.length:=by simp;omega
   have ind:kc (.dK ks vs) (.int (b:Nat))=some true:=by
    show some ((aG ks vs (.inl (b:Int))).isSome)=_;rw[lk];rfl
   have ixd:ka (.dK ks vs) (.int (b:Nat))=some (.int (A.length:Nat)):=lk;have cn:=hnb (A:=A) (B:=B) (C:=b::v) (x:=b) (by rw[<-e'];exact hz);rw[<-e',<-el]at cn
   have ln:biV .len (.lst (L (nbp b (A.length+1) B)))=some (.int (nbs b B:Nat)):=by rw[By,lI]
   have t:ev cl [some (.lst (L row)),some (.dK ks vs),some (.int ((A++b::B).length:Nat)),some (.int (b:Nat))] (.and (.inD false 3#0 1#0) (.cmp .lt (.bi .len (.call nb %[0#0,.ixD 1#0 3#0,2#0|.nil])) 2#1))=some (.bl (decide (nbs b B<2))):=by
    refine bO (Bv (aa rfl) (aa rfl) ind) (aH (bJ (k7 (aa rfl) (gY (aa rfl) (aa rfl) ixd) (aa rfl) cn) ln) aj ?_);show some (decide _)=_;congr 1;rw[decide_eq_decide];omega
   by_cases c:nbs b B<2
   ·rw[decide_eq_true c]at t;have fin:=wV (g:=ao cl [1] (cL nb)) (tg:=[2,3]) (d:=.tup [.int ((A++b::B).length:Nat),.int (b:Nat)]) (r:=cM (((A++b::B).length:Nat)+1) (L v)) (Y:=[some (.lst (L row)),some (.dK ks vs),s2,s3]) rfl rfl (cC (bb t) (aL (b8 (ah (gY (aa rfl) (aa rfl) ixd) (ah (aa rfl) aA))) rfl));exact .inr #[A,b,B,v,e',nB,c,_,by rw[<-el];exact fin]
   ·rw[Q1 c]at t
    exact next (fun A' B' e2 nB'=>by rw[<-oz e2 nB nB'];omega) (bb t) rfl
  ·have ind:kc (.dK ks vs) (.int (b:Nat))=some false:=by
    show some ((aG ks vs (.inl (b:Int))).isSome)=_;rw[T.no b hb];rfl
   exact next (fun A B e2 _=>absurd (by rw[e2];simp) hb) (bb (et (Bv (aa rfl) (aa rfl) ind))) rfl
def yf{nb:Nat}{row:List Nat}(hz:row.length<=5000)(hnb:∀ {A B C:List Nat} {x:Nat},(A++x::B++C).length<=5000->cl nb [.lst (L (A++x::B++C)),.int (A.length:Nat),.int ((A.length+1+B.length:Nat):Int)]=some (.lst (L (nbp x (A.length+1) B)))) :
  (NL row/\evF cl (cE nb) [.lst (L row)]=some .non)\/∃ A x B C,row=A++x::B++x::C/\x∉B/\nbs x B<2/\evF cl (cE nb) [.lst (L row)]=some (.tup [.int (A.length:Nat),.int ((A.length+1+B.length:Nat):Int)]):=by
 have st:=tX (cl:=cl) hz hnb row [] [] [] none none rfl ⟨rfl,Nat.zero_le _,fun A v B e=>(by simp at e),fun _ _=>rfl⟩ (fun w x C e=>(by simp at e))
 rcases st with⟨h,Zz,q⟩ | ⟨A,x,B,C,h1,h2,h3,Zz,q⟩
 ·exact .inl #[h,aU (fn:=cE nb) rfl rfl (d8 rfl rfl (bY (nK (aa rfl) rfl) q (aL aj rfl)))]
 ·exact .inr #[A,x,B,C,h1,h2,h3,aU (fn:=cE nb) rfl rfl (d8 rfl rfl (my (nK (aa rfl) rfl) q))]
end
end K34
set_option maxHeartbeats 1000000
namespace K34
open RL RT RM K32
section
variable{cl:Cl}
def HE{M:List Nat}{Y:St}{i:Nat}{k:E}{r:Ss}{l x q:D}{res:Option (Out × St)}(hi:(Y[i]?).bind id=some l)(h:ev cl Y k=some x)(hd:pB l x=some q)(kt:ao cl M r (Y.set i (some q))=res):ao cl M %[.del i k|r] Y=res :=
 cU (by show((Y[i]?).bind id).bind _=_;rw[hi,Option.bind_some,h,Option.bind_some,hd];rfl) kt
def CL{M:List Nat}{Y:St}{i:Nat}{a b:E}{r:Ss}{l x y q:D}{res:Option (Out × St)}(hi:(Y[i]?).bind id=some l)(h:ev cl Y a=some x)(h':ev cl Y b=some y)(hd:lZ l x y=some q)(kt:ao cl M r (Y.set i (some q))=res):ao cl M %[.dels i a b|r] Y=res :=
 cU (by show((Y[i]?).bind id).bind _=_;rw[hi,Option.bind_some,h,Option.bind_some,h',Option.bind_some,hd];rfl) kt
def Jf{P C:List Nat}{x:Nat}:pB (.lst (L (P++x::C))) (.int (P.length:Nat))=some (.lst (L (P++C))):=by
 show(if(0:Int)<=(P.length:Nat)/\((P.length:Nat):Int)<(L (P++x::C)).length then some (D.lst ((L (P++x::C)).eraseIdx ((P.length:Nat):Int).toNat))else none)=_;rw[if_pos (by rw[aS];simp;omega),Int.toNat_natCast];unfold L;rw[Zm,List.map_cons,List.eraseIdx_append_of_length_le (by simp)];simp
def Gs{P C:List Nat}{x y:Nat}:lZ (.lst (L (P++x::y::C))) (.int (P.length:Nat)) (.int ((P.length+2:Nat):Int))=some (.lst (L (P++C))):=by
 show(if(0:Int)<=(P.length:Nat)/\((P.length:Nat):Int)<=((P.length+2:Nat):Int)/\((P.length+2:Nat):Int)<=(L (P++x::y::C)).length then some (D.lst ((L (P++x::y::C)).take ((P.length:Nat):Int).toNat++(L (P++x::y::C)).drop ((P.length+2:Nat):Int).toNat))else none)=_;rw[if_pos (by rw[aS];simp;omega),Int.toNat_natCast,Int.toNat_natCast];unfold L;have e:(P.map fun i:Nat=>D.int (i:Int)).length=P.length:=List.length_map ..;rw[<-e,Zm,List.take_left' rfl,List.drop_append];simp
def vQ{x:Nat}{B:List Nat}(h:nbs x B=0)(nx:x∉B):∀ b∈B,far b x:=by
 induction B with
 | nil=>exact fun b hb=>(nomatch hb)
 |cons c B ih=>
  rw[eR]at h
  have hc:¬ (c=x+1\/c+1=x):=fun z=>by rw[if_pos z]at h;omega
  have nc:c≠x:=fun z=>nx (by rw[z];exact .head _);intro b hb;rcases List.mem_cons.mp hb with e | e
  ·rw[e];unfold far;omega
  ·exact ih (by omega) (fun z=>nx (.tail _ z)) b e
def vv{x:Nat}:∀ {B:List Nat} (o:Nat),nbs x B=1->x∉B->∃ B1 y B2,B=B1++y::B2/\(y=x+1\/x=y+1)/\(∀ b∈B1,far b x)/\(∀ b∈B2,far b x)/\nbp x o B=[o+B1.length]
 | [],_,h,_=>by cases h
 | c::B,o,h,nx=>by
  rw[eR]at h;have nc:c≠x:=fun z=>nx (by rw[z];exact .head _);have nB:x∉B:=fun z=>nx (.tail _ z);by_cases hc:c=x+1\/c+1=x
  ·rw[if_pos hc]at h
   have z:nbs x B=0:=by omega
   refine#[[],c,B,rfl,by omega,fun b hb=>(nomatch hb),vQ z nB,?_];have l:=lI x B (o+1);rw[z]at l;rw[nbp,if_pos (by unfold bes;simpa using hc),List.length_eq_zero_iff.mp l];rfl
  ·rw[if_neg hc]at h;obtain⟨B1,y,B2,e,h1,h2,h3,h4⟩:=vv (o+1) (show nbs x B=1 by omega) nB;refine#[c::B1,y,B2,by rw[e];rfl,h1,fun b hb=>?_,h3,?_]
   ·rcases List.mem_cons.mp hb with e | e
    ·rw[e];unfold far;omega
    ·exact h2 b e
   ·rw[nbp,if_neg (by unfold bes;simpa using hc),h4,List.length_cons];congr 1;omega
def F7{a b:D}(ha:a.imm=true)(hb:b.imm=true):(D.tup [a,b]).imm=true:=by simp[D.imm,aw,ha,hb]
def zf{n sh nb:Nat}{A B C:List Nat}{x:Nat}{ss:List D}(hx:∀ i∈A++x::B++x::C,i+1<n)(nx:x∉B)(h2:nbs x B<2)(hz:(A++x::B++x::C).length<=5000)(hs:ss.length<=20000)
 (hnb:∀ {A B C:List Nat} {x:Nat},(A++x::B++C).length<=5000->cl nb [.lst (L (A++x::B++C)),.int (A.length:Nat),.int ((A.length+1+B.length:Nat):Int)]=some (.lst (L (nbp x (A.length+1) B))))
 (hl:∀ {A B C:List Nat} {x:Nat} {ss:List D},ss.length+B.length<50000->A.length+B.length<=5000->cl sh [.lst (L (A++B++x::C)),.lst ss,.int ((A.length+B.length:Nat):Int),.int (A.length:Nat)]=some (.tup [.non,.lst (L (A++x::B++C)),.lst (ss++(swL A.length B.length).map stD)]))
 (hr:∀ {A B C:List Nat} {x:Nat} {ss:List D},ss.length+B.length<50000->A.length+B.length<=5000->cl sh [.lst (L (A++x::B++C)),.lst ss,.int (A.length:Nat),.int ((A.length+B.length:Nat):Int)]=some (.tup [.non,.lst (L (A++B++x::C)),.lst (ss++(swR A.length B.length).map stD)])) :
  ∃ row' new k,Way n (A++x::B++x::C) new k row'/\row'.length<(A++x::B++x::C).length/\new.length<=(A++x::B++x::C).length/\evF cl (fB sh nb) [.lst (L (A++x::B++x::C)),.lst ss,.int (A.length:Nat),.int ((A.length+1+B.length:Nat):Int)]=some (.tup [.non,.lst (L row'),.lst (ss++new.map stD)]):=by
 have hz':A.length+B.length+C.length+2<=5000:=by simp at hz;omega
 have c0:=hnb (A:=A) (B:=B) (C:=x::C) (x:=x) hz;have im:∀ xs:List Nat,aB (.lst (L xs))=true:=fun xs=>aY xs
 have ok:∀ (xs:List Nat) (e:E),aC e=true->aK [0,0,1,1] e (.lst (L xs))=true:=fun xs e he=>by unfold aK;rw[im,he];simp
 by_cases h0:nbs x B=0
 ·have hn:nbp x (A.length+1) B=[]:=List.length_eq_zero_iff.mp (by rw[lI,h0]);rw[hn]at c0;have hf:=vQ h0 nx;have s1:=hl (A:=A++[x]) (B:=B) (C:=C) (x:=x) (ss:=ss) (by omega) (by simp;omega);rw[show A++[x]++B++x::C=A++x::B++x::C by simp,show(A++[x]).length=A.length+1 by simp]at s1;have w1:=j7 (n:=n) (x:=x) (A:=A++[x]) B.length B C rfl hf (by simp at hz ⊢;omega);rw[show A++[x]++B++x::C=A++x::B++x::C by simp,show(A++[x]).length=A.length+1 by simp,show A++[x]++x::B++C=A++x::x::(B++C) by simp]at w1;have w2:=zL (n:=n) (p:=A) (q:=B++C) (h:=x) (by simp at hz ⊢;omega);refine#[A++x::(B++C),_,_,w1.trans w2,by simp only[List.length_append,List.length_cons];omega,by simp[swL];omega,?_]
  have dl:pB (.lst (L (A++[x]++x::B++C))) (.int ((A.length+1:Nat):Int))=some (.lst (L (A++x::(B++C)))):=by
   have:=Jf (P:=A++[x]) (C:=B++C) (x:=x);rw[show(A++[x]).length=A.length+1 by simp]at this;rw[show A++[x]++x::B++C=A++[x]++x::(B++C) by simp,this];simp
  refine jT (fn:=fB sh nb) (o:=.rt .non) rfl rfl (aJ (k7 (aa rfl) (aa rfl) (aa rfl) c0) (ok [] _ rfl) (cC (bb (xt (k:=false) (by rw[aa rfl];rfl))) (dE (ah (aa rfl) (ah (aa rfl) (ah (aa rfl) (ah (az (aa rfl) aj rfl) aA)))) rfl s1 rfl (HE rfl (az (aa rfl) aj rfl) dl (lr (b8 (ah (b8 (ah aj (ah (aa rfl) aA))) (ah (b8 (ah aj (ah (aa rfl) aA))) aA))) rfl rfl (by simp[swL,most];omega) (aL aj rfl)))))) (.inr rfl) rfl ?_;simp;rfl
 ·have h1:nbs x B=1:=by omega
  obtain⟨B1,y,B2,rfl,hy,f1,f2,hn⟩:=vv (A.length+1) h1 nx;rw[hn]at c0;have hy':y+1<n:=hx y (by simp)
  have hz':A.length+(B1.length+(B2.length+1))+C.length+2<=5000:=by simpa using hz'
  have lm:(A++x::B1++[y]).length=A.length+1+B1.length+1:=by simp;omega
  have s1:=hl (A:=A++x::B1++[y]) (B:=B2) (C:=C) (x:=x) (ss:=ss) (by omega) (by rw[lm];omega);rw[show A++x::B1++[y]++B2++x::C=A++x::(B1++y::B2)++x::C by simp,lm,show A.length+1+B1.length+1+B2.length=A.length+1+(B1++y::B2).length by simp;omega,show A++x::B1++[y]++x::B2++C=A++x::B1++(y::x::(B2++C)) by simp]at s1;have w1:=j7 (n:=n) (x:=x) (A:=A++x::B1++[y]) B2.length B2 C rfl f2 (by simp at hz ⊢;omega);rw[show A++x::B1++[y]++B2++x::C=A++x::(B1++y::B2)++x::C by simp,lm,show A++x::B1++[y]++x::B2++C=A++x::B1++(y::x::(B2++C)) by simp]at w1;have s2:=hr (A:=A) (B:=B1) (C:=y::x::(B2++C)) (x:=x) (ss:=ss++(swL (A.length+1+B1.length+1) B2.length).map stD) (by simp[swL];omega) (by omega);have w2:=vb (n:=n) (x:=x) B1 A (y::x::(B2++C)) f1 (by simp at hz ⊢;omega);have w3:=DP (n:=n) (p:=A++B1) (q:=B2++C) (h:=x) (x:=y) hy hy' (by simp at hz ⊢;omega);have lm2:(A++B1).length=A.length+B1.length:=List.length_append;rw[lm2]at w3;refine#[A++B1++x::(B2++C),_,_,(w1.trans w2).trans w3,by simp only[List.length_append,List.length_cons];omega,by simp[swL,swR];omega,?_];have i0:ixV (.lst (L [A.length+1+B1.length])) (.int 0)=some (.int ((A.length+1+B1.length:Nat):Int)):=rfl;have im5:aK [0,0,1,1] (.ix 4#0 0#1) (.int ((A.length+1+B1.length:Nat):Int))=true:=rfl
  have sb:aF .sub (.int ((A.length+1+B1.length:Nat):Int)) (.int 1)=some (.int ((A.length+B1.length:Nat):Int)):=by show some (D.int _)=_;congr 2;omega
  have rm:ixV (.lst (L (A++B1++x::(y::x::(B2++C))))) (.int ((A.length+1+B1.length:Nat):Int))=some (.int (y:Nat)):=nY (by
   rw[show A++B1++x::(y::x::(B2++C))=(A++B1++[x])++y::(x::(B2++C)) by simp,Zh (by simp;omega),show A.length+1+B1.length-(A++B1++[x]).length=0 by simp;omega]
   rfl)
  have dl:lZ (.lst (L (A++B1++x::(y::x::(B2++C))))) (.int ((A.length+1+B1.length:Nat):Int)) (.int ((A.length+1+B1.length+2:Nat):Int))=some (.lst (L (A++B1++x::(B2++C)))):=by
   have:=Gs (P:=A++B1++[x]) (C:=B2++C) (x:=y) (y:=x);rw[show(A++B1++[x]).length=A.length+1+B1.length by simp;omega]at this;rw[show A++B1++x::(y::x::(B2++C))=A++B1++[x]++y::x::(B2++C) by simp,this];simp
  refine jT (fn:=fB sh nb) (o:=.nx) rfl rfl (aJ (k7 (aa rfl) (aa rfl) (aa rfl) c0) (ok _ _ rfl) (bc (bb (xt (k:=true) (by rw[aa rfl];rfl))) (aJ (aI (aa rfl) aj i0) im5 (dE (ah (aa rfl) (ah (aa rfl) (ah (aa rfl) (ah (az (aa rfl) aj rfl) aA)))) rfl s1 rfl (dE (ah (aa rfl) (ah (aa rfl) (ah (aa rfl) (ah (az (aa rfl) aj sb) aA)))) rfl s2 rfl (lr (b8 (ah (b8 (ah aj (ah (az (aa rfl) aj sb) aA))) (ah (b8 (ah aj (ah (az (aa rfl) aj sb) (ah (aI (aa rfl) (aa rfl) rm) aA)))) aA))) rfl rfl (by simp[swL,swR,most];omega) (CL rfl (aa rfl) (az (aa rfl) aj rfl) dl aN))))))) (.inl rfl) rfl ?_;simp;rfl
end
end K34
set_option maxHeartbeats 1000000
namespace K34
open RL RT RM K32
section
variable{cl:Cl}
structure Hp(cl:Cl)(n sh lo co:Nat):Prop where
 sl:∀ {A B C:List Nat} {x:Nat} {ss:List D},ss.length+B.length<50000->A.length+B.length<=5000->cl sh [.lst (L (A++B++x::C)),.lst ss,.int ((A.length+B.length:Nat):Int),.int (A.length:Nat)]=some (.tup [.non,.lst (L (A++x::B++C)),.lst (ss++(swL A.length B.length).map stD)])
 lo:∀ {row:List Nat},row.length<=5000->(NL row/\cl lo [.lst (L row)]=some .non)\/∃ A x B C,row=A++x::B++x::C/\x∉B/\nbs x B<2/\cl lo [.lst (L row)]=some (.tup [.int (A.length:Nat),.int ((A.length+1+B.length:Nat):Int)])
 co:∀ {A B C:List Nat} {x:Nat} {ss:List D},(∀ i∈A++x::B++x::C,i+1<n)->x∉B->nbs x B<2->(A++x::B++x::C).length<=5000->ss.length<=20000 ->
  ∃ row' new k,Way n (A++x::B++x::C) new k row'/\row'.length<(A++x::B++x::C).length/\new.length<=(A++x::B++x::C).length/\cl co [.lst (L (A++x::B++x::C)),.lst ss,.int (A.length:Nat),.int ((A.length+1+B.length:Nat):Int)]=some (.tup [.non,.lst (L row'),.lst (ss++new.map stD)])
def sW{n sh lo co:Nat}(H:Hp cl n sh lo co):∀ (m:Nat) (row:List Nat) (ss:List D) (fuel:Nat) (fd:D) (f3 f4:Option D),row.length<=m->m<fuel->(∀ i∈row,i+1<n)->row.length<=100->ss.length+m*100<=20000->cl lo [.lst (L row)]=some fd ->
  ∃ row' new k f2 f3' f4',Way n row new k row'/\NL row'/\row'.length<=row.length/\new.length<=m*100/\whF (fun Y=>(ev cl Y (.isN true 2#0)).bind truth) (ao cl [0,0,1,1] (jW lo co)) fuel [some (.lst (L row)),some (.lst ss),some fd,f3,f4]=some (.nx,[some (.lst (L row')),some (.lst (ss++new.map stD)),f2,f3',f4'])
 | m,row,ss,0,fd,f3,f4,_,hf,_,_,_,_=>by omega
 | m,row,ss,fuel+1,fd,f3,f4,hm,hf,hr,hl,hs,hfd=>by
  rcases H.lo (row:=row) (by omega)with⟨nl,e⟩ | ⟨A,x,B,C,er,nx,nb,e⟩
  ·rw[e]at hfd;cases hfd;refine#[row,[],0,some .non,f3,f4,.refl _ _,nl,QV _,Nat.zero_le _,?_];rw[whF,bb (lC (n:=true) (k:=false) (x:=.non) rfl (aa rfl)),Option.bind_some,if_neg ∅,List.map_nil,Ze]
  ·rw[e]at hfd;cases hfd;subst er;obtain⟨row1,new1,k1,w1,l1,n1,c1⟩:=H.co (ss:=ss) hr nx nb (by omega) (by omega)
   obtain⟨fd1,hfd1⟩:∃ d,cl lo [.lst (L row1)]=some d:=by
    rcases H.lo (row:=row1) (by omega)with⟨_,e⟩ | ⟨_,_,_,_,_,_,_,e⟩<;>exact#[_,e]
   have hfi:aK [0,0,1,1] (.call lo %[0#0|.nil]) fd1=true:=by
    rcases H.lo (row:=row1) (by omega)with⟨_,e⟩ | ⟨_,_,_,_,_,_,_,e⟩<;>(rw[e]at hfd1;cases hfd1;rfl)
   obtain⟨m,rfl⟩:∃ m',m=m'+1:=#[m-1,by omega]
   have hl1:(A++x::B++x::C).length<=100:=hl;obtain⟨row',new,k,f2,f3',f4',w,nl,l2,n2,q⟩:=sW H m row1 (ss++new1.map stD) fuel fd1 (some (.int (A.length:Nat))) (some (.int ((A.length+1+B.length:Nat):Int))) (by omega) (by omega) (w1.keep hr).1 (by omega) (by rw[List.length_append,List.length_map];omega) hfd1;refine#[row',new1++new,k1+k,f2,f3',f4',w1.trans w,nl,by omega,by rw[List.length_append];omega,?_];rw[whF,bb (lC (n:=true) (k:=true) (x:=.tup [.int (A.length:Nat),.int ((A.length+1+B.length:Nat):Int)]) rfl (aa rfl)),Option.bind_some,if_pos rfl]
   have body:ao cl [0,0,1,1] (jW lo co) [some (.lst (L (A++x::B++x::C))),some (.lst ss),some (.tup [.int (A.length:Nat),.int ((A.length+1+B.length:Nat):Int)]),f3,f4]=some (.nx,[some (.lst (L row1)),some (.lst (ss++new1.map stD)),some fd1,some (.int (A.length:Nat)),some (.int ((A.length+1+B.length:Nat):Int))]) :=
    jK (aa rfl) rfl rfl rfl (dE (ah (aa rfl) (ah (aa rfl) (ah (aa rfl) (ah (aa rfl) aA)))) rfl c1 rfl (aJ (gI (aa rfl) hfd1) hfi aN))
   rw[body];show whF _ _ fuel _=_;rw[q,Zm,Q6]
def xV{n sh lo co:Nat}(H:Hp cl n sh lo co){row:List Nat}(hr:∀ i∈row,i+1<n)(hl:row.length<=100):∃ row' new k,Way n row new k row'/\NL row'/\row'.length<=row.length/\new.length<=10000/\evF cl (iV lo co) [.lst (L row),.lst []]=some (.tup [.non,.lst (L row'),.lst (new.map stD)]):=by
 obtain⟨fd,hfd⟩:∃ d,cl lo [.lst (L row)]=some d:=by
  rcases H.lo (row:=row) (by omega)with⟨_,e⟩ | ⟨_,_,_,_,_,_,_,e⟩<;>exact#[_,e]
 have hfi:aK [0,0,1,1] (.call lo %[0#0|.nil]) fd=true:=by
  rcases H.lo (row:=row) (by omega)with⟨_,e⟩ | ⟨_,_,_,_,_,_,_,e⟩<;>(rw[e]at hfd;cases hfd;rfl)
 obtain⟨row',new,k,f2,f3',f4',w,nl,l2,n2,q⟩:=sW H row.length row [] most fd none none (QV _) (by unfold most;omega) hr hl (by simp;omega) hfd;exact#[row',new,k,w,nl,l2,by omega,jT (fn:=iV lo co) rfl rfl (aJ (gI (aa rfl) hfd) hfi (xK q aN)) (.inl rfl) rfl rfl]
def HM(xs:List Nat):cK (L xs)=some (xs.map Int.ofNat):=by
 induction xs with
 | nil=>rfl
 | cons x r ih=>show(cK (L r)).map _=_;rw[ih];rfl
def ql{x:Nat}:∀ {B C:List Nat},x∉B->((B++x::C).map Int.ofNat).idxOf (x:Int)=B.length
 | [],C,_=>by simp[List.idxOf_cons]
 | b::B,C,h=>by
  have hb:b≠x:=fun z=>h (by rw[z];exact .head _);rw[List.cons_append,List.map_cons,List.idxOf_cons,ql fun z=>h (.tail _ z)]
  have:(Int.ofNat b == (x:Int))=false:=by rw[beq_eq_false_iff_ne];intro z;exact hb (Int.ofNat.inj z)
  rw[this];rfl
def HJ{u B C:List Nat}{x:Nat}(h:x∉B):me (.lst (L (u++B++x::C))) (.int (x:Nat)) (.int (u.length:Nat))=some (.int ((u.length+B.length:Nat):Int)):=by
 show(cK (L (u++B++x::C))).bind _=_
 have d:((u++B++x::C).map Int.ofNat).drop u.length=(B++x::C).map Int.ofNat:=by
  rw[Q6,Zm,List.drop_left' (by simp)]
 rw[HM,Option.bind_some,Int.toNat_natCast,d,if_pos ⟨by omega,by simp⟩,ql h]
def oW{w:List Nat}(h:Eqv w []):w=[]:=by
 cases w with
 | nil=>rfl
 |cons a w=>
  have:=h a;rw[bK,if_pos (.inl rfl)]at this;cases this
def GI{Y:St}{e e' e'':E}{x y z d:D}(h:ev cl Y e=some x)(h':ev cl Y e'=some y)(h'':ev cl Y e''=some z)(hb:me x y z=some d):ev cl Y (.idx2 e e' e'')=some d:=by rw[HH,h,Option.bind_some,h',Option.bind_some,h''];exact hb
def C5{x:Nat}{B:List Nat}(h:∀ b∈B,far b x):x∉B:=fun z=>by have:=h x z;unfold far at this;omega
def xN{n sh lo co:Nat}(H:Hp cl n sh lo co){s2:Option D}:∀ (v u w:List Nat) (ss:List D) (s3 s4:Option D),Eqv w v->(u++w).length<=100->ss.length+v.length*100<=30000 ->
  ∃ new s3' s4',Way n (u++w) new 0 (u++v)/\new.length<=v.length*100/\aP (ao cl [0,0,1,1] (nQ sh)) [3,4] (cM (u.length:Nat) (L v)) [some (.lst (L (u++w))),some (.lst ss),s2,s3,s4]=some (.nx,[some (.lst (L (u++v))),some (.lst (ss++new.map stD)),s2,s3',s4'])
 | [],u,w,ss,s3,s4,e,_,_=>by
  cases oW e;exact#[[],s3,s4,.refl _ _,Nat.zero_le _,by rw[List.map_nil,Ze ss];exact jI]
 | x::v,u,w,ss,s3,s4,e,hl,hs=>by
  obtain⟨B,C,rfl,fr,e'⟩:=ny e;have hs:ss.length+(v.length+1)*100<=30000:=hs
  have hl':u.length+B.length+C.length+1<=100:=by simp at hl;omega
  have c:=H.sl (A:=u) (B:=B) (C:=C) (x:=x) (ss:=ss) (by omega) (by omega);have w1:=j7 (n:=n) (x:=x) (A:=u) B.length B C rfl fr (by simp;omega);obtain⟨new,s3',s4',w2,nl,q⟩:=xN H (s2:=s2) v (u++[x]) (B++C) (ss++(swL u.length B.length).map stD) (some (.int (u.length:Nat))) (some (.int (x:Nat))) e' (by simp;omega) (by simp[swL];omega);rw[show u++[x]++(B++C)=u++x::B++C by simp,show u++[x]++v=u++x::v by simp]at w2 q;rw[show(((u++[x]).length:Nat):Int)=((u.length:Nat):Int)+1 by simp]at q;refine#[swL u.length B.length++new,s3',s4',by rw[show u++(B++x::C)=u++B++x::C by simp];exact w1.trans w2,by rw[List.length_append,List.length_cons];simp[swL];omega,?_];rw[show u++(B++x::C)=u++B++x::C by simp,Zm,<-Q6];exact eE rfl rfl (dE (ah (aa rfl) (ah (aa rfl) (ah (GI (aa rfl) (aa rfl) (aa rfl) (HJ (C5 fr))) (ah (aa rfl) aA)))) rfl c rfl aN) q
def CQ{n sh lo co:Nat}(H:Hp cl n sh lo co){row goal:List Nat}{ss:List D}(e:Eqv row goal)(hl:row.length<=100)(hg:goal.length<=100)(hs:ss.length<=10000):∃ new,Way n row new 0 goal/\new.length<=10000/\evF cl (iT sh) [.lst (L row),.lst ss,.lst (L goal)]=some (.tup [.non,.lst (L goal),.lst (ss++new.map stD)]):=by
 obtain⟨new,s3,s4,w,nl,q⟩:=xN H (s2:=some (.lst (L goal))) goal [] row ss none none e hl (by omega);exact#[new,w,by omega,jT (fn:=iT sh) rfl rfl (bY (nK (aa rfl) rfl) q aN) (.inl rfl) rfl rfl]
def vO(n:Nat):∀ (v u w:List Nat),Eqv w v->(u++w).length<=5000->∃ new,Way n (u++w) new 0 (u++v)
 | [],u,w,e,_=>by
  cases oW e;exact#[[],.refl _ _]
 | x::v,u,w,e,hl=>by
  obtain⟨B,C,rfl,fr,e'⟩:=ny e;have w1:=j7 (n:=n) (x:=x) (A:=u) B.length B C rfl fr (by simp at hl ⊢;omega);obtain⟨new,w2⟩:=vO n v (u++[x]) (B++C) e' (by simp at hl ⊢;omega);rw[show u++[x]++(B++C)=u++x::B++C by simp,show u++[x]++v=u++x::v by simp]at w2;rw[show u++(B++x::C)=u++B++x::C by simp];exact#[_,w1.trans w2]
def D6{w v:List Nat}(h:Eqv w v):∀ {k},w.length=k->v.length=k:=by
 induction v generalizing w with
 | nil=>intro k hk;rw[oW h]at hk;exact hk
 |cons x v ih=>
  intro k hk;obtain⟨B,C,rfl,_,e'⟩:=ny h;have:=ih e' rfl;simp at hk this ⊢;omega
def Dv{n:Nat}{row row':List Nat}{new:List (D × D)}{k:Nat}(h1:1<=n)(hn:n<=10)(hr:∀ i∈row,i+1<n)(w:Way n row new k row')(nl:NL row')(hl:row'.length<=100):∃ goal,Tw n (aq n row).1 goal/\Val n (aq n row).1/\Eqv row' goal/\goal.length<=100/\(aq n goal).2=0:=by
 obtain⟨k1,k2,k3⟩:=w.keep hr;obtain⟨rs,R,E⟩:=CA k1 nl;obtain⟨f,c,l,V,S,_⟩:=vK h1 hn R;obtain⟨g1,m⟩:=Cz S;obtain⟨ss,w'⟩:=vO n (wrd rs) [] row' E (by simp;omega);obtain⟨_,j2,_⟩:=w'.keep k1
 have ef:(aq n row).1=f:=by
  have a:(aq n (wrd rs)).1=(aq n row').1:=j2;rw[<-k2,<-a,m]
 rw[ef];exact#[wrd rs,S,V,E,by rw[D6 E rfl];exact hl,by rw[m]]
end
end K34
set_option maxHeartbeats 1000000
namespace K34
open RL RT RM K32
def dg:Dg T 31 32 33:=#[rfl,rfl,rfl]
def ck:Ck T 0 1 3 4 5 7 8 9 11 12 13:=#[rfl,rfl,rfl,rfl,rfl,rfl,rfl,rfl,rfl,rfl,rfl]
section
variable{n r r':Nat}{row row' f:List Nat}{A B C:List Nat}{x:Nat}{ss:List D}
def nbT(m:Nat)(hz:(A++x::B++C).length<=5000):a7 T (m+1) 27 [.lst (L (A++x::B++C)),.int (A.length:Nat),.int ((A.length+1+B.length:Nat):Int)]=some (.lst (L (nbp x (A.length+1) B))):=(a5 (fn:=cz) rfl).trans (FQ hz)
def slT(m:Nat)(hz:ss.length+B.length<50000)(hl:A.length+B.length<=5000):a7 T (m+1) 30 [.lst (L (A++B++x::C)),.lst ss,.int ((A.length+B.length:Nat):Int),.int (A.length:Nat)]=some (.tup [.non,.lst (L (A++x::B++C)),.lst (ss++(swL A.length B.length).map stD)]):=(a5 (fn:=fU) rfl).trans (Eh hz hl)
def srT(m:Nat)(hz:ss.length+B.length<50000)(hl:A.length+B.length<=5000):a7 T (m+1) 30 [.lst (L (A++x::B++C)),.lst ss,.int (A.length:Nat),.int ((A.length+B.length:Nat):Int)]=some (.tup [.non,.lst (L (A++B++x::C)),.lst (ss++(swR A.length B.length).map stD)]):=(a5 (fn:=fU) rfl).trans (CD hz hl)
def hp(n:Nat):Hp (a7 T 26) n 30 26 28 where
 sl:=slT 25
 lo:=fun hz=>by
  rcases yf (cl:=a7 T 25) (nb:=27) hz (nbT 24)with⟨a,b⟩ | ⟨A,x,B,C,h1,h2,h3,b⟩
  ·exact .inl #[a,(a5 (fn:=cE 27) rfl).trans b]
  ·exact .inr #[A,x,B,C,h1,h2,h3,(a5 (fn:=cE 27) rfl).trans b]
 co:=fun hx nx h2 hz hs=>by
  obtain⟨row',new,k,a,b,c,d⟩:=zf (cl:=a7 T 25) (sh:=30) (nb:=27) hx nx h2 hz hs (nbT 24) (slT 24) (srT 24);exact#[row',new,k,a,b,c,(a5 (fn:=fB 30 27) rfl).trans d]
def DE{cl:Cl}(h1:cl 2 [.int (n:Nat)]=some .non)(h2:∀ i∈row,cl 16 [.int (n:Nat),.int (i:Nat)]=some (.bl true)):evF cl (gn 16 2) [.int (n:Nat),.fL (L row)]=some .non:=by
 obtain⟨Zz,e,o',rfl⟩:=cX (f:=ao cl [] (kO 16 2)) (tg:=[2]) (xs:=row) (Y:=[some (.int (n:Nat)),some (.fL (L row)),none]) (fun _ Y=>∃ o,Y=[some (.int (n:Nat)),some (.fL (L row)),o]) ⟨none,rfl⟩ (by
  rintro p x q Y rfl ⟨o,rfl⟩
  exact#[_,bc (bb (de (cZ (aa rfl) (aa rfl) (h2 x (by simp))))) aN,_,rfl])
 exact Hv (fn:=gn 16 2) rfl rfl (rQ (gI (aa rfl) h1) (bY (oF (aa rfl) rfl) e aN))
def zF{cl:Cl}(hn:n<=10)(hrow:∀ i∈row,i+1<n)(h1:cl 17 [.int (n:Nat),.fL (L row)]=some .non)(h2:cl 10 [.int (n:Nat)]=some (.tup (L (a9 n))))
 (h3:∀ (f:List Nat) (i:Nat),Frm n f->i+1<n->cl 15 [.lst (L f),.int (i:Nat)]=some (.tup [.int (bu f (n+i):Nat),.lst (L (a4 f (n+i)))])):evF cl (nW 15 10 17) [.int (n:Nat),.fL (L row)]=some (prD (aq n row)):=by
 obtain⟨Zz,e,o',rfl⟩:=cX (f:=ao cl [2] (pL 15 10 17)) (tg:=[4]) (xs:=row) (Y:=[some (.int (n:Nat)),some (.fL (L row)),some (.lst (L (a9 n))),some (.int 0),none])
  (fun p Y=>∃ o,Y=[some (.int (n:Nat)),some (.fL (L row)),some (.lst (L (hangs n p (a9 n,0)).1)),some (.int (hangs n p (a9 n,0)).2),o]) ⟨none,rfl⟩ (by
   rintro p x q Y rfl ⟨o,rfl⟩;have F:Frm n (hangs n p (a9 n,0)).1:=iW (fun i hi=>hrow i (by simp[hi])) (cO n);have hx:=h3 (hangs n p (a9 n,0)).1 x F (hrow x (by simp));refine#[[some (.int (n:Nat)),some (.fL (L (p++x::q))),some (.lst (L (hangs n (p++[x]) (a9 n,0)).1)),some (.int (hangs n (p++[x]) (a9 n,0)).2),some (.int x)],?_,_,rfl]
   simp[eW,pL,ao,EC,aX,evs,hx,dX,isVar,aK,D.imm,xr,xc,da,hangs])
 exact aU (fn:=nW 15 10 17) rfl rfl (rQ (cZ (aa rfl) (aa rfl) h1) (d8 (bJ (gI (aa rfl) h2) rfl) (by simp[aB,aY]) (aJ aj rfl (bY (oF (aa rfl) rfl) e (aL (b8 (ah (bJ (aa rfl) rfl) (ah (aa rfl) aA))) (by unfold bj;rw[lb (aq n row)];rfl))))))
def vL(h1:1<=n)(h2:n<=10)(hr:∀ i∈row,i+1<n):a7 T 27 14 [.int (n:Nat),.fL (L row)]=some (prD (aq n row)):=by
 have cp:∀ m,a7 T (m+3) 2 [.int (n:Nat)]=some .non:=fun m=>Hy (nu:=0) (pc:=1) rfl rfl rfl h1 h2;exact(a5 (fn:=nW 15 10 17) rfl).trans (zF h2 hr ((a5 (fn:=gn 16 2) rfl).trans (DE (cp 22) fun i hi=>DZ (nu:=0) rfl rfl (hr i hi))) ((a5 (fn:=lP 2) rfl).trans (run_plain h2 (cp 22))) fun f i F hi=>(a5 (fn:=eJ 6 9) rfl).trans (qA F hi (fun xs=>(a5 (fn:=gy) rfl).trans (mD xs)) fun xs a b ha hb=>(a5 (fn:=nZ) rfl).trans (uT xs ha hb)))
def nF(m:Nat)(h1:1<=n)(hn:n<=10)(V:Val n f)(S:Tw n f row)(hl:row.length<=900):a7 T (m+6) 18 [.tup (L f)]=some (.lst (L row)):=by
 have po:∀ (m:Nat) (g:List Nat),Frm n g->a7 T (m+1) 9 [.lst (L g)]=some (.int (n:Nat)):=fun m g G=>by
  rw[ck.ofL m,aS,G.len];congr 2;omega
 exact(a5 (fn:=gd 19 20 8) rfl).trans (u5 V hl (ck.check m h1 hn V) (fun g G=>(a5 (fn:=eG 9) rfl).trans (DJ h1 hn G (po (m+3) g G)))
  (fun g r' b G hb ne q=>(a5 (fn:=k6 6 21) rfl).trans (CP G hb ne ((a5 (fn:=gN 9) rfl).trans (Bo hn (bF G (by omega)) hb q (po (m+2) _ (bF G (by omega))))) fun xs a b ha hb=>(a5 (fn:=nZ) rfl).trans (uT xs ha hb))) S)
def Chn.imm{ts:List D}(h:Chn n r row ts r' row'):∀ t∈ts,t.imm=true:=by
 induction h with
 | nil=>exact fun t ht=>(nomatch ht)
 |cons _ s _ ih=>
  intro t ht;rcases List.mem_cons.mp ht with e | e
  ·rw[e];exact vI _ _ _
  ·exact ih t e
def Way.imm{k:Nat}{new:List (D × D)}(w:Way n row new k row'):∀ s∈new,s.1.imm=true/\s.2.imm=true:=fun s hs =>
 ⟨(w.fw 0).imm _ (List.mem_map.mpr ⟨s,hs,rfl⟩),(w.bw 0).imm _ (List.mem_map.mpr ⟨s,List.mem_reverse.mpr hs,rfl⟩)⟩
def md:∀ {l:List D},(∀ d∈l,d.imm=true)->aw l=true
 | [],_=>rfl
 | d::l,h=>by rw[aw,h d (.head _),md fun d hd=>h d (.tail _ hd)];rfl
def sM{new:List (D × D)}(h:∀ s∈new,s.1.imm=true/\s.2.imm=true):aw (new.map stD)=true:=md fun d hd=>by
 obtain⟨s,hs,rfl⟩:=List.mem_map.mp hd;exact F7 (h s hs).1 (h s hs).2
def kM(h1:1<=n)(hn:n<=10)(hr:∀ i∈row,i+1<n)(hl:row.length<=100):∃ goal new k,Tw n (aq n row).1 goal/\Val n (aq n row).1/\Way n row new k goal/\goal.length<=100/\(aq n goal).2=0/\new.length<=20000/\a7 T 28 24 [.int (n:Nat),.fL (L row)]=some (.lst (new.map stD)):=by
 obtain⟨row1,new1,k,w1,nl,l1,n1,c1⟩:=xV (hp n) hr hl;obtain⟨goal,S,V,E,gl,g0⟩:=Dv h1 hn hr w1 nl (by omega);obtain⟨new2,w2,n2,c2⟩:=CQ (hp n) (ss:=new1.map stD) E (by omega) gl (by simpa using n1);have w:=w1.trans w2;refine#[goal,_,_,S,V,w,gl,g0,by rw[List.length_append];omega,?_];have s1:a7 T 27 25 [.lst (L row),.lst []]=some (.tup [.non,.lst (L row1),.lst (new1.map stD)]):=(a5 (fn:=iV 26 28) rfl).trans c1;have s2:a7 T 27 29 [.lst (L row1),.lst (new1.map stD),.lst (L goal)]=some (.tup [.non,.lst (L goal),.lst (new1.map stD++new2.map stD)]):=(a5 (fn:=iT 30) rfl).trans c2;have im:∀ xs:List Nat,aB (.lst (L xs))=true:=fun xs=>aY xs;have ia:aB (.lst ((new1++new2).map stD))=true:=sM w.imm;rw[Zm]at ia ⊢;refine(a5 (fn:=nV 29 18 14 25) rfl).trans (aU rfl rfl (d8 (d:=.lst (L row)) (bJ (aa rfl) rfl) (by rw[im];rfl) (d8 (d:=.lst []) (dR aA) rfl (dE (ah (aa rfl) (ah (aa rfl) aA)) rfl s1 rfl (dE (ah (aa rfl) (ah (aa rfl) (ah (gI (aI (cZ (aa rfl) (aa rfl) (vL h1 hn hr)) aj rfl) (nF 21 h1 hn V S (by omega))) aA))) ?_ s2 rfl (aL (aa rfl) (by unfold bj;rw[ia];rfl)))))));show(true&&(true&&(aK _ _ (.lst (L goal))&&true)))=true;unfold aK;rw[im];rfl
def lQ:∀ {a b:List Nat},L a=L b->a=b
 | [],[],_=>rfl
 | x::a,y::b,h=>by
  have h:D.int (x:Int)::L a=D.int (y:Int)::L b:=h;injection h with h1 h2;injection h1 with h1;rw[Int.ofNat.inj h1,lQ h2]
def vJ{a b:List Nat}{r s:Nat}(h:a.length=b.length):ba .eq (.tup [.tup (L a),.int (r:Nat)]) (.tup [.tup (L b),.int (s:Nat)])=some (decide (a=b/\r=s)):=by
 show(((eqD 7 (.tup (L a)) (.tup (L b))).bind fun e=>((eqD 7 (.int (r:Nat)) (.int (s:Nat))).bind fun e=>(eqs (eqD 7) [] []).map fun k=>e&&k).map fun k=>e&&k)).map (fun k=>k&&true)=_
 rw[show eqD 7 (.tup (L a)) (.tup (L b))=some (decide (a=b)) by
  show(eqs (eqD 6) (L a) (L b)).map (fun k=>k&&(L a).length == (L b).length)=_;rw[rL 6 a b h,aS,aS,h]
  simp]
 show some ((decide (a=b)&&(((r:Int) == (s:Int))&&true))&&true)=_;congr 1;rw[Zd];simp;intro _;omega
def uH(h1:1<=n)(hn:n<=10)(hr:∀ i∈row,i+1<n):a7 T 28 23 [.int (n:Nat),prF r row]=some (.tup [.tup (L (aq n row).1),.int ((r+(aq n row).2:Nat):Int)]):=by
 have i1:aw [D.int (r:Nat),.fL (L row)]=true:=by simp[aw,D.imm,aY]
 have i2:aw [D.tup (L (aq n row).1),.int ((aq n row).2:Nat)]=true:=by simp[aw,D.imm,aY]
 have i3:bj [] (.tup %[4#0,.bin .add 2#0 5#0|.nil]) (.tup [.tup (L (aq n row).1),.int ((r+(aq n row).2:Nat):Int)])=true:=by
  unfold bj;simp[aw,D.imm,aY]
 exact(a5 (fn:=j6 14) rfl).trans (aU rfl rfl (jK (aa rfl) rfl i1 rfl (jK (cZ (aa rfl) (aa rfl) (vL h1 hn hr)) rfl i2 rfl (aL (b8 (ah (aa rfl) (ah (az (aa rfl) (aa rfl) rfl) aA))) i3))))
def tU{F:St->Option (Option D)}{tg:List Nat}{Y:St}{β:Type}{h g:β->D}:∀ xs:List β,(∀ x∈xs,(g x).imm=true/\(bf tg (h x) Y).bind F=some (some (g x)))->cq F tg Y (xs.map h)=some (xs.map g)
 | [],_=>rfl
 | x::r,q=>by
  obtain⟨a1,a⟩:=q x (by simp);have b:=tU r fun y hy=>q y (by simp[hy]);rw[List.map_cons,cq]
  cases hb:bf tg (h x) Y with
  | none=>rw[hb]at a;cases a
  |some ZA=>
   rw[hb]at a;simp only[Option.bind_some]at a ⊢;rw[a,b];simp[kC,a1]
def fY(hn:n<=10)(hr:∀ i∈row,i+1<n):(aq n row).1.length=2*n:=(iW hr (cO n)).len
def qm{r1 r2:Nat}{row1 row2:List Nat}(h1:1<=n)(hn:n<=10)(q1:∀ i∈row1,i+1<n)(q2:∀ i∈row2,i+1<n)(l1:row1.length<=100)(l2:row2.length<=100) :
  if(aq n row1).1=(aq n row2).1/\r1+(aq n row1).2=r2+(aq n row2).2 then ∃ ts,Chn n r1 row1 ts r2 row2/\ts.length<=50000/\a7 T 29 22 [.int (n:Nat),prF r1 row1,prF r2 row2]=some (.lst ts)else a7 T 29 22 [.int (n:Nat),prF r1 row1,prF r2 row2]=some .non:=by
 have cm:ba .ne (.tup [.tup (L (aq n row1).1),.int ((r1+(aq n row1).2:Nat):Int)]) (.tup [.tup (L (aq n row2).1),.int ((r2+(aq n row2).2:Nat):Int)])=some (!decide ((aq n row1).1=(aq n row2).1/\r1+(aq n row1).2=r2+(aq n row2).2)):=by
  have:=vJ (a:=(aq n row1).1) (b:=(aq n row2).1) (r:=r1+(aq n row1).2) (s:=r2+(aq n row2).2) (by rw[fY hn q1,fY hn q2]);have this:eqD 8 (.tup [.tup (L (aq n row1).1),.int ((r1+(aq n row1).2:Nat):Int)]) (.tup [.tup (L (aq n row2).1),.int ((r2+(aq n row2).2:Nat):Int)])=_:=this;show(eqD 8 (.tup [.tup (L (aq n row1).1),.int ((r1+(aq n row1).2:Nat):Int)]) (.tup [.tup (L (aq n row2).1),.int ((r2+(aq n row2).2:Nat):Int)])).map not=_;rw[this];rfl
 have t:=bb (aH (cZ (f:=23) (cl:=a7 T 28) (Y:=[some (.int (n:Nat)),some (prF r1 row1),some (prF r2 row2),none,none,none,none]) (e:=.var 0) (e':=.var 1) (aa rfl) (aa rfl) (uH h1 hn q1)) (cZ (f:=23) (e:=.var 0) (e':=.var 2) (aa rfl) (aa rfl) (uH h1 hn q2)) cm);by_cases c:(aq n row1).1=(aq n row2).1/\r1+(aq n row1).2=r2+(aq n row2).2
 ·rw[if_pos c];rw[decide_eq_true c]at t;obtain⟨g1,new1,k1,S1,V1,w1,gl1,z1,n1,c1⟩:=kM h1 hn q1 l1;obtain⟨g2,new2,k2,S2,V2,w2,gl2,z2,n2,c2⟩:=kM h1 hn q2 l2
  have e:g1=g2:=by
   have a:=nF 21 h1 hn V1 S1 (by omega);rw[c.1,nF 21 h1 hn V2 S2 (by omega)]at a;exact(lQ (by injection a with a;injection a)).symm
  subst e;have a1:=(w1.keep q1).2.2;have a2:=(w2.keep q2).2.2
  have ek:r1+k1=r2+k2:=by omega
  have ch:=(w1.fw r1).app (ek▸w2.bw r2);refine#[_,ch,by simp;omega,?_];have m1:=tU (F:=fun ZA=>(ev (a7 T 28) ZA 5#0).map some) (tg:=[5,6]) (Y:=[some (.int (n:Nat)),some (prF r1 row1),some (prF r2 row2),some (.lst (new1.map stD)),some (.lst (new2.map stD)),none,none]) (h:=stD) (g:=fun s=>s.1) new1 (fun s hs=>#[(w1.imm s hs).1,rfl]);have m2:=tU (F:=fun ZA=>(ev (a7 T 28) ZA 6#0).map some) (tg:=[5,6]) (Y:=[some (.int (n:Nat)),some (prF r1 row1),some (prF r2 row2),some (.lst (new1.map stD)),some (.lst (new2.map stD)),none,none]) (h:=stD) (g:=fun s=>s.2) new2.reverse (fun s hs=>#[(w2.imm s (List.mem_reverse.mp hs)).2,rfl]);rw[List.map_reverse]at m2;have ia:aB (.lst (new1.map stD))=true:=sM w1.imm;have ib:aB (.lst (new2.map stD))=true:=sM w2.imm;have ic:aB (.lst (new1.map (·.1)++new2.reverse.map (·.2)))=true:=md ch.imm
  have ad:aF .add (.lst (new1.map (·.1))) (.lst (new2.reverse.map (·.2)))=some (.lst (new1.map (·.1)++new2.reverse.map (·.2))):=by
   rw[pd,if_pos (by simp[most];omega)]
  exact(a5 (fn:=mO 24 23) rfl).trans (aU rfl rfl (bc t (aJ (cZ (aa rfl) (aI (aa rfl) aj rfl) c1) (by unfold aK;rw[ia];rfl) (aJ (cZ (aa rfl) (aI (aa rfl) aj rfl) c2) (by unfold aK;rw[ib];rfl) (aL (az (gg (dM (aa rfl) rfl) (by simp[most];omega) m1) (gg (dM (wq (aa rfl)) rfl) (by simp[most];omega) m2) ad) (by unfold bj;rw[ic];rfl))))))
 ·rw[if_neg c];rw[Q1 c]at t;exact(a5 (fn:=mO 24 23) rfl).trans (aU rfl rfl (cC t (aL aj rfl)))
def Bm{o1 o2 o3:Option D}{ts:List D}(h:Chn n r row ts r' row'):∀ o5:Option D,∃ o5',aP (ao (a7 T 28) [] (kT 42 41)) [5] ts [some (.int (n:Nat)),o1,o2,o3,some (prF r row),o5]=some (.nx,[some (.int (n:Nat)),o1,o2,o3,some (prF r' row'),o5']):=by
 induction h with
 | nil=>exact fun o5=>#[o5,jI]
 |@cons r0 r1 r2 rw0 rw1 rw2 w a bs ts hz S _ ih=>
  intro o5;obtain⟨o5',q⟩:=ih (some (trD w a bs));have af:a7 T 28 41 [.int (n:Nat),prF r0 rw0,trD w a bs]=some (prF r1 rw1):=(a5 (fn:=dH) rfl).trans (Al S hz);refine#[o5',eE (vI w a bs) rfl ?_ q];exact bc (bb (wK (de (k:=true) (cb (aa rfl) rfl)) (de (k:=true) (cb (aI (aa rfl) aj rfl) rfl)))) (aJ (k7 (aa rfl) (aa rfl) (aa rfl) af) (by unfold aK;rw[lX];rfl) (bc (bb (lC (n:=false) (k:=false) rfl (aa rfl))) aN))
def Cw{cl:Cl}{fs:Nat}{xs:List D}(hl:xs.length<=5000)(h:∀ x∈xs,cl fs [x,x]=some (.bl true)):evF cl (cQ fs) [.fL xs,.fL xs]=some (.bl true):=by
 have al:biV .all (.lst (xs.map fun _=>.bl true))=some (.bl true):=by
  simp only[EH,rJ];simp
 have mc:=jC (F:=fun ZA=>(ev cl ZA (.call fs (.cons 2#0 (.cons 3#0 .nil)))).map some) (tg:=[2,3]) (Y:=[some (.fL xs),some (.fL xs),none,none]) (h:=fun x=>.tup [x,x]) (g:=fun _=>.bl true) (fun _=>rfl) xs (by
  intro x hx;show(ev cl [some (.fL xs),some (.fL xs),some x,some x] (.call fs %[2#0,3#0|.nil])).map some=_;rw[cZ (aa rfl) (aa rfl) (h x hx)]
  rfl)
 have lq:ba .eq (.int (xs.length:Int)) (.int (xs.length:Int))=some true:=by simp[fF]
 have lz:(eO xs xs).length<=most:=by rw[i8,List.length_map];unfold most;lia
 rw[<-i8]at mc;exact aU rfl rfl (mr rfl rfl rfl rfl rfl (bc (bb (et (de (k:=true) (cb (aa rfl) rfl)))) (aL (bO (aH (bJ (aa rfl) rfl) (bJ (aa rfl) rfl) lq) (bJ (gg (B5 (aa rfl) (aa rfl) rfl rfl rfl) lz mc) al)) rfl)))
def yr(m:Nat)(a:Int):a7 T (m+1) 42 [.int a,.int a]=some (.bl true):=(a5 (fn:=cQ 42) rfl).trans (same_int a)
def Il(hz:row.length<=5000):a7 T 28 42 [prF r row,prF r row]=some (.bl true):=by
 refine(a5 (fn:=cQ 42) rfl).trans (An (.inl rfl) (show 2<=1000 by omega) fun x hx=>?_);simp only[List.mem_cons,List.not_mem_nil,or_false]at hx;rcases hx with rfl | rfl
 ·exact yr 26 _
 ·refine(a5 (fn:=cQ 42) rfl).trans (Cw (by rw[aS];exact hz) fun x hx=>?_);obtain⟨a,_,rfl⟩:=List.mem_map.mp hx;exact yr 25 _
def rD{ts:List D}(h:Chn n r row ts r' row')(hz:row'.length<=5000):a7 T 29 43 [.int (n:Nat),prF r row,prF r' row',.lst ts]=some (.bl true):=by
 obtain⟨o5,q⟩:=Bm (o1:=some (prF r row)) (o2:=some (prF r' row')) (o3:=some (.lst ts)) h none;exact(a5 (fn:=m9 42 41) rfl).trans (aU rfl rfl (bc (bb (de (k:=true) (cb (aa rfl) rfl))) (aJ (aa rfl) (by unfold aK;rw[lX];rfl) (bY (dM (aa rfl) rfl) q (aL (cZ (aa rfl) (aa rfl) (Il hz)) rfl)))))
abbrev Tl:Ss:=%[.asg 5 (.cmp .eq (.tup %[.ix 12#0 0#1,.bin .add (.ix 12#0 1#1) (.ix 3#0 0#1)|.nil]) (.tup %[.ix 13#0 0#1,.bin .add (.ix 13#0 1#1) (.ix 4#0 0#1)|.nil])),.asg 6 (.call 22 %[2#0,3#0,4#0|.nil]),.ife (.cmp .ne (.isN true 6#0) 5#0) %[.ret (.cst (.bl false))|.nil] .nil,.ife (.and 5#0 (.not (.call 43 %[2#0,3#0,4#0,6#0|.nil]))) %[.ret (.cst (.bl false))|.nil] .nil,.asg 7 (.frz (.call 18 %[.ix 12#0 0#1|.nil])),.asg 6 (.call 22 %[2#0,3#0,.tup %[.bin .add 10#0 (.ix 12#0 1#1),7#0|.nil]|.nil]),.ife (.not (.call 43 %[2#0,3#0,.tup %[.bin .add 10#0 (.ix 12#0 1#1),7#0|.nil],6#0|.nil])) %[.ret (.cst (.bl false))|.nil] .nil|.nil]
def vq{r1 r2:Nat}{row1 row2:List Nat}{o0 o1 o5 o6 o7 o8 o9 o11:Option D}(h1:1<=n)(hn:n<=10)(q1:∀ i∈row1,i+1<n)(q2:∀ i∈row2,i+1<n)(l1:row1.length<=100)(l2:row2.length<=100) :
  ∃ o5' o6' o7',ao (a7 T 29) [] Tl [o0,o1,some (.int (n:Nat)),some (prF r1 row1),some (prF r2 row2),o5,o6,o7,o8,o9,some (.int (r1:Nat)),o11,some (prD (aq n row1)),some (prD (aq n row2))]=some (.nx,[o0,o1,some (.int (n:Nat)),some (prF r1 row1),some (prF r2 row2),o5',o6',o7',o8,o9,some (.int (r1:Nat)),o11,some (prD (aq n row1)),some (prD (aq n row2))]):=by
 have al:=vJ (a:=(aq n row1).1) (b:=(aq n row2).1) (r:=(aq n row1).2+r1) (s:=(aq n row2).2+r2) (by rw[fY hn q1,fY hn q2])
 replace al:ba .eq (.tup [.tup (L (aq n row1).1),.int ((aq n row1).2+r1:Nat)]) (.tup [.tup (L (aq n row2).1),.int ((aq n row2).2+r2:Nat)])=some (decide ((aq n row1).1=(aq n row2).1/\r1+(aq n row1).2=r2+(aq n row2).2)):=by
  rw[al];exact congrArg some (decide_eq_decide.mpr (by rw[Nat.add_comm r1,Nat.add_comm r2]))
 obtain⟨goal,new,k,S,V,w,gl,g0,_,_⟩:=kM h1 hn q1 l1;obtain⟨kg1,kg2,kg3⟩:=w.keep q1;have br:=qm (r1:=r1) (r2:=r2) h1 hn q1 q2 l1 l2;have br2:=qm (r1:=r1) (r2:=r1+(aq n row1).2) (row2:=goal) h1 hn q1 kg1 l1 gl;rw[if_pos ⟨kg2.symm,by rw[g0];rfl⟩]at br2;obtain⟨ts2,ch2,_,b2⟩:=br2;have gi:∀ (xs:List D),(∀ d∈xs,d.imm=true)->aB (.lst xs)=true:=fun xs h=>md h
 have last:∀ {o5 o6 o7:Option D},ao (a7 T 29) [] (.cons (.asg 7 (.frz (.call 18 (.cons (.ix 12#0 0#1) .nil)))) (.cons (.asg 6 (.call 22 (.cons 2#0 (.cons 3#0 (.cons (.tup (.cons (.bin .add 10#0 (.ix 12#0 1#1)) (.cons 7#0 .nil))) .nil))))) (.cons (.ife (.not (.call 43 (.cons 2#0 (.cons 3#0 (.cons (.tup (.cons (.bin .add 10#0 (.ix 12#0 1#1)) (.cons 7#0 .nil))) (.cons 6#0 .nil)))))) (.cons (.ret (.cst (.bl false))) .nil) .nil) .nil))) [o0,o1,some (.int (n:Nat)),some (prF r1 row1),some (prF r2 row2),o5,o6,o7,o8,o9,some (.int (r1:Nat)),o11,some (prD (aq n row1)),some (prD (aq n row2))]=some (.nx,[o0,o1,some (.int (n:Nat)),some (prF r1 row1),some (prF r2 row2),o5,some (.lst ts2),some (.fL (L goal)),o8,o9,some (.int (r1:Nat)),o11,some (prD (aq n row1)),some (prD (aq n row2))]):=fun {o5 o6 o7} =>
  aJ (iY (gI (aI (aa rfl) aj rfl) (nF 23 h1 hn V S (by omega))) rfl (aY _)) (by unfold aK;rw[show(D.fL (L goal)).imm=true from aY _];rfl)
   (aJ (k7 (aa rfl) (aa rfl) (b8 (ah (az (aa rfl) (aI (aa rfl) aj rfl) rfl) (ah (aa rfl) aA))) b2) (by unfold aK;rw[gi _ ch2.imm];rfl)
    (bc (bb (de (k:=true) (x_call (ah (aa rfl) (ah (aa rfl) (ah (b8 (ah (az (aa rfl) (aI (aa rfl) aj rfl) rfl) (ah (aa rfl) aA))) (ah (aa rfl) aA)))) (rD ch2 (by omega))))) aN))
 by_cases c:(aq n row1).1=(aq n row2).1/\r1+(aq n row1).2=r2+(aq n row2).2
 ·rw[if_pos c]at br;rw[decide_eq_true c]at al;obtain⟨ts,ch,_,b1⟩:=br
  exact⟨_,_,_,aJ (aH (b8 (ah (aI (aa rfl) aj rfl) (ah (az (aI (aa rfl) aj rfl) (aI (aa rfl) aj rfl) rfl) aA))) (b8 (ah (aI (aa rfl) aj rfl) (ah (az (aI (aa rfl) aj rfl) (aI (aa rfl) aj rfl) rfl) aA))) al) rfl
   (aJ (k7 (aa rfl) (aa rfl) (aa rfl) b1) (by unfold aK;rw[gi _ ch.imm];rfl)
    (bc (bb (aH (lC (n:=true) (k:=true) (x:=.lst ts) rfl (aa rfl)) (aa rfl) (by rfl)))
     (bc (bb (bO (aa rfl) (de (k:=true) (x_call (ah (aa rfl) (ah (aa rfl) (ah (aa rfl) (ah (aa rfl) aA)))) (rD ch (by omega)))))) last)))⟩
 ·rw[if_neg c]at br;rw[Q1 c]at al
  exact⟨_,_,_,aJ (aH (b8 (ah (aI (aa rfl) aj rfl) (ah (az (aI (aa rfl) aj rfl) (aI (aa rfl) aj rfl) rfl) aA))) (b8 (ah (aI (aa rfl) aj rfl) (ah (az (aI (aa rfl) aj rfl) (aI (aa rfl) aj rfl) rfl) aA))) al) rfl
   (aJ (k7 (aa rfl) (aa rfl) (aa rfl) br) rfl
    (bc (bb (aH (lC (n:=true) (k:=false) (x:=.non) rfl (aa rfl)) (aa rfl) (by rfl)))
     (bc (bb (et (aa rfl))) last)))⟩
def m6(h1:1<=n)(h2:n<=10)(hl:row.length<=1000)(hr:∀ j∈row,j+1<n):a7 T 29 40 [.int (n:Nat),.fL (L row)]=some (prD (aq n row)):=by
 have e:=DN (T:=T) (rg:=36) (hu:=37) (pl:=35) (st:=38) rfl rfl rfl rfl 25 h1 h2 hr
 have m:=jC (F:=fun ZA=>(ev (a7 T 28) ZA (.call 39 (.cons 0#0 (.cons 2#0 .nil)))).map some) (tg:=[2]) (Y:=[some (.int (n:Nat)),some (.fL (L row)),none]) (h:=fun i=>.int (i:Nat)) (g:=fun i=>.tup (L (aT n i))) (fun _=>lH _) row (by
  intro i hi;show(ev (a7 T 28) [some (.int (n:Nat)),some (.fL (L row)),some (.int (i:Nat))] (.call 39 %[0#0,2#0|.nil])).map some=_;have lh:a7 T 28 39 [.int (n:Nat),.int (i:Nat)]=some (.tup (L (aT n i))):=(a5 (fn:=gO 35) rfl).trans (sX h2 (hr i hi) ((a5 (fn:=dC) rfl).trans (kI h2)));rw[cZ (aa rfl) (aa rfl) lh]
  rfl)
 have em:(row.map fun i=>D.tup (L (aT n i)))=fsD (row.map (aT n)):=by unfold fsD;rw[List.map_map];rfl
 rw[em]at m;exact(a5 (fn:=oN 38 39) rfl).trans (aU rfl rfl (aL (cZ (aa rfl) (gg (oF (aa rfl) rfl) (by rw[aS];unfold most;omega) m) e) (by unfold bj;rw[lb];rfl)))
def tF{ns:List Int}(hl:ns.length<=63){k size:Nat}(h1:1<=n)(hk:k<=900)(hs:size<=60):∃ hs:List Nat,(∀ h∈hs,h+1<n)/\hs.length<=72/\a7 T 29 34 [.lst (LI ns),.int (k:Nat),.int (n:Nat),.int (size:Nat)]=some (.lst (L hs)):=by
 have d:∀ k:Nat,k<=1000->∃ ds:List Nat,ju ds (List.replicate 12 97)/\a7 T 28 33 [.lst (LI ns),.int k,.lst (L (List.replicate 12 97))]=some (.lst (L ds)):=fun k hk=>dg.digits hl 25 hk (by simp) (by simp);by_cases c:2<=n
 ·obtain⟨hs',a,b,e⟩:=wB (cl:=a7 T 28) (f:=33) (scr:=.lst (LI ns)) c (by omega) hk d (size:=size);refine#[hs',a,?_,(a5 (fn:=dF 33) rfl).trans e]
  have:aM 12 0 size<=6:=by
   unfold aM;rw[if_pos ∅];split<;>omega
  omega
 ·exact⟨[],fun h hh=>(by cases hh),by decide,(a5 (fn:=dF 33) rfl).trans (wF (by omega) (by omega) hk d)⟩
def IP{ds:List Nat}{a b c d e:Nat}(h:ju ds [a,b,c,d,e]):∃ x y z u v,ds=[x,y,z,u,v]/\x<a/\y<b/\z<c/\u<d/\v<e:=by
 obtain⟨h1,h2⟩:=h
 match ds,h1 with
 | [x,y,z,u,v],_=>exact#[x,y,z,u,v,rfl,h2 0 x a rfl rfl,h2 1 y b rfl rfl,h2 2 z c rfl rfl,h2 3 u d rfl rfl,h2 4 v e rfl rfl]
def d6{α:Type}{os:List α}{n:Nat}(h:os.length=n+1):∃ a t,os=a::t/\t.length=n:=by
 cases os with
 | nil=>cases h
 | cons a t=>exact#[a,t,rfl,Nat.succ.inj h]
def FU{α:Type}{os:List α}(z:os.length=12):∃ a b c d e f g h i j k l,os=[a,b,c,d,e,f,g,h,i,j,k,l] :=
 let ⟨a,_,a1,z⟩:=d6 z
 let ⟨b,_,b1,z⟩:=d6 z
 let ⟨c,_,c1,z⟩:=d6 z
 let ⟨d,_,d1,z⟩:=d6 z
 let ⟨e,_,e1,z⟩:=d6 z
 let ⟨f,_,f1,z⟩:=d6 z
 let ⟨g,_,g1,z⟩:=d6 z
 let ⟨h,_,h1,z⟩:=d6 z
 let ⟨i,_,i1,z⟩:=d6 z
 let ⟨j,_,j1,z⟩:=d6 z
 let ⟨k,_,k1,z⟩:=d6 z
 let ⟨l,_,l1,z⟩:=d6 z
 ⟨a,b,c,d,e,f,g,h,i,j,k,l,by rw[a1,b1,c1,d1,e1,f1,g1,h1,i1,j1,k1,l1,List.eq_nil_of_length_eq_zero z]⟩
def main(ns:List Int)(hl:ns.length<=63):a7 T 30 44 [.scr (ns.map D.int)]=some (.bl true):=by
 refine(a5 (fn:=B7 43 22 18 40 34 33) rfl).trans (zX (m:=12) (N:=8) hl ∅ fun k os hk ho=>?_);obtain⟨o2,o3,o4,o5,o6,o7,o8,o9,o10,o11,o12,o13,rfl⟩:=FU ho
 obtain⟨ds,hd,e1⟩:=dg.digits hl 26 (k:=40+k) (sizes:=[4,8,8,4,4]) (by omega) (by
  intro s hs;simp only[List.mem_cons,List.not_mem_nil,or_false]at hs
  rcases hs with rfl | rfl | rfl | rfl | rfl<;>decide) ∅
 obtain⟨p,one,two,r1,mo,rfl,hp,hone,htwo,hr1,hmo⟩:=IP hd
 have n1:1<=2+p:=by omega
 have n2:2+p<=10:=by omega
 have e0:aF .add (.int 2) (.int (p:Nat))=some (.int ((2+p:Nat):Int)):=rfl;generalize 2+p=n at *
 have e6:aF .mul (.int 2) (.int (k:Nat))=some (.int ((2*k:Nat):Int)):=by
  dsimp only[aF];rw[if_pos (by omega)];rfl
 have e7:aF .add (.int ((2*k:Nat):Int)) (.int 1)=some (.int ((2*k+1:Nat):Int)):=rfl;obtain⟨row1,q1,l1,c1⟩:=tF hl (k:=2*k) (n:=n) (size:=one) n1 (by omega) (by omega);obtain⟨row2,q2,l2,c2⟩:=tF hl (k:=2*k+1) (n:=n) (size:=two) n1 (by omega) (by omega)
 have im1:∀ (r:Nat) (row:List Nat) (e:E),aK [] e (.tup [.int (r:Nat),.fL (L row)])=true:=fun r row e=>by
  unfold aK;rw[show(D.tup [.int (r:Nat),.fL (L row)]).imm=true from lX r row];rfl
 have im2:((prD (aq n row1)).imm&&(prD (aq n row2)).imm)=true:=by rw[lb,lb];rfl
 have cf:ba .eq (.tup (L (aq n row1).1)) (.tup (L (aq n row2).1))=some (decide ((aq n row1).1=(aq n row2).1)):=Jk (by rw[fY n2 q1,fY n2 q2])
 have cond:∃ c:Bool,(ev (a7 T 29) [some (.lst (LI ns)),some (.int (k:Nat)),some (.int (n:Nat)),some (prF r1 row1),some (prF mo row2),o5,o6,o7,some (.int (one:Nat)),some (.int (two:Nat)),some (.int (r1:Nat)),some (.int (mo:Nat)),some (prD (aq n row1)),some (prD (aq n row2))] (.and (.cmp .eq (.ix 12#0 0#1) (.ix 13#0 0#1)) (.and (.cmp .ge (.bin .add 10#0 (.ix 12#0 1#1)) (.ix 13#0 1#1)) (.cmp .eq (.bin .mod 11#0 2#1) 0#1)))).bind truth=some c/\(c=true->(aq n row2).2<=r1+(aq n row1).2):=by
  by_cases d1:(aq n row1).1=(aq n row2).1
  ·rw[decide_eq_true d1]at cf;by_cases d2:(aq n row2).2<=r1+(aq n row1).2
   ·refine#[_,bb (bO (aH (aI (aa rfl) aj rfl) (aI (aa rfl) aj rfl) cf) (bO (aH (az (aa rfl) (aI (aa rfl) aj rfl) rfl) (aI (aa rfl) aj rfl) (k:=true) (by show some (decide _)=_;rw[decide_eq_true (by omega)])) (aH (az (aa rfl) aj (show aF .mod (.int (mo:Nat)) (.int 2)=some (.int ((mo:Int)%2))from rfl)) aj rfl))),fun _=>d2]
   ·exact#[false,bb (bO (aH (aI (aa rfl) aj rfl) (aI (aa rfl) aj rfl) cf) (et (aH (az (aa rfl) (aI (aa rfl) aj rfl) rfl) (aI (aa rfl) aj rfl) (by show some (decide _)=_;rw[Q1 (by omega)])))),fun z=>(nomatch z)]
  ·rw[Q1 d1]at cf;exact#[false,bb (et (aH (aI (aa rfl) aj rfl) (aI (aa rfl) aj rfl) cf)),fun z=>(nomatch z)]
 obtain⟨c,hc,hc'⟩:=cond
 have pre:∀ {res},ao (a7 T 29) [] (.cons (.ife (.and (.cmp .eq (.ix 12#0 0#1) (.ix 13#0 0#1)) (.and (.cmp .ge (.bin .add 10#0 (.ix 12#0 1#1)) (.ix 13#0 1#1)) (.cmp .eq (.bin .mod 11#0 2#1) 0#1))) (.cons (.asg 4 (.tup (.cons (.bin .sub (.bin .add 10#0 (.ix 12#0 1#1)) (.ix 13#0 1#1)) (.cons (.ix 4#0 1#1) .nil)))) .nil) .nil) Tl) [some (.lst (LI ns)),some (.int (k:Nat)),some (.int (n:Nat)),some (prF r1 row1),some (prF mo row2),o5,o6,o7,some (.int (one:Nat)),some (.int (two:Nat)),some (.int (r1:Nat)),some (.int (mo:Nat)),some (prD (aq n row1)),some (prD (aq n row2))]=res->ao (a7 T 29) [] (yy 43 22 18 40 34 33) (some (.lst (LI ns))::some (.int (k:Nat))::[o2,o3,o4,o5,o6,o7,o8,o9,o10,o11,o12,o13])=res:=fun {res} z =>
  jK (k7 (aa rfl) (az aj (aa rfl) rfl) (dR (ah aj (ah aj (ah aj (ah aj (ah aj aA)))))) e1) rfl rfl rfl
   (aJ (az aj (aa rfl) e0) rfl
    (aJ (b8 (ah (aa rfl) (ah (iY (x_call (ah (aa rfl) (ah (az aj (aa rfl) e6) (ah (aa rfl) (ah (aa rfl) aA)))) c1) rfl (aY _)) aA))) (im1 _ _ _)
     (aJ (b8 (ah (aa rfl) (ah (iY (x_call (ah (aa rfl) (ah (az (az aj (aa rfl) e6) aj e7) (ah (aa rfl) (ah (aa rfl) aA)))) c2) rfl (aY _)) aA))) (im1 _ _ _)
      (kU (cZ (aa rfl) (aI (aa rfl) aj rfl) (m6 n1 n2 (by omega) q1)) (cZ (aa rfl) (aI (aa rfl) aj rfl) (m6 n1 n2 (by omega) q2)) im2 z))))
 cases c with
 |false=>
  obtain⟨o5',o6',o7',q⟩:=vq (r1:=r1) (r2:=mo) (o0:=some (.lst (LI ns))) (o1:=some (.int (k:Nat))) (o5:=o5) (o6:=o6) (o7:=o7) (o8:=some (.int (one:Nat))) (o9:=some (.int (two:Nat))) (o11:=some (.int (mo:Nat))) n1 n2 q1 q2 (by omega) (by omega);exact#[_,rfl,pre (bc hc q)]
 |true=>
  obtain⟨o5',o6',o7',q⟩:=vq (r1:=r1) (r2:=r1+(aq n row1).2-(aq n row2).2) (o0:=some (.lst (LI ns))) (o1:=some (.int (k:Nat))) (o5:=o5) (o6:=o6) (o7:=o7) (o8:=some (.int (one:Nat))) (o9:=some (.int (two:Nat))) (o11:=some (.int (mo:Nat))) n1 n2 q1 q2 (by omega) (by omega)
  have hs:aF .sub (.int ((r1+(aq n row1).2:Nat):Int)) (.int ((aq n row2).2:Nat))=some (.int ((r1+(aq n row1).2-(aq n row2).2:Nat):Int)):=by
   have:=hc' rfl;show some (D.int _)=_;congr 2;omega
  exact#[_,rfl,pre (j8 hc (aJ (b8 (ah (az (az (aa rfl) (aI (aa rfl) aj rfl) rfl) (aI (aa rfl) aj rfl) hs) (ah (aI (aa rfl) aj rfl) aA))) (im1 _ _ _) aN) q)]
end
end K34
namespace L2
open PySem PySem.Spec PyProof.Rows
@[reducible]noncomputable def Key:=Sum Int Str
abbrev mw:Key->Value->Bool
 | .inl k,v=>Value.isInt k v
 | .inr x,v=>Value.isStrOf x v
abbrev Jz(w:World):Key->Int
 | .inl k=>hashInt k
 | .inr x=>hashStr w x
def bW:∀ {k:Key} {v:Value},mw k v=true->(∃ i t,k=Sum.inl i/\v=Value.int i t)\/(∃ x t,k=Sum.inr x/\v=Value.str x t)
 | .inl i,v,h=>by
  obtain⟨t,e⟩:=Value.isInt_shape (k:=i) (v:=v) h;exact .inl #[i,t,rfl,e]
 | .inr x,v,h=>by
  obtain⟨t,e⟩:=Value.isStrOf_shape (x:=x) (v:=v) h;exact .inr #[x,t,rfl,e]
def y8(i:Int)(t:Tok):mw (.inl i) (.int i t)=true:=by simp[mw,Value.isInt]
def zA(x:Str)(t:Tok):mw (.inr x) (.str x t)=true:=by simp[mw,Value.isStrOf]
def FL(a b:Int):decide ((Sum.inl a:Key)=Sum.inl b)=(a == b):=by
 by_cases e:a=b
 ·subst e;simp
 ·have h:¬ (Sum.inl a:Key)=Sum.inl b:=fun q=>e (Sum.inl.inj q);rw[Q1 h];exact(beq_eq_false_iff_ne.mpr e).symm
def Hh(a b:Str):decide ((Sum.inr a:Key)=Sum.inr b)=decide (a=b):=by
 by_cases e:a=b
 ·subst e;simp
 ·have h:¬ (Sum.inr a:Key)=Sum.inr b:=fun q=>e (Sum.inr.inj q);rw[Q1 h,Q1 e]
def G6(a:Int)(b:Str):decide ((Sum.inl a:Key)=Sum.inr b)=false:=Q1 (fun q=>nomatch q)
def Hm(a:Str)(b:Int):decide ((Sum.inr a:Key)=Sum.inl b)=false:=Q1 (fun q=>nomatch q)
abbrev bQ(prog:Program)(w:World):PySem.KeyKind prog w Key where
 is:=mw
 hash:=Jz w
 inj:=fun v a b ha hb=>by
  rcases bW ha with⟨i,t,rfl,rfl⟩ | ⟨x,t,rfl,rfl⟩
  ·rcases bW hb with⟨j,u,rfl,e⟩ | ⟨y,u,rfl,e⟩
   ·injection e with e1 _;rw[e1]
   ·exact nomatch e
  ·rcases bW hb with⟨j,u,rfl,e⟩ | ⟨y,u,rfl,e⟩
   ·exact nomatch e
   ·injection e with e1 _;rw[e1]
 byValue:=fun k v h=>by
  rcases bW h with⟨i,t,rfl,rfl⟩ | ⟨x,t,rfl,rfl⟩<;>rfl
 pyHash:=fun hv h=>by
  rcases bW hv with⟨i,t,rfl,rfl⟩ | ⟨x,t,rfl,rfl⟩
  ·exact wpAny_pyHash_int h
  ·exact wpAny_pyHash_str h
 eqBool:=fun hu hv h=>by
  rcases bW hu with⟨i,t,rfl,rfl⟩ | ⟨x,t,rfl,rfl⟩
  ·rcases bW hv with⟨j,u,rfl,rfl⟩ | ⟨y,u,rfl,rfl⟩
   ·rw[FL]at h;exact wpAny_eqBool_int h
   ·rw[G6]at h;exact SeqAt.EqAt.int_str i t y u _ _ _ _ h
  ·rcases bW hv with⟨j,u,rfl,rfl⟩ | ⟨y,u,rfl,rfl⟩
   ·rw[Hm]at h;exact SeqAt.EqAt.str_int x t j u _ _ _ _ h
   ·rw[Hh]at h;exact wpAny_eqBool_str h
 «strs»:=fun k x t v h=>by
  rcases bW h with⟨i,u,rfl,e⟩ | ⟨y,u,rfl,e⟩
  ·exact nomatch e
  ·injection e with e1 _;subst e1;cases v<;>rfl
def uy(prog:Program)(w:World)(i:Int)(t:Tok):(bQ prog w).is (.inl i) (.int i t)=true:=y8 i t
def uw(prog:Program)(w:World)(x:Str)(t:Tok):(bQ prog w).is (.inr x) (.str x t)=true:=zA x t
set_option genInjectivity true in
inductive V where
 | non | bl (b:Bool) | int (i:Int) | str (x:Str) | byt (b:Array UInt8) | flt (b:UInt64) | ref (a:Addr) | ty (n:String)
 deriving DecidableEq
abbrev RelV:V->Value->Prop
 | .non,u=>u=Value.none
 | .bl b,u=>u=Value.bool b
 | .int i,u=>∃ t,u=Value.int i t
 | .str x,u=>∃ t,u=Value.str x t
 | .byt b,u=>∃ t,u=Value.bytes b t
 | .flt b,u=>∃ t,u=Value.float b t
 | .ref a,u=>u=Value.ref a
 | .ty n,u=>u=Value.type n
@[reducible]noncomputable def Vals:List V->List Value->Prop:=Paired RelV
def Vals.length(r:Vals xs us):xs.length=us.length:=Paired.length r
def Vals.get:∀ {xs:List V} {us:List Value} {i:Nat} {x:V},Vals xs us->xs[i]?=some x->∃ u,us[i]?=some u/\RelV x u
 | _,_,_,_,.nil,e=>by simp at e
 | _,_,0,_,.cons r _,e=>by simp at e;subst e;exact#[_,rfl,r]
 | _,_,i+1,x,.cons _ t,e=>by
  obtain⟨u,h1,h2⟩:=Vals.get (i:=i) (x:=x) t (by simpa using e);exact#[u,by simpa using h1,h2]
def Vals.set(r:RelV x u):∀ {xs:List V} {us:List Value} (i:Nat),Vals xs us->Vals (xs.set i x) (us.set i u)
 | _,_,_,.nil=>.nil
 | _,_,0,.cons _ t=>.cons r t
 | _,_,i+1,.cons q t=>.cons q (Vals.set r i t)
def Vals.append:∀ {xs ys:List V} {us ws:List Value},Vals xs us->Vals ys ws->Vals (xs++ys) (us++ws)
 | _,_,_,_,.nil,s=>s
 | _,_,_,_,.cons r t,s=>.cons r (Vals.append t s)
def Vals.take:∀ {xs:List V} {us:List Value} (n:Nat),Vals xs us->Vals (xs.take n) (us.take n)
 | _,_,0,_=>.nil
 | _,_,_+1,.nil=>.nil
 | _,_,n+1,.cons r t=>.cons r (Vals.take n t)
def Vals.drop:∀ {xs:List V} {us:List Value} (n:Nat),Vals xs us->Vals (xs.drop n) (us.drop n)
 | _,_,0,r=>r
 | _,_,_+1,.nil=>.nil
 | _,_,n+1,.cons _ t=>Vals.drop n t
abbrev iG:Option V->Option Value->Prop
 | some v,some u=>RelV v u
 | none,none=>True
 | _,_=>False
abbrev KV:List (κ × V)->List (κ × Value)->Prop:=Paired fun(p:κ × V) (q:κ × Value)=>p.1=q.1/\RelV p.2 q.2
abbrev kV:Key->V
 | .inl i=>.int i
 | .inr x=>.str x
inductive HO where
  | lst (xs:List V)
  | tup (xs:List V)
  | dK (kvs:List (Key × V)) | dT (kvs:List (List Key × V))
  | set (S:Int->Bool) (n:Nat)
  | ins (C dx:Addr) (fs:List (Str × V))
  | own (x:Addr)
  | xd (fs:List (Str × V))
  | met (f x:Addr)
  | rng (lo hi:Int)
  | frz (o:Obj) (u:HO)
  | tbl (ps:Array Value)
  | ext (φ:Heap->Prop)
@[reducible]noncomputable def Hp:=Addr->Option HO
abbrev upd(H:Hp)(a:Addr)(o:HO):Hp:=fun b=>if b=a then some o else H b
def bp:upd H a o a=some o:=by unfold upd;rw[if_pos rfl]
def aV(h:b≠a):upd H a o b=H b:=by unfold upd;rw[if_neg h]
def lJ{H:Hp}(h:H a=some o)(h':H b=some u)(d:o≠u):a≠b:=by
 intro e;subst e;rw[h]at h';exact d (Option.some.inj h')
def aO{H:Hp}(h:H a=some o)(h':H b=none):a≠b:=by
 intro e;subst e;rw[h]at h';cases h'
section
variable(P:Program)(w:World)
abbrev bD(H:Hp)(h:Heap)(a:Addr):HO->Prop
 | .lst xs=>xs.length<=sizeLine/\∃ (its:List Value) (n:Nat),Vals xs its/\h.get? a=some { cls:=.type "list",data:=.seq its.toArray n }
 | .tup xs=>xs.length<=sizeLine/\∃ its:List Value,Vals xs its/\IsTup h a its.toArray
 | .dK kvs=>kvs.length<=sizeLine/\(a == sysModules)=false/\∃ vs,KV kvs vs/\h.DictOf (bQ P w) a vs
 | .dT kvs=>kvs.length<=sizeLine/\(a == sysModules)=false/\∃ xs:List (List Key × Addr × Value),
   Paired (fun(p:List Key × V) (q:List Key × Addr × Value)=>p.1=q.1/\H q.2.1=some (.tup (p.1.map kV))/\RelV p.2 q.2.2) kvs xs /\
   ∃ o es ep,h.get? a=some o/\o.ExactDict/\o.data=.dict es ep/\es.toList=xs.map (entryOfKey (tupleKind (bQ P w)))/\(xs.map (·.1)).Nodup
 | .set S n=>h.SetOf (intKind P w) a S n
 | .ins C dx fs=>H dx=some (.own a)/\fs.length<=1000/\dx≠a/\h.get? a=some (W.instObj C dx) /\
   ∃ mA,h.Ns1 dx mA/\(∀ f,iG (fs.lookup f) (mA f))/\PySem.Within mA (fs.map (·.1))
 | .own _=>∃ o,h.get? a=some o
 | .xd fs=>∃ mA,h.Ns1 a mA/\∀ f,iG (fs.lookup f) (mA f)
 | .rng lo hi=>∃ t u v,h.get? a=some { cls:=.type "range",data:=.fields (List.toArray [.int lo t,.int hi u,.int 1 v]) }
 | .frz o u=>h.get? a=some o/\bD H h a u
 | .tbl ps=>h.get? a=some { cls:=.none,data:=.fields ps }
 | .met f x=>h.get? a=some (W.methodObj (.ref f) (.ref x))
 | .ext φ=>φ h/\(∃ o,h.get? a=some o)/\∀ h1 h2:Heap,φ h1->(∀ o,h1.get? a=some o->h2.get? a=some o)->φ h2
abbrev HOk(H:Hp)(h:Heap):Prop:=∀ a o,H a=some o->bD P w H h a o
end
section
variable{P:Program}{w:World}{H H':Hp}{h h':Heap}{a:Addr}{o:HO}
def bD.lt(x:bD P w H h a o):a<h.objs.size:=by
 cases o with
 | lst xs=>obtain⟨_,_,_,_,e⟩:=x;exact QY e
 | tup xs=>obtain⟨_,_,_,p⟩:=x;exact p.lt
 | dK kvs=>obtain⟨_,_,_,_,o,_,_,e,_⟩:=x;exact QY e
 | dT kvs=>obtain⟨_,_,_,_,o,_,_,e,_⟩:=x;exact QY e
 | set S n=>obtain⟨o,_,_,_,e,_⟩:=x;exact QY e
 | ins C dx fs=>obtain⟨_,_,_,e,_⟩:=x;exact QY e
 | own y=>obtain⟨_,e⟩:=x;exact QY e
 | xd fs=>obtain⟨_,⟨_,_,_,e,_⟩,_⟩:=x;exact QY e
 | rng lo hi=>obtain⟨_,_,_,e⟩:=x;exact QY e
 | frz ob u=>obtain⟨e,_⟩:=x;exact QY e
 | tbl ps=>exact QY (show h.get? a=some _ from x)
 | met f y=>exact QY (show h.get? a=some _ from x)
 | ext φ=>obtain⟨_,⟨_,e⟩,_⟩:=x;exact QY e
def Paired.zT:∀ {l₁:List α} {l₂:List β},Paired F l₁ l₂->(∀ a b,F a b->G a b)->Paired G l₁ l₂
 | _,_,.nil,_=>.nil
 | _,_,.cons r t,f=>.cons (f _ _ r) (Paired.zT t f)
def bD.oT(x:bD P w H h a o)(k:∀ b u,(b=a\/H b=some (.own a))->h.get? b=some u->h'.get? b=some u)
 (ho:∀ b,H b=some (.own a)->H' b=some (.own a))(ht:∀ b xs,H b=some (.tup xs)->H' b=some (.tup xs)):bD P w H' h' a o:=by
 induction o with
 | lst xs=>obtain⟨z,its,n,r,e⟩:=x;exact#[z,its,n,r,k _ _ (.inl rfl) e]
 | tup xs=>obtain⟨z,its,r,ob,e,c⟩:=x;exact#[z,its,r,ob,k _ _ (.inl rfl) e,c]
 | dK kvs=>obtain⟨z,y,vs,r,ob,es,ep,e,c⟩:=x;exact#[z,y,vs,r,ob,es,ep,k _ _ (.inl rfl) e,c]
 |dT kvs=>
  obtain⟨z,y,xs,r,ob,es,ep,e,c⟩:=x;exact#[z,y,xs,Paired.zT r fun p q z=>#[z.1,ht _ _ z.2.1,z.2.2],ob,es,ep,k _ _ (.inl rfl) e,c]
 | set S n=>obtain⟨ob,es,ep,t,e,c⟩:=x;exact#[ob,es,ep,t,k _ _ (.inl rfl) e,c]
 |ins C dx fs=>
  obtain⟨d,z,ne,e,mA,⟨od,es,ep,e2,c⟩,r⟩:=x;exact#[ho _ d,z,ne,k _ _ (.inl rfl) e,mA,#[od,es,ep,k _ _ (.inr d) e2,c],r]
 | own y=>obtain⟨ob,e⟩:=x;exact#[ob,k _ _ (.inl rfl) e]
 | xd fs=>obtain⟨mA,⟨od,es,ep,e,c⟩,r⟩:=x;exact#[mA,#[od,es,ep,k _ _ (.inl rfl) e,c],r]
 | rng lo hi=>obtain⟨t,u,v,e⟩:=x;exact#[t,u,v,k _ _ (.inl rfl) e]
 | frz ob u ih=>obtain⟨e,q⟩:=x;exact#[k _ _ (.inl rfl) e,ih q]
 |tbl ps=>
  have e:h.get? a=some { cls:=.none,data:=.fields ps }:=x;show h'.get? a=some { cls:=.none,data:=.fields ps };exact k a _ (.inl rfl) e
 |met f y=>
  have e:h.get? a=some (W.methodObj (.ref f) (.ref y)):=x;show h'.get? a=some (W.methodObj (.ref f) (.ref y));exact k a _ (.inl rfl) e
 | ext φ=>obtain⟨p,⟨o,e⟩,st⟩:=x;exact#[st _ _ p fun o q=>k _ _ (.inl rfl) q,#[o,k _ _ (.inl rfl) e],st]
def HOk.lt(x:HOk P w H h)(e:H a=some o):a<h.objs.size:=(x a o e).lt
def HOk.fresh(x:HOk P w H h)(e:h.objs.size<=a):H a=none:=by
 cases q:H a with
 | none=>rfl
 | some u=>exact absurd (Q0 (x.lt q) e) (Zw _)
def HOk.kept(x:HOk P w H h)(k:∀ b u,h.get? b=some u->h'.get? b=some u):HOk P w H h':=fun a o e =>
 (x a o e).oT (fun b u _ q=>k b u q) (fun _ q=>q) fun _ _ q=>q
def HOk.laid(x:HOk P w H h)(k:∀ b u,h.get? b=some u->h'.get? b=some u)(hp:h.objs.size<=a)(new:bD P w (upd H a o) h' a o):HOk P w (upd H a o) h':=fun b u e=>by
 have hn:=x.fresh hp;by_cases hb:b=a
 ·subst hb;rw[bp]at e;cases e;exact new
 ·rw[aV hb]at e
  exact(x b u e).oT (fun c v _ q=>k c v q) (fun c q=>by rw[aV (aO q hn)];exact q) fun c xs q=>by rw[aV (aO q hn)];exact q
end
abbrev Rd(H:Hp)(a:Addr)(u:HO):Prop:=H a=some u\/∃ o,H a=some (.frz o u)
def Rd.ok(r:Rd H a u)(x:HOk P w H h):bD P w H h a u:=by
 rcases r with r | ⟨o,r⟩
 ·exact x a u r
 ·obtain⟨_,q⟩:=x a _ r;exact q
abbrev Mut:Option HO->Prop
 | some (.lst _)=>True
 | some (.dK _)=>True
 | some (.dT _)=>True
 | some (.set _ _)=>True
 | some (.ins _ _ _)=>True
 | some (.ext _)=>True
 | _=>False
section
variable{P:Program}{w:World}{H:Hp}{h h':Heap}{x e:Addr}{o':HO}
def HOk.write(ok:HOk P w H h)(mu:Mut (H x))(he:e=x\/H e=some (.own x))(k:∀ b u,b≠e->h.get? b=some u->h'.get? b=some u)(heo:∃ u,h'.get? e=some u)
 (new:bD P w (upd H x o') h' x o'):HOk P w (upd H x o') h':=fun b u q=>by
 have nown:∀ c y,H c=some (.own y)->c≠x:=fun c y r z=>by subst z;rw[r]at mu;exact mu
 have ntup:∀ c xs,H c=some (.tup xs)->c≠x:=fun c xs r z=>by subst z;rw[r]at mu;exact mu
 by_cases hb:b=x
 ·subst hb;rw[bp]at q;cases q;exact new
 ·rw[aV hb]at q;by_cases hbe:b=e
  ·have q':H b=some (.own x):=by
    rcases he with z | z
    ·exact absurd (hbe.trans z) hb
    ·rw[hbe];exact z
   rw[q]at q';cases q';obtain⟨v,hv⟩:=heo;exact#[v,by rw[hbe];exact hv]
  ·refine(ok b u q).oT (fun c v hc r=>k c v ?_ r) (fun c r=>by rw[aV (nown c b r)];exact r) fun c xs r=>by rw[aV (ntup c xs r)];exact r
   rcases hc with rfl | hc
   ·exact hbe
   ·rintro rfl;rcases he with z | z
    ·exact nown c b hc z
    ·rw[hc]at z;cases z;exact hb rfl
end
structure Un(fs ex:List Addr)(H H':Hp)(h h':Heap):Prop where
 keep:∀ b o,h.get? b=some o->H b=none->b∉fs->b∉ex->h'.get? b=some o
 slot:∀ b o,h.get? b=some o->H b=none->b∈fs->b∉ex->∃ sl,h'.get? b=some { o with slots:=sl }
 free:∀ b o,h.get? b=some o->H b=none->b∉ex->H' b=none
 there:∀ b o,h.get? b=some o->b∉ex->∃ o',h'.get? b=some o'
 kQ:∀ b xs,H b=some (.tup xs)->H' b=some (.tup xs)
 ig:∀ b o u,H b=some (.frz o u)->H' b=some (.frz o u)
 l7:∀ b ps,H b=some (.tbl ps)->∃ more,H' b=some (.tbl (ps++more))
section
variable{fs fs' ex ex':List Addr}{H H1 H2:Hp}{h h1 h2 h':Heap}{a x e:Addr}{o:HO}
def Un.any(u:Un fs ex H H1 h h1)(q:h.get? b=some ob)(n:H b=none)(hx:b∉ex):∃ sl,h1.get? b=some { ob with slots:=sl }:=by
 by_cases hb:b∈fs
 ·exact u.slot b ob q n hb hx
 ·exact#[ob.slots,u.keep b ob q n hb hx]
def Un.kept(k:∀ b u,h.get? b=some u->h'.get? b=some u):Un fs ex H H h h' :=
 ⟨fun b ob q _ _ _=>k b ob q,fun b ob q _ _ _=>#[ob.slots,k b ob q],fun _ _ _ n _=>n,fun b ob q _=>#[ob,k b ob q],fun _ _ q=>q,fun _ _ _ q=>q,fun _ ps q=>#[(List.toArray []),by rw[q];simp]⟩
def Un.refl:Un fs ex H H h h:=Un.kept fun _ _ q=>q
def Un.laid(k:∀ b u,h.get? b=some u->h'.get? b=some u)(hp:h.objs.size<=a)(hn:H a=none):Un fs ex H (upd H a o) h h' where
 keep:=fun b u q _ _ _=>k b u q
 slot:=fun b u q _ _ _=>#[u.slots,k b u q]
 free:=fun b u q n _=>by rw[aV (Q5 (Q0 (QY q) hp))];exact n
 there:=fun b u q _=>#[u,k b u q]
 kQ:=fun b xs q=>by rw[aV (aO q hn)];exact q
 ig:=fun b u xs q=>by rw[aV (aO q hn)];exact q
 l7:=fun b ps q=>#[(List.toArray []),by rw[aV (aO q hn),q];simp]
def Un.write(mu:Mut (H x))(he:e=x\/H e=some (.own x))(k:∀ b u,b≠e->h.get? b=some u->h'.get? b=some u)(heo:∃ u,h'.get? e=some u):Un fs ex H (upd H x o) h h':=by
 have hx:∀ b,H b=none->b≠x:=fun b n z=>by subst z;rw[n]at mu;exact mu
 have hb:∀ b,H b=none->b≠e:=fun b n z=>by
  subst z;rcases he with r | r
  ·exact hx b n r
  ·rw[n]at r;cases r
 have hm:∀ b u,H b=some u->¬ Mut (some u)->b≠x:=fun b u q nm z=>by subst z;rw[q]at mu;exact nm mu
 refine⟨fun b u q n _ _=>k b u (hb b n) q,fun b u q n _ _=>#[u.slots,k b u (hb b n) q],fun b u q n _=>by rw[aV (hx b n)];exact n,fun b u q _=>?_,
  fun b xs q=>by rw[aV (hm b _ q fun z=>z)];exact q,fun b u xs q=>by rw[aV (hm b _ q fun z=>z)];exact q,fun b ps q=>#[(List.toArray []),by rw[aV (hm b _ q fun z=>z),q];simp]⟩
 by_cases hbe:b=e
 ·subst hbe;exact heo
 ·exact#[u,k b u hbe q]
end
abbrev trk(h:Heap)(H:Hp):List Addr:=(List.range h.objs.size).filter fun a=>(H a).isSome
abbrev kF(h:Heap)(H:Hp):Heap:=W.hideAll h (trk h H)
def yA(h:Heap)(H:Hp):(kF h H).objs.size=h.objs.size:=W.hideAll_size _ _
def zR(e:h.get? b=some o)(n:H b=none):(kF h H).get? b=some o :=
 W.hideAll_get _ e fun hm=>by
  have q:(H b).isSome=true:=(List.mem_filter.mp hm).2;rw[n]at q;simp at q
def CU(e:(kF h H).get? b=some o):h.get? b=some o/\H b=none:=by
 have e':h.get? b=some o:=W.of_hideAll (trk h H) e;refine#[e',?_]
 cases q:H b with
 | none=>rfl
 |some x=>
  have hm:b∈trk h H:=List.mem_filter.mpr ⟨List.mem_range.mpr (QY e'),by simp[q]⟩;have z:(kF h H).get? b=none:=W.hideAll_none (trk h H) hm;rw[z]at e;cases e
structure Mod(K:W.Frag)(mg:Str->Option Value)(base:Heap):Prop where
 kin:K.In base
 glob:base.Ns mainGlobals mg
 blt:∃ mb,base.Ns builtinsNs mb/\∀ x:Str,x ≠ "__name__" -> mb x=bootBuiltins x
 nolimit:base.NoLimit
structure Cx where
 prog:Program
 w:World
 K:W.Frag
 mg:Str->Option Value
 base:Heap
 A:Around
 N:List Str
 s₀:Shared
 H₀:Hp
 env:Env
 outer:List Env
 stack:List Env
 ex:List Addr
 fn:Str->Bool
 calm:Bool
 pn:List (Addr × Obj)
 xe:Value->Shared->Prop
abbrev frs(l:List Env):List Addr:=l.filterMap (·.frame)
@[reducible]noncomputable def Cx.fs(X:Cx):List Addr:=frs X.outer
abbrev Vis(sc:Scope)(x:Str):Prop:=sc.names.lookup x=some .local\/sc.names.lookup x=some .cell\/sc.names.lookup x=some .free
abbrev Loc(sc:Scope)(x:Str):Prop:=sc.names.lookup x=some .local\/sc.names.lookup x=some .cell
abbrev Look(env:Env)(h:Heap)(m:Str->Option Value)(x:Str)(u:Value):Prop :=
 (env.kindOf x=some .local/\m x=some u)\/((env.kindOf x=some .cell\/env.kindOf x=some .free)/\∃ c,env.cells.lookup x=some c/\h.IsCell c (some u))
abbrev HX(X:Cx):Prop:=X.A.handled=none\/∃ h o u vs,X.A.handled=some (.ref h)/\X.H₀ h=some (.frz o u)/\o.data=.fields vs/\vs[2]?=some .none
structure Cx.Ok(X:Cx):Prop where
 mod:Mod X.K X.mg X.base
 kind:X.env.scope.kind=.function
 glob:X.env.globals=mainGlobals
 blt:X.env.builtins=builtinsNs
 above:X.s₀.heap.objs.size<=X.env.locals
 inj:∀ x y c,X.env.cells.lookup x=some c->X.env.cells.lookup y=some c->x=y
 has:∀ x,(X.env.kindOf x=some .cell\/X.env.kindOf x=some .free)->∃ c,X.env.cells.lookup x=some c
 cab:∀ x c,X.fn x=true->X.env.cells.lookup x=some c->X.s₀.heap.objs.size<=c
 hd:(X.calm=true->X.A.handled=none)/\HX X
 frames:X.A.frames=some X.stack
 stk:X.stack=X.outer\/(X.stack=X.env::X.outer/\X.env.frame=some X.env.locals)
 exf:∀ b∈X.ex,b≠X.env.locals/\∀ x c,X.env.cells.lookup x=some c->c≠b
 bs:∀ b o,X.base.get? b=some o->X.s₀.heap.get? b=some o/\X.H₀ b=none
 bsz:X.base.objs.size<=X.s₀.heap.objs.size
 ue:∀ b o,X.base.get? b=some o->b∉X.ex
 tQ:∀ b∈X.ex,b∉X.fs
 iD:X.s₀.heap.FunFrames X.base X.outer
 frf:∀ b∈X.fs,X.H₀ b=none
structure Inv(X:Cx)(pins:List (Addr × Obj))(Y:List (Option V))(H:Hp)(s:Shared):Prop where
 ok:X.Ok
 os:s.os=X.s₀.os
 bare:AllBare s.gens
 base:Un X.fs X.ex X.H₀ H X.s₀.heap s.heap
 loc:∃ m,s.heap.Ns X.env.locals m/\∀ (i:Nat) (x:Str) (v:V),X.N[i]?=some x->Y[i]?=some (some v)->Vis X.env.scope x->∃ u,RelV v u/\Look X.env s.heap m x u
 cell:∀ x c,X.env.cells.lookup x=some c->∃ v,s.heap.IsCell c v
 free:H X.env.locals=none
 fq:∀ x c,X.env.cells.lookup x=some c->H c=none
 pin:∀ p∈X.pn++pins,s.heap.get? p.1=some p.2/\H p.1=none/\p.1≠X.env.locals/\p.1∉X.fs/\∀ v,p.2.data≠.cell v
 hok:HOk X.prog X.w H s.heap
 len:Y.length=X.N.length
section
variable{X:Cx}{pins:List (Addr × Obj)}{Y:List (Option V)}{H H':Hp}{s:Shared}{h':Heap}
def Cx.Ok.JG(ok:X.Ok)(e:X.base.get? b=some o):b∉X.fs:=fun hb=>by
 have:=(ok.iD.mem hb).1;rw[e]at this;cases this
def Inv.bs(I:Inv X pins Y H s):∀ b o,X.base.get? b=some o->s.heap.get? b=some o/\H b=none:=fun b o e =>
 ⟨I.base.keep b o (I.ok.bs b o e).1 (I.ok.bs b o e).2 (I.ok.JG e) (I.ok.ue b o e),I.base.free b o (I.ok.bs b o e).1 (I.ok.bs b o e).2 (I.ok.ue b o e)⟩
def Inv.bk(I:Inv X pins Y H s):∀ b o,X.base.get? b=some o->s.heap.get? b=some o:=fun b o e=>(I.bs b o e).1
def Inv.mod(I:Inv X pins Y H s):Mod X.K X.mg X.base:=I.ok.mod
def Inv.kIn(I:Inv X pins Y H s):X.K.In s.heap:=I.ok.mod.kin.keeps I.bk
def Inv.lt(I:Inv X pins Y H s):X.env.locals<s.heap.objs.size:=let ⟨_,hn,_⟩:=I.loc;hn.lt
def Inv.sz(I:Inv X pins Y H s):X.s₀.heap.objs.size<=s.heap.objs.size:=Za I.ok.above (Nat.le_of_lt I.lt)
def Inv.Jo(I:Inv X pins Y H s)(h:s.heap.objs.size<=a):a∉X.fs:=fun hb=>by
 obtain⟨_,o,ho,_⟩:=I.ok.iD.mem hb;exact absurd (Q0 (QY ho) (Za I.sz h)) (Zw _)
def Inv.cne(I:Inv X pins Y H s):∀ x c,X.env.cells.lookup x=some c->c≠X.env.locals:=fun x c e z=>by
 obtain⟨v,o,ho,hd⟩:=I.cell x c e;obtain⟨m,⟨o',es,ep,ho',hd',_⟩,_⟩:=I.loc;rw[z,ho']at ho;cases ho;rw[hd']at hd;cases hd
def Inv.iD(I:Inv X pins Y H s):s.heap.FunFrames X.base X.outer:=by
 have all:∀ (l:List Env),(∀ b∈frs l,b∈X.fs)->X.s₀.heap.FunFrames X.base l->s.heap.FunFrames X.base l:=by
  intro l
  induction l with
  | nil=>intro _ _;trivial
  |cons env r ih=>
   intro hs hl;obtain⟨hk,⟨L,o,hf,hn,ho,hd⟩,hr⟩:=hl;have hL:L∈X.fs:=hs L (by unfold frs;rw[List.filterMap_cons,hf];exact Zc);obtain⟨sl,e⟩:=I.base.slot L o ho (I.ok.frf L hL) hL fun z=>I.ok.tQ L z hL;exact#[hk,#[L,_,hf,hn,e,hd],ih (fun b hb=>hs b (by unfold frs;rw[List.filterMap_cons,hf];exact Q4 _ hb)) hr]
 exact all X.outer (fun _ hb=>hb) I.ok.iD
def Inv.stack(I:Inv X pins Y H s):s.heap.FunFrames X.base X.stack:=by
 rcases I.ok.stk with e | ⟨e,hf⟩
 ·rw[e];exact I.iD
 ·rw[e];obtain⟨m,hn,_⟩:=I.loc;refine .cons (by rw[I.ok.kind];decide) hf hn ?_ I.iD;exact Heap.get?_none_of_le (Za I.ok.bsz I.ok.above)
def Inv.so(I:Inv X pins Y H s):∀ b∈frs X.stack,b∈X.env.locals::X.fs:=fun b hb=>by
 rcases I.ok.stk with e | ⟨e,hf⟩
 ·rw[e]at hb;exact Q4 _ hb
 ·rw[e]at hb;unfold frs at hb;rw[List.filterMap_cons,hf]at hb;exact hb
def Inv.u7(I:Inv X pins Y H s):∀ b∈frs X.stack,H b=none:=fun b hb=>by
 rcases List.mem_cons.mp (I.so b hb)with e | hb
 ·rw[e];exact I.free
 ·obtain⟨_,o,ho,_⟩:=I.ok.iD.mem hb;exact I.base.free b o ho (I.ok.frf b hb) fun z=>I.ok.tQ b z hb
def Inv.step{g':Array GenState}{t':Nat}{d':Drawn}{ch:List Addr}(I:Inv X pins Y H s)
 (hch:∀ b∈ch,(b∈X.ex\/X.s₀.heap.objs.size<=b)/\b≠X.env.locals/\(∀ x c,X.env.cells.lookup x=some c->c≠b)/\∀ p∈X.pn++pins,p.1≠b)
 (keep:∀ b o,b≠X.env.locals->b∉X.fs->b∉ch->s.heap.get? b=some o->H b=none->h'.get? b=some o)
 (slot:∀ b o,b≠X.env.locals->b∈X.fs->b∉ch->s.heap.get? b=some o->H b=none->∃ sl,h'.get? b=some { o with slots:=sl })(free:∀ b o,b∉ch->s.heap.get? b=some o->H b=none->H' b=none)
 (there:∀ b o,b∉ch->s.heap.get? b=some o->∃ o',h'.get? b=some o')
 (kQ:∀ b xs,H b=some (.tup xs)->H' b=some (.tup xs))(ig:∀ b o u,H b=some (.frz o u)->H' b=some (.frz o u))(l7:∀ b ps,H b=some (.tbl ps)->∃ more,H' b=some (.tbl (ps++more)))
 (ns:∀ m,s.heap.Ns X.env.locals m->h'.Ns X.env.locals m)(hok:HOk X.prog X.w H' h')(hg:AllBare g') :
  Inv X pins Y H' { s with heap:=h',gens:=g',drawn:=d',toks:=t' }:=by
 have neL:∀ b o,X.s₀.heap.get? b=some o->b≠X.env.locals:=fun b o e=>Q5 (Q0 (QY e) I.ok.above)
 have neC:∀ b o,X.s₀.heap.get? b=some o->b∉X.ex->b∉ch:=fun b o e hx hb=>by
  rcases(hch b hb).1 with z | z
  ·exact hx z
  ·exact absurd (Q0 (QY e) z) (Zw _)
 have cellK:∀ x c,X.env.cells.lookup x=some c->∀ v,s.heap.IsCell c v->h'.IsCell c v:=fun x c e v ⟨o,ho,hd⟩=>by
  have nch:c∉ch:=fun z=>(hch c z).2.2.1 x c e rfl;by_cases hc:c∈X.fs
  ·obtain⟨sl,q⟩:=slot c o (I.cne x c e) hc nch ho (I.fq x c e);exact#[_,q,hd]
  ·exact#[o,keep c o (I.cne x c e) hc nch ho (I.fq x c e),hd]
 refine#[I.ok,I.os,hg,#[fun b o e n hb hx=>?_,fun b o e n hb hx=>?_,fun b o e n hx=>?_,fun b o e hx=>?_,fun b xs e=>kQ b xs (I.base.kQ b xs e),fun b o xs e=>ig b o xs (I.base.ig b o xs e),fun b ps e=>?_],?_,fun x c e=>?_,?_,fun x c e=>?_,fun p hp=>?_,hok,I.len]
 ·exact keep b o (neL b o e) hb (neC b o e hx) (I.base.keep b o e n hb hx) (I.base.free b o e n hx)
 ·obtain⟨sl,e1⟩:=I.base.slot b o e n hb hx;obtain⟨sl',e2⟩:=slot b _ (neL b o e) hb (neC b o e hx) e1 (I.base.free b o e n hx);exact#[sl',e2]
 ·obtain⟨o',e1⟩:=I.base.there b o e hx;exact free b o' (neC b o e hx) e1 (I.base.free b o e n hx)
 ·obtain⟨o',e1⟩:=I.base.there b o e hx;exact there b o' (neC b o e hx) e1
 ·obtain⟨m1,e1⟩:=I.base.l7 b ps e;obtain⟨m2,e2⟩:=l7 b _ e1;exact#[m1++m2,by rw[e2,Array.append_assoc]]
 ·obtain⟨m,hn,hl⟩:=I.loc;refine#[m,ns m hn,fun i x v e1 e2 e3=>?_];obtain⟨u,r,l⟩:=hl i x v e1 e2 e3;refine#[u,r,?_]
  rcases l with l | ⟨k,c,e,z⟩
  ·exact .inl l
  ·exact .inr #[k,c,e,cellK x c e _ z]
 ·obtain⟨v,z⟩:=I.cell x c e;exact#[v,cellK x c e v z]
 ·obtain⟨m,⟨o,_,_,ho,_⟩,_⟩:=I.loc;exact free _ o (fun z=>(hch _ z).2.1 rfl) ho I.free
 ·obtain⟨v,o,ho,hd⟩:=I.cell x c e;exact free c o (fun z=>(hch c z).2.2.1 x c e rfl) ho (I.fq x c e)
 ·obtain⟨e,n,ne,nf,d⟩:=I.pin p hp;have nch:p.1∉ch:=fun z=>(hch p.1 z).2.2.2 p hp rfl;exact#[keep p.1 p.2 ne nf nch e n,free p.1 p.2 nch e n,ne,nf,d]
def Inv.un(I:Inv X pins Y H s)(u:Un X.fs [] H H' s.heap h')(hok:HOk X.prog X.w H' h'):Inv X pins Y H' { s with heap:=h',toks:=t' }:=by
 obtain⟨m,⟨o,es,ep,ho,r⟩,_⟩:=id I.loc;obtain⟨sl,hL⟩:=u.any ho I.free (by simp)
 exact I.step (g':=s.gens) (d':=s.drawn) (ch:=[]) (fun _ z=>nomatch z) (fun b o _ hb _ e n=>u.keep b o e n hb (by simp)) (fun b o _ hb _ e n=>u.slot b o e n hb (by simp)) (fun b o _ e n=>u.free b o e n (by simp)) (fun b o _ e=>u.there b o e (by simp)) u.kQ u.ig u.l7 (fun m' hm=>by
  obtain⟨o',es',ep',ho',r'⟩:=hm;rw[ho]at ho';cases ho'
  exact#[_,es',ep',hL,r']) hok I.bare
def Inv.call(I:Inv X pins Y H s)(u:Un (frs X.stack) ch H H' s.heap h')(hok:HOk X.prog X.w H' h')(hg:AllBare g')
 (hch:∀ b∈ch,(b∈X.ex\/X.s₀.heap.objs.size<=b)/\b≠X.env.locals/\(∀ x c,X.env.cells.lookup x=some c->c≠b)/\∀ p∈X.pn++pins,p.1≠b) :
  Inv X pins Y H' { s with heap:=h',gens:=g',drawn:=d',toks:=t' }:=by
 obtain⟨m,⟨o,es,ep,ho,r⟩,_⟩:=id I.loc;obtain⟨sl,hL⟩:=u.any ho I.free fun z=>(hch _ z).2.1 rfl
 exact I.step (ch:=ch) hch (fun b o hL hb hc e n=>u.keep b o e n (fun z=>(List.mem_cons.mp (I.so b z)).elim hL hb) hc) (fun b o _ _ hc e n=>u.any e n hc) (fun b o hc e n=>u.free b o e n hc) (fun b o hc e=>u.there b o e hc) u.kQ u.ig u.l7 (fun m' hm=>by
  obtain⟨o',es',ep',ho',r'⟩:=hm;rw[ho]at ho';cases ho'
  exact#[_,es',ep',hL,r']) hok hg
def Inv.turned(I:Inv X pins Y H s)(k:∀ b o,b≠it->s.heap.get? b=some o->h'.get? b=some o)(hn:H it=none)(hL:it≠X.env.locals)
 (h1:it∈X.ex\/X.s₀.heap.objs.size<=it)(h2:∀ x c,X.env.cells.lookup x=some c->c≠it)(h3:∀ p∈X.pn++pins,p.1≠it):Inv X pins Y H { s with heap:=h',toks:=t' }:=by
 have nit:∀ b u,H b=some u->b≠it:=fun b u e z=>by rw[z,hn]at e;cases e
 refine I.step (g':=s.gens) (d':=s.drawn) (ch:=[it]) (fun b hb=>?_) (fun b o _ _ hc e _=>k b o (fun z=>hc (by simp[z])) e) (fun b o _ _ hc e _=>#[o.slots,k b o (fun z=>hc (by simp[z])) e]) (fun _ _ _ _ n=>n)
  (fun b o hc e=>#[o,k b o (fun z=>hc (by simp[z])) e]) (fun _ _ e=>e) (fun _ _ _ e=>e) (fun b ps e=>#[(List.toArray []),by rw[e];simp]) (fun m hm=>?_) (fun b u e=>?_) I.bare
 ·have e:b=it:=by simpa using hb
  subst e;exact#[h1,hL,h2,h3]
 ·obtain⟨o,es,ep,ho,r⟩:=hm;exact#[o,es,ep,k _ o (Ne.symm hL) ho,r]
 ·refine(I.hok b u e).oT (fun c v hc q=>k c v ?_ q) (fun _ q=>q) fun _ _ q=>q;rcases hc with z | z
  ·rw[z];exact nit b u e
  ·exact nit c _ z
def Inv.tok(I:Inv X pins Y H s)(t:Nat):Inv X pins Y H { s with toks:=t }:=I.un (h':=s.heap) (t':=t) Un.refl I.hok
def Inv.kept(I:Inv X pins Y H s)(k:∀ b u,s.heap.get? b=some u->h'.get? b=some u):Inv X pins Y H { s with heap:=h',toks:=t' }:=I.un (Un.kept k) (I.hok.kept k)
def Inv.laid(I:Inv X pins Y H s)(k:∀ b u,s.heap.get? b=some u->h'.get? b=some u)(hp:s.heap.objs.size<=a)(new:bD X.prog X.w (upd H a o) h' a o) :
  Inv X pins Y (upd H a o) { s with heap:=h',toks:=t' }:=I.un (Un.laid k hp (I.hok.fresh hp)) (I.hok.laid k hp new)
def Inv.write(I:Inv X pins Y H s)(mu:Mut (H x))(he:e=x\/H e=some (.own x))(k:∀ b u,b≠e->s.heap.get? b=some u->h'.get? b=some u)(heo:∃ u,h'.get? e=some u)
 (new:bD X.prog X.w (upd H x o) h' x o):Inv X pins Y (upd H x o) { s with heap:=h',toks:=t' }:=I.un (Un.write mu he k heo) (I.hok.write mu he k heo new)
def Inv.weak(I:Inv X pins Y H s)(hl:Zz.length=Y.length)(w:∀ (i:Nat) v,Zz[i]?=some (some v)->Y[i]?=some (some v)):Inv X pins Zz H s :=
 ⟨I.ok,I.os,I.bare,I.base,let ⟨m,hn,hl'⟩:=I.loc;⟨m,hn,fun i x v e1 e2 e3=>hl' i x v e1 (w i v e2) e3⟩,I.cell,I.free,I.fq,I.pin,I.hok,hl.trans I.len⟩
def Inv.uB(I:Inv X pins Y H s)(h:∀ p∈pins',s.heap.get? p.1=some p.2/\H p.1=none/\p.1≠X.env.locals/\p.1∉X.fs/\∀ v,p.2.data≠.cell v):Inv X pins' Y H s :=
 ⟨I.ok,I.os,I.bare,I.base,I.loc,I.cell,I.free,I.fq,fun p hp=>(List.mem_append.mp hp).elim (fun z=>I.pin p (List.mem_append_left _ z)) (h p),I.hok,I.len⟩
def rE{N:List Str}(hN:N.Nodup){i j:Nat}(a:N[i]?=some x)(b:N[j]?=some x):i=j:=by
 obtain⟨h1,e1⟩:=List.getElem?_eq_some_iff.mp a;obtain⟨h2,e2⟩:=List.getElem?_eq_some_iff.mp b;exact(List.getElem_inj hN).mp (e1.trans e2.symm)
def qu{M:Model}{A:Around}(I:Inv X pins Y H s)(hN:X.N.Nodup)(hi:X.N[i]?=some x)(hx:Loc X.env.scope x)(r:RelV v u)
 (h:∀ s',Inv X pins (Y.set i (some v)) H s'->(∃ a,Heap.SameBut a s.heap s'.heap/\(a=X.env.locals\/X.env.cells.lookup x=some a))->Q () s')(hf:X.fn x=true\/X.env.scope.names.lookup x=some .local):wpAny M A (storeName X.env x u) Q E s:=by
 obtain⟨m,hn,hl⟩:=id I.loc
 have hcls:(X.env.scope.kind == .class || (X.env.scope.kind == .module&&X.env.locals != X.env.globals))=false:=by rw[I.ok.kind];rfl
 have ZL:i<Y.length:=by rw[I.len];exact(List.getElem?_eq_some_iff.mp hi).1
 have cne:=I.cne
 have tracked:∀ {a:Addr} {h':Heap},(∃ o,s.heap.get? a=some o/\H a=none)->Heap.SameBut a s.heap h'->HOk X.prog X.w H h':=fun {a h'} ha hs b ob e=>by
  obtain⟨_,_,hfree⟩:=ha;refine(I.hok b ob e).oT (fun c w' hc q=>(hs.2 c ?_).trans q) (fun _ q=>q) fun _ _ q=>q;rintro rfl;rcases hc with rfl | hc
  ·rw[hfree]at e;cases e
  ·rw[hfree]at hc;cases hc
 rcases hx with hk | hk
 ·refine wpAny_storeName_local hk hn (fun h' hn' hs=>?_) hcls;obtain⟨oL,_,_,hoL,_⟩:=id hn;refine h _ ⟨I.ok,I.os,I.bare,⟨fun b o e n hb hx=>?_,fun b o e n hb hx=>?_,I.base.free,fun b o e hx=>?_,I.base.kQ,I.base.ig,I.base.l7⟩,⟨_,hn',fun j y v' e1 e2 e3=>?_⟩,fun y c e=>?_,I.free,I.fq,fun p hp=>?_,tracked ⟨oL,hoL,I.free⟩ hs,by simpa using I.len⟩ ⟨_,hs,.inl rfl⟩
  ·exact(hs.2 b (Q5 (Q0 (QY e) I.ok.above))).trans (I.base.keep b o e n hb hx)
  ·obtain⟨sl,e1⟩:=I.base.slot b o e n hb hx;exact#[sl,(hs.2 b (Q5 (Q0 (QY e) I.ok.above))).trans e1]
  ·obtain⟨o',e1⟩:=I.base.there b o e hx;exact#[o',(hs.2 b (Q5 (Q0 (QY e) I.ok.above))).trans e1]
  ·by_cases hj:j=i
   ·subst hj;rw[hi]at e1;cases e1;rw[Q2 ZL]at e2;cases e2;exact#[u,r,.inl #[hk,by simp]]
   ·rw[QZ (Ne.symm hj)]at e2;obtain⟨u',r',q⟩:=hl j y v' e1 e2 e3;refine#[u',r',?_]
    rcases q with⟨k,e⟩ | ⟨k,c,e,z⟩
    ·refine .inl #[k,?_];have:y≠x:=fun e=>hj (rE hN e1 (e▸hi));simp[this,e]
    ·exact .inr #[k,c,e,z.sameBut hs (cne y c e)]
  ·obtain⟨w',z⟩:=I.cell y c e;exact#[w',z.sameBut hs (cne y c e)]
  ·obtain⟨e,n,ne,nf,d⟩:=I.pin p hp;exact#[(hs.2 p.1 ne).trans e,n,ne,nf,d]
 ·have hfn:X.fn x=true:=by
   rcases hf with z | z
   ·exact z
   ·rw[z]at hk;cases hk
  obtain⟨c,hc⟩:=I.ok.has x (.inl hk);obtain⟨w',z⟩:=I.cell x c hc;refine wpAny_storeName_cell I.ok.kind hk hc z (fun h' hc' hs=>?_);obtain⟨oc,hoc,hocd⟩:=id z;refine h { s with heap:=h' } ⟨I.ok,I.os,I.bare,⟨fun b o e n hb hx=>?_,fun b o e n hb hx=>?_,I.base.free,fun b o e hx=>?_,I.base.kQ,I.base.ig,I.base.l7⟩,⟨m,hn.sameBut hs (Ne.symm (cne x c hc)),fun j y v' e1 e2 e3=>?_⟩,fun y c' e=>?_,I.free,I.fq,fun p hp=>?_,tracked ⟨oc,hoc,I.fq x c hc⟩ hs,by simpa using I.len⟩ ⟨c,hs,.inr hc⟩
  ·exact(hs.2 b (Q5 (Q0 (QY e) (I.ok.cab x c hfn hc)))).trans (I.base.keep b o e n hb hx)
  ·obtain⟨sl,e1⟩:=I.base.slot b o e n hb hx;exact#[sl,(hs.2 b (Q5 (Q0 (QY e) (I.ok.cab x c hfn hc)))).trans e1]
  ·obtain⟨o',e1⟩:=I.base.there b o e hx;exact#[o',(hs.2 b (Q5 (Q0 (QY e) (I.ok.cab x c hfn hc)))).trans e1]
  ·by_cases hj:j=i
   ·subst hj;rw[hi]at e1;cases e1;rw[Q2 ZL]at e2;cases e2;exact#[u,r,.inr #[.inl hk,c,hc,hc']]
   ·rw[QZ (Ne.symm hj)]at e2;obtain⟨u',r',q⟩:=hl j y v' e1 e2 e3;refine#[u',r',?_]
    rcases q with q | ⟨k,c',e,z'⟩
    ·exact .inl q
    ·refine .inr #[k,c',e,z'.sameBut hs ?_];rintro rfl;exact hj (rE hN e1 (I.ok.inj _ _ _ e hc▸hi))
  ·by_cases hcc:c'=c
   ·subst hcc;exact#[_,hc']
   ·obtain⟨w2,z2⟩:=I.cell y c' e;exact#[w2,z2.sameBut hs hcc]
  ·obtain⟨e,n,ne,nf,d⟩:=I.pin p hp;refine#[(hs.2 p.1 ?_).trans e,n,ne,nf,d];intro q;rw[q,hoc]at e;have q':oc=p.2:=Option.some.inj e;exact d w' (by rw[<-q'];exact hocd)
def i7(I:Inv X pins Y H s)(hN:X.N.Nodup)(hi:X.N[i]?=some x)(hx:Loc X.env.scope x)(r:RelV v u)
 (h:∀ s',Inv X pins (Y.set i (some v)) H s'->Q () s')(hf:X.fn x=true\/X.env.scope.names.lookup x=some .local):wpAny M A (storeName X.env x u) Q E s :=
 qu I hN hi hx r (fun s' I' _=>h s' I') hf
def Inv.BH(I:Inv X pins Y H s)(ho:s'.os=s.os)(u:Un (frs X.stack) ch H H' s.heap s'.heap)(hok:HOk X.prog X.w H' s'.heap)(hg:AllBare s'.gens)
 (hch:∀ b∈ch,(b∈X.ex\/X.s₀.heap.objs.size<=b)/\b≠X.env.locals/\(∀ x c,X.env.cells.lookup x=some c->c≠b)/\∀ p∈X.pn++pins,p.1≠b):Inv X pins Y H' s':=by
 obtain⟨h',g',d',t',o'⟩:=s';have e:o'=s.os:=ho;subst e;exact I.call (g':=g') (t':=t') (d':=d') u hok hg hch
end
@[reducible]noncomputable def XK:=Value->Option Addr->Hp->Prop
@[reducible]noncomputable def St:=List (Option V)
@[reducible]noncomputable def VK:=V->Hp->Prop
@[reducible]noncomputable def TE:=St->Hp->VK->Prop
@[reducible]noncomputable def TT:=St->Hp->(Bool->Hp->Prop)->Prop
@[reducible]noncomputable def TA:=St->Hp->(List V->Hp->Prop)->Prop
structure Ends where
 nx:St->Hp->Prop
 rt:VK
 bk:St->Hp->Prop:=fun _ _=>False
 ct:St->Hp->Prop:=fun _ _=>False
@[reducible]noncomputable def TS:=Ends->St->Hp->Prop
abbrev EP(X:Cx)(pins:List (Addr × Obj))(Y:St)(Q:VK)(u:Value)(s':Shared):Prop:=∃ v H',Inv X pins Y H' s'/\RelV v u/\Q v H'
abbrev TP(X:Cx)(pins:List (Addr × Obj))(Y:St)(Q:Bool->Hp->Prop)(b:Bool)(s':Shared):Prop:=∃ H',Inv X pins Y H' s'/\Q b H'
abbrev AP(X:Cx)(pins:List (Addr × Obj))(Y:St)(Q:List V->Hp->Prop)(us:List Value)(s':Shared):Prop:=∃ vs H',Inv X pins Y H' s'/\Vals vs us/\Q vs H'
abbrev SP(X:Cx)(pins:List (Addr × Obj))(D:Ends)(f:Flow)(s':Shared):Prop :=
 match f with
 | .next=>∃ Zz H',Inv X pins Zz H' s'/\D.nx Zz H'
 | .brk=>∃ Zz H',Inv X pins Zz H' s'/\D.bk Zz H'
 | .cont=>∃ Zz H',Inv X pins Zz H' s'/\D.ct Zz H'
 | .ret u=>∃ v Zz H',Inv X pins Zz H' s'/\RelV v u/\D.rt v H'
abbrev PE(X:Cx)(e:Expr)(t:TE):Prop :=
 ∀ (pins:List (Addr × Obj)) (s:Shared) (Y:St) (H:Hp) (Q:VK),Inv X pins Y H s->t Y H Q->wpAny (model X.prog X.w) X.A (eval e X.env) (EP X pins Y Q) X.xe s
abbrev PT(X:Cx)(e:Expr)(t:TT):Prop :=
 ∀ (pins:List (Addr × Obj)) (s:Shared) (Y:St) (H:Hp) (Q:Bool->Hp->Prop),Inv X pins Y H s->t Y H Q->wpAny (model X.prog X.w) X.A (isTrue e X.env (eval e X.env)) (TP X pins Y Q) X.xe s
abbrev PW(X:Cx)(e:Expr)(t:TT):Prop :=
 ∀ (whole:Sem Value) (pins:List (Addr × Obj)) (s:Shared) (Y:St) (H:Hp) (Q:Bool->Hp->Prop),Inv X pins Y H s->t Y H Q->wpAny (model X.prog X.w) X.A (isTrue e X.env whole) (TP X pins Y Q) X.xe s
def PW.pt(h:PW X e t):PT X e t:=h _
abbrev PA(X:Cx)(es:List Expr)(t:TA):Prop :=
 ∀ (pos:Pos) (pins:List (Addr × Obj)) (s:Shared) (Y:St) (H:Hp) (Q:List V->Hp->Prop),Inv X pins Y H s->t Y H Q->wpAny (model X.prog X.w) X.A (spliced (backTo pos (starEach es X.env))) (AP X pins Y Q) X.xe s
abbrev PS(X:Cx)(st:Stmt)(t:TS):Prop :=
 ∀ (pins:List (Addr × Obj)) (s:Shared) (Y:St) (H:Hp) (D:Ends),Inv X pins Y H s->t D Y H->wpAny (model X.prog X.w) X.A (exec st X.env) (SP X pins D) X.xe s
abbrev PSs(X:Cx)(st:List Stmt)(t:TS):Prop :=
 ∀ (pins:List (Addr × Obj)) (s:Shared) (Y:St) (H:Hp) (D:Ends),Inv X pins Y H s->t D Y H->wpAny (model X.prog X.w) X.A (execs st X.env) (SP X pins D) X.xe s
def thn(h:wpAny M A t Q E s)(hQ:∀ a s,Q a s->Q' a s):wpAny M A t Q' E s:=wpAny_mono h hQ fun _ _ x=>x
section
variable{X:Cx}
abbrev gK(i:Nat):TE:=fun Y H Q=>∃ v,Y[i]?=some (some v)/\Q v H
abbrev tC(v:V):TE:=fun _ H Q=>Q v H
def eI(hN:X.N[i]?=some x)(hv:Vis X.env.scope x)(hd:(x == ("__debug__" : Str))=false)(hcd:(x == ("__classdict__" : Str))=false):PE X (.Name x pos) (gK i):=by
 k_ne;obtain⟨v,e,h⟩:=h;obtain⟨m,hn,hl⟩:=I.loc;obtain⟨u,r,l⟩:=hl i x v hN e hv
 have fin:EP X pins Y Q u s:=#[v,H,I,r,h]
 rcases l with⟨hk,hm⟩ | ⟨hk,c,hc,hcell⟩
 ·exact wpAny_Name (wpAny_loadName_local I.ok.kind hk hn hm fin) hd
 ·rcases hk with hk | hk
  ·exact wpAny_Name (wpAny_loadName_cell I.ok.kind hk hc hcell fin) hd
  ·exact wpAny_Name (wpAny_loadName_free I.ok.kind hk hc hcell fin hcd) hd
def r8:PE X (.Constant (.int i) j pos) (tC (.int i)):=fun _ _ _ H _ I h=>wpAny_Constant_int ⟨.int i,H,I.tok _,⟨_,rfl⟩,h⟩
def Iy:PE X (.Constant (.bool b) j pos) (tC (.bl b)):=fun _ _ _ H _ I h=>Constant_bool ⟨.bl b,H,I,rfl,h⟩
def qY:PE X (.Constant .none j pos) (tC .non):=fun _ _ _ H _ I h=>Constant_none ⟨.non,H,I,rfl,h⟩
def EN:PE X (.Constant (.str x) j pos) (tC (.str x)):=fun _ _ _ H _ I h=>Calls.Constant_str ⟨.str x,H,I.tok _,⟨_,rfl⟩,h⟩
abbrev Gl(X:Cx)(x:Str):Prop:=X.env.kindOf x=some .globalImplicit
def uS(I:Inv X pins Y H s)(hg:Gl X x)(hm:X.mg x=some u)(h:Q u s)
 (hd:(x == ("__debug__" : Str))=false):wpAny (model X.prog X.w) X.A (eval (.Name x pos) X.env) Q E s :=
 Calls.Name_function_global I.ok.kind hg (Calls.loadGlobal_global (by rw[I.ok.glob];exact I.mod.glob.keeps I.bk) hm h) hd
def il(I:Inv X pins Y H s)(hg:Gl X x)(hm:X.mg x=none)(hv:bootBuiltins x=some u)(h:Q u s)
 (hn:x ≠ "__name__")(hd:(x == ("__debug__" : Str))=false):wpAny (model X.prog X.w) X.A (eval (.Name x pos) X.env) Q E s:=by
 obtain⟨mb,h1,h2⟩:=I.mod.blt;exact Calls.Name_function_global I.ok.kind hg (Calls.loadGlobal_builtin (by rw[I.ok.glob];exact I.mod.glob.keeps I.bk) hm (by rw[I.ok.blt];exact h1.keeps I.bk) ((h2 x hn).trans hv) h) hd
def DY(hg:Gl X x)(hm:X.mg x=some u)(r:RelV v u)(hd:(x == ("__debug__" : Str))=false):PE X (.Name x pos) (tC v) :=
 fun _ _ _ H _ I h=>uS I hg hm ⟨v,H,I,r,h⟩ hd
def CY(hg:Gl X x)(hm:X.mg x=none)(hv:bootBuiltins x=some u)(r:RelV v u)(hn:x ≠ "__name__")(hd:(x == ("__debug__" : Str))=false):PE X (.Name x pos) (tC v) :=
 fun _ _ _ H _ I h=>il I hg hm hv ⟨v,H,I,r,h⟩ hn hd
variable{a b:Expr}{ta tb:TE}{pos:Pos}
abbrev PC(X:Cx)(op:CmpOp)(a b:Expr)(t:TE):Prop :=
 ∀ (pins:List (Addr × Obj)) (s:Shared) (Y:St) (H:Hp) (Q:VK),Inv X pins Y H s->t Y H Q ->
  wpAny (model X.prog X.w) X.A (eval a X.env) (fun v s₁=>wpAny (model X.prog X.w) X.A (eval b X.env) (fun u s₂=>wpAny (model X.prog X.w) X.A (compareOp op v u) (EP X pins Y Q) X.xe s₂) X.xe s₁) X.xe s
abbrev tB(t:TE):TT:=fun Y H Q=>t Y H fun x H1=>∃ c,x=.bl c/\Q c H1
def Ew(h:PC X op a b t)(h1:behindInMarks op b=false):PE X (.Compare a [op] [b] pos) t:=fun pins s Y H Q I hw=>wpAny_Compare1 (h pins s Y H Q I hw) h1
def En(h:PC X op a b t)(h1:behindInMarks op b=false):PT X (.Compare a [op] [b] pos) (tB t):=by
 intro pins s Y H Q I hw;refine wpAny_isTrue_Compare1 (thn (h pins s Y H _ I hw) fun v s1 h1=>thn h1 fun u s2 h2=>thn h2 fun c s3 ⟨x,H1,I1,r1,q1⟩=>?_) h1;obtain⟨d,rfl,q⟩:=q1;cases r1;exact wpAny_truthy_bool ⟨H1,I1,q⟩
variable{tA tB':TT}{rest:List Expr}
abbrev JQ(t u:TT):TT:=fun Y H Q=>t Y H fun c H1=>if c=true then u Y H1 Q else Q false H1
abbrev tOr(t u:TT):TT:=fun Y H Q=>t Y H fun c H1=>if c=true then Q true H1 else u Y H1 Q
abbrev Js(t:TT):TT:=fun Y H Q=>t Y H fun c H1=>Q (!c) H1
def DO(ha:PT X a tA):PW X (.BoolOp .And [a] pos) tA:=by
 intro wh pins s Y H Q I h;refine isTrue_and (thn (ha pins s Y H Q I h) fun c s1 e=>?_)
 cases c with
 | true=>exact isTrue_and_nil e
 | false=>exact e
def Fb(ha:PT X a tA):PW X (.BoolOp .Or [a] pos) tA:=by
 intro wh pins s Y H Q I h;refine isTrue_or (thn (ha pins s Y H Q I h) fun c s1 e=>?_)
 cases c with
 | false=>exact isTrue_or_nil e
 | true=>exact e
def E5(ha:PT X a tA)(hb:PW X (.BoolOp .And (b::rest) pos) tB'):PW X (.BoolOp .And (a::b::rest) pos) (JQ tA tB'):=by
 intro wh pins s Y H Q I h;refine isTrue_and (thn (ha pins s Y H _ I h) fun c s1 ⟨H1,I1,q1⟩=>?_)
 cases c with
 | true=>exact hb wh pins s1 Y H1 Q I1 q1
 | false=>exact#[H1,I1,q1]
def Ik(ha:PT X a tA)(hb:PW X (.BoolOp .Or (b::rest) pos) tB'):PW X (.BoolOp .Or (a::b::rest) pos) (tOr tA tB'):=by
 intro wh pins s Y H Q I h;refine isTrue_or (thn (ha pins s Y H _ I h) fun c s1 ⟨H1,I1,q1⟩=>?_)
 cases c with
 | true=>exact#[H1,I1,q1]
 | false=>exact hb wh pins s1 Y H1 Q I1 q1
def FO(ha:PT X a tA):PT X (.UnaryOp .Not a pos) (Js tA):=by
 k_ne;exact isTrue_not (ha pins s Y H (fun c H1=>Q (!c) H1) I h)
abbrev IH(ta tb:TE):TE:=fun Y H Q=>ta Y H fun x H1=>∃ c,x=.bl c/\if c=true then tb Y H1 Q else Q (.bl false) H1
abbrev Jp(ta tb:TE):TE:=fun Y H Q=>ta Y H fun x H1=>∃ c,x=.bl c/\if c=true then Q (.bl true) H1 else tb Y H1 Q
def EV(h:PE X a t):PE X (.BoolOp op [a] pos) t:=fun pins s Y H Q I hw=>BoolOp_one (h pins s Y H Q I hw)
def Hr(ha:PE X a ta)(hb:PE X (.BoolOp .And (b::rest) pos) tb):PE X (.BoolOp .And (a::b::rest) pos) (IH ta tb):=by
 k_ne;refine BoolOp_and (thn (ha pins s Y H _ I h) fun v s1 ⟨x,H1,I1,r1,q1⟩=>?_);obtain⟨c,rfl,q1⟩:=q1;cases r1;refine wpAny_truthy_bool ?_
 cases c with
 | true=>exact hb pins s1 Y H1 Q I1 q1
 | false=>exact#[.bl false,H1,I1,rfl,q1]
def Iw(ha:PE X a ta)(hb:PE X (.BoolOp .Or (b::rest) pos) tb):PE X (.BoolOp .Or (a::b::rest) pos) (Jp ta tb):=by
 k_ne;refine BoolOp_or (thn (ha pins s Y H _ I h) fun v s1 ⟨x,H1,I1,r1,q1⟩=>?_);obtain⟨c,rfl,q1⟩:=q1;cases r1;refine wpAny_truthy_bool ?_
 cases c with
 | false=>exact hb pins s1 Y H1 Q I1 q1
 | true=>exact#[.bl true,H1,I1,rfl,q1]
abbrev tIf(t:TT)(ta tb:TE):TE:=fun Y H Q=>t Y H fun c H1=>if c=true then ta Y H1 Q else tb Y H1 Q
def zD(hc:PT X c tA)(ha:PE X a ta)(hb:PE X b tb):PE X (.IfExp c a b pos) (tIf tA ta tb):=by
 k_ne;refine wpAny_IfExp (thn (hc pins s Y H _ I h) fun d s1 ⟨H1,I1,q1⟩=>?_)
 cases d with
 | true=>exact ha pins s1 Y H1 Q I1 q1
 | false=>exact hb pins s1 Y H1 Q I1 q1
end
abbrev SqL(K:W.Frag)(H:Hp)(a:Addr)(xs:List V):Prop :=
 Rd H a (.lst xs) \/
  ∃ (o:Obj) (its:Array Value) (n:Nat),K.lookup a=some o/\o.cls=.type "list" /\ o.dict=none/\o.data=.seq its n/\its.size<=sizeLine/\Vals xs its.toList
abbrev SqT(K:W.Frag)(H:Hp)(a:Addr)(xs:List V):Prop :=
 Rd H a (.tup xs) \/
  ∃ (o:Obj) (its:Array Value) (n:Nat),K.lookup a=some o/\o.cls=.type "tuple" /\ o.data=.seq its n/\its.size<=sizeLine/\Vals xs its.toList
abbrev J9:Value->Option V
 | .none=>some .non
 | .bool b=>some (.bl b)
 | .int i _=>some (.int i)
 | .str x _=>some (.str x)
 | .bytes b _=>some (.byt b)
 | .float b _=>some (.flt b)
 | .ref a=>some (.ref a)
 | .type n=>some (.ty n)
 | _=>none
def RelV.abs(r:RelV x u):J9 u=some x:=by
 cases x with
 | non=>cases r;rfl
 | bl _=>cases r;rfl
 | int _=>obtain⟨t,rfl⟩:=r;rfl
 | str _=>obtain⟨t,rfl⟩:=r;rfl
 | byt _=>obtain⟨t,rfl⟩:=r;rfl
 | flt _=>obtain⟨t,rfl⟩:=r;rfl
 | ref _=>cases r;rfl
 | ty _=>cases r;rfl
def RelV.inj(r:RelV x u)(q:RelV y u):x=y:=Option.some.inj (r.abs.symm.trans q.abs)
def Vals.inj:∀ {xs ys:List V} {us:List Value},Vals xs us->Vals ys us->xs=ys
 | _,_,_,.nil,.nil=>rfl
 | _,_,_,.cons r t,.cons r' t'=>by rw[r.inj r',Vals.inj t t']
section
variable{X:Cx}{pins:List (Addr × Obj)}{Y:St}{H:Hp}{s:Shared}{a:Addr}{xs ys:List V}
def SqL.of{K:W.Frag}(h:H a=some (.lst xs)):SqL K H a xs:=.inl (.inl h)
def SqT.of{K:W.Frag}(h:H a=some (.tup xs)):SqT K H a xs:=.inl (.inl h)
def Inv.list(I:Inv X pins Y H s)(h:SqL X.K H a xs):∃ its:List Value,Vals xs its/\PlainL s.heap a its.toArray/\xs.length<=sizeLine:=by
 rcases h with h | ⟨o,its,n,hk,hc,hd,hs,hz,r⟩
 ·obtain⟨z,its,n,r,e⟩:=h.ok I.hok;exact#[its,r,#[_,n,e,rfl,rfl,rfl],z]
 ·refine#[its.toList,r,#[o,n,I.kIn a o hk,hc,hd,by simpa using hs],?_];have e:=r.length;simp only[Array.length_toList]at e;omega
def Inv.tuple(I:Inv X pins Y H s)(h:SqT X.K H a xs):∃ its:List Value,Vals xs its/\IsTup s.heap a its.toArray/\xs.length<=sizeLine:=by
 rcases h with h | ⟨o,its,n,hk,hc,hs,hz,r⟩
 ·obtain⟨z,its,r,p⟩:=h.ok I.hok;exact#[its,r,p,z]
 ·refine#[its.toList,r,#[o,I.kIn a o hk,hc,n,by simpa using hs],?_];have e:=r.length;simp only[Array.length_toList]at e;omega
def Inv.Bd(I:Inv X pins Y H s)(h:SqL X.K H a xs)(h':SqL X.K H a ys):xs=ys:=by
 obtain⟨its,r,⟨o,n,e,_,_,d⟩,_⟩:=I.list h;obtain⟨its',r',⟨o',n',e',_,_,d'⟩,_⟩:=I.list h';rw[e]at e';cases e';rw[d]at d';injection d' with d1 _
 have:its=its':=by simpa using congrArg Array.toList d1
 subst this;exact r.inj r'
def Inv.xR(I:Inv X pins Y H s)(h:SqT X.K H a xs)(h':SqT X.K H a ys):xs=ys:=by
 obtain⟨its,r,⟨o,e,_,n,d⟩,_⟩:=I.tuple h;obtain⟨its',r',⟨o',e',_,n',d'⟩,_⟩:=I.tuple h';rw[e]at e';cases e';rw[d]at d';injection d' with d1 _
 have:its=its':=by simpa using congrArg Array.toList d1
 subst this;exact r.inj r'
end
@[reducible]noncomputable def Cx.jv(X:Cx)(E:Value->Shared->Prop):Cx:={ X with xe:=E }
@[reducible]noncomputable def Cx.nox(X:Cx):Cx:=X.jv fun _ _=>False
def Cx.Ok.jv{X:Cx}(ok:X.Ok)(E:Value->Shared->Prop):(X.jv E).Ok :=
 ⟨ok.mod,ok.kind,ok.glob,ok.blt,ok.above,ok.inj,ok.has,ok.cab,ok.hd,ok.frames,ok.stk,ok.exf,ok.bs,ok.bsz,ok.ue,ok.tQ,ok.iD,ok.frf⟩
def Cx.Ok.gD{X:Cx}(ok:(X.jv E).Ok):X.Ok :=
 ⟨ok.mod,ok.kind,ok.glob,ok.blt,ok.above,ok.inj,ok.has,ok.cab,ok.hd,ok.frames,ok.stk,ok.exf,ok.bs,ok.bsz,ok.ue,ok.tQ,ok.iD,ok.frf⟩
section
variable{X:Cx}{pins:List (Addr × Obj)}{Y:St}{H:Hp}{s:Shared}{E:Value->Shared->Prop}
def Inv.jv(I:Inv X pins Y H s)(E:Value->Shared->Prop):Inv (X.jv E) pins Y H s:=#[I.ok.jv E,I.os,I.bare,I.base,I.loc,I.cell,I.free,I.fq,I.pin,I.hok,I.len]
def Inv.gD(I:Inv (X.jv E) pins Y H s):Inv X pins Y H s:=#[I.ok.gD,I.os,I.bare,I.base,I.loc,I.cell,I.free,I.fq,I.pin,I.hok,I.len]
def SP.gD(h:SP (X.jv E) pins D f s'):SP X pins D f s':=by
 cases f with
 | next=>obtain⟨Zz,H',I,q⟩:=h;exact#[Zz,H',I.gD,q]
 | brk=>obtain⟨Zz,H',I,q⟩:=h;exact#[Zz,H',I.gD,q]
 | cont=>obtain⟨Zz,H',I,q⟩:=h;exact#[Zz,H',I.gD,q]
 | ret u=>obtain⟨v,Zz,H',I,r,q⟩:=h;exact#[v,Zz,H',I.gD,r,q]
def PSs.nox{st:List Stmt}(h:PSs X.nox st t):PSs X st t:=fun pins s Y H D I hw =>
 wpAny_mono (h pins s Y H D (I.jv _) hw) (fun _ _ q=>q.gD) fun _ _ z=>False.elim z
end
section
variable{X:Cx}{st:Stmt}{rest:List Stmt}{t u:TS}{e:Expr}{te:TE}{pos:Pos}
abbrev Jd:TS:=fun D Y H=>D.nx Y H
abbrev Kc(t u:TS):TS:=fun D Y H=>t { D with nx:=u D } Y H
def CW:PSs X [] Jd:=fun _ _ Y H _ I h=>wpAny_execs_nil ⟨Y,H,I,h⟩
def Bg(h1:PS X st t)(h2:PSs X rest u):PSs X (st::rest) (Kc t u):=by
 intro pins s Y H D I h;refine wpAny_execs_cons (thn (h1 pins s Y H { D with nx:=u D } I h) fun f s1 q=>?_)
 cases f with
 |next=>
  obtain⟨Zz,H',I',q⟩:=q;exact h2 pins s1 Zz H' D I' q
 | ret v=>exact q
 | brk=>exact q
 | cont=>exact q
def Inv.quiet(I:Inv X pins Y H s):interactive X.env=false:=by simp[interactive,I.ok.kind]
abbrev qQ(te:TE):TS:=fun D Y H=>te Y H fun _ H1=>D.nx Y H1
def oR(he:PE X e te)(hs:swapsWith e none pos.line X.env=pure false):PS X (.Expr e pos) (qQ te):=by
 intro pins s Y H D I h;exact wpAny_Expr_any (thn (he pins s Y H _ I h) fun v s1 ⟨x,H1,I1,r1,q1⟩=>#[Y,H1,I1,q1]) I.quiet hs
abbrev Ka(te:TE):TS:=fun D Y H=>te Y H D.rt
def yM(he:PE X e te):PS X (.Return (some e) pos) (Ka te):=by
 intro pins s Y H D I h;exact wpAny_Return_some (thn (he pins s Y H _ I h) fun v s1 ⟨x,H1,I1,r1,q1⟩=>#[x,Y,H1,I1,r1,q1])
abbrev Ih:TS:=fun D _ H=>D.rt .non H
def BY:PS X (.Return none pos) Ih:=fun _ _ Y H _ I h=>wpAny_Return_none ⟨.non,Y,H,I,rfl,h⟩
abbrev JH(c:TT)(t u:TS):TS:=fun D Y H=>c Y H fun b H1=>if b=true then t D Y H1 else u D Y H1
def B4(hc:PT X c tc)(ha:PSs X a t)(hb:PSs X b u):PS X (.If c a b pos) (JH tc t u):=by
 intro pins s Y H D I h;refine wpAny_If (thn (hc pins s Y H _ I h) fun d s1 ⟨H1,I1,q1⟩=>?_)
 cases d with
 | true=>exact ha pins s1 Y H1 D I1 q1
 | false=>exact hb pins s1 Y H1 D I1 q1
end
@[reducible]noncomputable def TG:=V->St->Hp->(St->Hp->Prop)->Prop
@[reducible]noncomputable def TGs:=List V->St->Hp->(St->Hp->Prop)->Prop
abbrev PG(X:Cx)(target:Expr)(t:TG):Prop :=
 ∀ (pins:List (Addr × Obj)) (s:Shared) (Y:St) (H:Hp) (v:V) (u:Value) (Q:St->Hp->Prop),Inv X pins Y H s->RelV v u->t v Y H Q ->
  wpAny (model X.prog X.w) X.A (assign target X.env u) (fun _ s'=>∃ Zz H',Inv X pins Zz H' s'/\Q Zz H') X.xe s
abbrev PGs(X:Cx)(ts:List Expr)(t:TGs):Prop :=
 ∀ (pins:List (Addr × Obj)) (s:Shared) (Y:St) (H:Hp) (vs:List V) (us:List Value) (Q:St->Hp->Prop),Inv X pins Y H s->Vals vs us->t vs Y H Q ->
  wpAny (model X.prog X.w) X.A (assignInOrder ((assignEach ts X.env).map (·.2)) us) (fun _ s'=>∃ Zz H',Inv X pins Zz H' s'/\Q Zz H') X.xe s
@[reducible]noncomputable def FW:=V->V->V->Hp->(Hp->Prop)->Prop
abbrev Ff(X:Cx)(t:FW):Prop :=
 ∀ (pins:List (Addr × Obj)) (s:Shared) (Y:St) (H:Hp) (o i v:V) (ov iv u:Value) (Q:Hp->Prop),Inv X pins Y H s->RelV o ov->RelV i iv->RelV v u->t o i v H Q ->
  wpAny (model X.prog X.w) X.A (setItem ov iv u) (fun _ s'=>∃ H',Inv X pins Y H' s'/\Q H') X.xe s
@[reducible]noncomputable def TIp:=V->V->Hp->VK->Prop
abbrev PIp(X:Cx)(op:Operator)(t:TIp):Prop :=
 ∀ (pins:List (Addr × Obj)) (s:Shared) (Y:St) (H:Hp) (x y:V) (v u:Value) (Q:VK),Inv X pins Y H s->RelV x v->RelV y u->t x y H Q ->
  wpAny (model X.prog X.w) X.A (inplaceOp op v u) (EP X pins Y Q) X.xe s
section
variable{X:Cx}{pos:Pos}
abbrev qU(i:Nat):TG:=fun v Y H Q=>Q (Y.set i (some v)) H
def uI(hN:X.N.Nodup)(hi:X.N[i]?=some x)(hx:Loc X.env.scope x)(hf:X.fn x=true\/X.env.scope.names.lookup x=some .local):PG X (.Name x pos) (qU i):=by
 intro pins s Y H v u Q I r h;exact wpAny_assign_Name (i7 I hN hi hx r (fun s' I'=>#[_,H,I',h]) hf)
abbrev AR:TGs:=fun vs Y H Q=>vs=[]/\Q Y H
abbrev qS(t:TG)(u:TGs):TGs:=fun vs Y H Q=>∃ v r,vs=v::r/\t v Y H fun Zz H'=>u r Zz H' Q
def vi:PGs X [] AR:=by
 intro pins s Y H vs us Q I r h;obtain⟨e,h⟩:=h;subst e;cases r;exact assignInOrder_nil ⟨Y,H,I,h⟩
def mT(h1:PG X e t)(h2:PGs X es u)
 (hs:(assignEach (e::es) X.env).map (·.2)=assign e X.env::(assignEach es X.env).map (·.2)):PGs X (e::es) (qS t u):=by
 intro pins s Y H vs us Q I r h;obtain⟨v,vr,e1,h⟩:=h;subst e1
 cases r with
 |cons r rr=>
  rw[hs];refine assignInOrder_cons (thn (h1 pins s Y H _ _ _ I r h) fun _ s1 ⟨ZA,H1,I1,q1⟩=>?_);exact h2 pins s1 ZA H1 _ _ Q I1 rr q1
abbrev mX(K:W.Frag)(n:Nat)(t:TGs):TG:=fun v Y H Q=>∃ a xs,v=.ref a/\SqT K H a xs/\xs.length=n/\t xs Y H Q
def ug(hc:X.calm=true)(h:PGs X es t)
 (hn:(assignEach es X.env).length=n)(hst:(assignEach es X.env).findIdx? (·.1)=none):PG X (.Tuple es k pos) (mX X.K n t):=by
 intro pins s Y H v u Q I r hw;obtain⟨a,xs,e1,hq,hl,hw⟩:=hw;subst e1;cases r;obtain⟨its,rv,ht,hz⟩:=I.tuple hq;refine assign_Tuple_tuple (I.ok.hd.1 hc) ht (by simp[hn,<-hl,rv.length]) hst fun h' hx=>?_;have I1:Inv X pins Y H { s with heap:=h' }:=I.kept (t':=s.toks) fun b o e=>hx b o (Q5 (QY e)) e;exact h pins _ Y H xs _ Q I1 (by simpa using rv) hw
abbrev uh(to ti:TE)(t:FW):TG:=fun v Y H Q=>to Y H fun o H1=>ti Y H1 fun i H2=>t o i v H2 fun H3=>Q Y H3
def rV(ho:PE X o to)(hi:PE X i ti)(hs:Ff X t)
 (ha:∀ v,assign (.Subscript o i pos) X.env v=(do
   let ov <- holding [v] (eval o X.env)
   let iv <- holding [v,ov] (eval i X.env)
   standAt pos
   holding [v,ov,iv] (setItem ov iv v)
   release [v,ov,iv] []):=by intro _;rfl):PG X (.Subscript o i pos) (uh to ti t):=by
 intro pins s Y H v u Q I r h;rw[ha];refine QT (wpAny_holding (thn (ho pins s Y H _ I h) fun ov s1 ⟨x,H1,I1,r1,q1⟩=>?_));refine QT (wpAny_holding (thn (hi pins s1 Y H1 _ I1 q1) fun iv s2 ⟨y,H2,I2,r2,q2⟩=>?_));refine QT (wpAny_standAt (QT (wpAny_holding (thn (hs pins s2 Y H2 x y v ov iv u _ I2 r1 r2 r q2) fun _ s3 ⟨H3,I3,q3⟩=>?_))));exact wpAny_release ⟨Y,H3,I3,q3⟩
abbrev oV(te:TE)(g:TG):TS:=fun D Y H=>te Y H fun x H1=>g x Y H1 D.nx
def rO(he:PE X e te)(hg:PG X tg g)(hs:swapsWithSole [tg] e pos.line X.env=pure false)(hw:swappedStores [tg] e X.env=pure none)
 (h1:(assignEach [tg] X.env).map (·.2)=[assign tg X.env]):PS X (.Assign [tg] e pos) (oV te g):=by
 intro pins s Y H D I h;refine wpAny_Assign_stores (thn (he pins s Y H _ I h) fun v s1 ⟨x,H1,I1,r1,q1⟩=>?_) hs hw;rw[h1];exact thn (hg pins s1 Y H1 x v _ I1 r1 q1) fun _ s2 q=>q
def Hz(hN:X.N.Nodup)(hi:X.N[i]?=some x)(hx:Loc X.env.scope x)(he:PE X e te)(hs:swapsWith e (some (.Name x pos')) pos.line X.env=pure false)(hf:X.fn x=true\/X.env.scope.names.lookup x=some .local) :
  PS X (.Assign [.Name x pos'] e pos) (oV te (qU i)):=by
 intro pins s Y H D I h;refine wpAny_Assign_Name (thn (he pins s Y H _ I h) fun v s1 ⟨y,H1,I1,r1,q1⟩=>?_) hs;exact i7 I1 hN hi hx r1 (fun s2 I2=>#[_,H1,I2,q1]) hf
abbrev A8(i j:Nat)(ta:TA):TS:=fun D Y H=>ta Y H fun vs H1=>∃ v w,vs=[v,w]/\D.nx ((Y.set i (some v)).set j (some w)) H1
def xU(hc:X.calm=true)(hN:X.N.Nodup)(hi:X.N[i]?=some x)(hj:X.N[j]?=some y)(hij:i≠j)
 (hx:X.env.scope.names.lookup x=some .local)(hy:X.env.scope.names.lookup y=some .local)(ha:PA X [a,b] ta)
 (hw:swappedStores [.Tuple [.Name x px,.Name y py] kt pt] (.Tuple [a,b] k2 pt2) X.env=pure (some [x,y]))
 (hs:swapsWithSole [.Tuple [.Name x px,.Name y py] kt pt] (.Tuple [a,b] k2 pt2) pos.line X.env=pure false) :
  PS X (.Assign [.Tuple [.Name x px,.Name y py] kt pt] (.Tuple [a,b] k2 pt2) pos) (A8 i j ta):=by
 intro pins s Y H D I h;rw[exec_Assign_arm];refine QT (wpAny_standAt ?_);rw[hs];refine QT (QW ?_);rw[if_neg ∅];refine QT (Tuple_ (thn (ha _ pins s Y H _ I h) fun us s1 ⟨vs,H1,I1,r1,q1⟩=>?_));obtain⟨v,w,e1,q1⟩:=q1;subst e1
 obtain⟨u1,u2,rfl,rv,rw'⟩:∃ u1 u2,us=[u1,u2]/\RelV v u1/\RelV w u2:=by
  cases r1 with
  |cons p q=>
   cases q with
   |cons p' q'=>
    cases q';exact#[_,_,rfl,p,p']
 refine wpAny_newObj_type ?_ (by show 2<=sizeLine;decide);have I2:Inv X pins Y H1 { s1 with heap:=s1.heap.push { cls:=.type "tuple",data:=.seq [u1,u2].toArray } }:=I1.kept (t':=s1.toks) fun b o e=>QU _ e;rw[hw];refine QT (QW ?_);show wpAny (model X.prog X.w) X.A (do rule "assign.swapped-stores";let items <- unpackItems (.ref s1.heap.objs.size) 2 none;assignInOrder [fun v=>bindName X.env y v,fun v=>bindName X.env x v] items.reverse;pure Flow.next) _ _ _;refine QT (wpAny_rule (QT (unpackItems_tuple (items:=(List.toArray [u1,u2])) (I.ok.hd.1 hc) (IsTup.new s1.heap _) fun h' hx'=>?_)));have I3:=I2.kept (h':=h') (t':=s1.toks) fun b o e=>hx' b o (Q5 (QY e)) e;show wpAny _ _ (assignInOrder [fun v=>bindName X.env y v,fun v=>bindName X.env x v] [u2,u1] >>= fun _=>pure Flow.next) _ _ _;refine QT (assignInOrder_cons (wpAny_bindName (i7 I3 hN hj (.inl hy) rw' (fun s2 I4=>?_) (.inr hy))));refine assignInOrder_cons (wpAny_bindName (i7 I4 hN hi (.inl hx) rv (fun s3 I5=>assignInOrder_nil (QW ?_)) (.inr hx)));rw[List.set_comm _ _ (Ne.symm hij)]at I5;exact#[_,H1,I5,q1]
abbrev Fj(i:Nat)(te:TE)(ti:TIp):TS:=fun D Y H=>∃ x,Y[i]?=some (some x)/\te Y H fun y H1=>ti x y H1 fun z H2=>D.nx (Y.set i (some z)) H2
def F6(hN:X.N.Nodup)(hi:X.N[i]?=some x)(hx:Loc X.env.scope x)(he:PE X e te)(ho:PIp X op ti)(hf:X.fn x=true\/X.env.scope.names.lookup x=some .local) :
  PS X (.AugAssign (.Name x pos') op e pos) (Fj i te ti):=by
 intro pins s Y H D I h;obtain⟨v,e1,h⟩:=h;obtain⟨m,hn,hl⟩:=I.loc
 have vis:Vis X.env.scope x:=by rcases hx with k | k;exact .inl k;exact .inr (.inl k)
 obtain⟨u,r,l⟩:=hl i x v hi e1 vis;refine wpAny_AugAssign_Name ?_
 have go:wpAny (model X.prog X.w) X.A (eval e X.env) (fun w s₂=>wpAny (model X.prog X.w) X.A (inplaceOp op u w) (fun r s₃=>wpAny (model X.prog X.w) X.A (storeName X.env x r) (fun _=>SP X pins D .next) X.xe s₃) X.xe s₂) X.xe s:=by
  refine thn (he pins s Y H _ I h) fun w s1 ⟨y,H1,I1,r1,q1⟩=>?_;refine thn (ho pins s1 Y H1 v y u w _ I1 r r1 q1) fun z s2 ⟨zv,H2,I2,r2,q2⟩=>?_;exact i7 I2 hN hi hx r2 (fun s3 I3=>#[_,H2,I3,q2]) hf
 rcases l with⟨hk,hm⟩ | ⟨hk,c,hc,hcell⟩
 ·exact wpAny_loadName_local I.ok.kind hk hn hm go
 ·rcases hk with hk | hk
  ·exact wpAny_loadName_cell I.ok.kind hk hc hcell go
  ·rcases hx with k | k
   ·have:X.env.scope.names.lookup x=some .free:=hk;rw[k]at this;cases this
   ·have:X.env.scope.names.lookup x=some .free:=hk;rw[k]at this;cases this
abbrev ipI(f:Int->Int->Int):TIp:=fun x y H Q=>∃ i j,x=.int i/\y=.int j/\Q (.int (f i j)) H
def E4:PIp X .Add (ipI fun i j=>i+j):=by
 intro pins s Y H x y v u Q I r1 r2 h;obtain⟨i,j,e1,e2,q⟩:=h;subst e1;subst e2;obtain⟨t,rfl⟩:=r1;obtain⟨t',rfl⟩:=r2;exact iadd_int ⟨.int _,H,I.tok _,⟨_,rfl⟩,q⟩
end
section
variable{X:Cx}{pos:Pos}
abbrev HV(c:TT)(tb:TS):TS:=fun D Y H=>∃ W:Nat->St->Hp->Prop,(∃ m,W m Y H)/\∀ m Y H,W m Y H ->
 c Y H fun b H1=>if b=true then ∃ N:St->Hp->Prop,(∀ Zz H',N Zz H'->∃ m',m'<m/\W m' Zz H')/\tb { D with nx:=N,ct:=N,bk:=D.nx } Y H1 else D.nx Y H1
def zH(hp:PassesOwn (model X.prog X.w) X.A X.env X.xe)(hc:PT X c tc)(hb:PSs X body tb):PS X (.While c body [] pos) (HV tc tb):=by
 intro pins s Y H D I h;obtain⟨W,⟨m0,w0⟩,turn⟩:=h;refine wpAny_While (codeAny_whileLoop (fun n s'=>∃ Zz H',Inv X pins Zz H' s'/\W n Zz H') ?_ m0 ⟨Y,H,I,w0⟩);rintro n s1 ⟨ZA,H1,I1,w1⟩;refine wpAny_passesOwn hp (thn (hc pins s1 ZA H1 _ I1 (turn n ZA H1 w1)) fun b s2 ⟨H2,I2,q2⟩=>?_)
 cases b with
 |true=>
  obtain⟨N,hN,q2⟩:=q2;rw[if_pos rfl];refine wpAny_passesOwn hp (thn (hb pins s2 ZA H2 _ I2 q2) fun f s3 q3=>?_)
  cases f with
  |next=>
   obtain⟨ZE,H3,I3,n3⟩:=q3;obtain⟨m',hm,w3⟩:=hN ZE H3 n3;exact#[m',hm,ZE,H3,I3,w3]
  |cont=>
   obtain⟨ZE,H3,I3,n3⟩:=q3;obtain⟨m',hm,w3⟩:=hN ZE H3 n3;exact#[m',hm,ZE,H3,I3,w3]
  | brk=>exact q3
  | ret v=>exact q3
 |false=>
  rw[if_neg Q3];exact wpAny_execs_nil ⟨ZA,H2,I2,q2⟩
end
structure It where
 go:Nat->Hp->Prop
 yld:Nat->Hp->V->Hp->Prop
 stop:Nat->Hp->Prop
abbrev kG(X:Cx)(pins:List (Addr × Obj))(H:Hp)(b:Addr):Prop :=
 H b=none/\b≠X.env.locals/\b∉X.fs/\(b∈X.ex\/X.s₀.heap.objs.size<=b)/\(∀ x c,X.env.cells.lookup x=some c->c≠b)/\∀ p∈X.pn++pins,p.1≠b
def Inv.pG(I:Inv X pins Y H s)(hb:s.heap.objs.size<=b)(hn:H' b=none):kG X pins H' b:=by
 refine#[hn,Nat.ne_of_gt (Q0 I.lt hb),I.Jo hb,.inr (Za I.sz hb),fun x c e z=>?_,fun p hp z=>?_]
 ·obtain⟨v,q⟩:=I.cell x c e;exact absurd (Q0 q.lt (by rw[z];exact hb)) (Zw _)
 ·exact absurd (Q0 (QY (I.pin p hp).1) (by rw[z];exact hb)) (Zw _)
structure nJ(CM:Cx->Prop)(P:Program)(w:World)(K:W.Frag)(tg:Expr)(J:It)(fp:List Addr)(it:Addr)(tn:Nat->Heap->Prop):Prop where
 mem:it∈fp
 obj:∀ i h,tn i h->∀ b∈fp,∃ o,h.get? b=some o/\∀ v,o.data≠.cell v
 keep:∀ i h h',tn i h->(∀ b∈fp,∀ o,h.get? b=some o->h'.get? b=some o)->tn i h'
 item:∀ (X:Cx),X.prog=P->X.w=w->X.K=K->CM X->∀ (i:Nat) (pins:List (Addr × Obj)) (s:Shared) (Y:St) (H:Hp) (E:Value->Shared->Prop),Inv X pins Y H s->(∀ b∈fp,kG X pins H b)->tn i s.heap->J.go i H ->
  wpAny (model P w) X.A (pyNext (.ref it)) (fun r s1=>∃ u,r=some u /\
   wpAny (model P w) X.A (letOwnedTupleGo tg (.ref it) u) (fun _ s2=>∃ x H',Inv X pins Y H' s2/\RelV x u/\J.yld i H x H'/\tn (i+1) s2.heap/\∀ b∈fp,H' b=none) E s1) E s
 done:∀ (X:Cx),X.prog=P->X.w=w->X.K=K->CM X->∀ (i:Nat) (pins:List (Addr × Obj)) (s:Shared) (Y:St) (H:Hp) (E:Value->Shared->Prop),Inv X pins Y H s->(∀ b∈fp,kG X pins H b)->tn i s.heap->J.stop i H ->
  wpAny (model P w) X.A (pyNext (.ref it)) (fun r s1=>r=none/\Inv X pins Y H s1) E s
 self:∀ (A:Around) (i:Nat) (s:Shared) (Q:Value->Shared->Prop) (E:Value->Shared->Prop),tn i s.heap->Q (.ref it) s->wpAny (model P w) A (pyIter (.ref it)) Q E s
@[reducible]noncomputable def Calm:Cx->Prop:=fun X=>X.calm=true
@[reducible]noncomputable def Turn:=nJ Calm
@[reducible]noncomputable def TI:=St->Hp->(It->Hp->Prop)->Prop
abbrev GK(CM:Cx->Prop)(X:Cx)(pins:List (Addr × Obj))(Y:St)(tg:Expr)(R:It->Hp->Prop)(itv:Value)(s2:Shared):Prop :=
 ∃ (it:Addr) (fp:List Addr) (tn:Nat->Heap->Prop) (J:It) (H':Hp),itv=.ref it/\Inv X pins Y H' s2/\nJ CM X.prog X.w X.K tg J fp it tn/\tn 0 s2.heap/\(∀ b∈fp,kG X pins H' b)/\R J H'
@[reducible]noncomputable def PIE:=GK Calm
abbrev PI'(CM:Cx->Prop)(X:Cx)(tg iter:Expr)(wi:TI):Prop :=
 ∀ (pins:List (Addr × Obj)) (s:Shared) (Y:St) (H:Hp) (R:It->Hp->Prop),Inv X pins Y H s->wi Y H R ->
  wpAny (model X.prog X.w) X.A (eval iter X.env) (fun v s1=>wpAny (model X.prog X.w) X.A (pyIter v) (GK CM X pins Y tg R) X.xe s1) X.xe s
@[reducible]noncomputable def PI:=PI' Calm
def qO(ho:s.heap.get? it=some o)(hc:o.cls=.type n)(hd:o.data=.fields vs)
 (hn:["enumerate", "zip", "dict_itemiterator", "dict_reverseitemiterator", "odict_iterator", "itertools.zip_longest", "itertools.pairwise"].contains n=false)(hQ:Q () s):wpAny M A (letOwnedTupleGo tg (.ref it) u) Q E s:=by
 unfold letOwnedTupleGo
 cases tg<;>first
  | exact QW hQ
  | (cases u<;>first
    | exact QW hQ
    | (refine QT (wpAny_load ho ?_)
       rw[hc,hd];show wpAny M A (if(["enumerate", "zip", "dict_itemiterator", "dict_reverseitemiterator", "odict_iterator", "itertools.zip_longest", "itertools.pairwise"].contains n&&vs[0]? == some (rawInt _))=true then _ else _) Q E s;rw[if_neg (by intro h;rw[hn,Bool.false_and]at h;cases h)]
       exact QW hQ))
abbrev Itl(K:W.Frag)(a:Addr):It :=
 ⟨fun i H=>∃ xs x,SqL K H a xs/\xs[i]?=some x,fun i H x H'=>H'=H/\∀ xs,SqL K H a xs->xs[i]?=some x,fun i H=>∃ xs,SqL K H a xs/\xs.length<=i⟩
abbrev Itt(K:W.Frag)(a:Addr):It :=
 ⟨fun i H=>∃ xs x,SqT K H a xs/\xs[i]?=some x,fun i H x H'=>H'=H/\∀ xs,SqT K H a xs->xs[i]?=some x,fun i H=>∃ xs,SqT K H a xs/\xs.length<=i⟩
abbrev Itr(lo:Int)(n:Nat):It:=#[fun i _=>i<n,fun i H x H'=>H'=H/\x=.int (lo+i),fun i _=>n<=i]
def zh{P:Program}{w:World}{K:W.Frag}(a it:Addr):Turn P w K tg (Itl K a) [it] it (fun i h=>h.IsListIter it a i) where
 mem:=by simp
 obj:=fun i h st b hb=>by
  have e:b=it:=by simpa using hb
  subst e;obtain⟨o,e,c,d⟩:=st;exact⟨o,e,fun v z=>by rw[d]at z;cases z⟩
 keep:=fun i h h' st k=>st.at fun o e=>k it (by simp) o e
 item:=by
  intro X hP hw hK hc i pins s Y H E I hf st hg;subst hP hw hK;obtain⟨xs,x,hq,hx⟩:=hg;obtain⟨its,rv,p,hz⟩:=I.list hq;obtain⟨u,hu,ru⟩:=rv.get hx;obtain⟨f0,f1,f2,f3,f4,f5⟩:=hf it (by simp);refine wpAny_pyNext_list_item st p.isList (x:=u) (by simpa using hu) fun h' st' sb=>?_;have I1:Inv X pins Y H { s with heap:=h' }:=I.turned (t':=s.toks) (fun b o hb e=>(sb.2 b hb).trans e) f0 f1 f3 f4 f5;obtain⟨o,e,c,d⟩:=id st';exact#[u,rfl,qO (s:={ s with heap:=h' }) e c d ∅ #[x,H,I1,ru,#[rfl,fun ys hy=>by rw[I.Bd hy hq];exact hx],st',fun b hb=>(hf b hb).1]]
 done:=by
  intro X hP hw hK hc i pins s Y H E I hf st hg;subst hP hw hK;obtain⟨xs,hq,hx⟩:=hg;obtain⟨its,rv,p,hz⟩:=I.list hq;obtain⟨f0,f1,f2,f3,f4,f5⟩:=hf it (by simp);have hl:=rv.length
  exact wpAny_pyNext_list_end (I.ok.hd.1 hc) st p.isList (by simp;omega) fun h' eb=>#[rfl,I.turned (t':=s.toks) (fun b o hb e=>eb b o hb e) f0 f1 f3 f4 f5]
 self:=fun _ _ _ _ _ st h=>wpAny_pyIter_listiter st h
def wa{P:Program}{w:World}{K:W.Frag}(a it:Addr):Turn P w K tg (Itt K a) [it] it (fun i h=>h.IsTupleIter it a i) where
 mem:=by simp
 obj:=fun i h st b hb=>by
  have e:b=it:=by simpa using hb
  subst e;obtain⟨o,e,c,d⟩:=st;exact⟨o,e,fun v z=>by rw[d]at z;cases z⟩
 keep:=fun i h h' st k=>st.at fun o e=>k it (by simp) o e
 item:=by
  intro X hP hw hK hc i pins s Y H E I hf st hg;subst hP hw hK;obtain⟨xs,x,hq,hx⟩:=hg;obtain⟨its,rv,p,hz⟩:=I.tuple hq;obtain⟨u,hu,ru⟩:=rv.get hx;obtain⟨f0,f1,f2,f3,f4,f5⟩:=hf it (by simp);refine wpAny_pyNext_tuple_item st (show s.heap.IsTuple a its.toArray from p) (x:=u) (by simpa using hu) fun h' st' sb=>?_;have I1:Inv X pins Y H { s with heap:=h' }:=I.turned (t':=s.toks) (fun b o hb e=>(sb.2 b hb).trans e) f0 f1 f3 f4 f5;obtain⟨o,e,c,d⟩:=id st';exact#[u,rfl,qO (s:={ s with heap:=h' }) e c d ∅ #[x,H,I1,ru,#[rfl,fun ys hy=>by rw[I.xR hy hq];exact hx],st',fun b hb=>(hf b hb).1]]
 done:=by
  intro X hP hw hK hc i pins s Y H E I hf st hg;subst hP hw hK;obtain⟨xs,hq,hx⟩:=hg;obtain⟨its,rv,p,hz⟩:=I.tuple hq;obtain⟨f0,f1,f2,f3,f4,f5⟩:=hf it (by simp);have hl:=rv.length
  exact wpAny_pyNext_tuple_end (I.ok.hd.1 hc) st (show s.heap.IsTuple a its.toArray from p) (by simp;omega) fun h' eb=>#[rfl,I.turned (t':=s.toks) (fun b o hb e=>eb b o hb e) f0 f1 f3 f4 f5]
 self:=fun _ _ _ _ _ st h=>wpAny_pyIter_tupleiter st h
def vU{P:Program}{w:World}{K:PySem.W.Frag}(it:Addr)(lo:Int)(n:Nat):Turn P w K tg (Itr lo n) [it] it (fun i h=>IsRangeIter h it (lo+(i:Nat)*1) ((n:Int)-(i:Nat)) 1) where
 mem:=by simp
 obj:=fun i h st b hb=>by
  have e:b=it:=by simpa using hb
  subst e
  exact⟨_,st,fun v z=>by
   have z':Data.fields _=Data.cell v:=z
   cases z'⟩
 keep:=fun i h h' st k=>k it (by simp) _ st
 item:=by
  intro X hP hw hK hc i pins s Y H E I hf st hg;subst hP hw hK;obtain⟨f0,f1,f2,f3,f4,f5⟩:=hf it (by simp);have W:=Walks.range (prog:=X.prog) (w:=X.w) (I.ok.hd.1 hc) it lo 1 n;refine W.item i s _ _ hg st fun v h' tk hv st' kk=>?_;obtain⟨t,rfl⟩:=hv;have I1:Inv X pins Y H { s with heap:=h',toks:=tk }:=I.turned (fun b o hb e=>kk b o (by simpa using hb) e) f0 f1 f3 f4 f5;refine#[_,rfl,qO (s:={ s with heap:=h',toks:=tk }) (n := "range_iterator") st' rfl rfl ∅ #[.int (lo+i),H,I1,#[t,?_],#[rfl,rfl],st',fun b hb=>(hf b hb).1]];rw[Int.mul_one]
 done:=by
  intro X hP hw hK hc i pins s Y H E I hf st hg;subst hP hw hK;obtain⟨f0,f1,f2,f3,f4,f5⟩:=hf it (by simp)
  exact wpAny_pyNext_range_end (I.ok.hd.1 hc) st (by have:n<=i:=hg;omega) fun h' eb=>#[rfl,I.turned (t':=s.toks) (fun b o hb e=>eb b o hb e) f0 f1 f3 f4 f5]
 self:=fun _ _ _ _ _ st h=>wpAny_pyIter_rangeiter st h
section
variable{X:Cx}{tg:Expr}
def rA{pins:List (Addr × Obj)}{Y:St}{H:Hp}{s:Shared}{R:It->Hp->Prop}{E:Value->Shared->Prop}{lo hi:Int}{t u v:Tok}{tk:Nat}(I:Inv X pins Y H s)(h1:-(2 ^ 62)<=lo)(h2:lo<2 ^ 62)(h3:-(2 ^ 62)<=hi)(h4:hi<2 ^ 62)
 (q:R (Itr lo (hi-lo).toNat) H):wpAny (model X.prog X.w) X.A (pyIter (.ref s.heap.objs.size)) (PIE X pins Y tg R) E { s with heap:=s.heap.push { cls:=.type "range",data:=.fields (List.toArray [.int lo t,.int hi u,.int 1 v]) },toks:=tk }:=by
 refine wpAny_pyIter_range (IsRange.new ..) (small_one h1 h2 h3 h4) ?_;have I1:Inv X pins Y H { s with heap:=s.heap.push { cls:=.type "range",data:=.fields (List.toArray [.int lo t,.int hi u,.int 1 v]) },toks:=tk }:=I.kept fun b o e=>QU _ e
 refine⟨(s.heap.push { cls:=.type "range",data:=.fields (List.toArray [.int lo t,.int hi u,.int 1 v]) }).objs.size,[(s.heap.push { cls:=.type "range",data:=.fields (List.toArray [.int lo t,.int hi u,.int 1 v]) }).objs.size],_,_,H,rfl,
  I1.kept (t':=tk) fun b o e=>QU _ e,vU _ lo (hi-lo).toNat,?_,fun b hb=>?_,q⟩
 ·have e1:lo+((0:Nat):Int)*1=lo:=by simp
  have e2:(((hi-lo).toNat:Nat):Int)-((0:Nat):Int)=Builtin.Range.rangeSize lo hi 1:=by rw[rangeSize_one];split<;>omega
  show IsRangeIter _ _ (lo+((0:Nat):Int)*1) ((((hi-lo).toNat:Nat):Int)-((0:Nat):Int)) 1;rw[e1,e2];exact QX _ rfl
 ·have e:b=(s.heap.push { cls:=.type "range",data:=.fields (List.toArray [.int lo t,.int hi u,.int 1 v]) }).objs.size:=by simpa using hb
  subst e;exact I1.pG (QV _) (I1.hok.fresh (QV _))
abbrev Ie(ta:TA):TI:=fun Y H R=>ta Y H fun vs H1=>∃ j:Int,vs=[.int j]/\-(2 ^ 62)<=j/\j<2 ^ 62/\R (Itr 0 j.toNat) H1
abbrev II(ta:TA):TI:=fun Y H R=>ta Y H fun vs H1=>∃ i j:Int,vs=[.int i,.int j]/\(-(2 ^ 62)<=i/\i<2 ^ 62/\-(2 ^ 62)<=j/\j<2 ^ 62)/\R (Itr i (j-i).toNat) H1
def xX{a:Expr}{ta:TA}{p pos:Pos}(hg:Gl X "range")(hm:X.mg "range" = none)(ha:PA X [a] ta)(hs:starEach [a] X.env=[(false,eval a X.env)]):PI X tg (.Call (.Name "range" p) [a] [] pos) (Ie ta):=by
 intro pins s Y H R I h;refine Call_ (il I hg hm boot_range (PyProof.Rows.callWith_type1 (thn (ha pos pins s Y H _ I h) fun us s1 ⟨vs,H1,I1,r1,q1⟩=>?_) hs rfl) ∅ ∅);obtain⟨j,e,q1,q2,q⟩:=q1;subst e
 cases r1 with
 |cons r rr=>
  cases rr;obtain⟨t,rfl⟩:=r;exact call_range_1 (rA I1 (by omega) (by omega) q1 q2 (by simpa using q))
def x5(hg:Gl X "range")(hm:X.mg "range" = none)(ha:PA X [a,b] ta)(hs:starEach [a,b] X.env=[(false,eval a X.env),(false,eval b X.env)])(hs2:starEach [b] X.env=[(false,eval b X.env)]) :
  PI X tg (.Call (.Name "range" p) [a,b] [] pos) (II ta):=by
 intro pins s Y H R I h;refine Call_ (il I hg hm boot_range (PyProof.Rows.callWith_type1 (thn (ha pos pins s Y H _ I h) fun us s1 ⟨vs,H1,I1,r1,q1⟩=>?_) (by rw[hs,hs2]) (by rw[hs2];rfl)) ∅ ∅);obtain⟨i,j,e,⟨q1,q2,q3,q4⟩,q⟩:=q1;subst e
 cases r1 with
 |cons r rr=>
  cases rr with
  |cons r' rr=>
   cases rr;obtain⟨t,rfl⟩:=r;obtain⟨t',rfl⟩:=r';exact call_range_2 (rA I1 q1 q2 q3 q4 q)
abbrev JW(wi:TI)(g:TG)(tb:TS):TS:=fun D Y H=>wi Y H fun J H1=>∃ W:Nat->Nat->St->Hp->Prop,(∃ m,W 0 m Y H1)/\∀ i m Y H,W i m Y H ->
 (J.stop i H/\D.nx Y H)\/(J.go i H/\∃ N:St->Hp->Prop,(∀ Zz H',N Zz H'->∃ m',m'<m/\W (i+1) m' Zz H')/\∀ x H',J.yld i H x H'->g x Y H' fun ZC H2=>tb { D with nx:=N,ct:=N,bk:=D.nx } ZC H2)
abbrev la(fp:List Addr)(h:Heap):List (Addr × Obj):=fp.filterMap fun b=>(h.get? b).map fun o=>(b,o)
def gR(hb:b∈fp)(e:h.get? b=some o):(b,o)∈la fp h:=List.mem_filterMap.mpr ⟨b,hb,by rw[e];rfl⟩
def yU(hp:p∈la fp h):p.1∈fp/\h.get? p.1=some p.2:=by
 obtain⟨b,hb,e⟩:=List.mem_filterMap.mp hp
 cases q:h.get? b with
 | none=>rw[q]at e;cases e
 |some o=>
  rw[q]at e;have e':(b,o)=p:=Option.some.inj e;subst e';exact#[hb,q]
def Inv.pinned(I:Inv X pins Y H s)(hf:∀ b∈fp,kG X pins H b)(ho:∀ b∈fp,∃ o,s.heap.get? b=some o/\∀ v,o.data≠.cell v):Inv X (pins++la fp s.heap) Y H s :=
 I.uB fun p hp=>(List.mem_append.mp hp).elim (fun z=>I.pin p (Q7 _ z)) fun z=>by
  obtain⟨hb,e⟩:=yU z;obtain⟨f0,f1,f2,_⟩:=hf p.1 hb;obtain⟨o,e',d⟩:=ho p.1 hb;rw[e]at e';cases e';exact#[e,f0,f1,f2,d]
def Inv.jX(I:Inv X (pins++pl) Y H s):Inv X pins Y H s:=I.uB fun p hp=>I.pin p (Q7 _ (List.mem_append_left _ hp))
def GU(hp:PassesOwn (model X.prog X.w) X.A X.env X.xe)(hc:X.calm=true)(hi:PI X tg iter wi)(hg:PG X tg g)(hb:PSs X body tb)
 (hs:∀ x,foldedSetIterable iter X.env x=pure x):PS X (.For tg iter body [] pos) (JW wi g tb):=by
 intro pins s Y H D I h;refine wpAny_For (thn (hi pins s Y H _ I h) fun v s1 h1=>thn h1 fun itv s2 h2=>?_) hs;obtain⟨it,fp,tn,J,H2,e,I2,T,st2,f2,W,⟨m0,w0⟩,turn⟩:=h2;subst e
 have stat:∀ {H':Hp},(∀ b∈fp,H' b=none)->∀ b∈fp,kG X pins H' b:=fun hn b hb=>#[hn b hb,(f2 b hb).2]
 refine codeAny_forLoop_any (fun n s'=>∃ i Zz H',Inv X pins Zz H' s'/\tn i s'.heap/\(∀ b∈fp,H' b=none)/\W i n Zz H') ?_ m0 ⟨0,Y,H2,I2,st2,fun b hb=>(f2 b hb).1,w0⟩;rintro n s3 ⟨i,ZE,H3,I3,st3,fr3,w3⟩
 rcases turn i n ZE H3 w3 with⟨stop,qn⟩ | ⟨go,N,hN,step⟩
 ·refine wpAny_passesOwn hp (thn (T.done X rfl rfl rfl hc i pins s3 ZE H3 X.xe I3 (stat fr3) st3 stop) fun r s4 ⟨hr,I4⟩=>?_);subst hr;exact wpAny_execs_nil ⟨ZE,H3,I4,qn⟩
 ·refine wpAny_passesOwn hp (thn (T.item X rfl rfl rfl hc i pins s3 ZE H3 X.xe I3 (stat fr3) st3 go) fun r s4 ⟨u,hr,h4⟩=>?_);subst hr;refine wpAny_passesOwn hp (thn h4 fun _ s5 ⟨x,H5,I5,r5,y5,st5,fr5⟩=>?_);have I5':=I5.pinned (stat fr5) (T.obj _ _ st5);refine wpAny_passesOwn hp (thn (hg _ s5 ZE H5 x u _ I5' r5 (step x H5 y5)) fun _ s6 ⟨ZP,H6,I6,q6⟩=>?_);refine wpAny_passesOwn hp (thn (hb _ s6 ZP H6 _ I6 q6) fun f s7 q7=>?_)
  have again:∀ {ZG:St} {H7:Hp},Inv X (pins++la fp s5.heap) ZG H7 s7->N ZG H7->∃ m,m<n/\∃ i Zz H',Inv X pins Zz H' s7/\tn i s7.heap/\(∀ b∈fp,H' b=none)/\W i m Zz H':=fun {ZG H7} I7 n7=>by
   obtain⟨m',hm,w7⟩:=hN ZG H7 n7;refine#[m',hm,i+1,ZG,H7,I7.jX,T.keep _ _ _ st5 fun b hb o e=>(I7.pin (b,o) (Q7 _ (Q7 _ (gR hb e)))).1,fun b hb=>?_,w7];obtain⟨o,e,d⟩:=T.obj _ _ st5 b hb;exact(I7.pin (b,o) (Q7 _ (Q7 _ (gR hb e)))).2.1
  cases f with
  | next=>obtain⟨ZG,H7,I7,n7⟩:=q7;exact again I7 n7
  | cont=>obtain⟨ZG,H7,I7,n7⟩:=q7;exact again I7 n7
  | brk=>obtain⟨ZG,H7,I7,q7⟩:=q7;exact#[ZG,H7,I7.jX,q7]
  | ret v=>obtain⟨x7,ZG,H7,I7,r7,q7⟩:=q7;exact#[x7,ZG,H7,I7.jX,r7,q7]
end
@[reducible]noncomputable def R2:=V->V->Hp->VK->Prop
abbrev OpR(X:Cx)(f:Value->Value->Sem Value)(r:R2):Prop :=
 ∀ (pins:List (Addr × Obj)) (s:Shared) (Y:St) (H:Hp) (x y:V) (v u:Value) (Q:VK),Inv X pins Y H s->RelV x v->RelV y u->r x y H Q ->
  wpAny (model X.prog X.w) X.A (f v u) (EP X pins Y Q) X.xe s
abbrev UnR(X:Cx)(f:Value->Sem Value)(r:V->Hp->VK->Prop):Prop :=
 ∀ (pins:List (Addr × Obj)) (s:Shared) (Y:St) (H:Hp) (x:V) (v:Value) (Q:VK),Inv X pins Y H s->RelV x v->r x H Q ->
  wpAny (model X.prog X.w) X.A (f v) (EP X pins Y Q) X.xe s
abbrev bC(X:Cx)(f:Value)(r:List V->Hp->VK->Prop):Prop :=
 ∀ (pins:List (Addr × Obj)) (s:Shared) (Y:St) (H:Hp) (xs:List V) (us:List Value) (Q:VK),Inv X pins Y H s->Vals xs us->r xs H Q ->
  wpAny (model X.prog X.w) X.A (call f us) (EP X pins Y Q) X.xe s
abbrev J4(X:Cx)(r:V->Hp->(Bool->Hp->Prop)->Prop):Prop :=
 ∀ (pins:List (Addr × Obj)) (s:Shared) (Y:St) (H:Hp) (x:V) (v:Value) (Q:Bool->Hp->Prop),Inv X pins Y H s->RelV x v->r x H Q ->
  wpAny (model X.prog X.w) X.A (truthy v) (TP X pins Y Q) X.xe s
abbrev tOp(r:R2)(ta tb:TE):TE:=fun Y H Q=>ta Y H fun x H1=>tb Y H1 fun y H2=>r x y H2 Q
abbrev tUn(r:V->Hp->VK->Prop)(ta:TE):TE:=fun Y H Q=>ta Y H fun x H1=>r x H1 Q
abbrev rI(C:Int->Int->Prop)(g:Int->Int->V):R2:=fun x y H Q=>∃ i j,x=.int i/\y=.int j/\C i j/\Q (g i j) H
abbrev rI0(g:Int->Int->V):R2:=fun x y H Q=>∃ i j,x=.int i/\y=.int j/\Q (g i j) H
abbrev rU(g:Int->V):V->Hp->VK->Prop:=fun x H Q=>∃ i,x=.int i/\Q (g i) H
section
variable{X:Cx}{a b c:Expr}{ta tb tc:TE}{pos:Pos}
def A7(ha:PE X a ta)(hb:PE X b tb){pins:List (Addr × Obj)}{s:Shared}{Y:St}{H:Hp}{R:V->V->Hp->Prop}(I:Inv X pins Y H s)
 (h:ta Y H fun x H1=>tb Y H1 fun y H2=>R x y H2){Q:Value->Shared->Prop}{f:Value->Value->Sem Value}
 (hf:∀ v u s2 x y H2,Inv X pins Y H2 s2->RelV x v->RelV y u->R x y H2->wpAny (model X.prog X.w) X.A (f v u) Q X.xe s2) :
  wpAny (model X.prog X.w) X.A (eval a X.env) (fun v s₁=>wpAny (model X.prog X.w) X.A (eval b X.env) (fun u s₂=>wpAny (model X.prog X.w) X.A (f v u) Q X.xe s₂) X.xe s₁) X.xe s:=by
 refine thn (ha pins s Y H _ I h) fun v s1 ⟨x,H1,I1,r1,q1⟩=>?_;refine thn (hb pins s1 Y H1 _ I1 q1) fun u s2 ⟨y,H2,I2,r2,q2⟩=>?_;exact hf v u s2 x y H2 I2 r1 r2 q2
def Io{op:Operator}{r:R2}(ho:OpR X (binaryOp op) r)(ha:PE X a ta)(hb:PE X b tb):PE X (.BinOp a op b pos) (tOp r ta tb):=by
 k_ne;exact wpAny_BinOp (A7 ha hb I h fun v u s2 x y H2 I2 rx ry q=>ho pins s2 Y H2 x y v u Q I2 rx ry q)
def BQ(ho:UnR X (unaryOp op) r)(ha:PE X a ta):PE X (.UnaryOp op a pos) (tUn r ta):=by
 k_ne;exact UnaryOp_ (thn (ha pins s Y H _ I h) fun v s1 ⟨x,H1,I1,r1,q1⟩=>ho pins s1 Y H1 x v Q I1 r1 q1)
def opI{f:Value->Value->Sem Value}{C:Int->Int->Prop}{g:Int->Int->Int}
 (rule:∀ (i j:Int) (t u:Tok) (s:Shared) (Q:Value->Shared->Prop) (E:Value->Shared->Prop),C i j->Q (.int (g i j) s.toks) { s with toks:=s.toks+1 }->wpAny (model X.prog X.w) X.A (f (.int i t) (.int j u)) Q E s) :
  OpR X f (rI C fun i j=>.int (g i j)):=by
 intro pins s Y H x y v u Q I rx ry h;obtain⟨i,j,rfl,rfl,hc,q⟩:=h;obtain⟨t,rfl⟩:=rx;obtain⟨t',rfl⟩:=ry;exact rule i j t t' s _ _ hc ⟨.int (g i j),H,I.tok _,⟨_,rfl⟩,q⟩
def Eo{f:Value->Value->Sem Value}{g:Int->Int->Int}
 (rule:∀ (i j:Int) (t u:Tok) (s:Shared) (Q:Value->Shared->Prop) (E:Value->Shared->Prop),Q (.int (g i j) s.toks) { s with toks:=s.toks+1 }->wpAny (model X.prog X.w) X.A (f (.int i t) (.int j u)) Q E s) :
  OpR X f (rI0 fun i j=>.int (g i j)):=by
 intro pins s Y H x y v u Q I rx ry h;obtain⟨i,j,rfl,rfl,q⟩:=h;obtain⟨t,rfl⟩:=rx;obtain⟨t',rfl⟩:=ry;exact rule i j t t' s _ _ ⟨.int (g i j),H,I.tok _,⟨_,rfl⟩,q⟩
abbrev GA(i j:Int):Prop:=0<=j/\j<=1000000/\i.natAbs<2 ^ 64
abbrev we(i j:Int):Prop:=(-(2 ^ 64)<i/\i<2 ^ 64)\/(-(2 ^ 64)<j/\j<2 ^ 64)
def we.ok(h:we i j):IntMulOk i j:=by
 rcases h with⟨h1,h2⟩ | ⟨h1,h2⟩
 ·exact .of_left (intBits_le_64 h1 h2)
 ·exact .of_right (intBits_le_64 h1 h2)
def Hc:OpR X (binaryOp .Add) (rI0 fun i j=>.int (i+j)):=Eo fun _ _ _ _ _ _ _ q=>add_int q
def Ft:OpR X (binaryOp .Sub) (rI0 fun i j=>.int (i-j)):=Eo fun _ _ _ _ _ _ _ q=>sub_int q
def Hk:OpR X (binaryOp .Mult) (rI we fun i j=>.int (i*j)):=opI fun _ _ _ _ _ _ _ hc q=>mul_int q hc.ok
def Fc:OpR X (binaryOp .Mod) (rI (fun _ j=>0<j) fun i j=>.int (i%j)):=opI fun i j _ _ _ _ _ hc q=>by
 have h1:(0:Int)<j:=hc;exact mod_int' (by omega) (by rw[Int.fmod_eq_emod_of_nonneg i (by omega)];exact q)
def FG:OpR X (binaryOp .Pow) (rI GA fun i j=>.int (i ^ j.toNat)):=opI fun _ _ _ _ _ _ _ hc q=>pow_int_small hc.1 hc.2.1 hc.2.2 q
def unI{f:Value->Sem Value}{g:Int->Int}
 (rule:∀ (i:Int) (t:Tok) (s:Shared) (Q:Value->Shared->Prop) (E:Value->Shared->Prop),Q (.int (g i) s.toks) { s with toks:=s.toks+1 }->wpAny (model X.prog X.w) X.A (f (.int i t)) Q E s) :
  UnR X f (rU fun i=>.int (g i)):=by
 intro pins s Y H x v Q I rx h;obtain⟨i,rfl,q⟩:=h;obtain⟨t,rfl⟩:=rx;exact rule i t s _ _ ⟨.int (g i),H,I.tok _,⟨_,rfl⟩,q⟩
def yo:UnR X (unaryOp .USub) (rU fun i=>.int (-i)):=unI fun _ _ _ _ _ q=>neg_int q
end
abbrev JA:V->V->Bool
 | .non,.non=>true | .non,.int _=>true | .int _,.non=>true | .non,.bl _=>true | .bl _,.non=>true | .non,.str _=>true | .str _,.non=>true
 | .int _,.int _=>true | .bl _,.bl _=>true | .str _,.str _=>true | .byt _,.byt _=>true
 | .int _,.str _=>true | .str _,.int _=>true | .bl _,.str _=>true | .str _,.bl _=>true
 | _,_=>false
abbrev rNe:R2:=fun x y H Q=>JA x y=true/\Q (.bl (!decide (x=y))) H
def Cs:decide (V.int i=V.int j)=(i == j):=by
 rw[Zd];simp
def FZ:decide (V.bl i=V.bl j)=(i == j):=by
 rw[Zd];simp
def DL:decide (V.str i=V.str j)=(i == j):=by
 rw[Zd];simp
def CO:decide (V.byt i=V.byt j)=(i.toList == j.toList):=by
 rw[Zd];cases i;cases j;simp
section
variable{X:Cx}{a b c:Expr}{ta tb tc:TE}{pos:Pos}
def bX(I:Inv X pins Y H s)(q:Q (.bl k) H)(e:k=k'):EP X pins Y Q (.bool k') s:=by
 subst e;exact#[.bl k,H,I,rfl,q]
def Im:OpR X (compareOp .NotEq) rNe:=by
 intro pins s Y H x y v u Q I rx ry h;obtain⟨hs,q⟩:=h
 cases x with
 |non=>
  cases rx
  cases y with
  | non=>cases ry;exact PySem.EqNone.ne_none_none (bX I q (by simp))
  | bl j=>cases ry;exact PySem.EqNone.ne_none_bool (bX I q (by simp))
  | int j=>obtain⟨t',rfl⟩:=ry;exact PySem.EqNone.ne_none_int (bX I q (by simp))
  | str j=>obtain⟨t',rfl⟩:=ry;exact PySem.EqNone.ne_none_str (bX I q (by simp))
  | _=>exact absurd (show false=true from hs) Q3
 |bl i=>
  cases rx
  cases y with
  | non=>cases ry;exact PySem.EqNone.ne_bool_none (bX I q (by simp))
  | bl j=>cases ry;exact ne_bool (bX I q (congrArg not FZ))
  | str j=>obtain⟨t',rfl⟩:=ry;exact PySem.EqMixed.ne_bool_str (bX I q (by simp))
  | _=>exact absurd (show false=true from hs) Q3
 |int i=>
  obtain⟨t,rfl⟩:=rx
  cases y with
  | non=>cases ry;exact PySem.EqNone.ne_int_none (bX I q (by simp))
  | int j=>obtain⟨t',rfl⟩:=ry;exact ne_int (bX I q (congrArg not Cs))
  | str j=>obtain⟨t',rfl⟩:=ry;exact PySem.EqMixed.ne_int_str (bX I q (by simp))
  | _=>exact absurd (show false=true from hs) Q3
 |str i=>
  obtain⟨t,rfl⟩:=rx
  cases y with
  | non=>cases ry;exact PySem.EqNone.ne_str_none (bX I q (by simp))
  | bl j=>cases ry;exact PySem.EqMixed.ne_str_bool (bX I q (by simp))
  | int j=>obtain⟨t',rfl⟩:=ry;exact PySem.EqMixed.ne_str_int (bX I q (by simp))
  | str j=>obtain⟨t',rfl⟩:=ry;exact ne_str (bX I q (congrArg not DL))
  | _=>exact absurd (show false=true from hs) Q3
 |byt i=>
  obtain⟨t,rfl⟩:=rx
  cases y with
  | byt j=>obtain⟨t',rfl⟩:=ry;exact W.ne_bytes (bX I q (congrArg not CO))
  | _=>exact absurd (show false=true from hs) Q3
 | _=>cases y<;>exact absurd (show false=true from hs) Q3
def FP:OpR X (compareOp .Is) (fun x y H Q=>y=.non/\Q (.bl (decide (x=.non))) H):=by
 intro pins s Y H x y v u Q I rx ry h;obtain⟨rfl,q⟩:=h;cases ry;refine is_none_gen (bX I q ?_)
 cases x<;>first
  | (cases rx;rfl)
  | (obtain⟨t,rfl⟩:=rx;rfl)
def Di:OpR X (compareOp .IsNot) (fun x y H Q=>y=.non/\Q (.bl (!decide (x=.non))) H):=by
 intro pins s Y H x y v u Q I rx ry h;obtain⟨rfl,q⟩:=h;cases ry;refine isnot_none_gen (bX I q ?_)
 cases x<;>first
  | (cases rx;rfl)
  | (obtain⟨t,rfl⟩:=rx;rfl)
def OpR.or(h:OpR X f r)(h':OpR X f r'):OpR X f (fun x y H Q=>r x y H Q\/r' x y H Q):=by
 intro pins s Y H x y v u Q I rx ry q;rcases q with q | q
 ·exact h pins s Y H x y v u Q I rx ry q
 ·exact h' pins s Y H x y v u Q I rx ry q
def sD(b:Expr)(h:op≠.In)(h2:op≠.NotIn):behindInMarks op b=false:=by
 have e1:(op == CmpOp.In)=false:=by cases op<;>first | rfl | exact absurd rfl h
 have e2:(op == CmpOp.NotIn)=false:=by cases op<;>first | rfl | exact absurd rfl h2
 cases b<;>simp[behindInMarks,e1,e2]
def pO{op:CmpOp}{r:R2}(ho:OpR X (compareOp op) r)(ha:PE X a ta)(hb:PE X b tb)(hm:behindInMarks op b=false):PE X (.Compare a [op] [b] pos) (tOp r ta tb):=by
 k_ne;exact wpAny_Compare1 (A7 ha hb I h fun v u s2 x y H2 I2 rx ry q=>ho pins s2 Y H2 x y v u Q I2 rx ry q) hm
abbrev Bw(t:TE):TT:=fun Y H Q=>t Y H fun x H'=>∃ k,x=.bl k/\Q k H'
def ma(ho:OpR X (compareOp op) r)(ha:PE X a ta)(hb:PE X b tb)(hm:behindInMarks op b=false):PT X (.Compare a [op] [b] pos) (Bw (tOp r ta tb)):=by
 k_ne
 refine wpAny_isTrue_Compare1 (thn (ha pins s Y H _ I h) fun v s1 ⟨x,H1,I1,r1,q1⟩=>thn (hb pins s1 Y H1 _ I1 q1) fun u s2 ⟨y,H2,I2,r2,q2⟩ =>
  thn (ho pins s2 Y H2 x y v u _ I2 r1 r2 q2) fun c s3 ⟨z,H3,I3,r3,k,e,q3⟩=>?_) hm
 subst e;cases r3;exact wpAny_truthy_bool ⟨H3,I3,q3⟩
abbrev uj(r r':R2)(ta tb tc:TE):TE:=fun Y H Q=>ta Y H fun x H1=>tb Y H1 fun y H2=>r x y H2 fun z H3=>∃ k,z=.bl k /\
 (if k=true then tc Y H3 fun w' H4=>r' y w' H4 Q else Q (.bl false) H3)
def Af(ho:OpR X (compareOp op) r)(ho':OpR X (compareOp op') r')(ha:PE X a ta)(hb:PE X b tb)(hc:PE X c tc)
 (hm:lastMarks [op,op'] [b,c]=false):PE X (.Compare a [op,op'] [b,c] pos) (uj r r' ta tb tc):=by
 k_ne
 refine Compare_chain (thn (ha pins s Y H _ I h) fun v s1 ⟨x,H1,I1,r1,q1⟩=>chain_link (thn (hb pins s1 Y H1 _ I1 q1) fun u s2 ⟨y,H2,I2,r2,q2⟩ =>
  thn (ho pins s2 Y H2 x y v u _ I2 r1 r2 q2) fun d s3 ⟨z,H3,I3,r3,k,e,q3⟩=>?_)) hm
 subst e;cases r3;refine wpAny_truthy_bool ?_
 cases k with
 | false=>exact ite_ff ⟨.bl false,H3,I3,rfl,q3⟩
 | true=>exact ite_tt (chain_last (thn (hc pins s3 Y H3 _ I3 q3) fun w' s4 ⟨z',H4,I4,r4,q4⟩=>ho' pins s4 Y H4 y z' u w' Q I4 r2 r4 q4))
def Am(ho:OpR X (compareOp op) r)(ho':OpR X (compareOp op') r')(ha:PE X a ta)(hb:PE X b tb)(hc:PE X c tc)
 (hm:lastMarks [op,op'] [b,c]=false):PT X (.Compare a [op,op'] [b,c] pos) (Bw (uj r r' ta tb tc)):=by
 k_ne
 refine isTrue_chain (thn (ha pins s Y H _ I h) fun v s1 ⟨x,H1,I1,r1,q1⟩=>test_link (thn (hb pins s1 Y H1 _ I1 q1) fun u s2 ⟨y,H2,I2,r2,q2⟩ =>
  thn (ho pins s2 Y H2 x y v u _ I2 r1 r2 q2) fun d s3 ⟨z,H3,I3,r3,k,e,q3⟩=>?_)) hm
 subst e;cases r3;refine wpAny_truthy_bool ?_
 cases k with
 |false=>
  obtain⟨k',e',q'⟩:=q3;cases e';exact ite_ff ⟨H3,I3,q'⟩
 |true=>
  refine ite_tt (test_last (thn (hc pins s3 Y H3 _ I3 q3) fun w' s4 ⟨z',H4,I4,r4,q4⟩=>thn (ho' pins s4 Y H4 y z' u w' _ I4 r2 r4 q4) fun d' s5 ⟨z2,H5,I5,r5,k2,e2,q5⟩=>?_));subst e2;cases r5;exact wpAny_truthy_bool ⟨H5,I5,q5⟩
abbrev wZ(K:W.Frag)(x:V)(H:Hp)(k:Bool):Prop :=
 match x with
 | .non=>k=false
 | .bl b=>k=b
 | .int i=>k=(i != 0)
 | .str y=>y.length<=sizeLine/\k=((y.length:Int) != 0)
 | .byt y=>y.size<=sizeLine/\k=((y.size:Int) != 0)
 | .ref p=>(∃ xs,SqL K H p xs/\k=!xs.isEmpty)\/(∃ xs,SqT K H p xs/\k=!xs.isEmpty)\/∃ kvs,H p=some (.dK kvs)/\k=!kvs.isEmpty
 | _=>False
def xh(r:KV kvs vs):(!vs.isEmpty)=!kvs.isEmpty:=by
 cases r<;>rfl
def nC(r:Vals xs its):(!its.toArray.isEmpty)=!xs.isEmpty:=by
 cases r<;>simp
def jG:(sizeLine:Nat)<2 ^ 63:=by rw[sizeLine_eq];decide
def yz:J4 X (fun x H Q=>∃ k,wZ X.K x H k/\Q k H):=by
 intro pins s Y H x v Q I rx h;obtain⟨k,e,q⟩:=h;have hl:=jG;have hs:sizeLine=16777216:=sizeLine_eq
 cases x with
 |non=>
  cases rx;have e':k=false:=e;subst e';exact truthy_none ⟨H,I,q⟩
 |bl b=>
  cases rx;have e':k=b:=e;subst e';exact wpAny_truthy_bool ⟨H,I,q⟩
 |int i=>
  obtain⟨t,rfl⟩:=rx;have e':k=(i != 0):=e;subst e';exact PySem.P.truthy_int ⟨H,I,q⟩
 |str y=>
  obtain⟨t,rfl⟩:=rx;obtain⟨hy,e'⟩:y.length<=sizeLine/\k=((y.length:Int) != 0):=e;subst e';exact PySem.P.truthy_str (by omega) ⟨H,I.tok _,q⟩
 |byt y=>
  obtain⟨t,rfl⟩:=rx;obtain⟨hy,e'⟩:y.size<=sizeLine/\k=((y.size:Int) != 0):=e;subst e';exact W.truthy_bytes (by omega) ⟨H,I.tok _,q⟩
 |ref p=>
  cases rx;have e':(∃ xs,SqL X.K H p xs/\k=!xs.isEmpty)\/(∃ xs,SqT X.K H p xs/\k=!xs.isEmpty)\/∃ kvs,H p=some (.dK kvs)/\k=!kvs.isEmpty:=e
  rcases e' with⟨xs,hx,e'⟩ | ⟨xs,hx,e'⟩ | ⟨kvs,hx,e'⟩
  ·subst e';obtain⟨its,r,pl,hz⟩:=I.list hx;have hlen:=r.length;exact wpAny_truthy_list pl.isList (by simp only[List.size_toArray];omega) ⟨H,I.tok _,by rw[nC r];exact q⟩
  ·subst e';obtain⟨its,r,pl,hz⟩:=I.tuple hx;have hlen:=r.length;exact truthy_tuple pl (by simp only[List.size_toArray];omega) ⟨H,I.tok _,by rw[nC r];exact q⟩
  ·subst e';obtain⟨hz,hS,vs,r,m⟩:kvs.length<=sizeLine/\(p == sysModules)=false/\∃ vs,KV kvs vs/\s.heap.DictOf (bQ X.prog X.w) p vs:=I.hok p _ hx;have hlen:kvs.length=vs.length:=Paired.length r;exact wpAny_truthy_dict hS m (by omega) ⟨H,I.tok _,by rw[xh r];exact q⟩
 | _=>exact(show False from e).elim
def AF(ha:PE X a ta)(he:∀ whole,isTrue a X.env whole=(do let v <- whole;standAt a.pos;holding [v] (truthy v))) :
  PT X a (fun Y H Q=>ta Y H fun x H'=>∃ k,wZ X.K x H' k/\Q k H'):=by
 k_ne;exact isTrue_plain (thn (ha pins s Y H _ I h) fun v s1 ⟨x,H1,I1,r1,q1⟩=>yz pins s1 Y H1 x v Q I1 r1 q1) (he _)
def wR:OpR X (binaryOp .Add) (fun x y H Q=>∃ i j,x=.str i/\y=.str j/\i.length+j.length<=sizeLine/\Q (.str (i++j)) H):=by
 intro pins s Y H x y v u Q I rx ry h;obtain⟨i,j,rfl,rfl,hz,q⟩:=h;obtain⟨t,rfl⟩:=rx;obtain⟨t',rfl⟩:=ry;exact add_str (fun t' tk=>#[.str (i++j),H,I.tok _,#[_,rfl],q]) hz
def vals1(r:Vals [x] us):∃ u,us=[u]/\RelV x u:=by
 cases r with
 | cons r1 r2=>cases r2;exact#[_,rfl,r1]
def vals2(r:Vals [x,y] us):∃ u w',us=[u,w']/\RelV x u/\RelV y w':=by
 cases r with
 |cons r1 r2=>
  cases r2 with
  | cons r3 r4=>cases r4;exact#[_,_,rfl,r1,r3]
def Bq:bC X (.builtin "abs") (fun xs H Q=>∃ i,xs=[.int i]/\Q (.int (if i<0 then -i else i)) H):=by
 intro pins s Y H xs us Q I r h;obtain⟨i,rfl,q⟩:=h;obtain⟨u,rfl,t,rfl⟩:=vals1 r
 exact call_abs_int fun u tk=>#[.int (if i<0 then -i else i),H,I.tok _,#[_,rfl],q]
def yw(hc:X.calm=true):bC X (.builtin "max") (fun xs H Q=>∃ i j,xs=[.int i,.int j]/\Q (.int (if j > i then j else i)) H):=by
 intro pins s Y H xs us Q I r h;obtain⟨i,j,rfl,q⟩:=h;obtain⟨u,w',rfl,⟨t,rfl⟩,⟨t',rfl⟩⟩:=vals2 r
 refine max_two_ints (I.ok.hd.1 hc) fun h' tk k=>#[_,H,I.kept k,?_,q]
 by_cases hj:j > i
 ·rw[if_pos hj,if_pos hj];exact#[_,rfl]
 ·rw[if_neg hj,if_neg hj];exact#[_,rfl]
def yu(hc:X.calm=true):bC X (.builtin "min") (fun xs H Q=>∃ i j,xs=[.int i,.int j]/\Q (.int (if j<i then j else i)) H):=by
 intro pins s Y H xs us Q I r h;obtain⟨i,j,rfl,q⟩:=h;obtain⟨u,w',rfl,⟨t,rfl⟩,⟨t',rfl⟩⟩:=vals2 r
 refine min_two_ints (I.ok.hd.1 hc) fun h' tk k=>#[_,H,I.kept k,?_,q]
 by_cases hj:j<i
 ·rw[if_pos hj,if_pos hj];exact#[_,rfl]
 ·rw[if_neg hj,if_neg hj];exact#[_,rfl]
def yG:bC X (.type "int") (fun xs H Q=>(∃ i,xs=[.int i]/\Q (.int i) H)\/∃ k,xs=[.bl k]/\Q (.int (if k then 1 else 0)) H):=by
 intro pins s Y H xs us Q I r h
 rcases h with⟨i,rfl,q⟩ | ⟨k,rfl,q⟩
 ·obtain⟨u,rfl,t,rfl⟩:=vals1 r;exact call_int_int ⟨.int i,H,I,⟨_,rfl⟩,q⟩
 ·obtain⟨u,rfl,r1⟩:=vals1 r;cases r1;exact call_int_bool ⟨.int (if k then 1 else 0),H,I.tok _,⟨_,rfl⟩,q⟩
abbrev Fq(K:W.Frag)(x:V)(H:Hp)(n:Nat):Prop :=
 match x with
 | .str y=>y.length<=sizeLine/\n=y.length
 | .byt y=>y.size<=sizeLine/\n=y.size
 | .ref p=>(∃ xs,SqL K H p xs/\n=xs.length)\/∃ xs,SqT K H p xs/\n=xs.length
 | _=>False
def Aw:bC X (.builtin "len") (fun xs H Q=>∃ x n,xs=[x]/\Fq X.K x H n/\Q (.int n) H):=by
 intro pins s Y H xs us Q I r h;obtain⟨x,n,rfl,e,q⟩:=h;obtain⟨u,rfl,rx⟩:=vals1 r;have hl:=jG;have hs:sizeLine=16777216:=sizeLine_eq
 cases x with
 |str y=>
  obtain⟨t,rfl⟩:=rx;obtain⟨hy,e'⟩:y.length<=sizeLine/\n=y.length:=e;subst e';exact len_str (by omega) ⟨.int _,H,I.tok _,⟨_,rfl⟩,q⟩
 |byt y=>
  obtain⟨t,rfl⟩:=rx;obtain⟨hy,e'⟩:y.size<=sizeLine/\n=y.size:=e;subst e';exact W.len_bytes (by omega) ⟨.int _,H,I.tok _,⟨_,rfl⟩,q⟩
 |ref p=>
  cases rx;have e':(∃ xs,SqL X.K H p xs/\n=xs.length)\/∃ xs,SqT X.K H p xs/\n=xs.length:=e
  rcases e' with⟨xs,hx,e'⟩ | ⟨xs,hx,e'⟩
  ·subst e';obtain⟨its,r',pl,hz⟩:=I.list hx;have hlen:=r'.length;exact Calls.call_len_list pl.isList (by simp only[List.size_toArray];omega) ⟨.int xs.length,H,I.tok _,⟨_,by simp only[List.size_toArray];rw[hlen]⟩,q⟩
  ·subst e';obtain⟨its,r',pl,hz⟩:=I.tuple hx;have hlen:=r'.length;exact len_tuple pl (by simp only[List.size_toArray];omega) ⟨.int xs.length,H,I.tok _,⟨_,by simp only[List.size_toArray];rw[hlen]⟩,q⟩
 | _=>exact(show False from e).elim
end
structure AK(h:Heap)(x dx C:Addr)(mA:Str->Option Value):Prop where
 obj:h.get? x=some (W.instObj C dx)
 ns:h.Ns1 dx mA
 ne:dx≠x
def yb{h:Heap}(n:h.Ns1 dx mA):∃ od,h.get? dx=some od/\∀ name,W.lookIn name od=some (mA name):=by
 obtain⟨o,es,ep,ho,hd,hk,_,hm⟩:=n;refine#[o,ho,fun name=>?_];have e:=hm name;unfold nsFind findBy at e;rw[<-Array.find?_toList]at e;unfold W.lookIn;rw[hd];dsimp only;split
 ·rename_i y q;rw[q]at e;exact congrArg some e
 ·rename_i q;rw[q]at e
  have a:es.toList.any (·.refKey)=false:=by
   rw[List.any_eq_false];intro y hy;obtain⟨z,t,hkey⟩:=hk y (Array.mem_toList_iff.mp hy);simp[DictEntry.refKey,hkey]
  have a':¬ es.toList.any (·.refKey)=true:=by rw[a];exact Q3
  rw[if_neg a'];exact congrArg some e
def AK.look(I:AK h x dx C mA):∃ od,W.InstAt h x (W.instObj C dx) C (some od)/\∀ name,W.lookIn name od=some (mA name) :=
 let ⟨od,ho,hl⟩:=yb I.ns
 ⟨od,⟨I.obj,rfl,rfl,ho⟩,hl⟩
section
variable{prog:Program}{w:World}{A:Around}{E:Value->Shared->Prop}{s:Shared}{K:W.Frag}{x dx C f:Addr}{mA:Str->Option Value}{name:Str}{v:Value}
end
def iG.some_of(r:iG (some v) o):∃ u,o=some u/\RelV v u:=by
 cases o with
 | none=>exact(show False from r).elim
 | some u=>exact#[u,rfl,r]
section
variable{P:Program}{w:World}{H H':Hp}{h h':Heap}{a C dx:Addr}{fs fs':List (Str × V)}
def DC(hok:HOk P w H h)(e:H a=some (.ins C dx fs)):∃ mA,AK h a dx C mA/\(∀ f,iG (fs.lookup f) (mA f))/\PySem.Within mA (fs.map (·.1))/\fs.length<=1000/\H dx=some (.own a):=by
 obtain⟨d,z,ne,ob,mA,n,r,q⟩:=(show bD P w H h a (.ins C dx fs)from hok a _ e)
 exact#[mA,#[ob,n,ne],r,q,z,d]
end
structure Cls(K:W.Frag)(C:Addr):Prop where
 pg:W.plainGet K C Str.empty=true
 hd:W.hasDictIn K C=true
 po:W.plainOver K C=true
 sa:W.findIn K (.ref C) "__setattr__" = some (some (.builtin "object.__setattr__"))
def Cls.get{K:W.Frag}(c:Cls K C)(f:Str):W.plainGet K C f=true:=c.pg
section
variable{X:Cx}{pins:List (Addr × Obj)}{Y:St}{H:Hp}{s:Shared}{a C dx:Addr}{fs:List (Str × V)}{f:Str}{v:V}{A:Around}{E:Value->Shared->Prop}
end
section
variable{X:Cx}{o e value:Expr}{f:Str}{pos pos' tpos:Pos}{ta tv:TE}
end
section
variable{X:Cx}{pins:List (Addr × Obj)}{Y:St}{H:Hp}{s:Shared}{A:Around}{E:Value->Shared->Prop}{Q:Value->Shared->Prop}{c:Value}{b:Bool}
inductive fJ (K:W.Frag) (H:Hp):V->Value->Prop where
 | non:fJ K H .non (.type "NoneType")
 | bl (x:Bool):fJ K H (.bl x) (.type "bool")
 | int (i:Int):fJ K H (.int i) (.type "int")
 | str (x:Str):fJ K H (.str x) (.type "str")
 | flt (x:UInt64):fJ K H (.flt x) (.type "float")
 | lst {a:Addr} {xs:List V} (e:H a=some (.lst xs)):fJ K H (.ref a) (.type "list")
 | frz {a:Addr} {o:Obj} {xs:List V} (e:H a=some (.frz o (.lst xs))):fJ K H (.ref a) (.type "list")
 | tup {a:Addr} {xs:List V} (e:H a=some (.tup xs)):fJ K H (.ref a) (.type "tuple")
 | dK {a:Addr} {kvs:List (Key × V)} (e:H a=some (.dK kvs)):fJ K H (.ref a) (.type "dict")
 | dT {a:Addr} {kvs:List (List Key × V)} (e:H a=some (.dT kvs)):fJ K H (.ref a) (.type "dict")
 | ins {a C dx:Addr} {fs:List (Str × V)} (e:H a=some (.ins C dx fs)) (cl:Cls K C) (ha:W.findIn K (.ref C) "__class__" = some (some (.builtin "object.__class__")))
   (hn:W.specialIn K (.builtin "object.__class__") "__get__" = some (some (.builtin "getset_descriptor.__get__"))) (htk:W.takesIn K (.builtin "object.__class__")=some true)
   (hm:W.mroIn K C (.type "object")=some true):fJ K H (.ref a) (.ref C)
def xJ(I:Inv X pins Y H s)(rx:RelV x u)(ty:fJ X.K H x t)(e:W.kitOne X.K t c=some b)(h:∀ tk,Q (.bool b) { s with toks:=tk }) :
  wpAny (model X.prog X.w) A (call (.builtin "isinstance") [u,c]) Q E s:=by
 cases ty with
 | non=>cases(show u=Value.none from rx);exact W.kia_one W.kitx_none I.kIn True.intro e (fun z=>nomatch z) h
 | bl y=>cases(show u=Value.bool y from rx);exact W.kia_one W.kitx_bool I.kIn True.intro e (fun z=>nomatch z) h
 | int i=>obtain⟨t,q⟩:=(show ∃ t,u=Value.int i t from rx);cases q;exact W.kia_one W.kitx_int I.kIn True.intro e (fun z=>nomatch z) h
 | str y=>obtain⟨t,q⟩:=(show ∃ t,u=Value.str y t from rx);cases q;exact W.kia_one W.kitx_str I.kIn True.intro e (fun z=>nomatch z) h
 | flt y=>obtain⟨t,q⟩:=(show ∃ t,u=Value.float y t from rx);cases q;exact W.kia_one W.kitx_float I.kIn True.intro e (fun z=>nomatch z) h
 |@lst a xs ea=>
  cases(show u=Value.ref a from rx)
  obtain⟨_,_,n,_,h1⟩:=(show bD X.prog X.w H s.heap a (.lst xs)from I.hok a _ ea)
  exact W.kia_one W.kitx_list I.kIn ⟨_,h1,rfl⟩ e (fun z=>nomatch z) h
 |@frz a ob xs ea=>
  cases(show u=Value.ref a from rx)
  obtain⟨_,_,_,n,_,h1⟩:=(show bD X.prog X.w H s.heap a (.frz ob (.lst xs))from I.hok a _ ea)
  exact W.kia_one W.kitx_list I.kIn ⟨_,h1,rfl⟩ e (fun z=>nomatch z) h
 |@tup a xs ea=>
  cases(show u=Value.ref a from rx)
  obtain⟨_,_,_,p⟩:=(show bD X.prog X.w H s.heap a (.tup xs)from I.hok a _ ea)
  obtain⟨o,h1,h2,_⟩:=p;exact W.kia_one W.kitx_tuple I.kIn ⟨o,h1,h2⟩ e (fun z=>nomatch z) h
 |@dK a kvs ea=>
  cases(show u=Value.ref a from rx)
  obtain⟨_,_,vs,_,p⟩:=(show bD X.prog X.w H s.heap a (.dK kvs)from I.hok a _ ea)
  obtain⟨o,es,ep,h1,h2,_⟩:=p;exact W.kia_one W.kitx_dict I.kIn ⟨o,h1,h2.1⟩ e (fun z=>nomatch z) h
 |@dT a kvs ea=>
  cases(show u=Value.ref a from rx)
  obtain⟨_,_,xs,_,o,es,ep,h1,h2,_⟩:=(show bD X.prog X.w H s.heap a (.dT kvs)from I.hok a _ ea)
  exact W.kia_one W.kitx_dict I.kIn ⟨o,h1,h2.1⟩ e (fun z=>nomatch z) h
 |@ins a C dx fs ea cl ha hn htk hm=>
  cases(show u=Value.ref a from rx);obtain⟨mA,O,_⟩:=DC I.hok ea;obtain⟨od,J,_⟩:=O.look;exact W.kia_one (W.kitx_own (cl.get _) cl.hd ha hn htk hm) I.kIn J e (fun z=>nomatch z) h
end
structure eU(k:Nat)(A:Around):Prop where
 hd:A.handled=none
 dp:A.depth+3*k+5<recursionLimit
 un:A.units+16*k+200<cLine
def eU.deeper(r:eU (k+1) A)(env:Env):eU k (A.deeper env) :=
 ⟨r.hd,by have:=r.dp;show A.depth+1+3*k+5<_;omega,by have:=r.un;show A.units+3+16*k+200<_;omega⟩
def eU.depth(r:eU k A):A.depth<recursionLimit:=by have:=r.dp;omega
abbrev pz:TA:=fun _ H Q=>Q [] H
abbrev gQ(ta:TE)(tr:TA):TA:=fun Y H Q=>ta Y H fun x H1=>tr Y H1 fun xs H2=>Q (x::xs) H2
section
variable{X:Cx}{e:Expr}{es:List Expr}{te:TE}{t:TA}{pos:Pos}
def d5:PA X [] pz:=fun _ _ _ _ H Q I h=>Calls.spliced_nil ⟨[],H,I,.nil,h⟩
def bH(ha:PE X e te)(hr:PA X es t)(hs:starEach (e::es) X.env=(false,eval e X.env)::starEach es X.env):PA X (e::es) (gQ te t):=by
 intro pos pins s Y H Q I h;rw[hs];show wpAny _ _ (spliced ((false,eval e X.env)::backTo pos (starEach es X.env))) _ _ s;refine Calls.spliced_cons (thn (ha pins s Y H _ I h) fun u s1 ⟨x,H1,I1,r1,q1⟩=>?_)
 exact thn (hr pos pins s1 Y H1 _ I1 q1) fun us s2 ⟨xs,H2,I2,r2,q2⟩=>#[x::xs,H2,I2,.cons r1 r2,q2]
abbrev GJ(t:TA):TE:=fun Y H Q=>t Y H fun xs H1=>xs.length<=sizeLine/\∀ p,H1 p=none->Q (.ref p) (upd H1 p (.tup xs))
abbrev JZ(t:TA):TE:=fun Y H Q=>t Y H fun xs H1=>xs.length<=sizeLine/\∀ p,H1 p=none->Q (.ref p) (upd H1 p (.lst xs))
def ya(h:PA X es t):PE X (.Tuple es x1 pos) (GJ t):=by
 intro pins s Y H Q I hq;refine wpAny_Tuple_spliced (thn (h pos pins s Y H _ I hq) fun us s1 ⟨xs,H1,I1,r,z,q⟩=>#[by rw[<-r.length];exact z,?_]);have hf:H1 s1.heap.objs.size=none:=I1.hok.fresh (QV _);refine#[.ref s1.heap.objs.size,upd H1 s1.heap.objs.size (.tup xs),I1.laid (t':=s1.toks) (fun b u e=>QU _ e) (QV _) ?_,rfl,q _ hf];exact#[z,us,r,#[_,QX _ rfl,rfl,_,rfl]]
def Gq(h:PA X es t):PE X (.List es pos) (JZ t):=by
 intro pins s Y H Q I hq;refine wpAny_List_spliced (thn (h pos pins s Y H _ I hq) fun us s1 ⟨xs,H1,I1,r,z,q⟩=>#[by rw[<-r.length];exact z,?_]);have hf:H1 s1.heap.objs.size=none:=I1.hok.fresh (QV _);refine#[.ref s1.heap.objs.size,upd H1 s1.heap.objs.size (.lst xs),I1.laid (t':=s1.toks) (fun b u e=>QU _ e) (QV _) ?_,rfl,q _ hf];exact#[z,us,0,r,QX _ rfl]
end
@[reducible]noncomputable def Sp:=List V->Hp->VK->XK->Prop
@[reducible]noncomputable def CXT:=List Env->Hp->Shared->XK->Value->Shared->Prop
structure wY(P:Program)(w:World)(K:W.Frag)(mg:Str->Option Value)(base:Heap)(A:Around)(outer:List Env)(s:Shared)(H:Hp):Prop where
 frames:A.frames=some outer
 mod:Mod K mg base
 bs:∀ b o,base.get? b=some o->s.heap.get? b=some o/\H b=none
 bsz:base.objs.size<=s.heap.objs.size
 iD:s.heap.FunFrames base outer
 frf:∀ b∈frs outer,H b=none
 hok:HOk P w H s.heap
 bare:AllBare s.gens
abbrev CE(outer:List Env)(P:Program)(w:World)(H:Hp)(s:Shared)(Q:VK)(u:Value)(s':Shared):Prop :=
 ∃ v H',s'.os=s.os/\AllBare s'.gens/\Un (frs outer) [] H H' s.heap s'.heap/\HOk P w H' s'.heap/\RelV v u/\Q v H'
abbrev CR(CX:CXT)(outer:List Env)(P:Program)(w:World)(H:Hp)(s:Shared)(Q:VK)(E:XK)(r:Result)(s':Shared):Prop :=
 match r with
 | .ok (.ret u)=>CE outer P w H s Q u s'
 | .ok _=>False
 | .error e=>CX outer H s E e s'
structure j4(P:Program)(w:World)(K:W.Frag)(mg:Str->Option Value)(base:Heap)(CX:CXT)(k:Nat)(f:Addr)(fd:FuncData)(ps:List Str)(sp:Sp):Prop where
 len:∀ vs H Q E,sp vs H Q E->vs.length=ps.length
 run:∀ (A:Around) (outer:List Env) (s:Shared) (H:Hp) (args:Args) (us:List Value) (vs:List V) (Q:VK) (E:XK),eU k A->wY P w K mg base A outer s H->BindsTo s fd args (ps.zip us)->Vals vs us->sp vs H Q E ->
  codeAny (model P w) A (.call (.ref f) args) (CR CX outer P w H s Q E) s
section
variable{X:Cx}{pins:List (Addr × Obj)}{Y:St}{H:Hp}{s s':Shared}
def Inv.Jw(I:Inv X pins Y H s):wY X.prog X.w X.K X.mg X.base X.A X.stack s H :=
 ⟨I.ok.frames,I.ok.mod,I.bs,Za I.ok.bsz I.sz,I.stack,I.u7,I.hok,I.bare⟩
def Inv.after(I:Inv X pins Y H s)(h:CE X.stack X.prog X.w H s Q u s'):EP X pins Y Q u s':=by
 obtain⟨v,H',os,bare,un,hok,r,q⟩:=h;obtain⟨hh,g,d,t,os'⟩:=s';obtain rfl:os'=s.os:=os;exact#[v,H',I.call (h':=hh) (g':=g) (d':=d) (t':=t) (ch:=[]) un hok bare (fun b z=>absurd z (by simp)),r,q]
end
abbrev oj(sp:Sp)(dvs:List V)(E:XK)(t:TA):TE:=fun Y H Q=>t Y H fun vs H1=>sp (vs++dvs) H1 Q E
abbrev Binds(K:W.Frag)(fd:FuncData)(ps:List Str)(ds:List Value):Prop :=
 ∀ (s:Shared) (us:List Value),K.In s.heap->(us++ds).length=ps.length->BindsTo s fd ⟨us,[]⟩ (ps.zip (us++ds))
def Binds.all{K:W.Frag}(h:∀ us:List Value,us.length=ps.length->bindArgs fd ⟨us,[]⟩=pure (ps.zip us)):Binds K fd ps []:=fun s us _ hl=>by
 rw[Ze]at hl ⊢;exact .of_eq (h us hl)
abbrev Passes(CX:CXT)(X:Cx)(E:XK):Prop:=∀ (pins:List (Addr × Obj)) (Y:St) (H:Hp) (s:Shared) (e:Value) (s':Shared),Inv X pins Y H s->CX X.stack H s E e s'->X.xe e s'
section
variable{X:Cx}{CX:CXT}{k:Nat}{f C:Addr}{fd:FuncData}{ps:List Str}{sp:Sp}{dvs:List V}{ds:List Value}{E:XK}{x m:Str}{p pos apos:Pos}{e o:Expr}{es:List Expr}{ta:TE}{t:TA}
def FC(F:j4 X.prog X.w X.K X.mg X.base CX k f fd ps sp)(hr:eU k X.A)(hb:Binds X.K fd ps ds)(hd:Vals dvs ds)(hx:Passes CX X E)
 (I:Inv X pins Y H s)(r:Vals vs us)(h:sp (vs++dvs) H Q E):wpAny (model X.prog X.w) X.A (call (.ref f) us) (EP X pins Y Q) X.xe s:=by
 have r2:Vals (vs++dvs) (us++ds):=r.append hd
 have hl:(us++ds).length=ps.length:=by rw[<-r2.length];exact F.len _ _ _ _ h
 refine wpAny_call (codeAny_mono (F.run X.A X.stack s H ⟨us,[]⟩ (us++ds) (vs++dvs) Q E hr I.Jw (hb s us I.kIn hl) r2 h) fun r s' hq=>?_)
 cases r with
 | error e=>exact hx pins Y H s e s' I hq
 |ok fl=>
  cases fl with
  | ret u=>exact I.after hq
  | next=>exact False.elim hq
  | brk=>exact False.elim hq
  | cont=>exact False.elim hq
def vt(F:j4 X.prog X.w X.K X.mg X.base CX k f fd ps sp)(hr:eU k X.A)(hg:Gl X x)(hm:X.mg x=some (.ref f))(hk:W.keepIn X.K (.ref f)=true)(hb:Binds X.K fd ps ds)(hd:Vals dvs ds)(hx:Passes CX X E)
 (ha:PA X (e::es) t)(hdb:(x == ("__debug__" : Str))=false)(he:starEach (e::es) X.env=(false,eval e X.env)::starEach es X.env)(hpl:(backTo pos (starEach es X.env)).any (·.1)=false) :
  PE X (.Call (.Name x p) (e::es) [] pos) (oj sp dvs E t):=by
 k_ne;refine wpAny_Call_Name_kw (uS I hg hm ?_ hdb);refine W.callWith_K (h₀:=X.base) I.ok.mod.kin hk (thn (ha pos pins s Y H _ I h) fun us s1 ⟨vs,H1,I1,r,q⟩=>#[I1.kIn,?_]) he hpl;exact FC F hr hb hd hx I1 r q
end
section
variable{X:Cx}{CX:CXT}{k:Nat}{f C:Addr}{fd:FuncData}{ps ks:List Str}{sp:Sp}{E:XK}{x m:Str}{p pos apos kpos:Pos}{e o:Expr}{es:List Expr}{kws:List Keyword}{te ta:TE}{t tk:TA}{nm:Option Str}
variable{g:List Value->List Value->List Value}{gV:List V->List V->List V}
end
structure l8(N P:List Str)(sc:Scope):Prop where
 kind:sc.kind=.function
 co:sc.isCoroutine=false
 gen:sc.isGenerator=false
 nd:N.Nodup
 pre:N.take P.length=P
 par:∀ x∈P,sc.names.lookup x=some .local\/sc.names.lookup x=some .cell
 Hf:∀ y∈sc.names,y.2≠.free
def qr{kindOf:Str->Option NameKind}:∀ {binds:List (Str × Value)} {m:Str->Option Value},(∀ v,(x,v)∉binds)->bindL kindOf binds m x=m x
 | [],_,_=>rfl
 | (n,v)::r,m,h=>by
  unfold bindL;rw[qr fun w hw=>h w (Q4 _ hw)];split
  ·have:x≠n:=by rintro rfl;exact h v Zc
   simp[this]
  ·rfl
def qf{kindOf:Str->Option NameKind}:∀ {binds:List (Str × Value)} {m:Str->Option Value},(∀ v,(x,v)∉binds)->bindC kindOf binds m x=m x
 | [],_,_=>rfl
 | (n,v)::r,m,h=>by
  unfold bindC;rw[qf fun w hw=>h w (Q4 _ hw)];split
  ·rfl
  ·have:x≠n:=by rintro rfl;exact h v Zc
   simp[this]
def qc{kindOf:Str->Option NameKind}:∀ {P:List Str} {vs:List Value} {i:Nat} {m:Str->Option Value},P.Nodup->P[i]?=some x->vs[i]?=some v->kindOf x=some .local ->
  bindL kindOf (P.zip vs) m x=some v
 | [],_,_,_,_,h,_,_=>by simp at h
 | _::_,[],_,_,_,_,h,_=>by simp at h
 | p::P,w::vs,0,m,nd,h1,h2,hk=>by
  simp at h1 h2;subst h1;subst h2;show bindL kindOf ((p,w)::P.zip vs) m p=_;unfold bindL;rw[qr fun v hv=>(List.nodup_cons.mp nd).1 (List.of_mem_zip hv).1,if_pos hk];simp
 | p::P,w::vs,i+1,m,nd,h1,h2,hk=>by
  show bindL kindOf ((p,w)::P.zip vs) m x=_;unfold bindL;exact qc (i:=i) (List.nodup_cons.mp nd).2 (by simpa using h1) (by simpa using h2) hk
def pZ{kindOf:Str->Option NameKind}:∀ {P:List Str} {vs:List Value} {i:Nat} {m:Str->Option Value},P.Nodup->P[i]?=some x->vs[i]?=some v->kindOf x≠some .local ->
  bindC kindOf (P.zip vs) m x=some v
 | [],_,_,_,_,h,_,_=>by simp at h
 | _::_,[],_,_,_,_,h,_=>by simp at h
 | p::P,w::vs,0,m,nd,h1,h2,hk=>by
  simp at h1 h2;subst h1;subst h2;show bindC kindOf ((p,w)::P.zip vs) m p=_;unfold bindC;rw[qf fun v hv=>(List.nodup_cons.mp nd).1 (List.of_mem_zip hv).1,if_neg hk];simp
 | p::P,w::vs,i+1,m,nd,h1,h2,hk=>by
  show bindC kindOf ((p,w)::P.zip vs) m x=_;unfold bindC;exact pZ (i:=i) (List.nodup_cons.mp nd).2 (by simpa using h1) (by simpa using h2) hk
abbrev start(N:List Str)(vs:List V):St:=vs.map some++List.replicate (N.length-vs.length) none
abbrev mI(CX:CXT)(P:Program)(w:World)(K:W.Frag)(mg:Str->Option Value)(base:Heap)(N:List Str)(qual:Str)(scope:Scope)(f:Addr)(cd:Value)(A:Around)(outer:List Env)(s:Shared)(H:Hp)(E:XK):Cx where
 prog:=P
 w:=w
 K:=K
 mg:=mg
 base:=base
 A:=A.deeper (envOfC qual scope s.heap.objs.size f cd)
 N:=N
 s₀:=s
 H₀:=H
 env:=envOfC qual scope s.heap.objs.size f cd
 outer:=outer
 stack:=envOfC qual scope s.heap.objs.size f cd::outer
 ex:=[]
 calm:=true
 fn:=fun _=>true
 pn:=[]
 xe:=fun e s'=>wpAny (model P w) (A.deeper (envOfC qual scope s.heap.objs.size f cd)) (leaving (envOfC qual scope s.heap.objs.size f cd) e) (fun _ s''=>CX outer H s E e s'') (fun e' s''=>CX outer H s E e' s'') s'
def t6{sc:Scope}(h:sc.names.lookup x=some .cell):∃ c,(cellsFrom n sc.names []).lookup x=some c:=by
 have q:=W.cellsFrom_some sc.names n [] (.inl h);exact Option.isSome_iff_exists.mp q
def zd{CX:CXT}{P:Program}{w:World}{K:W.Frag}{mg:Str->Option Value}{base:Heap}{N ps:List Str}{qual:Str}{scope:Scope}{f:Addr}{cd:Value}{A:Around}{outer:List Env}{s s1:Shared}{H:Hp}{E:XK}{us:List Value}{vs:List V}
 (S:l8 N ps scope)(hd:A.handled=none)(e0:wY P w K mg base A outer s H)(hl:vs.length=ps.length)(r:Vals vs us)
 (x:InCallC s s.heap.objs.size (bindL (envOfC qual scope s.heap.objs.size f cd).kindOf (ps.zip us) fun _=>none) (cellsFrom (s.heap.objs.size+1) scope.names []) (bindC (envOfC qual scope s.heap.objs.size f cd).kindOf (ps.zip us) fun _=>none) s1) :
  Inv (mI CX P w K mg base N qual scope f cd A outer s H E) [] (start N vs) H s1:=by
 have hpl:ps.length<=N.length:=by have:=congrArg List.length S.pre;rw[Zt]at this;omega
 obtain⟨h1,tk,rfl,hk⟩:=x.done;have noA:∀ b:Addr,b∉(mI CX P w K mg base N qual scope f cd A outer s H E).ex:=fun b z=>absurd (show b∈([]:List Addr)from z) (by simp)
 refine⟨⟨e0.mod,S.kind,rfl,rfl,QV _,fun y z c h1 h2=>?_,fun y hy=>?_,fun y c _ h=>?_,⟨fun _=>hd,.inl hd⟩,Around.frames_deeper e0.frames,.inr #[rfl,rfl],fun b z=>absurd z (noA b),e0.bs,e0.bsz,fun b _ _=>noA b,fun b z=>absurd z (noA b),e0.iD,e0.frf⟩,
  rfl,e0.bare,Un.kept hk,⟨_,x.toInCall.ns,fun i y v h1 h2 h3=>?_⟩,fun y c h=>#[_,x.cell y c h],e0.hok.fresh (QV _),fun y c h=>?_,fun p hp=>absurd (show p∈([]:List (Addr × Obj))from hp) (by simp),e0.hok.kept hk,?_⟩
 ·exact name_of_addr x.apart (PySem.mem_of_lookup h1) (PySem.mem_of_lookup h2)
 ·have hy:scope.names.lookup y=some .cell\/scope.names.lookup y=some .free:=hy;rcases hy with hy | hy
  ·exact t6 hy
  ·exact absurd rfl (S.Hf _ (PySem.mem_of_lookup hy))
 ·exact Nat.le_of_lt (x.above y c (PySem.mem_of_lookup h))
 ·have hi:i<vs.length:=by
   unfold start at h2;by_cases hi:i<vs.length
   ·exact hi
   ·rw[Zh (by simpa using hi)]at h2;rw[List.getElem?_replicate]at h2;split at h2<;>cases h2
  have ha:vs[i]?=some v:=by
   unfold start at h2;rw[Zn (by simpa using hi),List.getElem?_map]at h2
   cases e:vs[i]? with
   | none=>rw[e]at h2;cases h2
   | some a=>rw[e]at h2;cases h2;rfl
  obtain⟨u,hu,rv⟩:=r.get ha
  have hp:ps[i]?=some y:=by
   rw[<-S.pre,List.getElem?_take_of_lt (by omega)];exact h1
  have ndP:ps.Nodup:=by rw[<-S.pre];exact S.nd.sublist (List.take_sublist _ _)
  refine#[u,rv,?_];rcases S.par y (Zb hp)with k | k
  ·exact .inl #[k,qc ndP hp hu k]
  ·obtain⟨c,e⟩:=t6 (n:=s.heap.objs.size+1) k;refine .inr #[.inl k,c,e,?_];have q:=x.cell y c e;rw[pZ ndP hp hu (by show scope.names.lookup y≠_;rw[k];decide)]at q;exact q
 ·exact e0.hok.fresh (Nat.le_of_lt (x.above y c (PySem.mem_of_lookup h)))
 ·unfold start;show _=N.length;rw[List.length_append,List.length_map,List.length_replicate];omega
def Iu{CX:CXT}{P:Program}{w:World}{K:W.Frag}{mg:Str->Option Value}{base:Heap}{k:Nat}{f:Addr}{name qual:Str}{params:Arguments}{body:List Stmt}{scope:Scope}{dV kV doc pm cdv ct oc:Value}{an od:Option Addr}
 {osl:Array (Option Value)}{N ps:List Str}{sp:Sp}(lk:K.lookup f=some ⟨oc,od,.func (W.fnOf name qual params body scope dV kV doc pm an cdv ct),osl⟩)(hcd:W.codeIn K cdv qual=true)(S:l8 N ps scope)
 (len:∀ vs H Q E,sp vs H Q E->vs.length=ps.length)
 (hbody:∀ (A:Around) (outer:List Env) (s:Shared) (H:Hp) (vs:List V) (Q:VK) (E:XK),eU k (A.deeper (envOfC qual scope s.heap.objs.size f cdv))->sp vs H Q E ->
   ∃ t,PSs (mI CX P w K mg base N qual scope f cdv A outer s H E) body t/\t { nx:=fun _ H'=>Q .non H',rt:=Q } (start N vs) H) :
  j4 P w K mg base CX (k+1) f (W.fnOf name qual params body scope dV kV doc pm an cdv ct) ps sp:=by
 refine#[len,fun A outer s H args us vs Q E hr e0 hb r hsp=>?_];have hl:=len _ _ _ _ hsp;have KX:K.In s.heap:=e0.mod.kin.keeps fun b o e=>(e0.bs b o e).1;have lim:s.heap.NoLimit:=e0.mod.nolimit.keeps fun b o e=>(e0.bs b o e).1
 have hkind:∀ y∈ps.zip us,scope.names.lookup y.1=some .local\/(scope.names.lookup y.1=some .cell/\((cellsFrom (s.heap.objs.size+1) scope.names []).lookup y.1).isSome=true):=fun⟨n,v⟩ hy=>by
  rcases S.par n (List.of_mem_zip hy).1 with q | q
  ·exact .inl q
  ·exact .inr #[q,W.cellsFrom_some _ _ _ (.inl q)]
 refine codeAny_call_function hr.depth (KX _ _ lk) rfl S.co S.gen rfl (W.codeRec_of KX hcd) (hb _ _ _ _ ?_);refine wpAny_newFunctionEnv_cells S.kind hkind fun env he s1 x=>?_;subst he;refine#[lim.keeps x.toInCall.keep,codeAny_func ?_];obtain⟨t,ht,hq⟩:=hbody A outer s H vs Q E (hr.deeper _) hsp;have I:Inv (mI CX P w K mg base N qual scope f cdv A outer s H E) [] (start N vs) H s1:=zd S hr.hd e0 hl r x;refine wpAny_mono (ht [] s1 (start N vs) H _ I hq) (fun fl s' hs=>?_) fun e s' hs=>hs
 have fin:∀ {Zz:St} {H':Hp} {v:V} {u:Value},Inv (mI CX P w K mg base N qual scope f cdv A outer s H E) [] Zz H' s'->RelV v u->Q v H'->CE outer P w H s Q u s' :=
  fun {Zz H' v u} J rv q=>#[v,H',J.os,J.bare,J.base,J.hok,rv,q]
 cases fl with
 |ret u=>
  obtain⟨v,Zz,H',J,rv,q⟩:=hs;exact fin J rv q
 |next=>
  obtain⟨Zz,H',J,q⟩:=hs;exact fin (v:=V.non) (u:=Value.none) J rfl q
 |brk=>
  obtain⟨_,_,_,q⟩:=hs;exact False.elim q
 |cont=>
  obtain⟨_,_,_,q⟩:=hs;exact False.elim q
section
variable{X:Cx}{x:Str}{p pos:Pos}{e:Expr}{es:List Expr}{t:TA}{id T:String}{r:List V->Hp->VK->Prop}
abbrev tCB(r:List V->Hp->VK->Prop)(t:TA):TE:=fun Y H Q=>t Y H fun vs H1=>r vs H1 Q
def iJ(hc:bC X (.builtin id) r)(hg:Gl X x)(hm:X.mg x=none)(hv:bootBuiltins x=some (.builtin id))(ha:PA X (e::es) t)(hn:x ≠ "__name__")(hdb:(x == ("__debug__" : Str))=false)
 (he:starEach (e::es) X.env=(false,eval e X.env)::starEach es X.env)(hpl:(backTo pos (starEach es X.env)).any (·.1)=false):PE X (.Call (.Name x p) (e::es) [] pos) (tCB r t):=by
 k_ne;refine wpAny_Call_Name_kw (il I hg hm hv ?_ hn hdb);exact PyProof.Rows.callWith_builtin1 (thn (ha pos pins s Y H _ I h) fun us s1 ⟨vs,H1,I1,r1,q1⟩=>hc pins s1 Y H1 vs us Q I1 r1 q1) he hpl
def cN(hc:bC X (.type T) r)(hg:Gl X x)(hm:X.mg x=none)(hv:bootBuiltins x=some (.type T))(ha:PA X (e::es) t)(hn:x ≠ "__name__")(hdb:(x == ("__debug__" : Str))=false)
 (he:starEach (e::es) X.env=(false,eval e X.env)::starEach es X.env)(hpl:(backTo pos (starEach es X.env)).any (·.1)=false):PE X (.Call (.Name x p) (e::es) [] pos) (tCB r t):=by
 k_ne;refine wpAny_Call_Name_kw (il I hg hm hv ?_ hn hdb);exact PyProof.Rows.callWith_type1 (thn (ha pos pins s Y H _ I h) fun us s1 ⟨vs,H1,I1,r1,q1⟩=>hc pins s1 Y H1 vs us Q I1 r1 q1) he hpl
end
end L2
namespace HT
open PySem PyProof.Rows
section
open PySem.SeqAt
open PySem.AutoSeq1 (wpAny_loadPart')
open PySem.MeetsSeq PySem.MeetsSeq2 PySem.MeetsSeq3
end
section
variable{prog:Program}{w:World}{A:Around}{E:Value->Shared->Prop}{s:Shared}
def CI(ht:IsTup s.heap t vs.toArray)(hb:IsTup s.heap b ws.toArray)(hv:vs≠[])
 (h1:ws=[]->Q (.ref t) s)(h2:ws≠[]->Q (.ref s.heap.objs.size) { s with heap:=s.heap.push { cls:=.type "tuple",data:=.seq (vs++ws).toArray } })
 (hsz:vs.length+ws.length<=sizeLine):wpAny (model prog w) A (binaryOp .Add (.ref t) (.ref b)) Q E s:=by
 obtain⟨⟨cls,dd,data,sl⟩,ho,hc,n,hd⟩:=id ht;obtain⟨⟨cls2,dd2,data2,sl2⟩,ho2,hc2,n2,hd2⟩:=id hb;simp only at hc hd hc2 hd2;subst hc hd hc2 hd2
 have e:vs.toArray++ws.toArray=(vs++ws).toArray:=by simp
 by_cases hw:ws=[]
 ·exact concat_meets ⟨_,ho,rfl⟩ ⟨_,ho2,rfl⟩ noFill_tuple_add seq_tuple_add PySem.F.slot_tuple_add PySem.F.entry_tuple_add (PySem.F.args_tuple_add_2 _ _)
   (tuple_addW1 t b vs.toArray ws.toArray n n2 dd dd2 sl sl2 (by simpa using hv) (by simp[hw])) ⟨ho,ho2,h1 hw⟩
 ·refine concat_meets ⟨_,ho,rfl⟩ ⟨_,ho2,rfl⟩ noFill_tuple_add seq_tuple_add PySem.F.slot_tuple_add PySem.F.entry_tuple_add (PySem.F.args_tuple_add_2 _ _)
   (tuple_addW2 t b vs.toArray ws.toArray n n2 dd dd2 sl sl2 (by simpa using hv) (by simpa using hw) (by rw[List.size_toArray,List.size_toArray];exact hsz)) ⟨ho,ho2,?_⟩
  rw[e];exact h2 hw
abbrev sIx(n d:Nat):Option Int->Nat
 | none=>d
 | some v=>if v<0 then(v+(n:Int)).toNat else min v.toNat n
def tO(n d:Nat):sIx n d none=d:=rfl
def Fo(n d:Nat)(hd:d<=n)(o:Option Int):sIx n d o<=n:=by
 cases o with
 | none=>exact hd
 |some v=>
  show(if v<0 then(v+(n:Int)).toNat else min v.toNat n)<=n;by_cases hv:v<0
  ·rw[if_pos hv];omega
  ·rw[if_neg hv];exact Nat.min_le_right _ _
def hX(v:Int)(n d:Nat):(if v<0 then max (v+(n:Int)) 0 else min v (n:Int))=((sIx n d (some v):Nat):Int):=by
 show(if v<0 then max (v+(n:Int)) 0 else min v (n:Int))=(((if v<0 then(v+(n:Int)).toNat else min v.toNat n):Nat):Int);by_cases hv:v<0
 ·simp only[if_pos hv];omega
 ·simp only[if_neg hv];omega
def wU(lo hi:Option Int)(n:Nat):Builtin.Slice.sliceAdjust lo hi 1 (n:Int)=(((sIx n 0 lo:Nat):Int),((sIx n n hi:Nat):Int)):=by
 have h1:¬ ((1:Int)<0):=by omega
 unfold Builtin.Slice.sliceAdjust;simp only[h1,if_false];refine Prod.ext ?_ ?_
 ·cases lo with
  | none=>rfl
  | some v=>exact hX v n 0
 ·cases hi with
  | none=>rfl
  | some v=>exact hX v n n
def wA(i j:Nat):Builtin.Slice.slicePlaces (i:Int) (j:Int) 1=j-i:=by
 unfold Builtin.Slice.slicePlaces
 have h1:(1:Int) > 0:=by omega
 simp only[h1,if_true,Int.ediv_one];split<;>omega
def fv(p:IsPart v o)(h:Q o s):wpAny (model prog w) A (Builtin.Slice.slicePartIndex v) Q E s:=by
 cases p with
 | none=>exact slicePart_none h
 | int i t=>exact slicePart_int h
def mS{sl:Addr}{vl vu:Value}{lo hi:Option Int}{n:Nat}{Q:Int × Int × Nat->Shared->Prop}(hs:s.heap.IsSliceOf sl vl vu .none)(pl:IsPart vl lo)(pu:IsPart vu hi)
 (h:Q (((sIx n 0 lo:Nat):Int),1,sIx n n hi-sIx n 0 lo) s):wpAny (model prog w) A (Builtin.Slice.sliceApplied (.ref sl) (pure (n:Int))) Q E s:=by
 obtain⟨os,hos,hcs,hds⟩:=id hs;unfold Builtin.Slice.sliceApplied Builtin.Slice.sliceFields;refine QT (QT (wpAny_field hos hds (x:=vl) rfl (QT (wpAny_field hos hds (x:=vu) rfl (QT (wpAny_field hos hds (x:=.none) rfl (QW ?_)))))));refine QT (slicePart_none ?_);show wpAny _ _ (if((1:Int) == 0)=true then _ else _) _ _ s;rw[if_neg ∅];refine QT (fv pl (QT (fv pu (QT (QW ?_)))));show wpAny _ _ (match Builtin.Slice.sliceAdjust lo hi 1 (n:Int)with | (lo,hi)=>pure (lo,(1:Int),Builtin.Slice.slicePlaces lo hi 1)) _ _ s;rw[wU lo hi n];show wpAny _ _ (pure (((sIx n 0 lo:Nat):Int),(1:Int),Builtin.Slice.slicePlaces ((sIx n 0 lo:Nat):Int) ((sIx n n hi:Nat):Int) 1)) _ _ s;rw[wA];exact QW h
def A6(xs:Array Value)(i k:Nat):((List.range k).filterMap fun(m:Nat)=>xs[((i:Int)+(m:Int)*1).toNat]?).toArray=((xs.toList.drop i).take k).toArray:=by
 have e:(fun(m:Nat)=>xs[((i:Int)+(m:Int)*1).toNat]?)=fun m=>xs[i+m]?:=by
  funext m
  have:((i:Int)+(m:Int)*1).toNat=i+m:=by omega
  rw[this]
 rw[e];have:=pick_run xs i k;rw[List.filterMap_map]at this;have e2:((fun x=>xs[x]?) ∘ fun x=>i+x)=fun m=>xs[i+m]?:=rfl;rw[e2]at this;rw[this]
def mz{t sl:Addr}{items:Array Value}{vl vu:Value}{lo hi:Option Int}{Q:Value->Shared->Prop}(ht:IsTup s.heap t items)(hs:s.heap.IsSliceOf sl vl vu .none)(pl:IsPart vl lo)(pu:IsPart vu hi)
 (hw:¬ (sIx items.size 0 lo=0/\sIx items.size items.size hi=items.size))
 (h:Q (.ref s.heap.objs.size) { s with heap:=s.heap.push { cls:=.type "tuple",data:=.seq ((items.toList.drop (sIx items.size 0 lo)).take (sIx items.size items.size hi-sIx items.size 0 lo)).toArray } })
 (hsz:items.size<=sizeLine):wpAny (model prog w) A (getItem (.ref t) (.ref sl)) Q E s:=by
 have htake:sizeOk (.seq ((items.toList.drop (sIx items.size 0 lo)).take (sIx items.size items.size hi-sIx items.size 0 lo)).toArray):=by
  show((items.toList.drop (sIx items.size 0 lo)).take (sIx items.size items.size hi-sIx items.size 0 lo)).toArray.size<=sizeLine;rw[List.size_toArray,Zt,Zu,Array.length_toList];omega
 have hj:sIx items.size items.size hi<=items.size:=Fo _ _ (QV _) hi;obtain⟨os,hos,hcs,hds⟩:=id hs
 have hTs:s.TypeIs (.ref sl) "slice" := #[os,hos,hcs]
 unfold getItem
 try with_reducible refine wpAny_holding ?_
 first | refine QT (QW ?_) | skip
 refine QT (wpAny_sequenceKey ht.typeIs ∅ ?_)
 refine QT (wpAny_callSpecial?_slot (name:=Str.ofString "__getitem__") ht.typeIs PyProof.Rows.slot_tuple_getitem
  (wpAny_call_entry PyProof.Rows.slot_tuple_getitem ht.typeIs entry_tuple_getitem ?_ (args_tuple_getitem _ _)))
 show wpAny _ _ (Builtin.Tuple.tupleItemsOf (.ref t) >>= _) _ _ s;refine QT (tupleItemsOf_ ht ?_);refine QT (wpAny_typeOf hTs ?_);rw[if_pos ∅];refine QT (mS hs pl pu ?_)
 have hno:¬ ((((sIx items.size 0 lo:Nat):Int) == 0&&(1:Int) == 1&&(sIx items.size items.size hi-sIx items.size 0 lo) == items.size)=true):=by
  intro q;rw[Bool.and_eq_true,Bool.and_eq_true]at q;have q1:((sIx items.size 0 lo:Nat):Int)=0:=eq_of_beq q.1.1;have q2:sIx items.size items.size hi-sIx items.size 0 lo=items.size:=eq_of_beq q.2;exact hw ⟨by omega,by omega⟩
 show wpAny _ _ (if(((sIx items.size 0 lo:Nat):Int) == 0&&(1:Int) == 1&&(sIx items.size items.size hi-sIx items.size 0 lo) == items.size)=true then _ else _) _ _ s;rw[if_neg hno,A6]
 first
  | exact QT (m:=Builtin.Tuple.tupleExact _) (wpAny_newObj_type (QW ⟨_,rfl,QW h⟩) htake)
  | exact QT (m:=Builtin.Tuple.tupleExact _) (wpAny_newObj_type (QT (QW (QW ⟨_,rfl,QW h⟩))) htake)
  | exact QT (QT (m:=Builtin.Tuple.tupleExact _) (wpAny_newObj_type (QW (QW ⟨_,rfl,QW h⟩)) htake))
  | exact QT (QT (m:=Builtin.Tuple.tupleExact _) (wpAny_newObj_type (QW ⟨_,rfl,QW h⟩) htake))
end
end HT
namespace L2
open PySem PySem.Spec PyProof.Rows
@[reducible]noncomputable def TO:=St->Hp->(Option Int->Hp->Prop)->Prop
abbrev PO(X:Cx)(e:Option Expr)(t:TO):Prop :=
 ∀ (pins:List (Addr × Obj)) (s:Shared) (Y:St) (H:Hp) (Q:Option Int->Hp->Prop),Inv X pins Y H s->t Y H Q ->
  wpAny (model X.prog X.w) X.A (evalPart e X.env) (fun u s'=>∃ o H',Inv X pins Y H' s'/\IsPart u o/\Q o H') X.xe s
abbrev Dp:TO:=fun _ H Q=>Q none H
abbrev vY(t:TE):TO:=fun Y H Q=>t Y H fun x H1=>∃ i,x=.int i/\Q (some i) H1
def intsAre_of:∀ {us:List Value},Vals (ns.map V.int) us->IntsAre us ns:=by
 induction ns with
 | nil=>intro us r;rw[List.map_nil]at r;cases r;exact .nil
 |cons n ns ih=>
  intro us r;rw[List.map_cons]at r
  cases r with
  |cons r1 r2=>
   obtain⟨t,e⟩:=r1;subst e;exact .cons n t (ih r2)
section
variable{X:Cx}{e:Expr}{te:TE}{lo hi:Option Expr}{tl th:TO}{pos p2:Pos}
def v9:PO X none Dp:=by
 k_ne;rw[evalPart_none];exact QW ⟨none,H,I,.none,h⟩
def lD(h:PE X e te):PO X (some e) (vY te):=by
 intro pins s Y H Q I hw;rw[evalPart_some];refine thn (h pins s Y H _ I hw) fun u s1 ⟨x,H1,I1,r1,q1⟩=>?_;obtain⟨i,rfl,q⟩:=q1;obtain⟨t,rfl⟩:=r1;exact#[some i,H1,I1,.int i t,q]
abbrev SlR(X:Cx)(r:V->Option Int->Option Int->Hp->VK->Prop):Prop :=
 ∀ (pins:List (Addr × Obj)) (s:Shared) (Y:St) (H:Hp) (x:V) (v vl vu:Value) (lo hi:Option Int) (sl:Addr) (Q:VK),Inv X pins Y H s->RelV x v->s.heap.IsSliceOf sl vl vu .none->IsPart vl lo->IsPart vu hi->r x lo hi H Q ->
  ∃ T id,typeLookup (.type T) "__getitem__" = pure (some (.builtin id))/\s.TypeIs v T/\wpAny (model X.prog X.w) X.A (getItem v (.ref sl)) (EP X pins Y Q) X.xe s
def SlR.or(h:SlR X r)(h':SlR X r'):SlR X (fun x lo hi H Q=>r x lo hi H Q\/r' x lo hi H Q):=by
 intro pins s Y H x v vl vu lo hi sl Q I rx hs pl pu q;rcases q with q | q
 ·exact h pins s Y H x v vl vu lo hi sl Q I rx hs pl pu q
 ·exact h' pins s Y H x v vl vu lo hi sl Q I rx hs pl pu q
abbrev tSl(r:V->Option Int->Option Int->Hp->VK->Prop)(te:TE)(tl th:TO):TE:=fun Y H Q=>te Y H fun x H1=>tl Y H1 fun l H2=>th Y H2 fun u H3=>r x l u H3 Q
def rX(hr:SlR X r)(he:PE X e te)(hl:PO X lo tl)(hu:PO X hi th):PE X (.Subscript e (.Slice lo hi none p2) pos) (tSl r te tl th):=by
 k_ne;refine Subscript_ (thn (he pins s Y H _ I h) fun v s1 ⟨x,H1,I1,r1,q1⟩=>?_);refine wpAny_Slice (thn (hl pins s1 Y H1 _ I1 q1) fun vl s2 ⟨l,H2,I2,pl,q2⟩=>thn (hu pins s2 Y H2 _ I2 q2) fun vu s3 ⟨u,H3,I3,pu,q3⟩=>?_);rw[evalPart_none];refine QW ?_;have I4:Inv X pins Y H3 { s3 with heap:=s3.heap.push { cls:=.type "slice",data:=.fields (List.toArray [vl,vu,.none]) } }:=I3.kept (t':=s3.toks) fun b ob q=>QU _ q;obtain⟨T,id,hT,ht,hg⟩:=hr pins { s3 with heap:=s3.heap.push { cls:=.type "slice",data:=.fields (List.toArray [vl,vu,.none]) } } Y H3 x v vl vu l u s3.heap.objs.size Q I4 r1 (Heap.IsSliceOf.new ..) pl pu q3;show wpAny (model X.prog X.w) X.A (subscriptTail e (.Slice lo hi none p2) v (.ref s3.heap.objs.size)) (EP X pins Y Q) X.xe { s3 with heap:=s3.heap.push { cls:=.type "slice",data:=.fields (List.toArray [vl,vu,.none]) } };exact tail_any (ops:=[.ref s3.heap.objs.size,v]) ht hT hg (by with_unfolding_all rfl)
abbrev jr(xs:List V)(lo hi:Option Int):List V:=(xs.drop (HT.sIx xs.length 0 lo)).take (HT.sIx xs.length xs.length hi-HT.sIx xs.length 0 lo)
def mB(xs:List V)(lo hi:Option Int):(jr xs lo hi).length<=xs.length:=by
 unfold jr;rw[Zt,Zu];omega
abbrev Kd(K:W.Frag):V->Option Int->Option Int->Hp->VK->Prop:=fun x lo hi H Q=>∃ a xs,x=.ref a/\SqT K H a xs /\
 ¬ (HT.sIx xs.length 0 lo=0/\HT.sIx xs.length xs.length hi=xs.length)/\∀ p,H p=none->Q (.ref p) (upd H p (.tup (jr xs lo hi)))
def x6:SlR X (Kd X.K):=by
 intro pins s Y H x v vl vu lo hi sl Q I rx hs pl pu h;obtain⟨a,xs,rfl,hx,hw,q⟩:=h;cases rx;obtain⟨its,r,ht,hz⟩:=I.tuple hx
 have hlen:its.toArray.size=xs.length:=by rw[List.size_toArray];exact r.length.symm
 refine#["tuple",_,PyProof.Rows.slot_tuple_getitem.lookup,ht.typeIs,?_];refine HT.mz ht hs pl pu (by rw[hlen];exact hw) ?_ (by rw[hlen];exact hz);rw[hlen];refine#[.ref s.heap.objs.size,_,I.laid (t':=s.toks) (o:=.tup (jr xs lo hi)) (fun b ob q=>QU _ q) (QV _) ?_,rfl,q _ (I.hok.fresh (QV _))];exact#[Za (mB xs lo hi) hz,_,(r.drop (HT.sIx xs.length 0 lo)).take (HT.sIx xs.length xs.length hi-HT.sIx xs.length 0 lo),IsTup.new _ _]
abbrev IB(K:W.Frag):R2:=fun x y H Q=>∃ a b xs ys,x=.ref a/\y=.ref b/\SqT K H a xs/\SqT K H b ys/\xs≠[]/\xs.length+ys.length<=sizeLine /\
 (ys=[]->Q (.ref a) H)/\(ys≠[]->∀ p,H p=none->Q (.ref p) (upd H p (.tup (xs++ys))))
def Vals.pN(r:Vals xs us):us=[]↔xs=[]:=by
 cases r with
 | nil=>simp
 | cons _ _=>simp
def CZ:OpR X (binaryOp .Add) (IB X.K):=by
 intro pins s Y H x y v u Q I rx ry h;obtain⟨a,b,xs,ys,rfl,rfl,ha,hb,hx,hz,q1,q2⟩:=h;cases rx;cases ry;obtain⟨its,r1,p1,_⟩:=I.tuple ha;obtain⟨its2,r2,p2,_⟩:=I.tuple hb;refine HT.CI p1 p2 (fun z=>hx (r1.pN.mp z)) (fun z=>#[.ref a,H,I,rfl,q1 (r2.pN.mp z)]) (fun z=>?_) (by rw[<-r1.length,<-r2.length];exact hz);refine#[.ref s.heap.objs.size,_,I.laid (t':=s.toks) (o:=.tup (xs++ys)) (fun b ob q=>QU _ q) (QV _) ?_,rfl,q2 (fun w=>z (r2.pN.mpr w)) _ (I.hok.fresh (QV _))];exact#[by rw[List.length_append];exact hz,_,r1.append r2,IsTup.new _ _]
end
abbrev ixN(n:Nat)(i:Int):Option Nat:=if 0<=i then(if i<n then some i.toNat else none)else if -(n:Int)<=i then some (i+n).toNat else none
abbrev atI(xs:List α)(i:Int):Option α:=(ixN xs.length i).bind fun j=>xs[j]?
def vf(h:ixN n i=some j):seqIndex? i n=some j/\j<n/\-(n:Int)<=i/\i<n:=by
 unfold ixN at h;by_cases h0:0<=i
 ·rw[if_pos h0]at h;by_cases h1:i<n
  ·rw[if_pos h1]at h;have e:i.toNat=j:=Option.some.inj h;exact#[by rw[seqIndex_of h0 h1,e],by omega,by omega,h1]
  ·rw[if_neg h1]at h;cases h
 ·rw[if_neg h0]at h;by_cases h1:-(n:Int)<=i
  ·rw[if_pos h1]at h;have e:(i+n).toNat=j:=Option.some.inj h;exact#[by rw[seqIndex_neg (by omega) h1,e],by omega,h1,by omega]
  ·rw[if_neg h1]at h;cases h
def oY(h:atI xs i=some v):∃ j,seqIndex? i xs.length=some j/\xs[j]?=some v/\j<xs.length/\-(xs.length:Int)<=i/\i<xs.length:=by
 unfold atI at h
 cases e:ixN xs.length i with
 | none=>rw[e]at h;cases h
 |some j=>
  rw[e]at h;obtain⟨h1,h2,h3,h4⟩:=vf e;exact#[j,h1,h,h2,h3,h4]
abbrev vo(b:Expr):Prop:=∀ o i,subscripted b false o i=operate [o,i] (getItem o i)
abbrev IxR(X:Cx)(r:R2):Prop :=
 ∀ (value slice:Expr) (pins:List (Addr × Obj)) (s:Shared) (Y:St) (H:Hp) (x y:V) (v u:Value) (Q:VK),Inv X pins Y H s->RelV x v->RelV y u->r x y H Q ->
  subscripted slice false v u=operate [v,u] (getItem v u)->wpAny (model X.prog X.w) X.A (subscriptTail value slice v u) (EP X pins Y Q) X.xe s
abbrev MtR(X:Cx)(id:String)(r:V->List V->Hp->VK->Prop):Prop :=
 ∀ (pins:List (Addr × Obj)) (s:Shared) (Y:St) (H:Hp) (x:V) (xs:List V) (v:Value) (us:List Value) (Q:VK),Inv X pins Y H s->RelV x v->Vals xs us->r x xs H Q ->
  wpAny (model X.prog X.w) X.A (call (.builtin id) (v::us)) (EP X pins Y Q) X.xe s
section
variable{X:Cx}{a b:Expr}{ta tb:TE}{pos:Pos}
def IxR.or(h:IxR X r)(h':IxR X r'):IxR X (fun x y H Q=>r x y H Q\/r' x y H Q):=by
 intro value slice pins s Y H x y v u Q I rx ry q hs;rcases q with q | q
 ·exact h value slice pins s Y H x y v u Q I rx ry q hs
 ·exact h' value slice pins s Y H x y v u Q I rx ry q hs
def Ij{r:R2}(hr:IxR X r)(ha:PE X a ta)(hb:PE X b tb)(hs:vo b):PE X (.Subscript a b pos) (tOp r ta tb):=by
 k_ne;exact Subscript_ (A7 ha hb I h fun v u s2 x y H2 I2 rx ry q=>hr a b pins s2 Y H2 x y v u Q I2 rx ry q (hs _ _))
abbrev G4(K:W.Frag):R2:=fun x y H Q=>∃ p xs i v,x=.ref p/\y=.int i/\SqL K H p xs/\atI xs i=some v/\Q v H
abbrev Gu(K:W.Frag):R2:=fun x y H Q=>∃ p xs i v,x=.ref p/\y=.int i/\SqT K H p xs/\atI xs i=some v/\Q v H
abbrev HA:R2:=fun x y H Q=>∃ z i c,x=.str z/\y=.int i/\z.length<=sizeLine/\atI z.cps.toList i=some c/\Q (.str ⟨(List.toArray [c])⟩) H
def Ef:IxR X (G4 X.K):=by
 intro value slice pins s Y H x y v u Q I rx ry h hs;obtain⟨p,xs,i,z,rfl,rfl,hq,he,q⟩:=h;cases rx;obtain⟨t,rfl⟩:=ry;obtain⟨its,r,pl,hz⟩:=I.list hq;obtain⟨j,h1,h2,h3,h4,h5⟩:=oY he;obtain⟨w,ew,rw'⟩:=r.get h2;have hl:=r.length;have hn:=jG
 have fin:EP X pins Y Q w s:=#[z,H,I,rw',q]
 by_cases h0:0<=i
 ·have hj:i.toNat=j:=by
   rw[seqIndex_of h0 h5]at h1;exact Option.some.inj h1
  exact item_listR pl.isList h0 (by omega) (by rw[hj];simpa using ew) fin hs
 ·have hj:(i+(its.toArray.size:Int)).toNat=j:=by
   rw[seqIndex_neg (by omega) h4]at h1;rw[List.size_toArray,<-hl];exact Option.some.inj h1
  exact subscriptTail_builtinR (x:=w) pl.isList.typeIs slot_list_getitem.lookup
   (wpAny_getItem_list_neg (Q:=fun r s'=>r=w/\EP X pins Y Q r s') pl.isList (by omega) (by rw[List.size_toArray]<;>omega) (by omega) (by rw[hj];simpa using ew) ⟨rfl,fin⟩) hs
def jF:IxR X (Gu X.K):=by
 intro value slice pins s Y H x y v u Q I rx ry h hs;obtain⟨p,xs,i,z,rfl,rfl,hq,he,q⟩:=h;cases rx;obtain⟨t,rfl⟩:=ry;obtain⟨its,r,pl,hz⟩:=I.tuple hq;obtain⟨j,h1,h2,h3,h4,h5⟩:=oY he;obtain⟨w,ew,rw'⟩:=r.get h2;have hl:=r.length;have hn:=jG
 have fin:EP X pins Y Q w s:=#[z,H,I,rw',q]
 exact subscriptTail_builtinR (x:=w) pl.typeIs slot_tuple_getitem.lookup
  (getItem_tuple (j:=j) (Q:=fun r s'=>r=w/\EP X pins Y Q r s') pl (by omega) (by omega) (by rw[List.size_toArray,<-hl];exact h1) (by simpa using ew) ⟨rfl,fin⟩) hs
def Fv:IxR X HA:=by
 intro value slice pins s Y H x y v u Q I rx ry h hs;obtain⟨z,i,c,rfl,rfl,hz,he,q⟩:=h;obtain⟨t,rfl⟩:=rx;obtain⟨t',rfl⟩:=ry;obtain⟨j,h1,h2,h3,h4,h5⟩:=oY he
 have hl:z.cps.toList.length=z.length:=by simp[Str.length]
 rw[hl]at h1 h4 h5;have hn:=jG
 exact tail_any (typeIs_str s z t) slot_str_getitem.lookup (getItem_str (c:=c) (by
  have e1:decide (i < -(2 ^ 63:Int))=false:=Q1 (by omega);have e2:decide (i≥2 ^ 63)=false:=Q1 (by omega)
  rw[e1,e2,Bool.or_false]) (by rw[h1];simpa using h2) ⟨.str ⟨(List.toArray [c])⟩,H,I.tok _,⟨_,rfl⟩,q⟩) hs
abbrev rIx(K:W.Frag):R2:=fun x y H Q=>G4 K x y H Q\/Gu K x y H Q\/HA x y H Q
def HB:IxR X (rIx X.K):=Ef.or (jF.or Fv)
def wt(its:List Value)(n j:Nat)(u:Value):Obj.mapSeq (·.setIfInBounds j u) { cls:=.type "list",data:=.seq its.toArray n }={ cls:=.type "list",data:=.seq (its.set j u).toArray n }:=by
 simp[Obj.mapSeq]
def Inv.lst{pins:List (Addr × Obj)}{Y:St}{H:Hp}{s:Shared}{p:Addr}{xs:List V}(I:Inv X pins Y H s)(h:H p=some (.lst xs)) :
  ∃ (its:List Value) (n:Nat),Vals xs its/\s.heap.get? p=some { cls:=.type "list",data:=.seq its.toArray n }/\xs.length<=sizeLine:=by
 obtain⟨z,its,n,r,e⟩:=I.hok p _ h;exact#[its,n,r,e,z]
def Inv.HR{pins:List (Addr × Obj)}{Y:St}{H:Hp}{s:Shared}{p:Addr}{xs ys:List V}{its its':List Value}{n n':Nat}{f:Obj->Obj}(I:Inv X pins Y H s)(h:H p=some (.lst xs))
 (ho:s.heap.get? p=some { cls:=.type "list",data:=.seq its.toArray n })(hf:f { cls:=.type "list",data:=.seq its.toArray n }={ cls:=.type "list",data:=.seq its'.toArray n' })(r:Vals ys its')(hz:ys.length<=sizeLine)(t:Nat) :
  Inv X pins Y (upd H p (.lst ys)) { s with heap:=s.heap.update p f,toks:=t }:=by
 have e:(s.heap.update p f).get? p=some { cls:=.type "list",data:=.seq its'.toArray n' }:=by
  rw[Zj f ho (by rw[hf]<;>rfl),hf]
 refine I.write (x:=p) (e:=p) (by rw[h];trivial) (.inl rfl) (fun b u hb q=>(Heap.get?_update_other _ _ (Ne.symm hb)).trans q) ⟨_,e⟩ ?_;exact#[hz,its',n',r,e]
abbrev nX:V->V->V->Hp->(Hp->Prop)->Prop:=fun o i v H Q=>∃ p xs k j,o=.ref p/\i=.int k/\H p=some (.lst xs)/\ixN xs.length k=some j/\Q (upd H p (.lst (xs.set j v)))
def set_list:Ff X nX:=by
 intro pins s Y H o i v ov iv u Q I ro ri rv h;obtain⟨p,xs,k,j,rfl,rfl,hp,hj,q⟩:=h;cases ro;obtain⟨t,rfl⟩:=ri;obtain⟨its,n,r,ho,hz⟩:=I.lst hp;obtain⟨h1,h2,h3,h4⟩:=vf hj;have hl:=r.length;have hn:=jG
 have I':Inv X pins Y (upd H p (.lst (xs.set j v))) { s with heap:=s.heap.update p (Obj.mapSeq (·.setIfInBounds j u)) } :=
  I.HR hp ho (wt its n j u) (r.set rv j) (by rw[List.length_set];exact hz) s.toks
 by_cases h0:0<=k
 ·have hk:k.toNat=j:=by
   rw[seqIndex_of h0 h4]at h1;exact Option.some.inj h1
  exact W.ki_setAt ho h0 (by omega) (by rw[List.size_toArray,<-hl];exact h4) (by rw[hk];exact#[_,I',q])
 ·have hk:(k+(its.toArray.size:Int)).toNat=j:=by
   rw[seqIndex_neg (by omega) h3]at h1;rw[List.size_toArray,<-hl];exact Option.some.inj h1
  exact W.ki_setBack ho (by omega) (by rw[List.size_toArray,<-hl];exact h3) (by omega) (by rw[hk];exact#[_,I',q])
def uc(lo hi:Option Int)(n:Nat):(sliceBounds lo hi none n).1=((HT.sIx n 0 lo:Nat):Int)/\(sliceBounds lo hi none n).2.1=((HT.sIx n n hi:Nat):Int)/\(sliceBounds lo hi none n).2.2=1:=by
 refine#[?_,?_,rfl]
 ·cases lo with
  | none=>simp[sliceBounds,HT.sIx]
  |some i=>
   simp only[sliceBounds,HT.sIx,Option.getD_none,show(1:Int) > 0 by decide,if_true];by_cases h:i<0
   ·simp only[h,if_true]<;>omega
   ·simp only[h,if_false]<;>omega
 ·cases hi with
  | none=>simp[sliceBounds,HT.sIx]
  |some i=>
   simp only[sliceBounds,HT.sIx,Option.getD_none,show(1:Int) > 0 by decide,if_true];by_cases h:i<0
   ·simp only[h,if_true]<;>omega
   ·simp only[h,if_false]<;>omega
def qC(its:List Value)(lo hi:Option Int):slicePick its.toArray lo hi none=((its.drop (HT.sIx its.length 0 lo)).take (HT.sIx its.length its.length hi-HT.sIx its.length 0 lo)).toArray:=by
 obtain⟨h1,h2,h3⟩:=uc lo hi its.toArray.size;unfold slicePick;rw[h1,h2,h3];simp only[sliceRange_one,pick_run,List.size_toArray]<;>rfl
abbrev Jr(K:W.Frag):V->Option Int->Option Int->Hp->VK->Prop:=fun x lo hi H Q=>∃ a xs,x=.ref a/\SqL K H a xs/\∀ p,H p=none->Q (.ref p) (upd H p (.lst (jr xs lo hi)))
def uW:SlR X (Jr X.K):=by
 intro pins s Y H x v vl vu lo hi sl Q I rx hs pl pu h;obtain⟨a,xs,rfl,hx,q⟩:=h;cases rx;obtain⟨its,r,ht,hz⟩:=I.list hx;have hlen:=r.length;refine#["list",_,slot_list_getitem.lookup,ht.isList.typeIs,?_];refine wpAny_getItem_list_slice ht.isList hs pl pu .none (by simp) ?_ (by rw[List.size_toArray]<;>omega);rw[qC,<-hlen];refine#[.ref s.heap.objs.size,_,I.laid (t':=s.toks) (o:=.lst (jr xs lo hi)) (fun b ob q=>QU _ q) (QV _) ?_,rfl,q _ (I.hok.fresh (QV _))];exact#[Za (mB xs lo hi) hz,_,0,(r.drop (HT.sIx xs.length 0 lo)).take (HT.sIx xs.length xs.length hi-HT.sIx xs.length 0 lo),QX _ rfl]
abbrev gh:V->Bool
 | .non=>true
 | .bl _=>true
 | .int _=>true
 | .str _=>true
 | _=>false
abbrev eqV:V->V->Bool
 | .non,.non=>true
 | .bl a,.bl b=>a == b
 | .bl a,.int b=>(if a then 1 else 0) == b
 | .int a,.bl b=>a == (if b then 1 else 0)
 | .int a,.int b=>a == b
 | .str a,.str b=>a == b
 | _,_=>false
def Hg(ry:RelV y u)(rx:RelV x v)(fy:gh y=true)(fx:gh x=true):SeqAt.EqAt A s u v (eqV y x):=by
 cases y with
 |non=>
  cases ry
  cases x with
  | non=>cases rx;exact SeqAt.EqAt.same _
  | bl b=>cases rx;exact SeqAt.EqAt.none_bool b
  | int b=>obtain⟨t,rfl⟩:=rx;exact SeqAt.EqAt.none_int b t
  | str b=>obtain⟨t,rfl⟩:=rx;exact SeqAt.EqAt.none_str b t
  | _=>exact absurd (show false=true from fx) Q3
 |bl a=>
  cases ry
  cases x with
  | non=>cases rx;exact SeqAt.EqAt.bool_none a
  | bl b=>cases rx;exact SeqAt.EqAt.bool_bool a b
  | int b=>obtain⟨t,rfl⟩:=rx;exact SeqAt.EqAt.bool_int a b t
  | str b=>obtain⟨t,rfl⟩:=rx;exact SeqAt.EqAt.bool_str a b t
  | _=>exact absurd (show false=true from fx) Q3
 |int a=>
  obtain⟨t',rfl⟩:=ry
  cases x with
  | non=>cases rx;exact SeqAt.EqAt.int_none a t'
  | bl b=>cases rx;exact SeqAt.EqAt.int_bool a t' b
  | int b=>obtain⟨t,rfl⟩:=rx;exact SeqAt.EqAt.int_int a t' b t
  | str b=>obtain⟨t,rfl⟩:=rx;exact SeqAt.EqAt.int_str a t' b t
  | _=>exact absurd (show false=true from fx) Q3
 |str a=>
  obtain⟨t',rfl⟩:=ry
  cases x with
  | non=>cases rx;exact SeqAt.EqAt.str_none a t'
  | bl b=>cases rx;exact SeqAt.EqAt.str_bool a t' b
  | int b=>obtain⟨t,rfl⟩:=rx;exact SeqAt.EqAt.str_int a t' b t
  | str b=>obtain⟨t,rfl⟩:=rx;exact SeqAt.EqAt.str_str a t' b t
  | _=>exact absurd (show false=true from fx) Q3
 | _=>exact absurd (show false=true from fy) Q3
abbrev eqU(x:V)(u:Value):Bool:=match u with
 | .none=>eqV .non x
 | .bool b=>eqV (.bl b) x
 | .int i _=>eqV (.int i) x
 | .str z _=>eqV (.str z) x
 | _=>false
def xC(r:RelV y u)(f:gh y=true):eqU x u=eqV y x:=by
 cases y with
 | non=>cases r;rfl
 | bl b=>cases r;rfl
 | int i=>obtain⟨t,rfl⟩:=r;rfl
 | str z=>obtain⟨t,rfl⟩:=r;rfl
 | _=>exact absurd (show false=true from f) Q3
def jP:∀ {xs:List V} {us:List Value},Vals xs us->xs.all gh=true->us.any (eqU x)=xs.any fun y=>eqV y x
 | _,_,.nil,_=>rfl
 | y::xs,u::us,.cons r t,f=>by
  rw[Zo,Bool.and_eq_true]at f;rw[Zs,Zs,xC r f.1,jP t f.2]
def iH(rx:RelV x v)(fx:gh x=true):∀ {xs:List V} {us:List Value},Vals xs us->xs.all gh=true->∀ u∈us,SeqAt.EqAt A s u v (eqU x u)
 | _,_,.nil,_=>fun u hu=>by cases hu
 | y::xs,u::us,.cons r t,f=>fun u' hu=>by
  rw[Zo,Bool.and_eq_true]at f;rcases List.mem_cons.mp hu with rfl | hu
  ·rw[xC r f.1];exact Hg r rx f.1 fx
  ·exact iH rx fx t f.2 u' hu
abbrev inV(x:V)(xs:List V):Bool:=xs.any fun y=>eqV y x
abbrev rIn(K:W.Frag)(neg:Bool):R2:=fun x y H Q=>∃ p xs,y=.ref p/\(SqL K H p xs\/SqT K H p xs)/\gh x=true/\xs.all gh=true/\Q (.bl (if neg then !inV x xs else inV x xs)) H
def yY:OpR X (compareOp .In) (rIn X.K false):=by
 intro pins s Y H x y v u Q I rx ry h;obtain⟨p,xs,rfl,hq,fx,fs,q⟩:=h;cases ry;rcases hq with hq | hq
 ·obtain⟨its,r,pl,hz⟩:=I.list hq;refine SeqAt.in_listAt (eqU x) pl.isList (fun w hw=>iH rx fx r fs w (by simpa using hw)) ⟨.bl _,H,I,rfl,?_⟩;rw[show its.toArray.any (eqU x)=its.any (eqU x) by simp,jP r fs];exact q
 ·obtain⟨its,r,pl,hz⟩:=I.tuple hq;refine SeqAt.in_tupleAt (eqU x) pl (fun w hw=>iH rx fx r fs w (by simpa using hw)) ⟨.bl _,H,I,rfl,?_⟩;rw[show its.toArray.any (eqU x)=its.any (eqU x) by simp,jP r fs];exact q
def tJ:OpR X (compareOp .NotIn) (rIn X.K true):=by
 intro pins s Y H x y v u Q I rx ry h;obtain⟨p,xs,rfl,hq,fx,fs,q⟩:=h;cases ry;rcases hq with hq | hq
 ·obtain⟨its,r,pl,hz⟩:=I.list hq;refine SeqAt.notIn_listAt (eqU x) pl.isList (fun w hw=>iH rx fx r fs w (by simpa using hw)) ⟨.bl _,H,I,rfl,?_⟩;rw[show its.toArray.any (eqU x)=its.any (eqU x) by simp,jP r fs];exact q
 ·obtain⟨its,r,pl,hz⟩:=I.tuple hq;refine SeqAt.notIn_tupleAt (eqU x) pl (fun w hw=>iH rx fx r fs w (by simpa using hw)) ⟨.bl _,H,I,rfl,?_⟩;rw[show its.toArray.any (eqU x)=its.any (eqU x) by simp,jP r fs];exact q
def bC.or(h:bC X f r)(h':bC X f r'):bC X f (fun xs H Q=>r xs H Q\/r' xs H Q):=by
 intro pins s Y H xs us Q I rs q;rcases q with q | q
 ·exact h pins s Y H xs us Q I rs q
 ·exact h' pins s Y H xs us Q I rs q
def tu:bC X (.type "list") (fun xs H Q=>∃ p ys,xs=[.ref p]/\(SqL X.K H p ys\/SqT X.K H p ys)/\∀ l,H l=none->Q (.ref l) (upd H l (.lst ys))):=by
 intro pins s Y H xs us Q I r h;obtain⟨p,ys,rfl,hq,q⟩:=h;obtain⟨u,rfl,rx⟩:=vals1 r;cases rx
 have fin:∀ (its:List Value),Vals ys its->ys.length<=sizeLine->∀ (h':Heap) (c':Nat),(∀ b o',s.heap.get? b=some o'->h'.get? b=some o') ->
   h'.get? s.heap.objs.size=some { cls:=.type "list",dict:=none,data:=.seq its.toArray c',slots:=(List.toArray []) }->EP X pins Y Q (.ref s.heap.objs.size) { s with heap:=h' }:=fun its r' hz h' c' kp e =>
  ⟨.ref s.heap.objs.size,_,I.laid (t':=s.toks) kp (QV _) (show bD X.prog X.w _ h' _ (.lst ys)from⟨hz,its,c',r',e⟩),rfl,q _ (I.hok.fresh (QV _))⟩
 rcases hq with hq | hq
 ·obtain⟨its,r',pl,hz⟩:=I.list hq;have hlen:=r'.length;obtain⟨o,ho,hc,n,hd⟩:=pl.isList;exact call_list_seq p (.inl rfl) ho hc hd (fun h' c' kp e=>fin its r' hz h' c' kp e) (by simp only[List.size_toArray]<;>omega)
 ·obtain⟨its,r',pl,hz⟩:=I.tuple hq;have hlen:=r'.length;obtain⟨o,ho,hc,n,hd⟩:=pl;exact call_list_seq p (.inr rfl) ho hc hd (fun h' c' kp e=>fin its r' hz h' c' kp e) (by simp only[List.size_toArray]<;>omega)
def qz:bC X (.type "tuple") (fun xs H Q=>∃ p ys,xs=[.ref p]/\((SqL X.K H p ys/\∀ l,H l=none->Q (.ref l) (upd H l (.tup ys)))\/(SqT X.K H p ys/\Q (.ref p) H))):=by
 intro pins s Y H xs us Q I r h;obtain⟨p,ys,rfl,h⟩:=h;obtain⟨u,rfl,rx⟩:=vals1 r;cases rx
 rcases h with⟨hq,q⟩ | ⟨hq,q⟩
 ·obtain⟨its,r',pl,hz⟩:=I.list hq;have hlen:=r'.length;refine call_tuple_list pl.isList (fun h' kp=>?_) (by simp only[List.size_toArray]<;>omega);have I1:Inv X pins Y H { s with heap:=h' }:=I.kept (t':=s.toks) kp
  have I2:Inv X pins Y (upd H h'.objs.size (.tup ys)) { s with heap:=h'.push { cls:=.type "tuple",data:=.seq its.toArray } } :=
   I1.laid (t':=s.toks) (fun b o e=>QU _ e) (QV _) (show bD X.prog X.w _ _ _ (.tup ys)from⟨hz,its,r',IsTup.new _ _⟩)
  exact#[.ref h'.objs.size,_,I2,rfl,q _ (I1.hok.fresh (QV _))]
 ·obtain⟨its,r',pl,hz⟩:=I.tuple hq;exact call_tuple_same pl ⟨.ref p,H,I,rfl,q⟩
abbrev tyV(K:W.Frag)(T:String)(x:V)(H:Hp):Prop:=match x with
 | .str _=>T = "str"
 | .int _=>T = "int"
 | .ref p=>(T = "list" /\ ∃ xs,SqL K H p xs)\/(T = "tuple" /\ ∃ o,K.lookup p=some o/\o.cls=.type "tuple" /\ o.dict=none) \/
   (T = "dict" /\ ((∃ kvs,H p=some (.dK kvs))\/∃ kvs,H p=some (.dT kvs)))\/(T = "set" /\ ∃ S n,H p=some (.set S n))
 | _=>False
def yO(I:Inv X pins Y H s)(r:RelV x v)(ty:tyV X.K T x H) :
  s.TypeIs v T/\∀ a,v=.ref a->∃ ob,s.heap.get? a=some ob/\ob.dict=none:=by
 cases x with
 |str z=>
  obtain⟨t,rfl⟩:=r;cases(show T = "str" from ty);exact#[typeIs_str s z t,fun _ e=>nomatch e]
 |int i=>
  obtain⟨t,rfl⟩:=r;cases(show T = "int" from ty);exact#[typeIs_int s i t,fun _ e=>nomatch e]
 |ref p=>
  cases r
  rcases ty with⟨rfl,xs,hq⟩ | ⟨rfl,o,hk,hc,hd⟩ | ⟨rfl,hk⟩ | ⟨rfl,S,n,hk⟩
  ·obtain⟨its,_,pl,_⟩:=I.list hq;refine#[pl.isList.typeIs,fun a e=>?_];cases e;obtain⟨o,n,e,c,hd,_⟩:=pl;exact#[o,e,hd]
  ·refine#[#[o,I.kIn p o hk,hc],fun a e=>?_];cases e;exact#[o,I.kIn _ o hk,hd]
  ·have z:∃ o,s.heap.get? p=some o/\o.ExactDict:=by
    rcases hk with⟨kvs,hk⟩ | ⟨kvs,hk⟩
    ·obtain⟨_,_,_,_,o,_,_,e,ex,_⟩:=I.hok p _ hk;exact#[o,e,ex]
    ·obtain⟨_,_,_,_,o,_,_,e,ex,_⟩:=I.hok p _ hk;exact#[o,e,ex]
   obtain⟨o,e,ex⟩:=z;refine#[#[o,e,ex.1],fun a e2=>?_];cases e2;exact#[o,e,ex.2.1]
  ·obtain⟨o,_,_,_,e,ex,_⟩:=I.hok p _ hk;refine#[#[o,e,ex.1],fun a e2=>?_];cases e2;exact#[o,e,ex.2.1]
 | _=>exact False.elim ty
abbrev GS(K:W.Frag)(T:String)(r:V->List V->Hp->VK->Prop)(to:TE):TE:=fun Y H Q=>to Y H fun x H1=>tyV K T x H1/\r x [] H1 Q
abbrev tBM(K:W.Frag)(T:String)(r:V->List V->Hp->VK->Prop)(to:TE)(t:TA):TE:=fun Y H Q=>to Y H fun x H1=>tyV K T x H1/\t Y H1 fun xs H2=>r x xs H2 Q
variable{o e:Expr}{es:List Expr}{to:TE}{t:TA}{name:Str}{apos cpos:Pos}{T id:String}{r:V->List V->Hp->VK->Prop}
def GQ(pa:PlainAttrs T)(slot:Slot T name id)(hty:typeOf (.builtin id)=pure (.type "method_descriptor"))(hm:MtR X id r)(ho:PE X o to)
 (hbase:attributeBase o name X.env (eval o X.env)=eval o X.env)(hline:(apos.endLine == cpos.line)=true):PE X (.Call (.Attribute o name apos) [] [] cpos) (GS X.K T r to):=by
 k_ne;refine wpAny_Call_method0_late hbase hline (thn (ho pins s Y H _ I h) fun v s1 ⟨x,H1,I1,r1,ty,q1⟩=>?_);obtain⟨h1,h2⟩:=yO I1 r1 ty;exact#[T,id,pa,slot,hty,h1,h2,Calls.callWith_builtin rfl (PySem.evalArgs_none (hm pins s1 Y H1 x [] v [] Q I1 r1 .nil q1))]
def BA(pa:PlainAttrs T)(slot:Slot T name id)(hty:typeOf (.builtin id)=pure (.type "method_descriptor"))(hm:MtR X id r)(ho:PE X o to)(ha:PA X (e::es) t)
 (hbase:attributeBase o name X.env (eval o X.env)=eval o X.env)
 (hfew:((backTo cpos (starEach (e::es) X.env)).all (fun x=>!x.1)&&(backToKw cpos (keywordEach [] X.env)).all (fun x=>x.1.isSome)
   && decide ((e::es).length+([]:List Keyword).length+(if([]:List Keyword).isEmpty then 0 else 1)<30))=true:=by rfl)
 (hline:(apos.endLine == cpos.line)=true)(hs:starEach (e::es) X.env=(false,eval e X.env)::starEach es X.env)(hplain:(backTo cpos (starEach es X.env)).any (·.1)=false) :
  PE X (.Call (.Attribute o name apos) (e::es) [] cpos) (tBM X.K T r to t):=by
 k_ne;refine wpAny_Call_method_late hbase hfew hline rfl (thn (ho pins s Y H _ I h) fun v s1 ⟨x,H1,I1,r1,ty,q1⟩=>?_);obtain⟨h1,h2⟩:=yO I1 r1 ty;refine#[T,id,pa,slot,hty,h1,h2,?_];have hA:=ha cpos pins s1 Y H1 _ I1 q1;rw[hs]at hA ⊢;refine Calls.callWith_builtin (by show(false || (backTo cpos (starEach es X.env)).any (·.1))=false;rw[hplain]<;>rfl) (Calls.evalArgs_plain ?_);exact thn hA fun us s2 ⟨vs,H2,I2,r2,q2⟩=>hm pins s2 Y H2 x vs v us Q I2 r1 r2 q2
end
abbrev MtM(X:Cx)(id:String)(r:V->List V->Hp->VK->Prop):Prop :=
 ∀ (pins:List (Addr × Obj)) (s:Shared) (Y:St) (H:Hp) (x:V) (xs:List V) (v:Value) (us:List Value) (Q:VK),Inv X pins Y H s->RelV x v->Vals xs us->r x xs H Q ->
  wpAny (model X.prog X.w) X.A (call (.builtin id) (v::us)) (EP X pins Y Q) X.xe s
def Vals.inv(h:Vals (x::xs) us):∃ u t,us=u::t/\RelV x u/\Vals xs t:=by
 cases h with
 | cons r t=>exact#[_,_,rfl,r,t]
def Vals.Ez(h:Vals [] us):us=[]:=by
 cases h;rfl
def Vals.one{x:V}{us:List Value}(h:Vals [x] us):∃ u,us=[u]/\RelV x u :=
 let ⟨u,_,e,r,h⟩:=h.inv
 ⟨u,by rw[e,h.Ez],r⟩
def Vals.two{x y:V}{us:List Value}(h:Vals [x,y] us):∃ u v,us=[u,v]/\RelV x u/\RelV y v :=
 let ⟨u,_,e,r,h⟩:=h.inv
 let ⟨v,_,e',q,h⟩:=h.inv
 ⟨u,v,by rw[e,e',h.Ez],r,q⟩
def Vals.zero:∀ {us:List Value},Vals [] us->us=[]
 | _,.nil=>rfl
def Vals.dropLast(h:Vals xs us):Vals xs.dropLast us.dropLast:=by
 induction h with
 | nil=>exact .nil
 |cons r t ih=>
  cases t with
  | nil=>exact .nil
  | cons q t'=>exact .cons r ih
def Vals.eraseIdx:∀ {xs:List V} {us:List Value} (i:Nat),Vals xs us->Vals (xs.eraseIdx i) (us.eraseIdx i)
 | _,_,_,.nil=>.nil
 | _,_,0,.cons _ t=>t
 | _,_,i+1,.cons r t=>.cons r (Vals.eraseIdx i t)
def Vals.reverse(h:Vals xs us):Vals xs.reverse us.reverse:=by
 induction h with
 | nil=>exact .nil
 | cons r t ih=>rw[Zq,Zq];exact Vals.append ih (.cons r .nil)
def Vals.rep(h:Vals xs us):∀ k:Nat,Vals (List.replicate k xs).flatten (List.replicate k us).flatten
 | 0=>.nil
 | k+1=>by
  rw[Zl,Zl,Zv,Zv];exact Vals.append h (Vals.rep h k)
def wX(l:List α):l.eraseIdx (l.length-1)=l.dropLast:=by
 induction l with
 | nil=>rfl
 |cons a r ih=>
  cases r with
  | nil=>rfl
  |cons b r=>
   have e:(a::b::r).length-1=((b::r).length-1)+1:=by
    have h1:(a::b::r).length=r.length+2:=rfl;have h2:(b::r).length=r.length+1:=rfl;omega
   rw[e,List.eraseIdx_cons_succ,ih]
   all_goals rfl
def qb:∀ (l:List α) (i:Nat),(l.eraseIdx i).length<=l.length
 | [],_=>QV _
 | _::_,0=>Nat.le_succ _
 | _::r,i+1=>Nat.succ_le_succ (qb r i)
def foldl_rep(its:List Value):∀ (k:Nat) (acc:List Value),
  List.foldl (fun x1 x2=>x1++x2) acc.toArray (List.replicate k its.toArray)=(acc++(List.replicate k its).flatten).toArray
 | 0,acc=>by simp
 | k+1,acc=>by
  have e:acc.toArray++its.toArray=(acc++its).toArray:=by simp
  have e2:(acc++its)++(List.replicate k its).flatten=acc++(List.replicate (k+1) its).flatten:=by
   rw[Zl,Zv,Q6]
  rw[<-e2,<-foldl_rep its k (acc++its),<-e,Zl,List.foldl_cons]
section
variable{X:Cx}{pins:List (Addr × Obj)}{Y:St}{H:Hp}{s:Shared}{l b:Addr}{xs ys zs:List V}
def Inv.wz{its its':List Value}{n:Nat}{f:Array Value->Array Value}{t':Nat}(I:Inv X pins Y H s)(hH:H l=some (.lst xs))
 (e:s.heap.get? l=some { cls:=.type "list",data:=.seq its.toArray n })(hf:f its.toArray=its'.toArray)(hv:Vals ys its')(hz:ys.length<=sizeLine) :
  Inv X pins Y (upd H l (.lst ys)) { s with heap:=s.heap.update l (Obj.mapSeq f),toks:=t' }:=by
 have q:=PySem.IsL.update e f;rw[hf]at q;refine I.write (x:=l) (e:=l) (by rw[hH];exact trivial) (.inl rfl) (fun b' u hb hu=>(Heap.get?_update_other s.heap (Obj.mapSeq f) (Ne.symm hb)).trans hu) ⟨_,q⟩ ?_;exact#[hz,its',_,hv,q]
def Inv.G5(I:Inv X pins Y H s)(hv:Vals ys its)(hz:ys.length<=sizeLine) :
  Inv X pins Y (upd H s.heap.objs.size (.lst ys)) { s with heap:=s.heap.push { cls:=.type "list",data:=.seq its.toArray },toks:=t' } :=
 I.laid (fun _ _ q=>QU _ q) (QV _) ⟨hz,its,0,hv,QX _ rfl⟩
def Inv.fresh(I:Inv X pins Y H s):H s.heap.objs.size=none:=I.hok.fresh (QV _)
def Inv.l4(I:Inv X pins Y H s)(hH:H l=some (.lst xs)):xs.length<=sizeLine/\∃ (its:List Value) (n:Nat),Vals xs its/\xs.length=its.length/\s.heap.get? l=some { cls:=.type "list",data:=.seq its.toArray n }:=by
 obtain⟨z,its,n,r,e⟩:=I.hok l _ hH;exact#[z,its,n,r,r.length,e]
def Bu(h:n<=sizeLine):Builtin.List.listTooLong n=false:=by
 unfold Builtin.List.listTooLong;exact Q1 (by omega)
end
section
variable{X:Cx}
abbrev uN:V->List V->Hp->VK->Prop:=fun x vs H Q=>∃ l xs y,x=.ref l/\vs=[y]/\H l=some (.lst xs)/\xs.length<sizeLine/\Q .non (upd H l (.lst (xs++[y])))
def qi:MtM X "list.append" uN:=by
 intro pins s Y H x vs v us Q I rx rv h;obtain⟨l,xs,y,rfl,rfl,hH,hz,q⟩:=h;cases rx;obtain⟨u,rfl,ru⟩:=rv.one;obtain⟨z,its,n,r,hl,e⟩:=I.l4 hH;refine call_meets F.slot_list_append ⟨_,e,rfl⟩ F.entry_list_append (F.args_list_append_2 _ _) (PySem.list_append l its.toArray n u (by rw[List.size_toArray];omega)) ⟨e,?_⟩;refine#[.non,_,I.wz (its':=its++[u]) hH e (by simp) (r.append %[ru|.nil]) ?_,rfl,q];rw[List.length_append,List.length_singleton];omega
abbrev FK:V->List V->Hp->VK->Prop:=fun x vs H Q=>∃ l xs y,x=.ref l/\vs=[]/\H l=some (.lst xs)/\xs[xs.length-1]?=some y/\Q y (upd H l (.lst xs.dropLast))
def Fx:MtM X "list.pop" FK:=by
 intro pins s Y H x vs v us Q I rx rv h;obtain⟨l,xs,y,rfl,rfl,hH,hy,q⟩:=h;cases rx;have hus:=rv.zero;subst hus;obtain⟨z,its,n,r,hl,e⟩:=I.l4 hH;obtain⟨u,hu,ru⟩:=r.get hy
 have hy':its.toArray[its.toArray.size-1]?=some u:=by
  show its.toArray[its.length-1]?=some u;rw[<-Array.getElem?_toList,<-hl];exact hu
 refine call_meets F.slot_list_pop ⟨_,e,rfl⟩ F.entry_list_pop (F.args_list_pop_1 _) (MeetsSeq.list_pop_last l its.toArray n u hy' (by rw[List.size_toArray];omega)) ⟨e,?_⟩;refine#[y,_,I.wz (its':=its.dropLast) hH e ?_ r.dropLast ?_,ru,q]
 ·show its.toArray.eraseIdxIfInBounds (its.toArray.size-1)=its.dropLast.toArray;rw[List.size_toArray,List.eraseIdxIfInBounds_toArray,wX]
 ·rw[List.length_dropLast];omega
abbrev JP:R2:=fun x y H Q=>∃ l b xs zs,x=.ref l/\y=.ref b/\H l=some (.lst xs)/\H b=some (.lst zs)/\xs.length+zs.length<=sizeLine/\∀ p,H p=none->Q (.ref p) (upd H p (.lst (xs++zs)))
def EY:OpR X (binaryOp .Add) JP:=by
 intro pins s Y H x y v u Q I rx ry h;obtain⟨l,b,xs,zs,rfl,rfl,hH,hB,hz,q⟩:=h;cases rx;cases ry;obtain⟨z,its,n,r,hl,e⟩:=I.l4 hH;obtain⟨z2,its2,n2,r2,hl2,e2⟩:=I.l4 hB;refine PySem.P.add_list e e2 ?_ (by rw[List.size_toArray,List.size_toArray];omega)
 have ea:its.toArray++its2.toArray=(its++its2).toArray:=by simp
 rw[ea];exact#[.ref _,_,I.G5 (t':=s.toks) (r.append r2) (by rw[List.length_append];omega),rfl,q _ I.fresh]
abbrev JD:R2:=fun x y H Q=>∃ l k xs,x=.ref l/\y=.int k/\H l=some (.lst xs)/\-(2 ^ 63)<=k/\k<2 ^ 63/\xs.length*k.toNat<=sizeLine /\
 ∀ p,H p=none->Q (.ref p) (upd H p (.lst (List.replicate k.toNat xs).flatten))
def len_rep(xs:List α)(k:Nat):(List.replicate k xs).flatten.length=k*xs.length:=by
 induction k with
 | zero=>simp
 | succ k ih=>rw[Zl,Zv,List.length_append,ih,Nat.succ_mul,Nat.add_comm]
def Eu:OpR X (binaryOp .Mult) JD:=by
 intro pins s Y H x y v u Q I rx ry h;obtain⟨l,k,xs,rfl,rfl,hH,h1,h2,hz,q⟩:=h;cases rx;obtain⟨t,rfl⟩:=ry;obtain⟨z,its,n,r,hl,e⟩:=I.l4 hH
 have hlen:its.toArray.size*k.toNat<=sizeLine:=by rw[List.size_toArray,<-hl];exact hz
 have hcap:¬ its.toArray.size*k.toNat > (2 ^ 63-1) / 8:=by
  have:(sizeLine:Nat)<=(2 ^ 63-1) / 8:=by decide
  omega
 have hfit:¬ (!Builtin.List.listFitsIndex k)=true:=by
  rw[fitsIndex_both h1 h2];exact Q3
 have hlong:¬ Builtin.List.listTooLong (its.toArray.size*k.toNat)=true:=by
  rw[Bu hlen];exact Q3
 have hnew:List.foldl (fun x1 x2=>x1++x2) (List.toArray []) (List.replicate (if its.toArray.isEmpty=true then 0 else k.toNat) its.toArray)=(List.replicate k.toNat its).flatten.toArray:=by
  have f0:∀ m:Nat,List.foldl (fun x1 x2=>x1++x2) (List.toArray []) (List.replicate m its.toArray)=(List.replicate m its).flatten.toArray:=fun m=>by
   have:=foldl_rep its m [];rw[List.nil_append]at this;exact this
  rw[f0]
  cases its with
  | nil=>simp
  | cons a r'=>rw[if_neg (by simp)]
 refine wpAny_binaryOp_repeat_ref (T := "list") (U := "int") ∅ ⟨_,e,rfl⟩ (fun s'=>typeIs_int s' k t) noFill_list_mul F.fills_int_mul F.slot_int_rmul repeat_list F.slot_int_index.lookup
  (call_meets F.slot_int_rmul (typeIs_int s k t) F.entry_int_rmul (F.args_int_rmul_2 _ _) (int___rmul___int_list k t l its.toArray n)
   ⟨e,rfl,⟨_,e,rfl⟩,call_meets F.slot_list_mul ⟨_,e,rfl⟩ F.entry_list_mul (F.args_list_mul_2 _ _) (AutoListH.list___mul___list_int_3 l its.toArray n k t hfit hcap hlong) ⟨e,?_⟩⟩)
 rw[hnew];exact#[.ref _,_,I.G5 (t':=s.toks) (r.rep k.toNat) (by rw[len_rep,Nat.mul_comm];exact hz),rfl,q _ I.fresh]
def zI(I:Inv X pins Y H s)(hH:H l=some (.lst xs))
 (h1:-(2 ^ 63)<=i)(h2:i<2 ^ 63)(hk:seqIndex? i xs.length=some k)(h:∀ s',Inv X pins Y (upd H l (.lst (xs.eraseIdx k))) s'->Q () s') :
  wpAny (model X.prog X.w) X.A (delItem (.ref l) (.int i t)) Q X.xe s:=by
 obtain⟨z,its,n,r,hl,e⟩:=I.l4 hH;refine PySem.P.delItem_list (k:=k) e (fitsIndex_both h1 h2) (by rw[List.size_toArray,<-hl];exact hk) (h _ ?_) (by rw[List.size_toArray];omega);refine I.wz (its':=its.eraseIdx k) (t':=s.toks) hH e ?_ (r.eraseIdx k) ?_
 ·show its.toArray.eraseIdxIfInBounds k=(its.eraseIdx k).toArray;rw[List.eraseIdxIfInBounds_toArray]
 ·have:=qb xs k;omega
end
section
variable{prog:Program}{w:World}{A:Around}{E:Value->Shared->Prop}{s:Shared}
def wm{a c n:Nat}(hac:a<=c)(hc:c<=n):sliceBounds (some (a:Int)) (some (c:Int)) none n=((a:Int),(c:Int),1):=by
 simp only[sliceBounds,Option.getD_none]
 have h1:¬ ((a:Int)<0):=by omega
 have h2:¬ ((c:Int)<0):=by omega
 simp only[h1,h2,if_false,show(1:Int) > 0 by decide,if_true];congr 1
 ·omega
 ·congr 1;omega
end
section
variable{X:Cx}
end
section
variable{κ:Type} [DecidableEq κ]
abbrev eS(kvs:List (κ × V))(k:κ):Option V:=(kvs.find? fun kv=>decide (kv.1=k)).map (·.2)
abbrev putK(kvs:List (κ × V))(k:κ)(v:V):List (κ × V) :=
 if(kvs.any fun kv=>decide (kv.1=k))=true then kvs.map (fun kv=>if kv.1=k then(kv.1,v)else kv)else kvs++[(k,v)]
def iI{p:κ × V}{r:List (κ × V)}{k:κ}(e:p.1=k):eS (p::r) k=some p.2:=by simp[eS,List.find?_cons,e]
def i4{p:κ × V}{r:List (κ × V)}{k:κ}(e:¬ p.1=k):eS (p::r) k=eS r k:=by simp[eS,List.find?_cons,e]
def rM(k:κ):∀ kvs:List (κ × V),(kvs.any fun kv=>decide (kv.1=k))=(eS kvs k).isSome
 | []=>rfl
 | p::r=>by
  rw[Zs];by_cases e:p.1=k
  ·simp only[iI e,decide_eq_true e,Bool.true_or,Option.isSome_some]
  ·rw[i4 e,Q1 e,Bool.false_or];exact rM k r
def mC(kvs:List (κ × V))(k:κ)(v:V):(putK kvs k v).length<=kvs.length+1:=by
 unfold putK;split
 ·rw[List.length_map];omega
 ·rw[List.length_append,List.length_cons,List.length_nil];omega
def iG.gE(r:iG o u):o.isSome=u.isSome:=by
 cases o with
 | none=>cases u with
  | none=>rfl
  | some _=>exact(show False from r).elim
 | some _=>cases u with
  | none=>exact(show False from r).elim
  | some _=>rfl
def KV.val{kvs:List (κ × V)}{vs:List (κ × Value)}(r:KV kvs vs)(k:κ):iG (eS kvs k) (valueAt vs k):=by
 unfold KV at r
 induction r with
 | nil=>exact True.intro
 |@cons p q ps qs h t ih=>
  obtain⟨h1,h2⟩:=h;by_cases e:p.1=k
  ·have e':q.1=k:=h1.symm.trans e
   have b:valueAt (q::qs) k=some q.2:=by simp[valueAt,List.find?_cons,e']
   rw[iI e,b];exact h2
  ·have e':¬ q.1=k:=fun z=>e (h1.trans z)
   have b:valueAt (q::qs) k=valueAt qs k:=by simp[valueAt,List.find?_cons,e']
   rw[i4 e,b];exact ih
def KV.any(r:KV kvs vs)(k:κ):(kvs.any fun kv=>decide (kv.1=k))=vs.any fun kv=>decide (kv.1=k):=by
 unfold KV at r
 induction r with
 | nil=>rfl
 | cons h t ih=>rw[Zs,Zs,ih,h.1]
def KV.Ag(r:KV kvs vs)(k:κ)(ry:RelV y u) :
  KV (kvs.map fun kv=>if kv.1=k then(kv.1,y)else kv) (vs.map fun kv=>if kv.1=k then(kv.1,u)else kv):=by
 unfold KV at r ⊢
 induction r with
 | nil=>exact .nil
 |@cons p q ps qs h t ih=>
  rw[List.map_cons,List.map_cons];refine .cons ?_ ih;obtain⟨h1,h2⟩:=h;by_cases e:p.1=k
  ·rw[if_pos e,if_pos (h1.symm.trans e)];exact#[h1,ry]
  ·rw[if_neg e,if_neg (fun z=>e (h1.trans z))];exact#[h1,h2]
def KV.put(r:KV kvs vs)(k:κ)(ry:RelV y u):KV (putK kvs k y) (stored vs k u):=by
 unfold putK stored;rw[r.any k];by_cases e:(vs.any fun kv=>decide (kv.1=k))=true
 ·rw[if_pos e,if_pos e];exact r.Ag k ry
 ·rw[if_neg e,if_neg e];exact Paired.snoc r ⟨rfl,ry⟩
def KV.length(r:KV kvs vs):kvs.length=vs.length:=Paired.length r
end
def oB(r:RelV (kV k) u):(bQ P w).is k u=true:=by
 cases k with
 | inl i=>obtain⟨t,e⟩:=(show ∃ t,u=Value.int i t from r);subst e;exact uy P w i t
 | inr x=>obtain⟨t,e⟩:=(show ∃ t,u=Value.str x t from r);subst e;exact uw P w x t
def pU:∀ {ks:List Key} {us:List Value},Vals (ks.map kV) us->ItemsAre (bQ P w) ks us
 | [],_,r=>by rw[List.map_nil]at r;cases r;exact .nil
 | k::ks,_,r=>by
  rw[List.map_cons]at r
  cases r with
  | cons h t=>exact .cons (oB h) (pU t)
@[reducible]noncomputable def KT(H:Hp):List (List Key × V)->List (List Key × Addr × Value)->Prop:=Paired fun p q=>p.1=q.1/\H q.2.1=some (.tup (p.1.map kV))/\RelV p.2 q.2.2
def KT.val{H:Hp}{kvs:List (List Key × V)}{xs:List (List Key × Addr × Value)}(r:KT H kvs xs)(k:List Key):iG (eS kvs k) ((atKey xs k).map (·.2)):=by
 induction r with
 | nil=>exact True.intro
 |@cons p q ps qs h t ih=>
  obtain⟨h1,_,h2⟩:=h;by_cases e:p.1=k
  ·have e':q.1=k:=h1.symm.trans e
   have b:atKey (q::qs) k=some q.2:=by simp[atKey,List.find?_cons,e']
   rw[iI e,b];exact h2
  ·have e':¬ q.1=k:=fun z=>e (h1.trans z)
   have b:atKey (q::qs) k=atKey qs k:=by simp[atKey,List.find?_cons,e']
   rw[i4 e,b];exact ih
def KT.Ag(r:KT H kvs xs)(k:List Key)(ry:RelV y u) :
  KT H (kvs.map fun kv=>if kv.1=k then(kv.1,y)else kv) (xs.map (putAt k u)):=by
 induction r with
 | nil=>exact .nil
 |@cons p q ps qs h t ih=>
  rw[List.map_cons,List.map_cons];refine .cons ?_ ih;obtain⟨h1,h2,h3⟩:=h;unfold putAt;by_cases e:p.1=k
  ·rw[if_pos e,if_pos (h1.symm.trans e)];exact#[h1,h2,ry]
  ·rw[if_neg e,if_neg (fun z=>e (h1.trans z))];exact#[h1,h2,h3]
def KT.put(r:KT H kvs xs)(k:List Key)(hb:H b=some (.tup (k.map kV)))(ry:RelV y u) :
  KT H (putK kvs k y) (storedH xs k b u):=by
 have e:(kvs.any fun kv=>decide (kv.1=k))=(atKey xs k).isSome:=by
  rw[rM,(r.val k).gE,Option.isSome_map]
 unfold putK storedH;rw[e];by_cases q:(atKey xs k).isSome=true
 ·rw[if_pos q,if_pos q];exact r.Ag k ry
 ·rw[if_neg q,if_neg q];exact Paired.snoc r ⟨rfl,hb,ry⟩
def KT.keeps(r:KT H kvs xs)(ht:∀ b ys,H b=some (.tup ys)->H' b=some (.tup ys)):KT H' kvs xs :=
 Paired.zT r fun _ _ z=>#[z.1,ht _ _ z.2.1,z.2.2]
section
variable{P:Program}{w:World}{H:Hp}{h:Heap}{a:Addr}
def BI(ok:HOk P w H h)(e:Rd H a u):bD P w H h a u:=e.ok ok
def lN(ok:HOk P w H h)(e:Rd H a (.dK kvs)):kvs.length<=sizeLine/\(a == sysModules)=false/\∃ vs,KV kvs vs/\h.DictOf (bQ P w) a vs :=
 show bD P w H h a (.dK kvs)from BI ok e
def Jj(ok:HOk P w H h)(e:H a=some (.dK kvs)):kvs.length<=sizeLine/\(a == sysModules)=false/\∃ vs,KV kvs vs/\h.DictOf (bQ P w) a vs:=lN ok (.inl e)
def kZ(ok:HOk P w H h)(e:H a=some (.tup (ks.map kV))):(tupleKind (bQ P w)).is h ks a:=by
 obtain⟨_,its,r,o,h1,h2,n,h3⟩:=(show bD P w H h a (.tup (ks.map kV))from ok a _ e)
 exact#[o,its.toArray,n,h1,h2,h3,by simpa using pU r]
def oA(ok:HOk P w H h)(e:Rd H a (.dT kvs)):kvs.length<=sizeLine/\(a == sysModules)=false /\
  ∃ xs,KT H kvs xs/\h.DictOfH (tupleKind (bQ P w)) a xs:=by
 obtain⟨z,y,xs,r,o,es,ep,h1,h2,h3,h4,h5⟩:=(show bD P w H h a (.dT kvs)from BI ok e)
 refine#[z,y,xs,r,o,es,ep,h1,h2,h3,h4,fun x hx=>?_,h5]
 have all:∀ {l:List (List Key × V)} {m:List (List Key × Addr × Value)},KT H l m->∀ x∈m,(tupleKind (bQ P w)).is h x.1 x.2.1:=by
  intro l m q
  induction q with
  | nil=>intro x hx;exact nomatch hx
  |@cons p q ps qs hq t ih=>
   intro x hx;rcases List.mem_cons.mp hx with e | hx
   ·subst e;exact kZ ok (by rw[<-hq.1];exact hq.2.1)
   ·exact ih x hx
 exact all r x hx
def Bx(ok:HOk P w H h)(e:H a=some (.dT kvs)):kvs.length<=sizeLine/\(a == sysModules)=false /\
  ∃ xs,KT H kvs xs/\h.DictOfH (tupleKind (bQ P w)) a xs:=oA ok (.inl e)
end
abbrev eZ(H:Hp)(a:Addr)(y:V)(r:Option V):Prop :=
 (∃ kvs k,Rd H a (.dK kvs)/\y=kV k/\r=eS kvs k)\/∃ kvs k b,Rd H a (.dT kvs)/\y=.ref b/\H b=some (.tup (k.map kV))/\r=eS kvs k
abbrev kJ(H:Hp)(a:Addr)(y v:V)(H':Hp):Prop :=
 (∃ kvs k,H a=some (.dK kvs)/\y=kV k/\kvs.length<sizeLine/\H'=upd H a (.dK (putK kvs k v))) \/
 ∃ kvs k b,H a=some (.dT kvs)/\y=.ref b/\H b=some (.tup (k.map kV))/\kvs.length<sizeLine/\H'=upd H a (.dT (putK kvs k v))
def eZ.k{H:Hp}{a:Addr}{kvs:List (Key × V)}{k:Key}(e:H a=some (.dK kvs)):eZ H a (kV k) (eS kvs k):=.inl #[kvs,k,.inl e,rfl,rfl]
def eZ.t{H:Hp}{a b:Addr}{kvs:List (List Key × V)}{k:List Key}(e:H a=some (.dT kvs))(eb:H b=some (.tup (k.map kV))):eZ H a (.ref b) (eS kvs k):=.inr #[kvs,k,b,.inl e,rfl,eb,rfl]
def kJ.k{H:Hp}{a:Addr}{kvs:List (Key × V)}{k:Key}{v:V}(e:H a=some (.dK kvs))(hl:kvs.length<sizeLine):kJ H a (kV k) v (upd H a (.dK (putK kvs k v))):=.inl #[kvs,k,e,rfl,hl,rfl]
def kJ.t{H:Hp}{a b:Addr}{kvs:List (List Key × V)}{k:List Key}{v:V}(e:H a=some (.dT kvs))(eb:H b=some (.tup (k.map kV)))(hl:kvs.length<sizeLine) :
  kJ H a (.ref b) v (upd H a (.dT (putK kvs k v))):=.inr #[kvs,k,b,e,rfl,eb,hl,rfl]
section
variable{X:Cx}{pins:List (Addr × Obj)}{Y:St}{H:Hp}{s:Shared}{a:Addr}{y v:V}{u r:Value}{o:Option V}{A:Around}{E:Value->Shared->Prop}
def Inv.big(I:Inv X pins Y H s):sysModules<s.heap.objs.size:=by
 have h:mainGlobals<s.heap.objs.size:=(I.mod.glob.keeps I.bk).lt;exact Nat.lt_trans ∅ h
def zr(hu:A.units+1<cLine)(I:Inv X pins Y H s)(g:eZ H a y (some v))(ry:RelV y u)(h:∀ w' s',Inv X pins Y H s'->RelV v w'->Q w' s') :
  wpAny (model X.prog X.w) A (getItem (.ref a) u) Q E s:=by
 rcases g with⟨kvs,k,e,ey,l⟩ | ⟨kvs,k,b,e,ey,eb,l⟩
 ·subst ey;obtain⟨z,hd,vs,rel,dd⟩:=lN I.hok e;obtain⟨w',hw,rw'⟩:=iG.some_of (v:=v) (o:=valueAt vs k) (by rw[l];exact rel.val k);exact wpAny_getItem_of (oB ry) dd.mapOf hw (h w' _ (I.tok _) rw')
 ·subst ey;cases(show u=Value.ref b from ry);obtain⟨z,hd,xs,rel,dd⟩:=oA I.hok e;obtain⟨w',hw,rw'⟩:=iG.some_of (v:=v) (o:=(atKey xs k).map (·.2)) (by rw[l];exact rel.val k);obtain⟨p,hp,hp2⟩:=Option.map_eq_some_iff.mp hw;refine wpAny_getItem_heap (tupleKind_room_in1 hu) (kZ I.hok eb) dd hp ?_;rw[hp2];exact h w' _ (I.tok _) rw'
def Jt(hu:A.units+1<cLine)(I:Inv X pins Y H s)(g:eZ H a y o)(ry:RelV y u)(h:∀ s',Inv X pins Y H s'->Q (.bool o.isSome) s') :
  wpAny (model X.prog X.w) A (compareOp .In u (.ref a)) Q E s:=by
 rcases g with⟨kvs,k,e,ey,l⟩ | ⟨kvs,k,b,e,ey,eb,l⟩
 ·subst ey;obtain⟨z,hd,vs,rel,dd⟩:=lN I.hok e;refine wpAny_in_of (oB ry) hd dd.mapOf ?_;rw[<-(rel.val k).gE,<-l];exact h _ (I.tok _)
 ·subst ey;cases(show u=Value.ref b from ry);obtain⟨z,hd,xs,rel,dd⟩:=oA I.hok e;refine wpAny_in_heap (tupleKind_room_in1 hu) (kZ I.hok eb) hd dd ?_;have q:=(rel.val k).gE;rw[Option.isSome_map]at q;rw[<-q,<-l];exact h _ (I.tok _)
def Dm(hu:A.units+1<cLine)(I:Inv X pins Y H s)(g:eZ H a y o)(ry:RelV y u)(h:∀ s',Inv X pins Y H s'->Q (.bool (!o.isSome)) s') :
  wpAny (model X.prog X.w) A (compareOp .NotIn u (.ref a)) Q E s:=by
 rcases g with⟨kvs,k,e,ey,l⟩ | ⟨kvs,k,b,e,ey,eb,l⟩
 ·subst ey;obtain⟨z,hd,vs,rel,dd⟩:=lN I.hok e;refine wpAny_notIn_of (oB ry) hd dd.mapOf ?_;rw[<-(rel.val k).gE,<-l];exact h _ (I.tok _)
 ·subst ey;cases(show u=Value.ref b from ry);obtain⟨z,hd,xs,rel,dd⟩:=oA I.hok e;refine wpAny_notIn_heap (tupleKind_room_in1 hu) (kZ I.hok eb) hd dd ?_;have q:=(rel.val k).gE;rw[Option.isSome_map]at q;rw[<-q,<-l];exact h _ (I.tok _)
def uD(I:Inv X pins Y H s)(mu:Mut (H a))(hs:Heap.SameBut a s.heap h')(he:∃ q,h'.get? a=some q)(new:bD X.prog X.w (upd H a ob) h' a ob) :
  Inv X pins Y (upd H a ob) { s with heap:=h',toks:=t' } :=
 I.write (x:=a) (e:=a) mu (.inl rfl) (fun b q hb z=>(hs.2 b hb).trans z) he new
def Gb(z:kvs.length<=sizeLine)(hd:(a == sysModules)=false)(rel:KV kvs vs)(dd:h'.DictOf (bQ P w) a vs) :
  bD P w H' h' a (.dK kvs):=#[z,hd,vs,rel,dd]
def ym(hu:A.units+1<cLine)(I:Inv X pins Y H s)(g:kJ H a y v H')(ry:RelV y u)(rv:RelV v r)(h:∀ s',Inv X pins Y H' s'->Q () s') :
  wpAny (model X.prog X.w) A (setItem (.ref a) u r) Q E s:=by
 rcases g with⟨kvs,k,e,ey,l,eH⟩ | ⟨kvs,k,b,e,ey,eb,l,eH⟩
 ·subst ey eH;obtain⟨z,hd,vs,rel,dd⟩:=Jj I.hok e
  have hz:vs.length<=sizeLine:=by rw[<-rel.length];exact z
  have hl:(putK kvs k v).length<=sizeLine:=by have:=mC kvs k v;omega
  refine wpAny_setItem_pairs (hsz:=hz) (oB ry) dd fun h' dd' hs=>h _ ?_;have he:∃ q,h'.get? a=some q:=let ⟨q,_,_,hq,_⟩:=dd';⟨q,hq⟩;exact uD I (by rw[e];exact True.intro) hs he (Gb hl hd (rel.put k rv) dd')
 ·subst ey eH;cases(show u=Value.ref b from ry);obtain⟨z,hd,xs,rel,dd⟩:=Bx I.hok e
  have hz:xs.length<=sizeLine:=by rw[<-Paired.length rel];exact z
  have hl:(putK kvs k v).length<=sizeLine:=by have:=mC kvs k v;omega
  refine wpAny_setItem_heap (hsz:=hz) (tupleKind_room_in1 hu) (kZ I.hok eb) dd fun h' dd' hs=>h _ ?_;obtain⟨q,es,ep,hq,h2,h3,h4,_,h5⟩:=dd';refine uD I (by rw[e];exact True.intro) hs ⟨q,hq⟩ ⟨hl,hd,_,(rel.put k eb rv).keeps fun c ys ec=>?_,q,es,ep,hq,h2,h3,h4,h5⟩;rw[aV (lJ ec e (fun z=>nomatch z))];exact ec
end
section
variable{X:Cx}{pins:List (Addr × Obj)}{Y:St}{H:Hp}{s:Shared}{a:Addr}{kvs:List (Key × V)}{k:Key}{u:Value}{A:Around}{E:Value->Shared->Prop}
def Je(I:Inv X pins Y H s)(e:Rd H a (.dK kvs))(h:∀ t s',Inv X pins Y H s'->Q (.int kvs.length t) s'):wpAny (model X.prog X.w) A (call (.builtin "len") [.ref a]) Q E s:=by
 obtain⟨z,hd,vs,rel,dd⟩:=lN I.hok e;refine call_len_dict hd dd (by rw[<-rel.length];rw[sizeLine_eq]at z;omega) ?_;rw[<-rel.length];exact h _ _ (I.tok _)
end
abbrev wc(i:Expr):Prop:=∀ ov iv,subscripted i false ov iv=operate [ov,iv] (getItem ov iv)
def CN{prog:Program}{w:World}{A:Around}{E:Value->Shared->Prop}{s:Shared}{env:Env}{value slice:Expr}{pos:Pos}{T id:String}{Q:Value->Shared->Prop}
 (hl:typeLookup (.type T) "__getitem__" = pure (some (.builtin id)))(hs:wc slice)
 (h:wpAny (model prog w) A (eval value env) (fun o s₁=>wpAny (model prog w) A (eval slice env) (fun i s₂=>s₂.TypeIs o T/\wpAny (model prog w) A (getItem o i) Q E s₂) E s₁) E s) :
  wpAny (model prog w) A (eval (.Subscript value slice pos) env) Q E s:=by
 refine Subscript_ (wpAny_mono h (fun o s₁ h₁=>wpAny_mono h₁ (fun i s₂ h₂=>?_) fun _ _ x=>x) fun _ _ x=>x);obtain⟨hT,h₂⟩:=h₂;unfold subscriptTail;refine QT ?_;rw[getitemInPython_of_ne hT.not_modules];refine QT (wpAny_specialOf hT hl ?_)
 have fin:wpAny (model prog w) A (subscripted slice false o i) (fun r s₃=>wpAny (model prog w) A (letTemporaryGo value o r >>= fun _=>pure r) Q E s₃) E s₂:=by
  rw[hs o i];exact wpAny_operating (wpAny_mono h₂ (fun r s₃ h₃=>QT (wpAny_letTemporaryGo (QW h₃))) fun _ _ x=>x)
 first
  | exact QW (QT fin)
  | exact QT (QW (QT fin))
  | exact QT fin
def ur(I:Inv X pins Y H s)(g:eZ H a y o):s.TypeIs (.ref a) "dict" := by
 rcases g with⟨kvs,k,e,_,_⟩ | ⟨kvs,k,b,e,_,_,_⟩
 ·obtain⟨_,_,vs,_,dd⟩:=lN I.hok e;exact dd.typeIs
 ·obtain⟨_,_,xs,_,dd⟩:=oA I.hok e;exact dd.typeIs
abbrev IS(td ty:TE):TE:=fun Y H Q=>td Y H fun x H1=>ty Y H1 fun y H2=>∃ a v,x=.ref a/\eZ H2 a y (some v)/\Q v H2
abbrev Gz(ty td:TE):TE:=fun Y H Q=>ty Y H fun y H1=>td Y H1 fun x H2=>∃ a o,x=.ref a/\eZ H2 a y o/\Q (.bl o.isSome) H2
abbrev vn(ty td:TE):TE:=fun Y H Q=>ty Y H fun y H1=>td Y H1 fun x H2=>∃ a o,x=.ref a/\eZ H2 a y o/\Q (.bl (!o.isSome)) H2
abbrev vR(td ty tv:TE):TS:=fun D Y H=>tv Y H fun v H1=>td Y H1 fun x H2=>ty Y H2 fun y H3=>∃ a H4,x=.ref a/\kJ H3 a y v H4/\D.nx Y H4
section
variable{X:Cx}{o i e value:Expr}{pos pos' tpos:Pos}{td ty tv:TE}
def Dk(hu:X.A.units+1<cLine)(ho:PE X o td)(hi:PE X i ty)(hs:wc i):PE X (.Subscript o i pos) (IS td ty):=by
 k_ne;refine CN PySem.F.slot_dict_getitem.lookup hs (thn (ho pins s Y H _ I h) fun u s1 ⟨x,H1,I1,rx,q1⟩=>thn (hi pins s1 Y H1 _ I1 q1) fun iv s2 ⟨y,H2,I2,ry,a,v,ex,g,q2⟩=>?_);subst ex;obtain rfl:u=Value.ref a:=rx;exact#[ur I2 g,zr hu I2 g ry fun w' s3 I3 rw'=>#[v,H2,I3,rw',q2]]
def Gh(hu:X.A.units+1<cLine)(hi:PE X i ty)(ho:PE X o td):PC X .In i o (Gz ty td):=by
 k_ne;refine thn (hi pins s Y H _ I h) fun iv s1 ⟨y,H1,I1,ry,q1⟩=>thn (ho pins s1 Y H1 _ I1 q1) fun u s2 ⟨x,H2,I2,rx,a,ov,ex,g,q2⟩=>?_;subst ex;obtain rfl:u=Value.ref a:=rx
 exact Jt hu I2 g ry fun s3 I3=>#[.bl ov.isSome,H2,I3,rfl,q2]
def yV(hu:X.A.units+1<cLine)(hi:PE X i ty)(ho:PE X o td):PC X .NotIn i o (vn ty td):=by
 k_ne;refine thn (hi pins s Y H _ I h) fun iv s1 ⟨y,H1,I1,ry,q1⟩=>thn (ho pins s1 Y H1 _ I1 q1) fun u s2 ⟨x,H2,I2,rx,a,ov,ex,g,q2⟩=>?_;subst ex;obtain rfl:u=Value.ref a:=rx
 exact Dm hu I2 g ry fun s3 I3=>#[.bl (!ov.isSome),H2,I3,rfl,q2]
def Dj(hu:X.A.units+1<cLine)(ho:PE X o td)(hi:PE X i ty)(hv:PE X value tv)(hs:swapsWith value (some (.Subscript o i pos')) pos.line X.env=pure false) :
  PS X (.Assign [.Subscript o i pos'] value pos) (vR td ty tv):=by
 intro pins s Y H D I h;refine wpAny_Assign_Subscript (thn (hv pins s Y H _ I h) fun r s1 ⟨v,H1,I1,rv,q1⟩=>thn (ho pins s1 Y H1 _ I1 q1) fun u s2 ⟨x,H2,I2,rx,q2⟩=>thn (hi pins s2 Y H2 _ I2 q2) fun iv s3 ⟨y,H3,I3,ry,a,H4,ex,g,q3⟩=>?_) hs;subst ex;obtain rfl:u=Value.ref a:=rx
 exact ym hu I3 g ry rv fun s4 I4=>#[Y,H4,I4,q3]
end
def AL(h:Heap)(hb:sysModules<h.objs.size):bD P w H (h.push { cls:=.type "dict",data:=.dict (List.toArray []) }) h.objs.size (.dK []) :=
 ⟨Nat.zero_le _,beq_eq_false_iff_ne.mpr (Ne.symm (Q5 hb)),[],.nil,Heap.DictOf.new h⟩
def Ah(h:Heap)(hb:sysModules<h.objs.size):bD P w H (h.push { cls:=.type "dict",data:=.dict (List.toArray []) }) h.objs.size (.dT []) :=
 ⟨Nat.zero_le _,beq_eq_false_iff_ne.mpr (Ne.symm (Q5 hb)),[],.nil,_,(List.toArray []),0,QX _ rfl,⟨rfl,rfl,rfl⟩,rfl,rfl,List.nodup_nil⟩
abbrev Fs:TE:=fun _ H Q=>∀ p,H p=none->Q (.ref p) (upd H p (.dK []))
abbrev F4:TE:=fun _ H Q=>∀ p,H p=none->Q (.ref p) (upd H p (.dT []))
section
variable{X:Cx}{pos:Pos}
def AI:PE X (.Dict [] [] pos) Fs:=fun pins s Y H Q I h =>
 wpAny_Dict_empty ⟨.ref s.heap.objs.size,_,I.laid (a:=s.heap.objs.size) (o:=.dK []) (t':=s.toks) (fun _ _ q=>QU _ q) (QV _) (AL s.heap I.big),rfl,h _ (I.hok.fresh (QV _))⟩
def zS:PE X (.Dict [] [] pos) F4:=fun pins s Y H Q I h =>
 wpAny_Dict_empty ⟨.ref s.heap.objs.size,_,I.laid (a:=s.heap.objs.size) (o:=.dT []) (t':=s.toks) (fun _ _ q=>QU _ q) (QV _) (Ah s.heap I.big),rfl,h _ (I.hok.fresh (QV _))⟩
end
section
variable{X:Cx}{pins:List (Addr × Obj)}{Y:St}{H:Hp}{s:Shared}{a:Addr}{y d:V}{u r:Value}{o:Option V}{A:Around}{E:Value->Shared->Prop}
end
section
variable{X:Cx}{o e f:Expr}{apos cpos:Pos}{td ty tx:TE}
end
section
variable{X:Cx}{pins:List (Addr × Obj)}{Y:St}{H:Hp}{s:Shared}{a:Addr}{kvs:List (Key × V)}{A:Around}{E:Value->Shared->Prop}
end
section
variable{X:Cx}{pins:List (Addr × Obj)}{Y:St}{H:Hp}{s:Shared}{a:Addr}{y:V}{u:Value}{A:Around}{E:Value->Shared->Prop}
end
end L2
namespace Att
open PySem PySem.W PySem.Calls PyProof.Rows
def oh:∀ (ns:List Int) (vs:List Value),WellAll P h vs (ns.map WData.int)->IntsAre vs ns:=by
 intro ns
 induction ns with
 |nil=>
  intro vs w;rw[List.map_nil]at w;cases w;exact .nil
 |cons n ns ih=>
  intro vs w;rw[List.map_cons]at w
  cases w with
  |cons a b=>
   cases a;exact .cons _ _ (ih _ b)
def yT{l:OpenLaw}{n:Nat}(hn:l.most=some n){P:Params}{h:Heap}{args:List WData}{vals:List Value}
 (hpre:l.row.toRowW.claim.pre args=true)(hwl:WellAll P h vals args) :
  ∃ a vs ns,vals=[Value.ref a]/\args=[WData.list (ns.map WData.int)]/\h.get? a=some { cls:=.type "list",data:=.seq vs.toArray }/\IntsAre vs ns/\ns.length<=n:=by
 have hsh:WShape.hasAll [] args [.list .int]=true:=(pre_splitW hpre).1;have hc:l.pre.holds [] { args:=args }=true:=(pre_splitW hpre).2;obtain⟨d,r,rfl,h1,h2⟩:=hasAllW_cons hsh;obtain rfl:=hasAllW_nil h2;obtain⟨xs,rfl,h3⟩:=hasW_list h1;obtain⟨ns,rfl⟩:=items_int h3
 have hlen:ns.length<=n:=by
  unfold OpenLaw.pre at hc
  have h4:(WTm.not (.lt (.lit (.int (n:Int))) (.len (.arg 0)))).holds [] { args:=[.list (ns.map .int)] }=true:=by
   have h4:=(holds_andW hc).1;rw[hn]at h4;exact h4
  have h5:=condW_of h4 (w_not (w_lt w_lit (w_len_list (w_arg rfl))));rw[List.length_map]at h5;refine Nat.le_of_not_lt fun q=>?_
  have q':(n:Int)<((ns.length:Nat):Int):=by omega
  first
   | (rw[decide_eq_true q']at h5;exact absurd h5 ∅)
   | (simp at h5;omega)
 cases hwl with
 |cons w1 w2=>
  cases w2
  cases w1 with
  | list ho hall=>exact#[_,_,ns,rfl,rfl,ho,oh ns _ hall,hlen]
def yh(l:OpenLaw)(args:List WData):l.row.toRowW.claim.post args (.bool true) args=true :=
 postW_of (r:=l.row.toRowW) (X:=(true == true))
  (show WShape.has [] (.bool true) .bool=true by first | rfl | decide | simp[WShape.has,WShape.arms,WShape.armsAll])
  (show(WTm.eq .res (.lit (.bool true))).value [] { args:=args,res:=some (.bool true),after:=args }=some (.bool (true == true))from w_eq_bool (w_res rfl) w_lit) rfl
def uz{l:OpenLaw}{n:Nat}{q:Program}{loose:List Str}{XP:(Str->Option Value)->Heap->Prop}{YP:World->Heap->Prop}{d:DefRec}
 (hn:l.most=some n)(hdf:d.params.defaults=[])
 (call:∀ (w:World) (s₀ s₁:Shared) (mg mb:Str->Option Value) (fa:Addr) (o:Obj) (pm cd doc:Value) (a:Addr) (vs:List Value) (ns:List Int),
   Ground q loose [] XP w s₀ mg mb s₁.heap->YP w s₁.heap ->
   s₁.heap.get? fa=some o->o.data=.func (docDef d.name d.params d.body d.scope pm cd doc)->s₁.heap.CodeRec cd d.name->mg d.name=some (.ref fa) ->
   s₁.heap.get? a=some { cls:=.type "list",data:=.seq vs.toArray }->IntsAre vs ns->ns.length<=n->s₁.gens=(List.toArray []) ->
   codeAny (model l.prog w) callerA (.call (.ref fa) ⟨[.ref a],[]⟩) (fun r s'=>r=.ok (.ret (.bool true))/\OldK s₁.heap s'.heap/\s'.os=s₁.os/\AllBare s'.gens) s₁) :
  WalkO q loose XP YP l.row.toRowW d [] (fun f vs=>PySem.call f vs):=by
 intro w s₀ s₁ mg mb G Zx fa o pm cd doc dV kV ho hd hcd hD hmg hg args vals as hpre hlay hrd hwl hlo;obtain rfl:dV=.none:=Dflts.none hD hdf;obtain rfl:kV=.none:=Dflts.noKw hD;obtain⟨a,vs,ns,rfl,rfl,hobj,hints,hlen⟩:=yT hn hpre hwl;refine enter_call (codeAny_mono (call w s₀ s₁ mg mb fa o pm cd doc a vs ns G Zx ho (fd_plain hd) hcd hmg hobj hints hlen hg) fun r s' hq=>?_);obtain⟨rfl,h2,h3,h4⟩:=hq;exact#[.inl #[.bool true,.bool true,[],rfl,fun _=>rfl,.bool true,yh l _,fun _=>#[List.Pairwise.nil,fun _ hm=>(nomatch hm)]],h2,h3,h4]
section
variable{prog:Program}{w:World}{A:Around}{E:Value->Shared->Prop}{s:Shared}{K:Frag}
end
end Att
namespace L2
open PySem PySem.Spec PyProof.Rows
def qv:∀ {vs:List Value} {ns:List Int},IntsAre vs ns->Vals (ns.map V.int) vs
 | _,_,.nil=>.nil
 | _,_,.cons n t h=>.cons ⟨t,rfl⟩ (qv h)
abbrev sP(H:Hp):Prop:=∀ b,H b=none\/∃ o xs,H b=some (.frz o (.lst xs))
def AZ{P:Program}{w:World}{K:W.Frag}{mg mb:Str->Option Value}{CX:CXT}{k:Nat}{fa a:Addr}{fd:FuncData}{x:Str}{sp:Sp}{s₁:Shared}{vs:List Value}{ns:List Int}
 (KX:K.In s₁.heap)(hns:s₁.heap.Ns mainGlobals mg)(hb:s₁.heap.Ns builtinsNs mb)(hbb:∀ x:Str,x ≠ "__name__" -> mb x=bootBuiltins x)(hlim:s₁.heap.NoLimit)(hg:s₁.gens=(List.toArray []))
 (ha:s₁.heap.get? a=some { cls:=.type "list",data:=.seq vs.toArray })(hi:IntsAre vs ns)(hl:ns.length<=sizeLine)(hr:eU k callerA)
 (F:∀ base:Heap,K.In base->base.Ns mainGlobals mg->j4 P w K mg base CX k fa fd [x] sp)(hbind:∀ (s:Shared) (u:Value),BindsTo s fd ⟨[u],[]⟩ [(x,u)])
 (hsp:∀ H:Hp,sP H->SqL K H a (ns.map V.int)->sp [.ref a] H (fun v _=>v=.bl true) fun _ _ _=>False)
 (hCX:∀ H e s',CX [] H s₁ (fun _ _ _=>False) e s'->False) :
  codeAny (model P w) callerA (.call (.ref fa) ⟨[.ref a],[]⟩) (fun r s'=>r=.ok (.ret (.bool true))/\OldK s₁.heap s'.heap/\s'.os=s₁.os/\AllBare s'.gens) s₁:=by
 have rv:=qv hi;have lenV:=hi.length
 have core:∀ H:Hp,sP H->SqL K H a (ns.map V.int)->HOk P w H s₁.heap->(∀ b,H b≠none->b=a)->(H a≠none->K.lookup a=none) ->
   codeAny (model P w) callerA (.call (.ref fa) ⟨[.ref a],[]⟩) (fun r s'=>r=.ok (.ret (.bool true))/\OldK s₁.heap s'.heap/\s'.os=s₁.os/\AllBare s'.gens) s₁:=by
  intro H hO hS hok hA hK;have base_of:∀ {b:Addr} {o:Obj},s₁.heap.get? b=some o->H b=none->(kF s₁.heap H).get? b=some o:=fun e n=>zR e n
  have noA:∀ {b:Addr} {o:Obj} {es:Array DictEntry} {ep:Nat},s₁.heap.get? b=some o->o.data=.dict es ep->H b=none:=fun {b o es ep} e d=>by
   cases q:H b with
   | none=>rfl
   |some u=>
    have e':b=a:=hA b (by rw[q];simp);subst e';rw[ha]at e;cases e;have d':Data.seq vs.toArray _=Data.dict es ep:=d;cases d'
  have nsK:∀ {b:Addr} {m:Str->Option Value},s₁.heap.Ns b m->(kF s₁.heap H).Ns b m:=fun {b m} ⟨o,es,ep,e,d,r⟩=>#[o,es,ep,base_of e (noA e d),d,r]
  have hKb:K.In (kF s₁.heap H):=fun b o e=>base_of (KX b o e) (by
   cases q:H b with
   | none=>rfl
   |some u=>
    have e':b=a:=hA b (by rw[q];simp);subst e'
    rw[hK (by rw[q];simp)]at e;cases e)
  have hM:Mod K mg (kF s₁.heap H):=⟨hKb,nsK hns,⟨mb,nsK hb,hbb⟩,let ⟨mc,h1,h2⟩:=hlim;⟨mc,nsK h1,h2⟩⟩
  have e0:wY P w K mg (kF s₁.heap H) callerA [] s₁ H:=#[rfl,hM,fun b o e=>CU e,Nat.le_of_eq (yA _ _),trivial,fun b hb=>absurd (show b∈([]:List Addr)from hb) (by simp),hok,.of_eq hg]
  refine codeAny_mono ((F _ hKb (nsK hns)).run callerA [] s₁ H ⟨[.ref a],[]⟩ [.ref a] [.ref a] _ _ hr e0 (hbind s₁ (.ref a)) (.cons rfl .nil) (hsp H hO hS)) fun r s' h=>?_
  cases r with
  | error e=>exact(hCX H e s' h).elim
  |ok fl=>
   cases fl with
   | next=>exact False.elim h
   | brk=>exact False.elim h
   | cont=>exact False.elim h
   |ret u=>
    obtain⟨v,H',os,bare,un,hok',r',q⟩:=h;have q':v=.bl true:=q;subst q';obtain rfl:u=Value.bool true:=r';refine#[rfl,OldK.of_keep fun b o e=>?_,os,bare]
    cases q:H b with
    | none=>exact un.keep b o e q (by intro z;exact absurd (show b∈([]:List Addr)from z) (by simp)) (by simp)
    |some u=>
     rcases hO b with z | ⟨ob,xs,z⟩
     ·rw[q]at z;cases z
     ·have z2:=un.ig b ob _ z;obtain⟨e1,_⟩:=hok b _ z;obtain⟨e2,_⟩:=hok' b _ z2;rw[e]at e1;cases e1;exact e2
 cases hk:K.lookup a with
 |some o=>
  have e:=KX a o hk;rw[ha]at e;cases e;refine core (fun _=>none) (fun _=>.inl rfl) (.inr #[_,vs.toArray,_,hk,rfl,rfl,rfl,by rw[List.size_toArray,lenV];exact hl,by simpa using rv]) (fun b u z=>by have z':(none:Option HO)=some u:=z;cases z') (fun b z=>absurd rfl z) fun z=>absurd rfl z
 |none=>
  refine core (fun b=>if b=a then some (.frz { cls:=.type "list",data:=.seq vs.toArray } (.lst (ns.map V.int)))else none) (fun b=>?_) (.inl (.inr #[{ cls:=.type "list",data:=.seq vs.toArray },if_pos rfl])) (fun b u z=>?_) (fun b z=>?_) fun _=>hk
  ·by_cases hb:b=a
   ·exact .inr #[_,_,if_pos hb]
   ·exact .inl (if_neg hb)
  ·by_cases hb:b=a
   ·have z':=(if_pos hb).symm.trans z;cases z';subst hb;exact#[ha,by rw[List.length_map];exact hl,vs,_,rv,ha]
   ·have z':=(if_neg hb).symm.trans z;cases z'
  ·by_cases hb:b=a
   ·exact hb
   ·exact absurd (if_neg hb) z
@[reducible]noncomputable def KOf{K:W.Frag}{h:Heap}(_:K.In h):W.Frag:=K
def uM{l:W.OpenLaw}{n k:Nat}{q:Program}{loose:List Str}{XP:(Str->Option Value)->Heap->Prop}{YP:World->Heap->Prop}{d:DefRec}{K:Params->W.Frag}{CX:World->CXT}{sp:World->Sp}{x:Str}
 (hn:l.most=some n)(hn2:n<=sizeLine)(hdf:d.params.defaults=[])(hr:eU k callerA)
 (hY:∀ (w:World) (h:Heap),YP w h->(K w.params).In h)
 (F:∀ (w:World) (mg:Str->Option Value) (fa:Addr) (h:Heap),(K w.params).In h->h.Ns mainGlobals mg->mg d.name=some (.ref fa) ->
   ∃ fd:FuncData,(∀ (s:Shared) (u:Value),BindsTo s fd ⟨[u],[]⟩ [(x,u)]) /\
    ∀ base:Heap,(K w.params).In base->base.Ns mainGlobals mg->j4 l.prog w (K w.params) mg base (CX w) k fa fd [x] (sp w))
 (hsp:∀ (w:World) (H:Hp) (a:Addr) (ns:List Int),ns.length<=n->sP H->SqL (K w.params) H a (ns.map V.int)->sp w [.ref a] H (fun v _=>v=.bl true) fun _ _ _=>False)
 (hCX:∀ (w:World) (H:Hp) (s:Shared) (e:Value) (s':Shared),CX w [] H s (fun _ _ _=>False) e s'->False) :
  W.WalkO q loose XP YP l.row.toRowW d [] (fun f vs=>PySem.call f vs):=by
 refine Att.uz hn hdf fun w s₀ s₁ mg mb fa o pm cd doc a vs ns G Zx ho hd hcd hmg hobj hints hlen hg=>?_;have KX:=hY w _ Zx;obtain⟨fd,hb,hF⟩:=F w mg fa _ KX G.T.g hmg;exact AZ KX G.T.g G.T.b G.T.builtins G.T.nolimit hg hobj hints (Za hlen hn2) hr hF hb (fun H hO hS=>hsp w H a ns hlen hO hS) fun H e s'=>hCX w H s₁ e s'
def A1{l:W.OpenLaw}{n k:Nat}{q:Program}{loose:List Str}{XP:(Str->Option Value)->Heap->Prop}{YP:World->Heap->Prop}{d:DefRec}{K:Params->W.Frag}{CX:CXT}{sp:W.Frag->Sp}{x:Str}
 (hn:l.most=some n)(hn2:n<=sizeLine)(hdf:d.params.defaults=[])(hr:eU k callerA)
 (hY:∀ (w:World) (h:Heap),YP w h->(K w.params).In h)
 (F:∀ (w:World) (mg:Str->Option Value) (fa:Addr) (h:Heap),(K w.params).In h->h.Ns mainGlobals mg->mg d.name=some (.ref fa) ->
   ∃ fd:FuncData,(∀ (s:Shared) (u:Value),BindsTo s fd ⟨[u],[]⟩ [(x,u)]) /\
    ∀ base:Heap,(K w.params).In base->base.Ns mainGlobals mg->j4 l.prog w (K w.params) mg base CX k fa fd [x] (sp (K w.params)))
 (hsp:∀ (K:W.Frag) (H:Hp) (a:Addr) (ns:List Int),ns.length<=n->sP H->SqL K H a (ns.map V.int)->sp K [.ref a] H (fun v _=>v=.bl true) fun _ _ _=>False)
 (hCX:∀ (H:Hp) (s:Shared) (e:Value) (s':Shared),CX [] H s (fun _ _ _=>False) e s'->False) :
  W.WalkO q loose XP YP l.row.toRowW d [] (fun f vs=>PySem.call f vs) :=
 uM (K:=K) (CX:=fun _=>CX) (sp:=fun w=>sp (K w.params)) hn hn2 hdf hr hY F (fun w H a ns h1 h2 h3=>hsp (K w.params) H a ns h1 h2 h3) fun _ H s e s'=>hCX H s e s'
abbrev hU(s:Stmt):Arguments:=match s with
 | .FunctionDef _ a _ _ _ _ _ _ _ _=>a
 | _=>{ posonlyargs:=[],args:=[],vararg:=none,kwonlyargs:=[],kw_defaults:=[],kwarg:=none,defaults:=[] }
abbrev fj(s:Stmt):List Stmt:=match s with
 | .FunctionDef _ _ b _ _ _ _ _ _ _=>b
 | _=>[]
abbrev cv(s:Stmt):Scope:=match s with
 | .FunctionDef _ _ _ _ _ _ sc _ _ _=>sc
 | _=>{ kind:=.function,names:=[],isGenerator:=false,isCoroutine:=false }
@[reducible]noncomputable def CX0:CXT:=fun _ _ _ _ _ _=>False
@[reducible]noncomputable def E0:XK:=fun _ _ _=>False
def BO:Passes CX0 X E0:=fun _ _ _ _ _ _ _ h=>h.elim
structure Fun(K:W.Frag)(x qual:Str)(st:Stmt)(f:Addr)(fd:FuncData):Prop where
 ex:∃ (oc:Value) (od:Option Addr) (kV doc pm:Value) (an:Option Addr) (cdv ct:Value) (osl:Array (Option Value)),
  fd=W.fnOf x qual (hU st) (fj st) (cv st) .none kV doc pm an cdv ct/\K.lookup f=some ⟨oc,od,.func fd,osl⟩/\W.codeIn K cdv qual=true
 kp:W.keepIn K (.ref f)=true
section
variable{P:Program}{w:World}{K:W.Frag}{mg:Str->Option Value}{base:Heap}
def Fun.ok{x qual:Str}{st:Stmt}{f:Addr}{fd:FuncData}{N ps:List Str}{k:Nat}{sp:Sp}(F:Fun K x qual st f fd)(S:l8 N ps (cv st))(len:∀ vs H Q E,sp vs H Q E->vs.length=ps.length)
 (hbody:∀ (cdv:Value) (A:Around) (outer:List Env) (s:Shared) (H:Hp) (vs:List V) (Q:VK) (E:XK),eU k (A.deeper (envOfC qual (cv st) s.heap.objs.size f cdv))->sp vs H Q E ->
   ∃ t,PSs (mI CX0 P w K mg base N qual (cv st) f cdv A outer s H E).nox (fj st) t/\t { nx:=fun _ H'=>Q .non H',rt:=Q } (start N vs) H):j4 P w K mg base CX0 (k+1) f fd ps sp:=by
 obtain⟨oc,od,kV,doc,pm,an,cdv,ct,osl,rfl,lk,hcd⟩:=F.ex;refine Iu lk hcd S len fun A outer s H vs Q E hr hsp=>?_;obtain⟨t,h,q⟩:=hbody cdv A outer s H vs Q E hr hsp;exact#[t,h.nox,q]
def Fun.binds{x qual:Str}{st:Stmt}{f:Addr}{fd:FuncData}{ps:List Str}(F:Fun K x qual st f fd)
 (h:∀ (kV doc pm:Value) (an:Option Addr) (cdv ct:Value) (us:List Value),us.length=ps.length->bindArgs (W.fnOf x qual (hU st) (fj st) (cv st) .none kV doc pm an cdv ct) ⟨us,[]⟩=pure (ps.zip us)):Binds K fd ps []:=by
 obtain⟨oc,od,kV,doc,pm,an,cdv,ct,osl,rfl,lk,hcd⟩:=F.ex;exact .all (h kV doc pm an cdv ct)
def zB{x qual:Str}{st:Stmt}{f:Addr}{oc:Value}{od an:Option Addr}{osl:Array (Option Value)}{kV doc pm cdv ct:Value}(l:K.lookup f=some ⟨oc,od,.func (W.fnOf x qual (hU st) (fj st) (cv st) .none kV doc pm an cdv ct),osl⟩)
 (c:W.codeIn K cdv qual=true)(k:W.keepIn K (.ref f)=true):Fun K x qual st f (W.fnOf x qual (hU st) (fj st) (cv st) .none kV doc pm an cdv ct):=#[#[oc,od,kV,doc,pm,an,cdv,ct,osl,rfl,l,c],k]
end
def qj(h:n<=1000):n<sizeLine:=Nat.lt_of_le_of_lt h ∅
section
variable{X:Cx}
end
def gH{A B:Prop}(h:B):if false=true then A else B:=by
 rw[if_neg Q3];exact h
def fZ{A B:Prop}(h:A):if true=true then A else B:=by
 rw[if_pos rfl];exact h
abbrev a6(H H':Hp):Prop:=∀ b o,H b=some o->H' b=some o
def a6.refl(H:Hp):a6 H H:=fun _ _ h=>h
def a6.trans(a:a6 H H1)(b:a6 H1 H2):a6 H H2:=fun c o h=>b c o (a c o h)
def a6.free(e:a6 H H')(h:H' l=Option.none):H l=Option.none:=by
 cases q:H l with
 | none=>rfl
 |some o=>
  rw[e l o q]at h;cases h
section
variable{X:Cx}
def yP:bC X (.builtin "len") (fun xs H Q=>∃ a kvs,xs=[V.ref a]/\H a=some (.dK kvs)/\Q (.int kvs.length) H):=by
 intro pins s Y H xs us Q I r h;obtain⟨a,kvs,rfl,ha,q⟩:=h;obtain⟨u,rfl,ru⟩:=vals1 r;cases ru
 exact Je I (.inl ha) fun t s' I'=>#[.int kvs.length,H,I',#[t,rfl],q]
end
section
variable{κ:Type} [DecidableEq κ]
end
end L2
namespace RS
open PySem PySem.Spec PyProof.Rows L2
@[reducible]def VE:List Value:=[.type "ValueError",.type "Exception",.type "BaseException",.type "object"]
abbrev zW:List Str:=["RibbonError", "BadPegs", "BadFrame", "BadHalf", "BadHook", "BadName", "NoNumber", "NoFrame", "NoStack", "NoPlace", "Taken", "Full", "NothingThere", "BadTrade", "Hangs", "BadPage"]
abbrev GC(f:Option PySem.Builtin.ObjectAttr.Found):Bool:=match f with
 | some (.bind (.builtin a) (.builtin b))=>a == "getset_descriptor.__get__" && b == "object.__class__"
 | _=>false
abbrev IK(K:W.Frag)(C:Addr):Bool:=match K.lookup C with
 | some ⟨.type "type",_,.cls cd,sl⟩=>(match cd.mro,sl.toList with
  | .ref C'::bm,[_,_,_,_,some (.builtin n),_]=>C' == C&&n == "ValueError.__new__" && !cd.hasDel&&W.tailIn K VE bm
  | _,_=>false)
 | _=>false
abbrev JX(K:W.Frag)(C:Addr):Bool:=IK K C&&(W.findIn K (.ref C) "at" == some none&&W.hasDictIn K C)
abbrev Ji(K:W.Frag)(x:Str)(C:Addr):Bool :=
 JX K C&&W.findIn K (.ref C) "__getattribute__" == some (some (.builtin "BaseException.__getattribute__"))&&W.findIn K (.ref C) "__getattr__" == some none&&GC (W.findObj K C none "__class__") &&
 W.mroIn K C (.type "object") == some true&&W.subIn K (.ref C) (.type "BaseException") == some true&&(W.clsIn K C).isSome&&W.kitOne K (.ref C) (.type "ValueError") == some true &&
 zW.all fun c=>match W.nsIn K mainGlobals c with
  | some (some (.ref D))=>W.kitOne K (.ref C) (.ref D) == some (RL.sH x c)&&W.subIn K (.ref C) (.ref D) == some (RL.sH x c)
  | _=>true
structure Cls(K:W.Frag)(x:Str)(C:Addr):Prop where
 ns:W.nsIn K mainGlobals x=some (some (.ref C))
 ok:Ji K x C=true
section
variable{K:W.Frag}
end
abbrev nP:Addr->Prop:=fun _=>False
abbrev lj(K:W.Frag)(H:Hp)(a:Addr)(xs:List V):Prop:=(∃ o,H a=some (.frz o (.lst xs)))\/SqL K (fun _=>none) a xs
def lj.seq{K:W.Frag}(h:lj K H a xs):SqL K H a xs:=by
 rcases h with⟨o,h⟩ | (h | ⟨o,h⟩) | h
 ·exact .inl (.inr #[o,h])
 ·cases h
 ·cases h
 ·exact .inr h
def lj.same{K:W.Frag}(e:a6 H H')(h:lj K H a xs):lj K H' a xs:=by
 rcases h with⟨o,h⟩ | h
 ·exact .inl #[o,e _ _ h]
 ·exact .inr h
abbrev vW(H:Hp)(f:Option Nat)(od:Option Addr):Prop:=match f with
 | none=>od=none
 | some k=>∃ n u hh tk tk',od=some n/\H n=some (.frz { cls:=.type "dict",data:=.dict (List.toArray [⟨hh,.str "at" tk,.int k tk'⟩]) 1 } u)
def vW.keep(h:vW H f od)(k:∀ b o u,H b=some (.frz o u)->H' b=some (.frz o u)):vW H' f od:=by
 cases f with
 | none=>exact h
 | some m=>exact let ⟨n,u,hh,tk,tk',h1,h2⟩:=h;⟨n,u,hh,tk,tk',h1,k _ _ _ h2⟩
abbrev ExV(K:W.Frag)(H:Hp)(c:Str)(v:V):Prop:=∃ a o u D vs,v=.ref a/\H a=some (.frz o u)/\(o.cls=.ref D/\vW H (RL.w6 c) o.dict)/\o.data=.fields vs/\vs[2]?=some .none/\Cls K (RL.baseOf c) D
def ExV.keep{K:W.Frag}(h:ExV K H c v)(k:∀ b o u,H b=some (.frz o u)->H' b=some (.frz o u)):ExV K H' c v :=
 let ⟨a,o,u,D,vs,h1,h2,h3,r⟩:=h;⟨a,o,u,D,vs,h1,k _ _ _ h2,⟨h3.1,h3.2.keep k⟩,r⟩
mutual
noncomputable def Rep(P:Addr->Prop)(K:W.Frag)(H:Hp):RL.D->V->Prop
 | .non,v=>v=.non
 | .bl b,v=>v=.bl b
 | .int i,v=>v=.int i
 | .str x,v=>v=.str x
 | .tup ds,v=>∃ a xs,v=.ref a/\H a=some (.tup xs)/\ae P K H ds xs
 | .lst ds,v=>∃ a xs,v=.ref a/\¬ P a/\H a=some (.lst xs)/\ae P K H ds xs
 | .dK ks ds,v=>∃ a xs,v=.ref a/\¬ P a/\H a=some (.dK (ks.zip xs))/\ks.length=ds.length/\ae P K H ds xs
 | .dT ks ds,v=>∃ a xs,v=.ref a/\¬ P a/\H a=some (.dT (ks.zip xs))/\ks.length=ds.length/\ae P K H ds xs
 | .scr ds,v=>∃ a xs,v=.ref a/\lj K H a xs/\ae P K H ds xs
 | .exc c,v=>ExV K H c v
 | .obj,v=>∃ a,v=.ref a
 | .fT ks ds,v=>∃ a o xs,v=.ref a/\H a=some (.frz o (.dT (ks.zip xs)))/\ks.length=ds.length/\ae P K H ds xs
 | .fL ds,v=>∃ a o xs,v=.ref a/\H a=some (.frz o (.lst xs))/\ae P K H ds xs
noncomputable def ae(P:Addr->Prop)(K:W.Frag)(H:Hp):List RL.D->List V->Prop
 | [],xs=>xs=[]
 | d::r,xs=>∃ x t,xs=x::t/\Rep P K H d x/\ae P K H r t
end
mutual
theorem Rep.same{P:Addr->Prop}{K:W.Frag}{H H':Hp}(e:a6 H H'):∀ {d:RL.D} {v:V},Rep P K H d v->Rep P K H' d v
 | .non,v,h=>by simpa[Rep]using h
 | .bl _,v,h=>by simpa[Rep]using h
 | .int _,v,h=>by simpa[Rep]using h
 | .str _,v,h=>by simpa[Rep]using h
 | .tup ds,v,h=>by
  rw[Rep]at h ⊢;obtain⟨a,xs,e1,e2,e3⟩:=h;exact#[a,xs,e1,e _ _ e2,ae.same e e3]
 | .lst ds,v,h=>by
  rw[Rep]at h ⊢;obtain⟨a,xs,e1,e0,e2,e3⟩:=h;exact#[a,xs,e1,e0,e _ _ e2,ae.same e e3]
 | .dK ks ds,v,h=>by
  rw[Rep]at h ⊢;obtain⟨a,xs,e1,e0,e2,el,e3⟩:=h;exact#[a,xs,e1,e0,e _ _ e2,el,ae.same e e3]
 | .dT ks ds,v,h=>by
  rw[Rep]at h ⊢;obtain⟨a,xs,e1,e0,e2,el,e3⟩:=h;exact#[a,xs,e1,e0,e _ _ e2,el,ae.same e e3]
 | .scr ds,v,h=>by
  rw[Rep]at h ⊢;obtain⟨a,xs,e1,e2,e3⟩:=h;exact#[a,xs,e1,lj.same e e2,ae.same e e3]
 | .exc c,v,h=>by rw[Rep]at h ⊢;exact h.keep fun _ _ _ q=>e _ _ q
 | .obj,v,h=>by rw[Rep]at h ⊢;exact h
 | .fT ks ds,v,h=>by rw[Rep]at h ⊢;obtain⟨a,o,xs,e1,e2,el,e3⟩:=h;exact#[a,o,xs,e1,e _ _ e2,el,ae.same e e3]
 | .fL ds,v,h=>by rw[Rep]at h ⊢;obtain⟨a,o,xs,e1,e2,e3⟩:=h;exact#[a,o,xs,e1,e _ _ e2,ae.same e e3]
theorem ae.same{P:Addr->Prop}{K:W.Frag}{H H':Hp}(e:a6 H H'):∀ {ds:List RL.D} {xs:List V},ae P K H ds xs->ae P K H' ds xs
 | [],xs,h=>by rw[ae]at h ⊢;exact h
 | d::r,xs,h=>by
  rw[ae]at h ⊢;obtain⟨x,t,e1,e2,e3⟩:=h;exact#[x,t,e1,Rep.same e e2,ae.same e e3]
end
mutual
theorem Rep.weak{P P':Addr->Prop}{K:W.Frag}{H:Hp}(e:∀ a,P' a->P a):∀ {d:RL.D} {v:V},Rep P K H d v->Rep P' K H d v
 | .non,v,h=>by simpa[Rep]using h
 | .bl _,v,h=>by simpa[Rep]using h
 | .int _,v,h=>by simpa[Rep]using h
 | .str _,v,h=>by simpa[Rep]using h
 | .tup ds,v,h=>by
  rw[Rep]at h ⊢;obtain⟨a,xs,e1,e2,e3⟩:=h;exact#[a,xs,e1,e2,ae.weak e e3]
 | .lst ds,v,h=>by
  rw[Rep]at h ⊢;obtain⟨a,xs,e1,e0,e2,e3⟩:=h;exact#[a,xs,e1,fun z=>e0 (e a z),e2,ae.weak e e3]
 | .dK ks ds,v,h=>by
  rw[Rep]at h ⊢;obtain⟨a,xs,e1,e0,e2,el,e3⟩:=h;exact#[a,xs,e1,fun z=>e0 (e a z),e2,el,ae.weak e e3]
 | .dT ks ds,v,h=>by
  rw[Rep]at h ⊢;obtain⟨a,xs,e1,e0,e2,el,e3⟩:=h;exact#[a,xs,e1,fun z=>e0 (e a z),e2,el,ae.weak e e3]
 | .scr ds,v,h=>by
  rw[Rep]at h ⊢;obtain⟨a,xs,e1,e2,e3⟩:=h;exact#[a,xs,e1,e2,ae.weak e e3]
 | .exc c,v,h=>by rw[Rep]at h ⊢;exact h
 | .obj,v,h=>by rw[Rep]at h ⊢;exact h
 | .fT ks ds,v,h=>by rw[Rep]at h ⊢;obtain⟨a,o,xs,e1,e2,el,e3⟩:=h;exact#[a,o,xs,e1,e2,el,ae.weak e e3]
 | .fL ds,v,h=>by rw[Rep]at h ⊢;obtain⟨a,o,xs,e1,e2,e3⟩:=h;exact#[a,o,xs,e1,e2,ae.weak e e3]
theorem ae.weak{P P':Addr->Prop}{K:W.Frag}{H:Hp}(e:∀ a,P' a->P a):∀ {ds:List RL.D} {xs:List V},ae P K H ds xs->ae P' K H ds xs
 | [],xs,h=>by rw[ae]at h ⊢;exact h
 | d::r,xs,h=>by
  rw[ae]at h ⊢;obtain⟨x,t,e1,e2,e3⟩:=h;exact#[x,t,e1,Rep.weak e e2,ae.weak e e3]
end
def Rep.none{P:Addr->Prop}{K:W.Frag}(h:Rep P K H d v):Rep nP K H d v:=h.weak fun _ z=>z.elim
mutual
theorem Rep.imm{P P':Addr->Prop}{K:W.Frag}{H:Hp}:∀ {d:RL.D} {v:V},d.imm=true->Rep P K H d v->Rep P' K H d v
 | .non,v,_,h=>by simpa[Rep]using h
 | .bl _,v,_,h=>by simpa[Rep]using h
 | .int _,v,_,h=>by simpa[Rep]using h
 | .str _,v,_,h=>by simpa[Rep]using h
 | .tup ds,v,i,h=>by
  rw[Rep]at h ⊢;rw[RL.D.imm]at i;obtain⟨a,xs,e1,e2,e3⟩:=h;exact#[a,xs,e1,e2,ae.imm i e3]
 | .lst ds,v,i,h=>by rw[RL.D.imm]at i;cases i
 | .dK ks ds,v,i,h=>by rw[RL.D.imm]at i;cases i
 | .dT ks ds,v,i,h=>by rw[RL.D.imm]at i;cases i
 | .scr ds,v,i,h=>by
  rw[Rep]at h ⊢;rw[RL.D.imm]at i;obtain⟨a,xs,e1,e2,e3⟩:=h;exact#[a,xs,e1,e2,ae.imm i e3]
 | .exc c,v,i,h=>by rw[Rep]at h ⊢;exact h
 | .obj,v,i,h=>by rw[Rep]at h ⊢;exact h
 | .fT ks ds,v,i,h=>by rw[Rep]at h ⊢;rw[RL.D.imm]at i;obtain⟨a,o,xs,e1,e2,el,e3⟩:=h;exact#[a,o,xs,e1,e2,el,ae.imm i e3]
 | .fL ds,v,i,h=>by rw[Rep]at h ⊢;rw[RL.D.imm]at i;obtain⟨a,o,xs,e1,e2,e3⟩:=h;exact#[a,o,xs,e1,e2,ae.imm i e3]
theorem ae.imm{P P':Addr->Prop}{K:W.Frag}{H:Hp}:∀ {ds:List RL.D} {xs:List V},RL.aw ds=true->ae P K H ds xs->ae P' K H ds xs
 | [],xs,_,h=>by rw[ae]at h ⊢;exact h
 | d::r,xs,i,h=>by
  rw[ae]at h ⊢;rw[RL.aw,Bool.and_eq_true]at i;obtain⟨x,t,e1,e2,e3⟩:=h;exact#[x,t,e1,Rep.imm i.1 e2,ae.imm i.2 e3]
end
abbrev cS(o:HO):Prop:=(∃ xs,o=.lst xs)\/(∃ kvs,o=.dK kvs)\/(∃ kvs,o=.dT kvs)
mutual
theorem Rep.upd{P:Addr->Prop}{K:W.Frag}{H:Hp}{a:Addr}{o o':HO}(ha:H a=some o)(m:cS o)(p:P a):∀ {d:RL.D} {v:V},Rep P K H d v->Rep P K (upd H a o') d v
 | .non,v,h=>by simpa[Rep]using h
 | .bl _,v,h=>by simpa[Rep]using h
 | .int _,v,h=>by simpa[Rep]using h
 | .str _,v,h=>by simpa[Rep]using h
 | .tup ds,v,h=>by
  rw[Rep]at h ⊢;obtain⟨b,xs,e1,e2,e3⟩:=h;have n:b≠a:=lJ e2 ha (by rcases m with⟨z,rfl⟩ | ⟨z,rfl⟩ | ⟨z,rfl⟩<;>(intro q;cases q));exact#[b,xs,e1,by rw[L2.aV n];exact e2,ae.upd ha m p e3]
 | .lst ds,v,h=>by
  rw[Rep]at h ⊢;obtain⟨b,xs,e1,e0,e2,e3⟩:=h;have n:b≠a:=fun z=>e0 (z▸p);exact#[b,xs,e1,e0,by rw[L2.aV n];exact e2,ae.upd ha m p e3]
 | .dK ks ds,v,h=>by
  rw[Rep]at h ⊢;obtain⟨b,xs,e1,e0,e2,el,e3⟩:=h;have n:b≠a:=fun z=>e0 (z▸p);exact#[b,xs,e1,e0,by rw[L2.aV n];exact e2,el,ae.upd ha m p e3]
 | .dT ks ds,v,h=>by
  rw[Rep]at h ⊢;obtain⟨b,xs,e1,e0,e2,el,e3⟩:=h;have n:b≠a:=fun z=>e0 (z▸p);exact#[b,xs,e1,e0,by rw[L2.aV n];exact e2,el,ae.upd ha m p e3]
 | .scr ds,v,h=>by
  rw[Rep]at h ⊢;obtain⟨b,xs,e1,e2,e3⟩:=h;refine#[b,xs,e1,?_,ae.upd ha m p e3];rcases e2 with⟨q,e2⟩ | e2
  ·have n:b≠a:=lJ e2 ha (by rcases m with⟨z,rfl⟩ | ⟨z,rfl⟩ | ⟨z,rfl⟩<;>(intro q;cases q));exact .inl #[q,by rw[L2.aV n];exact e2]
  ·exact .inr e2
 | .obj,v,h=>by rw[Rep]at h ⊢;exact h
 | .exc c,v,h=>by
  rw[Rep]at h ⊢;refine h.keep fun b ob u q=>?_;have n:b≠a:=lJ q ha (by rcases m with⟨z,rfl⟩ | ⟨z,rfl⟩ | ⟨z,rfl⟩<;>(intro q;cases q));rw[L2.aV n];exact q
 | .fT ks ds,v,h=>by
  rw[Rep]at h ⊢;obtain⟨b,ob,xs,e1,e2,el,e3⟩:=h;have n:b≠a:=lJ e2 ha (by rcases m with⟨z,rfl⟩ | ⟨z,rfl⟩ | ⟨z,rfl⟩<;>(intro q;cases q));exact#[b,ob,xs,e1,by rw[L2.aV n];exact e2,el,ae.upd ha m p e3]
 | .fL ds,v,h=>by
  rw[Rep]at h ⊢;obtain⟨b,ob,xs,e1,e2,e3⟩:=h;have n:b≠a:=lJ e2 ha (by rcases m with⟨z,rfl⟩ | ⟨z,rfl⟩ | ⟨z,rfl⟩<;>(intro q;cases q));exact#[b,ob,xs,e1,by rw[L2.aV n];exact e2,ae.upd ha m p e3]
theorem ae.upd{P:Addr->Prop}{K:W.Frag}{H:Hp}{a:Addr}{o o':HO}(ha:H a=some o)(m:cS o)(p:P a):∀ {ds:List RL.D} {xs:List V},ae P K H ds xs->ae P K (upd H a o') ds xs
 | [],xs,h=>by rw[ae]at h ⊢;exact h
 | d::r,xs,h=>by
  rw[ae]at h ⊢;obtain⟨x,t,e1,e2,e3⟩:=h;exact#[x,t,e1,Rep.upd ha m p e2,ae.upd ha m p e3]
end
section lists
variable{K:W.Frag}
def ae.nil:ae P K H [] []:=by rw[ae]
def ae.cons{d:RL.D}{ds:List RL.D}{x:V}{xs:List V}(h:Rep P K H d x)(t:ae P K H ds xs):ae P K H (d::ds) (x::xs):=by rw[ae];exact#[x,xs,rfl,h,t]
def ae.length:∀ {ds:List RL.D} {xs:List V},ae P K H ds xs->ds.length=xs.length
 | [],xs,h=>by rw[ae]at h;rw[h];rfl
 | d::r,xs,h=>by
  rw[ae]at h;obtain⟨x,t,rfl,_,e3⟩:=h;rw[List.length_cons,List.length_cons,ae.length e3]
def ae.append:∀ {ds es:List RL.D} {xs ys:List V},ae P K H ds xs->ae P K H es ys->ae P K H (ds++es) (xs++ys)
 | [],_,xs,_,h,k=>by rw[ae]at h;rw[h];exact k
 | d::r,_,xs,_,h,k=>by
  rw[ae]at h;obtain⟨x,t,rfl,e2,e3⟩:=h;exact ae.cons e2 (ae.append e3 k)
def ae.get:∀ {ds:List RL.D} {xs:List V} {i:Nat} {d:RL.D},ae P K H ds xs->ds[i]?=some d->∃ x,xs[i]?=some x/\Rep P K H d x
 | [],_,i,d,_,e=>by simp at e
 | d::r,xs,0,d',h,e=>by
  rw[ae]at h;obtain⟨x,t,rfl,e2,_⟩:=h;simp at e;subst e;exact#[x,rfl,e2]
 | d::r,xs,i+1,d',h,e=>by
  rw[ae]at h;obtain⟨x,t,rfl,_,e3⟩:=h;obtain⟨y,h1,h2⟩:=ae.get (i:=i) e3 (by simpa using e);exact#[y,by simpa using h1,h2]
def ae.set:∀ {ds:List RL.D} {xs:List V} (i:Nat) {d:RL.D} {x:V},ae P K H ds xs->Rep P K H d x->ae P K H (ds.set i d) (xs.set i x)
 | [],xs,_,_,_,h,_=>by rw[ae]at h;rw[h];exact ae.nil
 | d::r,xs,0,_,_,h,k=>by
  rw[ae]at h;obtain⟨x,t,rfl,_,e3⟩:=h;exact ae.cons k e3
 | d::r,xs,i+1,_,_,h,k=>by
  rw[ae]at h;obtain⟨x,t,rfl,e2,e3⟩:=h;exact ae.cons e2 (ae.set i e3 k)
def ae.take:∀ {ds:List RL.D} {xs:List V} (n:Nat),ae P K H ds xs->ae P K H (ds.take n) (xs.take n)
 | _,_,0,_=>by simpa using ae.nil
 | [],xs,n+1,h=>by rw[ae]at h;rw[h];simpa using ae.nil
 | d::r,xs,n+1,h=>by
  rw[ae]at h;obtain⟨x,t,rfl,e2,e3⟩:=h;exact ae.cons e2 (ae.take n e3)
def ae.drop:∀ {ds:List RL.D} {xs:List V} (n:Nat),ae P K H ds xs->ae P K H (ds.drop n) (xs.drop n)
 | _,_,0,h=>h
 | [],xs,n+1,h=>by rw[ae]at h;rw[h];simpa using ae.nil
 | d::r,xs,n+1,h=>by
  rw[ae]at h;obtain⟨x,t,rfl,_,e3⟩:=h;exact ae.drop n e3
def ae.rev(h:ae P K H ds xs):ae P K H ds.reverse xs.reverse:=by
 induction ds generalizing xs with
 | nil=>rw[ae]at h;rw[h];exact ae.nil
 |cons d r ih=>
  rw[ae]at h;obtain⟨x,t,rfl,e2,e3⟩:=h;rw[Zq,Zq];exact ae.append (ih e3) (ae.cons e2 ae.nil)
def ae.rep(h:ae P K H ds xs):∀ n:Nat,ae P K H (List.replicate n ds).flatten (List.replicate n xs).flatten
 | 0=>ae.nil
 | n+1=>by
  rw[Zl,Zl,Zv,Zv];exact ae.append h (ae.rep h n)
end lists
abbrev RV0(K:W.Frag)(Zy:RL.St)(Y:L2.St)(H:Hp):Prop:=Zy.length<=Y.length/\∀ (i:Nat) (d:RL.D),Zy[i]?=some (some d)->∃ v,Y[i]?=some (some v)/\Rep nP K H d v
def RV0.same{K:W.Frag}(h:RV0 K Zy Y H)(e:a6 H H'):RV0 K Zy Y H':=⟨h.1,fun i d q=>by
 obtain⟨v,h1,h2⟩:=h.2 i d q
 exact#[v,h1,h2.same e]⟩
abbrev l0:RL.D->Bool
 | .lst _=>true
 | .dK _ _=>true
 | .dT _ _=>true
 | _=>false
structure Res(K:W.Frag)(Zy:RL.St)(Y:L2.St)(H:Hp)(e:RL.E)(d:RL.D)(v:V)(H':Hp):Prop where
 same:a6 H H'
 rep:Rep nP K H' d v
 fresh:RL.aC e=true->l0 d=true->∀ a,v=.ref a->H a=none
 av:∀ M,RL.avE M e=true->∀ P:Addr->Prop,(∀ a,P a->H a≠none)->(∀ (j:Nat) (dj:RL.D) (vj:V),M.contains j=false->Zy[j]?=some (some dj)->Y[j]?=some (some vj)->Rep P K H dj vj)->Rep P K H' d v
abbrev tE(K:W.Frag)(cl:RL.Cl)(e:RL.E):TE:=fun Y H Q=>∃ Zy d,RV0 K Zy Y H/\RL.ev cl Zy e=some d/\∀ v H',Res K Zy Y H e d v H'->Q v H'
abbrev SE(X:Cx)(cl:RL.Cl)(e:Expr)(e':RL.E):Prop:=PE X e (tE X.K cl e')
def PE.weak(h:PE X e t)(w:∀ Y H Q,t' Y H Q->t Y H Q):PE X e t':=fun pins s Y H Q I q=>h pins s Y H Q I (w Y H Q q)
abbrev tEs(K:W.Frag)(cl:RL.Cl)(es:RL.Es):TA:=fun Y H Q=>∃ Zy ds,RV0 K Zy Y H/\RL.evs cl Zy es=some ds/\∀ vs H',a6 H H'->ae nP K H' ds vs->Q vs H'
abbrev SEs(X:Cx)(cl:RL.Cl)(es:List Expr)(es':RL.Es):Prop:=PA X es (tEs X.K cl es')
section rules
variable{X:Cx}
def two{Zy:RL.St}{Y:L2.St}{H:Hp}{x y:RL.D}{R:V->V->Hp->Prop}(rv:RV0 X.K Zy Y H)(ea:RL.ev cl Zy a'=some x)(eb:RL.ev cl Zy b'=some y)
 (k:∀ v u H1 H2,a6 H H1->a6 H1 H2->Rep nP X.K H2 x v->Rep nP X.K H2 y u->Res X.K Zy Y H a' x v H1->Res X.K Zy Y H1 b' y u H2->R v u H2) :
  tE X.K cl a' Y H fun v H1=>tE X.K cl b' Y H1 fun u H2=>R v u H2 :=
 ⟨Zy,x,rv,ea,fun v H1 r1=>#[Zy,y,rv.same r1.same,eb,fun u H2 r2=>k v u H1 H2 r1.same r2.same (r1.rep.same r2.same) r2.rep r1 r2]⟩
def bind_some(h:o.bind f=some y):∃ x,o=some x/\f x=some y:=by
 cases o with
 | none=>cases h
 | some x=>exact#[x,rfl,h]
def map_some(h:o.map f=some y):∃ x,o=some x/\f x=y:=by
 cases o with
 | none=>cases h
 | some x=>exact#[x,rfl,Option.some.inj h]
def cA:RL.most<=sizeLine:=by decide
def a6.bP(hn:H p=none):a6 H (upd H p o):=fun b u e=>by rw[aV (aO e hn)];exact e
def FT(hN:X.N[i]?=some x)(hv:Vis X.env.scope x)(hd:(x == ("__debug__" : Str))=false)(hcd:(x == ("__classdict__" : Str))=false):SE X cl (.Name x pos) (.var i):=by
 refine PE.weak (eI hN hv hd hcd) fun Y H Q h=>?_;fin2
 have e':Zy[i]?=some (some d):=by
  obtain⟨o,h1,h2⟩:=bind_some e
  cases o with
  | none=>cases h2
  | some z=>cases h2;exact h1
 obtain⟨v,h1,h2⟩:=rv.2 i d e';refine⟨v,h1,k v H ⟨a6.refl H,h2,fun z=>(by cases z),fun M z P hP av=>?_⟩⟩;rw[RL.EX]at z;exact av i d v (by simpa using z) e' h1
def ou(h:PE X (.Constant k j pos) (tC v))(r:∀ P H,Rep P X.K H d v)(hm:l0 d=false):SE X cl (.Constant k j pos) (.cst d):=by
 refine PE.weak h fun Y H Q q=>?_;obtain⟨Zy,d',rv,e,k⟩:=q;cases e;exact k v H ⟨a6.refl H,r _ _,fun z=>(by cases z),fun M z=>nomatch (show false=true from z)⟩
def GH{x:Str}{i:Int}{u:Value}(h:PE X (.Name x pos) (tC (.int i))):SE X cl (.Name x pos) (.glb x i):=by
 refine PE.weak h fun Y H Q q=>?_;obtain⟨Zy,d',rv,e,k⟩:=q;cases e;exact k _ H ⟨a6.refl H,(by rw[Rep]),fun z=>(by cases z),fun M z=>nomatch (show false=true from z)⟩
end rules
section rules
variable{X:Cx}
def bZ(sm:a6 H H')(r:Rep nP X.K H' d v)(im:d.imm=true):Res X.K Zy Y H e d v H' where
 same:=sm
 rep:=r
 fresh:=fun _ m=>by
  cases d with
  | lst _=>cases im
  | dK _ _=>cases im
  | dT _ _=>cases im
  | _=>cases m
 av:=fun M _ P _ _=>r.imm im
def zM:OpR X (binaryOp .FloorDiv) (rI (fun _ j=>0<j/\j<2 ^ 200) fun i j=>.int (i / j)):=opI fun i j _ _ _ _ _ hc q=>by
 refine floordiv_int ⋯ ?_ (.inl (PyProof.noPylong_of_log2 ?_))
 ·rw[Int.fdiv_eq_ediv_of_nonneg _ ⋯];exact q
 ·have h0:j.natAbs≠0:=by lia
  have h1:j.natAbs<2 ^ 200:=by
   have:=hc.2;omega
  have h2:j.natAbs.log2<200:=(Nat.log2_lt h0).mpr h1;lia
def fh(sm:a6 H H1)(hn:H1 p=none)(r:ae nP X.K H1 ds xs)(hav:∀ M,RL.avE M e=false):Res X.K Zy Y H e (.lst ds) (.ref p) (upd H1 p (.lst xs)) where
 same:=sm.trans (a6.bP hn)
 rep:=by
  rw[Rep];exact#[p,xs,rfl,fun z=>z,bp,r.same (a6.bP hn)]
 fresh:=fun _ _ a z=>by
  cases z;exact sm.free hn
 av:=fun M z=>by rw[hav M]at z;cases z
def eQ(sm:a6 H H1)(hn:H1 p=none)(r:ae nP X.K H1 ds xs)(hav:∀ M,RL.avE M e=false):Res X.K Zy Y H e (.tup ds) (.ref p) (upd H1 p (.tup xs)) where
 same:=sm.trans (a6.bP hn)
 rep:=by
  rw[Rep];exact#[p,xs,rfl,bp,r.same (a6.bP hn)]
 fresh:=fun _ m=>by cases m
 av:=fun M z=>by rw[hav M]at z;cases z
abbrev sZ:RL.Bop->Operator
 | .add=>.Add
 | .sub=>.Sub
 | .mul=>.Mult
 | .fdiv=>.FloorDiv
 | .mod=>.Mod
 | .pow=>.Pow
def aW{P:Addr->Prop}{K:W.Frag}:Rep P K H (.int i) (.int i):=by rw[Rep]
def sI{P:Addr->Prop}{K:W.Frag}:Rep P K H (.bl i) (.bl i):=by rw[Rep]
def jB{P:Addr->Prop}{K:W.Frag}:Rep P K H (.str i) (.str i):=by rw[Rep]
def ak{P:Addr->Prop}{K:W.Frag}(h:Rep P K H (.int i) v):v=.int i:=by rw[Rep]at h;exact h
def bh{P:Addr->Prop}{K:W.Frag}(h:Rep P K H (.bl i) v):v=.bl i:=by rw[Rep]at h;exact h
def aQ{P:Addr->Prop}{K:W.Frag}(h:Rep P K H (.str i) v):v=.str i:=by rw[Rep]at h;exact h
abbrev oC(X:Cx)(o:RL.Bop)(r:R2):Prop :=
 ∀ (Zy:RL.St) (Y:L2.St) (H H2:Hp) (e:RL.E) (x y d:RL.D) (v u:V) (Q:VK),a6 H H2->Rep nP X.K H2 x v->Rep nP X.K H2 y u->RL.aF o x y=some d->(∀ M,RL.avE M e=false) ->
  (∀ w H',Res X.K Zy Y H e d w H'->Q w H')->r v u H2 Q
def hV(ho:OpR X (binaryOp (sZ o)) r)(ok:oC X o r)(ha:SE X cl a a')(hb:SE X cl b b'):SE X cl (.BinOp a (sZ o) b pos) (.bin o a' b'):=by
 refine PE.weak (Io ho ha hb) fun Y H Q h=>?_;fin2;k_in;obtain⟨y,eb,e⟩:=bind_some e;refine two rv ea eb fun v u H1 H2 s1 s2 rx ry _ _=>?_;exact ok Zy Y H H2 _ x y d v u Q (s1.trans s2) rx ry e (fun _=>rfl) k
end rules
section rules
variable{X:Cx}{cl:RL.Cl}{a b c:Expr}{a' b' c':RL.E}{pos:Pos}
def bM{α:Type}{c:Prop} [Decidable c]{a d:α}(h:(if c then some a else none)=some d):c/\d=a:=by
 by_cases hc:c
 ·rw[if_pos hc]at h;exact#[hc,(Option.some.inj h).symm]
 ·rw[if_neg hc]at h;cases h
def noN{α:Type}{o:Option α}{d:α}{p:Prop}(e:o=none)(h:o=some d):p:=by rw[e]at h;cases h
def zN{x y d:RL.D}(h:RL.aF .add x y=some d):(∃ i j,x=.int i/\y=.int j/\d=.int (i+j))\/(∃ i j:Str,x=.str i/\y=.str j/\i.length+j.length<=RL.most/\d=.str (i++j)) \/
  (∃ i j,x=.lst i/\y=.lst j/\i.length+j.length<=RL.most/\d=.lst (i++j)) \/
  (∃ i j,x=.tup i/\y=.tup j/\(i.length+j.length<=RL.most/\0<i.length)/\d=.tup (i++j)):=by
 cases x with
 | int i=>cases y with
  | int j=>cases h;exact .inl #[i,j,rfl,rfl,rfl]
  | _=>exact noN rfl h
 | str i=>cases y with
  |str j=>
   obtain⟨hc,e⟩:=bM h;exact .inr (.inl #[i,j,rfl,rfl,hc,e])
  | _=>exact noN rfl h
 | lst i=>cases y with
  |lst j=>
   obtain⟨hc,e⟩:=bM h;exact .inr (.inr (.inl #[i,j,rfl,rfl,hc,e]))
  | _=>exact noN rfl h
 | tup i=>cases y with
  |tup j=>
   obtain⟨hc,e⟩:=bM h;exact .inr (.inr (.inr #[i,j,rfl,rfl,hc,e]))
  | _=>exact noN rfl h
 | _=>exact noN rfl h
def A0{x y d:RL.D}(h:RL.aF .mul x y=some d):(∃ i j,x=.int i/\y=.int j/\we i j/\d=.int (i*j)) \/
  (∃ i j,x=.lst i/\y=.int j/\(0<=j/\j<=RL.most/\i.length*j.toNat<=RL.most)/\d=.lst (List.replicate j.toNat i).flatten):=by
 cases x with
 | int i=>cases y with
  |int j=>
   obtain⟨hc,e⟩:=bM h;exact .inl #[i,j,rfl,rfl,hc,e]
  | _=>exact noN rfl h
 | lst i=>cases y with
  |int j=>
   obtain⟨hc,e⟩:=bM h;exact .inr #[i,j,rfl,rfl,hc,e]
  | _=>exact noN rfl h
 | _=>exact noN rfl h
def iQ{o:RL.Bop}{x y d:RL.D}(h:RL.aF o x y=some d)(ho:o≠.add)(hm:o≠.mul):∃ i j,x=.int i/\y=.int j/\RL.aF o (.int i) (.int j)=some d:=by
 have no:∀ {a b:RL.D},RL.aF .sub a b=none->RL.aF .fdiv a b=none->RL.aF .mod a b=none->RL.aF .pow a b=none->RL.aF o a b=some d->False:=fun e1 e2 e3 e4 h=>by
  cases o with
  | add=>exact ho rfl
  | mul=>exact hm rfl
  | sub=>rw[e1]at h;cases h
  | fdiv=>rw[e2]at h;cases h
  | mod=>rw[e3]at h;cases h
  | pow=>rw[e4]at h;cases h
 cases x with
 | int i=>cases y with
  | int j=>exact#[i,j,rfl,rfl,h]
  | _=>exact(no rfl rfl rfl rfl h).elim
 | _=>exact(no rfl rfl rfl rfl h).elim
def zK{x y d:RL.D}(h:RL.aF .sub x y=some d):∃ i j,x=.int i/\y=.int j/\d=.int (i-j):=by
 obtain⟨i,j,e1,e2,h⟩:=iQ h ∅ ∅;cases h;exact#[i,j,e1,e2,rfl]
def xO{x y d:RL.D}(h:RL.aF .fdiv x y=some d):∃ i j,x=.int i/\y=.int j/\(0<j/\j<2 ^ 200)/\d=.int (i / j):=by
 obtain⟨i,j,e1,e2,h⟩:=iQ h ∅ ∅;obtain⟨hc,e⟩:=bM h;exact#[i,j,e1,e2,hc,e]
def AY{x y d:RL.D}(h:RL.aF .mod x y=some d):∃ i j,x=.int i/\y=.int j/\0<j/\d=.int (i%j):=by
 obtain⟨i,j,e1,e2,h⟩:=iQ h ∅ ∅;obtain⟨hc,e⟩:=bM h;exact#[i,j,e1,e2,hc,e]
def Bs{x y d:RL.D}(h:RL.aF .pow x y=some d):∃ i j,x=.int i/\y=.int j/\(0<=j/\j<=1000/\i.natAbs<2 ^ 64)/\d=.int (i ^ j.toNat):=by
 obtain⟨i,j,e1,e2,h⟩:=iQ h ∅ ∅;obtain⟨hc,e⟩:=bM h;exact#[i,j,e1,e2,hc,e]
def aE{P:Addr->Prop}{K:W.Frag}{H:Hp}{ds:List RL.D}{v:V}(h:Rep P K H (.lst ds) v):∃ a xs,v=.ref a/\¬ P a/\H a=some (.lst xs)/\ae P K H ds xs:=by rw[Rep]at h;exact h
def bo{P:Addr->Prop}{K:W.Frag}{H:Hp}{ds:List RL.D}{v:V}(h:Rep P K H (.tup ds) v):∃ a xs,v=.ref a/\H a=some (.tup xs)/\ae P K H ds xs:=by rw[Rep]at h;exact h
def GY:oC X .sub (rI0 fun i j=>.int (i-j)):=by
 intro Zy Y H H2 e x y d v u Q sm rx ry h hav k;obtain⟨i,j,rfl,rfl,rfl⟩:=zK h;exact#[i,j,ak rx,ak ry,k _ _ (bZ sm aW rfl)]
def DS:oC X .fdiv (rI (fun _ j=>0<j/\j<2 ^ 200) fun i j=>.int (i / j)):=by
 intro Zy Y H H2 e x y d v u Q sm rx ry h hav k;obtain⟨i,j,rfl,rfl,hc,rfl⟩:=xO h;exact#[i,j,ak rx,ak ry,hc,k _ _ (bZ sm aW rfl)]
def Ey:oC X .mod (rI (fun _ j=>0<j) fun i j=>.int (i%j)):=by
 intro Zy Y H H2 e x y d v u Q sm rx ry h hav k;obtain⟨i,j,rfl,rfl,hc,rfl⟩:=AY h;exact#[i,j,ak rx,ak ry,hc,k _ _ (bZ sm aW rfl)]
def Hw:oC X .pow (rI GA fun i j=>.int (i ^ j.toNat)):=by
 intro Zy Y H H2 e x y d v u Q sm rx ry h hav k;obtain⟨i,j,rfl,rfl,hc,rfl⟩:=Bs h;exact#[i,j,ak rx,ak ry,#[hc.1,Int.le_trans hc.2.1 ∅,hc.2.2],k _ _ (bZ sm aW rfl)]
def Gp(ha:SE X cl a a')(hb:SE X cl b b'):SE X cl (.BinOp a .Add b pos) (.bin .add a' b'):=by
 refine hV (o:=.add) (Hc.or (wR.or (EY.or CZ))) ?_ ha hb;intro Zy Y H H2 e x y d v u Q sm rx ry h hav k
 rcases zN h with⟨i,j,rfl,rfl,rfl⟩ | ⟨i,j,rfl,rfl,hc,rfl⟩ | ⟨i,j,rfl,rfl,hc,rfl⟩ | ⟨i,j,rfl,rfl,⟨hc,ha⟩,rfl⟩
 ·exact .inl #[i,j,ak rx,ak ry,k _ _ (bZ sm aW rfl)]
 ·exact .inr (.inl #[i,j,aQ rx,aQ ry,Za hc cA,k _ _ (bZ sm jB rfl)])
 ·obtain⟨p,xs,e1,_,e2,e3⟩:=aE rx;obtain⟨q,ys,f1,_,f2,f3⟩:=aE ry;refine .inr (.inr (.inl #[p,q,xs,ys,e1,f1,e2,f2,?_,fun l hl=>k _ _ (fh sm hl (e3.append f3) hav)]));rw[<-e3.length,<-f3.length];exact Za hc cA
 ·obtain⟨p,xs,e1,e2,e3⟩:=bo rx;obtain⟨q,ys,f1,f2,f3⟩:=bo ry;refine .inr (.inr (.inr #[p,q,xs,ys,e1,f1,SqT.of e2,SqT.of f2,fun z=>?_,?_,fun z=>?_,fun _ l hl=>k _ _ (eQ sm hl (e3.append f3) hav)]))
  ·rw[e3.length,z]at ha;exact absurd ha ∅
  ·rw[<-e3.length,<-f3.length];exact Za hc cA
  ·have hj:j=[]:=by
    have:=f3.length;rw[z]at this;exact List.length_eq_zero_iff.mp this
   subst hj;rw[Ze]at k;exact k _ _ ⟨sm,e1▸rx,fun _ m=>(by cases m),fun M z=>by rw[hav M]at z;cases z⟩
def E7(ha:SE X cl a a')(hb:SE X cl b b'):SE X cl (.BinOp a .Mult b pos) (.bin .mul a' b'):=by
 refine hV (o:=.mul) (Hk.or Eu) ?_ ha hb;intro Zy Y H H2 e x y d v u Q sm rx ry h hav k
 rcases A0 h with⟨i,j,rfl,rfl,hc,rfl⟩ | ⟨i,j,rfl,rfl,hc,rfl⟩
 ·exact .inl #[i,j,ak rx,ak ry,hc,k _ _ (bZ sm aW rfl)]
 ·obtain⟨p,xs,e1,_,e2,e3⟩:=aE rx;refine .inr #[p,j,xs,e1,ak ry,e2,?_,?_,?_,fun l hl=>k _ _ (fh sm hl (e3.rep _) hav)]
  ·exact Int.le_trans ∅ hc.1
  ·exact Int.lt_of_le_of_lt hc.2.1 ∅
  ·rw[<-e3.length];exact Za hc.2.2 cA
def GB{o:RL.Bop}(ha:SE X cl a a')(hb:SE X cl b b'):SE X cl (.BinOp a (sZ o) b pos) (.bin o a' b'):=by
 cases o with
 | add=>exact Gp ha hb
 | mul=>exact E7 ha hb
 | sub=>exact hV (o:=.sub) Ft GY ha hb
 | fdiv=>exact hV (o:=.fdiv) zM DS ha hb
 | mod=>exact hV (o:=.mod) Fc Ey ha hb
 | pow=>exact hV (o:=.pow) FG Hw ha hb
def eD{Zy:RL.St}{Y:L2.St}{H H':Hp}{e:RL.E}{k:Bool}(sm:a6 H H'):Res X.K Zy Y H e (.bl k) (.bl k) H':=bZ sm sI rfl
def Ho{rest:List Expr}(ha:SE X cl a a')(hb:SE X cl (.BoolOp .And (b::rest) pos) b'):SE X cl (.BoolOp .And (a::b::rest) pos) (.and a' b'):=by
 refine PE.weak (Hr ha hb) fun Y H Q h=>?_;fin2;k_in;refine#[Zy,x,rv,ea,fun v H1 r1=>?_]
 cases x with
 |bl t=>
  refine#[t,bh r1.rep,?_]
  cases t with
  |true=>
   refine fZ ?_;refine#[Zy,d,rv.same r1.same,e,fun w H2 r2=>k w H2 ?_];exact⟨r1.same.trans r2.same,r2.rep,fun z=>(by cases z),fun M z=>nomatch (show false=true from z)⟩
  |false=>
   refine gH ?_;cases e;exact k _ _ (eD r1.same)
 | _=>cases e
def Ii{rest:List Expr}(ha:SE X cl a a')(hb:SE X cl (.BoolOp .Or (b::rest) pos) b'):SE X cl (.BoolOp .Or (a::b::rest) pos) (.or a' b'):=by
 refine PE.weak (Iw ha hb) fun Y H Q h=>?_;fin2;k_in;refine#[Zy,x,rv,ea,fun v H1 r1=>?_]
 cases x with
 |bl t=>
  refine#[t,bh r1.rep,?_]
  cases t with
  |false=>
   refine gH ?_;refine#[Zy,d,rv.same r1.same,e,fun w H2 r2=>k w H2 ?_];exact⟨r1.same.trans r2.same,r2.rep,fun z=>(by cases z),fun M z=>nomatch (show false=true from z)⟩
  |true=>
   refine fZ ?_;cases e;exact k _ _ (eD r1.same)
 | _=>cases e
def yH{op}(ha:SE X cl a a'):SE X cl (.BoolOp op [a] pos) a':=EV ha
abbrev tT(K:W.Frag)(cl:RL.Cl)(e:RL.E):TT:=fun Y H Q=>∃ Zy k,RV0 K Zy Y H/\(RL.ev cl Zy e).bind RL.truth=some k/\∀ H',a6 H H'->Q k H'
abbrev ST(X:Cx)(cl:RL.Cl)(e:Expr)(e':RL.E):Prop:=PT X e (tT X.K cl e')
abbrev SW(X:Cx)(cl:RL.Cl)(e:Expr)(e':RL.E):Prop:=PW X e (tT X.K cl e')
def PT.weak{e:Expr}{t t':TT}(h:PT X e t)(w:∀ Y H Q,t' Y H Q->t Y H Q):PT X e t':=fun pins s Y H Q I q=>h pins s Y H Q I (w Y H Q q)
def PW.weak{e:Expr}{t t':TT}(h:PW X e t)(w:∀ Y H Q,t' Y H Q->t Y H Q):PW X e t':=fun wh pins s Y H Q I q=>h wh pins s Y H Q I (w Y H Q q)
def ae.isEmpty{P:Addr->Prop}{K:W.Frag}{H:Hp}{ds:List RL.D}{xs:List V}(h:ae P K H ds xs):ds.isEmpty=xs.isEmpty:=by
 cases ds with
 | nil=>rw[ae]at h;rw[h];rfl
 |cons d r=>
  rw[ae]at h;obtain⟨x,t,rfl,_⟩:=h;rfl
def FN{K:W.Frag}{H:Hp}{d:RL.D}{v:V}{k:Bool}(r:Rep nP K H d v)(h:RL.truth d=some k):wZ K v H k:=by
 cases d<;>simp only[RL.truth]at h<;>first | (cases h;done) | skip
 case bl t=>cases h;rw[bh r];exact rfl
 case int t =>
  cases h;rw[ak r];simp[wZ]
 case tup ds =>
  obtain⟨a,xs,rfl,e,rs⟩:=bo r;cases h;exact .inr (.inl #[xs,SqT.of e,by rw[rs.isEmpty]])
 case lst ds =>
  obtain⟨a,xs,rfl,_,e,rs⟩:=aE r;cases h;exact .inl #[xs,SqL.of e,by rw[rs.isEmpty]]
def Bn(ha:SE X cl a a')(he:∀ whole,isTrue a X.env whole=(do let v <- whole;standAt a.pos;holding [v] (truthy v))):ST X cl a a':=by
 refine PT.weak (AF ha he) fun Y H Q h=>?_;obtain⟨Zy,k,rv,e,q⟩:=h;obtain⟨d,e1,e2⟩:=bind_some e;exact#[Zy,d,rv,e1,fun v H1 r1=>#[k,FN r1.rep e2,q H1 r1.same]]
def ze{op:BoolOp}(ha:ST X cl a a'):SW X cl (.BoolOp op [a] pos) a':=by
 cases op with
 | And=>exact DO ha
 | Or=>exact Fb ha
def zm{Zy:RL.St}{k:Bool}(h:(RL.ev cl Zy (.and a' b')).bind RL.truth=some k):∃ t,(RL.ev cl Zy a').bind RL.truth=some t/\(if t=true then(RL.ev cl Zy b').bind RL.truth=some k else k=false):=by
 rw[RL.gZ]at h
 cases ea:RL.ev cl Zy a' with
 | none=>rw[ea]at h;cases h
 |some x=>
  rw[ea]at h
  cases x with
  |bl t=>
   cases t with
   | true=>exact#[true,rfl,fZ h]
   | false=>exact⟨false,rfl,gH (by cases h;rfl)⟩
  | _=>exact noN rfl h
def Ao{Zy:RL.St}{k:Bool}(h:(RL.ev cl Zy (.or a' b')).bind RL.truth=some k):∃ t,(RL.ev cl Zy a').bind RL.truth=some t/\(if t=true then k=true else(RL.ev cl Zy b').bind RL.truth=some k):=by
 rw[RL.zQ]at h
 cases ea:RL.ev cl Zy a' with
 | none=>rw[ea]at h;cases h
 |some x=>
  rw[ea]at h
  cases x with
  |bl t=>
   cases t with
   | true=>exact⟨true,rfl,fZ (by cases h;rfl)⟩
   | false=>exact#[false,rfl,gH h]
  | _=>exact noN rfl h
def GR{rest:List Expr}(ha:ST X cl a a')(hb:SW X cl (.BoolOp .And (b::rest) pos) b'):SW X cl (.BoolOp .And (a::b::rest) pos) (.and a' b'):=by
 refine PW.weak (E5 ha hb) fun Y H Q h=>?_;obtain⟨Zy,k,rv,e,q⟩:=h;obtain⟨t,e1,e2⟩:=zm e;refine#[Zy,t,rv,e1,fun H1 s1=>?_]
 cases t with
 | true=>exact fZ ⟨Zy,k,rv.same s1,e2,fun H2 s2=>q H2 (s1.trans s2)⟩
 |false=>
  have e2:k=false:=e2;subst e2;exact gH (q H1 s1)
def IE{rest:List Expr}(ha:ST X cl a a')(hb:SW X cl (.BoolOp .Or (b::rest) pos) b'):SW X cl (.BoolOp .Or (a::b::rest) pos) (.or a' b'):=by
 refine PW.weak (Ik ha hb) fun Y H Q h=>?_;obtain⟨Zy,k,rv,e,q⟩:=h;obtain⟨t,e1,e2⟩:=Ao e;refine#[Zy,t,rv,e1,fun H1 s1=>?_]
 cases t with
 |true=>
  have e2:k=true:=e2;subst e2;exact fZ (q H1 s1)
 | false=>exact gH ⟨Zy,k,rv.same s1,e2,fun H2 s2=>q H2 (s1.trans s2)⟩
def Em(ha:ST X cl a a'):ST X cl (.UnaryOp .Not a pos) (.not a'):=by
 refine PT.weak (FO ha) fun Y H Q h=>?_;obtain⟨Zy,k,rv,e,q⟩:=h;obtain⟨d,e1,e2⟩:=bind_some e;obtain⟨t,e3,e4⟩:=map_some e1;subst e4;cases e2;exact#[Zy,t,rv,e3,fun H1 s1=>q H1 s1]
def HZ(hc:ST X cl c c')(ha:SE X cl a a')(hb:SE X cl b b'):SE X cl (.IfExp c a b pos) (.ifx c' a' b'):=by
 refine PE.weak (zD hc ha hb) fun Y H Q h=>?_;obtain⟨Zy,d,rv,e,q⟩:=h;obtain⟨t,e1,e2⟩:=bind_some e;refine#[Zy,t,rv,e1,fun H1 s1=>?_];have fin:∀ (a':RL.E) (v:V) (H2:Hp),(∀ M,RL.avE M (.ifx c' a' b')=true->RL.avE M a'=true)->True:=fun _ _ _ _=>trivial
 cases t with
 |true=>
  refine fZ ⟨Zy,d,rv.same s1,e2,fun v H2 r2=>q v H2 ⟨s1.trans r2.same,r2.rep,fun z=>(by cases z),fun M z P hP av=>?_⟩⟩;have z:(RL.avE M a'&&RL.avE M b')=true:=z;rw[Bool.and_eq_true]at z;exact r2.av M z.1 P (fun a p=>(Option.ne_none_iff_exists'.mpr (by obtain⟨o,ho⟩:=Option.ne_none_iff_exists'.mp (hP a p);exact#[o,s1 _ _ ho]))) fun j dj vj h1 h2 h3=>(av j dj vj h1 h2 h3).same s1
 |false=>
  refine gH ⟨Zy,d,rv.same s1,e2,fun v H2 r2=>q v H2 ⟨s1.trans r2.same,r2.rep,fun z=>(by cases z),fun M z P hP av=>?_⟩⟩;have z:(RL.avE M a'&&RL.avE M b')=true:=z;rw[Bool.and_eq_true]at z;exact r2.av M z.2 P (fun a p=>(Option.ne_none_iff_exists'.mpr (by obtain⟨o,ho⟩:=Option.ne_none_iff_exists'.mp (hP a p);exact#[o,s1 _ _ ho]))) fun j dj vj h1 h2 h3=>(av j dj vj h1 h2 h3).same s1
end rules
section rules
variable{X:Cx}
def HY(ha:SE X cl a a'):SE X cl (.UnaryOp .Not a pos) (.not a'):=by
 k_ne;fin2;obtain⟨t,e1,e2⟩:=map_some e;obtain⟨x,e3,e4⟩:=bind_some e1;subst e2;refine UnaryOp_ (thn (ha pins s Y H (fun v H1=>a6 H H1/\Rep nP X.K H1 x v) I ⟨Zy,x,rv,e3,fun v H1 r1=>#[r1.same,r1.rep]⟩) fun v s1 ⟨y,H1,I1,r1,sm,rp⟩=>?_);refine not_of (thn (yz pins s1 Y H1 y v (fun k H2=>k=t/\H2=H1) I1 r1 ⟨t,FN rp e4,rfl,rfl⟩) fun k2 s2 ⟨H2,I2,q1,q2⟩=>?_);subst q1;subst q2;exact#[.bl (!k2),H2,I2,rfl,k _ _ (eD sm)]
abbrev noStar:Expr->Bool
 | .Starred _ _=>false
 | _=>true
def a8(es:List Expr)(h:noStar e=true):starEach (e::es) X.env=(false,eval e X.env)::starEach es X.env:=by
 cases e<;>first | rfl | (cases h)
def dZ:∀ {es:List Expr} {pos:Pos},es.all noStar=true->(backTo pos (starEach es X.env)).any (·.1)=false
 | [],_,_=>rfl
 | e::es,pos,h=>by
  rw[Zo,Bool.and_eq_true]at h;rw[a8 es h.1];show(false || (backTo pos (starEach es X.env)).any (·.1))=false;rw[dZ h.2];rfl
def cB:SEs X cl [] .nil:=by
 intro pos pins s Y H Q I h;obtain⟨Zy,ds,rv,e,k⟩:=h;cases e;exact d5 pos pins s Y H Q I (k [] H (a6.refl H) ae.nil)
def b0(he:SE X cl e e')(hr:SEs X cl es es')(hn:noStar e=true):SEs X cl (e::es) %[e'|es']:=by
 intro pos pins s Y H Q I h;refine bH he hr (a8 es hn) pos pins s Y H Q I ?_;obtain⟨Zy,ds,rv,e,k⟩:=h;obtain⟨d,e1,e2⟩:=bind_some e;obtain⟨r,e3,e4⟩:=map_some e2;subst e4;refine#[Zy,d,rv,e1,fun v H1 r1=>#[Zy,r,rv.same r1.same,e3,fun vs H2 s2 r2=>k (v::vs) H2 (r1.same.trans s2) (ae.cons (r1.rep.same s2) r2)]]
abbrev f9:RL.Es->Nat
 | .nil=>0
 | .cons _ r=>f9 r+1
def mE:∀ {es:RL.Es} {ds:List RL.D},RL.evs cl Zy es=some ds->ds.length=f9 es
 | .nil,ds,h=>by rw[RL.evs]at h;cases h;rfl
 | .cons e r,ds,h=>by
  obtain⟨d,e1,e2⟩:=bind_some h;obtain⟨t,e3,e4⟩:=map_some e2;subst e4;rw[List.length_cons,mE e3,f9]
def Ep(h:SEs X cl es es')(hl:f9 es'<=1000):SE X cl (.Tuple es x1 pos) (.tup es'):=by
 refine PE.weak (ya h) fun Y H Q q=>?_;obtain⟨Zy,d,rv,e,k⟩:=q;obtain⟨ds,e1,e2⟩:=map_some e;subst e2;refine#[Zy,ds,rv,e1,fun vs H1 s1 r1=>#[?_,fun p hp=>k _ _ (eQ s1 hp r1 fun _=>rfl)]];rw[<-r1.length,mE e1];exact Nat.le_of_lt (qj hl)
def HW(h:SEs X cl es es')(hl:f9 es'<=1000):SE X cl (.List es pos) (.lst es'):=by
 refine PE.weak (Gq h) fun Y H Q q=>?_;obtain⟨Zy,d,rv,e,k⟩:=q;obtain⟨ds,e1,e2⟩:=map_some e;subst e2;refine#[Zy,ds,rv,e1,fun vs H1 s1 r1=>#[?_,fun p hp=>k _ _ (fh s1 hp r1 fun _=>rfl)]];rw[<-r1.length,mE e1];exact Nat.le_of_lt (qj hl)
def mf(h:RL.bI xs i=some x):atI xs i=some x:=by
 unfold RL.bI at h;unfold atI ixN;by_cases h0:0<=i
 ·rw[if_pos h0]at h;rw[if_pos h0];obtain⟨h1,_⟩:=List.getElem?_eq_some_iff.mp h;rw[if_pos ⋯];exact h
 ·rw[if_neg h0]at h;rw[if_neg h0];by_cases h1:-(xs.length:Int)<=i
  ·rw[if_pos h1]at h;rw[if_pos h1];exact h
  ·rw[if_neg h1]at h;cases h
def gx{P:Addr->Prop}{K:W.Frag}(r:ae P K H ds xs)(h:RL.bI ds i=some d):∃ x,RL.bI xs i=some x/\Rep P K H d x:=by
 unfold RL.bI at h ⊢;rw[<-r.length];by_cases h0:0<=i
 ·rw[if_pos h0]at h ⊢;exact r.get h
 ·rw[if_neg h0]at h ⊢;by_cases h1:-(ds.length:Int)<=i
  ·rw[if_pos h1]at h ⊢;exact r.get h
  ·rw[if_neg h1]at h;cases h
abbrev k9:Expr->Bool
 | .Slice _ _ _ _=>false
 | _=>true
def C8(h:k9 b=true):vo b:=by
 intro o i
 cases b<;>first | rfl | (cases h)
def AE{xs:List RL.D}{i:Int}(im:RL.aw xs=true)(h:RL.bI xs i=some d):d.imm=true:=by
 have mem:d∈xs:=by
  unfold RL.bI at h;split at h
  ·exact Zb h
  ·split at h
   ·exact Zb h
   ·cases h
 clear h
 induction xs with
 | nil=>cases mem
 |cons a r ih=>
  rw[RL.aw,Bool.and_eq_true]at im;rcases List.mem_cons.mp mem with rfl | m
  ·exact im.1
  ·exact ih im.2 m
def zl(h:RL.ixV x y=some d):(∃ xs i,x=.lst xs/\y=.int i/\RL.bI xs i=some d)\/(∃ xs i,x=.tup xs/\y=.int i/\RL.bI xs i=some d) \/
  (∃ (z:Str) (i:Int) (c:Nat),x=.str z/\y=.int i/\z.length<=RL.most/\RL.bI z.cps.toList i=some c/\d=.str ⟨(List.toArray [c])⟩)\/(∃ xs i,x=.fL xs/\y=.int i/\RL.aw xs=true/\RL.bI xs i=some d):=by
 have no:∀ {o:Option RL.D},o=none->o=some d->False:=fun e h=>by rw[e]at h;cases h
 cases x with
 | lst xs=>cases y with
  | int i=>exact .inl #[xs,i,rfl,rfl,h]
  | _=>exact(no rfl h).elim
 | tup xs=>cases y with
  | int i=>exact .inr (.inl #[xs,i,rfl,rfl,h])
  | _=>exact(no rfl h).elim
 | str z=>cases y with
  |int i=>
   by_cases hc:z.length<=RL.most
   ·obtain⟨c,e1,e2⟩:=map_some (show(RL.bI z.cps.toList i).map (fun c=>RL.D.str ⟨(List.toArray [c])⟩)=some d from(if_pos hc).symm.trans h);exact .inr (.inr (.inl #[z,i,c,rfl,rfl,hc,e1,e2.symm]))
   ·exact(no (if_neg hc) h).elim
  | _=>exact(no rfl h).elim
 | fL xs=>cases y with
  |int i=>
   by_cases hc:RL.aw xs=true
   ·exact .inr (.inr (.inr #[xs,i,rfl,rfl,hc,(if_pos hc).symm.trans h]))
   ·exact(no (if_neg hc) h).elim
  | _=>exact(no rfl h).elim
 | _=>exact(no rfl h).elim
def IQ(ha:SE X cl a a')(hb:SE X cl b b')(hs:k9 b=true):SE X cl (.Subscript a b pos) (.ix a' b'):=by
 refine PE.weak (Ij HB ha hb (C8 hs)) fun Y H Q h=>?_;fin2;k_in;obtain⟨y,eb,e⟩:=bind_some e;refine two rv ea eb fun v u H1 H2 s1 s2 rx ry ra rb=>?_
 have fin:∀ (w:V),Rep nP X.K H2 d w->(∀ P:Addr->Prop,Rep P X.K H2 x v->Rep P X.K H2 d w)->Res X.K Zy Y H (.ix a' b') d w H2:=fun w h1 h2=>{
  same:=s1.trans s2
  rep:=h1
  fresh:=fun z=>by cases z
  av:=fun M z P hP av=>h2 P ((ra.av M z P hP av).same s2) }
 rcases zl e with⟨xs,i,rfl,rfl,hd⟩ | ⟨xs,i,rfl,rfl,hd⟩ | ⟨z,i,c,rfl,rfl,hz,hd,rfl⟩ | ⟨xs,i,rfl,rfl,im,hd⟩
 ·obtain⟨p,ys,rfl,_,e2,e3⟩:=aE rx;obtain⟨w,h1,h2⟩:=gx e3 hd;refine .inl #[p,ys,i,w,rfl,ak ry,SqL.of e2,mf h1,k _ _ (fin w h2 fun P rp=>?_)];obtain⟨p',ys',q1,_,q2,q3⟩:=aE rp;cases q1;rw[e2]at q2;cases q2;obtain⟨w',h3,h4⟩:=gx q3 hd;rw[h1]at h3;cases h3;exact h4
 ·obtain⟨p,ys,rfl,e2,e3⟩:=bo rx;obtain⟨w,h1,h2⟩:=gx e3 hd;refine .inr (.inl #[p,ys,i,w,rfl,ak ry,SqT.of e2,mf h1,k _ _ (fin w h2 fun P rp=>?_)]);obtain⟨p',ys',q1,q2,q3⟩:=bo rp;cases q1;rw[e2]at q2;cases q2;obtain⟨w',h3,h4⟩:=gx q3 hd;rw[h1]at h3;cases h3;exact h4
 ·exact .inr (.inr #[z,i,c,aQ rx,ak ry,Za hz cA,mf hd,k _ _ (fin _ jB fun P _=>jB)])
 ·rw[Rep]at rx;obtain⟨p,o,ys,rfl,e2,e3⟩:=rx;obtain⟨w,h1,h2⟩:=gx e3 hd;exact .inl #[p,ys,i,w,rfl,ak ry,.inl (.inr #[o,e2]),mf h1,k _ _ (bZ (s1.trans s2) h2 (AE im hd))]
end rules
section rules
def hJ:∀ {as bs:List RL.D} {k:Bool},RL.eqs f as bs=some k ->
  ∃ e:Nat->Bool,k=(List.range (min as.length bs.length)).all e/\∀ j x y,as[j]?=some x->bs[j]?=some y->f x y=some (e j)
 | [],bs,k,h=>by
  have h:some true=some k:=by simpa[RL.eqs]using h
  cases h;exact#[fun _=>true,by simp,fun j x y h1=>by simp at h1]
 | a::r,[],k,h=>by
  have h:some true=some k:=by simpa[RL.eqs]using h
  cases h;exact#[fun _=>true,by simp,fun j x y h1 h2=>by simp at h2]
 | a::r,b::s,k,h=>by
  rw[RL.eqs]at h;obtain⟨e0,h1,h2⟩:=bind_some h;obtain⟨k',h3,h4⟩:=map_some h2;obtain⟨e,h5,h6⟩:=hJ h3;refine⟨fun j=>match j with | 0=>e0 | j+1=>e j,?_,fun j x y hx hy=>?_⟩
  ·rw[<-h4,h5,List.length_cons,List.length_cons,Nat.succ_min_succ,List.range_succ_eq_map,Zo,List.all_map];rfl
  ·cases j with
   |zero=>
    simp at hx hy;subst hx hy;exact h1
   | succ j=>exact h6 j x y (by simpa using hx) (by simpa using hy)
abbrev LF(x:RL.D)(i:List RL.D):Prop:=x=.lst i\/x=.fL i
def jL{P:Addr->Prop}{K:W.Frag}{H:Hp}{v:V}(h:Rep P K H x v)(l:LF x i):∃ a xs,v=.ref a/\(H a=some (.lst xs)\/∃ o,H a=some (.frz o (.lst xs)))/\ae P K H i xs:=by
 rcases l with rfl | rfl
 ·obtain⟨a,xs,h1,_,h2,h3⟩:=aE h;exact#[a,xs,h1,.inl h2,h3]
 ·rw[Rep]at h;obtain⟨a,o,xs,h1,h2,h3⟩:=h;exact#[a,xs,h1,.inr #[o,h2],h3]
def E2{H:Hp}{xs ys:List V}(h:H a=some (.lst xs)\/∃ o,H a=some (.frz o (.lst xs)))(h':H a=some (.lst ys)\/∃ o,H a=some (.frz o (.lst ys))):xs=ys:=by
 rcases h with h | ⟨o,h⟩
 ·rcases h' with h' | ⟨o',h'⟩<;>(rw[h]at h';cases h');rfl
 ·rcases h' with h' | ⟨o',h'⟩<;>(rw[h]at h';cases h');rfl
def gC(h:RL.eqD n x y=some k):(∃ i j,x=.bl i/\y=.bl j/\(i == j)=k)\/(∃ i j,x=.int i/\y=.int j/\(i == j)=k)\/(∃ i j,x=.str i/\y=.str j/\(i == j)=k) \/
  (∃ m i j,n=m+1/\x=.tup i/\y=.tup j/\Option.map (fun k=>k&&i.length == j.length) (RL.eqs (RL.eqD m) i j)=some k)\/(∃ m i j,n=m+1/\LF x i/\LF y j/\Option.map (fun k=>k&&i.length == j.length) (RL.eqs (RL.eqD m) i j)=some k):=by
 cases n with
 | zero=>cases x with
  | bl i=>cases y with
   | bl j=>exact .inl #[i,j,rfl,rfl,Option.some.inj h]
   | _=>exact noN rfl h
  | int i=>cases y with
   | int j=>exact .inr (.inl #[i,j,rfl,rfl,Option.some.inj h])
   | _=>exact noN rfl h
  | str i=>cases y with
   | str j=>exact .inr (.inr (.inl #[i,j,rfl,rfl,Option.some.inj h]))
   | _=>exact noN rfl h
  | _=>exact noN rfl h
 | succ m=>cases x with
  | bl i=>cases y with
   | bl j=>exact .inl #[i,j,rfl,rfl,Option.some.inj h]
   | _=>exact noN rfl h
  | int i=>cases y with
   | int j=>exact .inr (.inl #[i,j,rfl,rfl,Option.some.inj h])
   | _=>exact noN rfl h
  | str i=>cases y with
   | str j=>exact .inr (.inr (.inl #[i,j,rfl,rfl,Option.some.inj h]))
   | _=>exact noN rfl h
  | tup i=>cases y with
   | tup j=>exact .inr (.inr (.inr (.inl #[m,i,j,rfl,rfl,rfl,h])))
   | _=>exact noN rfl h
  | lst i=>cases y with
   | lst j=>exact .inr (.inr (.inr (.inr #[m,i,j,rfl,.inl rfl,.inl rfl,h])))
   | fL j=>exact .inr (.inr (.inr (.inr #[m,i,j,rfl,.inl rfl,.inr rfl,h])))
   | _=>exact noN rfl h
  | fL i=>cases y with
   | lst j=>exact .inr (.inr (.inr (.inr #[m,i,j,rfl,.inr rfl,.inl rfl,h])))
   | fL j=>exact .inr (.inr (.inr (.inr #[m,i,j,rfl,.inr rfl,.inr rfl,h])))
   | _=>exact noN rfl h
  | _=>exact noN rfl h
def qq{K:W.Frag}:∀ (n:Nat) (x y:RL.D) (v:V) (k:Bool),Rep nP K H x v->Rep nP K H y v->RL.eqD n x y=some k->k=true:=by
 intro n
 induction n with
 |zero=>
  intro x y v k rx ry h
  rcases gC h with⟨i,j,rfl,rfl,rfl⟩ | ⟨i,j,rfl,rfl,rfl⟩ | ⟨i,j,rfl,rfl,rfl⟩ | ⟨m,i,j,hn,hx,hy,h⟩ | ⟨m,i,j,hn,hx,hy,h⟩
  ·have:=bh rx;rw[bh ry]at this;cases this;simp
  ·have:=ak rx;rw[ak ry]at this;cases this;simp
  ·have:=aQ rx;rw[aQ ry]at this;cases this;simp
  ·cases hn
  ·cases hn
 |succ n ih=>
  intro x y v k rx ry h
  have seq:∀ (i j:List RL.D) (xs:List V) (k:Bool),ae nP K H i xs->ae nP K H j xs->Option.map (fun k=>k&&i.length == j.length) (RL.eqs (RL.eqD n) i j)=some k->k=true:=by
   intro i j xs k e3 f3 h;obtain⟨k',h1,h2⟩:=map_some h;obtain⟨e,h3,h4⟩:=hJ h1;have hl:i.length=j.length:=e3.length.trans f3.length.symm
   have hk:k'=true:=by
    rw[h3,Zf];intro m hm;rw[List.mem_range]at hm;obtain⟨w,w1,w2⟩:=e3.get (i:=m) (d:=i[m]'⋯) (by simp);obtain⟨w',w1',w2'⟩:=f3.get (i:=m) (d:=j[m]'⋯) (by simp);rw[w1]at w1';cases w1';exact ih _ _ w (e m) w2 w2' (h4 m _ _ (by simp) (by simp))
   rw[<-h2,hk,hl];simp
  rcases gC h with⟨i,j,rfl,rfl,rfl⟩ | ⟨i,j,rfl,rfl,rfl⟩ | ⟨i,j,rfl,rfl,rfl⟩ | ⟨m,i,j,hn,hx,hy,h⟩ | ⟨m,i,j,hn,hx,hy,h⟩
  ·have:=bh rx;rw[bh ry]at this;cases this;simp
  ·have:=ak rx;rw[ak ry]at this;cases this;simp
  ·have:=aQ rx;rw[aQ ry]at this;cases this;simp
  ·cases hn;subst hx;subst hy;obtain⟨p,xs,rfl,e2,e3⟩:=bo rx;obtain⟨q,ys,q1,f2,f3⟩:=bo ry;cases q1;rw[e2]at f2;cases f2;exact seq i j xs k e3 f3 h
  ·cases hn;obtain⟨p,xs,rfl,e2,e3⟩:=jL rx hx;obtain⟨q,ys,q1,f2,f3⟩:=jL ry hy;cases q1;cases E2 e2 f2;exact seq i j xs k e3 f3 h
open SeqAt in
def deep(I:Inv X pins Y H s):∀ (n:Nat) (A:Around) (x y:RL.D) (v u:V) (va ua:Value) (k:Bool),A.units+n<cLine->Rep nP X.K H x v->Rep nP X.K H y u->RelV v va->RelV u ua ->
  RL.eqD n x y=some k->RcAt A s va ua k/\EqAt A s va ua k:=by
 intro n
 induction n with
 |zero=>
  intro A x y v u va ua k hu rx ry qx qy h
  rcases gC h with⟨i,j,rfl,rfl,rfl⟩ | ⟨i,j,rfl,rfl,rfl⟩ | ⟨i,j,rfl,rfl,rfl⟩ | ⟨m,i,j,hn,hx,hy,h⟩ | ⟨m,i,j,hn,hx,hy,h⟩
  ·rw[bh rx]at qx;rw[bh ry]at qy;cases qx;cases qy;exact#[RcAt.bool_bool i j,EqAt.bool_bool i j]
  ·rw[ak rx]at qx;rw[ak ry]at qy;obtain⟨t,rfl⟩:=qx;obtain⟨t',rfl⟩:=qy;exact#[RcAt.int_int i t j t',EqAt.int_int i t j t']
  ·rw[aQ rx]at qx;rw[aQ ry]at qy;obtain⟨t,rfl⟩:=qx;obtain⟨t',rfl⟩:=qy;exact#[RcAt.str_str i t j t',EqAt.str_str i t j t']
  ·cases hn
  ·cases hn
 |succ n ih=>
  intro A x y v u va ua k hu rx ry qx qy h
  rcases gC h with⟨i,j,rfl,rfl,rfl⟩ | ⟨i,j,rfl,rfl,rfl⟩ | ⟨i,j,rfl,rfl,rfl⟩ | ⟨m,i,j,hn,hx,hy,h⟩ | ⟨m,i,j,hn,hx,hy,h⟩
  ·rw[bh rx]at qx;rw[bh ry]at qy;cases qx;cases qy;exact#[RcAt.bool_bool i j,EqAt.bool_bool i j]
  ·rw[ak rx]at qx;rw[ak ry]at qy;obtain⟨t,rfl⟩:=qx;obtain⟨t',rfl⟩:=qy;exact#[RcAt.int_int i t j t',EqAt.int_int i t j t']
  ·rw[aQ rx]at qx;rw[aQ ry]at qy;obtain⟨t,rfl⟩:=qx;obtain⟨t',rfl⟩:=qy;exact#[RcAt.str_str i t j t',EqAt.str_str i t j t']
  ·cases hn;subst hx;subst hy;obtain⟨p,xs,rfl,e2,e3⟩:=bo rx;obtain⟨q,ys,rfl,f2,f3⟩:=bo ry;cases qx;cases qy;obtain⟨its,r1,t1,z1⟩:=I.tuple (SqT.of e2);obtain⟨jts,r2,t2,z2⟩:=I.tuple (SqT.of f2);obtain⟨k',h1,h2⟩:=map_some h;obtain⟨e,h3,h4⟩:=hJ h1;have l1:i.length=its.length:=e3.length.trans r1.length;have l2:j.length=jts.length:=f3.length.trans r2.length
   have he:∀ m (g1:m<its.toArray.size) (g2:m<jts.toArray.size),EqAt A.in1 s its.toArray[m] jts.toArray[m] (e m):=fun m g1 g2=>by
    rw[List.size_toArray]at g1 g2;obtain⟨w,w1,w2⟩:=e3.get (i:=m) (d:=i[m]'⋯) (by simp);obtain⟨w',w1',w2'⟩:=f3.get (i:=m) (d:=j[m]'⋯) (by simp);obtain⟨uu,b1,b2⟩:=r1.get w1;obtain⟨uu',b1',b2'⟩:=r2.get w1'
    have c1:its.toArray[m]=uu:=by simpa using(List.getElem?_eq_some_iff.mp b1).2
    have c2:jts.toArray[m]=uu':=by simpa using(List.getElem?_eq_some_iff.mp b1').2
    rw[c1,c2];exact(ih A.in1 _ _ w w' uu uu' (e m) (by show A.units+1+n<cLine;lia) w2 w2' b2 b2' (h4 m _ _ (by simp) (by simp))).2
   have main:RcAt A s (.ref p) (.ref q) k:=by
    have z:=RcAt.tuples (e:=e) t1 t2 ⋯ he;rw[List.size_toArray,List.size_toArray,<-l1,<-l2,<-h3,h2]at z;exact z
   refine#[main,?_];by_cases z:p=q
   ·subst z;rw[qq (n+1) _ _ _ k rx ry h];exact EqAt.same _
   ·exact EqAt.of_refs z main
  ·cases hn;obtain⟨p,xs,rfl,e2,e3⟩:=jL rx hx;obtain⟨q,ys,rfl,f2,f3⟩:=jL ry hy;cases qx;cases qy;obtain⟨its,r1,t1,z1⟩:=I.list (.inl e2);obtain⟨jts,r2,t2,z2⟩:=I.list (.inl f2);obtain⟨k',h1,h2⟩:=map_some h;obtain⟨e,h3,h4⟩:=hJ h1;have l1:i.length=its.length:=e3.length.trans r1.length;have l2:j.length=jts.length:=f3.length.trans r2.length
   have he:∀ m (g1:m<its.toArray.size) (g2:m<jts.toArray.size),EqAt A.in1 s its.toArray[m] jts.toArray[m] (e m):=fun m g1 g2=>by
    rw[List.size_toArray]at g1 g2;obtain⟨w,w1,w2⟩:=e3.get (i:=m) (d:=i[m]'⋯) (by simp);obtain⟨w',w1',w2'⟩:=f3.get (i:=m) (d:=j[m]'⋯) (by simp);obtain⟨uu,b1,b2⟩:=r1.get w1;obtain⟨uu',b1',b2'⟩:=r2.get w1'
    have c1:its.toArray[m]=uu:=by simpa using(List.getElem?_eq_some_iff.mp b1).2
    have c2:jts.toArray[m]=uu':=by simpa using(List.getElem?_eq_some_iff.mp b1').2
    rw[c1,c2];exact(ih A.in1 _ _ w w' uu uu' (e m) (by show A.units+1+n<cLine;lia) w2 w2' b2 b2' (h4 m _ _ (by simp) (by simp))).2
   have main:RcAt A s (.ref p) (.ref q) k:=by
    by_cases hl:its.length=jts.length
    ·have z:=RcAt.lists (e:=e) t1.isList t2.isList (by rw[List.size_toArray,List.size_toArray];exact hl) ⋯ he;rw[List.size_toArray]at z
     have hk:k=(List.range its.length).all e:=by
      rw[<-h2,h3,l1,l2,hl];simp
     rw[hk];exact z
    ·have hk:k=false:=by
      rw[<-h2,l1,l2];simp[hl]
     rw[hk];exact RcAt.lists_lengths t1.isList t2.isList (by rw[List.size_toArray,List.size_toArray];simpa using hl) ⋯
   refine#[main,?_];by_cases z:p=q
   ·subst z;rw[qq (n+1) _ _ _ k rx ry (by assumption)];exact EqAt.same _
   ·exact EqAt.of_refs z main
end rules
section rules
variable{X:Cx}
open SeqAt in
def Hb(I:Inv X pins Y H s)(n:Nat)(A:Around)(x y:RL.D)(v u:V)(va ua:Value)(k:Bool)(hu:A.units+n<cLine)(rx:Rep nP X.K H x v)(ry:Rep nP X.K H y u)(qx:RelV v va)(qy:RelV u ua)
 (h:RL.eqD n x y=some k):RcNeAt A s va ua (!k):=by
 rcases gC h with⟨i,j,rfl,rfl,rfl⟩ | ⟨i,j,rfl,rfl,rfl⟩ | ⟨i,j,rfl,rfl,rfl⟩ | ⟨nn,i,j,hn,hx,hy,h⟩ | ⟨nn,i,j,hn,hx,hy,h5⟩
 ·rw[bh rx]at qx;rw[bh ry]at qy;cases qx;cases qy;exact RcNeAt.bool_bool i j
 ·rw[ak rx]at qx;rw[ak ry]at qy;obtain⟨t,rfl⟩:=qx;obtain⟨t',rfl⟩:=qy;exact RcNeAt.int_int i t j t'
 ·rw[aQ rx]at qx;rw[aQ ry]at qy;obtain⟨t,rfl⟩:=qx;obtain⟨t',rfl⟩:=qy;exact RcNeAt.str_str i t j t'
 ·subst hn;subst hx;subst hy;obtain⟨p,xs,rfl,e2,e3⟩:=bo rx;obtain⟨q,ys,rfl,f2,f3⟩:=bo ry;cases qx;cases qy;obtain⟨its,r1,t1,z1⟩:=I.tuple (SqT.of e2);obtain⟨jts,r2,t2,z2⟩:=I.tuple (SqT.of f2);obtain⟨k',h1,h2⟩:=map_some h;obtain⟨e,h3,h4⟩:=hJ h1;have l1:i.length=its.length:=e3.length.trans r1.length;have l2:j.length=jts.length:=f3.length.trans r2.length
  have he:∀ m (g1:m<its.toArray.size) (g2:m<jts.toArray.size),EqAt A.in1 s its.toArray[m] jts.toArray[m] (e m):=fun m g1 g2=>by
   rw[List.size_toArray]at g1 g2;obtain⟨w,w1,w2⟩:=e3.get (i:=m) (d:=i[m]'⋯) (by simp);obtain⟨w',w1',w2'⟩:=f3.get (i:=m) (d:=j[m]'⋯) (by simp);obtain⟨uu,b1,b2⟩:=r1.get w1;obtain⟨uu',b1',b2'⟩:=r2.get w1'
   have c1:its.toArray[m]=uu:=by simpa using(List.getElem?_eq_some_iff.mp b1).2
   have c2:jts.toArray[m]=uu':=by simpa using(List.getElem?_eq_some_iff.mp b1').2
   rw[c1,c2];exact(deep I nn A.in1 _ _ w w' uu uu' (e m) (by show A.units+1+nn<cLine;lia) w2 w2' b2 b2' (h4 m _ _ (by simp) (by simp))).2
  have z:=RcNeAt.tuples (e:=e) t1 t2 ⋯ he;rw[List.size_toArray,List.size_toArray,<-l1,<-l2,<-h3,h2]at z;exact z
 ·subst hn;obtain⟨p,xs,rfl,e2,e3⟩:=jL rx hx;obtain⟨q,ys,rfl,f2,f3⟩:=jL ry hy;cases qx;cases qy;obtain⟨its,r1,t1,z1⟩:=I.list (.inl e2);obtain⟨jts,r2,t2,z2⟩:=I.list (.inl f2);obtain⟨k',h1,h2⟩:=map_some h5;obtain⟨e,h3,h4⟩:=hJ h1;have l1:i.length=its.length:=e3.length.trans r1.length;have l2:j.length=jts.length:=f3.length.trans r2.length
  have he:∀ m (g1:m<its.toArray.size) (g2:m<jts.toArray.size),EqAt A.in1 s its.toArray[m] jts.toArray[m] (e m):=fun m g1 g2=>by
   rw[List.size_toArray]at g1 g2;obtain⟨w,w1,w2⟩:=e3.get (i:=m) (d:=i[m]'⋯) (by simp);obtain⟨w',w1',w2'⟩:=f3.get (i:=m) (d:=j[m]'⋯) (by simp);obtain⟨uu,b1,b2⟩:=r1.get w1;obtain⟨uu',b1',b2'⟩:=r2.get w1'
   have c1:its.toArray[m]=uu:=by simpa using(List.getElem?_eq_some_iff.mp b1).2
   have c2:jts.toArray[m]=uu':=by simpa using(List.getElem?_eq_some_iff.mp b1').2
   rw[c1,c2];exact(deep I nn A.in1 _ _ w w' uu uu' (e m) (by show A.units+1+nn<cLine;lia) w2 w2' b2 b2' (h4 m _ _ (by simp) (by simp))).2
  by_cases hl:its.length=jts.length
  ·have z:=RcNeAt.lists (e:=e) t1.isList t2.isList (by rw[List.size_toArray,List.size_toArray];exact hl) ⋯ he;rw[List.size_toArray]at z
   have hk:k=(List.range its.length).all e:=by
    rw[<-h2,h3,l1,l2,hl];simp
   rw[hk];exact z
  ·have hk:k=false:=by
    rw[<-h2,l1,l2];simp[hl]
   rw[hk];exact RcNeAt.lists_lengths t1.isList t2.isList (by rw[List.size_toArray,List.size_toArray];simpa using hl) ⋯
abbrev dO:RL.Cop->CmpOp
 | .lt=>.Lt
 | .le=>.LtE
 | .gt=>.Gt
 | .ge=>.GtE
 | .eq=>.Eq
 | .ne=>.NotEq
abbrev xj(K:W.Frag)(c:RL.Cop):R2:=fun v u H Q=>∃ x y k,Rep nP K H x v/\Rep nP K H y u/\RL.ba c x y=some k/\Q (.bl k) H
def jV{c:RL.Cop}(hc:c≠.eq)(hc2:c≠.ne)(h:RL.ba c x y=some k):∃ i j,x=.int i/\y=.int j:=by
 have no:∀ {a b:RL.D},RL.ba .lt a b=none->RL.ba .le a b=none->RL.ba .gt a b=none->RL.ba .ge a b=none->RL.ba c a b=some k->False:=fun e1 e2 e3 e4 h=>by
  cases c with
  | eq=>exact hc rfl
  | ne=>exact hc2 rfl
  | lt=>rw[e1]at h;cases h
  | le=>rw[e2]at h;cases h
  | gt=>rw[e3]at h;cases h
  | ge=>rw[e4]at h;cases h
 cases x with
 | int i=>cases y with
  | int j=>exact#[_,_,rfl,rfl]
  | _=>exact(no rfl rfl rfl rfl h).elim
 | _=>exact(no rfl rfl rfl rfl h).elim
def jR{c:RL.Cop}(hu:X.A.units+100<cLine):OpR X (compareOp (dO c)) (xj X.K c):=by
 intro pins s Y H x y v u Q I rx ry h;obtain⟨dx,dy,k,ex,ey,e,q⟩:=h
 have fin:EP X pins Y Q (.bool k) s:=#[.bl k,H,I,rfl,q]
 cases c with
 |eq=>
  have e:RL.eqD 8 dx dy=some k:=e;exact(deep I 8 X.A dx dy x y v u k ⋯ ex ey rx ry e).1 X.prog X.w X.xe _ fin
 |ne=>
  obtain⟨k',e1,e2⟩:=map_some (show(RL.eqD 8 dx dy).map not=some k from e);subst e2;exact Hb I 8 X.A dx dy x y v u k' ⋯ ex ey rx ry e1 X.prog X.w X.xe _ fin
 |lt=>
  obtain⟨i,j,rfl,rfl⟩:=jV ∅ ∅ e;cases e;rw[ak ex]at rx;rw[ak ey]at ry;obtain⟨t,rfl⟩:=rx;obtain⟨t',rfl⟩:=ry;exact lt_int fin
 |le=>
  obtain⟨i,j,rfl,rfl⟩:=jV ∅ ∅ e;cases e;rw[ak ex]at rx;rw[ak ey]at ry;obtain⟨t,rfl⟩:=rx;obtain⟨t',rfl⟩:=ry;exact le_int fin
 |gt=>
  obtain⟨i,j,rfl,rfl⟩:=jV ∅ ∅ e;cases e;rw[ak ex]at rx;rw[ak ey]at ry;obtain⟨t,rfl⟩:=rx;obtain⟨t',rfl⟩:=ry;exact gt_int fin
 |ge=>
  obtain⟨i,j,rfl,rfl⟩:=jV ∅ ∅ e;cases e;rw[ak ex]at rx;rw[ak ey]at ry;obtain⟨t,rfl⟩:=rx;obtain⟨t',rfl⟩:=ry;exact ge_int fin
def kh{c:RL.Cop}(b:Expr):behindInMarks (dO c) b=false:=by cases c<;>exact sD b ∅ ∅
def yt{c:RL.Cop}(h:∃ Zy d,RV0 X.K Zy Y H/\RL.ev cl Zy (.cmp c a' b')=some d/\∀ H',a6 H H'->∃ k,d=.bl k/\Q (.bl k) H'):tOp (xj X.K c) (tE X.K cl a') (tE X.K cl b') Y H Q:=by
 fin2;k_in;obtain⟨y,eb,e⟩:=bind_some e;obtain⟨t,e1,e2⟩:=map_some e;refine two rv ea eb fun v u H1 H2 s1 s2 rx ry _ _=>?_;obtain⟨k',h1,h2⟩:=k H2 (s1.trans s2);rw[h1]at e2;cases e2;exact#[x,y,t,rx,ry,e1,h2]
def qk{c:RL.Cop}(e:RL.ev cl Zy (.cmp c a' b')=some d):∃ k,d=.bl k:=by
 k_in;obtain⟨y,eb,e⟩:=bind_some e;obtain⟨t,e1,e2⟩:=map_some e;exact#[t,e2.symm]
def EF{c:RL.Cop}(hu:X.A.units+100<cLine)(ha:SE X cl a a')(hb:SE X cl b b'):SE X cl (.Compare a [dO c] [b] pos) (.cmp c a' b'):=by
 refine PE.weak (pO (jR hu) ha hb (kh b)) fun Y H Q h=>?_;fin2;obtain⟨t,rfl⟩:=qk e;exact yt ⟨Zy,_,rv,e,fun H' sm=>#[t,rfl,k _ _ (eD sm)]⟩
def FA{c:RL.Cop}(hu:X.A.units+100<cLine)(ha:SE X cl a a')(hb:SE X cl b b'):ST X cl (.Compare a [dO c] [b] pos) (.cmp c a' b'):=by
 refine PT.weak (ma (jR hu) ha hb (kh b)) fun Y H Q h=>?_;obtain⟨Zy,k,rv,e,q⟩:=h;obtain⟨d,e1,e2⟩:=bind_some e;obtain⟨t,rfl⟩:=qk e1;cases e2;exact yt ⟨Zy,_,rv,e1,fun H' sm=>#[k,rfl,k,rfl,q H' sm]⟩
def BR{c c':RL.Cop}(b e:Expr):lastMarks [dO c,dO c'] [b,e]=false:=by
 show behindInMarks (dO c') e=false;exact kh e
def m7{c c':RL.Cop}(h:RL.ev cl Zy (.chain c c' a' b' e')=some d):∃ k,d=.bl k:=by
 obtain⟨x,ea,h⟩:=bind_some h;obtain⟨y,eb,h⟩:=bind_some h;obtain⟨t,e1,h⟩:=bind_some h
 cases t with
 |true=>
  obtain⟨z,ec,h⟩:=bind_some (show(RL.ev cl Zy e').bind _=some d from h);obtain⟨t,e1,e2⟩:=map_some h;exact#[t,e2.symm]
 | false=>exact#[false,(Option.some.inj (show some (RL.D.bl false)=some d from h)).symm]
def sV{c c':RL.Cop}(h:∃ Zy k,RV0 X.K Zy Y H/\RL.ev cl Zy (.chain c c' a' b' e')=some (.bl k)/\∀ H',a6 H H'->Q (.bl k) H') :
  uj (xj X.K c) (xj X.K c') (tE X.K cl a') (tE X.K cl b') (tE X.K cl e') Y H Q:=by
 obtain⟨Zy,k,rv,h,q⟩:=h;obtain⟨x,ea,h⟩:=bind_some h;obtain⟨y,eb,h⟩:=bind_some h;obtain⟨t,e1,h⟩:=bind_some h;refine two rv ea eb fun v u H1 H2 s1 s2 rx ry _ _=>?_;refine#[x,y,t,rx,ry,e1,t,rfl,?_];have sm:=s1.trans s2
 cases t with
 |true=>
  rw[if_pos rfl]at h;obtain⟨z,ec,h⟩:=bind_some h;obtain⟨t,e3,e2⟩:=map_some h;cases e2;exact fZ ⟨Zy,z,rv.same sm,ec,fun w H3 r3=>#[y,z,k,ry.same r3.same,r3.rep,e3,q H3 (sm.trans r3.same)]⟩
 |false=>
  rw[if_neg ∅]at h;cases h;exact gH (q H2 sm)
def Ba{c c':RL.Cop}(hu:X.A.units+100<cLine)(ha:SE X cl a a')(hb:SE X cl b b')(he:SE X cl e e'):SE X cl (.Compare a [dO c,dO c'] [b,e] pos) (.chain c c' a' b' e'):=by
 refine PE.weak (Af (jR hu) (jR hu) ha hb he (BR b e)) fun Y H Q h=>?_;obtain⟨Zy,d,rv,h,k⟩:=h;obtain⟨t,rfl⟩:=m7 h;exact sV ⟨Zy,t,rv,h,fun H' sm=>k _ _ (eD sm)⟩
def Au{c c':RL.Cop}(hu:X.A.units+100<cLine)(ha:SE X cl a a')(hb:SE X cl b b')(he:SE X cl e e'):ST X cl (.Compare a [dO c,dO c'] [b,e] pos) (.chain c c' a' b' e'):=by
 refine PT.weak (Am (jR hu) (jR hu) ha hb he (BR b e)) fun Y H Q h=>?_;obtain⟨Zy,k,rv,h,q⟩:=h;obtain⟨d,e1,e2⟩:=bind_some h;obtain⟨t,rfl⟩:=m7 e1;cases e2;exact sV ⟨Zy,k,rv,e1,fun H' sm=>#[k,rfl,q H' sm]⟩
end rules
section rules
variable{X:Cx}
def pV{neg:Bool}(b:Expr):behindInMarks (if neg then .IsNot else .Is) b=false:=by cases neg<;>exact sD b ∅ ∅
def uK{neg:Bool}:OpR X (compareOp (if neg then .IsNot else .Is)) (fun x y H Q=>y=.non/\Q (.bl (if neg then !decide (x=.non)else decide (x=.non))) H):=by
 cases neg with
 | true=>exact Di
 | false=>exact FP
def xW(h:RL.ev cl Zy (.isN neg a')=some d):∃ x,RL.ev cl Zy a'=some x/\∀ v (H:Hp),Rep nP X.K H x v->d=.bl (if neg then !decide (v=.non)else decide (v=.non)):=by
 obtain⟨x,ea,h⟩:=bind_some h;refine#[x,ea,fun v H r=>?_]
 cases x with
 | non=>cases h;rw[Rep]at r;subst r;cases neg<;>rfl
 | bl k=>cases h;rw[bh r];cases neg<;>rfl
 | int k=>cases h;rw[ak r];cases neg<;>rfl
 | str k=>cases h;rw[aQ r];cases neg<;>rfl
 | tup k=>cases h;obtain⟨p,xs,rfl,_⟩:=bo r;cases neg<;>rfl
 | lst k=>cases h;obtain⟨p,xs,rfl,_⟩:=aE r;cases neg<;>rfl
 | scr k=>cases h;rw[Rep]at r;obtain⟨p,xs,rfl,_⟩:=r;cases neg<;>rfl
 | exc k=>cases h;rw[Rep]at r;obtain⟨p,_,_,_,_,rfl,_⟩:=r;cases neg<;>rfl
 | obj=>cases h;rw[Rep]at r;obtain⟨p,rfl⟩:=r;cases neg<;>rfl
 | dK _ _=>cases h
 | dT _ _=>cases h
 | fT _ _=>cases h
 | fL k=>cases h;rw[Rep]at r;obtain⟨p,o,xs,rfl,_⟩:=r;cases neg<;>rfl
def HC(ha:SE X cl a a'):SE X cl (.Compare a [if neg then .IsNot else .Is] [.Constant .none j p] pos) (.isN neg a'):=by
 refine PE.weak (pO uK ha qY (pV _)) fun Y H Q h=>?_;obtain⟨Zy,d,rv,e,q⟩:=h;obtain⟨x,ea,hx⟩:=xW (X:=X) e;refine#[Zy,_,rv,ea,fun v H1 r1=>#[rfl,?_]];have hd:=hx v H1 r1.rep;subst hd;exact q _ _ (eD r1.same)
def EM(ha:SE X cl a a'):ST X cl (.Compare a [if neg then .IsNot else .Is] [.Constant .none j p] pos) (.isN neg a'):=by
 refine PT.weak (ma uK ha qY (pV _)) fun Y H Q h=>?_;obtain⟨Zy,k,rv,e,q⟩:=h;obtain⟨d,e1,e2⟩:=bind_some e;obtain⟨x,ea,hx⟩:=xW (X:=X) e1;refine#[Zy,_,rv,ea,fun v H1 r1=>#[rfl,?_]];have hd:=hx v H1 r1.rep;subst hd;cases e2;exact#[_,rfl,q _ r1.same]
def eP{P:Addr->Prop}{K:W.Frag}(h:RL.items d=some ds)(r:Rep P K H d v):∃ p xs,v=.ref p/\((H p=some (.lst xs)/\d=.lst ds)\/(H p=some (.tup xs)/\d=.tup ds)\/((∃ o,H p=some (.frz o (.lst xs)))/\d=.fL ds))/\ae P K H ds xs:=by
 cases d<;>simp only[RL.items]at h<;>first | (cases h;done) | skip
 case lst ys=>cases h;obtain⟨p,xs,e1,_,e2,e3⟩:=aE r;exact#[p,xs,e1,.inl #[e2,rfl],e3]
 case tup ys=>cases h;obtain⟨p,xs,e1,e2,e3⟩:=bo r;exact#[p,xs,e1,.inr (.inl #[e2,rfl]),e3]
 case fL ys=>cases h;rw[Rep]at r;obtain⟨p,o,xs,e1,e2,e3⟩:=r;exact#[p,xs,e1,.inr (.inr #[#[o,e2],rfl]),e3]
def v8{P:Addr->Prop}{K:W.Frag}(h:RL.flat d=true)(r:Rep P K H d v):gh v=true/\∀ d' v',RL.flat d'=true->Rep P K H d' v'->RL.eqF d d'=eqV v v':=by
 cases d<;>simp only[RL.flat]at h<;>first | (cases h;done) | skip
 case int i =>
  rw[ak r];refine#[rfl,fun d' v' h' r'=>?_]
  cases d'<;>simp only[RL.flat]at h'<;>first | (cases h';done) | skip
  case int j=>rw[ak r'];simp[RL.eqF,eqV]
  case str j=>rw[aQ r'];simp[RL.eqF,eqV]
 case str i =>
  rw[aQ r];refine#[rfl,fun d' v' h' r'=>?_]
  cases d'<;>simp only[RL.flat]at h'<;>first | (cases h';done) | skip
  case int j=>rw[ak r'];simp[RL.eqF,eqV]
  case str j=>rw[aQ r'];simp[RL.eqF,eqV]
def sJ{P:Addr->Prop}{K:W.Frag}(hf:RL.flat d=true)(r:Rep P K H d v):∀ {ds:List RL.D} {xs:List V},ds.all RL.flat=true->ae P K H ds xs->xs.all gh=true/\(ds.any fun x=>RL.eqF x d)=inV v xs
 | [],xs,_,h=>by rw[ae]at h;subst h;exact#[rfl,rfl]
 | e::t,xs,ha,h=>by
  rw[ae]at h;obtain⟨x,ys,rfl,e2,e3⟩:=h;rw[Zo,Bool.and_eq_true]at ha;obtain⟨h1,h2⟩:=sJ hf r ha.2 e3;obtain⟨h3,h4⟩:=v8 ha.1 e2;refine#[by rw[Zo,h3,h1];rfl,?_];rw[Zs,h2,h4 d v hf r];rfl
def yn:OpR X (compareOp (if neg then .NotIn else .In)) (rIn X.K neg):=by
 cases neg with
 | true=>exact tJ
 | false=>exact yY
def yR(rv:RV0 X.K Zy Y H)(e:RL.ev cl Zy (.inn neg a' b')=some d)(k:∀ t H',d=.bl t->a6 H H'->Q (.bl t) H'):tOp (rIn X.K neg) (tE X.K cl a') (tE X.K cl b') Y H Q:=by
 k_in;obtain⟨y,eb,e⟩:=bind_some e;obtain⟨t,e1,e2⟩:=map_some e;unfold RL.inV at e1;obtain⟨ds,e3,e4⟩:=bind_some e1;by_cases hc:(RL.flat x&&ds.all RL.flat)=true
 ·rw[if_pos hc]at e4;cases e4;rw[Bool.and_eq_true]at hc;refine two rv ea eb fun v u H1 H2 s1 s2 rx ry _ _=>?_;obtain⟨p,xs,rfl,hp,rs⟩:=eP e3 ry;obtain⟨h1,h2⟩:=sJ hc.1 rx hc.2 rs;refine#[p,xs,rfl,?_,(v8 hc.1 rx).1,h1,?_]
  ·rcases hp with⟨z,_⟩ | ⟨z,_⟩ | ⟨⟨o,z⟩,_⟩
   ·exact .inl (SqL.of z)
   ·exact .inr (SqT.of z)
   ·exact .inl (.inl (.inr #[o,z]))
  ·refine k _ _ ?_ (s1.trans s2);rw[<-e2,h2]
 ·rw[if_neg hc]at e4;cases e4
abbrev mU:Expr->Bool
 | .Set _ _ _=>false
 | _=>true
def je(h:mU b=true):behindInMarks op b=false:=by
 cases b<;>first | rfl | (cases h)
def EL(ha:SE X cl a a')(hb:SE X cl b b')(hm:mU b=true):SE X cl (.Compare a [if neg then .NotIn else .In] [b] pos) (.inn neg a' b'):=by
 refine PE.weak (pO yn ha hb (je hm)) fun Y H Q h=>?_;obtain⟨Zy,d,rv,e,q⟩:=h
 exact yR rv e fun t H' hd sm=>by subst hd;exact q _ _ (eD sm)
def ED(ha:SE X cl a a')(hb:SE X cl b b')(hm:mU b=true):ST X cl (.Compare a [if neg then .NotIn else .In] [b] pos) (.inn neg a' b'):=by
 refine PT.weak (ma yn ha hb (je hm)) fun Y H Q h=>?_;obtain⟨Zy,k,rv,e,q⟩:=h;obtain⟨d,e1,e2⟩:=bind_some e;refine yR rv e1 fun t H' hd sm=>?_;subst hd;cases e2;exact#[_,rfl,q _ sm]
abbrev spF(K:W.Frag)(cl:RL.Cl)(f:Nat):Sp:=fun vs H Q _=>∃ ds d,ae nP K H ds vs/\cl f ds=some d/\∀ v H',a6 H H'->Rep (fun p=>H p≠none) K H' d v->Q v H'
def CB(F:j4 X.prog X.w X.K X.mg X.base CX0 k fa fd ps (spF X.K cl f))(hr:eU k X.A)(hg:Gl X x)
 (hm:X.mg x=some (.ref fa))(hk:W.keepIn X.K (.ref fa)=true)(hb:Binds X.K fd ps [])(he:SEs X cl (e::es) %[e'|es'])(hdb:(x == ("__debug__" : Str))=false)(hn:noStar e=true)(hns:es.all noStar=true) :
  SE X cl (.Call (.Name x p) (e::es) [] pos) (.call f %[e'|es']):=by
 refine PE.weak (vt F hr hg hm hk hb .nil BO he hdb (a8 es hn) (dZ hns)) fun Y H Q h=>?_;obtain⟨Zy,d,rv,ev,q⟩:=h;obtain⟨ds,e1,e2⟩:=bind_some ev;refine#[Zy,ds,rv,e1,fun vs H1 s1 r1=>?_];show spF X.K cl f (vs++[]) H1 Q E0;rw[Ze];refine#[ds,d,r1,e2,fun v H2 s2 r2=>q v H2 #[s1.trans s2,r2.none,fun _ m a z=>?_,fun M _ P hP _=>?_]]
 ·subst z
  have hh:H1 a=none:=by
   cases d with
   | lst ds=>obtain⟨p,xs,e1,e2,_⟩:=aE r2;cases e1;exact Classical.byContradiction e2
   | dK ks ds=>rw[Rep]at r2;obtain⟨p,xs,e1,e2,_⟩:=r2;cases e1;exact Classical.byContradiction e2
   | dT ks ds=>rw[Rep]at r2;obtain⟨p,xs,e1,e2,_⟩:=r2;cases e1;exact Classical.byContradiction e2
   | _=>cases m
  exact s1.free hh
 ·refine r2.weak fun a z=>?_;obtain⟨o,ho⟩:=Option.ne_none_iff_exists'.mp (hP a z);rw[s1 _ _ ho]
  exact fun q=>nomatch q
end rules
abbrev Off(P:Addr->Prop)(H H':Hp):Prop:=∀ b o,¬ P b->H b=some o->H' b=some o
def Off.same{H H':Hp}(h:a6 H H'){P:Addr->Prop}:Off P H H':=fun b o _ e=>h b o e
mutual
theorem Rep.off{P:Addr->Prop}{K:W.Frag}{H H':Hp}(hm:∀ b o,P b->H b=some o->cS o)(k:Off P H H'):∀ {d:RL.D} {v:V},Rep P K H d v->Rep P K H' d v
 | .non,v,h=>by simpa[Rep]using h
 | .bl _,v,h=>by simpa[Rep]using h
 | .int _,v,h=>by simpa[Rep]using h
 | .str _,v,h=>by simpa[Rep]using h
 | .tup ds,v,h=>by
  rw[Rep]at h ⊢;obtain⟨b,xs,e1,e2,e3⟩:=h
  have n:¬ P b:=fun p=>by rcases hm b _ p e2 with⟨z,q⟩ | ⟨z,q⟩ | ⟨z,q⟩<;>cases q
  exact#[b,xs,e1,k _ _ n e2,ae.off hm k e3]
 | .lst ds,v,h=>by
  rw[Rep]at h ⊢;obtain⟨b,xs,e1,e0,e2,e3⟩:=h;exact#[b,xs,e1,e0,k _ _ e0 e2,ae.off hm k e3]
 | .dK ks ds,v,h=>by
  rw[Rep]at h ⊢;obtain⟨b,xs,e1,e0,e2,el,e3⟩:=h;exact#[b,xs,e1,e0,k _ _ e0 e2,el,ae.off hm k e3]
 | .dT ks ds,v,h=>by
  rw[Rep]at h ⊢;obtain⟨b,xs,e1,e0,e2,el,e3⟩:=h;exact#[b,xs,e1,e0,k _ _ e0 e2,el,ae.off hm k e3]
 | .scr ds,v,h=>by
  rw[Rep]at h ⊢;obtain⟨b,xs,e1,e2,e3⟩:=h;refine#[b,xs,e1,?_,ae.off hm k e3];rcases e2 with⟨q,e2⟩ | e2
  ·have n:¬ P b:=fun p=>by rcases hm b _ p e2 with⟨z,q⟩ | ⟨z,q⟩ | ⟨z,q⟩<;>cases q
   exact .inl #[q,k _ _ n e2]
  ·exact .inr e2
 | .obj,v,h=>by rw[Rep]at h ⊢;exact h
 | .exc c,v,h=>by
  rw[Rep]at h ⊢;exact h.keep fun b ob u q=>k _ _ (fun p=>by rcases hm b _ p q with⟨z,y⟩ | ⟨z,y⟩ | ⟨z,y⟩<;>cases y) q
 | .fT ks ds,v,h=>by
  rw[Rep]at h ⊢;obtain⟨b,ob,xs,e1,e2,el,e3⟩:=h;exact⟨b,ob,xs,e1,k _ _ (fun p=>by rcases hm b _ p e2 with⟨z,y⟩ | ⟨z,y⟩ | ⟨z,y⟩<;>cases y) e2,el,ae.off hm k e3⟩
 | .fL ds,v,h=>by
  rw[Rep]at h ⊢;obtain⟨b,ob,xs,e1,e2,e3⟩:=h;exact⟨b,ob,xs,e1,k _ _ (fun p=>by rcases hm b _ p e2 with⟨z,y⟩ | ⟨z,y⟩ | ⟨z,y⟩<;>cases y) e2,ae.off hm k e3⟩
theorem ae.off{P:Addr->Prop}{K:W.Frag}{H H':Hp}(hm:∀ b o,P b->H b=some o->cS o)(k:Off P H H'):∀ {ds:List RL.D} {xs:List V},ae P K H ds xs->ae P K H' ds xs
 | [],xs,h=>by rw[ae]at h ⊢;exact h
 | d::r,xs,h=>by
  rw[ae]at h ⊢;obtain⟨x,t,e1,e2,e3⟩:=h;exact#[x,t,e1,Rep.off hm k e2,ae.off hm k e3]
end
structure jw(K:W.Frag)(J:L2.It)(ds:List RL.D)(P:Addr->Prop)(H:Hp):Prop where
 go:∀ H' i,Off P H H'->i<ds.length->J.go i H'
 stop:∀ H',Off P H H'->J.stop ds.length H'
 yld:∀ H' i d x H2,Off P H H'->ds[i]?=some d->J.yld i H' x H2->a6 H' H2/\(d.imm=true\/a6 H H'->Rep nP K H2 d x)
abbrev B3(K:W.Frag)(Zy:RL.St)(Y:L2.St)(H:Hp)(it:RL.It)(J:L2.It)(ds:List RL.D)(H1:Hp):Prop :=
 jw K J ds nP H1/\∀ (M:List Nat) (P:Addr->Prop),RL.vZ M it=true->(∀ b,P b->∃ o,H b=some o/\cS o)->(∀ (j:Nat) (dj:RL.D) (vj:V),M.contains j=false->Zy[j]?=some (some dj)->Y[j]?=some (some vj)->Rep P K H dj vj)->jw K J ds P H1
abbrev tI(K:W.Frag)(cl:RL.Cl)(it:RL.It):TI:=fun Y H R=>∃ Zy ds,RV0 K Zy Y H/\RL.b9 cl Zy it=some ds/\∀ J H1,a6 H H1->B3 K Zy Y H it J ds H1->R J H1
abbrev SI(X:Cx)(cl:RL.Cl)(tg iter:Expr)(it:RL.It):Prop:=PI X tg iter (tI X.K cl it)
def PI.weak{X:Cx}{tg iter:Expr}{t t':TI}(h:PI X tg iter t)(w:∀ Y H R,t' Y H R->t Y H R):PI X tg iter t':=fun pins s Y H R I q=>h pins s Y H R I (w Y H R q)
def gc{K:W.Frag}{P:Addr->Prop}{H H':Hp}{d:RL.D}{v:V}(hm:∀ b o,P b->H b=some o->cS o)(k:Off P H H')(r:Rep nP K H d v)(i:d.imm=true):Rep nP K H' d v :=
 ((r.imm i).off hm k).imm i
def v7{K:W.Frag}{H:Hp}{a:Addr}{ds:List RL.D}{xs:List V}{P:Addr->Prop}(h:H a=some (.lst xs))(r:ae nP K H ds xs)(hp:¬ P a)(hm:∀ b o,P b->H b=some o->cS o):jw K (Itl K a) ds P H where
 go:=fun H' i k hi=>by
  obtain⟨x,e,_⟩:=r.get (i:=i) (d:=ds[i]) (by simp[hi]);exact#[xs,x,SqL.of (k _ _ hp h),e]
 stop:=fun H' k=>#[xs,SqL.of (k _ _ hp h),by rw[r.length];exact QV _]
 yld:=fun H' i d x H2 k e y=>by
  obtain⟨z,y⟩:=y;subst z;have hx:=y xs (SqL.of (k _ _ hp h));obtain⟨x',e1,e2⟩:=r.get e;rw[hx]at e1;cases e1;refine#[a6.refl _,fun q=>?_];rcases q with q | q
  ·exact gc hm k e2 q
  ·exact e2.same q
def yc{K:W.Frag}{H:Hp}{a:Addr}{ds:List RL.D}{xs:List V}{P:Addr->Prop}(h:H a=some (.frz o (.lst xs)))(r:ae nP K H ds xs)(hm:∀ b o,P b->H b=some o->cS o):jw K (Itl K a) ds P H:=by
 have kp:∀ H',Off P H H'->SqL K H' a xs:=fun H' k=>by
  exact .inl (.inr ⟨o,k _ _ (fun p=>by rcases hm a _ p h with⟨z,q⟩ | ⟨z,q⟩ | ⟨z,q⟩<;>cases q) h⟩)
 exact {
  go:=fun H' i k hi=>by
   obtain⟨x,e,_⟩:=r.get (i:=i) (d:=ds[i]) (by simp[hi]);exact#[xs,x,kp _ k,e]
  stop:=fun H' k=>#[xs,kp _ k,by rw[r.length];exact QV _]
  yld:=fun H' i d x H2 k e y=>by
   obtain⟨z,y⟩:=y;subst z;have hx:=y xs (kp _ k);obtain⟨x',e1,e2⟩:=r.get e;rw[hx]at e1;cases e1;refine#[a6.refl _,fun q=>?_];rcases q with q | q
   ·exact gc hm k e2 q
   ·exact e2.same q }
def yC{K:W.Frag}{H:Hp}{a:Addr}{ds:List RL.D}{xs:List V}{P:Addr->Prop}(h:H a=some (.tup xs))(r:ae nP K H ds xs)(hm:∀ b o,P b->H b=some o->cS o):jw K (Itt K a) ds P H:=by
 have hp:¬ P a:=fun p=>by rcases hm a _ p h with⟨z,q⟩ | ⟨z,q⟩ | ⟨z,q⟩<;>cases q
 exact {
  go:=fun H' i k hi=>by
   obtain⟨x,e,_⟩:=r.get (i:=i) (d:=ds[i]) (by simp[hi]);exact#[xs,x,SqT.of (k _ _ hp h),e]
  stop:=fun H' k=>#[xs,SqT.of (k _ _ hp h),by rw[r.length];exact QV _]
  yld:=fun H' i d x H2 k e y=>by
   obtain⟨z,y⟩:=y;subst z;have hx:=y xs (SqT.of (k _ _ hp h));obtain⟨x',e1,e2⟩:=r.get e;rw[hx]at e1;cases e1;refine#[a6.refl _,fun q=>?_];rcases q with q | q
   ·exact gc hm k e2 q
   ·exact e2.same q }
def oK:∀ (n:Nat) (lo:Int) (i:Nat) (d:RL.D),(RL.cw lo n)[i]?=some d->d=.int (lo+i)
 | 0,lo,i,d,h=>by simp[RL.cw]at h
 | n+1,lo,0,d,h=>by simp[RL.cw]at h;simp[h]
 | n+1,lo,i+1,d,h=>by
  rw[RL.cw,List.getElem?_cons_succ]at h;rw[oK n (lo+1) i d h];congr 1;lia
def kf:∀ (n:Nat) (lo:Int),(RL.cw lo n).length=n
 | 0,_=>rfl
 | n+1,lo=>by rw[RL.cw,List.length_cons,kf n]
def nE{K:W.Frag}{H:Hp}{lo:Int}{n:Nat}{P:Addr->Prop}:jw K (Itr lo n) (RL.cw lo n) P H where
 go:=fun H' i k hi=>by rw[kf]at hi;exact hi
 stop:=fun H' k=>by rw[kf];exact QV _
 yld:=fun H' i d x H2 k e y=>by
  obtain⟨z,y⟩:=y;subst z;refine#[a6.refl _,fun _=>?_];rw[oK n lo i d e,y];exact aW
section rules
variable{X:Cx}{cl:RL.Cl}{tg a b l:Expr}{a' b' e':RL.E}{pos p:Pos}
def Jc{t t':TE}{l:Expr}(hl:PE X l t):PI X tg l (fun Y H R=>t Y H fun x H1=>(∃ a,x=.ref a/\(∃ xs,SqL X.K H1 a xs)/\R (Itl X.K a) H1)\/(∃ a,x=.ref a/\(∃ xs,SqT X.K H1 a xs)/\R (Itt X.K a) H1)):=by
 intro pins s Y H R I h;refine thn (hl pins s Y H _ I h) fun v s1 ⟨x,H1,I1,r1,q1⟩=>?_
 rcases q1 with⟨a,e,⟨xs,hq⟩,q⟩ | ⟨a,e,⟨xs,hq⟩,q⟩
 ·subst e;cases r1;obtain⟨its,rv,p,hz⟩:=I1.list hq;refine wpAny_pyIter_list p.isList ⟨s1.heap.objs.size,[s1.heap.objs.size],_,_,H1,rfl,I1.kept (t':=s1.toks) fun b o e=>QU _ e,zh a _,⟨_,QX _ rfl,rfl,rfl⟩,fun b hb=>?_,q⟩;rw[show b=s1.heap.objs.size by simpa using hb];exact I1.pG (QV _) (I1.hok.fresh (QV _))
 ·subst e;cases r1;obtain⟨its,rv,p,hz⟩:=I1.tuple hq;refine wpAny_pyIter_tuple (show s1.heap.IsTuple a its.toArray from p) ⟨s1.heap.objs.size,[s1.heap.objs.size],_,_,H1,rfl,I1.kept (t':=s1.toks) fun b o e=>QU _ e,wa a _,⟨_,QX _ rfl,rfl,rfl⟩,fun b hb=>?_,q⟩;rw[show b=s1.heap.objs.size by simpa using hb];exact I1.pG (QV _) (I1.hok.fresh (QV _))
def nU{Zy:RL.St}{Y:L2.St}{H H1:Hp}{d:RL.D}{v:V}{M:List Nat}{P:Addr->Prop}(r1:Res X.K Zy Y H e' d v H1)(z:(RL.avE M e' || RL.aC e')=true)(hP:∀ b,P b->∃ o,H b=some o/\cS o)
 (av:∀ (j:Nat) (dj:RL.D) (vj:V),M.contains j=false->Zy[j]?=some (some dj)->Y[j]?=some (some vj)->Rep P X.K H dj vj):∀ ds a,d=.lst ds->v=.ref a->¬ P a:=by
 intro ds a hd hv;subst hd hv;rw[Bool.or_eq_true]at z;rcases z with z | z
 ·obtain⟨p,xs,e1,e2,_⟩:=aE (r1.av M z P (fun b q=>by obtain⟨o,ho,_⟩:=hP b q;rw[ho];exact fun z=>nomatch z) av);cases e1;exact e2
 ·intro q;obtain⟨o,ho,_⟩:=hP a q;rw[r1.fresh z rfl a rfl]at ho;cases ho
def eo{P:Addr->Prop}{H H1:Hp}(s:a6 H H1)(hP:∀ b,P b->∃ o,H b=some o/\cS o):∀ b o,P b->H1 b=some o->cS o:=fun b o q e=>by
 obtain⟨o',ho,m⟩:=hP b q;rw[s _ _ ho]at e;cases e;exact m
def gz{H1:Hp}:∀ b o,nP b->H1 b=some o->cS o:=fun b o q=>q.elim
def Gw(hl:SE X cl l e')(hs:True):PI X tg l (fun Y H R=>∃ Zy d ds,RV0 X.K Zy Y H/\RL.ev cl Zy e'=some d/\RL.lu d=some ds/\∀ J H1,a6 H H1->B3 X.K Zy Y H (.seq e') J ds H1->R J H1):=by
 refine PI.weak (Jc (t':=tE X.K cl e') hl) fun Y H R h=>?_;obtain⟨Zy,d,ds,rv,e,ei,k⟩:=h;refine#[Zy,d,rv,e,fun v H1 r1=>?_]
 cases d with
 |fL es=>
  cases ei;have r:=r1.rep;rw[Rep]at r;obtain⟨p,ob,xs,rfl,hp,rs⟩:=r;exact .inl #[p,rfl,#[xs,.inl (.inr #[ob,hp])],k _ _ r1.same #[yc hp rs gz,fun M P z hP av=>yc hp rs (eo r1.same hP)]]
 |lst es=>
  obtain⟨p,xs,rfl,hp,rs⟩:=eP (show RL.items (.lst es)=some ds from ei) r1.rep
  rcases hp with⟨hp,e9⟩ | ⟨hp,e9⟩ | ⟨hp,e9⟩
  ·cases e9;exact .inl #[p,rfl,#[xs,SqL.of hp],k _ _ r1.same #[v7 hp rs (fun z=>z) gz,fun M P z hP av=>v7 hp rs (nU r1 z hP av _ _ rfl rfl) (eo r1.same hP)]]
  ·cases e9
  ·cases e9
 |tup es=>
  obtain⟨p,xs,rfl,hp,rs⟩:=eP (show RL.items (.tup es)=some ds from ei) r1.rep
  rcases hp with⟨hp,e9⟩ | ⟨hp,e9⟩ | ⟨hp,e9⟩
  ·cases e9
  ·exact .inr #[p,rfl,#[xs,SqT.of hp],k _ _ r1.same #[yC hp rs gz,fun M P z hP av=>yC hp rs (eo r1.same hP)]]
  ·cases e9
 | _=>cases ei
def nD{x y:RL.D}{ds:List RL.D}(h:RL.bR x y=some ds):∃ i j:Int,x=.int i/\y=.int j/\(-(2 ^ 62)<=i/\i<2 ^ 62/\-(2 ^ 62)<=j/\j<2 ^ 62)/\(j-i).toNat<=RL.most/\ds=RL.cw i (j-i).toNat:=by
 have no:∀ {o:Option (List RL.D)},o=none->o=some ds->False:=fun e h=>by rw[e]at h;cases h
 cases x with
 | int i=>cases y with
  |int j=>
   obtain⟨hc,e⟩:=bM h
   have lo:-(2 ^ 62:Int)<=-(2 ^ 60):=by decide
   have hi:(2 ^ 60:Int)<2 ^ 62:=by decide
   exact#[i,j,rfl,rfl,#[Int.le_trans lo hc.2.1,Int.lt_trans hc.2.2.1 hi,Int.le_trans lo hc.2.2.2.1,Int.lt_trans hc.2.2.2.2 hi],hc.1,e]
  | _=>exact(no rfl h).elim
 | _=>exact(no rfl h).elim
def Ee(hg:Gl X "range")(hm:X.mg "range" = none)(ha:SE X cl a a')(hn:noStar a=true):SI X cl tg (.Call (.Name "range" p) [a] [] pos) (.rng1 a'):=by
 refine PI.weak (xX hg hm (b0 (cl:=cl) ha cB hn) (a8 [] hn)) fun Y H R h=>?_;obtain⟨Zy,ds,rv,e,k⟩:=h;k_in;obtain⟨i,j,e1,rfl,hb,_,rfl⟩:=nD e;cases e1;refine#[Zy,[.int j],rv,by rw[RL.evs,ea];rfl,fun vs H1 s1 r1=>?_];rw[ae]at r1;obtain⟨v,t,rfl,r2,r3⟩:=r1;rw[ae]at r3;subst r3;refine#[j,by rw[ak r2],hb.2.2.1,hb.2.2.2,?_]
 have hz:(j-0).toNat=j.toNat:=by simp
 rw[hz]at k;exact k _ _ s1 ⟨nE,fun _ _ _ _ _=>nE⟩
def Dz(hg:Gl X "range")(hm:X.mg "range" = none)(ha:SE X cl a a')(hb:SE X cl b b')(hn:noStar a=true)(hn2:noStar b=true):SI X cl tg (.Call (.Name "range" p) [a,b] [] pos) (.rng2 a' b'):=by
 refine PI.weak (x5 hg hm (b0 (cl:=cl) ha (b0 hb cB hn2) hn) (by rw[a8 _ hn,a8 _ hn2];rfl) (a8 [] hn2)) fun Y H R h=>?_;obtain⟨Zy,ds,rv,e,k⟩:=h;k_in;obtain⟨y,eb,e⟩:=bind_some e;obtain⟨i,j,rfl,rfl,hb,_,rfl⟩:=nD e;refine#[Zy,[.int i,.int j],rv,by rw[RL.evs,ea,RL.evs,eb];rfl,fun vs H1 s1 r1=>?_];rw[ae]at r1;obtain⟨v,t,rfl,r2,r3⟩:=r1;rw[ae]at r3;obtain⟨u,t,rfl,r4,r5⟩:=r3;rw[ae]at r5;subst r5;exact#[i,j,by rw[ak r2,ak r4],hb,k _ _ s1 #[nE,fun _ _ _ _ _=>nE]]
end rules
end RS
namespace L2
open PySem PySem.Spec PyProof.Rows
abbrev iL(ifs:List Expr)(env:Env):Sem Bool:=forIn ifs true fun c r=>if r=true then do let ok <- isTrue c env (eval c env);pure (ForInStep.yield ok)else pure (ForInStep.yield r)
section
def EU(h:wpAny M A m P (fun _ _=>False) s):wpAny M A m P E s :=
 wpAny_mono h (fun _ _ q=>q) fun _ _ z=>z.elim
def dG(h:wpAny M A m (fun a s1=>wpAny M A (k a) P E s1) (fun _ _=>False) s):wpAny M A (m >>= k) P E s:=QT (EU h)
end
section
abbrev pY(prog:Program)(w:World)(A:Around)(elt tg:Expr)(ifs:List Expr)(it acc:Value)(env:Env)(stop next:Shared->Prop)(s:Shared):Prop :=
 wpAny (model prog w) A (pyNext it) (fun r s1=>match r with
  | none=>stop s1
  | some v=>wpAny (model prog w) A (letOwnedTupleGo tg it v) (fun _ s2=>wpAny (model prog w) A (assign tg env v) (fun _ s3=>wpAny (model prog w) A (iL ifs env) (fun ok s4 =>
     if ok=true then wpAny (model prog w) A (eval elt env) (fun x s5=>wpAny (model prog w) A (call (.builtin "list.append") [acc,x]) (fun _ s6=>next s6) (fun _ _=>False) s5) (fun _ _=>False) s4
     else next s4) (fun _ _=>False) s3) (fun _ _=>False) s2) (fun _ _=>False) s1) (fun _ _=>False) s
def AW(h:pY prog w A elt tg ifs it acc env stop next s) :
  wpAny (model prog w) A (compTurn (.ListComp elt [⟨tg,iter,ifs,0⟩] scope pos) 0 it acc env) (fun fin s'=>match fin with
   | .done f=>f=.next/\stop s'
   | .again c=>c=.compLoop (.ListComp elt [⟨tg,iter,ifs,0⟩] scope pos) 0 it acc env/\next s') E s:=by
 rw[compTurn_list];apply QT;apply wpAny_standAt;apply dG;refine thn h fun r s1 h1=>?_
 cases r with
 |none=>
  apply QW;exact#[rfl,h1]
 |some v=>
  apply dG;refine thn h1 fun _ s2 h2=>?_;apply dG;refine thn h2 fun _ s3 h3=>?_;apply dG;refine thn h3 fun ok s4 h4=>?_;cases ok
  ·apply QW;exact#[rfl,h4]
  ·apply QT;apply dG;refine thn h4 fun x s5 h5=>?_;apply dG;refine thn h5 fun _ s6 h6=>?_;apply QW;apply QW;exact#[rfl,h6]
def zy(I:Nat->Shared->Prop)(turn:∀ n s,I n s->pY prog w A elt tg ifs it acc env (R (.ok .next)) (fun s'=>∃ m,m<n/\I m s') s)
 (n:Nat)(h:I n s):codeAny (model prog w) A (.compLoop (.ListComp elt [⟨tg,iter,ifs,0⟩] scope pos) 0 it acc env) R s :=
 codeAny_loop (M:=model prog w) rfl I (fun n s hI=>wpAny_noted (thn (AW (turn n s hI)) fun fin s' q=>by
  cases fin with
  |done f=>
   obtain⟨rfl,q⟩:=q;exact q
  | again c=>exact q)) n h
end
def lR:∀ (names:List (Str × NameKind)) (n:Nat) (acc:List (Str × Addr)) (x:Str) (c:Addr),(cellsFrom n names acc).lookup x=some c->(acc.lookup x=some c/\(x,NameKind.cell)∉names)\/(n<=c/\(x,NameKind.cell)∈names)
 | [],n,acc,x,c,h=>.inl #[h,by simp]
 | (nm,k)::r,n,acc,x,c,h=>by
  unfold cellsFrom at h;by_cases hk:(k == NameKind.cell)=true
  ·rw[if_pos hk]at h
   have ek:k=.cell:=by simpa using hk
   subst ek
   rcases lR r (n+1) ((nm,n)::acc) x c h with⟨a,b⟩ | ⟨a,b⟩
   ·rw[List.lookup_cons]at a
    cases hx:x == nm with
    |true=>
     rw[hx]at a;cases a
     have:x=nm:=by simpa using hx
     subst this;exact .inr #[QV _,Zc ..]
    |false=>
     rw[hx]at a;refine .inl #[a,fun z=>?_];rcases List.mem_cons.mp z with z | z
     ·cases z;simp at hx
     ·exact b z
   ·exact .inr #[Nat.le_of_succ_le a,Q4 _ b]
  ·rw[if_neg hk]at h
   rcases lR r n acc x c h with⟨a,b⟩ | ⟨a,b⟩
   ·refine .inl #[a,fun z=>?_];rcases List.mem_cons.mp z with z | z
    ·cases z;exact hk (by simp)
    ·exact b z
   ·exact .inr #[a,Q4 _ b]
def pP:∀ (names:List (Str × NameKind)) (n:Nat) (acc:List (Str × Addr)) (x:Str),(x,NameKind.cell)∉names->(cellsFrom n names acc).lookup x=acc.lookup x
 | [],n,acc,x,_=>rfl
 | (nm,k)::r,n,acc,x,h=>by
  have hr:(x,NameKind.cell)∉r:=fun z=>h (Q4 _ z);unfold cellsFrom;by_cases hk:(k == NameKind.cell)=true
  ·rw[if_pos hk,pP r (n+1) _ x hr,List.lookup_cons]
   have ek:k=.cell:=by simpa using hk
   subst ek
   have:(x == nm)=false:=by
    rw[beq_eq_false_iff_ne];intro z;subst z;exact h (Zc ..)
   rw[this]
  ·rw[if_neg hk];exact pP r n acc x hr
def ub:∀ (names:List (Str × NameKind)) (n:Nat) (acc:List (Str × Addr)),(∀ x c,acc.lookup x=some c->c<n)->(∀ x y c,acc.lookup x=some c->acc.lookup y=some c->x=y)->∀ x y c,(cellsFrom n names acc).lookup x=some c->(cellsFrom n names acc).lookup y=some c->x=y
 | [],n,acc,_,hi,x,y,c,h1,h2=>hi x y c h1 h2
 | (nm,k)::r,n,acc,hl,hi,x,y,c,h1,h2=>by
  unfold cellsFrom at h1 h2;by_cases hk:(k == NameKind.cell)=true
  ·rw[if_pos hk]at h1 h2;refine ub r (n+1) ((nm,n)::acc) (fun x c e=>?_) (fun x y c e1 e2=>?_) x y c h1 h2
   ·rw[List.lookup_cons]at e
    cases hx:x == nm with
    | true=>rw[hx]at e;cases e;exact Nat.lt_succ_self _
    | false=>rw[hx]at e;exact Nat.lt_succ_of_lt (hl x c e)
   ·rw[List.lookup_cons]at e1 e2
    cases hx:x == nm with
    |true=>
     rw[hx]at e1;cases e1
     cases hy:y == nm with
     |true=>
      have a:x=nm:=by simpa using hx
      have b:y=nm:=by simpa using hy
      rw[a,b]
     |false=>
      rw[hy]at e2;exact absurd (hl y n e2) (Zw _)
    |false=>
     rw[hx]at e1
     cases hy:y == nm with
     |true=>
      rw[hy]at e2;cases e2;exact absurd (hl x n e1) (Zw _)
     |false=>
      rw[hy]at e2;exact hi x y c e1 e2
  ·rw[if_neg hk]at h1 h2;exact ub r n acc hl hi x y c h1 h2
def oX:∀ (names:List (Str × NameKind)) (h:Heap) (acc:List (Str × Addr)) (x:Str) (c:Addr),(cellsFrom h.objs.size names acc).lookup x=some c->acc.lookup x=some c\/(pushCells h names).IsCell c none
 | [],h,acc,x,c,e=>.inl e
 | (nm,k)::r,h,acc,x,c,e=>by
  unfold cellsFrom at e;unfold pushCells;by_cases hk:(k == NameKind.cell)=true
  ·rw[if_pos hk]at e ⊢
   have e':(cellsFrom (h.push { cls:=.type "cell",data:=.cell none }).objs.size r ((nm,h.objs.size)::acc)).lookup x=some c:=by rw[Zk];exact e
   rcases oX r (h.push { cls:=.type "cell",data:=.cell none }) ((nm,h.objs.size)::acc) x c e' with a | a
   ·rw[List.lookup_cons]at a
    cases hx:x == nm with
    |true=>
     rw[hx]at a;cases a;exact .inr #[_,pushCells_keeps r _ _ _ (QX _ rfl),rfl]
    |false=>
     rw[hx]at a;exact .inl a
   ·exact .inr a
  ·rw[if_neg hk]at e ⊢;exact oX r h acc x c e
def Cm{M:Model}{A:Around}{E:Value->Shared->Prop}{s:Shared}{scope:Scope}{globals:Addr}{closure:List (Str × Addr)}{qual:Str}{func:Option Addr}{code:Value}{outer:Env}{builtins:Addr}{Q:Env->Shared->Prop}
 (hQ:Q (newEnv scope s.heap.objs.size globals (cellsFrom (s.heap.objs.size+1) scope.names closure) qual func code (some outer) builtins) { s with heap:=pushCells (s.heap.push { cls:=.type "dict",data:=.dict (List.toArray []) }) scope.names }) :
  wpAny M A (newFunctionEnv scope globals closure [] qual func code (some outer) builtins) Q E s:=by
 simp only[newFunctionEnv,Option.isSome_some,if_true];refine QT (wpAny_alloc ?_);refine QT (wpAny_layCells _ (fun name kind cells=>by cases hkc:kind == NameKind.cell<;>simp[hkc]) _ _ _ _ ?_);rw[show({ s with heap:=s.heap.push { cls:=.type "dict",data:=.dict (List.toArray []) } }:Shared).heap.objs.size=s.heap.objs.size+1 from Zk ..];refine QT ?_;rw[List.forIn_nil];exact QW (QW hQ)
abbrev blk(X:Cx)(scope:Scope)(cls:List (Str × Addr))(C:Addr)(fp:List Addr)(s:Shared)(H:Hp):Cx where
 prog:=X.prog
 w:=X.w
 K:=X.K
 mg:=X.mg
 base:=X.base
 A:=X.A
 N:=X.N
 s₀:=s
 H₀:=H
 env:=compEnvC scope cls C X.env
 outer:=X.stack
 stack:=X.stack
 ex:=fp
 fn:=fun x=>scope.names.lookup x == some .cell
 calm:=X.calm
 pn:=[]
 xe:=fun _ _=>False
structure gA(scope:Scope)(sc:Scope)(cls:List (Str × Addr))(cells:List (Str × Addr)):Prop where
 kind:scope.kind=.function
 own:∀ x∈scope.names,x.2=.cell->scope.names.lookup x.1=some .cell
 loc:∀ x∈scope.names,x.2=.local->scope.names.lookup x.1=some .local
 sub:∀ x c,cls.lookup x=some c->cells.lookup x=some c
 has:∀ x,scope.names.lookup x=some .free->∃ c,cls.lookup x=some c
 vis:∀ x,scope.names.lookup x=some .free->sc.names.lookup x=some .cell\/sc.names.lookup x=some .free
def bV{env:Env}:∀ {names:List (Str × NameKind)} {x:Str} {k:NameKind},
  (names.map fun(n,k)=>if(k == NameKind.free&&env.scope.kind == .function&&env.kindOf n == some .cell)then(n,NameKind.cell)else(n,k)).lookup x=some k ->
  names.lookup x=some k\/(k=.cell/\names.lookup x=some .free/\env.kindOf x=some .cell)
 | [],x,k,h=>by simp at h
 | (n,k')::r,x,k,h=>by
  have ih:=@bV env r x k;rw[List.map_cons]at h
  cases hx:x == n with
  |true=>
   have en:x=n:=by simpa using hx
   subst en;by_cases hc:(k' == NameKind.free&&env.scope.kind == .function&&env.kindOf x == some .cell)=true
   ·simp only[hc,if_true]at h;rw[List.lookup_cons,hx]at h;cases h;simp only[Bool.and_eq_true,beq_iff_eq]at hc;refine .inr #[rfl,?_,hc.2];rw[List.lookup_cons,hx,hc.1.1]
   ·simp only[Bool.not_eq_true]at hc;simp only[hc,Bool.false_eq_true,if_false]at h;rw[List.lookup_cons,hx]at h;cases h;exact .inl (by rw[List.lookup_cons,hx])
  |false=>
   have h':(r.map fun(n,k)=>if(k == NameKind.free&&env.scope.kind == .function&&env.kindOf n == some .cell)then(n,NameKind.cell)else(n,k)).lookup x=some k:=by
    by_cases hc:(k' == NameKind.free&&env.scope.kind == .function&&env.kindOf n == some .cell)=true
    ·simp only[hc,if_true]at h;rw[List.lookup_cons,hx]at h;exact h
    ·simp only[Bool.not_eq_true]at hc;simp only[hc,Bool.false_eq_true,if_false]at h;rw[List.lookup_cons,hx]at h;exact h
   rcases ih h' with q | ⟨q1,q2,q3⟩
   ·exact .inl (by rw[List.lookup_cons,hx];exact q)
   ·exact .inr #[q1,by rw[List.lookup_cons,hx];exact q2,q3]
abbrev BM(X:Cx)(scope:Scope)(Y ZI:St):Prop:=ZI.length=Y.length/\∀ (i:Nat) (x:Str) (v:V),X.N[i]?=some x->ZI[i]?=some (some v)->Y[i]?=some (some v)/\scope.names.lookup x≠some .local/\scope.names.lookup x≠some .cell
section
def Inv.hxb(I:Inv X pins Y H s):HX (blk X scope cls C fp s H):=by
 rcases I.ok.hd.2 with z | ⟨h,o,u,vs,h1,h2,h3⟩
 ·exact .inl z
 ·exact .inr #[h,o,u,vs,h1,I.base.ig _ _ _ h2,h3]
def DM(I:Inv X pins Y H s)(S:gA scope X.env.scope cls X.env.cells)(hf:∀ b∈fp,kG X pins H b/\b<s.heap.objs.size)(ho:BM X scope Y ZI)
 (hns:h'.Ns s.heap.objs.size (fun _=>none))(hk:∀ b o,s.heap.get? b=some o->h'.get? b=some o)(hcl:∀ x c,(cellsFrom (s.heap.objs.size+1) scope.names cls).lookup x=some c->cls.lookup x=some c\/h'.IsCell c none) :
  Inv (blk X scope (cellsFrom (s.heap.objs.size+1) scope.names cls) s.heap.objs.size fp s H) [] ZI H { s with heap:=h',toks:=t }:=by
 have hC:H s.heap.objs.size=none:=I.hok.fresh (QV _)
 have clt:∀ x c,cls.lookup x=some c->c<s.heap.objs.size:=fun x c e=>by
  obtain⟨v,q⟩:=I.cell x c (S.sub x c e);exact q.lt
 have cas:∀ x c,(cellsFrom (s.heap.objs.size+1) scope.names cls).lookup x=some c->(X.env.cells.lookup x=some c/\c<s.heap.objs.size)\/(s.heap.objs.size+1<=c/\scope.names.lookup x=some .cell):=fun x c e=>by
  rcases lR _ _ _ _ _ e with⟨a,_⟩ | ⟨a,b⟩
  ·exact .inl #[S.sub x c a,clt x c a]
  ·exact .inr #[a,S.own _ b rfl]
 have fre:∀ x c,cls.lookup x=some c->scope.names.lookup x=some .free->(cellsFrom (s.heap.objs.size+1) scope.names cls).lookup x=some c:=fun x c e f=>by
  rw[pP _ _ _ _ fun z=>by rw[S.own _ z rfl]at f;cases f];exact e
 refine⟨⟨I.ok.mod,?_,I.ok.glob,I.ok.blt,QV _,fun x y c h1 h2=>ub _ _ _ (fun x c e=>Nat.lt_succ_of_lt (clt x c e)) (fun x y c e1 e2=>I.ok.inj x y c (S.sub x c e1) (S.sub y c e2)) x y c h1 h2,fun x hx=>?_,fun x c z e=>?_,⟨I.ok.hd.1,I.hxb⟩,I.ok.frames,.inl rfl,fun b hb=>?_,fun b o e=>I.bs b o e,Za I.ok.bsz I.sz,fun b o e hb=>?_,fun b hb=>?_,I.stack,I.u7⟩,
  rfl,I.bare,Un.kept hk,⟨_,hns,fun i x v h1 h2 h3=>?_⟩,fun x c e=>?_,hC,fun x c e=>?_,fun p hp=>absurd hp (by simp[blk]),I.hok.kept hk,ho.1.trans I.len⟩
 ·exact S.kind
 ·have hx:(relabel scope X.env).names.lookup x=some .cell\/(relabel scope X.env).names.lookup x=some .free:=hx
  have key:scope.names.lookup x=some .cell\/scope.names.lookup x=some .free:=by
   rcases hx with hx | hx
   ·rcases bV hx with q | ⟨_,q,_⟩
    ·exact .inl q
    ·exact .inr q
   ·rcases bV hx with q | ⟨q,_⟩
    ·exact .inr q
    ·cases q
  rcases key with q | q
  ·have:=W.cellsFrom_some scope.names (s.heap.objs.size+1) cls (.inl q);exact Option.isSome_iff_exists.mp this
  ·obtain⟨c,hc⟩:=S.has x q;exact#[c,fre x c hc q]
 ·have z:(scope.names.lookup x == some .cell)=true:=z
  rcases lR _ _ _ _ _ (show(cellsFrom (s.heap.objs.size+1) scope.names cls).lookup x=some c from e)with⟨_,b⟩ | ⟨b,_⟩
  ·exact absurd (PySem.mem_of_lookup (by simpa using z)) b
  ·exact Nat.le_of_succ_le b
 ·obtain⟨⟨f0,f1,f2,f3,f4,f5⟩,f6⟩:=hf b hb;refine#[Q5 f6,fun x c e=>?_]
  rcases cas x c e with⟨a,_⟩ | ⟨a,_⟩
  ·exact f4 x c a
  ·exact Nat.ne_of_gt (Nat.lt_trans f6 a)
 ·obtain⟨⟨f0,f1,f2,f3,f4,f5⟩,f6⟩:=hf b hb;rcases f3 with z | z
  ·exact I.ok.ue b o e z
  ·exact absurd (Q0 (QY e) I.ok.bsz) (Nat.not_lt.mpr z)
 ·obtain⟨⟨f0,f1,f2,f3,f4,f5⟩,f6⟩:=hf b hb;intro z;rcases List.mem_cons.mp (I.so b z)with e | e
  ·exact f1 e
  ·exact f2 e
 ·obtain⟨h4,h5,h6⟩:=ho.2 i x v h1 h2;have h3:(relabel scope X.env).names.lookup x=some .local\/(relabel scope X.env).names.lookup x=some .cell\/(relabel scope X.env).names.lookup x=some .free:=h3
  have key:scope.names.lookup x=some .free:=by
   rcases h3 with z | z | z
   ·rcases bV z with q | ⟨q,_⟩
    ·exact absurd q h5
    ·cases q
   ·rcases bV z with q | ⟨_,q,_⟩
    ·exact absurd q h6
    ·exact q
   ·rcases bV z with q | ⟨q,_⟩
    ·exact q
    ·cases q
  obtain⟨c,hc⟩:=S.has x key;have hcx:=S.sub x c hc;obtain⟨m,hn,hl⟩:=I.loc;have hv:Vis X.env.scope x:=.inr (S.vis x key);obtain⟨u,ru,lk⟩:=hl i x v h1 h4 hv;refine#[u,ru,.inr #[?_,c,fre x c hc key,?_]]
  ·rcases h3 with z | z
   ·rcases bV z with q | ⟨q,_⟩
    ·exact absurd q h5
    ·cases q
   ·exact z
  ·rcases lk with⟨z,_⟩ | ⟨_,c',e',q⟩
   ·have z:X.env.scope.names.lookup x=some .local:=z;rcases S.vis x key with z' | z'<;>(rw[z]at z';cases z')
   ·rw[hcx]at e';cases e';obtain⟨o,g1,g2⟩:=q;exact#[o,hk _ _ g1,g2]
 ·rcases hcl x c e with a | a
  ·obtain⟨v,q⟩:=I.cell x c (S.sub x c a);obtain⟨o,h1,h2⟩:=q;exact#[v,o,hk _ _ h1,h2]
  ·exact#[none,a]
 ·rcases cas x c e with⟨a,_⟩ | ⟨a,_⟩
  ·exact I.fq x c a
  ·exact I.hok.fresh (Nat.le_of_succ_le a)
abbrev j9(wi:TI)(clr:St->St)(g:TG)(tc:TT)(te:TE):TE:=fun Y H Q=>wi Y H fun J H1=>∀ l,H1 l=none->∃ W:Nat->Nat->List V->Hp->Prop,(∃ m,W 0 m [] (upd H1 l (.lst []))) /\
 ∀ i m ys H2,W i m ys H2->H2 l=some (.lst ys)/\((J.stop i H2/\Q (.ref l) H2)\/(J.go i H2/\∀ x H3,J.yld i H2 x H3->g x (clr Y) H3 fun ZH H4=>tc ZH H4 fun k H5 =>
  if k=true then te ZH H5 fun y H6=>H6 l=some (.lst ys)/\ys.length<sizeLine/\∃ m',m'<m/\W (i+1) m' (ys++[y]) (upd H6 l (.lst (ys++[y])))else ∃ m',m'<m/\W (i+1) m' ys H5))
structure qP(X:Cx)(scope:Scope)(tg:Expr)(ifs:List Expr)(elt:Expr)(clr:St->St)(g:TG)(tc:TT)(te:TE):Prop where
 htg:∀ cls C fp s H,PG (blk X scope cls C fp s H) tg g
 htc:∀ cls C fp s H pins s' Y H' Q,Inv (blk X scope cls C fp s H) pins Y H' s'->tc Y H' Q->wpAny (model X.prog X.w) X.A (iL ifs (compEnvC scope cls C X.env)) (TP (blk X scope cls C fp s H) pins Y Q) (fun _ _=>False) s'
 hte:∀ cls C fp s H,PE (blk X scope cls C fp s H) elt te
 G3:∀ Y:St,Y.length=X.N.length->BM X scope Y (clr Y)
 B8:∀ (x:V) (Y:St) (H:Hp) (Q:St->Hp->Prop),g x (clr Y) H Q->g x (clr Y) H fun ZC H2=>Q ZC H2/\(clr Y).length=ZC.length/\∀ (i:Nat) v,(clr Y)[i]?=some (some v)->ZC[i]?=some (some v)
def qh{elt tg iter:Expr}{ifs:List Expr}{pos:Pos}{wi:TI}{clr:St->St}{g:TG}{tc:TT}{te:TE}{Q:VK}{RR:Value->Addr->Result->Shared->Prop}{CM:Cx->Prop}(hc:∀ {pins:List (Addr × Obj)} {Y:St} {H:Hp} {s:Shared} (cls:List (Str × Addr)) (C:Addr) (fp:List Addr),Inv X pins Y H s->CM (blk X scope cls C fp s H))(S:gA scope X.env.scope cls X.env.cells)
 (hi:PI' CM X tg iter wi)(B:qP X scope tg ifs elt clr g tc te)(I:Inv X pins Y H s)(h:j9 wi clr g tc te Y H Q)
 (hRR:∀ l C H' s',Inv X pins Y H' s'->(∃ m,s'.heap.Ns C m)->H' C=none->C≠X.env.locals->X.s₀.heap.objs.size<=C->(∀ x c,X.env.cells.lookup x=some c->c≠C)->(∀ p∈X.pn++pins,p.1≠C)->Q (.ref l) H'->RR (.ref l) C (.ok .next) s') :
  wpAny (model X.prog X.w) X.A (eval iter X.env) (fun x s1=>wpAny (model X.prog X.w) X.A (pyIter x) (fun it s2=>wpAny (model X.prog X.w) X.A (newList []) (fun acc s3 =>
   wpAny (model X.prog X.w) X.A (newFunctionEnv scope X.env.globals cls [] X.env.qual none .none (some X.env)) (fun cenv s4 =>
    codeAny (model X.prog X.w) X.A (.compStart (.ListComp elt [⟨tg,iter,ifs,0⟩] scope pos) 0 it acc { cenv with scope:=relabel scope X.env }) (RR acc cenv.locals) s4) X.xe s3) X.xe s2) X.xe s1) X.xe s:=by
 refine thn (hi pins s Y H _ I h) fun x s1 h1=>thn h1 fun itv s2 h2=>?_;obtain⟨it,fp,tn,J,H2,e,I2,T,st2,f2,h3⟩:=h2;subst e
 have flt:∀ b∈fp,b<s2.heap.objs.size:=fun b hb=>by
  obtain⟨o,e,_⟩:=T.obj _ _ st2 b hb;exact QY e
 refine wpAny_newObj_type ?_
 have I3:Inv X pins Y (upd H2 s2.heap.objs.size (.lst [])) { s2 with heap:=s2.heap.push { cls:=.type "list",dict:=none,data:=.seq ([]:List Value).toArray } } :=
  I2.laid (t':=s2.toks) (fun b u e=>QU _ e) (QV _) ⟨Nat.zero_le _,[],0,.nil,QX _ rfl⟩
 have hl2:H2 s2.heap.objs.size=none:=I2.hok.fresh (QV _);obtain⟨W,⟨m0,w0⟩,turn⟩:=h3 s2.heap.objs.size hl2
 have f3:∀ b∈fp,kG X pins (upd H2 s2.heap.objs.size (.lst [])) b/\b<(s2.heap.push { cls:=.type "list",dict:=none,data:=.seq ([]:List Value).toArray }).objs.size:=fun b hb=>by
  obtain⟨z0,z⟩:=f2 b hb;refine#[#[?_,z],?_]
  ·rw[aV (Q5 (flt b hb))];exact z0
  ·rw[Zk];exact Nat.lt_succ_of_lt (flt b hb)
 generalize hs3:({ s2 with heap:=s2.heap.push { cls:=.type "list",dict:=none,data:=.seq ([]:List Value).toArray } }:Shared)=s3 at I3
 have hs3h:s3.heap=s2.heap.push { cls:=.type "list",dict:=none,data:=.seq ([]:List Value).toArray }:=by rw[<-hs3]
 rw[<-hs3h]at f3
 have st3:tn 0 s3.heap:=T.keep _ _ _ st2 fun b hb o e=>by rw[hs3h];exact QU _ e
 refine Cm ?_;have k4:∀ b o,s3.heap.get? b=some o->(pushCells (s3.heap.push { cls:=.type "dict",data:=.dict (List.toArray []) }) scope.names).get? b=some o:=fun b o e=>pushCells_keeps _ _ b o (QU _ e);have hns4:(pushCells (s3.heap.push { cls:=.type "dict",data:=.dict (List.toArray []) }) scope.names).Ns s3.heap.objs.size (fun _=>none):=(Heap.Ns.new s3.heap (.type "dict")).keeps (pushCells_keeps _ _);have hcl4:∀ x c,(cellsFrom (s3.heap.objs.size+1) scope.names cls).lookup x=some c->cls.lookup x=some c\/(pushCells (s3.heap.push { cls:=.type "dict",data:=.dict (List.toArray []) }) scope.names).IsCell c none:=fun x c e=>oX scope.names (s3.heap.push { cls:=.type "dict",data:=.dict (List.toArray []) }) cls x c (by rw[Zk];exact e);generalize pushCells (s3.heap.push { cls:=.type "dict",data:=.dict (List.toArray []) }) scope.names=h4 at k4 hns4 hcl4
 have I4:Inv (blk X scope (cellsFrom (s3.heap.objs.size+1) scope.names cls) s3.heap.objs.size fp s3 (upd H2 s2.heap.objs.size (.lst []))) [] (clr Y) (upd H2 s2.heap.objs.size (.lst [])) { s3 with heap:=h4 } :=
  DM (t:=s3.toks) I3 S f3 (B.G3 Y I.len) hns4 k4 hcl4
 generalize hs4:({ s3 with heap:=h4 }:Shared)=s4 at I4
 have hs4h:s4.heap=h4:=by rw[<-hs4]
 generalize hH3:upd H2 s2.heap.objs.size (.lst [])=H3 at I3 I4 w0
 have st4:tn 0 s4.heap:=T.keep _ _ _ st3 fun b hb o e=>by rw[hs4h];exact k4 b o e
 have fn4:∀ b∈fp,H3 b=none:=fun b hb=>by rw[<-hH3];exact(f3 b hb).1.1
 have stat:∀ {H':Hp} {Zz:St} {s':Shared},Inv (blk X scope (cellsFrom (s3.heap.objs.size+1) scope.names cls) s3.heap.objs.size fp s3 H3) [] Zz H' s'->(∀ b∈fp,H' b=none)->∀ b∈fp,kG (blk X scope (cellsFrom (s3.heap.objs.size+1) scope.names cls) s3.heap.objs.size fp s3 H3) [] H' b :=
  fun {H' Zz s'} J hn b hb=>#[hn b hb,(J.ok.exf b hb).1,J.ok.tQ b hb,.inl hb,(J.ok.exf b hb).2,fun p hp=>absurd hp (by simp[blk])]
 have fin:∀ {H':Hp} {s':Shared},Inv (blk X scope (cellsFrom (s3.heap.objs.size+1) scope.names cls) s3.heap.objs.size fp s3 H3) [] (clr Y) H' s'->Q (.ref s2.heap.objs.size) H'->RR (.ref s2.heap.objs.size) s3.heap.objs.size (.ok .next) s':=fun {H' s'} J q=>by
  obtain⟨m,hn,_⟩:=J.loc
  have J1:Inv X pins Y H' s':=I3.BH (s':=s') (ch:=fp) (J.os.trans rfl) J.base J.hok J.bare fun b hb=>by
   obtain⟨⟨g0,g1,g2,g3,g4,g5⟩,_⟩:=f3 b hb;exact#[g3,g1,g4,g5]
  refine hRR _ _ H' s' J1 ⟨m,hn⟩ J.free (Nat.ne_of_gt I3.lt) I3.sz (fun x c e=>?_) (fun p hp=>?_) q
  ·obtain⟨v,z⟩:=I3.cell x c e;exact Q5 z.lt
  ·exact Q5 (QY (I3.pin p hp).1)
 have loop:codeAny (model X.prog X.w) X.A (.compLoop (.ListComp elt [⟨tg,iter,ifs,0⟩] scope pos) 0 (.ref it) (.ref s2.heap.objs.size) (compEnvC scope (cellsFrom (s3.heap.objs.size+1) scope.names cls) s3.heap.objs.size X.env))
   (RR (.ref s2.heap.objs.size) s3.heap.objs.size) s4:=by
  refine zy (fun n s'=>∃ i ys H',Inv (blk X scope (cellsFrom (s3.heap.objs.size+1) scope.names cls) s3.heap.objs.size fp s3 H3) [] (clr Y) H' s'/\tn i s'.heap/\(∀ b∈fp,H' b=none)/\W i n ys H') ?_ m0 ⟨0,[],H3,I4,st4,fn4,w0⟩;rintro n s5 ⟨i,ys,H5,I5,st5,fr5,w5⟩;obtain⟨hl5,tr⟩:=turn i n ys H5 w5
  rcases tr with⟨stop,qn⟩ | ⟨go,step⟩
  ·refine thn (T.done (blk X scope (cellsFrom (s3.heap.objs.size+1) scope.names cls) s3.heap.objs.size fp s3 H3) rfl rfl rfl (hc _ _ _ I3) i [] s5 (clr Y) H5 (fun _ _=>False) I5 (stat I5 fr5) st5 stop) fun r s6 ⟨hr,I6⟩=>?_;subst hr;exact fin I6 qn
  ·refine thn (T.item (blk X scope (cellsFrom (s3.heap.objs.size+1) scope.names cls) s3.heap.objs.size fp s3 H3) rfl rfl rfl (hc _ _ _ I3) i [] s5 (clr Y) H5 (fun _ _=>False) I5 (stat I5 fr5) st5 go) fun r s6 ⟨u,hr,h6⟩=>?_;subst hr;refine thn h6 fun _ s7 ⟨x,H7,I7,r7,y7,st7,fr7⟩=>?_;have I7':=I7.pinned (stat I7 fr7) (T.obj _ _ st7)
   have back:∀ {Zz:St} {H':Hp} {s':Shared},Inv (blk X scope (cellsFrom (s3.heap.objs.size+1) scope.names cls) s3.heap.objs.size fp s3 H3) ([]++la fp s7.heap) Zz H' s'->(clr Y).length=Zz.length->(∀ (i:Nat) v,(clr Y)[i]?=some (some v)->Zz[i]?=some (some v))->(∃ m ys',m<n/\W (i+1) m ys' H') ->
     ∃ m,m<n/\∃ i ys H',Inv (blk X scope (cellsFrom (s3.heap.objs.size+1) scope.names cls) s3.heap.objs.size fp s3 H3) [] (clr Y) H' s'/\tn i s'.heap/\(∀ b∈fp,H' b=none)/\W i m ys H':=fun {Zz H' s'} J el ew hw=>by
    obtain⟨m,ys',hm,w8⟩:=hw;refine#[m,hm,i+1,ys',H',J.jX.weak el ew,T.keep _ _ _ st7 fun b hb o e=>(J.pin (b,o) (Q7 _ (Q7 _ (gR hb e)))).1,fun b hb=>?_,w8];obtain⟨o,e,d⟩:=T.obj _ _ st7 b hb;exact(J.pin (b,o) (Q7 _ (Q7 _ (gR hb e)))).2.1
   refine thn (B.htg _ s3.heap.objs.size fp s3 H3 _ s7 (clr Y) H7 x u _ I7' r7 (B.B8 x Y H7 _ (step x H7 y7))) fun _ s8 ⟨ZK,H8,I8,q8,el8,ew8⟩=>?_;refine thn (B.htc _ s3.heap.objs.size fp s3 H3 _ s8 ZK H8 _ I8 q8) fun ok s9 ⟨H9,I9,q9⟩=>?_
   cases ok with
   |false=>
    have q9:∃ m',m'<n/\W (i+1) m' ys H9:=q9;obtain⟨m',hm,w9⟩:=q9;exact back I9 el8 ew8 ⟨m',ys,hm,w9⟩
   |true=>
    refine thn (B.hte _ s3.heap.objs.size fp s3 H3 _ s9 ZK H9 _ I9 q9) fun v s10 ⟨y,H10,I10,r10,hl10,hz,m',hm,w10⟩=>?_;refine thn (qi (X:=blk X scope (cellsFrom (s3.heap.objs.size+1) scope.names cls) s3.heap.objs.size fp s3 H3) _ s10 ZK H10 (.ref s2.heap.objs.size) [y] (.ref s2.heap.objs.size) [v] (fun _ H'=>H'=upd H10 s2.heap.objs.size (.lst (ys++[y]))) I10 rfl (.cons r10 .nil) ⟨_,ys,y,rfl,rfl,hl10,hz,rfl⟩) fun _ s11 ⟨_,H11,I11,_,e11⟩=>?_;subst e11;exact back I11 el8 ew8 ⟨m',_,hm,w10⟩
 exact codeAny_compStart_list loop (T.self _ 0 _ _ _ st4 loop)
def uZ{elt tg iter:Expr}{ifs:List Expr}{pos:Pos}{wi:TI}{clr:St->St}{g:TG}{tc:TT}{te:TE}{CM:Cx->Prop}(hc:∀ {pins:List (Addr × Obj)} {Y:St} {H:Hp} {s:Shared} (cls:List (Str × Addr)) (C:Addr) (fp:List Addr),Inv X pins Y H s->CM (blk X scope cls C fp s H))(S:gA scope X.env.scope cls X.env.cells)(hclos:closureFor scope X.env=pure cls)
 (hi:PI' CM X tg iter wi)(B:qP X scope tg ifs elt clr g tc te)(hs:∀ x,foldedSetIterable iter X.env x=pure x):PE X (.ListComp elt [⟨tg,iter,ifs,0⟩] scope pos) (j9 wi clr g tc te):=by
 k_ne;rw[eval_ListComp];refine wpAny_comprehension_free (use:=none) rfl hs hclos S.kind S.loc (qh (RR:=fun acc C=>compPost (model X.prog X.w) X.A X.xe none (EP X pins Y Q) acc C) hc S hi B I h ?_);intro l C H' s' J hn c0 c1 c2 c3 c4 q;obtain⟨m,hn⟩:=hn;exact#[m,hn,fun h' sb=>#[.ref l,H',J.turned (it:=C) (h':=h') (t':=s'.toks) (fun b o hb e=>(sb.2 b hb).trans e) c0 (Ne.symm (Ne.symm c1)) (.inr c2) c3 c4,rfl,q]]
abbrev Jh(i:Nat)(t:TE):TS:=fun D Y H=>t Y H fun v H1=>D.nx (Y.set i (some v)) H1
def v5(hc:X.calm=true)(hN:X.N.Nodup)(hiy:X.N[i]?=some y)(hy:X.env.scope.names.lookup y=some .local)
 (S:gA scope X.env.scope cls X.env.cells)(hclos:closureFor scope X.env=pure cls)
 (hi:PI X tg iter wi)(B:qP X scope tg ifs elt clr g tc te)(hs:∀ x,foldedSetIterable iter X.env x=pure x)
 (hsw:swapsWith (.ListComp elt [⟨tg,iter,ifs,0⟩] scope pos) (some (.Name y py)) spos.line X.env=pure true) :
  PS X (.Assign [.Name y py] (.ListComp elt [⟨tg,iter,ifs,0⟩] scope pos) spos) (Jh i (j9 wi clr g tc te)):=by
 intro pins s Y H D I h
 have back:∀ (l C:Addr) (H':Hp) (s':Shared),Inv X pins Y H' s'->(∃ m,s'.heap.Ns C m)->H' C=none->C≠X.env.locals->X.s₀.heap.objs.size<=C->(∀ x c,X.env.cells.lookup x=some c->c≠C)->(∀ p∈X.pn++pins,p.1≠C)->D.nx (Y.set i (some (.ref l))) H' ->
   compPost (model X.prog X.w) X.A X.xe (some (assign (.Name y py) X.env)) (fun _ s'=>SP X pins D .next s') (.ref l) C (.ok .next) s':=by
  intro l C H' s' J hn c0 c1 c2 c3 c4 q;obtain⟨m,hn⟩:=hn;show wpAny _ X.A (assign (.Name y py) X.env (.ref l)) _ _ s';refine wpAny_assign_Name (qu (v:=.ref l) J hN hiy (.inl hy) rfl (fun s2 J2 ⟨a,sb,ha⟩=>?_) (.inr hy))
  have hne:C≠a:=by
   rcases ha with z | z
   ·rw[z];exact c1
   ·exact(c3 _ _ z).symm
  exact#[m,hn.sameBut sb hne,fun h' sb'=>#[Y.set i (some (.ref l)),H',J2.turned (it:=C) (h':=h') (t':=s2.toks) (fun b o hb e=>(sb'.2 b hb).trans e) c0 c1 (.inr c2) c3 c4,q]]
 have core:=qh (RR:=fun acc C=>compPost (model X.prog X.w) X.A X.xe (some (assign (.Name y py) X.env)) (fun _ s'=>SP X pins D .next s') acc C) (pos:=pos) (fun _ _ _ _=>hc) S hi B I h back;have whole:=wpAny_comprehension_free (e:=.ListComp elt [⟨tg,iter,ifs,0⟩] scope pos) (newAcc:=newList []) (use:=some (assign (.Name y py) X.env)) (Q:=fun _ s'=>SP X pins D .next s') (pos:=iter.pos) rfl hs hclos S.kind S.loc core;rw[exec_Assign_Name_used (hs:=hsw)];apply QT;apply wpAny_standAt;apply QT;apply QT;refine thn whole fun _ s' hq=>?_;apply QW;apply QW;exact hq
end
end L2
namespace RS
open PySem PySem.Spec PyProof.Rows L2
def kB:∀ (names:List (Str × NameKind)) (acc:List (Str × Addr)),(∀ x,(x,NameKind.free)∈names->∃ c,env.cells.lookup x=some c)->(∀ x c,acc.lookup x=some c->env.cells.lookup x=some c) ->
  ∃ cls,(forIn names acc fun(p:Str × NameKind) cs=>match p with | (name,kind)=>if(kind == NameKind.free)=true then do let c <- cellOf env name;pure (ForInStep.yield ((name,c)::cs))else pure (ForInStep.yield cs):Sem (List (Str × Addr)))=pure cls /\
   (∀ x c,cls.lookup x=some c->env.cells.lookup x=some c)/\(∀ x,(acc.lookup x).isSome=true\/(x,NameKind.free)∈names->∃ c,cls.lookup x=some c)
 | [],acc,_,ha=>⟨acc,rfl,ha,fun x hx=>by
   rcases hx with h | h
   ·exact Option.isSome_iff_exists.mp h
   ·simp at h⟩
 | (n,k)::r,acc,hn,ha=>by
  by_cases hk:k=.free
  ·subst hk;obtain⟨c,hc⟩:=hn n Zc
   have ha':∀ x c',((n,c)::acc).lookup x=some c'->env.cells.lookup x=some c':=fun x c' e=>by
    rw[List.lookup_cons]at e
    cases hx:x == n with
    |true=>
     rw[hx]at e;cases e;rw[show x=n by simpa using hx];exact hc
    |false=>
     rw[hx]at e;exact ha x c' e
   obtain⟨cls,h1,h2,h3⟩:=kB r ((n,c)::acc) (fun x hx=>hn x (Q4 _ hx)) ha';refine#[cls,?_,h2,fun x hx=>h3 x ?_]
   ·rw[List.forIn_cons]
    have hcell:cellOf env n=pure c:=by unfold cellOf;rw[hc]
    simp only[beq_self_eq_true,if_true,hcell];exact h1
   ·rcases hx with h | h
    ·left;rw[List.lookup_cons];split<;>simp_all
    ·rcases List.mem_cons.mp h with e | e
     ·cases e;left;simp[List.lookup_cons]
     ·exact .inr e
  ·obtain⟨cls,h1,h2,h3⟩:=kB r acc (fun x hx=>hn x (Q4 _ hx)) ha;refine#[cls,?_,h2,fun x hx=>h3 x ?_]
   ·rw[List.forIn_cons]
    have:(k == NameKind.free)=false:=by simpa using hk
    simp only[this,Bool.false_eq_true,if_false];exact h1
   ·rcases hx with h | h
    ·exact .inl h
    ·rcases List.mem_cons.mp h with e | e
     ·cases e;exact absurd rfl hk
     ·exact .inr e
def xm(h:∀ x,(x,NameKind.free)∈scope.names->∃ c,env.cells.lookup x=some c) :
  ∃ cls,closureFor scope env=pure cls/\(∀ x c,cls.lookup x=some c->env.cells.lookup x=some c)/\(∀ x,scope.names.lookup x=some .free->∃ c,cls.lookup x=some c):=by
 obtain⟨cls,h1,h2,h3⟩:=kB (env:=env) scope.names [] h (fun x c e=>by simp at e);refine#[cls,?_,h2,fun x hx=>h3 x (.inr (PySem.mem_of_lookup hx))];unfold closureFor;simp only[bind_pure_comp]at h1 ⊢;rw[h1];rfl
section
abbrev oS(K:W.Frag)(n:Nat)(t:TGs):TG:=fun v Y H Q=>∃ a xs,v=.ref a/\SqL K H a xs/\xs.length=n/\t xs Y H Q
def xy(hc:X.calm=true)(h:PGs X es t)(hn:(assignEach es X.env).length=n)(hst:(assignEach es X.env).findIdx? (·.1)=none):PG X (.Tuple es k pos) (oS X.K n t):=by
 intro pins s Y H v u Q I r hw;obtain⟨a,xs,e1,hq,hl,hw⟩:=hw;subst e1;cases r;obtain⟨its,rv,ht,hz⟩:=I.list hq
 have hsz:(assignEach es X.env).length=its.toArray.size:=by rw[hn,<-hl,rv.length,List.size_toArray]
 rw[PyProof.Rows.assign_Tuple];refine QT (wpAny_standAt ?_);unfold unpack;rw[hsz,hst];refine QT (wpAny_holding (W.kun_itemsOf (I.ok.hd.1 hc) ht.isList fun h' hx=>?_));have I1:Inv X pins Y H { s with heap:=h' }:=I.kept (t':=s.toks) fun b o e=>hx b o (Q5 (QY e)) e;exact h pins _ Y H xs _ Q I1 (by simpa using rv) hw
end
section
def yS(h:PG X tgE t)(h':PG X tgE t'):PG X tgE (fun v Y H Q=>t v Y H Q\/t' v Y H Q):=by
 intro pins s Y H v u Q I r hw;rcases hw with q | q
 ·exact h pins s Y H v u Q I r q
 ·exact h' pins s Y H v u Q I r q
end
abbrev gs:List Nat->TGs
 | []=>AR
 | i::r=>qS (qU i) (gs r)
abbrev gT(K:W.Frag):List Nat->TG
 | [i]=>qU i
 | is=>fun v Y H Q=>mX K is.length (gs is) v Y H Q\/oS K is.length (gs is) v Y H Q
abbrev dt:List Nat->List V->L2.St->L2.St
 | i::is,v::vs,Y=>dt is vs (Y.set i (some v))
 | _,_,Y=>Y
abbrev eY:List Nat->List RL.D->RL.St->RL.St
 | i::is,d::ds,Y=>eY is ds (Y.set i (some d))
 | _,_,Y=>Y
def gw:∀ {is:List Nat} {ds:List RL.D} {Y ZA:RL.St},RL.bA is ds Y=some ZA->is.length=ds.length/\ZA=eY is ds Y
 | [],[],Y,ZA,h=>by cases h;exact#[rfl,rfl]
 | [],d::ds,Y,ZA,h=>by cases h
 | i::is,[],Y,ZA,h=>by cases h
 | i::is,d::ds,Y,ZA,h=>by
  obtain⟨h1,h2⟩:=gw (is:=is) (ds:=ds) (Y:=Y.set i (some d)) h;exact#[by simp[h1],h2]
def jh:∀ {is:List Nat} {vs:List V} {Y:L2.St} {H:Hp} {Q:L2.St->Hp->Prop},is.length=vs.length->Q (dt is vs Y) H->gs is vs Y H Q
 | [],[],Y,H,Q,_,q=>#[rfl,q]
 | [],_::_,_,_,_,h,_=>by simp at h
 | _::_,[],_,_,_,h,_=>by simp at h
 | i::is,v::vs,Y,H,Q,h,q=>#[v,vs,rfl,jh (is:=is) (by simpa using h) q]
def BS{K:W.Frag}(h:RL.bf tg d Zy=some ZQ)(r:Rep nP K H d v) :
  ∃ ds vs,ZQ=eY tg ds Zy/\tg.length=ds.length/\ae nP K H ds vs/\(d.imm=true->RL.aw ds=true)/\∀ (Y:L2.St) (Q:L2.St->Hp->Prop),Q (dt tg vs Y) H->gT K tg v Y H Q:=by
 unfold RL.bf at h;split at h
 ·rename_i i;cases h;exact#[[d],[v],rfl,rfl,ae.cons r ae.nil,fun z=>by simp[RL.aw,z],fun Y Q q=>q]
 ·rename_i hne
  have key:gT K tg=fun v Y H Q=>mX K tg.length (gs tg) v Y H Q\/oS K tg.length (gs tg) v Y H Q:=by
   unfold gT;split
   ·rename_i i;exact absurd rfl (hne i)
   ·rfl
  rw[key];split at h
  ·rename_i ds;obtain⟨h1,h2⟩:=gw h;obtain⟨p,xs,rfl,e2,e3⟩:=bo r;exact#[ds,xs,h2,h1,e3,fun z=>by rw[RL.D.imm]at z;exact z,fun Y Q q=>.inl #[p,xs,rfl,SqT.of e2,by rw[<-e3.length,h1],jh (h1.trans e3.length) q]]
  ·rename_i ds;obtain⟨h1,h2⟩:=gw h;obtain⟨p,xs,rfl,_,e2,e3⟩:=aE r;exact⟨ds,xs,h2,h1,e3,fun z=>(by cases z),fun Y Q q=>.inr #[p,xs,rfl,SqL.of e2,by rw[<-e3.length,h1],jh (h1.trans e3.length) q]⟩
  ·cases h
def t8:∀ (is:List Nat) (vs:List V) (Y:L2.St),(dt is vs Y).length=Y.length
 | [],_,_=>rfl
 | _::_,[],_=>rfl
 | i::is,v::vs,Y=>by rw[dt,t8 is vs,List.length_set]
def pH:∀ (is:List Nat) (vs:List V) (Y:L2.St) (j:Nat),is.contains j=false->(dt is vs Y)[j]?=Y[j]?
 | [],_,_,_,_=>rfl
 | _::_,[],_,_,_=>rfl
 | i::is,v::vs,Y,j,h=>by
  rw[List.contains_cons,Bool.or_eq_false_iff]at h;rw[dt,pH is vs _ j h.2,QZ (by intro e;subst e;simp at h)]
def nv:∀ (is:List Nat) (vs:List RL.D) (Y:RL.St),(eY is vs Y).length=Y.length
 | [],_,_=>rfl
 | _::_,[],_=>rfl
 | i::is,v::vs,Y=>by rw[eY,nv is vs,List.length_set]
def lK:∀ (is:List Nat) (vs:List RL.D) (Y:RL.St) (j:Nat),is.contains j=false->(eY is vs Y)[j]?=Y[j]?
 | [],_,_,_,_=>rfl
 | _::_,[],_,_,_=>rfl
 | i::is,v::vs,Y,j,h=>by
  rw[List.contains_cons,Bool.or_eq_false_iff]at h;rw[eY,lK is vs _ j h.2,QZ (by intro e;subst e;simp at h)]
abbrev RVx(T:List Nat)(K:W.Frag)(Zy:RL.St)(Y:L2.St)(H:Hp):Prop:=Zy.length<=Y.length/\∀ (i:Nat) (d:RL.D),T.contains i=false->Zy[i]?=some (some d)->∃ v,Y[i]?=some (some v)/\Rep nP K H d v
def RVx.set{K:W.Frag}(h:RVx (i::T) K Zy Y H)(r:Rep nP K H d v):RVx T K (Zy.set i (some d)) (Y.set i (some v)) H:=⟨by simpa using h.1,fun j dj hT e=>by
 by_cases hj:j=i
 ·subst hj
  have hlt:j<Zy.length:=by
   have:=(List.getElem?_eq_some_iff.mp e).1;simpa using this
  rw[Q2 hlt]at e;cases e;exact#[v,by rw[Q2 (Q0 hlt h.1)],r]
 ·rw[QZ (Ne.symm hj)]at e ⊢
  exact h.2 j dj (by rw[List.contains_cons,hT,Bool.or_false];simpa using hj) e⟩
def RVx.bA{K:W.Frag}:∀ {is:List Nat} {ds:List RL.D} {vs:List V} {Zy:RL.St} {Y:L2.St},RVx is K Zy Y H->is.length=ds.length->ae nP K H ds vs->RV0 K (eY is ds Zy) (dt is vs Y) H
 | [],_,_,_,_,h,_,_=>#[h.1,fun i d e=>h.2 i d rfl e]
 | i::is,[],_,_,_,_,hl,_=>by simp at hl
 | i::is,d::ds,vs,Zy,Y,h,hl,r=>by
  rw[ae]at r;obtain⟨v,t,rfl,r1,r2⟩:=r;rw[eY,dt];exact RVx.bA (h.set r1) (by simpa using hl) r2
def E1{K:W.Frag}(h:gT K tg v Y H Q):∃ vs,tg.length=vs.length/\Q (dt tg vs Y) H/\∀ Q':L2.St->Hp->Prop,Q' (dt tg vs Y) H->gT K tg v Y H Q':=by
 have inv:∀ (is:List Nat) (xs:List V) (Y:L2.St) (Q:L2.St->Hp->Prop),gs is xs Y H Q->is.length=xs.length/\Q (dt is xs Y) H:=by
  intro is
  induction is with
  | nil=>intro xs Y Q h;obtain⟨rfl,q⟩:=h;exact#[rfl,q]
  |cons i r ih=>
   intro xs Y Q h;obtain⟨v,t,rfl,q⟩:=h;obtain⟨h1,h2⟩:=ih t _ Q q;exact#[by simp[h1],h2]
 unfold gT at h;split at h
 ·rename_i i;exact#[[v],rfl,h,fun Q' q=>q]
 ·rename_i hne
  have key:gT K tg=fun v Y H Q=>mX K tg.length (gs tg) v Y H Q\/oS K tg.length (gs tg) v Y H Q:=by
   unfold gT;split
   ·rename_i i;exact absurd rfl (hne i)
   ·rfl
  rw[key]
  rcases h with⟨a,xs,rfl,hq,hl,hg⟩ | ⟨a,xs,rfl,hq,hl,hg⟩
  ·obtain⟨h1,h2⟩:=inv _ _ _ _ hg;exact#[xs,h1,h2,fun Q' q=>.inl #[a,xs,rfl,hq,hl,jh h1 q]]
  ·obtain⟨h1,h2⟩:=inv _ _ _ _ hg;exact#[xs,h1,h2,fun Q' q=>.inr #[a,xs,rfl,hq,hl,jh h1 q]]
abbrev gL(tg:List Nat)(Y:L2.St):L2.St:=Y.mapIdx fun i o=>if tg.contains i then none else o
def tG(tg:List Nat)(Y:L2.St):(gL tg Y).length=Y.length:=by simp[gL]
def vz(h:tg.contains i=false):(gL tg Y)[i]?=Y[i]?:=by
 unfold gL;rw[List.getElem?_mapIdx]
 cases Y[i]? with
 | none=>rfl
 | some o=>simp only[Option.map_some,h,Bool.false_eq_true,if_false]
def uX(h:tg.contains i=true):(gL tg Y)[i]?≠some (some v):=by
 unfold gL;rw[List.getElem?_mapIdx]
 cases Y[i]? with
 | none=>simp
 | some o=>simp only[Option.map_some,h,if_true];intro z;cases z
section comp
variable{X:Cx}
structure lL(X:Cx)(cl:RL.Cl)(scope:Scope)(tgE:Expr)(tg:List Nat)(elt:Expr)(e':RL.E)(tcs:TT)(ifs:List Expr):Prop where
 htg:∀ cls C fp s H,PG (blk X scope cls C fp s H) tgE (gT X.K tg)
 htc:∀ cls C fp s H pins s' Y H' Q,Inv (blk X scope cls C fp s H) pins Y H' s'->tcs Y H' Q->wpAny (model X.prog X.w) X.A (iL ifs (compEnvC scope cls C X.env)) (TP (blk X scope cls C fp s H) pins Y Q) (fun _ _=>False) s'
 hte:∀ cls C fp s H,SE (blk X scope cls C fp s H) cl elt e'
 cover:∀ (i:Nat) (x:Str),X.N[i]?=some x->scope.names.lookup x=some .local\/scope.names.lookup x=some .cell->tg.contains i=true
def lL.blk{tcs:TT}(B:lL X cl scope tgE tg elt e' tcs ifs):qP X scope tgE ifs elt (gL tg) (gT X.K tg) tcs (tE X.K cl e') where
 htg:=B.htg
 htc:=B.htc
 hte:=B.hte
 G3:=fun Y hl=>⟨tG tg Y,fun i x v h1 h2=>by
  by_cases hc:tg.contains i=true
  ·exact absurd h2 (uX hc)
  ·simp only[Bool.not_eq_true]at hc;rw[vz hc]at h2;refine#[h2,fun z=>?_,fun z=>?_]
   ·rw[B.cover i x h1 (.inl z)]at hc;cases hc
   ·rw[B.cover i x h1 (.inr z)]at hc
    cases hc⟩
 B8:=fun x Y H Q h=>by
  obtain⟨vs,h1,h2,h3⟩:=E1 h;refine h3 _ ⟨h2,(t8 _ _ _).symm,fun i v e=>?_⟩;by_cases hc:tg.contains i=true
  ·exact absurd e (uX hc)
  ·simp only[Bool.not_eq_true]at hc;rw[pH _ _ _ _ hc];exact e
def x9(h:RL.cq f tg Y (d::r)=some ys):∃ ZA y ys',RL.bf tg d Y=some ZA/\f ZA=some y/\RL.cq f tg Y r=some ys'/\RL.kC y ys'=some ys:=by
 rw[RL.cq]at h;obtain⟨ZA,h1,h⟩:=bind_some h;obtain⟨y,h2,h⟩:=bind_some h;obtain⟨ys',h3,h⟩:=bind_some h;exact#[ZA,y,ys',h1,h2,h3,h]
def vp(rv:RV0 X.K Zy Y H)(ei:RL.b9 cl Zy it=some ds)(hz:ds.length<=RL.most)(hm:RL.cq f tg Zy ds=some total)
 (ht:∀ ZA ZJ H y (Q:Bool->Hp->Prop),RV0 X.K ZA ZJ H->f ZA=some y->(∀ k H',a6 H H'->(if k=true then ∃ d,y=some d/\RL.ev cl ZA e'=some d else y=none)->Q k H')->tcs ZJ H Q)
 (k:∀ l H',a6 H H'->H l=none->(∃ xs,H' l=some (.lst xs)/\ae nP X.K H' total xs)->Q (.ref l) H'):j9 (tI X.K cl it) (gL tg) (gT X.K tg) tcs (tE X.K cl e') Y H Q:=by
 refine#[Zy,ds,rv,ei,fun J H1 s1 src l hl=>?_];obtain⟨ok,_⟩:=src
 refine⟨fun i m xs H2=>∃ don rest,m=ds.length-i/\i<=ds.length/\a6 H1 H2/\H2 l=some (.lst xs)/\ae (fun p=>p=l) X.K H2 don xs/\RL.cq f tg Zy (ds.drop i)=some rest/\don++rest=total/\don.length<=i,
  ⟨_,[],total,rfl,Nat.zero_le _,a6.bP hl,bp,ae.nil,hm,rfl,QV _⟩,?_⟩
 rintro i m xs H2 ⟨don,rest,rfl,hi,s2,hl2,rs,hr,htot,hdn⟩;refine#[hl2,?_];have off:Off nP H1 H2:=Off.same s2;by_cases hlt:i<ds.length
 ·refine .inr #[ok.go H2 i off hlt,fun x H3 y=>?_]
  have hd:ds[i]?=some ds[i]:=by simp[hlt]
  obtain⟨s3,rp⟩:=ok.yld H2 i ds[i] x H3 off hd y;have rp:=rp (.inr s2);rw[List.drop_eq_getElem_cons hlt]at hr;obtain⟨ZA,y1,ys',h1,h2,h3,h4⟩:=x9 hr;obtain⟨dv,vs,e1,e2,e3,_,e5⟩:=BS h1 rp;refine e5 _ _ ?_;have rv3:RV0 X.K Zy Y H3:=rv.same ((s1.trans s2).trans s3)
  have rvx:RVx tg X.K Zy (gL tg Y) H3:=#[by rw[tG];exact rv3.1,fun j d hT e=>by rw[vz hT];exact rv3.2 j d e]
  have rv1:RV0 X.K ZA (dt tg vs (gL tg Y)) H3:=by rw[e1];exact rvx.bA e2 e3
  refine ht ZA _ H3 y1 _ rv1 h2 fun t H5 s5 hy=>?_;have hl5:H5 l=some (.lst xs):=s5 _ _ (s3 _ _ hl2);have rs5:ae (fun p=>p=l) X.K H5 don xs:=(rs.same s3).same s5
  cases t with
  |true=>
   obtain⟨d,rfl,hv⟩:=(show ∃ d,y1=some d/\RL.ev cl ZA e'=some d from hy)
   have him:d.imm=true/\rest=d::ys':=by
    unfold RL.kC at h4;dsimp only at h4;split at h4
    ·rename_i hh;cases h4;exact#[hh,rfl]
    ·cases h4
   refine fZ ⟨ZA,d,rv1.same s5,hv,fun v H6 r6=>#[r6.same _ _ hl5,?_,ds.length-(i+1),by lia,don++[d],ys',rfl,hlt,?_,bp,?_,h3,?_,?_]⟩
   ·rw[<-rs.length];exact Q0 (Nat.lt_of_le_of_lt hdn (Q0 hlt hz)) (Nat.le_of_lt ∅)
   ·intro b o e;have hb:b≠l:=aO e hl;rw[aV hb];exact r6.same _ _ (s5 _ _ (s3 _ _ (s2 _ _ e)))
   ·exact ae.upd (P:=fun p=>p=l) (r6.same _ _ hl5) (.inl #[_,rfl]) rfl (ae.append (rs5.same r6.same) (ae.cons (r6.rep.imm him.1) ae.nil))
   ·rw[<-htot,him.2,Q6];rfl
   ·rw[List.length_append,List.length_singleton];lia
  |false=>
   have hy:y1=none:=hy;subst hy
   have hr2:rest=ys':=by
    unfold RL.kC at h4;dsimp only at h4;cases h4;rfl
   refine gH ⟨ds.length-(i+1),by lia,don,ys',rfl,hlt,(s2.trans s3).trans s5,hl5,rs5,h3,by rw[<-htot,hr2],by lia⟩
 ·have e:i=ds.length:=by lia
  subst e;refine .inl #[ok.stop H2 off,k l H2 (s1.trans s2) (s1.free hl) #[xs,hl2,?_]];rw[List.drop_length,RL.cq]at hr;cases hr;rw[Ze]at htot;rw[<-htot];exact ae.weak (fun _ z=>z.elim) rs
end comp
section comp
variable{X:Cx}
structure pF(scope sc:Scope):Prop where
 kind:scope.kind=.function
 own:∀ x∈scope.names,x.2=.cell->scope.names.lookup x.1=some .cell
 loc:∀ x∈scope.names,x.2=.local->scope.names.lookup x.1=some .local
 vis:∀ x∈scope.names,x.2=.free->sc.names.lookup x.1=some .cell\/sc.names.lookup x.1=some .free
def gX(S:pF scope X.env.scope)(I:Inv X pins Y H s):∃ cls,closureFor scope X.env=pure cls/\gA scope X.env.scope cls X.env.cells:=by
 obtain⟨cls,h1,h2,h3⟩:=xm (env:=X.env) (scope:=scope) fun x hx=>I.ok.has x (S.vis _ hx rfl);exact#[cls,h1,S.kind,S.own,S.loc,h2,h3,fun x hx=>S.vis _ (PySem.mem_of_lookup hx) rfl]
def rj(sm:a6 H H')(hl:H l=none)(h:∃ xs,H' l=some (.lst xs)/\ae nP X.K H' total xs)(hav:∀ M,RL.avE M e=false):Res X.K Zy Y H e (.lst total) (.ref l) H' where
 same:=sm
 rep:=by
  obtain⟨xs,h1,h2⟩:=h;rw[Rep];exact#[l,xs,rfl,fun z=>z,h1,h2]
 fresh:=fun _ _ a z=>by cases z;exact hl
 av:=fun M z=>by rw[hav M]at z;cases z
abbrev oO:TT:=fun _ H Q=>Q true H
def rW(h:tE X.K cl (.compA e' tg it) Y H Q):j9 (tI X.K cl it) (gL tg) (gT X.K tg) oO (tE X.K cl e') Y H Q:=by
 fin2;obtain⟨ds,e1,e⟩:=bind_some e;obtain⟨ds',e2,e⟩:=bind_some e;obtain⟨total,e3,e4⟩:=map_some e;unfold RL.fits at e2;split at e2
 ·rename_i hz;cases e2;subst e4;refine vp (f:=fun ZA=>(RL.ev cl ZA e').map some) rv e1 hz e3 (fun ZA ZJ H y Q rv1 hy q=>?_) fun l H' sm hl hx=>k _ _ (rj sm hl hx fun _=>rfl);obtain⟨d,h1,h2⟩:=map_some hy;exact q true H (a6.refl H) (fZ ⟨d,h2.symm,h1⟩)
 ·cases e2
def sf(h:tE X.K cl (.comp e' tg it c') Y H Q):j9 (tI X.K cl it) (gL tg) (gT X.K tg) (tT X.K cl c') (tE X.K cl e') Y H Q:=by
 fin2;obtain⟨ds,e1,e⟩:=bind_some e;obtain⟨ds',e2,e⟩:=bind_some e;obtain⟨total,e3,e4⟩:=map_some e;unfold RL.fits at e2;split at e2
 ·rename_i hz;cases e2;subst e4;refine vp rv e1 hz e3 (fun ZA ZJ H y Q rv1 hy q=>?_) fun l H' sm hl hx=>k _ _ (rj sm hl hx fun _=>rfl);obtain⟨t,h1,h2⟩:=bind_some hy;refine#[ZA,t,rv1,h1,fun H' sm=>q t H' sm ?_]
  cases t with
  |true=>
   obtain⟨d,h3,h4⟩:=map_some (show(RL.ev cl ZA e').map some=some y from h2);exact fZ ⟨d,h4.symm,h3⟩
  |false=>
   cases(show(some none:Option (Option RL.D))=some y from h2);exact gH rfl
 ·cases e2
def Ai(hc:X.calm=true)(S:pF scope X.env.scope)(hi:SI X cl tgE iter it)(B:lL X cl scope tgE tg elt e' oO [])(hs:∀ x,foldedSetIterable iter X.env x=pure x):SE X cl (.ListComp elt [⟨tgE,iter,[],0⟩] scope pos) (.compA e' tg it):=by
 k_ne;obtain⟨cls,h1,h2⟩:=gX S I;exact uZ (fun _ _ _ _=>hc) h2 h1 hi B.blk hs pins s Y H Q I (rW h)
def Bh(hc:∀ {pins:List (Addr × Obj)} {Y:L2.St} {H:Hp} {s:Shared} (cls:List (Str × Addr)) (C:Addr) (fp:List Addr),Inv X pins Y H s->CM (blk X scope cls C fp s H))(S:pF scope X.env.scope)(hi:PI' CM X tgE iter (tI X.K cl it))(B:lL X cl scope tgE tg elt e' (tT X.K cl c') [c])(hs:∀ x,foldedSetIterable iter X.env x=pure x):SE X cl (.ListComp elt [⟨tgE,iter,[c],0⟩] scope pos) (.comp e' tg it c'):=by
 k_ne;obtain⟨cls,h1,h2⟩:=gX S I;exact uZ hc h2 h1 hi B.blk hs pins s Y H Q I (sf h)
abbrev SA(X:Cx)(cl:RL.Cl)(st:Stmt)(i:Nat)(e':RL.E):Prop:=PS X st (fun D Y H=>tE X.K cl e' Y H fun v H1=>D.nx (Y.set i (some v)) H1)
def PS.weak{st:Stmt}(h:PS X st t)(w:∀ D Y H,t' D Y H->t D Y H):PS X st t':=fun pins s Y H D I q=>h pins s Y H D I (w D Y H q)
def PSs.weak{st:List Stmt}(h:PSs X st t)(w:∀ D Y H,t' D Y H->t D Y H):PSs X st t':=fun pins s Y H D I q=>h pins s Y H D I (w D Y H q)
def AG(hc:X.calm=true)(hN:X.N.Nodup)(hiy:X.N[i]?=some y)(hy:X.env.scope.names.lookup y=some .local)(S:pF scope X.env.scope)(hi:SI X cl tgE iter it)(B:lL X cl scope tgE tg elt e' oO [])(hs:∀ x,foldedSetIterable iter X.env x=pure x)
 (hsw:swapsWith (.ListComp elt [⟨tgE,iter,[],0⟩] scope pos) (some (.Name y py)) spos.line X.env=pure true):SA X cl (.Assign [.Name y py] (.ListComp elt [⟨tgE,iter,[],0⟩] scope pos) spos) i (.compA e' tg it):=by
 intro pins s Y H D I h;obtain⟨cls,h1,h2⟩:=gX S I;exact v5 hc hN hiy hy h2 h1 hi B.blk hs hsw pins s Y H D I (rW h)
def AD(hc:X.calm=true)(hN:X.N.Nodup)(hiy:X.N[i]?=some y)(hy:X.env.scope.names.lookup y=some .local)(S:pF scope X.env.scope)(hi:SI X cl tgE iter it)(B:lL X cl scope tgE tg elt e' (tT X.K cl c') [c])(hs:∀ x,foldedSetIterable iter X.env x=pure x)
 (hsw:swapsWith (.ListComp elt [⟨tgE,iter,[c],0⟩] scope pos) (some (.Name y py)) spos.line X.env=pure true):SA X cl (.Assign [.Name y py] (.ListComp elt [⟨tgE,iter,[c],0⟩] scope pos) spos) i (.comp e' tg it c'):=by
 intro pins s Y H D I h;obtain⟨cls,h1,h2⟩:=gX S I;exact v5 hc hN hiy hy h2 h1 hi B.blk hs hsw pins s Y H D I (sf h)
def Ab(hN:X.N.Nodup)(hiy:X.N[i]?=some y)(hx:Loc X.env.scope y)(he:SE X cl e e')(hf:X.fn y=true\/X.env.scope.names.lookup y=some .local)(hs:swapsWith e (some (.Name y py)) spos.line X.env=pure false)(hf2:True):SA X cl (.Assign [.Name y py] e spos) i e':=by
 exact Hz hN hiy hx he hs hf
end comp
abbrev bG(M:List Nat)(Y:L2.St):Addr->Prop:=fun a=>∃ i,M.contains i=true/\Y[i]?=some (some (.ref a))
abbrev Own(K:W.Frag)(H:Hp)(d:RL.D)(v:V):Prop:=l0 d=true/\RL.aB d=true/\Rep nP K H d v
structure RVm(K:W.Frag)(M:List Nat)(Zy:RL.St)(Y:L2.St)(H:Hp):Prop where
 len:Zy.length=Y.length
 val:∀ (i:Nat) (d:RL.D),Zy[i]?=some (some d)->∃ v,Y[i]?=some (some v)/\(if M.contains i=true then Own K H d v else Rep (bG M Y) K H d v)
 non:∀ (i:Nat) (v:V),Y[i]?=some (some v)->∃ d,Zy[i]?=some (some d)
 sep:∀ (i j:Nat) (a:Addr),M.contains i=true->M.contains j=true->Y[i]?=some (some (.ref a))->Y[j]?=some (some (.ref a))->i=j
abbrev Fr'(M:List Nat)(Y:L2.St)(H:Hp)(Zz:L2.St)(H':Hp):Prop:=(∀ b o,H b=some o->¬ bG M Y b->H' b=some o/\¬ bG M Zz b)/\∀ j,2<=M.count j->Zz[j]?=Y[j]?
def Fr'.trans(a:Fr' M Y H ZA H1)(b:Fr' M ZA H1 ZC H2):Fr' M Y H ZC H2:=#[fun c o e n=>b.1 c o (a.1 c o e n).1 (a.1 c o e n).2,fun j hj=>(b.2 j hj).trans (a.2 j hj)]
def Fr'.same(s:a6 H H1):Fr' M Y H Y H1:=#[fun c o e n=>#[s _ _ e,n],fun _ _=>rfl]
def lW{M:List Nat}(h:2<=M.count j):M.contains j=true:=by
 have:0<M.count j:=by lia
 simpa using List.count_pos_iff.mp this
section st
variable{K:W.Frag}
def Own.ref(h:Own K H d v):∃ a o,v=.ref a/\H a=some o/\cS o:=by
 obtain⟨m,_,r⟩:=h
 cases d with
 | lst ds=>obtain⟨a,xs,e1,_,e2,_⟩:=aE r;exact#[a,_,e1,e2,.inl #[_,rfl]]
 | dK ks ds=>rw[Rep]at r;obtain⟨a,xs,e1,_,e2,_⟩:=r;exact#[a,_,e1,e2,.inr (.inl #[_,rfl])]
 | dT ks ds=>rw[Rep]at r;obtain⟨a,xs,e1,_,e2,_⟩:=r;exact#[a,_,e1,e2,.inr (.inr #[_,rfl])]
 | _=>cases m
def RVm.rv0(h:RVm K M Zy Y H):RV0 K Zy Y H:=⟨Nat.le_of_eq h.len,fun i d e=>by
 obtain⟨v,h1,h2⟩:=h.val i d e;refine#[v,h1,?_];by_cases hm:M.contains i=true
 ·rw[if_pos hm]at h2;exact h2.2.2
 ·rw[if_neg hm]at h2
  exact h2.none⟩
def RVm.Ar(h:RVm K M Zy Y H):∀ a,bG M Y a->∃ o,H a=some o/\cS o:=fun a ⟨i,hi,e⟩=>by
 obtain⟨d,hd⟩:=h.non i _ e;obtain⟨v,h1,h2⟩:=h.val i d hd;rw[if_pos hi]at h2;obtain⟨b,o,e1,e2,e3⟩:=h2.ref;rw[e]at h1;cases h1;cases e1;exact#[o,e2,e3]
def RVm.oZ(h:RVm K M Zy Y H):∀ a,bG M Y a->H a≠none:=fun a p=>by
 obtain⟨o,e,_⟩:=h.Ar a p;rw[e]
 exact fun z=>nomatch z
def Own.same(h:Own K H d v)(s:a6 H H1):Own K H1 d v:=#[h.1,h.2.1,h.2.2.same s]
def RVm.same(h:RVm K M Zy Y H)(s:a6 H H1):RVm K M Zy Y H1:=⟨h.len,fun i d e=>by
 obtain⟨v,h1,h2⟩:=h.val i d e;refine#[v,h1,?_];by_cases hm:M.contains i=true
 ·rw[if_pos hm]at h2 ⊢;exact h2.same s
 ·rw[if_neg hm]at h2 ⊢
  exact h2.same s,h.non,h.sep⟩
def bG.set(hi:M.contains i=false):bG M (Y.set i (some v))=bG M Y:=by
 funext a;apply propext;constructor
 ·rintro⟨j,hj,e⟩
  have hne:i≠j:=fun z=>by subst z;rw[hi]at hj;cases hj
  rw[QZ hne]at e;exact#[j,hj,e]
 ·rintro⟨j,hj,e⟩
  have hne:i≠j:=fun z=>by subst z;rw[hi]at hj;cases hj
  exact#[j,hj,by rw[QZ hne];exact e]
def RVm.bind(h:RVm K M Zy Y H)(hi:M.contains i=false)(r:Rep (bG M Y) K H d v):RVm K M (Zy.set i (some d)) (Y.set i (some v)) H where
 len:=by simpa using h.len
 val:=fun j dj e=>by
  rw[bG.set hi];by_cases hj:j=i
  ·subst hj
   have hlt:j<Zy.length:=by
    have:=(List.getElem?_eq_some_iff.mp e).1;simpa using this
   rw[Q2 hlt]at e;cases e;refine#[v,by rw[Q2 (by rw[<-h.len];exact hlt)],?_];rw[if_neg (by rw[hi];decide)];exact r
  ·rw[QZ (Ne.symm hj)]at e ⊢;exact h.val j dj e
 non:=fun j w e=>by
  by_cases hj:j=i
  ·subst hj
   have hlt:j<Y.length:=by
    have:=(List.getElem?_eq_some_iff.mp e).1;simpa using this
   exact#[d,by rw[Q2 (by rw[h.len];exact hlt)]]
  ·rw[QZ (Ne.symm hj)]at e ⊢;exact h.non j w e
 sep:=fun j k a hj hk e1 e2=>by
  have n1:i≠j:=fun z=>by subst z;rw[hi]at hj;cases hj
  have n2:i≠k:=fun z=>by subst z;rw[hi]at hk;cases hk
  rw[QZ n1]at e1;rw[QZ n2]at e2;exact h.sep j k a hj hk e1 e2
def Fr'.bind{i:Nat}(hi:M.contains i=false)(s:a6 H H1):Fr' M Y H (Y.set i (some v)) H1:=⟨fun b o e n=>#[s _ _ e,by rw[bG.set hi];exact n],fun j hj=>QZ (fun z=>by subst z;rw[lW hj]at hi;cases hi)⟩
end st
mutual
theorem Rep.dW{P:Addr->Prop}{K:W.Frag}{H:Hp}{a:Addr}(ha:H a=none):∀ {d:RL.D} {v:V},Rep P K H d v->Rep (fun p=>P p\/p=a) K H d v
 | .non,v,h=>by simpa[Rep]using h
 | .bl _,v,h=>by simpa[Rep]using h
 | .int _,v,h=>by simpa[Rep]using h
 | .str _,v,h=>by simpa[Rep]using h
 | .tup ds,v,h=>by
  rw[Rep]at h ⊢;obtain⟨b,xs,e1,e2,e3⟩:=h;exact#[b,xs,e1,e2,ae.dW ha e3]
 | .lst ds,v,h=>by
  rw[Rep]at h ⊢;obtain⟨b,xs,e1,e0,e2,e3⟩:=h;exact#[b,xs,e1,fun z=>z.elim e0 (fun q=>aO e2 ha q),e2,ae.dW ha e3]
 | .dK ks ds,v,h=>by
  rw[Rep]at h ⊢;obtain⟨b,xs,e1,e0,e2,el,e3⟩:=h;exact#[b,xs,e1,fun z=>z.elim e0 (fun q=>aO e2 ha q),e2,el,ae.dW ha e3]
 | .dT ks ds,v,h=>by
  rw[Rep]at h ⊢;obtain⟨b,xs,e1,e0,e2,el,e3⟩:=h;exact#[b,xs,e1,fun z=>z.elim e0 (fun q=>aO e2 ha q),e2,el,ae.dW ha e3]
 | .scr ds,v,h=>by
  rw[Rep]at h ⊢;obtain⟨b,xs,e1,e2,e3⟩:=h;exact#[b,xs,e1,e2,ae.dW ha e3]
 | .exc c,v,h=>by rw[Rep]at h ⊢;exact h
 | .obj,v,h=>by rw[Rep]at h ⊢;exact h
 | .fT ks ds,v,h=>by rw[Rep]at h ⊢;obtain⟨b,o,xs,e1,e2,el,e3⟩:=h;exact#[b,o,xs,e1,e2,el,ae.dW ha e3]
 | .fL ds,v,h=>by rw[Rep]at h ⊢;obtain⟨b,o,xs,e1,e2,e3⟩:=h;exact#[b,o,xs,e1,e2,ae.dW ha e3]
theorem ae.dW{P:Addr->Prop}{K:W.Frag}{H:Hp}{a:Addr}(ha:H a=none):∀ {ds:List RL.D} {xs:List V},ae P K H ds xs->ae (fun p=>P p\/p=a) K H ds xs
 | [],xs,h=>by rw[ae]at h ⊢;exact h
 | d::r,xs,h=>by
  rw[ae]at h ⊢;obtain⟨x,t,e1,e2,e3⟩:=h;exact#[x,t,e1,Rep.dW ha e2,ae.dW ha e3]
end
section st
variable{K:W.Frag}
def RVm.own(h:RVm K M Zy Y H)(s:a6 H H1)(hi:M.contains i=true)(hi2:M.count i<2)(ha:H a=none)(r:Own K H1 d (.ref a)):RVm K M (Zy.set i (some d)) (Y.set i (some (.ref a))) H1/\Fr' M Y H (Y.set i (some (.ref a))) H1:=by
 have sub:∀ b,bG M (Y.set i (some (.ref a))) b->bG M Y b\/b=a:=fun b ⟨j,hj,e⟩=>by
  by_cases hji:j=i
  ·subst hji
   have hlt:j<Y.length:=by
    have:=(List.getElem?_eq_some_iff.mp e).1;simpa using this
   rw[Q2 hlt]at e;cases e;exact .inr rfl
  ·rw[QZ (Ne.symm hji)]at e;exact .inl #[j,hj,e]
 have old:∀ b,bG M Y b->b≠a:=fun b p z=>h.oZ b p (z▸ha);refine#[#[by simpa using h.len,fun j dj e=>?_,fun j w e=>?_,fun j k b hj hk e1 e2=>?_],#[fun b o e n=>#[s _ _ e,fun z=>(sub b z).elim n fun q=>aO e ha q],fun j hj=>QZ (fun z=>by subst z;lia)]]
 ·by_cases hj:j=i
  ·subst hj
   have hlt:j<Zy.length:=by
    have:=(List.getElem?_eq_some_iff.mp e).1;simpa using this
   rw[Q2 hlt]at e;cases e;refine#[.ref a,by rw[Q2 (by rw[<-h.len];exact hlt)],?_];rw[if_pos hi];exact r
  ·rw[QZ (Ne.symm hj)]at e ⊢;obtain⟨v,h1,h2⟩:=h.val j dj e;refine#[v,h1,?_];by_cases hm:M.contains j=true
   ·rw[if_pos hm]at h2 ⊢;exact h2.same s
   ·rw[if_neg hm]at h2 ⊢;exact((h2.dW ha).weak sub).same s
 ·by_cases hj:j=i
  ·subst hj
   have hlt:j<Y.length:=by
    have:=(List.getElem?_eq_some_iff.mp e).1;simpa using this
   exact#[d,by rw[Q2 (by rw[h.len];exact hlt)]]
  ·rw[QZ (Ne.symm hj)]at e ⊢;exact h.non j w e
 ·by_cases h1:j=i
  ·by_cases h2:k=i
   ·rw[h1,h2]
   ·subst h1
    have hlt:j<Y.length:=by
     have:=(List.getElem?_eq_some_iff.mp e1).1;simpa using this
    rw[Q2 hlt]at e1;rw[QZ (Ne.symm h2)]at e2;cases e1;exact absurd rfl (old _ ⟨k,hk,e2⟩)
  ·rw[QZ (Ne.symm h1)]at e1;by_cases h2:k=i
   ·subst h2
    have hlt:k<Y.length:=by
     have:=(List.getElem?_eq_some_iff.mp e2).1;simpa using this
    rw[Q2 hlt]at e2;cases e2;exact absurd rfl (old _ ⟨j,hj,e1⟩)
   ·rw[QZ (Ne.symm h2)]at e2;exact h.sep j k b hj hk e1 e2
def RVm.fC(h:RVm K M Zy Y H)(hi:M.contains i=true)(e:Y[i]?=some (some (.ref a)))(ha:H a=some o)(m:cS o)(r:Own K (upd H a o') d' (.ref a)):RVm K M (Zy.set i (some d')) Y (upd H a o')/\Fr' M Y H Y (upd H a o'):=by
 have pa:bG M Y a:=#[i,hi,e]
 refine#[#[by simpa using h.len,fun j dj e'=>?_,fun j w e'=>?_,h.sep],#[fun b u eb n=>#[?_,n],fun _ _=>rfl]]
 ·by_cases hj:j=i
  ·subst hj
   have hlt:j<Zy.length:=by
    have:=(List.getElem?_eq_some_iff.mp e').1;simpa using this
   rw[Q2 hlt]at e';cases e';refine#[.ref a,e,?_];rw[if_pos hi];exact r
  ·rw[QZ (Ne.symm hj)]at e';obtain⟨v,h1,h2⟩:=h.val j dj e';refine#[v,h1,?_];by_cases hm:M.contains j=true
   ·rw[if_pos hm]at h2 ⊢;obtain⟨b,ob,rfl,hb,_⟩:=h2.ref
    have hne:b≠a:=fun z=>by subst z;exact hj (h.sep j i b hm hi h1 e)
    obtain⟨q1,q2,q3⟩:=h2;refine#[q1,q2,?_];have im:∀ {ds:List RL.D} {xs:List V},RL.aw ds=true->ae nP K H ds xs->ae nP K (L2.upd H a o') ds xs:=fun hi r=>(ae.upd (P:=fun p=>p=a) ha m rfl (r.imm hi)).imm hi
    cases dj with
    | lst ds=>obtain⟨b',xs,e1,e0,e2,e3⟩:=aE q3;cases e1;rw[Rep];exact#[b,xs,rfl,fun z=>z,by rw[L2.aV hne];exact e2,im q2 e3]
    | dK ks ds=>rw[Rep]at q3 ⊢;obtain⟨b',xs,e1,e0,e2,el,e3⟩:=q3;cases e1;exact#[b,xs,rfl,fun z=>z,by rw[L2.aV hne];exact e2,el,im q2 e3]
    | dT ks ds=>rw[Rep]at q3 ⊢;obtain⟨b',xs,e1,e0,e2,el,e3⟩:=q3;cases e1;exact#[b,xs,rfl,fun z=>z,by rw[L2.aV hne];exact e2,el,im q2 e3]
    | _=>cases q1
   ·rw[if_neg hm]at h2 ⊢;exact Rep.upd ha m pa h2
 ·obtain⟨dj,hd⟩:=h.non j w e';by_cases hj:j=i
  ·subst hj;have hlt:=(List.getElem?_eq_some_iff.mp hd).1;exact#[d',by rw[Q2 hlt]]
  ·exact#[dj,by rw[QZ (Ne.symm hj)];exact hd]
 ·have hb:b≠a:=fun z=>n (z▸pa);rw[L2.aV hb];exact eb
end st
abbrev xu(K:W.Frag)(M:List Nat)(D:Ends)(Y:L2.St)(H:Hp):RL.Out->RL.St->Prop
 | .nx,ZD=>∀ Zz H',RVm K M ZD Zz H'->Fr' M Y H Zz H'->D.nx Zz H'
 | .rt d,ZD=>∀ ZA H1 v H',RVm K M ZD ZA H1->Fr' M Y H ZA H1->a6 H1 H'->(∀ P:Addr->Prop,(∀ p,P p->H1 p≠none/\¬ bG M ZA p)->Rep P K H' d v)->D.rt v H'
def xu.from{K:W.Frag}(h:xu K M D Y H r ZD)(f:Fr' M Y H ZA H1):xu K M D ZA H1 r ZD:=by
 cases r with
 | nx=>exact fun ZC H2 rv2 fr2=>h ZC H2 rv2 (f.trans fr2)
 | rt d=>exact fun ZA H1 v H2 rv2 fr2 sm rp=>h ZA H1 v H2 rv2 (f.trans fr2) sm rp
abbrev tS(K:W.Frag)(M:List Nat)(f:RL.St->Option (RL.Out × RL.St)):TS:=fun D Y H=>∃ Zy r ZD,RVm K M Zy Y H/\f Zy=some (r,ZD)/\xu K M D Y H r ZD
abbrev SS(X:Cx)(cl:RL.Cl)(M:List Nat)(st:Stmt)(s:RL.S):Prop:=PS X st (tS X.K M (RL.evS cl M s))
abbrev SSs(X:Cx)(cl:RL.Cl)(M:List Nat)(st:List Stmt)(s:RL.Ss):Prop:=PSs X st (tS X.K M (RL.ao cl M s))
section rules
variable{st:Stmt}{i j:Nat}
def Dd:SSs X cl M [] .nil:=by
 refine PSs.weak CW fun D Y H h=>?_;obtain⟨Zy,r,ZD,rv,e,k⟩:=h;rw[RL.ao]at e;cases e;exact k Y H rv (Fr'.same (a6.refl H))
def zO(h1:SS X cl M st s)(h2:SSs X cl M sts r):SSs X cl M (st::sts) %[s|r]:=by
 refine PSs.weak (Bg h1 h2) fun D Y H h=>?_;k_all;rw[RL.ao]at e;obtain⟨p,e1,e2⟩:=bind_some e;obtain⟨o1,ZA⟩:=p;refine#[Zy,o1,ZA,rv,e1,?_]
 cases o1 with
 |rt d=>
  cases e2;exact k
 |nx=>
  exact fun Zz H' rv' fr'=>#[ZA,o,ZD,rv',e2,k.from fr']
def Ge(h:SA X cl st i e')(hi:M.contains i=false):SS X cl M st (.asg i e'):=by
 refine PS.weak h fun D Y H h=>?_;k_all;obtain⟨d,e1,e2⟩:=bind_some e;split at e2
 ·rename_i ok;cases e2;refine#[Zy,d,rv.rv0,e1,fun v H1 r1=>k _ _ ?_ (Fr'.bind hi r1.same)];refine(rv.same r1.same).bind hi ?_;unfold RL.aK at ok;rw[Bool.or_eq_true,Bool.or_eq_true,Bool.and_eq_true]at ok;rcases ok with(q | ⟨q1,q2⟩) | q
  ·exact r1.rep.imm q
  ·have rp:=r1.rep;have fr:l0 d=true->∀ a,v=.ref a->¬ bG M Y a:=fun m a z p=>rv.oZ a p (r1.fresh q2 m a z)
   cases d with
   | lst ds=>obtain⟨a,xs,e1,e0,e2,e3⟩:=aE rp;rw[Rep];exact#[a,xs,e1,fr rfl a e1,e2,e3.imm q1]
   | dK ks ds=>rw[Rep]at rp ⊢;obtain⟨a,xs,e1,e0,e2,el,e3⟩:=rp;exact#[a,xs,e1,fr rfl a e1,e2,el,e3.imm q1]
   | dT ks ds=>rw[Rep]at rp ⊢;obtain⟨a,xs,e1,e0,e2,el,e3⟩:=rp;exact#[a,xs,e1,fr rfl a e1,e2,el,e3.imm q1]
   | _=>cases q1
  ·refine r1.av M q _ rv.oZ fun j dj vj hj h1 h2=>?_;obtain⟨v',h3,h4⟩:=rv.val j dj h1;rw[h2]at h3;cases h3;rw[if_neg (by rw[hj];decide)]at h4;exact h4
 ·cases e2
def FY(h:SA X cl st i e')(hi:M.contains i=true)(hi2:M.count i<2):SS X cl M st (.own i e'):=by
 refine PS.weak h fun D Y H h=>?_;k_all;obtain⟨d,e1,e2⟩:=bind_some e;split at e2
 ·rename_i ok;cases e2;rw[Bool.and_eq_true]at ok;refine#[Zy,d,rv.rv0,e1,fun v H1 r1=>?_]
  have m:l0 d=true:=by
   cases d with
   | lst _=>rfl
   | dK _ _=>rfl
   | dT _ _=>rfl
   | _=>cases ok.1
  have ow:Own X.K H1 d v:=#[m,ok.1,r1.rep]
  obtain⟨a,ob,rfl,_,_⟩:=ow.ref;obtain⟨h1,h2⟩:=rv.own r1.same hi hi2 (r1.fresh ok.2 m a rfl) ow;exact k _ _ h1 h2
 ·cases e2
def IL{c:Expr}(hc:ST X cl c c')(ha:SSs X cl M a a')(hb:SSs X cl M b b'):SS X cl M (.If c a b pos) (.ife c' a' b'):=by
 refine PS.weak (B4 hc ha hb) fun D Y H h=>?_;k_all;obtain⟨t,e1,e2⟩:=bind_some e;refine#[Zy,t,rv.rv0,e1,fun H1 s1=>?_];have k1:=k.from (Fr'.same (Y:=Y) s1)
 cases t with
 | true=>exact fZ ⟨Zy,o,ZD,rv.same s1,e2,k1⟩
 | false=>exact gH ⟨Zy,o,ZD,rv.same s1,e2,k1⟩
def GP(he:SE X cl e e')(hv:∀ i,e'=.var i->M.contains i=false):SS X cl M (.Return (some e) pos) (.ret e'):=by
 refine PS.weak (yM he) fun D Y H h=>?_;obtain⟨Zy,o,ZD,rv,ev,k⟩:=h;obtain⟨d,e1,e2⟩:=bind_some ev;split at e2
 ·rename_i ok;cases e2;refine#[Zy,d,rv.rv0,e1,fun v H1 r1=>k Y H v H1 rv (Fr'.same (a6.refl H)) r1.same fun P hP=>?_];unfold RL.bj at ok;rw[Bool.or_eq_true,Bool.and_eq_true,Bool.or_eq_true]at ok
  rcases ok with q | ⟨q1,q2⟩
  ·exact r1.rep.imm q
  ·have rp:=r1.rep
   have fr:l0 d=true->∀ a,v=.ref a->¬ P a:=fun m a z p=>by
    rcases q2 with q | q
    ·exact(hP a p).1 (r1.fresh q m a z)
    ·cases e' with
     |var i=>
      have hi:M.contains i=true:=q;rw[hv i rfl]at hi;cases hi
     | _=>cases q
   cases d with
   | lst ds=>obtain⟨a,xs,e1,e0,e2,e3⟩:=aE rp;rw[Rep];exact#[a,xs,e1,fr rfl a e1,e2,e3.imm q1]
   | dK ks ds=>rw[Rep]at rp ⊢;obtain⟨a,xs,e1,e0,e2,el,e3⟩:=rp;exact#[a,xs,e1,fr rfl a e1,e2,el,e3.imm q1]
   | dT ks ds=>rw[Rep]at rp ⊢;obtain⟨a,xs,e1,e0,e2,el,e3⟩:=rp;exact#[a,xs,e1,fr rfl a e1,e2,el,e3.imm q1]
   | _=>cases q1
 ·cases e2
def DX(hN:X.N[i]?=some x)(hv:Vis X.env.scope x)(hd:(x == ("__debug__" : Str))=false)(hcd:(x == ("__classdict__" : Str))=false)(hi:M.contains i=true):SS X cl M (.Return (some (.Name x p)) pos) (.ret (.var i)):=by
 refine PS.weak (yM (eI hN hv hd hcd)) fun D Y H h=>?_;k_all;obtain⟨d,e1,e2⟩:=bind_some e;split at e2
 ·cases e2
  have e3:Zy[i]?=some (some d):=by
   obtain⟨o,h1,h2⟩:=bind_some e1
   cases o with
   | none=>cases h2
   | some z=>cases h2;exact h1
  obtain⟨v,h1,h2⟩:=rv.val i d e3;rw[if_pos hi]at h2;refine#[v,h1,k Y H v H rv (Fr'.same (a6.refl H)) (a6.refl H) fun P hP=>?_];obtain⟨a,o,rfl,_,_⟩:=h2.ref;have np:¬ P a:=fun p=>(hP a p).2 ⟨i,hi,h1⟩;obtain⟨q1,q2,q3⟩:=h2
  cases d with
  | lst ds=>obtain⟨b,xs,e1,e0,e2,e3⟩:=aE q3;cases e1;rw[Rep];exact#[a,xs,rfl,np,e2,e3.imm q2]
  | dK ks ds=>rw[Rep]at q3 ⊢;obtain⟨b,xs,e1,e0,e2,el,e3⟩:=q3;cases e1;exact#[a,xs,rfl,np,e2,el,e3.imm q2]
  | dT ks ds=>rw[Rep]at q3 ⊢;obtain⟨b,xs,e1,e0,e2,el,e3⟩:=q3;cases e1;exact#[a,xs,rfl,np,e2,el,e3.imm q2]
  | _=>cases q1
 ·cases e2
def slot_get{Zy:RL.St}(h:(Zy[i]?).bind id=some d):Zy[i]?=some (some d):=by
 obtain⟨o,h1,h2⟩:=bind_some h
 cases o with
 | none=>cases h2
 | some z=>cases h2;exact h1
def Hi(h:PS X st (qQ (tBM X.K "list" uN (gK i) (tEs X.K cl %[e'|.nil]))))(hi:M.contains i=true):SS X cl M st (.app i e'):=by
 refine PS.weak h fun D Y H h=>?_;k_all;obtain⟨d,e1,e2⟩:=bind_some e;obtain⟨l,e3,e4⟩:=bind_some e2
 cases l with
 |lst ds=>
  dsimp only at e4;split at e4
  ·rename_i ok;cases e4;rw[Bool.and_eq_true,decide_eq_true_eq]at ok;obtain⟨v,h1,h2⟩:=rv.val i _ (slot_get e3);rw[if_pos hi]at h2;obtain⟨q1,q2,q3⟩:=h2;obtain⟨a,xs,rfl,_,f2,f3⟩:=aE q3;refine#[.ref a,h1,.inl #[rfl,xs,SqL.of f2],Zy,[d],rv.rv0,by rw[RL.evs,e1];rfl,fun vs H1 s1 r1=>?_];rw[ae]at r1;obtain⟨y,t,rfl,r2,r3⟩:=r1;rw[ae]at r3;subst r3
   have hl:xs.length<sizeLine:=by rw[<-f3.length];exact Q0 ok.2 cA
   refine#[a,xs,y,rfl,rfl,s1 _ _ f2,hl,?_]
   have im:RL.aw (ds++[d])=true:=by
    have:∀ l:List RL.D,RL.aw l=true->RL.aw (l++[d])=true:=fun l=>by
     induction l with
     | nil=>intro _;simp[RL.aw,ok.1]
     | cons z r ih=>intro h;rw[RL.aw,Bool.and_eq_true]at h;rw[List.cons_append,RL.aw,h.1,ih h.2];rfl
    exact this ds q2
   have rs:ae nP X.K (upd H1 a (.lst (xs++[y]))) (ds++[d]) (xs++[y]):=(ae.upd (P:=fun p=>p=a) (s1 _ _ f2) (.inl #[_,rfl]) rfl ((ae.append (f3.same s1) (ae.cons r2 ae.nil)).imm im)).imm im;obtain⟨g1,g2⟩:=(rv.same s1).fC (d':=.lst (ds++[d])) (o':=.lst (xs++[y])) hi h1 (s1 _ _ f2) (.inl #[_,rfl]) ⟨rfl,im,by rw[Rep];exact#[a,_,rfl,fun z=>z,bp,rs]⟩;exact k _ _ g1 ((Fr'.same s1).trans g2)
  ·cases e4
 | _=>cases e4
end rules
def RVm.bA{K:W.Frag}{M:List Nat}{H:Hp}:∀ {tg:List Nat} {ds:List RL.D} {vs:List V} {Zy:RL.St} {Y:L2.St},RVm K M Zy Y H->(∀ i∈tg,M.contains i=false)->tg.length=ds.length->RL.aw ds=true->ae nP K H ds vs ->
  RVm K M (eY tg ds Zy) (dt tg vs Y) H/\bG M (dt tg vs Y)=bG M Y
 | [],_,_,_,_,h,_,_,_,_=>#[h,rfl]
 | i::is,[],_,_,_,_,_,hl,_,_=>by simp at hl
 | i::is,d::ds,vs,Zy,Y,h,hM,hl,him,r=>by
  rw[ae]at r;obtain⟨v,t,rfl,r1,r2⟩:=r;rw[RL.aw,Bool.and_eq_true]at him;rw[eY,dt];have hi:=hM i Zc;obtain⟨g1,g2⟩:=RVm.bA (h.bind hi (r1.imm him.1)) (fun j hj=>hM j (Q4 _ hj)) (by simpa using hl) him.2 r2;exact#[g1,g2.trans (bG.set hi)]
def tj{M tg:List Nat}{vs:List V}{Y:L2.St}{j:Nat}(hM:∀ i∈tg,M.contains i=false)(hj:2<=M.count j):(dt tg vs Y)[j]?=Y[j]?:=by
 refine pH tg vs Y j ?_
 cases hc:tg.contains j with
 | false=>rfl
 |true=>
  have:=hM j (by simpa using hc);rw[lW hj]at this;cases this
section rules
variable{X:Cx}{cl:RL.Cl}{M:List Nat}{st:Stmt}{tgE iter:Expr}{body:List Stmt}{b:RL.Ss}{it:RL.It}{tg:List Nat}{e' k' a' b':RL.E}{i j:Nat}{pos:Pos}
def wJ{f:RL.St->Option (RL.Out × RL.St)}{d:RL.D}{ds:List RL.D}{Y:RL.St}{p:RL.Out × RL.St}(h:RL.aP f tg (d::ds) Y=some p):d.imm=true/\∃ ZA o ZC,RL.bf tg d Y=some ZA/\f ZA=some (o,ZC) /\
  (match o with | .nx=>RL.aP f tg ds ZC=some p | .rt d=>p=(.rt d,ZC)):=by
 rw[RL.aP]at h;split at h
 ·rename_i him;obtain⟨ZA,h1,h⟩:=bind_some h;obtain⟨⟨o,ZC⟩,h2,h⟩:=bind_some h;refine#[him,ZA,o,ZC,h1,h2,?_]
  cases o with
  | nx=>exact h
  | rt d=>exact(Option.some.inj h).symm
 ·cases h
def F9(hx:X.xe=fun _ _=>False)(hc:X.calm=true)(hi:SI X cl tgE iter it)(hg:PG X tgE (gT X.K tg))(hb:SSs X cl M body b)(hs:∀ x,foldedSetIterable iter X.env x=pure x)(hav:RL.vZ M it=true)(hM:∀ i∈tg,M.contains i=false) :
  SS X cl M (.For tgE iter body [] pos) (.forr tg it b):=by
 refine PS.weak (GU (by rw[hx];exact PassesOwn.never) hc hi hg hb hs) fun D Y H h=>?_;obtain⟨Zy,r,ZD,rv,e,k⟩:=h;obtain⟨ds,e1,e2⟩:=bind_some e;refine#[Zy,ds,rv.rv0,e1,fun J H1 s1 src=>?_]
 have ok:jw X.K J ds (bG M Y) H1:=src.2 M (bG M Y) hav rv.Ar fun j dj vj hj h1 h2=>by
  obtain⟨v',h3,h4⟩:=rv.val j dj h1;rw[h2]at h3;cases h3;rw[if_neg (by rw[hj];decide)]at h4;exact h4
 have k1:=k.from (Fr'.same (Y:=Y) s1);refine#[fun i m ZC H2=>∃ ZF,m=ds.length-i/\i<=ds.length/\RVm X.K M ZF ZC H2/\Fr' M Y H1 ZC H2/\RL.aP (RL.ao cl M b) tg (ds.drop i) ZF=some (r,ZD),#[_,Zy,rfl,Nat.zero_le _,rv.same s1,Fr'.same (a6.refl _),e2],?_];rintro i m ZC H2 ⟨ZF,rfl,hi2,rv2,fr2,hl⟩;have off:Off (bG M Y) H1 H2:=fun b o n e=>(fr2.1 b o e n).1;by_cases hlt:i<ds.length
 ·refine .inr #[ok.go H2 i off hlt,fun Zz H'=>∃ m',m'<ds.length-i/\∃ ZF,m'=ds.length-(i+1)/\i+1<=ds.length/\RVm X.K M ZF Zz H'/\Fr' M Y H1 Zz H'/\RL.aP (RL.ao cl M b) tg (ds.drop (i+1)) ZF=some (r,ZD),fun Zz H' z=>z,fun x H3 y=>?_];rw[List.drop_eq_getElem_cons hlt]at hl;obtain⟨him,ZE,o,ZH,h1,h2,h3⟩:=wJ hl;obtain⟨s3,rp⟩:=ok.yld H2 i ds[i] x H3 off (by simp[hlt]) y;obtain⟨dv,vs,q1,q2,q3,q4,q5⟩:=BS h1 (rp (.inl him));refine q5 _ _ ?_;obtain⟨rv3,as3⟩:=(rv2.same s3).bA hM q2 (q4 him) q3
  have fr3:Fr' M Y H1 (dt tg vs ZC) H3:=#[fun b o e n=>#[s3 _ _ (fr2.1 b o e n).1,by rw[as3];exact(fr2.1 b o e n).2],fun j hj=>(tj hM hj).trans (fr2.2 j hj)]
  refine#[ZE,o,ZH,by rw[q1];exact rv3,h2,?_]
  cases o with
  | nx=>exact fun Zz H' rv' fr'=>#[_,by lia,ZH,rfl,hlt,rv',fr3.trans fr',h3]
  |rt d=>
   cases h3;exact fun Zz H' v H4 rv' fr' sm rp=>k1 Zz H' v H4 rv' (fr3.trans fr') sm rp
 ·have e:i=ds.length:=by lia
  subst e;rw[List.drop_length,RL.aP]at hl;cases hl;exact .inl #[ok.stop H2 off,k1 ZC H2 rv2 fr2]
def mN{n:Nat}{k:Int}{j:Nat}(h:RL.jY n k=some j):ixN n k=some j:=h
def oI:∀ {ds:List RL.D} {d:RL.D} (j:Nat),RL.aw ds=true->d.imm=true->RL.aw (ds.set j d)=true
 | [],d,j,_,_=>by simp[RL.aw]
 | x::r,d,0,h,hd=>by rw[RL.aw,Bool.and_eq_true]at h;rw[List.set_cons_zero,RL.aw,hd,h.2];rfl
 | x::r,d,j+1,h,hd=>by rw[RL.aw,Bool.and_eq_true]at h;rw[List.set_cons_succ,RL.aw,h.1,oI j h.2 hd];rfl
def hZ{H:Hp}{a:Addr}{ds:List RL.D}{xs ys:List V}{ds':List RL.D}(f2:H a=some (.lst xs))(im:RL.aw ds'=true)(rs:ae nP X.K H ds' ys):Own X.K (upd H a (.lst ys)) (.lst ds') (.ref a) :=
 ⟨rfl,im,by rw[Rep];exact#[a,_,rfl,fun z=>z,bp,(ae.upd (P:=fun p=>p=a) f2 (.inl #[_,rfl]) rfl (rs.imm im)).imm im]⟩
def Fe(h:PS X st (oV (tE X.K cl e') (uh (gK i) (tE X.K cl k') nX)))(hi:M.contains i=true)(hl:True):PS X st (tS X.K M fun Zy=>(RL.ev cl Zy e').bind fun d=>(RL.ev cl Zy k').bind fun kk=>((Zy[i]?).bind id).bind fun l=>match l with
  | .lst _=>if d.imm then(RL.cI l kk d).map fun l'=>(.nx,Zy.set i (some l'))else none
  | _=>none):=by
 refine PS.weak h fun D Y H h=>?_;k_all;obtain⟨d,e1,e⟩:=bind_some e;obtain⟨kk,e2,e⟩:=bind_some e;obtain⟨l,e3,e⟩:=bind_some e
 cases l with
 |lst ds=>
  dsimp only at e;split at e
  ·rename_i him;obtain⟨l',e4,e5⟩:=map_some e;cases e5;obtain⟨v,h1,h2⟩:=rv.val i _ (slot_get e3);rw[if_pos hi]at h2;obtain⟨q1,q2,q3⟩:=h2;obtain⟨a,xs,rfl,_,f2,f3⟩:=aE q3
   cases kk with
   |int kk=>
    obtain⟨jx,e6,e7⟩:=map_some (show(RL.jY ds.length kk).map (fun j=>RL.D.lst (ds.set j d))=some l' from e4);subst e7;refine#[Zy,d,rv.rv0,e1,fun y H1 r1=>#[.ref a,h1,Zy,.int kk,rv.rv0.same r1.same,e2,fun z H2 r2=>?_]];have sm:=r1.same.trans r2.same;refine#[a,xs,kk,jx,rfl,ak r2.rep,sm _ _ f2,?_,?_]
    ·rw[<-f3.length];exact mN e6
    ·have im:=oI jx q2 him;obtain⟨g1,g2⟩:=(rv.same sm).fC (d':=.lst (ds.set jx d)) (o':=.lst (xs.set jx y)) hi h1 (sm _ _ f2) (.inl #[_,rfl]) (hZ (ds:=ds) (sm _ _ f2) im (ae.set jx (f3.same sm) (r1.rep.same r2.same)));exact k _ _ g1 ((Fr'.same sm).trans g2)
   | _=>cases e4
  ·cases e
 | _=>cases e
def uE:∀ {ds:List RL.D},RL.aw ds=true->RL.aw ds.dropLast=true
 | [],_=>rfl
 | [x],_=>rfl
 | x::y::r,h=>by rw[RL.aw,Bool.and_eq_true]at h;rw[List.dropLast_cons_cons,RL.aw,h.1,uE h.2];rfl
def ae.dropLast{P:Addr->Prop}{K:W.Frag}{H:Hp}{ds:List RL.D}{xs:List V}(h:ae P K H ds xs):ae P K H ds.dropLast xs.dropLast:=by
 rw[List.dropLast_eq_take,List.dropLast_eq_take,<-h.length];exact h.take _
def Gm(h:PS X st (A8 i j (tEs X.K cl %[a',b'|.nil])))(hi:M.contains i=false)(hj:M.contains j=false):SS X cl M st (.par i j a' b'):=by
 refine PS.weak h fun D Y H h=>?_;k_all;obtain⟨x,e1,e⟩:=bind_some e;obtain⟨y,e2,e⟩:=bind_some e;split at e
 ·rename_i him;cases e;rw[Bool.and_eq_true]at him;refine#[Zy,[x,y],rv.rv0,by rw[RL.evs,e1,RL.evs,e2];rfl,fun vs H1 s1 r1=>?_];rw[ae]at r1;obtain⟨v,t,rfl,r2,r3⟩:=r1;rw[ae]at r3;obtain⟨u,t,rfl,r4,r5⟩:=r3;rw[ae]at r5;subst r5;refine#[v,u,rfl,k _ _ ?_ ?_]
  ·refine((rv.same s1).bind hi (r2.imm him.1)).bind hj (r4.imm him.2)
  ·exact(Fr'.bind hi s1).trans (Fr'.bind hj (a6.refl _))
 ·cases e
def FE(h:PS X st (qQ (tE X.K cl e'))):SS X cl M st (.exc e'):=by
 refine PS.weak h fun D Y H h=>?_;k_all;obtain⟨d,e1,e2⟩:=map_some e;cases e2;exact#[Zy,d,rv.rv0,e1,fun v H1 r1=>k _ _ (rv.same r1.same) (Fr'.same r1.same)]
end rules
section rules
variable{st:Stmt}
def Co(h:PS X st (oV (tE X.K cl e') (fun v Y H Q=>mX X.K is.length (gs is) v Y H Q\/oS X.K is.length (gs is) v Y H Q)))(hM:∀ i∈is,M.contains i=false):SS X cl M st (.unp is e'):=by
 refine PS.weak h fun D Y H h=>?_;k_all;obtain⟨d,e1,e⟩:=bind_some e;obtain⟨ds,e2,e⟩:=bind_some e;split at e
 ·rename_i him;obtain⟨ZA,e3,e4⟩:=map_some e;cases e4;obtain⟨q1,q2⟩:=gw e3;refine#[Zy,d,rv.rv0,e1,fun v H1 r1=>?_];obtain⟨p,xs,rfl,hp,rs⟩:=eP e2 r1.rep;obtain⟨g1,g2⟩:=(rv.same r1.same).bA (vs:=xs) hM q1 him rs;have fin:D.nx (dt is xs Y) H1:=k _ _ (by rw[q2];exact g1) ⟨fun b o e n=>#[r1.same _ _ e,by rw[g2];exact n],fun j hj=>tj hM hj⟩
  have hl:xs.length=is.length:=by rw[<-rs.length,q1]
  rcases hp with⟨hp,_⟩ | ⟨hp,_⟩ | ⟨⟨o,hp⟩,_⟩
  ·exact .inr #[p,xs,rfl,SqL.of hp,hl,jh hl.symm fin]
  ·exact .inl #[p,xs,rfl,SqT.of hp,hl,jh hl.symm fin]
  ·exact .inr #[p,xs,rfl,.inl (.inr #[o,hp]),hl,jh hl.symm fin]
 ·cases e
def tq(xs:List α)(k:Int):(xs.drop (HT.sIx xs.length 0 none)).take (HT.sIx xs.length xs.length (some k)-HT.sIx xs.length 0 none)=xs.take (RL.cutAt xs.length k):=by
 rw[HT.tO,List.drop_zero,Nat.sub_zero];congr 1;have h:=HT.hX k xs.length xs.length;unfold RL.cutAt;split at h
 ·rename_i h0;rw[if_neg ⋯];lia
 ·rename_i h0;rw[if_pos ⋯];lia
def um(xs:List α)(k:Int):(xs.drop (HT.sIx xs.length 0 (some k))).take (HT.sIx xs.length xs.length none-HT.sIx xs.length 0 (some k))=xs.drop (RL.cutAt xs.length k):=by
 have e:HT.sIx xs.length 0 (some k)=RL.cutAt xs.length k:=by
  have h:=HT.hX k xs.length 0;unfold RL.cutAt;split at h
  ·rename_i h0;rw[if_neg ⋯];lia
  ·rename_i h0;rw[if_pos ⋯];lia
 rw[e,HT.tO];exact List.take_of_length_le (by rw[Zu];exact QV _)
end rules
section rules
variable{X:Cx}
def one(rv:RV0 X.K Zy Y H)(ea:RL.ev cl Zy a'=some d)(k:∀ v H1,a6 H H1->Rep nP X.K H1 d v->R [v] H1):tEs X.K cl %[a'|.nil] Y H R :=
 ⟨Zy,[d],rv,by rw[RL.evs,ea];rfl,fun vs H1 s1 r1=>by
  rw[ae]at r1;obtain⟨v,t,rfl,r2,r3⟩:=r1;rw[ae]at r3;subst r3
  exact k v H1 s1 r2⟩
def pair(rv:RV0 X.K Zy Y H)(ea:RL.ev cl Zy a'=some d)(eb:RL.ev cl Zy b'=some d')(k:∀ v u H1,a6 H H1->Rep nP X.K H1 d v->Rep nP X.K H1 d' u->R [v,u] H1):tEs X.K cl %[a',b'|.nil] Y H R :=
 ⟨Zy,[d,d'],rv,by rw[RL.evs,ea,RL.evs,eb];rfl,fun vs H1 s1 r1=>by
  rw[ae]at r1;obtain⟨v,t,rfl,r2,r3⟩:=r1;rw[ae]at r3;obtain⟨u,t,rfl,r4,r5⟩:=r3;rw[ae]at r5;subst r5
  exact k v u H1 s1 r2 r4⟩
def lg{id:String}{r:List V->Hp->VK->Prop}{b:RL.Bi}(hc:bC X (.builtin id) r)(hg:Gl X x)(hm:X.mg x=none)(hv:bootBuiltins x=some (.builtin id))(ha:SE X cl a a')(hn:noStar a=true)(h1:x ≠ "__name__")(h2:(x == ("__debug__" : Str))=false)
 (ok:∀ (Zy:RL.St) (Y:L2.St) (H H1:Hp) (y d:RL.D) (v:V) (Q:VK),RL.biV b y=some d->a6 H H1->Rep nP X.K H1 y v->(∀ w H',Res X.K Zy Y H (.bi b a') d w H'->Q w H')->r [v] H1 Q):SE X cl (.Call (.Name x p) [a] [] pos) (.bi b a'):=by
 refine PE.weak (iJ hc hg hm hv (b0 (cl:=cl) ha cB hn) h1 h2 (a8 [] hn) rfl) fun Y H Q h=>?_;fin2;obtain⟨y,ea,e⟩:=bind_some e;exact one rv ea fun v H1 s1 r1=>ok Zy Y H H1 y d v Q e s1 r1 k
def kN{T:String}{r:List V->Hp->VK->Prop}{b:RL.Bi}(hc:bC X (.type T) r)(hg:Gl X x)(hm:X.mg x=none)(hv:bootBuiltins x=some (.type T))(ha:SE X cl a a')(hn:noStar a=true)(h1:x ≠ "__name__")(h2:(x == ("__debug__" : Str))=false)
 (ok:∀ (Zy:RL.St) (Y:L2.St) (H H1:Hp) (y d:RL.D) (v:V) (Q:VK),RL.biV b y=some d->a6 H H1->Rep nP X.K H1 y v->(∀ w H',Res X.K Zy Y H (.bi b a') d w H'->Q w H')->r [v] H1 Q):SE X cl (.Call (.Name x p) [a] [] pos) (.bi b a'):=by
 refine PE.weak (cN hc hg hm hv (b0 (cl:=cl) ha cB hn) h1 h2 (a8 [] hn) rfl) fun Y H Q h=>?_;fin2;obtain⟨y,ea,e⟩:=bind_some e;exact one rv ea fun v H1 s1 r1=>ok Zy Y H H1 y d v Q e s1 r1 k
def Cd(hg:Gl X "list")(hm:X.mg "list" = none)(ha:SE X cl a a')(hn:noStar a=true):SE X cl (.Call (.Name "list" p) [a] [] pos) (.bi .list a'):=by
 refine kN tu hg hm (by decide +kernel) ha hn ∅ ∅ fun Zy Y H H1 y d v Q e s1 r1 k=>?_;obtain⟨ds,e1,e2⟩:=map_some (show(RL.items y).map RL.D.lst=some d from e);subst e2;obtain⟨q,xs,rfl,hp,rs⟩:=eP e1 r1;refine#[q,xs,rfl,?_,fun l hl=>k _ _ (fh s1 hl rs fun _=>rfl)]
 rcases hp with⟨z,_⟩ | ⟨z,_⟩ | ⟨⟨o,z⟩,_⟩
 ·exact .inl (SqL.of z)
 ·exact .inr (SqT.of z)
 ·exact .inl (.inl (.inr #[o,z]))
def AV(hg:Gl X "tuple")(hm:X.mg "tuple" = none)(ha:SE X cl a a')(hn:noStar a=true):SE X cl (.Call (.Name "tuple" p) [a] [] pos) (.bi .tuple a'):=by
 refine kN qz hg hm (by decide +kernel) ha hn ∅ ∅ fun Zy Y H H1 y d v Q e s1 r1 k=>?_;obtain⟨ds,e1,e2⟩:=map_some (show(RL.items y).map RL.D.tup=some d from e);subst e2;obtain⟨q,xs,rfl,hp,rs⟩:=eP e1 r1
 rcases hp with⟨z,_⟩ | ⟨z,_⟩ | ⟨⟨o,z⟩,_⟩
 ·exact#[q,xs,rfl,.inl #[SqL.of z,fun l hl=>k _ _ (eQ s1 hl rs fun _=>rfl)]]
 ·refine⟨q,xs,rfl,.inr ⟨SqT.of z,k _ _ ⟨s1,?_,fun _ m=>(by cases m),fun M z=>nomatch (show false=true from z)⟩⟩⟩;rw[Rep];exact#[q,xs,rfl,z,rs]
 ·exact#[q,xs,rfl,.inl #[.inl (.inr #[o,z]),fun l hl=>k _ _ (eQ s1 hl rs fun _=>rfl)]]
def Gf(hg:Gl X "int")(hm:X.mg "int" = none)(ha:SE X cl a a')(hn:noStar a=true):SE X cl (.Call (.Name "int" p) [a] [] pos) (.bi .int a'):=by
 refine kN yG hg hm (by decide +kernel) ha hn ∅ ∅ fun Zy Y H H1 y d v Q e s1 r1 k=>?_
 cases y<;>first | (cases e;done) | skip
 case bl t=>cases e;exact .inr #[t,by rw[bh r1],k _ _ (bZ s1 aW rfl)]
 case int t=>cases e;exact .inl #[t,by rw[ak r1],k _ _ (bZ s1 aW rfl)]
def HG{prog:Program}{w:World}{d:Addr}(hd:(d == sysModules)=false) :
  MeetsIn prog w (Builtin.«dict.__len__» ⟨[.ref d],[]⟩) (fun _ R s=>∃ o es ep,s.heap.get? d=some o/\o.data=.dict es ep/\R (.ok (.ret (.int es.size s.toks))) { s with toks:=s.toks+1 }) :=
 .of_wp fun A R s ⟨o,es,ep,ho,hdat,h⟩=>by
  show wpAny _ _ (dictSize d >>= _) _ _ s;unfold dictSize;refine QT (QT (wpAny_dictEntries ho hdat (QW ?_)));show wpAny _ _ (Builtin.Dict.pendingCount d >>= _) _ _ s;refine QT (wpAny_pendingCount_other hd ?_);refine wpAny_ret_mkInt ?_;rw[Nat.add_zero];exact h
def wy{prog:Program}{w:World}{K:Type} [DecidableEq K]{knd:HeapKind prog w K}(hd:(d == sysModules)=false) :
  MeetsIn prog w (Builtin.«dict.__len__» ⟨[.ref d],[]⟩) (fun _ R s=>∃ xs,s.heap.DictOfH knd d xs/\R (.ok (.ret (.int xs.length s.toks))) { s with toks:=s.toks+1 }) :=
 .of_wp fun A R s ⟨xs,hm,h⟩=>by
  obtain⟨o,es,ep,ho,hc,hdat,hk,_,_⟩:=hm;show wpAny _ _ (dictSize d >>= _) _ _ s;unfold dictSize;refine QT (QT (wpAny_dictEntries ho hdat (QW ?_)));show wpAny _ _ (Builtin.Dict.pendingCount d >>= _) _ _ s;refine QT (wpAny_pendingCount_other hd ?_);refine wpAny_ret_mkInt ?_;rw[Nat.add_zero,size_of_entries hk];exact h
def p8{prog:Program}{w:World}{K:Type} [DecidableEq K]{knd:HeapKind prog w K}{A:Around}{E:Value->Shared->Prop}{s:Shared}{d:Addr}{xs:List (K × Addr × Value)}{Q:Value->Shared->Prop}(hd:(d == sysModules)=false)(hm:s.heap.DictOfH knd d xs)(hfit:(xs.length:Int)<2 ^ 63)
 (h:Q (.int xs.length (s.toks+1)) { s with toks:=s.toks+1+1 }):wpAny (model prog w) A (call (.builtin "len") [.ref d]) Q E s:=by
 refine Calls.call_function_entry kind_len plain_len entry_len (args_len1 _) ?_;unfold Builtin.«len»;refine QT (m:=oneArg "len" _) (QW ?_)
 refine QT (m:=callSpecial? (.ref d) (Str.ofString "__len__")) (wpAny_callSpecial?_slot (name:=Str.ofString "__len__") hm.typeIs F.slot_dict_len
  (call_meetsIn F.slot_dict_len hm.typeIs F.entry_dict_len (F.args_dict_len_1 _) (wy hd) ⟨xs,hm,?_⟩))
 show wpAny _ _ _ _ _ { s with toks:=s.toks+1 };refine QT (wpAny_holding (QW ?_));refine QT (wpAny_letGo ?_);show wpAny _ _ (if((xs.length:Nat):Int)<0 then _ else _) _ _ _;rw[if_neg (by omega)];show wpAny _ _ (if((xs.length:Nat):Int)≥2 ^ 63 then _ else _) _ _ _;rw[if_neg (by omega)];exact QT (wpAny_mkInt (QW ⟨_,rfl,h⟩))
def zj:bC X (.builtin "len") (fun xs H Q=>∃ a kvs,xs=[V.ref a]/\H a=some (.dT kvs)/\Q (.int kvs.length) H):=by
 intro pins s Y H xs us Q I r h;obtain⟨a,kvs,rfl,ha,q⟩:=h;obtain⟨u,rfl,ru⟩:=vals1 r;cases ru;obtain⟨z,hd,xs,rel,dd⟩:=Bx I.hok ha;have hl:kvs.length=xs.length:=Paired.length rel;refine p8 hd dd (by rw[<-hl];rw[sizeLine_eq]at z;omega) ?_;rw[<-hl];exact#[.int kvs.length,H,I.tok _,#[_,rfl],q]
def zq:bC X (.builtin "len") (fun xs H Q=>∃ a o kvs,xs=[V.ref a]/\H a=some (.frz o (.dT kvs))/\Q (.int kvs.length) H):=by
 intro pins s Y H xs us Q I r h;obtain⟨a,o,kvs,rfl,ha,q⟩:=h;obtain⟨u,rfl,ru⟩:=vals1 r;cases ru;obtain⟨_,z,hd,xs,rel,ob,es,ep,g,ex,hdat,he,nd⟩:=I.hok a _ ha;have hl:kvs.length=xs.length:=Paired.length rel;refine Calls.call_function_entry kind_len plain_len entry_len (args_len1 _) ?_;unfold Builtin.«len»;refine QT (m:=oneArg "len" _) (QW ?_)
 refine QT (m:=callSpecial? (.ref a) (Str.ofString "__len__")) (wpAny_callSpecial?_slot (name:=Str.ofString "__len__") ⟨ob,g,ex.1⟩ F.slot_dict_len
  (call_meetsIn F.slot_dict_len ⟨ob,g,ex.1⟩ F.entry_dict_len (F.args_dict_len_1 _) (HG hd) ⟨ob,es,ep,g,hdat,?_⟩))
 show wpAny _ _ _ _ _ { s with toks:=s.toks+1 }
 have hs:es.size=kvs.length:=by rw[<-Array.length_toList,he,List.length_map,hl]
 rw[sizeLine_eq]at z;refine QT (wpAny_holding (QW ?_));refine QT (wpAny_letGo ?_);show wpAny _ _ (if((es.size:Nat):Int)<0 then _ else _) _ _ _;rw[if_neg (by omega)];show wpAny _ _ (if((es.size:Nat):Int)≥2 ^ 63 then _ else _) _ _ _;rw[if_neg (by omega)];exact QT (wpAny_mkInt (QW ⟨_,rfl,⟨.int kvs.length,H,I.tok _,⟨_,by rw[hs]⟩,q⟩⟩))
def ye:bC X (.builtin "len") (fun xs H Q=>(∃ y n,xs=[y]/\Fq X.K y H n/\Q (.int n) H)\/(∃ q kvs,xs=[V.ref q]/\H q=some (.dK kvs)/\Q (.int kvs.length) H)\/(∃ q kvs,xs=[V.ref q]/\H q=some (.dT kvs)/\Q (.int kvs.length) H)\/∃ q o kvs,xs=[V.ref q]/\H q=some (.frz o (.dT kvs))/\Q (.int kvs.length) H):=bC.or Aw (bC.or yP (bC.or zj zq))
def GN(hg:Gl X "len")(hm:X.mg "len" = none)(ha:SE X cl a a')(hn:noStar a=true):SE X cl (.Call (.Name "len" p) [a] [] pos) (.bi .len a'):=by
 refine lg ye hg hm PySem.boot_len ha hn ∅ ∅ fun Zy Y H H1 y d v Q e s1 r1 k=>?_
 cases y<;>first | (cases e;done) | skip
 case str t =>
  rw[RL.IV]at e;split at e
  ·rename_i hz;cases e;rw[aQ r1];exact .inl #[_,_,rfl,#[Za hz cA,rfl],k _ _ (bZ s1 aW rfl)]
  ·cases e
 case tup t =>
  cases e;obtain⟨q,xs,rfl,f2,f3⟩:=bo r1;dsimp only at k;rw[f3.length]at k;exact .inl #[_,_,rfl,.inr #[xs,SqT.of f2,rfl],k _ _ (bZ s1 aW rfl)]
 case lst t =>
  cases e;obtain⟨q,xs,rfl,_,f2,f3⟩:=aE r1;dsimp only at k;rw[f3.length]at k;exact .inl #[_,_,rfl,.inl #[xs,SqL.of f2,rfl],k _ _ (bZ s1 aW rfl)]
 case fL t =>
  cases e;rw[Rep]at r1;obtain⟨q,o,xs,rfl,f2,f3⟩:=r1;dsimp only at k;rw[f3.length]at k;exact .inl #[_,_,rfl,.inl #[xs,.inl (.inr #[o,f2]),rfl],k _ _ (bZ s1 aW rfl)]
 case dK ks t =>
  cases e;rw[Rep]at r1;obtain⟨q,xs,rfl,_,f2,fl,f3⟩:=r1;refine .inr (.inl #[q,_,rfl,f2,?_])
  have:(ks.zip xs).length=ks.length:=by rw[List.length_zip,<-f3.length,fl,Nat.min_self]
  rw[this];exact k _ _ (bZ s1 aW rfl)
 case dT ks t =>
  cases e;rw[Rep]at r1;obtain⟨q,xs,rfl,_,f2,fl,f3⟩:=r1;refine .inr (.inr (.inl #[q,_,rfl,f2,?_]))
  have:(ks.zip xs).length=ks.length:=by rw[List.length_zip,<-f3.length,fl,Nat.min_self]
  rw[this];exact k _ _ (bZ s1 aW rfl)
 case fT ks t =>
  cases e;rw[Rep]at r1;obtain⟨q,o,xs,rfl,f2,fl,f3⟩:=r1;refine .inr (.inr (.inr #[q,o,_,rfl,f2,?_]))
  have:(ks.zip xs).length=ks.length:=by rw[List.length_zip,<-f3.length,fl,Nat.min_self]
  rw[this];exact k _ _ (bZ s1 aW rfl)
def HN(hc:X.calm=true)(hg:Gl X "max")(hm:X.mg "max" = none)(ha:SE X cl a a')(hb:SE X cl b b')(hn:noStar a=true)(hn2:noStar b=true):SE X cl (.Call (.Name "max" p) [a,b] [] pos) (.max a' b'):=by
 refine PE.weak (iJ (yw hc) hg hm (by decide +kernel) (b0 (cl:=cl) ha (b0 hb cB hn2) hn) ∅ ∅ (a8 _ hn) (dZ (by simp[hn2]))) fun Y H Q h=>?_;fin2;obtain⟨u,ea,e⟩:=bind_some e;obtain⟨v,eb,e⟩:=bind_some e
 cases u with
 |int i=>
  cases v with
  |int j=>
   cases e
   exact pair rv ea eb fun v u H1 s1 r1 r2=>#[i,j,by rw[ak r1,ak r2],k _ _ (bZ s1 aW rfl)]
  | _=>cases e
 | _=>cases e
abbrev tyN:RL.Ty->String
 | .int => "int"
 | .bool => "bool"
 | .list => "list"
 | .tuple => "tuple"
 | .str => "str"
def Aa:bC X (.builtin "isinstance") (fun xs H Q=>∃ y t T k,xs=[y,.ty T]/\fJ X.K H y t/\W.kitOne X.K t (.type T)=some k/\Q (.bl k) H):=by
 intro pins s Y H xs us Q I r h;obtain⟨y,t,T,k,rfl,ty,e,q⟩:=h;obtain⟨u,w,rfl,r1,r2⟩:=vals2 r;cases r2
 exact xJ I r1 ty e fun tk=>#[.bl k,H,I.tok tk,rfl,q]
def Hj(h:RL.gf t d=some k)(r:Rep nP X.K H d v):∃ ty,fJ X.K H v ty/\W.kitOne X.K ty (.type (tyN t))=some k:=by
 cases d with
 | non=>rw[Rep]at r;subst r;refine#[_,.non,?_];cases t<;>(cases h;rfl)
 | bl i=>rw[bh r];refine#[_,.bl i,?_];cases t<;>(cases h;rfl)
 | int i=>rw[ak r];refine#[_,.int i,?_];cases t<;>(cases h;rfl)
 | str i=>rw[aQ r];refine#[_,.str i,?_];cases t<;>(cases h;rfl)
 | tup i=>obtain⟨q,xs,rfl,f2,f3⟩:=bo r;refine#[_,.tup f2,?_];cases t<;>(cases h;rfl)
 | lst i=>obtain⟨q,xs,rfl,_,f2,f3⟩:=aE r;refine#[_,.lst f2,?_];cases t<;>(cases h;rfl)
 | fL i=>rw[Rep]at r;obtain⟨q,o,xs,rfl,f2,f3⟩:=r;refine#[_,.frz f2,?_];cases t<;>(cases h;rfl)
 | _=>cases t<;>cases h
def EB(hg:Gl X "isinstance")(hm:X.mg "isinstance" = none)(hgy:Gl X y)(hmy:X.mg y=none)(hy:bootBuiltins y=some (.type (tyN t)))(hy1:y ≠ "__name__")(hy2:(y == ("__debug__" : Str))=false)(ha:SE X cl a a')(hn:noStar a=true) :
  SE X cl (.Call (.Name "isinstance" p) [a,.Name y p2] [] pos) (.isi a' t):=by
 have hty:PE X (.Name y p2) (tC (.ty (tyN t))):=CY hgy hmy hy rfl hy1 hy2;refine PE.weak (iJ Aa hg hm (by decide +kernel) (bH ha (bH hty d5 rfl) (a8 _ hn)) ∅ ∅ (a8 _ hn) rfl) fun Y H Q h=>?_;fin2;obtain⟨u,ea,e⟩:=bind_some e;obtain⟨t',e1,e2⟩:=map_some e;subst e2;refine#[Zy,u,rv,ea,fun v H1 r1=>?_];obtain⟨ty,h1,h2⟩:=Hj e1 r1.rep;exact#[v,ty,_,t',rfl,h1,h2,k _ _ (eD r1.same)]
end rules
end RS
namespace L2
open PySem PySem.Spec PyProof.Rows
structure l9(prog:Program)(w:World):Prop where
 draws:∀ {A:Around},A.handled=none->∀ (ti tp:Addr),tp≠ti->∀ its:Array Value,Draws prog w A ti [ti,tp] its.size (fun i v=>its[i]?=some v) (fun i h=>h.IsTupleIter ti tp i/\h.IsTuple tp its)
 call:∀ {A:Around} {E:Value->Shared->Prop} {z:Shared} {tp:Addr} {its:Array Value} {Q:Value->Shared->Prop},z.heap.IsTuple tp its ->
  (∀ g,IsEnum g (z.heap.objs.size+1) z.heap.objs.size 0 .none->g.IsTupleIter z.heap.objs.size tp 0->(∀ b o,z.heap.get? b=some o->g.get? b=some o)->Q (.ref (z.heap.objs.size+1)) { z with heap:=g })->wpAny (model prog w) A (call (.type "enumerate") [.ref tp]) Q E z
section
def Inv.p9{h':Heap}{t':Nat}{fp:List Addr}(I:Inv X pins Y H s)(k:∀ b o,b∉fp->s.heap.get? b=some o->h'.get? b=some o)(hf:∀ b∈fp,H b=none/\(b∈X.ex\/X.s₀.heap.objs.size<=b)/\b≠X.env.locals/\(∀ x c,X.env.cells.lookup x=some c->c≠b)/\∀ p∈X.pn++pins,p.1≠b) :
  Inv X pins Y H { s with heap:=h',toks:=t' }:=by
 have nf:∀ b u,H b=some u->b∉fp:=fun b u e z=>by rw[(hf b z).1]at e;cases e
 refine I.BH (s':={ s with heap:=h',toks:=t' }) (ch:=fp) rfl ⟨fun b o e _ _ hx=>k b o hx e,fun b o e _ _ hx=>#[o.slots,k b o hx e],fun _ _ _ n _=>n,fun b o e hx=>#[o,k b o hx e],fun _ _ e=>e,fun _ _ _ e=>e,fun b ps e=>#[(List.toArray []),by rw[e];simp]⟩ (fun b u e=>?_) I.bare fun b hb=>(hf b hb).2;refine(I.hok b u e).oT (fun c v hc q=>k c v ?_ q) (fun _ q=>q) fun _ _ q=>q;rcases hc with z | z
 ·rw[z];exact nf b u e
 ·exact nf c _ z
end
abbrev Ite(cont:Hp->List V->Prop):It :=
 ⟨fun i H=>∃ xs x,cont H xs/\xs[i]?=some x,fun i H v H'=>∃ p x,H p=none/\v=.ref p/\H'=upd H p (.tup [.int i,x])/\∀ xs,cont H xs->xs[i]?=some x,fun i H=>∃ xs,cont H xs/\xs.length=i⟩
structure Src(P:Program)(w:World)(K:W.Frag)(e it:Addr)(cont:Hp->List V->Prop)(ia:Nat->Heap->Prop):Prop where
 obj:∀ i h,ia i h->∃ o,h.get? it=some o/\∀ v,o.data≠.cell v
 keep:∀ i h h',ia i h->(∀ o,h.get? it=some o->h'.get? it=some o)->ia i h'
 inj:∀ (H:Hp) xs ys,cont H xs->cont H ys->xs=ys
 dr:∀ (X:Cx),X.prog=P->X.w=w->X.K=K->X.calm=true->∀ (pins:List (Addr × Obj)) (s:Shared) (Y:St) (H:Hp) (xs:List V),Inv X pins Y H s->H e=none->H it=none->cont H xs ->
  ∃ (fp:List Addr) (Pv:Nat->Value->Prop) (St:Nat->Heap->Prop),Draws P w X.A.in1 it fp xs.length Pv St/\e∉fp/\(∀ i,ia i s.heap->St i s.heap)/\(∀ i h,St i h->ia i h)/\∀ i v,Pv i v->∃ x,xs[i]?=some x/\RelV x v
def yi{P:Program}{w:World}{K:W.Frag}(hei:e≠it)(S:Src P w K e it cont ia) :
  Turn P w K (.Tuple elts kx tp) (Ite cont) [e,it] e (fun i h=>(∃ old,IsEnum h e it i old)/\ia i h) where
 mem:=by simp
 obj:=fun i h st b hb=>by
  rcases List.mem_cons.mp hb with rfl | hb
  ·obtain⟨⟨old,he⟩,_⟩:=st;exact⟨_,he,fun v z=>by cases z⟩
  ·rw[List.mem_singleton.mp hb];exact S.obj i h st.2
 keep:=fun i h h' st k=>by
  obtain⟨⟨old,he⟩,hi⟩:=st;exact#[#[old,k e (by simp) _ he],S.keep i h h' hi fun o q=>k it (by simp) o q]
 item:=by
  intro X hP hw hK hc i pins s Y H E I hf st hg;subst hP hw hK;obtain⟨⟨old,he⟩,hi⟩:=st;obtain⟨xs,x,hq,hx⟩:=hg;have fe:=hf e (by simp);have fi:=hf it (by simp);obtain⟨fp,Pv,St,D,hef,h1,h2,h3⟩:=S.dr X rfl rfl rfl hc pins s Y H xs I fe.1 fi.1 hq;have hlt:i<xs.length:=(List.getElem?_eq_some_iff.mp hx).1;refine wpAny_pyNext_enum_itemD D he (h1 i hi) hlt hei hef fun v h' tk hP ho hs' hT hsz hk=>?_;obtain⟨x',hx',rx⟩:=h3 i v hP;rw[hx]at hx';cases hx';refine#[.ref s.heap.objs.size,rfl,wpAny_letOwnedTupleGo_enum ho fun h'' he' hs''=>?_];have hn:H s.heap.objs.size=none:=I.hok.fresh (QV _)
  have I1:Inv X pins Y (upd H s.heap.objs.size (.tup [.int i,x])) { s with heap:=s.heap.push { cls:=.type "tuple",data:=.seq (List.toArray [.int i tk,v]) },toks:=tk+1 } :=
   I.laid (t':=tk+1) (fun b u q=>QU _ q) (QV _) ⟨by show 2<=sizeLine;decide,[.int i tk,v],.cons ⟨tk,rfl⟩ (.cons rx .nil),⟨_,QX _ rfl,rfl,_,rfl⟩⟩
  have hes:e<s.heap.objs.size:=QY he
  have hit:it<s.heap.objs.size:=by obtain⟨o,q,_⟩:=S.obj i _ hi;exact QY q
  have stat:∀ b∈[e,it],upd H s.heap.objs.size (.tup [.int i,x]) b=none/\(b∈X.ex\/X.s₀.heap.objs.size<=b)/\b≠X.env.locals/\(∀ x c,X.env.cells.lookup x=some c->c≠b)/\∀ p∈X.pn++pins,p.1≠b:=fun b hb=>by
   obtain⟨f0,f1,f2,f3,f4,f5⟩:=hf b hb
   have hb':b≠s.heap.objs.size:=by
    rcases List.mem_cons.mp hb with rfl | hb
    ·exact Q5 hes
    ·rw[List.mem_singleton.mp hb];exact Q5 hit
   exact#[by rw[aV hb'];exact f0,f3,f1,f4,f5]
  have I2:Inv X pins Y (upd H s.heap.objs.size (.tup [.int i,x])) { s with heap:=h'',toks:=tk+1 }:=by
   refine Inv.p9 (s:={ s with heap:=s.heap.push { cls:=.type "tuple",data:=.seq (List.toArray [.int i tk,v]) },toks:=tk+1 }) (h':=h'') (t':=tk+1) (fp:=[e,it]) I1 (fun b o hb q=>?_) stat;have b1:b≠e:=fun z=>hb (by simp[z]);have b2:b≠it:=fun z=>hb (by simp[z]);refine hs''.extBut b o b1 ?_;by_cases hbT:b=s.heap.objs.size
   ·subst hbT;have q':(s.heap.push { cls:=.type "tuple",data:=.seq (List.toArray [.int i tk,v]) }).get? s.heap.objs.size=some o:=q;rw[QX _ rfl]at q';cases q';exact hT
   ·have q':s.heap.get? b=some o:=(Heap.get?_push_ne _ _ _ hbT).symm.trans q;exact hk b o b1 b2 q'
  refine#[.ref s.heap.objs.size,_,I2,rfl,#[s.heap.objs.size,x,hn,rfl,rfl,fun ys hy=>by rw[S.inj H ys xs hy hq];exact hx],#[#[v,by simpa using he'],S.keep _ h' h'' (h2 _ _ hs') fun o q=>hs''.extBut _ _ (Ne.symm hei) q],fun b hb=>(stat b hb).1]
 done:=by
  intro X hP hw hK hc i pins s Y H E I hf st hg;subst hP hw hK;obtain⟨⟨old,he⟩,hi⟩:=st;obtain⟨xs,hq,hx⟩:=hg;have fe:=hf e (by simp);have fi:=hf it (by simp);obtain⟨fp,Pv,St,D,hef,h1,h2,h3⟩:=S.dr X rfl rfl rfl hc pins s Y H xs I fe.1 fi.1 hq;subst hx
  refine wpAny_pyNext_enum_endD D he (h1 _ hi) fun h' eb=>#[rfl,?_]
  obtain⟨f0,f1,f2,f3,f4,f5⟩:=fi;exact I.turned (it:=it) (h':=h') (t':=s.toks) (fun b o hb q=>eb b o hb q) f0 f1 f3 f4 f5
 self:=fun A i s Q E st h=>by
  obtain⟨⟨old,he⟩,hi⟩:=st;exact wpAny_pyIter_enum he h
def src_list{P:Program}{w:World}{K:W.Frag}(hei:e≠it):Src P w K e it (fun H xs=>H l=some (.lst xs)) (fun i h=>h.IsListIter it l i) where
 obj:=fun i h st=>let ⟨o,ho,_,hd⟩:=st;⟨o,ho,fun v q=>by rw[hd]at q;cases q⟩
 keep:=fun i h h' st k=>st.at fun o q=>k o q
 inj:=fun H xs ys h1 h2=>by rw[h1]at h2;cases h2;rfl
 dr:=by
  intro X hP hw hK hc pins s Y H xs I he hi hx;subst hP hw hK;obtain⟨its,rv,p,hz⟩:=I.list (SqL.of hx)
  have hl:its.toArray.size=xs.length:=by rw[List.size_toArray,rv.length]
  have hh:X.A.in1.handled=none:=I.ok.hd.1 hc;have D:=Draws.list (prog:=X.prog) (w:=X.w) (A:=X.A.in1) hh it l (aO hx hi) its.toArray;rw[hl]at D;refine#[_,_,_,D,?_,fun i st=>#[st,p.isList],fun i h st=>st.1,fun i v hv=>?_]
  ·intro m;rcases List.mem_cons.mp m with q | m
   ·exact hei q
   ·exact(aO hx he).symm (List.mem_singleton.mp m)
  ·have hv:its[i]?=some v:=by simpa using hv
   have hlt:i<xs.length:=by rw[rv.length];exact(List.getElem?_eq_some_iff.mp hv).1
   obtain⟨u,h1,h2⟩:=rv.get (i:=i) (x:=xs[i]) (by simp[hlt]);rw[hv]at h1;cases h1;exact#[xs[i],by simp[hlt],h2]
def CT{P:Program}{w:World}{K:W.Frag}(TE:l9 P w)(hei:e≠it):Src P w K e it (fun H xs=>H l=some (.tup xs)) (fun i h=>h.IsTupleIter it l i) where
 obj:=fun i h st=>let ⟨o,ho,_,hd⟩:=st;⟨o,ho,fun v q=>by rw[hd]at q;cases q⟩
 keep:=fun i h h' st k=>let ⟨o,ho,r⟩:=st;⟨o,k o ho,r⟩
 inj:=fun H xs ys h1 h2=>by rw[h1]at h2;cases h2;rfl
 dr:=by
  intro X hP hw hK hc pins s Y H xs I he hi hx;subst hP hw hK;obtain⟨its,rv,p,hz⟩:=I.tuple (SqT.of hx)
  have hl:its.toArray.size=xs.length:=by rw[List.size_toArray,rv.length]
  have hh:X.A.in1.handled=none:=I.ok.hd.1 hc;have D:=TE.draws (A:=X.A.in1) hh it l (aO hx hi) its.toArray;rw[hl]at D;refine#[_,_,_,D,?_,fun i st=>#[st,p],fun i h st=>st.1,fun i v hv=>?_]
  ·intro m;rcases List.mem_cons.mp m with q | m
   ·exact hei q
   ·exact(aO hx he).symm (List.mem_singleton.mp m)
  ·have hv:its[i]?=some v:=by simpa using hv
   have hlt:i<xs.length:=by rw[rv.length];exact(List.getElem?_eq_some_iff.mp hv).1
   obtain⟨u,h1,h2⟩:=rv.get (i:=i) (x:=xs[i]) (by simp[hlt]);rw[hv]at h1;cases h1;exact#[xs[i],by simp[hlt],h2]
abbrev jA(x:Str):List V:=x.cps.toList.map fun c=>.str ⟨(List.toArray [c])⟩
def C0{P:Program}{w:World}{K:W.Frag}(hei:e≠it):Src P w K e it (fun _ xs=>xs=jA x) (fun i h=>h.IsStrIter it (strIterType x) x t i) where
 obj:=fun i h st=>let ⟨o,ho,_,hd⟩:=st;⟨o,ho,fun v q=>by rw[hd]at q;cases q⟩
 keep:=fun i h h' st k=>let ⟨o,ho,r⟩:=st;⟨o,k o ho,r⟩
 inj:=fun H xs ys h1 h2=>by rw[h1,h2]
 dr:=by
  intro X hP hw hK hc pins s Y H xs I he hi hx;subst hP hw hK hx;have hh:X.A.in1.handled=none:=I.ok.hd.1 hc
  have hl:x.cps.size=(jA x).length:=by simp[jA]
  have pv:∀ (i:Nat) (v:Value),(∃ c u,x.cps[i]?=some c/\v=Value.str ⟨(List.toArray [c])⟩ u)->∃ y,(jA x)[i]?=some y/\RelV y v:=fun i v hv=>by
   obtain⟨c,u,h1,h2⟩:=hv;exact#[.str #[(List.toArray [c])],by simp[jA,h1],u,h2]
  have ni:e∉[it]:=fun m=>hei (List.mem_singleton.mp m)
  cases ha:x.cps.all (·<128)with
  |true=>
   have ht:strIterType x = "str_ascii_iterator" := by simp[strIterType,ha]
   have D:=Draws.strAscii (prog:=X.prog) (w:=X.w) (A:=X.A.in1) hh it x t;rw[hl]at D;exact#[_,_,_,D,ni,fun i st=>by rw[ht]at st;exact st,fun i h st=>by rw[ht];exact st,pv]
  |false=>
   have ht:strIterType x = "str_iterator" := by simp[strIterType,ha]
   have D:=Draws.strWide (prog:=X.prog) (w:=X.w) (A:=X.A.in1) hh it x t;rw[hl]at D;exact#[_,_,_,D,ni,fun i st=>by rw[ht]at st;exact st,fun i h st=>by rw[ht];exact st,pv]
section
abbrev Ib(ta:TA):TI:=fun Y H R=>ta Y H fun vs H1=>(∃ l xs,vs=[.ref l]/\H1 l=some (.lst xs)/\R (Ite fun H xs=>H l=some (.lst xs)) H1)\/(∃ l xs,vs=[.ref l]/\H1 l=some (.tup xs)/\R (Ite fun H xs=>H l=some (.tup xs)) H1) \/
 (∃ x,vs=[.str x]/\R (Ite fun _ xs=>xs=jA x) H1)
def mQ(I:Inv X pins Y H s)(S:Src X.prog X.w X.K (s.heap.objs.size+1) s.heap.objs.size cont ia)
 (he:IsEnum g (s.heap.objs.size+1) s.heap.objs.size 0 .none)(hi:ia 0 g)(hk:∀ b o,s.heap.get? b=some o->g.get? b=some o)(q:R (Ite cont) H) :
  wpAny (model X.prog X.w) X.A (pyIter (.ref (s.heap.objs.size+1))) (PIE X pins Y (.Tuple elts kx tp) R) E { s with heap:=g }:=by
 refine wpAny_pyIter_enum he ⟨s.heap.objs.size+1,[s.heap.objs.size+1,s.heap.objs.size],_,_,H,rfl,I.kept (t':=s.toks) hk,yi (Nat.succ_ne_self _) S,⟨⟨.none,he⟩,hi⟩,fun b hb=>?_,q⟩
 have hb':s.heap.objs.size<=b:=by
  rcases List.mem_cons.mp hb with z | z
  ·rw[z];exact Nat.le_succ _
  ·rw[List.mem_singleton.mp z];exact QV _
 exact I.pG hb' (I.hok.fresh hb')
def DQ(TE:l9 X.prog X.w)(hg:Gl X "enumerate")(hm:X.mg "enumerate" = none)(ha:PA X [a] ta)(hs:starEach [a] X.env=[(false,eval a X.env)]):PI X (.Tuple elts kx tp) (.Call (.Name "enumerate" p) [a] [] pos) (Ib ta):=by
 intro pins s Y H R I h;refine Call_ (il I hg hm boot_enumerate (PyProof.Rows.callWith_type1 (thn (ha pos pins s Y H _ I h) fun us s1 ⟨vs,H1,I1,r1,q1⟩=>?_) hs rfl) ∅ ∅)
 rcases q1 with⟨l,xs,rfl,hx,q⟩ | ⟨l,xs,rfl,hx,q⟩ | ⟨x,rfl,q⟩
 ·obtain⟨u,rfl,ru⟩:=vals1 r1;cases ru;obtain⟨its,rv,pl,hz⟩:=I1.list (SqL.of hx);exact call_enumerate_list pl.isList fun g he hi hsz hk=>mQ I1 (src_list (Nat.succ_ne_self _)) he hi hk q
 ·obtain⟨u,rfl,ru⟩:=vals1 r1;cases ru;obtain⟨its,rv,pl,hz⟩:=I1.tuple (SqT.of hx);exact TE.call pl fun g he hi hk=>mQ I1 (CT TE (Nat.succ_ne_self _)) he hi hk q
 ·obtain⟨u,rfl,ru⟩:=vals1 r1;obtain⟨t,rfl⟩:=ru;exact call_enumerate_str fun g he hi hsz hk=>mQ I1 (C0 (Nat.succ_ne_self _)) he hi hk q
end
end L2
namespace RS
open PySem PySem.Spec PyProof.Rows L2
def kK:∀ (ds:List RL.D) (k:Int),(RL.cM k ds).length=ds.length
 | [],_=>rfl
 | d::r,k=>by rw[RL.cM,List.length_cons,List.length_cons,kK r]
def qg:∀ (ds:List RL.D) (k:Int) (i:Nat) (d:RL.D),(RL.cM k ds)[i]?=some d->∃ e,ds[i]?=some e/\d=.tup [.int (k+i),e]
 | [],k,i,d,h=>by simp[RL.cM]at h
 | e::r,k,0,d,h=>by simp[RL.cM]at h;exact#[e,rfl,by simp[h]]
 | e::r,k,i+1,d,h=>by
  rw[RL.cM,List.getElem?_cons_succ]at h;obtain⟨e',h1,h2⟩:=qg r (k+1) i d h;refine#[e',by simpa using h1,?_];rw[h2];congr 3;lia
def ie{K:W.Frag}(hc:∀ H',Off P H H'->cont H' xs)(hj:∀ H' ys,cont H' xs->cont H' ys->ys=xs)(r:ae nP K H ds xs)(hm:∀ b o,P b->H b=some o->cS o):jw K (Ite cont) (RL.cM 0 ds) P H where
 go:=fun H' i k hi=>by
  rw[kK]at hi;obtain⟨x,e,_⟩:=r.get (i:=i) (d:=ds[i]) (by simp[hi]);exact#[xs,x,hc H' k,e]
 stop:=fun H' k=>#[xs,hc H' k,by rw[kK,r.length]]
 yld:=fun H' i d v H2 k e y=>by
  obtain⟨p,x,hp,rfl,rfl,hx⟩:=y;obtain⟨e',h1,rfl⟩:=qg ds 0 i d e;obtain⟨x',h2,h3⟩:=r.get h1;rw[hx xs (hc H' k)]at h2;cases h2;refine#[a6.bP hp,fun q=>?_]
  have re:Rep nP K H' e' x:=by
   rcases q with q | q
   ·have q:(true&&(e'.imm&&true))=true:=q;simp only[Bool.true_and,Bool.and_true]at q;exact gc hm k h3 q
   ·exact h3.same q
  rw[Rep];refine#[p,[.int i,x],rfl,bp,ae.cons ?_ (ae.cons (re.same (a6.bP hp)) ae.nil)];simpa using(aW (P:=nP) (K:=K) (H:=upd H' p (.tup [.int i,x])) (i:=(i:Int)))
def yJ{P:Addr->Prop}{K:W.Frag}(h:RL.jN d=some ds)(r:Rep P K H d v):(∃ p xs,v=.ref p/\H p=some (.lst xs)/\d=.lst ds/\ae P K H ds xs)\/(∃ p xs,v=.ref p/\H p=some (.tup xs)/\d=.tup ds/\ae P K H ds xs) \/
  (∃ x,v=.str x/\d=.str x/\ds=x.cps.toList.map fun c=>.str ⟨(List.toArray [c])⟩):=by
 cases d<;>simp only[RL.jN]at h<;>first | (cases h;done) | skip
 case lst ys=>cases h;obtain⟨p,xs,e1,_,e2,e3⟩:=aE r;exact .inl #[p,xs,e1,e2,rfl,e3]
 case tup ys=>cases h;obtain⟨p,xs,e1,e2,e3⟩:=bo r;exact .inr (.inl #[p,xs,e1,e2,rfl,e3])
 case str x=>cases h;exact .inr (.inr #[x,aQ r,rfl,rfl])
def kr{P:Addr->Prop}{K:W.Frag}:∀ (cs:List Nat),ae P K H (cs.map fun c=>RL.D.str ⟨(List.toArray [c])⟩) (cs.map fun c=>V.str ⟨(List.toArray [c])⟩)
 | []=>ae.nil
 | c::r=>ae.cons jB (kr r)
section rules
def Hl(TE:l9 X.prog X.w)(hg:Gl X "enumerate")(hm:X.mg "enumerate" = none)(ha:SE X cl a a')(hn:noStar a=true):SI X cl (.Tuple elts kx tp) (.Call (.Name "enumerate" p) [a] [] pos) (.enm a'):=by
 intro pins s Y H R I h;obtain⟨Zy,ds,rv,e,k⟩:=h;obtain⟨d,e1,e2⟩:=bind_some e;obtain⟨es,e3,e4⟩:=map_some e2;subst e4;have hpa:PA X [a] (gQ (tE X.K cl a') pz):=bH ha d5 (a8 [] hn);refine DQ TE hg hm hpa (a8 [] hn) pins s Y H R I ⟨Zy,d,rv,e1,fun v H1 r1=>?_⟩
 rcases yJ e3 r1.rep with⟨l,xs,rfl,hx,rfl,rs⟩ | ⟨l,xs,rfl,hx,rfl,rs⟩ | ⟨x,rfl,rfl,rfl⟩
 ·refine .inl ⟨l,xs,rfl,hx,k _ _ r1.same ⟨ie (fun H' o=>o _ _ (fun z=>z) hx) (fun H' ys h1 h2=>by rw[h1]at h2;cases h2;rfl) rs gz,fun M P z hP av=>?_⟩⟩;exact ie (fun H' o=>o _ _ (nU r1 z hP av _ _ rfl rfl) hx) (fun H' ys h1 h2=>by rw[h1]at h2;cases h2;rfl) rs (eo r1.same hP)
 ·have np:∀ P:Addr->Prop,(∀ b o,P b->H1 b=some o->cS o)->¬ P l:=fun P hP q=>by rcases hP l _ q hx with⟨z,q⟩ | ⟨z,q⟩ | ⟨z,q⟩<;>cases q
  exact .inr (.inl ⟨l,xs,rfl,hx,k _ _ r1.same ⟨ie (fun H' o=>o _ _ (np _ gz) hx) (fun H' ys h1 h2=>by rw[h1]at h2;cases h2;rfl) rs gz,fun M P z hP av=>ie (fun H' o=>o _ _ (np P (eo r1.same hP)) hx) (fun H' ys h1 h2=>by rw[h1]at h2;cases h2;rfl) rs (eo r1.same hP)⟩⟩)
 ·exact .inr (.inr #[x,rfl,k _ _ r1.same #[ie (fun H' o=>rfl) (fun H' ys h1 h2=>h2) (kr _) gz,fun M P z hP av=>ie (fun H' o=>rfl) (fun H' ys h1 h2=>h2) (kr _) (eo r1.same hP)]])
end rules
section rules
variable{X:Cx}
def Dw{P:Addr->Prop}{K:W.Frag}(h:Rep P K H (.scr ds) v):∃ a xs,v=.ref a/\lj K H a xs/\ae P K H ds xs:=by rw[Rep]at h;exact h
def yQ(n:Nat)(k:Int):HT.sIx n n (some k)=RL.cutAt n k:=by
 have h:=HT.hX k n n;unfold RL.cutAt;split at h
 ·rw[if_neg ⋯];lia
 ·rw[if_pos ⋯];lia
def wD(n:Nat)(k:Int):HT.sIx n 0 (some k)=RL.cutAt n k:=by
 have h:=HT.hX k n 0;unfold RL.cutAt;split at h
 ·rw[if_neg ⋯];lia
 ·rw[if_pos ⋯];lia
def Ei(h:RL.ij x y=some d):∃ n,y=.int n/\((∃ xs,(x=.lst xs\/x=.scr xs\/x=.fL xs)/\d=.lst (xs.take (RL.cutAt xs.length n)))\/∃ xs,x=.tup xs/\RL.cutAt xs.length n<xs.length/\d=.tup (xs.take (RL.cutAt xs.length n))):=by
 unfold RL.ij at h;split at h
 ·exact#[_,rfl,.inl #[_,.inr (.inr rfl),(Option.some.inj h).symm]]
 ·exact#[_,rfl,.inl #[_,.inr (.inl rfl),(Option.some.inj h).symm]]
 ·exact#[_,rfl,.inl #[_,.inl rfl,(Option.some.inj h).symm]]
 ·split at h
  ·rename_i hz;exact#[_,rfl,.inr #[_,rfl,hz,(Option.some.inj h).symm]]
  ·cases h
 ·cases h
def D4(h:RL.i6 x y=some d):∃ n,y=.int n/\((∃ xs,(x=.lst xs\/x=.fL xs)/\d=.lst (xs.drop (RL.cutAt xs.length n)))\/∃ xs,x=.tup xs/\0<RL.cutAt xs.length n/\d=.tup (xs.drop (RL.cutAt xs.length n))):=by
 unfold RL.i6 at h;split at h
 ·exact#[_,rfl,.inl #[_,.inr rfl,(Option.some.inj h).symm]]
 ·exact#[_,rfl,.inl #[_,.inl rfl,(Option.some.inj h).symm]]
 ·split at h
  ·rename_i hz;exact#[_,rfl,.inr #[_,rfl,hz,(Option.some.inj h).symm]]
  ·cases h
 ·cases h
def zi{P:Addr->Prop}{K:W.Frag}{H:Hp}(r:Rep P K H x v)(h:x=.lst xs\/x=.scr xs\/x=.fL xs):∃ q ys,v=.ref q/\SqL K H q ys/\ae P K H xs ys:=by
 rcases h with rfl | rfl | rfl
 ·obtain⟨q,ys,rfl,_,f2,f3⟩:=aE r;exact#[q,ys,rfl,SqL.of f2,f3]
 ·obtain⟨q,ys,rfl,f2,f3⟩:=Dw r;exact#[q,ys,rfl,f2.seq,f3]
 ·rw[Rep]at r;obtain⟨q,o,ys,rfl,f2,f3⟩:=r;exact#[q,ys,rfl,.inl (.inr #[o,f2]),f3]
def G9(ha:SE X cl a a')(hb:SE X cl b b'):SE X cl (.Subscript a (.Slice none (some b) none p2) pos) (.slT a' b'):=by
 refine PE.weak (rX (SlR.or uW x6) ha v9 (lD hb)) fun Y H Q h=>?_;fin2;k_in;obtain⟨y,eb,e⟩:=bind_some e;refine#[Zy,x,rv,ea,fun v H1 r1=>#[Zy,y,rv.same r1.same,eb,fun u H2 r2=>?_]];have rx:=r1.rep.same r2.same;have sm:=r1.same.trans r2.same;obtain⟨n,rfl,⟨xs,hx,rfl⟩ | ⟨xs,rfl,hz,rfl⟩⟩:=Ei e
 ·obtain⟨q,ys,rfl,f2,f3⟩:=zi rx hx;refine#[n,ak r2.rep,.inl #[q,ys,rfl,f2,fun l hl=>?_]];unfold jr;rw[tq,<-f3.length];exact k _ _ (fh sm hl (f3.take _) fun _=>rfl)
 ·obtain⟨q,ys,rfl,f2,f3⟩:=bo rx;refine#[n,ak r2.rep,.inr #[q,ys,rfl,SqT.of f2,fun z=>?_,fun l hl=>?_]]
  ·rw[yQ,<-f3.length]at z;lia
  ·unfold jr;rw[tq,<-f3.length];exact k _ _ (eQ sm hl (f3.take _) fun _=>rfl)
def Fp(ha:SE X cl a a')(hb:SE X cl b b'):SE X cl (.Subscript a (.Slice (some b) none none p2) pos) (.slF a' b'):=by
 refine PE.weak (rX (SlR.or uW x6) ha (lD hb) v9) fun Y H Q h=>?_;fin2;k_in;obtain⟨y,eb,e⟩:=bind_some e;refine#[Zy,x,rv,ea,fun v H1 r1=>#[Zy,y,rv.same r1.same,eb,fun u H2 r2=>?_]];have rx:=r1.rep.same r2.same;have sm:=r1.same.trans r2.same;obtain⟨n,rfl,⟨xs,hx,rfl⟩ | ⟨xs,rfl,hz,rfl⟩⟩:=D4 e
 ·obtain⟨q,ys,rfl,f2,f3⟩:=zi rx (hx.imp_right .inr);refine#[n,ak r2.rep,.inl #[q,ys,rfl,f2,fun l hl=>?_]];unfold jr;rw[um,<-f3.length];exact k _ _ (fh sm hl (f3.drop _) fun _=>rfl)
 ·obtain⟨q,ys,rfl,f2,f3⟩:=bo rx;refine#[n,ak r2.rep,.inr #[q,ys,rfl,SqT.of f2,fun z=>?_,fun l hl=>?_]]
  ·rw[wD,<-f3.length]at z;lia
  ·unfold jr;rw[um,<-f3.length];exact k _ _ (eQ sm hl (f3.drop _) fun _=>rfl)
abbrev sr:RL.D->RL.D->Option (Option RL.D)
 | .dK ks vs,k=>(RL.keyOf k).map (RL.aG ks vs)
 | .dT ks vs,.tup k=>(RL.keysOf k).map (RL.aG ks vs)
 | .fT ks vs,.tup k=>(RL.keysOf k).map (RL.aG ks vs)
 | _,_=>none
abbrev Ans(P:Addr->Prop)(K:W.Frag)(H:Hp):Option RL.D->Option V->Prop
 | some d,r=>∃ w,r=some w/\Rep P K H d w
 | none,r=>r=none
def gb{κ:Type} [DecidableEq κ]{P:Addr->Prop}{K:W.Frag}{H:Hp}{x:κ}:∀ {ks:List κ} {ds:List RL.D} {xs:List V},ks.length=ds.length->ae P K H ds xs ->
  Ans P K H (RL.aG ks ds x) (eS (ks.zip xs) x)
 | [],ds,xs,hl,r=>by simp[RL.aG,eS,Ans]
 | k::ks,[],xs,hl,r=>by simp at hl
 | k::ks,d::ds,xs,hl,r=>by
  rw[ae]at r;obtain⟨v,t,rfl,r1,r2⟩:=r;by_cases hk:k=x
  ·have h1:RL.aG (k::ks) (d::ds) x=some d:=by rw[RL.aG,if_pos hk]
   rw[h1];exact#[v,by rw[List.zip_cons_cons];exact iI hk,r1]
  ·have ih:=gb (x:=x) (ks:=ks) (ds:=ds) (xs:=t) (by simpa using hl) r2
   have h1:RL.aG (k::ks) (d::ds) x=RL.aG ks ds x:=by rw[RL.aG,if_neg hk]
   rw[h1,List.zip_cons_cons,i4 hk];exact ih
def nr{P:Addr->Prop}{K:W.Frag}(h:RL.keyOf d=some k)(r:Rep P K H d v):v=kV k:=by
 cases d<;>simp only[RL.keyOf]at h<;>first | (cases h;done) | skip
 case int i=>cases h;exact ak r
 case str i=>cases h;exact aQ r
def jf{P:Addr->Prop}{K:W.Frag}:∀ {ds:List RL.D} {k:List RL.Ky} {xs:List V},RL.keysOf ds=some k->ae P K H ds xs->xs=k.map kV
 | [],k,xs,h,r=>by cases h;rw[ae]at r;exact r
 | d::ds,k,xs,h,r=>by
  rw[RL.keysOf]at h;obtain⟨k1,h1,h⟩:=bind_some h;obtain⟨k2,h2,h3⟩:=map_some h;subst h3;rw[ae]at r;obtain⟨v,t,rfl,r1,r2⟩:=r;rw[nr h1 r1,jf h2 r2];rfl
def Eg(h:sr y kx=some o):(∃ ks vs k,y=.dK ks vs/\RL.keyOf kx=some k/\RL.aG ks vs k=o)\/∃ ks vs kk k,(y=.dT ks vs\/y=.fT ks vs)/\kx=.tup kk/\RL.keysOf kk=some k/\RL.aG ks vs k=o:=by
 unfold sr at h;split at h
 ·obtain⟨k,h1,h2⟩:=map_some h;exact .inl #[_,_,k,rfl,h1,h2]
 ·obtain⟨k,h1,h2⟩:=map_some h;exact .inr #[_,_,_,k,.inl rfl,rfl,h1,h2]
 ·obtain⟨k,h1,h2⟩:=map_some h;exact .inr #[_,_,_,k,.inr rfl,rfl,h1,h2]
 ·cases h
def uC{H:Hp}{y kx:RL.D}{v u:V}{o:Option RL.D}(ry:Rep nP X.K H y v)(rk:Rep nP X.K H kx u)(h:sr y kx=some o) :
  ∃ q r,v=.ref q/\eZ H q u r/\Ans nP X.K H o r/\∀ P:Addr->Prop,Rep P X.K H y v->Ans P X.K H o r:=by
 rcases Eg h with⟨ks,vs,k,rfl,h1,h2⟩ | ⟨ks,vs,kk,k,hy,rfl,h1,h2⟩
 ·rw[Rep]at ry;obtain⟨q,xs,rfl,_,f2,fl,f3⟩:=ry;have lk:=gb (x:=k) fl f3;rw[h2]at lk;refine#[q,_,rfl,by rw[nr h1 rk];exact eZ.k f2,lk,fun P r=>?_];rw[Rep]at r;obtain⟨q2,xs2,e0,_,e2,el,e3⟩:=r;cases e0;rw[e2]at f2;have lk:=gb (x:=k) el e3
  have fe:ks.zip xs2=ks.zip xs:=by injection f2 with f2;injection f2
  rw[h2,fe]at lk;exact lk
 ·obtain⟨q',ys,rfl,g2,g3⟩:=bo rk;rw[jf h1 g3]at g2;rcases hy with rfl | rfl
  ·rw[Rep]at ry;obtain⟨q,xs,rfl,_,f2,fl,f3⟩:=ry;have lk:=gb (x:=k) fl f3;rw[h2]at lk;refine#[q,_,rfl,eZ.t f2 g2,lk,fun P r=>?_];rw[Rep]at r;obtain⟨q2,xs2,e0,_,e2,el,e3⟩:=r;cases e0;rw[e2]at f2;have lk:=gb (x:=k) el e3
   have fe:ks.zip xs2=ks.zip xs:=by injection f2 with f2;injection f2
   rw[h2,fe]at lk;exact lk
  ·rw[Rep]at ry;obtain⟨q,o,xs,rfl,f2,fl,f3⟩:=ry;have lk:=gb (x:=k) fl f3;rw[h2]at lk;refine#[q,_,rfl,.inr #[ks.zip xs,k,q',.inr #[o,f2],rfl,g2,rfl],lk,fun P r=>?_];rw[Rep]at r;obtain⟨q2,o2,xs2,e0,e2,el,e3⟩:=r;cases e0;rw[e2]at f2;have lk:=gb (x:=k) el e3
   have fe:ks.zip xs2=ks.zip xs:=by injection f2 with f2;injection f2 with _ f2;injection f2
   rw[h2,fe]at lk;exact lk
def E9(h:RL.ka y kx=some d):sr y kx=some (some d):=by
 unfold RL.ka at h;split at h
 ·obtain⟨k,h1,h2⟩:=bind_some h;show(RL.keyOf _).map _=_;rw[h1,Option.map_some,h2]
 ·obtain⟨k,h1,h2⟩:=bind_some h;show(RL.keysOf _).map _=_;rw[h1,Option.map_some,h2]
 ·obtain⟨k,h1,h2⟩:=bind_some h;show(RL.keysOf _).map _=_;rw[h1,Option.map_some,h2]
 ·cases h
def EZ(hu:X.A.units+100<cLine)(ha:SE X cl a a')(hb:SE X cl b b')(hs:wc b):SE X cl (.Subscript a b pos) (.ixD a' b'):=by
 refine PE.weak (Dk ⋯ ha hb hs) fun Y H Q h=>?_;fin2;k_in;obtain⟨y,eb,e⟩:=bind_some e;refine#[Zy,x,rv,ea,fun v H1 r1=>#[Zy,y,rv.same r1.same,eb,fun u H2 r2=>?_]];obtain⟨q,r,rfl,g,⟨w,rfl,rw'⟩,av⟩:=uC (r1.rep.same r2.same) r2.rep (E9 e);refine⟨q,w,rfl,g,k _ _ ⟨r1.same.trans r2.same,rw',fun z=>(by cases z),fun M z P hP hj=>?_⟩⟩;obtain⟨w2,e2,r3⟩:=av P ((r1.av M z P hP hj).same r2.same);cases e2;exact r3
def EW:SE X cl (.Dict [] [] pos) .dk0:=by
 refine PE.weak AI fun Y H Q h=>?_;fin2;cases e;intro q hq;refine k _ _ ⟨a6.bP hq,?_,fun _ _ a z=>(by cases z;exact hq),fun M z=>nomatch (show false=true from z)⟩;rw[Rep];exact#[q,[],rfl,fun z=>z,bp,rfl,ae.nil]
def GF:SE X cl (.Dict [] [] pos) .dt0:=by
 refine PE.weak zS fun Y H Q h=>?_;fin2;cases e;intro q hq;refine k _ _ ⟨a6.bP hq,?_,fun _ _ a z=>(by cases z;exact hq),fun M z=>nomatch (show false=true from z)⟩;rw[Rep];exact#[q,[],rfl,fun z=>z,bp,rfl,ae.nil]
end rules
section rules
variable{X:Cx}{st:Stmt}
def Fw(hn:∀ ks ds,y≠.fT ks ds)(h:RL.kc y kx=some k):∃ o,sr y kx=some o/\k=o.isSome:=by
 unfold RL.kc at h;split at h
 ·obtain⟨q,h1,h2⟩:=map_some h;exact#[_,by show(RL.keyOf _).map _=_;rw[h1];rfl,h2.symm]
 ·obtain⟨q,h1,h2⟩:=map_some h;exact#[_,by show(RL.keysOf _).map _=_;rw[h1];rfl,h2.symm]
 ·exact absurd rfl (hn _ _)
 ·cases h
def Ans.isSome{P:Addr->Prop}{K:W.Frag}(h:Ans P K H o r):r.isSome=o.isSome:=by
 cases o with
 | none=>rw[show r=none from h];rfl
 | some d=>obtain⟨w,hw,_⟩:=h;rw[hw];rfl
def C9{κ:Type} [DecidableEq κ](kvs:List (κ × V))(k:κ):(eS kvs k).isSome=(kvs.map (·.1)).any fun x=>decide (x=k):=by
 induction kvs with
 | nil=>rfl
 |cons q r ih=>
  obtain⟨x,v⟩:=q;by_cases c:x=k
  ·rw[iI c,List.map_cons,Zs,decide_eq_true c];rfl
  ·rw[i4 c,ih,List.map_cons,Zs,Q1 c];rfl
def xS{H:Hp}{y kx:RL.D}{v u:V}(ry:Rep nP X.K H y v)(rk:Rep nP X.K H kx u)(h:RL.kc y kx=some k):∃ q r,v=.ref q/\eZ H q u r/\r.isSome=k:=by
 by_cases c:∃ ks ds,y=.fT ks ds
 ·obtain⟨ks,ds,rfl⟩:=c
  cases kx with
  |tup kk=>
   obtain⟨kq,h1,h2⟩:=map_some (show(RL.keysOf kk).map _=some k from h);rw[Rep]at ry;obtain⟨q,o,xs,rfl,f2,fl,f4⟩:=ry
   have f3:(ks.zip xs).map (·.1)=ks:=by rw[List.map_fst_zip];rw[fl,f4.length];exact QV _
   obtain⟨q',ys,rfl,g2,g3⟩:=bo rk;rw[jf h1 g3]at g2;refine#[q,_,rfl,.inr #[ks.zip xs,kq,q',.inr #[o,f2],rfl,g2,rfl],?_];rw[C9,f3];exact h2
  | _=>cases h
 ·obtain⟨o,h1,h2⟩:=Fw (fun ks ds z=>c ⟨ks,ds,z⟩) h;obtain⟨q,r,e,g,an,_⟩:=uC ry rk h1;exact#[q,r,e,g,by rw[an.isSome,h2]]
abbrev BL(neg:Bool)(ty td:TE):TE:=if neg then vn ty td else Gz ty td
def vC(hu:X.A.units+100<cLine)(ha:SE X cl a a')(hb:SE X cl b b'):PC X (if neg then .NotIn else .In) a b (BL neg (tE X.K cl a') (tE X.K cl b')):=by
 cases neg with
 | true=>exact yV ⋯ ha hb
 | false=>exact Gh ⋯ ha hb
def xT(rv:RV0 X.K Zy Y H)(e:RL.ev cl Zy (.inD neg a' b')=some d)(k:∀ t H',d=.bl t->a6 H H'->Q (.bl t) H'):BL neg (tE X.K cl a') (tE X.K cl b') Y H Q:=by
 k_in;obtain⟨y,eb,e⟩:=bind_some e;obtain⟨t,e1,e2⟩:=map_some e
 cases neg with
 |true=>
  refine two rv ea eb fun v u H1 H2 s1 s2 rx ry _ _=>?_;obtain⟨q,r,rfl,g,an⟩:=xS ry rx e1;refine#[q,r,rfl,g,k _ _ ?_ (s1.trans s2)];rw[an,<-e2];rfl
 |false=>
  refine two rv ea eb fun v u H1 H2 s1 s2 rx ry _ _=>?_;obtain⟨q,r,rfl,g,an⟩:=xS ry rx e1;refine#[q,r,rfl,g,k _ _ ?_ (s1.trans s2)];rw[an,<-e2];rfl
def HP(hu:X.A.units+100<cLine)(ha:SE X cl a a')(hb:SE X cl b b')(hm:mU b=true):SE X cl (.Compare a [if neg then .NotIn else .In] [b] pos) (.inD neg a' b'):=by
 refine PE.weak (Ew (vC hu ha hb) (je hm)) fun Y H Q h=>?_;obtain⟨Zy,d,rv,e,q⟩:=h
 exact xT rv e fun t H' hd sm=>by subst hd;exact q _ _ (eD sm)
def G1(hu:X.A.units+100<cLine)(ha:SE X cl a a')(hb:SE X cl b b')(hm:mU b=true):ST X cl (.Compare a [if neg then .NotIn else .In] [b] pos) (.inD neg a' b'):=by
 refine PT.weak (En (vC hu ha hb) (je hm)) fun Y H Q h=>?_;obtain⟨Zy,k,rv,e,q⟩:=h;obtain⟨d,e1,e2⟩:=bind_some e;refine xT rv e1 fun t H' hd sm=>?_;subst hd;cases e2;exact#[_,rfl,q _ sm]
def vh{κ:Type} [DecidableEq κ]{x:κ}{d:RL.D}{v:V}{P:Addr->Prop}{K:W.Frag}{H:Hp}{ks:List κ}{ds:List RL.D}{xs:List V}(hl:ks.length=ds.length)(r:ae P K H ds xs)(rv:Rep P K H d v) :
  ∃ ys,putK (ks.zip xs) x v=(RL.putD ks ds x d).1.zip ys/\(RL.putD ks ds x d).1.length=(RL.putD ks ds x d).2.length/\ae P K H (RL.putD ks ds x d).2 ys:=by
 have hx:ks.length=xs.length:=hl.trans r.length
 have any:∀ (ks:List κ) (xs:List V),ks.length=xs.length->((ks.zip xs).any fun kv=>decide (kv.1=x))=decide (x∈ks):=by
  intro ks
  induction ks with
  | nil=>intro xs _;simp
  |cons k r ih=>
   intro xs h
   cases xs with
   | nil=>simp at h
   |cons y t=>
    rw[List.zip_cons_cons,Zs,ih t (by simpa using h)];by_cases hk:k=x
    ·simp[hk]
    ·simp[hk,Ne.symm hk]
 unfold putK RL.putD;rw[any ks xs hx];by_cases hm:x∈ks
 ·rw[if_pos (by simpa using hm),if_pos hm];refine#[List.zipWith (fun k w=>if k=x then v else w) ks xs,?_,?_,?_]
  ·clear any hm hl r
   induction ks generalizing xs with
   | nil=>simp
   |cons k t ih=>
    cases xs with
    | nil=>simp at hx
    |cons y t'=>
     rw[List.zip_cons_cons,List.map_cons,List.zipWith_cons_cons,List.zip_cons_cons,ih (by simpa using hx)];by_cases hk:k=x<;>simp[hk]
  ·rw[List.length_zipWith,hl,Nat.min_self]
  ·clear any hm hx
   induction ks generalizing ds xs with
   | nil=>simpa using ae.nil
   |cons k t ih=>
    cases ds with
    | nil=>simp at hl
    |cons d0 ds=>
     rw[ae]at r;obtain⟨y,t',rfl,r1,r2⟩:=r;rw[List.zipWith_cons_cons,List.zipWith_cons_cons];refine ae.cons ?_ (ih (by simpa using hl) r2);by_cases hk:k=x
     ·rw[if_pos hk,if_pos hk];exact rv
     ·rw[if_neg hk,if_neg hk];exact r1
 ·rw[if_neg (by simpa using hm),if_neg hm];refine#[xs++[v],?_,by simp[hl],ae.append r (ae.cons rv ae.nil)];rw[List.zip_append hx];rfl
def yW [DecidableEq κ](hd:d.imm=true):∀ {ks:List κ} {ds:List RL.D},RL.aw ds=true->RL.aw (RL.putD ks ds x d).2=true:=by
 have app:∀ l:List RL.D,RL.aw l=true->RL.aw (l++[d])=true:=fun l=>by
  induction l with
  | nil=>intro _;simp[RL.aw,hd]
  | cons z r ih=>intro h;rw[RL.aw,Bool.and_eq_true]at h;rw[List.cons_append,RL.aw,h.1,ih h.2];rfl
 have zw:∀ (ks:List κ) (ds:List RL.D),RL.aw ds=true->RL.aw (List.zipWith (fun k w=>if k=x then d else w) ks ds)=true:=fun ks=>by
  induction ks with
  | nil=>intro ds _;simp[RL.aw]
  |cons k r ih=>
   intro ds h
   cases ds with
   | nil=>simp[RL.aw]
   |cons y t=>
    rw[RL.aw,Bool.and_eq_true]at h;rw[List.zipWith_cons_cons,RL.aw,ih t h.2,Bool.and_true];by_cases hk:k=x
    ·rw[if_pos hk];exact hd
    ·rw[if_neg hk];exact h.1
 intro ks ds h;unfold RL.putD;split
 ·exact zw ks ds h
 ·exact app ds h
def Cy(h:PS X st (vR (gK i) (tE X.K cl k') (tE X.K cl e')))(hi:M.contains i=true):PS X st (tS X.K M fun Zy=>(RL.ev cl Zy e').bind fun d=>(RL.ev cl Zy k').bind fun kk=>((Zy[i]?).bind id).bind fun l=>match l with
  | .lst _=>none
  | _=>if d.imm then(RL.cI l kk d).map fun l'=>(.nx,Zy.set i (some l'))else none):=by
 refine PS.weak h fun D Y H h=>?_;k_all;obtain⟨d,e1,e⟩:=bind_some e;obtain⟨kk,e2,e⟩:=bind_some e;obtain⟨l,e3,e⟩:=bind_some e;obtain⟨v,h1,h2⟩:=rv.val i _ (slot_get e3);rw[if_pos hi]at h2;obtain⟨q1,q2,q3⟩:=h2
 cases l with
 |dK ks ds=>
  dsimp only at e;split at e
  ·rename_i him;obtain⟨l',e4,e5⟩:=map_some e;cases e5;obtain⟨kx,e6,e7⟩:=bind_some (show(RL.keyOf kk).bind _=some l' from e4);split at e7
   ·rename_i hz;cases e7;rw[Rep]at q3;obtain⟨q,xs,rfl,_,f2,fl,f3⟩:=q3;refine#[Zy,d,rv.rv0,e1,fun y H1 r1=>#[.ref q,h1,Zy,kk,rv.rv0.same r1.same,e2,fun u H2 r2=>?_]];have sm:=r1.same.trans r2.same;obtain⟨ys,p1,p2,p3⟩:=vh (x:=kx) fl (f3.same sm) (r1.rep.same r2.same)
    have hlen:(ks.zip xs).length<sizeLine:=by
     rw[List.length_zip,<-f3.length,fl,Nat.min_self,<-fl];exact Q0 hz cA
    refine#[q,_,rfl,by rw[nr e6 r2.rep];exact kJ.k (sm _ _ f2) hlen,?_];have im:=yW (x:=kx) him (ks:=ks) q2
    obtain⟨g1,g2⟩:=(rv.same sm).fC (d':=.dK (RL.putD ks ds kx d).1 (RL.putD ks ds kx d).2) (o':=.dK (putK (ks.zip xs) kx y)) hi h1 (sm _ _ f2) (.inr (.inl #[_,rfl])) ⟨rfl,im,by
     rw[Rep]
     exact#[q,ys,rfl,fun z=>z,by rw[bp,p1],p2,(ae.upd (P:=fun p=>p=q) (sm _ _ f2) (.inr (.inl #[_,rfl])) rfl (p3.imm im)).imm im]⟩
    exact k _ _ g1 ((Fr'.same sm).trans g2)
   ·cases e7
  ·cases e
 |dT ks ds=>
  dsimp only at e;split at e
  ·rename_i him;obtain⟨l',e4,e5⟩:=map_some e;cases e5
   cases kk with
   |tup kt=>
    obtain⟨kx,e6,e7⟩:=bind_some (show(RL.keysOf kt).bind _=some l' from e4);split at e7
    ·rename_i hz;cases e7;rw[Rep]at q3;obtain⟨q,xs,rfl,_,f2,fl,f3⟩:=q3;refine#[Zy,d,rv.rv0,e1,fun y H1 r1=>#[.ref q,h1,Zy,.tup kt,rv.rv0.same r1.same,e2,fun u H2 r2=>?_]];have sm:=r1.same.trans r2.same;obtain⟨ys,p1,p2,p3⟩:=vh (x:=kx) fl (f3.same sm) (r1.rep.same r2.same)
     have hlen:(ks.zip xs).length<sizeLine:=by
      rw[List.length_zip,<-f3.length,fl,Nat.min_self,<-fl];exact Q0 hz cA
     obtain⟨b,ws,rfl,g2,g3⟩:=bo r2.rep;rw[jf e6 g3]at g2;refine#[q,_,rfl,kJ.t (sm _ _ f2) g2 hlen,?_];have im:=yW (x:=kx) him (ks:=ks) q2
     obtain⟨g1,g2⟩:=(rv.same sm).fC (d':=.dT (RL.putD ks ds kx d).1 (RL.putD ks ds kx d).2) (o':=.dT (putK (ks.zip xs) kx y)) hi h1 (sm _ _ f2) (.inr (.inr #[_,rfl])) ⟨rfl,im,by
      rw[Rep]
      exact#[q,ys,rfl,fun z=>z,by rw[bp,p1],p2,(ae.upd (P:=fun p=>p=q) (sm _ _ f2) (.inr (.inr #[_,rfl])) rfl (p3.imm im)).imm im]⟩
     exact k _ _ g1 ((Fr'.same sm).trans g2)
    ·cases e7
   | _=>cases e4
  ·cases e
 | lst _=>cases e
 | _=>cases q1
end rules
end RS
namespace L2
open PySem PySem.Spec PyProof.Rows
abbrev Its(c lo:Int)(n:Nat):It:=#[fun i _=>i<n,fun i H x H'=>H'=H/\x=.int (lo+i*c),fun i _=>n<=i]
def yI{P:Program}{w:World}{K:PySem.W.Frag}(it:Addr)(c lo:Int)(n:Nat):Turn P w K tg (Its c lo n) [it] it (fun i h=>IsRangeIter h it (lo+(i:Nat)*c) ((n:Int)-(i:Nat)) c) where
 mem:=by simp
 obj:=fun i h st b hb=>by
  rw[show b=it by simpa using hb];exact⟨_,st,fun v z=>by cases(show Data.fields _=Data.cell v from z)⟩
 keep:=fun i h h' st k=>k it (by simp) _ st
 item:=by
  intro X hP hw hK hc i pins s Y H E I hf st hg;subst hP hw hK;obtain⟨f0,f1,f2,f3,f4,f5⟩:=hf it (by simp);have W:=Walks.range (prog:=X.prog) (w:=X.w) (I.ok.hd.1 hc) it lo c n;refine W.item i s _ _ hg st fun v h' tk hv st' kk=>?_;obtain⟨t,rfl⟩:=hv;have I1:Inv X pins Y H { s with heap:=h',toks:=tk }:=I.turned (fun b o hb e=>kk b o (by simpa using hb) e) f0 f1 f3 f4 f5;exact#[_,rfl,qO (s:={ s with heap:=h',toks:=tk }) (n := "range_iterator") st' rfl rfl ∅ #[.int (lo+i*c),H,I1,#[t,rfl],#[rfl,rfl],st',fun b hb=>(hf b hb).1]]
 done:=by
  intro X hP hw hK hc i pins s Y H E I hf st hg;subst hP hw hK;obtain⟨f0,f1,f2,f3,f4,f5⟩:=hf it (by simp)
  exact wpAny_pyNext_range_end (I.ok.hd.1 hc) st (by have:n<=i:=hg;lia) fun h' eb=>#[rfl,I.turned (t':=s.toks) (fun b o hb e=>eb b o hb e) f0 f1 f3 f4 f5]
 self:=fun _ _ _ _ _ st h=>wpAny_pyIter_rangeiter st h
end L2
namespace RS
open PySem PySem.Spec PyProof.Rows L2
def og(c:Int):∀ (n:Nat) (lo:Int) (i:Nat) (d:RL.D),(RL.bN c lo n)[i]?=some d->d=.int (lo+i*c)
 | 0,lo,i,d,h=>by simp[RL.bN]at h
 | n+1,lo,0,d,h=>by simp[RL.bN]at h;simp[h]
 | n+1,lo,i+1,d,h=>by
  rw[RL.bN,List.getElem?_cons_succ]at h;rw[og c n (lo+c) i d h];congr 1;rw[show((i+1:Nat):Int)=(i:Int)+1 by lia,Int.add_mul];lia
def ku(c:Int):∀ (n:Nat) (lo:Int),(RL.bN c lo n).length=n
 | 0,_=>rfl
 | n+1,lo=>by rw[RL.bN,List.length_cons,ku c n]
def uF{K:W.Frag}{H:Hp}{c lo:Int}:jw K (Its c lo n) (RL.bN c lo n) P H where
 go:=fun H' i k hi=>by rw[ku]at hi;exact hi
 stop:=fun H' k=>by rw[ku];exact QV _
 yld:=fun H' i d x H2 k e y=>by
  obtain⟨z,y⟩:=y;subst z;refine#[a6.refl _,fun _=>?_];rw[og c n lo i d e,y];exact aW
section rules
variable{st:Stmt}
end rules
abbrev pD(p:Addr)(a b c:Int):HO:=.ext fun h=>∃ t u v,IsRange h p a b c t u v
def sS(a b c:Int):0<=Builtin.Range.rangeSize a b c:=by
 unfold Builtin.Range.rangeSize;split
 ·split
  ·have:=Int.ediv_nonneg (a:=b-a-1) (b:=c) ⋯ ⋯;omega
  ·lia
 ·split
  ·by_cases h0:c=0
   ·subst h0;simp
   ·have:=Int.ediv_nonneg (a:=a-b-1) (b:=-c) ⋯ ⋯;omega
  ·lia
def AB(a b c:Int):Builtin.Range.rangeSize a b c<=(if a<b then b-a else a-b)+1:=by
 unfold Builtin.Range.rangeSize;split
 ·split
  ·have:=Int.ediv_le_self (a:=b-a-1) c ⋯;lia
  ·lia
 ·split
  ·have:=Int.ediv_le_self (a:=a-b-1) (-c) ⋯;split<;>omega
  ·split<;>lia
def kL(a b c:Int):(RL.aM c a b:Int)=Builtin.Range.rangeSize a b c:=Int.toNat_of_nonneg (sS a b c)
def l5(ha:-(2 ^ 60)<=a)(ha':a<2 ^ 60)(hb:-(2 ^ 60)<=b)(hb':b<2 ^ 60)(hc:-(2 ^ 60)<=c)(hc':c<2 ^ 60):Builtin.Range.small a b c=true:=by
 have h1:=sS a b c;have h2:=AB a b c;unfold Builtin.Range.small;simp only[Builtin.Range.rangeFitsLong,Bool.and_eq_true,Bool.or_eq_true,decide_eq_true_eq,beq_iff_eq];refine#[#[#[#[?_,?_],?_],?_],.inr ?_]
 ·lia
 ·lia
 ·lia
 ·split at h2<;>lia
 ·split<;>(rw[Bool.and_eq_true,decide_eq_true_eq,decide_eq_true_eq];lia)
section
variable{X:Cx}
abbrev tw(xs:List V)(a b c:Int):Prop:=(xs=[.int b]/\a=0/\c=1)\/(xs=[.int a,.int b]/\c=1)\/(xs=[.int a,.int b,.int c]/\c≠0/\c.natAbs<2 ^ 60)
def nq{pins:List (Addr × Obj)}{Y:L2.St}{H:Hp}{s:Shared}{a b c:Int}{t u v:Tok}{tk:Nat}(I:Inv X pins Y H s):Inv X pins Y (upd H s.heap.objs.size (pD s.heap.objs.size a b c)) { s with heap:=s.heap.push { cls:=.type "range",data:=.fields (List.toArray [.int a t,.int b u,.int c v]) },toks:=tk } :=
 I.laid (fun b u e=>QU _ e) (QV _) ⟨⟨t,u,v,IsRange.new _ a b c t u v⟩,⟨_,QX _ rfl⟩,fun h1 h2 ⟨t,u,v,e⟩ k=>#[t,u,v,k _ e]⟩
def kE:bC X (.type "range") (fun xs H Q=>∃ a b c,tw xs a b c/\∀ p,H p=none->Q (.ref p) (upd H p (pD p a b c))):=by
 intro pins s Y H xs us Q I r h;obtain⟨a,b,c,ha,q⟩:=h;have hf:H s.heap.objs.size=none:=I.hok.fresh (QV _)
 rcases ha with⟨rfl,rfl,rfl⟩ | ⟨rfl,rfl⟩ | ⟨rfl,hc,hc2⟩
 ·cases r with
  |cons r rr=>
   cases rr;obtain⟨t,rfl⟩:=r;exact call_range_1 ⟨.ref _,_,nq I,rfl,q _ hf⟩
 ·cases r with
  |cons r rr=>
   cases rr with
   |cons r2 rr=>
    cases rr;obtain⟨t,rfl⟩:=r;obtain⟨t2,rfl⟩:=r2;exact call_range_2 ⟨.ref _,_,nq I,rfl,q _ hf⟩
 ·cases r with
  |cons r rr=>
   cases rr with
   |cons r2 rr=>
    cases rr with
    |cons r3 rr=>
     cases rr;obtain⟨t,rfl⟩:=r;obtain⟨t2,rfl⟩:=r2;obtain⟨t3,rfl⟩:=r3;refine call_range_3 hc ⟨.ref _,_,nq I,rfl,q _ hf⟩ (.inl (PyProof.noPylong_of_log2 ?_));have:c.natAbs.log2<60:=(Nat.log2_lt ⋯).mpr hc2;lia
abbrev d9(a c:Int)(n:Nat):List V:=(List.range n).map fun(i:Nat)=>V.int (a+(i:Int)*c)
def DF{a c:Int}{n:Nat}{acc:Array Value}(hI:ItemsOf (fun i v=>∃ t,v=.int (a+i*c) t) acc n):Vals (d9 a c n) acc.toList:=by
 have len:(d9 a c (n)).length=acc.toList.length:=by
  simp only[d9,List.length_map,List.length_range,Array.length_toList,hI.1]
 have gen:∀ (xs:List V) (us:List Value),xs.length=us.length->(∀ (i:Nat) u,us[i]?=some u->∃ x,xs[i]?=some x/\RelV x u)->Vals xs us:=by
  intro xs
  induction xs with
  | nil=>intro us h _;cases us with
   | nil=>exact .nil
   | cons _ _=>cases h
  | cons x r ih=>intro us h g;cases us with
   | nil=>cases h
   |cons u us=>
    obtain⟨x',e1,e2⟩:=g 0 u rfl;cases e1
    exact .cons e2 (ih us (by simpa using h) fun i u hu=>by
     obtain⟨y,e3,e4⟩:=g (i+1) u (by simpa using hu)
     exact#[y,by simpa using e3,e4])
 refine gen _ _ len fun i u hu=>?_
 have hu':acc[i]?=some u:=by simpa using hu
 obtain⟨tk,rfl⟩:=hI.2 i u hu'
 have hi:i<n:=by
  have:=(Array.getElem?_eq_some_iff.mp hu').1;rw[hI.1]at this;exact this
 exact#[.int (a+(i:Int)*c),by simp[d9,hi],tk,rfl]
def gF(hc:X.calm=true):bC X (.type "list") (fun xs H Q=>∃ p a b c,xs=[.ref p]/\H p=some (pD p a b c)/\Builtin.Range.small a b c=true/\RL.aM c a b<=RL.most /\
  ∀ l,H l=none->Q (.ref l) (upd H l (.lst (d9 a c (RL.aM c a b))))):=by
 intro pins s Y H xs us Q I r h;obtain⟨p,a,b,c,rfl,hp,hs,hn,q⟩:=h
 cases r with
 |cons r rr=>
  cases rr;cases r;obtain⟨⟨t,u,v,hR⟩,_,_⟩:=I.hok p _ hp;refine call_list_range (I.ok.hd.1 hc) hR hs (kL a b c).symm (Za hn ∅) fun h' tk acc c' hk hS hI=>?_;have hf:H s.heap.objs.size=none:=I.hok.fresh (QV _);refine#[.ref s.heap.objs.size,upd H s.heap.objs.size (.lst (d9 a c (RL.aM c a b))),I.laid hk (QV _) (show _/\_ from#[?_,acc.toList,c',?_,?_]),rfl,q _ hf]
  ·simp only[d9,List.length_map,List.length_range];exact Za hn cA
  ·exact DF hI
  ·rw[Array.toArray_toList];exact hS
def qa{P:Addr->Prop}{K:W.Frag}:∀ (n:Nat) (a c:Int),ae P K H (RL.bN c a n) (d9 a c n)
 | 0,a,c=>ae.nil
 | n+1,a,c=>by
  have e:d9 a c (n+1)=V.int a::d9 (a+c) c n:=by
   simp only[d9,List.range_succ_eq_map,List.map_cons,List.map_map];congr 1
   ·simp
   ·apply List.map_congr_left;intro i _;show V.int (a+((i+1:Nat):Int)*c)=V.int (a+c+(i:Int)*c);congr 1;rw[show((i+1:Nat):Int)=(i:Int)+1 by lia,Int.add_mul];lia
  rw[RL.bN,e];exact ae.cons aW (qa n (a+c) c)
def mW:∀ (n:Nat) (a:Int),RL.cw a n=RL.bN 1 a n
 | 0,_=>rfl
 | n+1,a=>by rw[RL.cw,RL.bN,mW n]
def gU(a b:Int):RL.aM 1 a b=(b-a).toNat:=by
 have h:=kL a b 1;rw[rangeSize_one]at h;split at h<;>lia
def sF{Zy:RL.St}{Y:L2.St}{H H1:Hp}{e:RL.E}{Q:VK}{vs:List V}{a b c:Int}{ds:List RL.D}(hv:tw vs a b c)(hd:ds=RL.bN c a (RL.aM c a b))(hn:RL.aM c a b<=RL.most)(hs:Builtin.Range.small a b c=true)(sm:a6 H H1)
 (hav:∀ M,RL.avE M e=false)(k:∀ v H',Res X.K Zy Y H e (.lst ds) v H'->Q v H') :
  ∃ a b c,tw vs a b c/\∀ p,H1 p=none->(fun xs H Q=>∃ p a b c,xs=[V.ref p]/\H p=some (pD p a b c)/\Builtin.Range.small a b c=true/\RL.aM c a b<=RL.most/\∀ l,H l=none->Q (.ref l) (upd H l (.lst (d9 a c (RL.aM c a b))))) [.ref p] (upd H1 p (pD p a b c)) Q:=by
 refine#[a,b,c,hv,fun p hp=>#[p,a,b,c,rfl,bp,hs,hn,fun l hl=>k _ _ ?_]];subst hd;exact fh (sm.trans (a6.bP hp)) hl (qa _ _ _) hav
def CG(hc:X.calm=true)(hgl:Gl X "list")(hml:X.mg "list" = none)(hg:Gl X "range")(hm:X.mg "range" = none)(ha:SE X cl a a')(hn:noStar a=true){p2 pos2:Pos}:SE X cl (.Call (.Name "list" p2) [.Call (.Name "range" p) [a] [] pos] [] pos2) (.rng1 a'):=by
 refine PE.weak (cN (gF hc) hgl hml (by decide +kernel) (bH (cN kE hg hm boot_range (b0 (cl:=cl) ha cB hn) ∅ ∅ (a8 [] hn) rfl) d5 rfl) ∅ ∅ rfl rfl) fun Y H Q h=>?_;fin2;k_in;obtain⟨ds,e1,e2⟩:=map_some e;subst e2;obtain⟨i,j,e3,rfl,hb,hm2,rfl⟩:=nD e1;cases e3
 have hb2:-(2 ^ 60)<=j/\j<2 ^ 60:=by
  simp only[RL.bR]at e1;split at e1
  ·lia
  ·cases e1
 refine one rv ea fun v H1 s1 r1=>?_;exact sF (a:=0) (b:=j) (c:=1) (.inl #[by rw[ak r1],rfl,rfl]) (by rw[mW,gU]) (by rw[gU];exact hm2) (l5 ∅ ∅ hb2.1 hb2.2 ∅ ∅) s1 (fun _=>rfl) k
def DD(hc:X.calm=true)(hgl:Gl X "list")(hml:X.mg "list" = none)(hg:Gl X "range")(hm:X.mg "range" = none)(ha:SE X cl a a')(hb:SE X cl b b')(hn:noStar a=true)(hn2:noStar b=true){p2 pos2:Pos}:SE X cl (.Call (.Name "list" p2) [.Call (.Name "range" p) [a,b] [] pos] [] pos2) (.rng2 a' b'):=by
 refine PE.weak (cN (gF hc) hgl hml (by decide +kernel) (bH (cN kE hg hm boot_range (b0 (cl:=cl) ha (b0 hb cB hn2) hn) ∅ ∅ (a8 _ hn) (dZ (by simp[hn2]))) d5 rfl) ∅ ∅ rfl rfl) fun Y H Q h=>?_;fin2;k_in;obtain⟨y,eb,e⟩:=bind_some e;obtain⟨ds,e1,e2⟩:=map_some e;subst e2;obtain⟨i,j,rfl,rfl,hb,hm2,rfl⟩:=nD e1
 have hb2:(-(2 ^ 60)<=i/\i<2 ^ 60)/\-(2 ^ 60)<=j/\j<2 ^ 60:=by
  simp only[RL.bR]at e1;split at e1
  ·lia
  ·cases e1
 refine pair rv ea eb fun v u H1 s1 r1 r2=>?_;exact sF (a:=i) (b:=j) (c:=1) (.inr (.inl #[by rw[ak r1,ak r2],rfl])) (by rw[mW,gU]) (by rw[gU];exact hm2) (l5 hb2.1.1 hb2.1.2 hb2.2.1 hb2.2.2 ∅ ∅) s1 (fun _=>rfl) k
abbrev fG(c:Int):Expr->Bool
 | .Constant (.int i) _ _=>i == c
 | .UnaryOp .USub (.Constant (.int i) _ _) _=>-i == c
 | _=>false
def jO(h:fG c e=true):PE X e (tC (.int c))/\noStar e=true:=by
 unfold fG at h;split at h
 ·rw[beq_iff_eq]at h;subst h;exact#[r8,rfl]
 ·rw[beq_iff_eq]at h;subst h;exact#[PE.weak (BQ yo r8) fun Y H Q q=>#[_,rfl,q],rfl]
 ·cases h
def uO(h:RL.cV c x y=some ds):∃ i j:Int,x=.int i/\y=.int j/\c≠0/\c.natAbs<2 ^ 60/\Builtin.Range.small i j c=true/\RL.aM c i j<=RL.most/\ds=RL.bN c i (RL.aM c i j):=by
 unfold RL.cV at h;split at h
 ·rename_i i j;split at h
  ·rename_i hc;cases h;exact#[i,j,rfl,rfl,hc.1,by omega,l5 hc.2.2.2.2.1 hc.2.2.2.2.2.1 hc.2.2.2.2.2.2.1 hc.2.2.2.2.2.2.2 (by omega) hc.2.2.1,hc.2.2.2.1,rfl]
  ·cases h
 ·cases h
def vG(ha:SE X cl a a')(hb:SE X cl b b')(hn:noStar a=true)(hn2:noStar b=true)(h3:fG c e3=true):PA X [a,b,e3] (fun Y H R=>tE X.K cl a' Y H fun v H1=>tE X.K cl b' Y H1 fun u H2=>R [v,u,.int c] H2) :=
 bH ha (bH hb (bH (jO h3).1 d5 (a8 [] (jO (X:=X) h3).2)) (a8 _ hn2)) (a8 _ hn)
def DB{c:Int}{e3:Expr}(hc:X.calm=true)(hgl:Gl X "list")(hml:X.mg "list" = none)(hg:Gl X "range")(hm:X.mg "range" = none)(ha:SE X cl a a')(hb:SE X cl b b')(hn:noStar a=true)(hn2:noStar b=true)(h3:fG c e3=true){p2 pos2:Pos} :
  SE X cl (.Call (.Name "list" p2) [.Call (.Name "range" p) [a,b,e3] [] pos] [] pos2) (.rng3 c a' b'):=by
 refine PE.weak (cN (gF hc) hgl hml (by decide +kernel) (bH (cN kE hg hm boot_range (vG (cl:=cl) ha hb hn hn2 h3) ∅ ∅ (a8 _ hn) (dZ (by simp[hn2,(jO (X:=X) h3).2]))) d5 rfl) ∅ ∅ rfl rfl) fun Y H Q h=>?_;fin2;k_in;obtain⟨y,eb,e⟩:=bind_some e;obtain⟨ds,e1,e2⟩:=map_some e;subst e2;obtain⟨i,j,rfl,rfl,h0,h1,h2,h3,rfl⟩:=uO e1;refine two rv ea eb fun v u H1 H2 s1 s2 rx ry _ _=>?_;exact sF (a:=i) (b:=j) (c:=c) (.inr (.inr #[by rw[ak rx,ak ry],h0,h1])) rfl h3 h2 (s1.trans s2) (fun _=>rfl) k
def C2(hg:Gl X "range")(hm:X.mg "range" = none)(ha:SE X cl a a')(hb:SE X cl b b')(hn:noStar a=true)(hn2:noStar b=true)(h3:fG c e3=true) :
  SI X cl tg (.Call (.Name "range" p) [a,b,e3] [] pos) (.rng3 c a' b'):=by
 intro pins s Y H R I h;obtain⟨Zy,ds,rv,e,k⟩:=h;k_in;obtain⟨y,eb,e⟩:=bind_some e;obtain⟨i,j,rfl,rfl,h0,h1,hs,hl,rfl⟩:=uO e;refine thn (cN kE hg hm boot_range (vG (cl:=cl) ha hb hn hn2 h3) ∅ ∅ (a8 _ hn) (dZ (by simp[hn2,(jO (X:=X) h3).2])) pins s Y H (fun x H2=>∃ p,x=.ref p/\H2 p=some (pD p i j c)/\a6 H H2) I ?_) ?_
 ·exact two rv ea eb fun v u H1 H2 s1 s2 rx ry _ _=>#[i,j,c,.inr (.inr #[by rw[ak rx,ak ry],h0,h1]),fun p hp=>#[p,rfl,bp,(s1.trans s2).trans (a6.bP hp)]]
 ·rintro v s1 ⟨x,H1,I1,r1,q,rfl,hq,sm⟩;cases r1;obtain⟨⟨t,u,v,hR⟩,_,_⟩:=I1.hok q _ hq;refine wpAny_pyIter_range hR hs ⟨s1.heap.objs.size,[s1.heap.objs.size],_,Its c i (RL.aM c i j),H1,rfl,I1.kept (t':=s1.toks) fun b o e=>QU _ e,yI _ c i _,?_,fun b hb=>?_,k _ _ sm ⟨uF,fun _ _ _ _ _=>uF⟩⟩
  ·have e1:i+((0:Nat):Int)*c=i:=by simp
   have e2:((RL.aM c i j:Nat):Int)-((0:Nat):Int)=Builtin.Range.rangeSize i j c:=by rw[kL];simp
   show IsRangeIter _ _ (i+((0:Nat):Int)*c) (((RL.aM c i j:Nat):Int)-((0:Nat):Int)) c;rw[e1,e2];exact QX _ rfl
  ·rw[show b=s1.heap.objs.size by simpa using hb];exact I1.pG (QV _) (I1.hok.fresh (QV _))
def Cv(hl:SE X cl l e'):SI X cl tg l (.seq e'):=by
 refine PI.weak (Gw (cl:=cl) hl trivial) fun Y H R h=>?_;obtain⟨Zy,ds,rv,e,k⟩:=h;obtain⟨d,e1,e2⟩:=bind_some e;exact#[Zy,d,ds,rv,e1,e2,k]
def Fu(ha:SE X cl a a'):SE X cl (.UnaryOp .USub a pos) (.neg a'):=by
 refine PE.weak (BQ yo ha) fun Y H Q h=>?_;fin2;k_in
 cases x with
 | int i=>cases e;exact#[Zy,_,rv,ea,fun v H1 r1=>#[i,ak r1.rep,k _ _ (bZ r1.same aW rfl)]]
 | _=>cases e
def ER(hg:Gl X "abs")(hm:X.mg "abs" = none)(ha:SE X cl a a')(hn:noStar a=true):SE X cl (.Call (.Name "abs" p) [a] [] pos) (.bi .abs a'):=by
 refine lg Bq hg hm (by decide +kernel) ha hn ∅ ∅ fun Zy Y H H1 y d v Q e s1 r1 k=>?_
 cases y<;>first | (cases e;done) | skip
 case int i=>cases e;exact#[i,by rw[ak r1],k _ _ (bZ s1 aW rfl)]
def HS(hc:X.calm=true)(hg:Gl X "min")(hm:X.mg "min" = none)(ha:SE X cl a a')(hb:SE X cl b b')(hn:noStar a=true)(hn2:noStar b=true):SE X cl (.Call (.Name "min" p) [a,b] [] pos) (.min a' b'):=by
 refine PE.weak (iJ (yu hc) hg hm (by decide +kernel) (b0 (cl:=cl) ha (b0 hb cB hn2) hn) ∅ ∅ (a8 _ hn) (dZ (by simp[hn2]))) fun Y H Q h=>?_;fin2;obtain⟨u,ea,e⟩:=bind_some e;obtain⟨v,eb,e⟩:=bind_some e
 cases u with
 |int i=>
  cases v with
  |int j=>
   cases e
   exact pair rv ea eb fun v u H1 s1 r1 r2=>#[i,j,by rw[ak r1,ak r2],k _ _ (bZ s1 aW rfl)]
  | _=>cases e
 | _=>cases e
end
abbrev mAt(mp:List Nat)(vs:List V):Addr->Prop:=fun a=>∃ p,p∈mp/\vs[p]?=some (.ref a)
structure Ia(K:W.Frag)(mp:List Nat)(ds:List RL.D)(vs:List V)(H:Hp):Prop where
 kR:ae nP K H ds vs
 own:∀ p∈mp,∃ d a,ds[p]?=some d/\vs[p]?=some (.ref a)/\Own K H d (.ref a)
 sep:∀ p∈mp,∀ q∈mp,∀ a,vs[p]?=some (.ref a)->vs[q]?=some (.ref a)->p=q
 oth:∀ (q:Nat) d v,q∉mp->ds[q]?=some d->vs[q]?=some v->Rep (mAt mp vs) K H d v
structure Jy(K:W.Frag)(mp:List Nat)(outs:List RL.D)(vs:List V)(H:Hp):Prop where
 len:outs.length=mp.length
 own:∀ (k p:Nat) o,mp[k]?=some p->outs[k]?=some o->∃ a,vs[p]?=some (.ref a)/\Own K H o (.ref a)
abbrev spM(K:W.Frag)(cl:RL.Cl)(mp:List Nat)(f:Nat):Sp:=fun vs H Q _=>∃ ds d outs,cl f ds=some (.tup (d::outs))/\Ia K mp ds vs H/\∀ v H',Off (mAt mp vs) H H'->Rep nP K H' d v->d.imm=true->Jy K mp outs vs H'->Q v H'
abbrev wW(K:W.Frag)(cl:RL.Cl):RL.E->TE
 | .var j=>gK j
 | e=>tE K cl e
abbrev iX(K:W.Frag)(cl:RL.Cl):RL.Es->TA
 | .nil=>pz
 | .cons e es=>gQ (wW K cl e) (iX K cl es)
abbrev cT(K:W.Frag)(M:List Nat)(Y:L2.St)(ps:List Nat)(H:Hp):Nat->RL.Es->List RL.D->List V->Prop
 | _,.nil,[],[]=>True
 | q,.cons e es,d::ds,v::vs=>Rep nP K H d v/\(if ps.contains q=true then ∃ j,e=.var j/\Y[j]?=some (some v)else Rep (bG M Y) K H d v)/\cT K M Y ps H (q+1) es ds vs
 | _,_,_,_=>False
section
variable{K:W.Frag}
def xw(e:RL.ev cl Zy (.var j)=some d):Zy[j]?=some (some d):=by
 exact slot_get e
def FX(rv:RVm K M Zy Y H)(r1:Res K Zy Y H e' d v H1)(ok:RL.aK M e' d=true):Rep (bG M Y) K H1 d v:=by
 unfold RL.aK at ok;rw[Bool.or_eq_true,Bool.or_eq_true,Bool.and_eq_true]at ok;rcases ok with(q | ⟨q1,q2⟩) | q
 ·exact r1.rep.imm q
 ·have rp:=r1.rep;have fr:l0 d=true->∀ a,v=.ref a->¬ bG M Y a:=fun m a z p=>rv.oZ a p (r1.fresh q2 m a z)
  cases d with
  | lst ds=>obtain⟨a,xs,e1,e0,e2,e3⟩:=aE rp;rw[Rep];exact#[a,xs,e1,fr rfl a e1,e2,e3.imm q1]
  | dK ks ds=>rw[Rep]at rp ⊢;obtain⟨a,xs,e1,e0,e2,el,e3⟩:=rp;exact#[a,xs,e1,fr rfl a e1,e2,el,e3.imm q1]
  | dT ks ds=>rw[Rep]at rp ⊢;obtain⟨a,xs,e1,e0,e2,el,e3⟩:=rp;exact#[a,xs,e1,fr rfl a e1,e2,el,e3.imm q1]
  | _=>cases q1
 ·refine r1.av M q _ rv.oZ fun j dj vj hj h1 h2=>?_;obtain⟨v',h3,h4⟩:=rv.val j dj h1;rw[h2]at h3;cases h3;rw[if_neg (by rw[hj];decide)]at h4;exact h4
def Cp{e:RL.E}{d:RL.D}{ps:List Nat}(rv:RVm K M Zy Y H)(he:RL.ev cl Zy e=some d)(ok:(if ps.contains q=true then RL.isVar e else RL.aK M e d)=true)
 (k:∀ v H1,a6 H H1->Rep nP K H1 d v->(if ps.contains q=true then ∃ j,e=.var j/\Y[j]?=some (some v)else Rep (bG M Y) K H1 d v)->R v H1):wW K cl e Y H R:=by
 unfold wW;split
 ·rename_i j;have hj:=xw he;obtain⟨v,h1,h2⟩:=rv.val j d hj;refine#[v,h1,k v H (a6.refl H) ?_ ?_]
  ·obtain⟨v',h3,h4⟩:=rv.rv0.2 j d hj;rw[h1]at h3;cases h3;exact h4
  ·by_cases hq:ps.contains q=true
   ·rw[if_pos hq];exact#[j,rfl,h1]
   ·rw[if_neg hq]at ok ⊢;by_cases hm:M.contains j=true
    ·rw[if_pos hm]at h2
     have im:d.imm=true:=by
      unfold RL.aK at ok;rw[Bool.or_eq_true,Bool.or_eq_true,Bool.and_eq_true]at ok;rcases ok with(z | ⟨_,z⟩) | z
      ·exact z
      ·cases z
      ·rw[RL.EX,hm]at z;cases z
     exact h2.2.2.imm im
    ·rw[if_neg hm]at h2;exact h2
 ·rename_i ne
  have hq:¬ ps.contains q=true:=fun hq=>by
   rw[if_pos hq]at ok;unfold RL.isVar at ok;split at ok
   ·exact ne _ rfl
   ·cases ok
  rw[if_neg hq]at ok;refine#[Zy,d,rv.rv0,he,fun v H1 r1=>k v H1 r1.same r1.rep ?_];rw[if_neg hq];exact FX rv r1 ok
def uf:∀ {es:RL.Es} {q:Nat} {ds:List RL.D} {H:Hp} {R:List V->Hp->Prop},RVm K M Zy Y H->RL.evs cl Zy es=some ds->RL.dX M ps q es ds=true ->
  (∀ vs H1,a6 H H1->cT K M Y ps H1 q es ds vs->R vs H1)->iX K cl es Y H R
 | .nil,q,ds,H,R,rv,he,ok,k=>by
  cases he;exact k [] H (a6.refl H) (by rw[cT];trivial)
 | .cons e es,q,ds,H,R,rv,he,ok,k=>by
  obtain⟨d,e1,he⟩:=bind_some he;obtain⟨ds',e2,e3⟩:=map_some he;subst e3;rw[RL.dX,Bool.and_eq_true]at ok;refine Cp rv e1 ok.1 fun v H1 s1 r1 x1=>?_;refine uf (rv.same s1) e2 ok.2 fun vs H2 s2 r2=>k (v::vs) H2 (s1.trans s2) ?_;rw[cT];refine#[r1.same s2,?_,r2];by_cases hq:ps.contains q=true
  ·rw[if_pos hq]at x1 ⊢;exact x1
  ·rw[if_neg hq]at x1 ⊢;exact x1.same s2
abbrev mh:RL.Es->Nat->Option RL.E
 | .nil,_=>none
 | .cons e _,0=>some e
 | .cons _ es,n+1=>mh es n
def cT.kR:∀ {q:Nat} {es:RL.Es} {ds:List RL.D} {vs:List V},cT K M Y ps H q es ds vs->ae nP K H ds vs
 | _,.nil,[],[],h=>ae.nil
 | q,.cons e es,d::ds,v::vs,h=>by
  rw[cT]at h;exact ae.cons h.1 (cT.kR h.2.2)
 | _,.nil,_::_,_,h=>by simp[cT]at h
 | _,.nil,[],_::_,h=>by simp[cT]at h
 | _,.cons _ _,[],_,h=>by simp[cT]at h
 | _,.cons _ _,_::_,[],h=>by simp[cT]at h
def cT.get:∀ {q:Nat} {es:RL.Es} {ds:List RL.D} {vs:List V} (n:Nat) {d:RL.D} {v:V},cT K M Y ps H q es ds vs->ds[n]?=some d->vs[n]?=some v ->
  Rep nP K H d v/\(if ps.contains (q+n)=true then ∃ j,mh es n=some (.var j)/\Y[j]?=some (some v)else Rep (bG M Y) K H d v)
 | _,.nil,[],[],n,_,_,h,e,_=>by simp at e
 | q,.cons e es,d::ds,v::vs,0,_,_,h,e1,e2=>by
  simp at e1 e2;subst e1 e2;rw[cT]at h;refine#[h.1,?_];have h2:=h.2.1;rw[Nat.add_zero];by_cases hq:ps.contains q=true
  ·rw[if_pos hq]at h2 ⊢;obtain⟨j,z,y⟩:=h2;subst z;exact#[j,rfl,y]
  ·rw[if_neg hq]at h2 ⊢;exact h2
 | q,.cons e es,d::ds,v::vs,n+1,_,_,h,e1,e2=>by
  rw[cT]at h;have:=cT.get n h.2.2 (by simpa using e1) (by simpa using e2);rw[show q+1+n=q+(n+1) by lia]at this;exact this
 | _,.nil,_::_,_,_,_,_,h,_,_=>by simp[cT]at h
 | _,.nil,[],_::_,_,_,_,h,_,_=>by simp[cT]at h
 | _,.cons _ _,[],_,_,_,_,h,_,_=>by simp[cT]at h
 | _,.cons _ _,_::_,[],_,_,_,h,_,_=>by simp[cT]at h
def Own.off(h:Own K H d (.ref a))(hm:∀ b o,P b->H b=some o->cS o)(k:Off P H H1)(n:¬ P a):Own K H1 d (.ref a):=by
 obtain⟨q1,q2,q3⟩:=h;refine#[q1,q2,?_];have im:∀ {ds:List RL.D} {xs:List V},RL.aw ds=true->ae nP K H ds xs->ae nP K H1 ds xs:=fun hi r=>((r.imm hi).off hm k).imm hi
 cases d with
 | lst ds=>obtain⟨b',xs,e1,e0,e2,e3⟩:=aE q3;cases e1;rw[Rep];exact#[a,xs,rfl,fun z=>z,k _ _ n e2,im q2 e3]
 | dK ks ds=>rw[Rep]at q3 ⊢;obtain⟨b',xs,e1,e0,e2,el,e3⟩:=q3;cases e1;exact#[a,xs,rfl,fun z=>z,k _ _ n e2,el,im q2 e3]
 | dT ks ds=>rw[Rep]at q3 ⊢;obtain⟨b',xs,e1,e0,e2,el,e3⟩:=q3;cases e1;exact#[a,xs,rfl,fun z=>z,k _ _ n e2,el,im q2 e3]
 | _=>cases q1
def pb:∀ {ms:List Nat} {outs:List RL.D} {Zy:RL.St} {k i:Nat} {o:RL.D},ms.Nodup->ms[k]?=some i->outs[k]?=some o->i<Zy.length->(eY ms outs Zy)[i]?=some (some o)
 | [],_,_,_,_,_,_,e,_,_=>by simp at e
 | m::ms,[],_,_,_,_,_,_,e,_=>by simp at e
 | m::ms,d::ds,Zy,0,i,o,nd,e1,e2,hl=>by
  simp at e1 e2;subst e1 e2;rw[eY,lK _ _ _ _ (by simpa using(List.nodup_cons.mp nd).1),Q2 hl]
 | m::ms,d::ds,Zy,k+1,i,o,nd,e1,e2,hl=>by
  rw[eY];exact pb (List.nodup_cons.mp nd).2 (by simpa using e1) (by simpa using e2) (by simpa using hl)
def RVm.changed(h:RVm K M Zy Y H)(hms:∀ i∈ms,M.contains i=true)(nd:ms.Nodup)(len:ms.length=outs.length)(k:Off (fun a=>∃ i∈ms,Y[i]?=some (some (.ref a))) H H1)
 (ow:∀ (k i:Nat) o,ms[k]?=some i->outs[k]?=some o->∃ a,Y[i]?=some (some (.ref a))/\Own K H1 o (.ref a)):RVm K M (eY ms outs Zy) Y H1/\Fr' M Y H Y H1:=by
 have sub:∀ a,(∃ i∈ms,Y[i]?=some (some (.ref a)))->bG M Y a:=fun a ⟨i,hi,e⟩=>#[i,hms i hi,e]
 have offA:Off (bG M Y) H H1:=fun b o n e=>k b o (fun z=>n (sub b z)) e
 have hmA:∀ b o,bG M Y b->H b=some o->cS o:=fun b o p e=>by
  obtain⟨o',e',m⟩:=h.Ar b p;rw[e]at e';cases e';exact m
 have at_:∀ i,i∈ms->∃ (kk:Nat) (o:RL.D),ms[kk]?=some i/\outs[kk]?=some o:=fun i hi=>by
  obtain⟨kk,hk,e⟩:=List.getElem_of_mem hi;exact#[kk,outs[kk]'⋯,by simp[hk,e],by simp]
 refine#[#[by rw[nv];exact h.len,fun i d e=>?_,fun i v e=>?_,h.sep],#[fun b o e n=>#[offA b o n e,n],fun _ _=>rfl]]
 ·by_cases hi:i∈ms
  ·obtain⟨kk,o,e1,e2⟩:=at_ i hi
   have hl:i<Zy.length:=by
    have:=(List.getElem?_eq_some_iff.mp e).1;rw[nv]at this;exact this
   rw[pb nd e1 e2 hl]at e;cases e;obtain⟨a,q1,q2⟩:=ow kk i _ e1 e2;exact#[.ref a,q1,by rw[if_pos (hms i hi)];exact q2]
  ·rw[lK _ _ _ _ (by simpa using hi)]at e;obtain⟨v,h1,h2⟩:=h.val i d e;refine#[v,h1,?_];by_cases hm:M.contains i=true
   ·rw[if_pos hm]at h2 ⊢;obtain⟨a,o,rfl,_,_⟩:=h2.ref;refine h2.off (fun b o p e=>hmA b o (sub b p) e) k fun⟨j,hj,ej⟩=>?_;exact hi (h.sep i j a hm (hms j hj) h1 ej▸hj)
   ·rw[if_neg hm]at h2 ⊢;exact h2.off hmA offA
 ·obtain⟨d,hd⟩:=h.non i v e;by_cases hi:i∈ms
  ·obtain⟨kk,o,e1,e2⟩:=at_ i hi;exact#[o,pb nd e1 e2 (List.getElem?_eq_some_iff.mp hd).1]
  ·exact#[d,by rw[lK _ _ _ _ (by simpa using hi)];exact hd]
end
section rules
variable{X:Cx}{st:Stmt}
abbrev cj(es:RL.Es):List Nat->List Nat->Bool
 | [],[]=>true
 | p::ps,m::ms=>(match mh es p with | some (.var j)=>j == m | _=>false)&&cj es ps ms
 | _,_=>false
def m5:∀ {ps ms:List Nat} {k p:Nat},cj es ps ms=true->ps[k]?=some p->∃ m,ms[k]?=some m/\mh es p=some (.var m)
 | [],_,_,_,_,e=>by simp at e
 | _::_,[],_,_,h,_=>by simp[cj]at h
 | p::ps,m::ms,0,q,h,e=>by
  rw[cj,Bool.and_eq_true]at h;simp at e;subst e;have h1:=h.1;split at h1
  ·rename_i j hj;rw[beq_iff_eq]at h1;subst h1;exact#[j,rfl,hj]
  ·cases h1
 | p::ps,m::ms,k+1,q,h,e=>by
  rw[cj,Bool.and_eq_true]at h;obtain⟨m',h1,h2⟩:=m5 (k:=k) h.2 (by simpa using e);exact#[m',by simpa using h1,h2]
def jq:∀ {ps ms:List Nat},cj es ps ms=true->ps.length=ms.length
 | [],[],_=>rfl
 | [],_::_,h=>by simp[cj]at h
 | _::_,[],h=>by simp[cj]at h
 | p::ps,m::ms,h=>by
  rw[cj,Bool.and_eq_true]at h;rw[List.length_cons,List.length_cons,jq h.2]
def rP(rv:RVm X.K M Zy Y H)(he:RL.evs cl Zy es=some ds)(ok:RL.dX M ps 0 es ds=true)(hc:cl f ds=some (.tup (d::outs)))
 (hs:cj es ps ms=true)(hms:∀ i∈ms,M.contains i=true)(nd:ms.Nodup)(ndp:ps.Nodup)(hset:RL.bA ms outs Zy=some ZA)
 (k:∀ v H',Rep nP X.K H' d v->d.imm=true->RVm X.K M ZA Y H'->Fr' M Y H Y H'->Q v H'):oj (spM X.K cl ps f) [] E0 (iX X.K cl es) Y H Q:=by
 refine uf rv he ok fun vs H1 s1 ar=>?_;show spM X.K cl ps f (vs++[]) H1 Q E0;rw[Ze];have rv1:=rv.same s1;have rps:=ar.kR;obtain⟨hlen,ZR⟩:=gw hset;subst ZR
 have adr:∀ (k p:Nat),ps[k]?=some p->∃ m a d',ms[k]?=some m/\Y[m]?=some (some (.ref a))/\vs[p]?=some (.ref a)/\ds[p]?=some d'/\Own X.K H1 d' (.ref a)/\mh es p=some (.var m):=by
  intro k p hk;obtain⟨m,h1,h2⟩:=m5 hs hk
  have evg:∀ (es:RL.Es) (ds:List RL.D) (n:Nat) (e:RL.E),RL.evs cl Zy es=some ds->mh es n=some e->∃ d',ds[n]?=some d'/\RL.ev cl Zy e=some d':=by
   intro es
   induction es using RL.Es.rec (motive_1:=fun _=>True) (motive_3:=fun _=>True)with
   | nil=>intro ds n e _ z;cases z
   |cons e0 es0 _ ih=>
    intro ds n e h z;obtain⟨d0,y1,h⟩:=bind_some h;obtain⟨ds0,y2,y3⟩:=map_some h;subst y3
    cases n with
    | zero=>cases z;exact#[d0,rfl,y1]
    | succ n=>exact ih ds0 n e y2 z
   | _=>trivial
  obtain⟨d',g1,g2⟩:=evg es ds p _ he h2;obtain⟨v,g3,g4⟩:=rps.get g1
  have hpc:ps.contains (0+p)=true:=by
   rw[Nat.zero_add];simpa using Zb hk
  have g5:=(ar.get p g1 g3).2;rw[if_pos hpc]at g5;obtain⟨j,z1,z2⟩:=g5;rw[h2]at z1;cases z1;have hm:M.contains m=true:=hms m (Zb h1);obtain⟨v',z3,z4⟩:=rv1.val m d' (xw g2);rw[z2]at z3;cases z3;rw[if_pos hm]at z4;obtain⟨a,o,rfl,_,_⟩:=z4.ref;exact#[m,a,d',h1,z2,g3,g1,z4,h2]
 have adr':∀ a,mAt ps vs a->∃ i∈ms,Y[i]?=some (some (.ref a)):=fun a ⟨p,hp,e⟩=>by
  obtain⟨k,hk,z⟩:=List.getElem_of_mem hp;obtain⟨m,a',d',h1,h2,h3,_⟩:=adr k p (by simp[hk,z]);rw[e]at h3;cases h3;exact#[m,Zb h1,h2]
 refine#[ds,d,outs,hc,#[rps,fun p hp=>?_,fun p hp q hq a e1 e2=>?_,fun q dq v hq e1 e2=>?_],fun v H' off rp im mo=>?_]
 ·obtain⟨k,hk,z⟩:=List.getElem_of_mem hp;obtain⟨m,a',d',h1,h2,h3,h4,h5,_⟩:=adr k p (by simp[hk,z]);exact#[d',a',h4,h3,h5]
 ·obtain⟨k,hk,z⟩:=List.getElem_of_mem hp;obtain⟨l,hl,y⟩:=List.getElem_of_mem hq
  have gk:ps[k]?=some p:=by simp[hk,z]
  have gl:ps[l]?=some q:=by simp[hl,y]
  obtain⟨m,a1,d1,h1,h2,h3,_⟩:=adr k p gk;obtain⟨m',a2,d2,h1',h2',h3',_⟩:=adr l q gl;rw[e1]at h3;cases h3;rw[e2]at h3';cases h3';have hmm:=rv1.sep m m' a (hms m (Zb h1)) (hms m' (Zb h1')) h2 h2';subst hmm;have hkl:k=l:=(List.getElem?_inj (by rw[<-jq hs];exact hk) nd).mp (by rw[h1,h1']);subst hkl;rw[gk]at gl;exact Option.some.inj gl
 ·have hpc:ps.contains (0+q)=false:=by
   rw[Nat.zero_add];simpa using hq
  have g5:=(ar.get q e1 e2).2;rw[if_neg (by rw[hpc];decide)]at g5
  exact g5.weak fun a ha=>by
   obtain⟨i,hi,e⟩:=adr' a ha;exact#[i,hms i hi,e]
 ·obtain⟨g1,g2⟩:=rv1.changed (outs:=outs) (H1:=H') hms nd hlen (fun b o n e=>off b o (fun z=>n (adr' b z)) e) fun k i o hk ho=>by
   have hkl:k<ps.length:=by
    rw[jq hs];exact(List.getElem?_eq_some_iff.mp hk).1
   obtain⟨m,a1,d1,h1,h2,h3,_⟩:=adr k ps[k] (by simp[hkl]);rw[hk]at h1;cases h1;obtain⟨a,q1,q2⟩:=mo.own k ps[k] o (by simp[hkl]) ho;rw[q1]at h3;cases h3;exact#[_,h2,q2]
  exact k v H' rp im g1 ((Fr'.same s1).trans g2)
def Ce(h:PS X st (qQ (oj (spM X.K cl ps f) [] E0 (iX X.K cl es))))(hs:cj es ps ms=true)(hms:∀ i∈ms,M.contains i=true)(nd:ms.Nodup)(ndp:ps.Nodup):SS X cl M st (.mexc f es ps ms):=by
 refine PS.weak h fun D Y H h=>?_;k_all;obtain⟨ds,e1,e⟩:=bind_some e;split at e
 ·rename_i ok;obtain⟨r,e2,e⟩:=bind_some e;split at e
  ·rename_i d outs;obtain⟨ZA,e3,e4⟩:=map_some e;cases e4;exact rP rv e1 ok e2 hs hms nd ndp e3 fun v H' _ _ rv' fr'=>k _ _ rv' fr'
  ·cases e
 ·cases e
def Cr(h:PS X st (Fj i (oj (spM X.K cl ps f) [] E0 (iX X.K cl es)) (ipI fun a b=>a+b)))(hi:M.contains i=false)(hs:cj es ps ms=true)(hms:∀ i∈ms,M.contains i=true)(nd:ms.Nodup)(ndp:ps.Nodup):SS X cl M st (.maug i f es ps ms):=by
 refine PS.weak h fun D Y H h=>?_;k_all;obtain⟨x,e0,e⟩:=bind_some e;obtain⟨ds,e1,e⟩:=bind_some e;split at e
 ·rename_i ok;obtain⟨r,e2,e⟩:=bind_some e;split at e
  ·rename_i y outs
   cases x with
   |int a=>
     cases y with
     |int b=>
    obtain⟨ZA,e3,e4⟩:=map_some e;cases e4;obtain⟨v,h1,h2⟩:=rv.val i _ (slot_get e0);rw[if_neg (by rw[hi];decide)]at h2;refine#[v,h1,rP rv e1 ok e2 hs hms nd ndp e3 fun u H' rp _ rv' fr'=>#[a,b,ak h2,ak rp,?_]]
    exact k _ _ (rv'.bind hi aW) (fr'.trans (Fr'.bind hi (a6.refl _)))
     | _=>cases e
   | _=>cases e
  ·cases e
 ·cases e
end rules
end RS
namespace L2
open PySem PySem.Spec PyProof.Rows
abbrev l3(A:Around)(h:Heap):Prop:=A.handled=none\/∃ x o vs,A.handled=some (.ref x)/\h.get? x=some o/\o.data=.fields vs/\vs[2]?=some .none
def l3.keeps(x:l3 A h)(k:∀ b o vs,h.get? b=some o->o.data=.fields vs->A.handled=some (.ref b)->h'.get? b=some o):l3 A h':=by
 rcases x with z | ⟨y,o,vs,h1,h2,h3,h4⟩
 ·exact .inl z
 ·exact .inr #[y,o,vs,h1,k _ _ _ h2 h3 h1,h3,h4]
section
def qB:entryFor table "proto.unchain" = some Builtin.«proto.unchain»:=entryFor_of_tree (by kernel_rfl)
def Aq(hd:l3 A s.heap)(he:s.heap.get? e=some oe)(hf:oe.data=.fields vs)(hz:2<vs.size)(ne:A.handled≠some (.ref e))
 (k:∀ h',Heap.SameBut e s.heap h'->(∃ o,h'.get? e=some o/\o.cls=oe.cls)->E (.ref e) { s with heap:=h' }):wpAny (model prog w) A (raiseNew (.ref e):Sem α) Q E s:=by
 unfold raiseNew;refine QT (wpAny_handled ?_)
 rcases hd with z | ⟨x,o,ws,h1,h2,h3,h4⟩
 ·rw[z];exact QT (QW (wpAny_throw (k s.heap (.refl ..) ⟨oe,he,rfl⟩)))
 ·rw[h1]
  have nx:(Value.ref x != Value.ref e)=true:=by
   rw[bne_iff_ne];intro q;exact ne (by rw[h1,q])
  dsimp only;rw[if_pos nx];refine QT (wpAny_holding (wpAny_runValue (codeAny_builtin qB ?_)));unfold Builtin.«proto.unchain»;refine QT (wpAny_field h2 h3 h4 ?_);rw[if_pos ∅];refine QT (QW (QW ?_));show wpAny _ _ _ _ _ _;refine QT ?_;show wpAny _ _ (setField (.ref e) 2 (.ref x)) _ _ _;refine wpAny_setField he hf hz (wpAny_throw (k _ (.update ..) ⟨_,Zj _ he (Obj.isFreed_of_fields (Obj.data_mapFields hf _)),Obj.cls_mapFields ..⟩))
def vM(hd:l3 A s.heap)(k:∀ h' e,(∀ b o,s.heap.get? b=some o->h'.get? b=some o)->(∃ o,h'.get? e=some o/\o.cls=.type "StopIteration")->E (.ref e) { s with heap:=h' }) :
  wpAny (model prog w) A (newExc (.type "StopIteration") []) (fun e s'=>wpAny (model prog w) A (raiseNew e:Sem α) Q E s') E s:=by
 simp only[newExc,newTuple];apply QT;refine wpAny_newObj_type ?_ (by size_fits);apply QT (m:=firstArgMember _ _);refine wpAny_of_eq (a:=Value.none) (by first | rfl | (simp only[firstArgMember];rfl)) ?_;refine wpAny_newObj_type ?_ (by size_fits);have hs:∀ b o,s.heap.get? b=some o->b≠(s.heap.push { cls:=.type "tuple",data:=.seq ([]:List Value).toArray }).objs.size:=fun b o e=>Q5 (by rw[Zk];exact Nat.lt_succ_of_lt (QY e));refine Aq (hd.keeps fun b o vs e _ _=>QU _ (QU _ e)) (QX _ rfl) rfl (Q0 (by decide:2<6) (by simp)) (fun q=>?_) fun h' sb ho=>k h' _ (fun b o e=>(sb.2 b (hs b o e)).trans (QU _ (QU _ e))) ho
 rcases hd with z | ⟨x,o,ws,h1,h2,_,_⟩
 ·rw[z]at q;cases q
 ·rw[h1]at q;cases q;exact hs _ _ h2 rfl
def qw{it l:Addr}{i:Nat}(hd:l3 A s.heap)(ni:A.handled≠some (.ref it))(ho:s.heap.get? it=some o)(hdt:o.data=.fields (List.toArray [.ref l,.int i 0]))(hol:s.heap.get? l=some ol)(hdl:ol.data=.seq its nl)(hx:its[i]?=none)
 (k:∀ h' e,Heap.ExtBut it s.heap h'->(∃ o,h'.get? e=some o/\o.cls=.type "StopIteration")->E (.ref e) { s with heap:=h' }):wpAny (model prog w) A (Builtin.«list_iterator.__next__» ⟨[.ref it],[]⟩) Q E s:=by
 have n0:¬ ((Value.ref l == Value.none)=true):=Q3;refine show wpAny _ _ (field (.ref it) 0 >>= _) _ _ s from QT (wpAny_field ho hdt (x:=.ref l) rfl ?_);refine show wpAny _ _ (if(Value.ref l == Value.none)=true then _ else _) _ _ s from ?_;rw[if_neg n0];refine show wpAny _ _ (field (.ref it) 1 >>= _) _ _ s from QT (wpAny_field ho hdt (x:=.int i 0) rfl ?_);refine show wpAny _ _ (seqItems? (.ref l) >>= _) _ _ s from QT (wpAny_seqItems hol hdl ?_);simp only[Int.toNat_natCast,hx];refine QT (wpAny_rule (QT (wpAny_setField ho hdt (by simp) ?_)));refine show wpAny _ _ (newExc (.type "StopIteration") [] >>= _) _ _ _ from QT ?_;have sb:=Heap.SameBut.update s.heap it (Obj.mapFields (·.setIfInBounds 0 Value.none));refine vM (hd.keeps fun b u vs e _ hb=>(sb.2 b fun z=>ni (z▸hb)).trans e) fun h' e kk he=>k h' e (fun b u hb q=>kk b u ((sb.2 b hb).trans q)) he
def qE{it l:Addr}{i:Nat}(hd:l3 A s.heap)(ni:A.handled≠some (.ref it))(hit:s.heap.IsListIter it l i)(hl:s.heap.IsList l its)(hx:its[i]?=none)
 (k:∀ h' e,Heap.ExtBut it s.heap h'->(∃ o,h'.get? e=some o/\o.cls=.type "StopIteration")->E (.ref e) { s with heap:=h' }):wpAny (model prog w) A (Builtin.SmallTypes.nextOf (.ref it)) Q E s:=by
 obtain⟨o,ho,hc,hdt⟩:=id hit;obtain⟨ol,hol,_,nl,hdl⟩:=hl;unfold Builtin.SmallTypes.nextOf;apply QT;apply wpAny_callSpecial?_slot (name:=Str.ofString "__next__") hit.typeIs slot_listiter_next;refine wpAny_call_entry slot_listiter_next hit.typeIs entry_listiter_next ?_ (args_listiter_next _);exact qw hd ni ho hdt hol hdl hx k
end
section
def su(hi:z.heap.IsTupleIter ti tp i)(ht:z.heap.IsTuple tp its)(hx:its[i]?=some x)
 (k:∀ g,g.IsTupleIter ti tp (i+1)->Heap.SameBut ti z.heap g->Q x { z with heap:=g }):wpAny (model prog w) A (Builtin.SmallTypes.nextOf (.ref ti)) Q E z:=by
 have hty:=hi.typeIs;obtain⟨⟨c1,d1,f1,s1⟩,g1,c1',f1'⟩:=hi;obtain⟨⟨c2,d2,f2,s2⟩,g2,c2',n2,f2'⟩:=ht;dsimp only at c1' f1' c2' f2';subst c1' f1' c2' f2';obtain⟨hp,g,d,tk,os⟩:=z;unfold Builtin.SmallTypes.nextOf;refine QT (wpAny_callSpecial?_slot (name:=Str.ofString "__next__") hty F.slot_tuple_iterator_next (wpAny_call_entry F.slot_tuple_iterator_next hty F.entry_tuple_iterator_next ?_ (F.args_tuple_iterator_next_1 _)));unfold Builtin.«tuple_iterator.__next__»
 wp_walk using AutoSeq1.wpAny_loadPart' g1,AutoSeq1.wpAny_loadPart' g2
 have e:its[((i:Nat):Int).toNat]?=some x:=hx;rw[e];dsimp only;apply QT;apply wpAny_setField g1 rfl (by simp);apply QW;refine#[x,rfl,?_];apply QW;apply k
 ·exact#[_,Zj _ g1 rfl,rfl,by simp[Obj.mapFields,rawInt]]
 ·exact Heap.SameBut.update ..
def uQ(hd:l3 A z.heap)(ni:A.handled≠some (.ref ti))(hi:z.heap.IsTupleIter ti tp i)(ht:z.heap.IsTuple tp its)(hx:its[i]?=none)
 (k:∀ g e,Heap.ExtBut ti z.heap g->(∃ o,g.get? e=some o/\o.cls=.type "StopIteration")->E (.ref e) { z with heap:=g }):wpAny (model prog w) A (Builtin.SmallTypes.nextOf (.ref ti)) Q E z:=by
 have hty:=hi.typeIs;obtain⟨⟨c1,d1,f1,s1⟩,g1,c1',f1'⟩:=hi;obtain⟨⟨c2,d2,f2,s2⟩,g2,c2',n2,f2'⟩:=ht;dsimp only at c1' f1' c2' f2';subst c1' f1' c2' f2';obtain⟨hp,g,d,tk,os⟩:=z;unfold Builtin.SmallTypes.nextOf;refine QT (wpAny_callSpecial?_slot (name:=Str.ofString "__next__") hty F.slot_tuple_iterator_next (wpAny_call_entry F.slot_tuple_iterator_next hty F.entry_tuple_iterator_next ?_ (F.args_tuple_iterator_next_1 _)));unfold Builtin.«tuple_iterator.__next__»
 wp_walk using AutoSeq1.wpAny_loadPart' g1,AutoSeq1.wpAny_loadPart' g2
 have e:its[((i:Nat):Int).toNat]?=none:=hx;rw[e];dsimp only;apply QT;apply wpAny_rule;apply QT;apply wpAny_setField g1 rfl (by simp);unfold Builtin.SmallTypes.stopIteration;apply QT;refine vM (hd.keeps fun b u vs e _ hb=>(Heap.SameBut.update ..).extBut b u (fun z=>ni (z▸hb)) e) fun g e kp hc=>k g e (fun b o hb q=>kp b o ?_) hc;exact(Heap.SameBut.update ..).extBut b o hb q
def qI(h:wpAny (model prog w) A m S (fun _ _=>False) z)(k:∀ a z1,S a z1->Q a z1):wpAny (model prog w) A m Q E z:=wpAny_mono h k fun _ _ f=>f.elim
def xE(h:∀ b,Q b z):wpAny (model prog w) A (pure b) Q E z:=QW (h b)
def zV{x:Value}{S:Addr->Shared->Prop}(hx:∀ A:Around,wpAny (model prog w) A (pyIter x) (fun v z1=>∃ it,v=.ref it/\S it z1) (fun _ _=>False) z)
 (k:∀ it z1,S it z1->Q (.ref z1.heap.objs.size) { z1 with heap:=z1.heap.push { cls:=.type "enumerate",data:=.fields (List.toArray [.none,.bool false,.ref it,rawInt 0,.none,.none]) } }):wpAny (model prog w) A (call (.type "enumerate") [x]) Q E z:=by
 have body:MeetsIn prog w (Builtin.«enumerate.__new__» ⟨[.type "enumerate",x],[]⟩) (fun A R s=>s=z/\∀ it z1,S it z1->R (.ok (.ret (.ref z1.heap.objs.size))) { z1 with heap:=z1.heap.push { cls:=.type "enumerate",data:=.fields (List.toArray [.none,.bool false,.ref it,rawInt 0,.none,.none]) } }):=by
  rintro A R s ⟨rfl,hR⟩;have hsub:=sub_enumerate;have iter:=hx A.in1;obtain⟨hp,g,d,tk,os⟩:=s
  wp_walk
  refine wpAny_stack_any fun st=>xE fun b=>?_
  have done:∀ it z1,S it z1->wpAny (model prog w) A.in1 (do let r <- Builtin.SmallTypes.newRecord (.type "enumerate") (Builtin.SmallTypes.ownedTupleFields++[.ref it,rawInt 0,.none,.none]);ret r)
    (fun fin s'=>match fin with | .done f=>R (.ok f) s' | .again c'=>c'.quiet=true/\codeAny (model prog w) A c' R s') (fun e s'=>R (.error e) s') z1:=by
   intro it z1 h1;have:=hR it z1 h1;obtain⟨hp1,gg1,dd1,tk1,os1⟩:=z1
   wp_walk
   exact this
  cases b
  ·wp_walk using qI iter
   rintro _ z1 ⟨it,rfl,h1⟩;exact done it z1 h1
  ·wp_walk using qI iter
   rintro _ z1 ⟨it,rfl,h1⟩;exact done it z1 h1
 refine callType_newIn F.called_enumerate ∅ (F.typeCall_enumerate_1 _) (F.newCall_enumerate_1 _) (fun obj=>F.args_object_init_2 obj _) F.entry_enumerate_new body ⟨rfl,fun it z1 h=>?_⟩;exact#[#[_,QX _ rfl,rfl],k it z1 h]
def sO:l9 prog w where
 draws:=fun hh ti tp hne its=>{
  live:=fun i h st=>let ⟨o,e,_⟩:=st.1;⟨o,e⟩
  frame:=fun i h h' st kp=>by
   obtain⟨⟨o1,e1,r1⟩,⟨o2,e2,r2⟩⟩:=st;exact#[#[o1,kp ti (by simp) _ e1,r1],#[o2,kp tp (by simp) _ e2,r2]]
  item:=fun i s Q E hi st k=>by
   refine su st.1 st.2 (x:=its[i]) (by simp[hi]) fun g h1 h2=>k its[i] g s.toks (by simp[hi]) ⟨h1,st.2.extBut h2.extBut hne⟩ h2
  done:=fun s Q E st k=>uQ (.inl hh) (by rw[hh];exact fun z=>nomatch z) st.1 st.2 (by simp) fun g e h1 h2=>k g e h1 h2 }
 call:=fun {A E z tp its Q} ht k=>by
  refine zV (S:=fun it z1=>it=z.heap.objs.size/\z1={ z with heap:=z.heap.push { cls:=.type "tuple_iterator",data:=.fields (List.toArray [.ref tp,rawInt 0]) } }) (fun A=>wpAny_pyIter_tuple ht ⟨_,rfl,rfl,rfl⟩) ?_;rintro it z1 ⟨rfl,rfl⟩;have hz:(z.heap.push { cls:=.type "tuple_iterator",data:=.fields (List.toArray [.ref tp,rawInt 0]) }).objs.size=z.heap.objs.size+1:=Zk ..;dsimp only;rw[hz];refine k _ ?_ ⟨_,QU _ (QX _ rfl),rfl,rfl⟩ fun b o e=>QU _ (QU _ e);have:=QX (z.heap.push { cls:=.type "tuple_iterator",data:=.fields (List.toArray [.ref tp,rawInt 0]) }) (o:={ cls:=.type "enumerate",data:=.fields (List.toArray [.none,.bool false,.ref z.heap.objs.size,rawInt 0,.none,.none]) }) rfl;rw[hz]at this;exact this
end
end L2
namespace RS
open PySem PySem.Spec PyProof.Rows L2
section
variable{X:Cx}
def vc:∀ {bs:List Bool} {us:List Value},Vals (bs.map V.bl) us->us=bs.map Value.bool
 | [],_,h=>by cases h;rfl
 | b::bs,_,h=>by
  cases h with
  |cons r t=>
   cases r;rw[vc t];rfl
def AO{A:Around}{bs:List Bool}:TruthOf X.prog X.w A (fun i v=>(bs.map Value.bool).toArray[i]?=some v) (fun i=>bs.getD i false):=by
 intro i v s Q E hP q
 have hP':(bs.map Value.bool)[i]?=some v:=by simpa using hP
 rw[List.getElem?_map]at hP';obtain⟨b,h1,h2⟩:=map_some hP';subst h2
 have:bs.getD i false=b:=by rw[List.getD_eq_getElem?_getD,h1];rfl
 have q':Q b s:=this▸q;exact wpAny_truthy_bool q'
def range_all(bs:List Bool):(List.range bs.length).all (fun i=>bs.getD i false)=bs.all id:=by
 have:bs=(List.range bs.length).map fun i=>bs.getD i false:=by
  apply List.ext_getElem
  ·simp
  ·intro i h1 h2;simp[List.getD_eq_getElem?_getD,h1]
 conv=>rhs;rw[this]
 rw[List.all_map];rfl
abbrev FD(f:List Bool->Bool):List V->Hp->VK->Prop:=fun xs H Q=>∃ p bs,xs=[.ref p]/\H p=some (.lst (bs.map V.bl))/\Q (.bl (f bs)) H
def zJ(hc:X.calm=true):bC X (.builtin "all") (FD fun bs=>bs.all id):=by
 intro pins s Y H xs us Q I r h;obtain⟨p,bs,rfl,hp,q⟩:=h
 cases r with
 |cons r rr=>
  cases rr;cases r;obtain⟨its,rv,hl,hz⟩:=I.list (SqL.of hp);have hits:=vc rv;subst hits
  have hlt:p<s.heap.objs.size:=by obtain⟨o,ho,_⟩:=hl.isList;exact QY ho
  refine call_all_walk (wpAny_pyIter_list hl.isList ?_);refine#[s.heap.objs.size,_,[s.heap.objs.size],_,_,_,_,rfl,Walks.list (A:=X.A.in1) (I.ok.hd.1 hc) s.heap.objs.size p (Q5 hlt) (bs.map Value.bool).toArray,#[#[_,QX _ rfl,rfl,rfl],hl.isList.push _],AO,fun h' tk hk=>?_];refine#[.bl (bs.all id),H,I.kept (t':=tk) (fun b o e=>hk b o (fun z=>?_) (QU _ e)),?_,q]
  ·rw[List.mem_singleton.mp z]at e;exact absurd (QY e) (Zw _)
  ·have:=range_all bs;show Value.bool _=Value.bool _;rw[<-this];simp
def tY{P:Addr->Prop}{K:W.Frag}:∀ {ds:List RL.D} {bs:List Bool} {xs:List V},RL.d7 ds=some bs->ae P K H ds xs->xs=bs.map V.bl
 | [],bs,xs,h,r=>by rw[RL.d7]at h;cases h;rw[ae]at r;exact r
 | d::ds,bs,xs,h,r=>by
  cases d<;>simp only[RL.d7]at h<;>first | (cases h;done) | skip
  rename_i b;obtain⟨bs',h1,h2⟩:=map_some h;subst h2;rw[ae]at r;obtain⟨x,t,rfl,r1,r2⟩:=r;rw[bh r1,tY h1 r2];rfl
def GW(hc:X.calm=true)(hg:Gl X "all")(hm:X.mg "all" = none)(ha:SE X cl a a')(hn:noStar a=true):SE X cl (.Call (.Name "all" p) [a] [] pos) (.bi .all a'):=by
 refine lg (zJ hc) hg hm (by decide +kernel) ha hn ∅ ∅ fun Zy Y H H1 y d v Q e s1 r1 k=>?_
 cases y<;>first | (cases e;done) | skip
 case lst ds =>
  obtain⟨bs,e1,e2⟩:=map_some e;subst e2;obtain⟨q,xs,rfl,_,f2,f3⟩:=aE r1;rw[tY e1 f3]at f2;exact#[q,bs,rfl,f2,k _ _ (bZ s1 sI rfl)]
def Dl(hg:Gl X "enumerate")(hm:X.mg "enumerate" = none)(ha:SE X cl a a')(hn:noStar a=true):SI X cl (.Tuple elts kx tp) (.Call (.Name "enumerate" p) [a] [] pos) (.enm a'):=Hl sO hg hm ha hn
def pA{P:Addr->Prop}{K:W.Frag}:∀ {ds:List RL.D} {is:List Int} {xs:List V},RL.cK ds=some is->ae P K H ds xs->xs=is.map V.int
 | [],is,xs,h,r=>by rw[RL.cK]at h;cases h;rw[ae]at r;exact r
 | d::ds,is,xs,h,r=>by
  cases d<;>simp only[RL.cK]at h<;>first | (cases h;done) | skip
  rename_i b;obtain⟨bs',h1,h2⟩:=map_some h;subst h2;rw[ae]at r;obtain⟨x,t,rfl,r1,r2⟩:=r;rw[ak r1,pA h1 r2];rfl
abbrev pJ(ns:List Int):List Int:=firstMet (fun i=>ns.getD i 0) ns.length
def Cq(ns:List Int):pJ ns=RL.fR ns:=by
 unfold pJ firstMet RL.fR
 have:(List.range ns.length).map (fun i=>ns.getD i 0)=ns:=by
  apply List.ext_getElem
  ·simp
  ·intro i h1 h2;simp[List.getD_eq_getElem?_getD,h2]
 rw[this];rfl
def yv(hc:X.calm=true):bC X (.type "set") (fun xs H Q=>∃ p ns,xs=[.ref p]/\H p=some (.lst (ns.map V.int))/\ns.length<=1000/\∀ l,H l=none->Q (.ref l) (upd H l (.set (fun k=>(pJ ns).any (· == k)) (pJ ns).length))):=by
 intro pins s Y H xs us Q I r h;obtain⟨p,ns,rfl,hp,hn,q⟩:=h
 cases r with
 |cons r rr=>
  cases rr;cases r;obtain⟨its,rv,hl,hz⟩:=I.list (SqL.of hp)
  have hlen:its.length=ns.length:=by
   have:=rv.length;simp at this;exact this.symm
  have hf:H s.heap.objs.size=none:=I.hok.fresh (QV _);refine call_set_list (I.ok.hd.1 hc) hl.isList (ns:=ns) (by simpa using intsAre_of rv) (by rw[List.size_toArray,hlen];show ns.length+1<4096;lia) fun h' tk hS hk=>?_
  have hsz:its.toArray.size=ns.length:=by rw[List.size_toArray];exact hlen
  rw[hsz]at hS;exact#[.ref s.heap.objs.size,_,I.laid (o:=.set (fun k=>(pJ ns).any (· == k)) (pJ ns).length) (t':=tk) (fun b u e=>hk b u (QY e) e) (QV _) hS,rfl,q _ hf]
def yZ:bC X (.builtin "len") (fun xs H Q=>∃ p S n,xs=[.ref p]/\H p=some (.set S n)/\Q (.int (n:Nat)) H):=by
 intro pins s Y H xs us Q I r h;obtain⟨p,S,n,rfl,hp,q⟩:=h
 cases r with
 |cons r rr=>
  cases rr;cases r;obtain⟨o,es,ep,t,h1,h2,h3,h4,h5,h6,h7,h8⟩:=I.hok p _ hp;refine call_len_set h1 h2 h3 h7 (by have:scanBound=4096:=rfl;lia) ?_;rw[h8];exact#[.int n,H,I.tok _,#[_,rfl],q]
def yE(hc:X.calm=true)(hgl:Gl X "len")(hml:X.mg "len" = none)(hg:Gl X "set")(hm:X.mg "set" = none)(ha:SE X cl a a')(hn:noStar a=true):SE X cl (.Call (.Name "len" p2) [.Call (.Name "set" p) [a] [] pos] [] pos2) (.bi .lenSet a'):=by
 refine PE.weak (iJ yZ hgl hml PySem.boot_len (bH (cN (yv hc) hg hm (by decide +kernel) (b0 (cl:=cl) ha cB hn) ∅ ∅ (a8 [] hn) rfl) d5 rfl) ∅ ∅ rfl rfl) fun Y H Q h=>?_;fin2;obtain⟨y,ea,e⟩:=bind_some e;refine one rv ea fun v H1 s1 r1=>?_
 cases y<;>first | (cases e;done) | skip
 case lst ds =>
  rw[RL.Bz]at e;split at e
  ·rename_i hl;obtain⟨is,e1,e2⟩:=map_some e;subst e2;obtain⟨q,xs,rfl,_,f2,f3⟩:=aE r1;have hx:=pA e1 f3;rw[hx]at f2
   have hil:is.length<=1000:=by
    have:=f3.length;rw[hx]at this;simp at this;lia
   refine#[q,is,rfl,f2,hil,fun l hl2=>#[l,_,_,rfl,bp,?_]];rw[Cq];exact k _ _ (bZ (s1.trans (a6.bP hl2)) aW rfl)
  ·cases e
def Fm(hl:PE X l (GS X.K "list" FK (gK i)))(he:SE X cl e e')(ha:SSs X cl M A A')(hb:SSs X cl M B B')(hi:M.contains i=true):SS X cl M (.If (.Compare l [.NotEq] [e] pos) A B pos2) (.ifp i e' A' B'):=by
 refine PS.weak (B4 (ma Im hl he (sD _ ∅ ∅)) ha hb) fun D Y H h=>?_;obtain⟨Zy,o,ZD,rv,ev,k⟩:=h;obtain⟨l,e3,ev⟩:=bind_some ev
 cases l with
 |lst ds=>
  obtain⟨d,e4,ev⟩:=bind_some ev;obtain⟨y,e5,ev⟩:=bind_some ev;obtain⟨v,h1,h2⟩:=rv.val i _ (slot_get e3);rw[if_pos hi]at h2;obtain⟨q1,q2,q3⟩:=h2;obtain⟨a,xs,rfl,_,f2,f3⟩:=aE q3;obtain⟨u,f4,f5⟩:=f3.get e4;have im:=uE q2;obtain⟨g1,g2⟩:=rv.fC (d':=.lst ds.dropLast) (o':=.lst xs.dropLast) hi h1 f2 (.inl #[_,rfl]) (hZ (ds:=ds) f2 im f3.dropLast)
  cases d with
  |int m=>
   cases y with
   |int n=>
    refine#[.ref a,h1,.inl #[rfl,xs,SqL.of f2],a,xs,u,rfl,rfl,f2,by rw[<-f3.length];exact f4,?_];refine#[_,_,g1.rv0,e5,fun w H1 r1=>?_];rw[ak f5,ak r1.rep];have k1:=k.from (g2.trans (Fr'.same (Y:=Y) r1.same));refine#[rfl,_,rfl,?_];dsimp only at ev;by_cases hmn:m=n
    ·rw[if_pos (by simpa using hmn)]at ev
     have hd:(!decide (V.int m=V.int n))=false:=by rw[hmn];simp
     rw[hd];exact gH ⟨_,o,ZD,g1.same r1.same,ev,k1⟩
    ·rw[if_neg (by simpa using hmn)]at ev
     have hd:(!decide (V.int m=V.int n))=true:=by
      have:V.int m≠V.int n:=fun z=>hmn (by injection z);simp[this]
     rw[hd];exact fZ ⟨_,o,ZD,g1.same r1.same,ev,k1⟩
   | _=>cases ev
  | _=>cases ev
 | _=>cases ev
end
end RS
namespace L2
open PySem PySem.Spec PyProof.Rows
section
variable{prog:Program}{w:World}{A:Around}{E:Value->Shared->Prop}
def C6{x y:Value}{S1:Addr->Shared->Prop}{S2:Addr->Addr->Shared->Prop}{z:Shared}{Q:Value->Shared->Prop}(hx:∀ A:Around,wpAny (model prog w) A (pyIter x) (fun v z1=>∃ it,v=.ref it/\S1 it z1) (fun _ _=>False) z)
 (hy:∀ it z1,S1 it z1->∀ A:Around,wpAny (model prog w) A (pyIter y) (fun v z2=>∃ jt,v=.ref jt/\S2 it jt z2) (fun _ _=>False) z1)
 (k:∀ it jt z2,S2 it jt z2->Q (.ref (((z2.heap.push { cls:=.type "tuple",data:=.seq (List.toArray [.ref it,.ref jt]) }).push { cls:=.type "tuple",data:=.seq (List.toArray [.none,.none]) })).objs.size)
   { z2 with heap:=((z2.heap.push { cls:=.type "tuple",data:=.seq (List.toArray [.ref it,.ref jt]) }).push { cls:=.type "tuple",data:=.seq (List.toArray [.none,.none]) }).push { cls:=.type "zip",data:=.fields (List.toArray [.none,.bool false,.bool false,.ref z2.heap.objs.size,.ref (z2.heap.push { cls:=.type "tuple",data:=.seq (List.toArray [.ref it,.ref jt]) }).objs.size]) } }) :
  wpAny (model prog w) A (call (.type "zip") [x,y]) Q E z:=by
 have body:MeetsIn prog w (Builtin.«zip.__new__» ⟨[.type "zip",x,y],[]⟩) (fun A R s=>s=z/\∀ it jt z2,S2 it jt z2->R (.ok (.ret (.ref (((z2.heap.push { cls:=.type "tuple",data:=.seq (List.toArray [.ref it,.ref jt]) }).push { cls:=.type "tuple",data:=.seq (List.toArray [.none,.none]) })).objs.size)))
   { z2 with heap:=((z2.heap.push { cls:=.type "tuple",data:=.seq (List.toArray [.ref it,.ref jt]) }).push { cls:=.type "tuple",data:=.seq (List.toArray [.none,.none]) }).push { cls:=.type "zip",data:=.fields (List.toArray [.none,.bool false,.bool false,.ref z2.heap.objs.size,.ref (z2.heap.push { cls:=.type "tuple",data:=.seq (List.toArray [.ref it,.ref jt]) }).objs.size]) } }):=by
  rintro A R s ⟨rfl,hR⟩;have hsub:=sub_zip;have iter:=hx A.in1;obtain⟨hp,g,d,tk,os⟩:=s
  wp_walk using qI iter
  rintro _ z1 ⟨it,rfl,h1⟩;have iter2:=hy it z1 h1 A.in1;obtain⟨hp1,gg1,dd1,tk1,os1⟩:=z1
  wp_walk using qI iter2
  rintro _ z2 ⟨jt,rfl,h2⟩;have fin:=hR it jt z2 h2;obtain⟨hp2,gg2,dd2,tk2,os2⟩:=z2
  wp_walk
  exact fin
 refine callType_newIn F.called_zip ∅ (F.typeCall_zip_2 _ _) (F.newCall_zip_2 _ _) (fun obj=>F.args_object_init_3 obj _ _) F.entry_zip_new body ⟨rfl,fun it jt z2 h=>?_⟩;exact#[#[_,QX _ rfl,rfl],k it jt z2 h]
structure jJ(z TI TO i1 i2:Addr)(fp1 fp2:List Addr):Prop where
 zTI:TI≠z
 zTO:TO≠z
 TT:TI≠TO
 i1z:i1≠z
 i2z:i2≠z
 JO:i1≠TO
 JT:i2≠TO
 i12:i1≠i2
 z1:z∉fp1
 z2:z∉fp2
 TO1:TO∉fp1
 TO2:TO∉fp2
 i1f:i1∉fp2
 i2f:i2∉fp1
def Ak{z TI TO i1 i2:Addr}{fp1 fp2:List Addr}{n1 n2 k:Nat}{P1 P2:Nat->Value->Prop}{S1 S2:Nat->Heap->Prop}{a b:Value}{s:Shared}{Q:Value->Shared->Prop}(Z:jJ z TI TO i1 i2 fp1 fp2)
 (D1:Draws prog w A i1 fp1 n1 P1 S1)(D2:Draws prog w A i2 fp2 n2 P2 S2)(hz:IsZip s.heap z TI TO .none)(hTI:IsPair s.heap TI (.ref i1) (.ref i2))(hTO:IsPair s.heap TO a b)(s1:S1 k s.heap)(s2:S2 k s.heap)(k1:k<n1)(k2:k<n2)
 (hQ:∀ x y g tk,P1 k x->P2 k y->IsZip g z TI TO (rawInt s.heap.objs.size)->IsPair g TO x y->S1 (k+1) g->S2 (k+1) g->IsPair g s.heap.objs.size x y->g.objs.size=s.heap.objs.size+1->(∀ c o,c≠z->c≠TO->c≠i1->c≠i2->s.heap.get? c=some o->g.get? c=some o)->Q (.ref s.heap.objs.size) { s with heap:=g,toks:=tk }) :
  wpAny (model prog w) A (Builtin.«zip.__next__» ⟨[.ref z],[]⟩) (fun fin s'=>∃ v,fin=.done (.ret v)/\Q v s') E s:=by
 obtain⟨hp,g,d,tk,os⟩:=s;have off:∀ (f:Obj->Obj) b o,b≠z->hp.get? b=some o->(hp.update z f).get? b=some o:=fun f b o hb e=>(Heap.SameBut.update ..).extBut b o hb e;have st1:∀ f:Obj->Obj,S1 k (hp.update z f):=fun f=>D1.frame k _ _ s1 fun b hb o e=>off f b o (fun q=>Z.z1 (q▸hb)) e;have st2:∀ f:Obj->Obj,S2 k (hp.update z f):=fun f=>D2.frame k _ _ s2 fun b hb o e=>off f b o (fun q=>Z.z2 (q▸hb)) e;unfold Builtin.«zip.__next__»
 wp_walk using AutoSeq1.wpAny_loadPart' hz,AutoSeq1.wpAny_loadPart' hTI,wpAny_onRaise,(D1.item k _ _ _ k1 (st1 _))
 intro x h1 t1 px st1' sb1;have q1:IsPair h1 TO a b:=sb1.extBut _ _ (Ne.symm Z.JO) (off _ TO _ Z.zTO hTO);have z1:IsZip h1 z TI TO .ellipsis:=sb1.extBut _ _ (Ne.symm Z.i1z) (Zj _ hz rfl);have u1:=sb1.1;have c1:∀ c o,c≠z->c≠i1->hp.get? c=some o->h1.get? c=some o:=fun c o n1 n2 e=>sb1.extBut _ _ n2 (off _ c o n1 e);clear sb1 st1 st2
 wp_walk using AutoSeq1.wpAny_loadPart' q1,(wpAny_updateSeq_pair q1)
 intro h2 q2 sb2
 replace q2:IsPair h2 TO x b:=q2
 have z2:IsZip h2 z TI TO .ellipsis:=sb2.extBut _ _ (Ne.symm Z.zTO) z1;have c2:∀ c o,c≠z->c≠TO->c≠i1->hp.get? c=some o->h2.get? c=some o:=fun c o n1 n2 n3 e=>sb2.extBut _ _ n2 (c1 c o n1 n3 e);have e1:S1 (k+1) h2:=D1.frame _ _ _ st1' fun b hb o e=>sb2.extBut _ _ (fun q=>Z.TO1 (q▸hb)) e;have e2:S2 k h2:=D2.frame _ _ _ s2 fun b hb o e=>c2 b o (fun q=>Z.z2 (q▸hb)) (fun q=>Z.TO2 (q▸hb)) (fun q=>Z.i1f (q▸hb)) e;have u2:=sb2.1.trans u1;clear sb2 u1 c1 z1 q1
 wp_walk using wpAny_onRaise,(D2.item k _ _ _ k2 e2)
 intro y h3 t3 py f2 sb3;have q3:IsPair h3 TO x b:=sb3.extBut _ _ (Ne.symm Z.JT) q2;have z3:IsZip h3 z TI TO .ellipsis:=sb3.extBut _ _ (Ne.symm Z.i2z) z2;have f1:S1 (k+1) h3:=D1.frame _ _ _ e1 fun b hb o e=>sb3.extBut _ _ (fun q=>Z.i2f (q▸hb)) e;have c3:∀ c o,c≠z->c≠TO->c≠i1->c≠i2->hp.get? c=some o->h3.get? c=some o:=fun c o n1 n2 n3 n4 e=>sb3.extBut _ _ n4 (c2 c o n1 n2 n3 e);have u3:=sb3.1.trans u2;clear sb3 u2 c2 z2 q2 e1 e2
 wp_walk using AutoSeq1.wpAny_loadPart' q3,(wpAny_updateSeq_pair q3)
 intro h4 q4 sb4
 replace q4:IsPair h4 TO x y:=q4
 have z4:IsZip h4 z TI TO .ellipsis:=sb4.extBut _ _ (Ne.symm Z.zTO) z3;have g1:S1 (k+1) h4:=D1.frame _ _ _ f1 fun b hb o e=>sb4.extBut _ _ (fun q=>Z.TO1 (q▸hb)) e;have g2:S2 (k+1) h4:=D2.frame _ _ _ f2 fun b hb o e=>sb4.extBut _ _ (fun q=>Z.TO2 (q▸hb)) e;have c4:∀ c o,c≠z->c≠TO->c≠i1->c≠i2->hp.get? c=some o->h4.get? c=some o:=fun c o n1 n2 n3 n4 e=>sb4.extBut _ _ n2 (c3 c o n1 n2 n3 n4 e);have u4:=sb4.1.trans u3;clear sb4 u3 c3 z3 q3 f1 f2
 wp_walk using AutoSeq1.wpAny_loadPart' q4
 have u0:h4.objs.size=hp.objs.size:=u4.trans (Heap.SameBut.update ..).1;refine#[_,rfl,?_];show Q (.ref h4.objs.size) _;have zp:IsZip (h4.push { cls:=.type "tuple",data:=.seq (List.toArray [x,y]).toList.toArray }) z TI TO .ellipsis:=QU _ z4;have zlt:z<h4.objs.size:=QY z4
 have up:∀ (f f':Obj->Obj) c o,c≠z->(h4.push { cls:=.type "tuple",data:=.seq (List.toArray [x,y]).toList.toArray }).get? c=some o->(((h4.push { cls:=.type "tuple",data:=.seq (List.toArray [x,y]).toList.toArray }).update z f).update z f').get? c=some o:=fun f f' c o hc e =>
  (Heap.SameBut.update ..).extBut c o hc ((Heap.SameBut.update ..).extBut c o hc e)
 have goal:=hQ x y (((h4.push { cls:=.type "tuple",data:=.seq (List.toArray [x,y]).toList.toArray }).update z (Obj.mapFields (·.setIfInBounds 0 (rawInt h4.objs.size)))).update z (Obj.mapFields (·.setIfInBounds 1 (.bool false)))) t3 px py ?_ ?_ ?_ ?_ ?_ ?_ ?_
 ·rw[u0]at goal ⊢;exact goal
 ·rw[<-u0];exact Zj _ (Zj _ zp rfl) rfl
 ·exact up _ _ _ _ Z.zTO (QU _ q4)
 ·exact D1.frame _ _ _ g1 fun b hb o e=>up _ _ _ _ (fun q=>Z.z1 (q▸hb)) (QU _ e)
 ·exact D2.frame _ _ _ g2 fun b hb o e=>up _ _ _ _ (fun q=>Z.z2 (q▸hb)) (QU _ e)
 ·show IsPair _ hp.objs.size x y;rw[<-u0];exact up _ _ _ _ (Nat.ne_of_gt zlt) (QX _ rfl)
 ·refine((Heap.SameBut.update ..).1.trans ((Heap.SameBut.update ..).1.trans ((Zk ..).trans ?_)));show h4.objs.size+1=hp.objs.size+1;rw[u0]
 ·exact fun c o n1 n2 n3 n4 e=>up _ _ _ _ n1 (QU _ (c4 c o n1 n2 n3 n4 e))
def BX{z TI TO i1 i2:Addr}{fp1 fp2:List Addr}{n1:Nat}{P1:Nat->Value->Prop}{S1:Nat->Heap->Prop}{a b:Value}{s:Shared}{Q:Fin->Shared->Prop}(Z:jJ z TI TO i1 i2 fp1 fp2)
 (D1:Draws prog w A i1 fp1 n1 P1 S1)(hz:IsZip s.heap z TI TO .none)(hTI:IsPair s.heap TI (.ref i1) (.ref i2))(hTO:IsPair s.heap TO a b)(s1:S1 n1 s.heap)
 (hE:∀ g e,(∀ c o,c≠z->c≠i1->s.heap.get? c=some o->g.get? c=some o)->(∃ o,g.get? e=some o/\o.cls=.type "StopIteration")->E (.ref e) { s with heap:=g }) :
  wpAny (model prog w) A (Builtin.«zip.__next__» ⟨[.ref z],[]⟩) Q E s:=by
 obtain⟨hp,g,d,tk,os⟩:=s;have off:∀ (f:Obj->Obj) b o,b≠z->hp.get? b=some o->(hp.update z f).get? b=some o:=fun f b o hb e=>(Heap.SameBut.update ..).extBut b o hb e;have st1:∀ f:Obj->Obj,S1 n1 (hp.update z f):=fun f=>D1.frame n1 _ _ s1 fun b hb o e=>off f b o (fun q=>Z.z1 (q▸hb)) e;unfold Builtin.«zip.__next__»
 wp_walk using AutoSeq1.wpAny_loadPart' hz,AutoSeq1.wpAny_loadPart' hTI,wpAny_onRaise,(D1.done _ _ _ (st1 _))
 rintro h1 e eb ⟨oe,he,hce⟩;have z1:IsZip h1 z TI TO .ellipsis:=eb _ _ (Ne.symm Z.i1z) (Zj _ hz rfl)
 have ez:e≠z:=fun q=>by
  rw[q,z1]at he;have:=Option.some.inj he;rw[<-this]at hce;simp at hce
 refine wpAny_setField_rec z1 (by simp) fun h2 _ sb2=>?_;exact hE h2 e (fun c o n1 n2 q=>sb2.extBut _ _ n1 (eb _ _ n2 (off _ _ _ n1 q))) ⟨oe,sb2.extBut _ _ ez he,hce⟩
end
section
variable{prog:Program}{w:World}{A:Around}{E:Value->Shared->Prop}{z TI TO i1 i2:Addr}{fp1 fp2:List Addr}{n1 n2 k:Nat}{P1 P2:Nat->Value->Prop}{S1 S2:Nat->Heap->Prop}{a b:Value}{s:Shared}
def AX{Q:Option Value->Shared->Prop}(Z:jJ z TI TO i1 i2 fp1 fp2)(D1:Draws prog w A.in1 i1 fp1 n1 P1 S1)(D2:Draws prog w A.in1 i2 fp2 n2 P2 S2)(hz:IsZip s.heap z TI TO .none)(hTI:IsPair s.heap TI (.ref i1) (.ref i2))(hTO:IsPair s.heap TO a b)(s1:S1 k s.heap)(s2:S2 k s.heap)(k1:k<n1)(k2:k<n2)
 (hQ:∀ x y g tk,P1 k x->P2 k y->IsZip g z TI TO (rawInt s.heap.objs.size)->IsPair g TO x y->S1 (k+1) g->S2 (k+1) g->IsPair g s.heap.objs.size x y->g.objs.size=s.heap.objs.size+1->(∀ c o,c≠z->c≠TO->c≠i1->c≠i2->s.heap.get? c=some o->g.get? c=some o)->Q (some (.ref s.heap.objs.size)) { s with heap:=g,toks:=tk }) :
  wpAny (model prog w) A (pyNext (.ref z)) Q E s:=by
 have hT:s.TypeIs (.ref z) "zip" := #[_,hz,rfl]
 unfold pyNext;apply QT;apply wpAny_attempt;apply wpAny_callSpecial?_slot (name:=Str.ofString "__next__") hT F.slot_zip_next;refine wpAny_call_entry F.slot_zip_next hT F.entry_zip_next ?_ (F.args_zip_next_1 _);refine Ak Z D1 D2 hz hTI hTO s1 s2 k1 k2 fun x y g tk px py q1 q2 q3 q4 q5 q6 q7=>?_;apply QW;exact hQ x y g tk px py q1 q2 q3 q4 q5 q6 q7
def AM{Q:Option Value->Shared->Prop}(Z:jJ z TI TO i1 i2 fp1 fp2)(D1:Draws prog w A.in1 i1 fp1 n1 P1 S1)(hz:IsZip s.heap z TI TO .none)(hTI:IsPair s.heap TI (.ref i1) (.ref i2))(hTO:IsPair s.heap TO a b)(s1:S1 n1 s.heap)
 (hQ:∀ g,(∀ c o,c≠z->c≠i1->s.heap.get? c=some o->g.get? c=some o)->Q none { s with heap:=g }):wpAny (model prog w) A (pyNext (.ref z)) Q E s:=by
 have hT:s.TypeIs (.ref z) "zip" := #[_,hz,rfl]
 unfold pyNext;apply QT;apply wpAny_attempt;apply wpAny_callSpecial?_slot (name:=Str.ofString "__next__") hT F.slot_zip_next;refine wpAny_call_entry F.slot_zip_next hT F.entry_zip_next ?_ (F.args_zip_next_1 _);refine BX Z D1 hz hTI hTO s1 fun g e hk ⟨o,he,hc⟩=>?_;apply QT;refine wpAny_isInstance (T := "StopIteration") (b:=true) ⟨_,he,hc⟩ isSubtype_stop ?_;apply QW;exact hQ g hk
end
section
variable{s:Shared}
def zP(hh:A.handled=some (.ref x))(hd:ox.data=.fields xs)(h2:xs[2]?=some .none)(nx:x≠it)(hne:l≠it)(its:Array Value) :
  Draws prog w A it [it,l,x] its.size (fun i v=>its[i]?=some v) (fun i h=>(h.IsListIter it l i/\h.IsList l its)/\h.get? x=some ox) where
 live:=fun _ _ st=>let ⟨o,ho,_⟩:=st.1.1;⟨o,ho⟩
 frame:=fun _ _ _ st hk=>#[#[st.1.1.at fun o e=>hk it (by simp) o e,st.1.2.at fun o e=>hk l (by simp) o e],hk x (by simp) _ st.2]
 item:=fun i s Q E hi st hQ=>wpAny_nextOf_list_item st.1.1 st.1.2 (x:=its[i]) (by simp[hi]) fun h' hit' hs'=>hQ _ h' s.toks (by simp[hi]) ⟨⟨hit',st.1.2.extBut hs'.extBut hne⟩,(hs'.2 x nx).trans st.2⟩ hs'
 done:=fun s Q E st hE=>qE (.inr #[x,ox,xs,hh,st.2,hd,h2]) (fun q=>by rw[hh]at q;cases q;exact nx rfl) st.1.1 st.1.2 (by simp) hE
def yp(hh:A.handled=some (.ref x))(hd:ox.data=.fields xs)(h2:xs[2]?=some .none)(nx:x≠it)(hne:l≠it)(its:Array Value) :
  Draws prog w A it [it,l,x] its.size (fun i v=>its[i]?=some v) (fun i h=>(h.IsTupleIter it l i/\h.IsTuple l its)/\h.get? x=some ox) where
 live:=fun _ _ st=>let ⟨o,ho,_⟩:=st.1.1;⟨o,ho⟩
 frame:=fun _ _ _ st hk=>by
  obtain⟨⟨⟨o1,e1,r1⟩,⟨o2,e2,r2⟩⟩,e3⟩:=st;exact#[#[#[o1,hk it (by simp) _ e1,r1],#[o2,hk l (by simp) _ e2,r2]],hk x (by simp) _ e3]
 item:=fun i s Q E hi st k=>su st.1.1 st.1.2 (x:=its[i]) (by simp[hi]) fun g g1 g2=>k its[i] g s.toks (by simp[hi]) ⟨⟨g1,st.1.2.extBut g2.extBut hne⟩,(g2.2 x nx).trans st.2⟩ g2
 done:=fun s Q E st hE=>uQ (.inr #[x,ox,xs,hh,st.2,hd,h2]) (fun q=>by rw[hh]at q;cases q;exact nx rfl) st.1.1 st.1.2 (by simp) hE
end
section
end
inductive SK where
 | t
 | l
 | f (o:Obj)
abbrev SK.tp:SK->Bool
 | .t=>true
 | _=>false
abbrev dJ:SK->List V->HO
 | .t,xs=>.tup xs
 | .l,xs=>.lst xs
 | .f o,xs=>.frz o (.lst xs)
def vg{K:W.Frag}{k:SK}{H:Hp}(h:k.tp=false)(hx:H l=some (dJ k xs)):SqL K H l xs:=by
 cases k with
 | t=>cases h
 | l=>exact SqL.of hx
 | f o=>exact .inl (.inr #[o,hx])
def ve{k:SK}{H:Hp}(h:k.tp=true)(hx:H l=some (dJ k xs)):H l=some (.tup xs):=by
 cases k with
 | t=>exact hx
 | l=>cases h
 | f o=>cases h
abbrev jm(t:Bool)(it l:Addr)(i:Nat)(h:Heap):Prop:=if t then h.IsTupleIter it l i else h.IsListIter it l i
def jm.obj(st:jm t it l i h):∃ o,h.get? it=some o/\∀ v,o.data≠.cell v:=by
 cases t with
 | true=>exact let ⟨o,ho,_,hd⟩:=(show h.IsTupleIter it l i from st);⟨o,ho,fun v q=>by rw[hd]at q;cases q⟩
 | false=>exact let ⟨o,ho,_,hd⟩:=(show h.IsListIter it l i from st);⟨o,ho,fun v q=>by rw[hd]at q;cases q⟩
def jm.keep(st:jm t it l i h)(k:∀ o,h.get? it=some o->h'.get? it=some o):jm t it l i h':=by
 cases t with
 | true=>exact let ⟨o,ho,r⟩:=(show h.IsTupleIter it l i from st);⟨o,k o ho,r⟩
 | false=>exact(show h.IsListIter it l i from st).at fun o q=>k o q
def jg{k:SK}(I:Inv X pins Y H s)(hi:H it=none)(hx0:H l=some (dJ k xs))(ht:k.tp=t) :
  ∃ (fp:List Addr) (Pv:Nat->Value->Prop) (St:Nat->Heap->Prop),Draws X.prog X.w X.A.in1 it fp xs.length Pv St/\(∀ b∈fp,b=it\/H b≠none)/\(∀ i,jm t it l i s.heap->St i s.heap)/\(∀ i h,St i h->jm t it l i h)/\∀ i v,Pv i v->∃ x,xs[i]?=some x/\RelV x v:=by
 have back:∀ {its:List Value},Vals xs its->∀ (i:Nat) (v:Value),its.toArray[i]?=some v->∃ x,xs[i]?=some x/\RelV x v:=fun {its} rv i v hv=>by
  have hv:its[i]?=some v:=by simpa using hv
  have hlt:i<xs.length:=by rw[rv.length];exact(List.getElem?_eq_some_iff.mp hv).1
  obtain⟨u,h1,h2⟩:=rv.get (i:=i) (x:=xs[i]) (by simp[hlt]);rw[hv]at h1;cases h1;exact#[xs[i],by simp[hlt],h2]
 have two:∀ {u:HO},H l=some u->∀ b∈[it,l],b=it\/H b≠none:=fun {u} e b hb=>by
  rcases List.mem_cons.mp hb with z | z
  ·exact .inl z
  ·rw[List.mem_singleton.mp z,e]
   exact .inr fun z=>nomatch z
 rcases I.ok.hd.2 with hh | ⟨x,ox,ux,ws,hh,g1,g2,g3⟩
 ·cases t with
  |true=>
   have hx:H l=some (.tup xs):=ve ht hx0;obtain⟨its,rv,p,hz⟩:=I.tuple (SqT.of hx);have D:=sO.draws (prog:=X.prog) (w:=X.w) (A:=X.A.in1) hh it l (aO hx hi) its.toArray;rw[show its.toArray.size=xs.length by rw[List.size_toArray,rv.length]]at D;exact#[_,_,_,D,two hx,fun i st=>#[st,p],fun i h st=>st.1,back rv]
  |false=>
   have hx:=hx0;obtain⟨its,rv,p,hz⟩:=I.list (vg ht hx);have D:=Draws.list (prog:=X.prog) (w:=X.w) (A:=X.A.in1) hh it l (aO hx hi) its.toArray;rw[show its.toArray.size=xs.length by rw[List.size_toArray,rv.length]]at D;exact#[_,_,_,D,two hx,fun i st=>#[st,p.isList],fun i h st=>st.1,back rv]
 ·have hxx:=I.base.ig _ _ _ g1;have hxo:s.heap.get? x=some ox:=(I.hok _ _ hxx).1;have nx:x≠it:=aO hxx hi
  have three:∀ {u:HO},H l=some u->∀ b∈[it,l,x],b=it\/H b≠none:=fun {u} e b hb=>by
   simp only[List.mem_cons,List.mem_nil_iff,or_false]at hb;rcases hb with z | z | z
   ·exact .inl z
   ·rw[z,e]
    exact .inr fun z=>nomatch z
   ·rw[z,hxx]
    exact .inr fun z=>nomatch z
  cases t with
  |true=>
   have hx:H l=some (.tup xs):=ve ht hx0;obtain⟨its,rv,p,hz⟩:=I.tuple (SqT.of hx);have D:=yp (prog:=X.prog) (w:=X.w) (A:=X.A.in1) hh g2 g3 nx (aO hx hi) its.toArray;rw[show its.toArray.size=xs.length by rw[List.size_toArray,rv.length]]at D;exact#[_,_,_,D,three hx,fun i st=>#[#[st,p],hxo],fun i h st=>st.1.1,back rv]
  |false=>
   have hx:=hx0;obtain⟨its,rv,p,hz⟩:=I.list (vg ht hx);have D:=zP (prog:=X.prog) (w:=X.w) (A:=X.A.in1) hh g2 g3 nx (aO hx hi) its.toArray;rw[show its.toArray.size=xs.length by rw[List.size_toArray,rv.length]]at D;exact#[_,_,_,D,three hx,fun i st=>#[#[st,p.isList],hxo],fun i h st=>st.1.1,back rv]
abbrev Itz(t1 t2:SK)(l1 l2:Addr):It :=
 ⟨fun i H=>∃ xs ys x y,H l1=some (dJ t1 xs)/\H l2=some (dJ t2 ys)/\xs[i]?=some x/\ys[i]?=some y,
   fun i H v H'=>∃ p x y,H p=none/\v=.ref p/\H'=upd H p (.tup [x,y])/\(∀ xs,H l1=some (dJ t1 xs)->xs[i]?=some x)/\∀ ys,H l2=some (dJ t2 ys)->ys[i]?=some y,
   fun i H=>∃ xs ys,H l1=some (dJ t1 xs)/\H l2=some (dJ t2 ys)/\xs.length=i/\ys.length=i⟩
def tZ(h:dJ t xs=dJ t ys):xs=ys:=by
 cases t with
 | t=>injection h
 | l=>injection h
 | f o=>injection h with _ h;injection h
def Bc{P:Program}{w:World}{K:W.Frag}{elts:List Expr}{kx:Nat}{tp:Pos}{t1 t2:SK}{z TI TO i1 i2 l1 l2:Addr}(n1:TI≠z)(n2:TO≠z)(n3:TI≠TO)(n4:i1≠z)(n5:i2≠z)(n6:i1≠TO)(n7:i2≠TO)(n8:i1≠i2)(n9:i1≠TI)(n10:i2≠TI) :
  nJ (fun _=>True) P w K (.Tuple elts kx tp) (Itz t1 t2 l1 l2) [z,TI,TO,i1,i2] z (fun i h=>IsZip h z TI TO .none/\IsPair h TI (.ref i1) (.ref i2)/\(∃ a b,IsPair h TO a b)/\jm t1.tp i1 l1 i h/\jm t2.tp i2 l2 i h) where
 mem:=by simp
 obj:=fun i h st b hb=>by
  obtain⟨h1,h2,⟨a,c,h3⟩,h4,h5⟩:=st;simp only[List.mem_cons,List.mem_nil_iff,or_false]at hb;rcases hb with rfl | rfl | rfl | rfl | rfl
  ·exact⟨_,h1,fun v q=>by cases q⟩
  ·exact⟨_,h2,fun v q=>by cases q⟩
  ·exact⟨_,h3,fun v q=>by cases q⟩
  ·exact h4.obj
  ·exact h5.obj
 keep:=fun i h h' st k=>by
  obtain⟨h1,h2,⟨a,c,h3⟩,h4,h5⟩:=st;exact#[k z (by simp) _ h1,k TI (by simp) _ h2,#[a,c,k TO (by simp) _ h3],h4.keep fun o q=>k i1 (by simp) o q,h5.keep fun o q=>k i2 (by simp) o q]
 item:=by
  intro X hP hw hK hc i pins s Y H E I hf st hg;subst hP hw hK;obtain⟨h1,h2,⟨a,c,h3⟩,h4,h5⟩:=st;obtain⟨xs,ys,x,y,hx,hy,ex,ey⟩:=hg;have f:∀ b∈[z,TI,TO,i1,i2],H b=none:=fun b hb=>(hf b hb).1;obtain⟨fp1,Pv1,St1,D1,m1,a1,a2,a3⟩:=jg I (f i1 (by simp)) hx rfl;obtain⟨fp2,Pv2,St2,D2,m2,b1,b2,b3⟩:=jg I (f i2 (by simp)) hy rfl;have no:∀ {fp:List Addr} {i b:Addr},(∀ b∈fp,b=i\/H b≠none)->b∈[z,TI,TO,i1,i2]->b≠i->b∉fp:=fun m hb n z=>(m _ z).elim n fun q=>q (f _ hb)
  have Z:jJ z TI TO i1 i2 fp1 fp2:=#[n1,n2,n3,n4,n5,n6,n7,n8,no m1 (by simp) (Ne.symm n4),no m2 (by simp) (Ne.symm n5),no m1 (by simp) (Ne.symm n6),no m2 (by simp) (Ne.symm n7),no m2 (by simp) n8,no m1 (by simp) (Ne.symm n8)]
  refine AX Z D1 D2 h1 h2 h3 (a1 i h4) (b1 i h5) (List.getElem?_eq_some_iff.mp ex).1 (List.getElem?_eq_some_iff.mp ey).1 fun u v g tk pu pv g1 g2 g3 g4 g5 g6 g7=>?_;obtain⟨x',ex',rx⟩:=a3 i u pu;obtain⟨y',ey',ry⟩:=b3 i v pv;rw[ex]at ex';rw[ey]at ey';cases ex';cases ey';refine#[.ref s.heap.objs.size,rfl,wpAny_letOwnedTupleGo_zip g1 fun g' gz' sb=>?_];have hn:H s.heap.objs.size=none:=I.hok.fresh (QV _)
  have I1:Inv X pins Y (upd H s.heap.objs.size (.tup [x,y])) { s with heap:=s.heap.push { cls:=.type "tuple",data:=.seq (List.toArray [u,v]) },toks:=tk } :=
   I.laid (t':=tk) (fun b o q=>QU _ q) (QV _) ⟨by show 2<=sizeLine;decide,[u,v],.cons rx (.cons ry .nil),⟨_,QX _ rfl,rfl,_,rfl⟩⟩
  have lt:∀ b∈[z,TI,TO,i1,i2],b≠s.heap.objs.size:=fun b hb=>by
   have:∃ o,s.heap.get? b=some o:=by
    simp only[List.mem_cons,List.mem_nil_iff,or_false]at hb;rcases hb with rfl | rfl | rfl | rfl | rfl
    ·exact#[_,h1]
    ·exact#[_,h2]
    ·exact#[_,h3]
    ·exact let ⟨o,q,_⟩:=h4.obj;⟨o,q⟩
    ·exact let ⟨o,q,_⟩:=h5.obj;⟨o,q⟩
   obtain⟨o,q⟩:=this;exact Q5 (QY q)
  have stat:∀ b∈[z,TI,TO,i1,i2],upd H s.heap.objs.size (.tup [x,y]) b=none/\(b∈X.ex\/X.s₀.heap.objs.size<=b)/\b≠X.env.locals/\(∀ x c,X.env.cells.lookup x=some c->c≠b)/\∀ p∈X.pn++pins,p.1≠b:=fun b hb=>by
   obtain⟨f0,f1,f2,f3,f4,f5⟩:=hf b hb;exact#[by rw[aV (lt b hb)];exact f0,f3,f1,f4,f5]
  have I2:Inv X pins Y (upd H s.heap.objs.size (.tup [x,y])) { s with heap:=g',toks:=tk }:=by
   refine Inv.p9 (s:={ s with heap:=s.heap.push { cls:=.type "tuple",data:=.seq (List.toArray [u,v]) },toks:=tk }) (h':=g') (t':=tk) (fp:=[z,TI,TO,i1,i2]) I1 (fun b o hb q=>?_) stat;simp only[List.mem_cons,List.mem_nil_iff,or_false,not_or]at hb;refine sb.extBut b o hb.1 ?_;by_cases hbT:b=s.heap.objs.size
   ·subst hbT;have q':(s.heap.push { cls:=.type "tuple",data:=.seq (List.toArray [u,v]) }).get? s.heap.objs.size=some o:=q;rw[QX _ rfl]at q';cases q';exact g5
   ·exact g7 b o hb.1 hb.2.2.1 hb.2.2.2.1 hb.2.2.2.2 ((Heap.get?_push_ne _ _ _ hbT).symm.trans q)
  have kp:∀ b∈[TI,TO,i1,i2],∀ o,g.get? b=some o->g'.get? b=some o:=fun b hb o q=>sb.extBut b o (fun e=>by
   subst e;simp only[List.mem_cons,List.mem_nil_iff,or_false]at hb;rcases hb with e | e | e | e
   ·exact n1 e.symm
   ·exact n2 e.symm
   ·exact n4 e.symm
   ·exact n5 e.symm) q
  refine#[.ref s.heap.objs.size,_,I2,rfl,#[s.heap.objs.size,x,y,hn,rfl,rfl,fun xs' hx'=>?_,fun ys' hy'=>?_],#[gz',kp TI (by simp) _ (g7 TI _ n1 n3 (Ne.symm n9) (Ne.symm n10) h2),#[u,v,kp TO (by simp) _ g2],(a2 _ _ g3).keep fun o q=>kp i1 (by simp) o q,(b2 _ _ g4).keep fun o q=>kp i2 (by simp) o q],fun b hb=>(stat b hb).1]
  ·rw[hx]at hx';rw[<-tZ (Option.some.inj hx')];exact ex
  ·rw[hy]at hy';rw[<-tZ (Option.some.inj hy')];exact ey
 done:=by
  intro X hP hw hK hc i pins s Y H E I hf st hg;subst hP hw hK;obtain⟨h1,h2,⟨a,c,h3⟩,h4,h5⟩:=st;obtain⟨xs,ys,hx,hy,ex,ey⟩:=hg;have f:∀ b∈[z,TI,TO,i1,i2],H b=none:=fun b hb=>(hf b hb).1;obtain⟨fp1,Pv1,St1,D1,m1,a1,a2,a3⟩:=jg I (f i1 (by simp)) hx rfl;obtain⟨fp2,_,_,_,m2,_⟩:=jg I (f i2 (by simp)) hy rfl;have no:∀ {fp:List Addr} {i b:Addr},(∀ b∈fp,b=i\/H b≠none)->b∈[z,TI,TO,i1,i2]->b≠i->b∉fp:=fun m hb n z=>(m _ z).elim n fun q=>q (f _ hb)
  have Z:jJ z TI TO i1 i2 fp1 fp2:=#[n1,n2,n3,n4,n5,n6,n7,n8,no m1 (by simp) (Ne.symm n4),no m2 (by simp) (Ne.symm n5),no m1 (by simp) (Ne.symm n6),no m2 (by simp) (Ne.symm n7),no m2 (by simp) n8,no m1 (by simp) (Ne.symm n8)]
  subst ex
  refine AM Z D1 h1 h2 h3 (a1 _ h4) fun g hk=>#[rfl,?_]
  refine Inv.p9 (h':=g) (t':=s.toks) (fp:=[z,i1]) I (fun b o hb q=>?_) fun b hb=>?_
  ·simp only[List.mem_cons,List.mem_nil_iff,or_false,not_or]at hb;exact hk b o hb.1 hb.2 q
  ·have hb':b∈[z,TI,TO,i1,i2]:=by
    simp only[List.mem_cons,List.mem_nil_iff,or_false]at hb ⊢;rcases hb with q | q
    ·exact .inl q
    ·exact .inr (.inr (.inr (.inl q)))
   obtain⟨f0,f1,f2,f3,f4,f5⟩:=hf b hb';exact#[f0,f3,f1,f4,f5]
 self:=fun A i s Q E st h=>wpAny_pyIter_zip st.1 h
def nJ.calm{P:Program}{w:World}{K:W.Frag}(T:nJ (fun _=>True) P w K tg J fp it tn):Turn P w K tg J fp it tn where
 mem:=T.mem
 obj:=T.obj
 keep:=T.keep
 item:=fun X a b c hc i pins s Y H E I=>T.item X a b c trivial i pins s Y H E I
 done:=fun X a b c hc i pins s Y H E I=>T.done X a b c trivial i pins s Y H E I
 self:=T.self
def PI'.calm(h:PI' (fun _=>True) X tg iter wi):PI X tg iter wi:=fun pins s Y H R I q =>
 thn (h pins s Y H R I q) fun v s1 h1=>thn h1 fun itv s2 ⟨it,fp,tn,J,H',e,I',T,r⟩=>#[it,fp,tn,J,H',e,I',T.calm,r]
abbrev dh(t:Bool)(l:Addr):Obj:=if t then { cls:=.type "tuple_iterator",data:=.fields (List.toArray [.ref l,rawInt 0]) } else { cls:=.type "list_iterator",data:=.fields (List.toArray [.ref l,.int 0 0]) }
def r9(e:h.get? it=some (dh t l)):jm t it l 0 h:=by
 cases t with
 | true=>exact#[_,e,rfl,rfl]
 | false=>exact#[_,e,rfl,rfl]
def rF{t:SK}(I:Inv X pins Y H s)(hx:H l=some (dJ t xs))(q:Q (.ref s.heap.objs.size) { s with heap:=s.heap.push (dh t.tp l) }):wpAny (model X.prog X.w) A (pyIter (.ref l)) Q E s:=by
 cases t with
 |t=>
  obtain⟨its,rv,p,hz⟩:=I.tuple (SqT.of (show H l=some (.tup xs)from hx));exact wpAny_pyIter_tuple p q
 |l=>
  obtain⟨its,rv,p,hz⟩:=I.list (SqL.of (show H l=some (.lst xs)from hx));exact wpAny_pyIter_list p.isList q
 |f o=>
  obtain⟨its,rv,p,hz⟩:=I.list (show SqL X.K H l xs from .inl (.inr #[o,hx]));exact wpAny_pyIter_list p.isList q
section
abbrev JN(ta:TA):TI:=fun Y H R=>ta Y H fun vs H1=>∃ t1 t2 l1 l2 xs ys,vs=[.ref l1,.ref l2]/\H1 l1=some (dJ t1 xs)/\H1 l2=some (dJ t2 ys)/\R (Itz t1 t2 l1 l2) H1
def far(n a b:Nat)(h:a≠b):n+a≠n+b:=fun q=>h (Nat.add_left_cancel q)
def y9:bootBuiltins "zip" = some (.type "zip"):=by decide +kernel
def G8(hg:Gl X "zip")(hm:X.mg "zip" = none)(ha:PA X [a,b] ta)(hs:starEach [a,b] X.env=[(false,eval a X.env),(false,eval b X.env)])(hs2:starEach [b] X.env=[(false,eval b X.env)]):PI' (fun _=>True) X (.Tuple elts kx tp) (.Call (.Name "zip" p) [a,b] [] pos) (JN ta):=by
 intro pins s0 Y H0 R I0 h;refine Call_ (il I0 hg hm y9 (PyProof.Rows.callWith_type1 (thn (ha pos pins s0 Y H0 _ I0 h) fun us s ⟨vs,H,I,r1,q1⟩=>?_) (by rw[hs,hs2]) (by rw[hs2];rfl)) ∅ ∅);obtain⟨t1,t2,l1,l2,xs,ys,rfl,hx,hy,q⟩:=q1
 cases r1 with
 |cons r rr=>
  cases rr with
  |cons r2 rr=>
   cases rr;cases r;cases r2;have I1:Inv X pins Y H { s with heap:=s.heap.push (dh t1.tp l1) }:=I.kept (t':=s.toks) fun b o e=>QU _ e
   refine C6 (S1:=fun it z1=>it=s.heap.objs.size/\z1={ s with heap:=s.heap.push (dh t1.tp l1) }) (S2:=fun it jt z2=>it=s.heap.objs.size/\jt=(s.heap.push (dh t1.tp l1)).objs.size/\z2={ s with heap:=(s.heap.push (dh t1.tp l1)).push (dh t2.tp l2) })
    (fun A=>rF I hx ⟨_,rfl,rfl,rfl⟩) (fun it z1 h1 A=>?_) fun it jt z2 h2=>?_
   ·obtain⟨rfl,rfl⟩:=h1;exact rF I1 hy ⟨_,rfl,rfl,rfl,rfl⟩
   ·obtain⟨rfl,rfl,rfl⟩:=h2;have z1:(s.heap.push (dh t1.tp l1)).objs.size=s.heap.objs.size+1:=Zk ..;generalize e1:s.heap.push (dh t1.tp l1)=g1 at *
    have p1:g1.get? s.heap.objs.size=some (dh t1.tp l1):=by
     rw[<-e1];exact QX _ (by cases t1<;>rfl)
    have k1:∀ b o,s.heap.get? b=some o->g1.get? b=some o:=fun b o e=>by rw[<-e1];exact QU _ e
    have z2:(g1.push (dh t2.tp l2)).objs.size=s.heap.objs.size+2:=by rw[Zk,z1]
    have p2:(g1.push (dh t2.tp l2)).get? (s.heap.objs.size+1)=some (dh t2.tp l2):=by
     rw[<-z1];exact QX _ (by cases t2<;>rfl)
    have k2:∀ b o,g1.get? b=some o->(g1.push (dh t2.tp l2)).get? b=some o:=fun b o e=>QU _ e;generalize e2:g1.push (dh t2.tp l2)=g2 at *;dsimp only;rw[z1]
    have z3:(g2.push { cls:=.type "tuple",data:=.seq (List.toArray [.ref s.heap.objs.size,.ref (s.heap.objs.size+1)]) }).objs.size=s.heap.objs.size+3:=by rw[Zk,z2]
    have p3:(g2.push { cls:=.type "tuple",data:=.seq (List.toArray [.ref s.heap.objs.size,.ref (s.heap.objs.size+1)]) }).get? (s.heap.objs.size+2)=some { cls:=.type "tuple",data:=.seq (List.toArray [.ref s.heap.objs.size,.ref (s.heap.objs.size+1)]) }:=by
     rw[<-z2];exact QX _ rfl
    have k3:∀ b o,g2.get? b=some o->(g2.push { cls:=.type "tuple",data:=.seq (List.toArray [.ref s.heap.objs.size,.ref (s.heap.objs.size+1)]) }).get? b=some o:=fun b o e=>QU _ e;rw[z2];generalize e3:g2.push { cls:=.type "tuple",data:=.seq (List.toArray [.ref s.heap.objs.size,.ref (s.heap.objs.size+1)]) }=g3 at *;rw[z3]
    have z4:(g3.push { cls:=.type "tuple",data:=.seq (List.toArray [.none,.none]) }).objs.size=s.heap.objs.size+4:=by rw[Zk,z3]
    have p4:(g3.push { cls:=.type "tuple",data:=.seq (List.toArray [.none,.none]) }).get? (s.heap.objs.size+3)=some { cls:=.type "tuple",data:=.seq (List.toArray [.none,.none]) }:=by
     rw[<-z3];exact QX _ rfl
    have k4:∀ b o,g3.get? b=some o->(g3.push { cls:=.type "tuple",data:=.seq (List.toArray [.none,.none]) }).get? b=some o:=fun b o e=>QU _ e;generalize e4:g3.push { cls:=.type "tuple",data:=.seq (List.toArray [.none,.none]) }=g4 at *;rw[z4]
    have p5:(g4.push { cls:=.type "zip",data:=.fields (List.toArray [.none,.bool false,.bool false,.ref (s.heap.objs.size+2),.ref (s.heap.objs.size+3)]) }).get? (s.heap.objs.size+4)=some { cls:=.type "zip",data:=.fields (List.toArray [.none,.bool false,.bool false,.ref (s.heap.objs.size+2),.ref (s.heap.objs.size+3)]) }:=by
     rw[<-z4];exact QX _ rfl
    have k5:∀ b o,g4.get? b=some o->(g4.push { cls:=.type "zip",data:=.fields (List.toArray [.none,.bool false,.bool false,.ref (s.heap.objs.size+2),.ref (s.heap.objs.size+3)]) }).get? b=some o:=fun b o e=>QU _ e;generalize e5:g4.push { cls:=.type "zip",data:=.fields (List.toArray [.none,.bool false,.bool false,.ref (s.heap.objs.size+2),.ref (s.heap.objs.size+3)]) }=g5 at *
    refine wpAny_pyIter_zip (TI:=s.heap.objs.size+2) (TO:=s.heap.objs.size+3) (f0:=.none) p5 ⟨s.heap.objs.size+4,[s.heap.objs.size+4,s.heap.objs.size+2,s.heap.objs.size+3,s.heap.objs.size,s.heap.objs.size+1],_,Itz t1 t2 l1 l2,H,rfl,I.kept (t':=s.toks) fun b o e=>k5 _ _ (k4 _ _ (k3 _ _ (k2 _ _ (k1 _ _ e)))),Bc (far _ 2 4 ∅) (far _ 3 4 ∅) (far _ 2 3 ∅) (far _ 0 4 ∅) (far _ 1 4 ∅) (far _ 0 3 ∅) (far _ 1 3 ∅) (far _ 0 1 ∅) (far _ 0 2 ∅) (far _ 1 2 ∅),
     ⟨p5,k5 _ _ (k4 _ _ p3),⟨_,_,k5 _ _ p4⟩,r9 (k5 _ _ (k4 _ _ (k3 _ _ (k2 _ _ p1)))),r9 (k5 _ _ (k4 _ _ (k3 _ _ p2)))⟩,fun b hb=>?_,q⟩
    have hb':s.heap.objs.size<=b:=by
     simp only[List.mem_cons,List.mem_nil_iff,or_false]at hb
     rcases hb with rfl | rfl | rfl | rfl | rfl<;>first | exact QV _ | exact Nat.le_add_right _ _
    exact I.pG hb' (I.hok.fresh hb')
end
end L2
namespace RS
open PySem PySem.Spec PyProof.Rows L2
def kD:∀ (ds es:List RL.D),ds.length=es.length->(RL.eO ds es).length=ds.length
 | [],[],_=>rfl
 | [],_::_,h=>by cases h
 | _::_,[],h=>by cases h
 | d::ds,e::es,h=>by rw[RL.eO,List.length_cons,List.length_cons,kD ds es (by simpa using h)]
def tH:∀ (ds es:List RL.D) (i:Nat) (d:RL.D),(RL.eO ds es)[i]?=some d->∃ x y,ds[i]?=some x/\es[i]?=some y/\d=.tup [x,y]
 | [],es,i,d,h=>by cases es<;>simp[RL.eO]at h
 | _::_,[],i,d,h=>by simp[RL.eO]at h
 | x::ds,y::es,0,d,h=>by simp[RL.eO]at h;exact#[x,y,rfl,rfl,h.symm]
 | x::ds,y::es,i+1,d,h=>by
  rw[RL.eO,List.getElem?_cons_succ]at h;obtain⟨x',y',h1,h2,h3⟩:=tH ds es i d h;exact#[x',y',by simpa using h1,by simpa using h2,h3]
def xF{K:W.Frag}(hl:ds.length=es.length)(h1:H l1=some (dJ t1 xs))(h2:H l2=some (dJ t2 ys))(n1:¬ P l1)(n2:¬ P l2)(r1:ae nP K H ds xs)(r2:ae nP K H es ys)(hm:∀ b o,P b->H b=some o->cS o) :
  jw K (Itz t1 t2 l1 l2) (RL.eO ds es) P H where
 go:=fun H' i k hi=>by
  rw[kD ds es hl]at hi;obtain⟨x,e,_⟩:=r1.get (i:=i) (d:=ds[i]) (by simp[hi]);obtain⟨y,e',_⟩:=r2.get (i:=i) (d:=es[i]'⋯) (by simp);exact#[xs,ys,x,y,k _ _ n1 h1,k _ _ n2 h2,e,e']
 stop:=fun H' k=>#[xs,ys,k _ _ n1 h1,k _ _ n2 h2,by rw[kD ds es hl,r1.length],by rw[kD ds es hl,hl,r2.length]]
 yld:=fun H' i d v H2 k e y=>by
  obtain⟨p,x,w,hp,rfl,rfl,hx,hw⟩:=y;obtain⟨dx,dw,g1,g2,rfl⟩:=tH ds es i d e;obtain⟨x',g3,g4⟩:=r1.get g1;obtain⟨w',g5,g6⟩:=r2.get g2;rw[hx xs (k _ _ n1 h1)]at g3;rw[hw ys (k _ _ n2 h2)]at g5;cases g3;cases g5;refine#[a6.bP hp,fun q=>?_]
  have re:Rep nP K H' dx x/\Rep nP K H' dw w:=by
   rcases q with q | q
   ·have q:(dx.imm&&(dw.imm&&true))=true:=q;rw[Bool.and_true,Bool.and_eq_true]at q;exact#[gc hm k g4 q.1,gc hm k g6 q.2]
   ·exact#[g4.same q,g6.same q]
  rw[Rep];exact#[p,[x,w],rfl,bp,ae.cons (re.1.same (a6.bP hp)) (ae.cons (re.2.same (a6.bP hp)) ae.nil)]
def pQ{P:Addr->Prop}{K:W.Frag}(h:RL.items d=some ds)(r:Rep P K H d v):∃ t l xs,v=.ref l/\H l=some (dJ t xs)/\ae P K H ds xs/\(t=.l->d=.lst ds):=by
 obtain⟨p,xs,rfl,hp,rs⟩:=eP h r
 rcases hp with⟨q,rfl⟩ | ⟨q,rfl⟩ | ⟨⟨o,q⟩,rfl⟩
 ·exact#[.l,p,xs,rfl,q,rs,fun _=>rfl]
 ·exact⟨.t,p,xs,rfl,q,rs,fun z=>by cases z⟩
 ·exact⟨.f o,p,xs,rfl,q,rs,fun z=>by cases z⟩
section rules
def HU(hg:Gl X "zip")(hm:X.mg "zip" = none)(ha:SE X cl a a')(hb:SE X cl b b')(hn:noStar a=true)(hn2:noStar b=true):PI' (fun _=>True) X (.Tuple elts kx tp) (.Call (.Name "zip" p) [a,b] [] pos) (tI X.K cl (.zip a' b')):=by
 intro pins s Y H R I h;obtain⟨Zy,ds,rv,e,k⟩:=h;k_in;obtain⟨y,eb,e⟩:=bind_some e;obtain⟨xs,e1,e⟩:=bind_some e;obtain⟨ys,e2,e⟩:=bind_some e;split at e
 ·rename_i hl;cases e;have hpa:PA X [a,b] (gQ (tE X.K cl a') (gQ (tE X.K cl b') pz)):=bH ha (bH hb d5 (a8 [] hn2)) (a8 _ hn);refine G8 hg hm hpa (by rw[a8 _ hn,a8 _ hn2];rfl) (a8 [] hn2) pins s Y H R I ?_;refine#[Zy,x,rv,ea,fun v H1 r1=>#[Zy,y,rv.same r1.same,eb,fun u H2 r2=>?_]];obtain⟨t1,l1,vs,rfl,h1,p1,c1⟩:=pQ e1 (r1.rep.same r2.same);obtain⟨t2,l2,us,rfl,h2,p2,c2⟩:=pQ e2 r2.rep;refine#[t1,t2,l1,l2,vs,us,rfl,h1,h2,k _ _ (r1.same.trans r2.same) #[xF hl h1 h2 (fun z=>z) (fun z=>z) p1 p2 gz,fun M P z hP av=>?_]];have hP2:=eo (r1.same.trans r2.same) hP;unfold RL.vZ at z;rw[Bool.and_eq_true]at z
  have notT:∀ (t:SK) l zs,H2 l=some (dJ t zs)->t≠.l->¬ P l:=fun t l zs hl ht q=>by
   cases t with
   | l=>exact ht rfl
   | _=>rcases hP2 l _ q hl with⟨_,q⟩ | ⟨_,q⟩ | ⟨_,q⟩<;>cases q
  refine xF hl h1 h2 ?_ ?_ p1 p2 hP2
  ·by_cases ht:t1=.l
   ·exact nU r1 z.1 hP av _ _ (c1 ht) rfl
   ·exact notT t1 l1 vs h1 ht
  ·by_cases ht:t2=.l
   ·refine nU r2 z.2 (fun b q=>?_) (fun j dj vj hj h3 h4=>(av j dj vj hj h3 h4).same r1.same) _ _ (c2 ht) rfl;obtain⟨o,ho,hmu⟩:=hP b q;exact#[o,r1.same _ _ ho,hmu]
   ·exact notT t2 l2 us h2 ht
 ·cases e
end rules
end RS
namespace L2
open PySem PySem.Spec PyProof.Rows
def pT(xs:List α):∀ k:Nat,k<=xs.length->((List.range k).map fun(j:Nat)=>(((xs.length:Int)-1)+(-1)*(j:Int)).toNat).filterMap (xs.toArray[·]?)=xs.reverse.take k:=by
 intro k
 induction k with
 | zero=>intro _;simp
 |succ k ih=>
  intro hk;rw[List.range_succ,Zm,List.filterMap_append,ih ⋯,List.take_succ];congr 1
  have e1:(((xs.length:Int)-1)+(-1)*(k:Int)).toNat=xs.length-1-k:=by lia
  simp only[List.map_cons,List.map_nil,List.filterMap_cons,List.filterMap_nil,e1];rw[List.getElem?_reverse ⋯];simp only[List.getElem?_toArray];rw[List.getElem?_eq_getElem (by omega)];rfl
def Az(its:List Value):slicePick its.toArray none none (some (-1))=its.reverse.toArray:=by
 have h:=pT its its.length (QV _);rw[List.take_of_length_le (by simp)]at h;unfold slicePick
 have hb:sliceBounds none none (some (-1)) its.toArray.size=((its.length:Int)-1,-1,-1):=by
  simp[sliceBounds]
 rw[hb];dsimp only;unfold sliceRange
 have hc:(if(-1:Int) > 0 then(if(its.length:Int)-1 < -1 then(-1-((its.length:Int)-1)+-1-1) / -1 else 0)else(if(its.length:Int)-1 > -1 then((its.length:Int)-1 - -1 - -1-1) / (- -1)else 0)).toNat=its.length:=by
  rw[if_neg ∅];rw[show(- -1:Int)=1 from rfl];split
  ·rw[Int.ediv_one];lia
  ·lia
 dsimp only;rw[hc,h]
section
def yg(n:Nat):Builtin.Slice.sliceAdjust none none (-1) (n:Int)=((n:Int)-1,-1):=by
 unfold Builtin.Slice.sliceAdjust;rfl
def vX(n:Nat):Builtin.Slice.slicePlaces ((n:Int)-1) (-1) (-1)=n:=by
 unfold Builtin.Slice.slicePlaces;rw[if_neg ∅];rw[show(- -1:Int)=1 from rfl];split
 ·rw[Int.ediv_one];lia
 ·lia
def m4{prog:Program}{w:World}{A:Around}{E:Value->Shared->Prop}{s:Shared}{t sl:Addr}{its:List Value}{k:Tok}{Q:Value->Shared->Prop}(ht:IsTup s.heap t its.toArray)(hs:s.heap.IsSliceOf sl .none .none (.int (-1) k))
 (h:Q (.ref s.heap.objs.size) { s with heap:=s.heap.push { cls:=.type "tuple",data:=.seq its.reverse.toArray } })
 (hsz:its.length<=sizeLine):wpAny (model prog w) A (getItem (.ref t) (.ref sl)) Q E s:=by
 have htake:sizeOk (.seq its.reverse.toArray):=by
  show its.reverse.toArray.size<=sizeLine;rw[List.size_toArray,List.length_reverse];exact hsz
 obtain⟨os,hos,hcs,hds⟩:=id hs
 have hTs:s.TypeIs (.ref sl) "slice" := #[os,hos,hcs]
 unfold getItem
 try with_reducible refine wpAny_holding ?_
 first | refine QT (QW ?_) | skip
 refine QT (wpAny_sequenceKey ht.typeIs ∅ ?_)
 refine QT (wpAny_callSpecial?_slot (name:=Str.ofString "__getitem__") ht.typeIs PyProof.Rows.slot_tuple_getitem
  (wpAny_call_entry PyProof.Rows.slot_tuple_getitem ht.typeIs entry_tuple_getitem ?_ (args_tuple_getitem _ _)))
 show wpAny _ _ (Builtin.Tuple.tupleItemsOf (.ref t) >>= _) _ _ s;refine QT (tupleItemsOf_ ht ?_);refine QT (wpAny_typeOf hTs ?_);rw[if_pos ∅];refine QT ?_;unfold Builtin.Slice.sliceApplied Builtin.Slice.sliceFields;refine QT (QT (wpAny_field hos hds (x:=.none) rfl (QT (wpAny_field hos hds (x:=.none) rfl (QT (wpAny_field hos hds (x:=.int (-1) k) rfl (QW ?_)))))));refine QT (HT.fv (.int (-1) k) ?_);show wpAny _ _ (if((-1:Int) == 0)=true then _ else _) _ _ s;rw[if_neg ∅];refine QT (HT.fv .none (QT (HT.fv .none (QT (QW ?_)))));show wpAny _ _ (match Builtin.Slice.sliceAdjust none none (-1) (its.toArray.size:Int)with | (lo,hi)=>pure (lo,(-1:Int),Builtin.Slice.slicePlaces lo hi (-1))) _ _ s;rw[List.size_toArray,yg];show wpAny _ _ (pure ((its.length:Int)-1,(-1:Int),Builtin.Slice.slicePlaces ((its.length:Int)-1) (-1) (-1))) _ _ s;rw[vX];refine QW ?_;show wpAny _ _ (if(((its.length:Int)-1 == 0)&&(-1:Int) == 1&&its.length == its.toArray.size)=true then _ else _) _ _ s;rw[if_neg (by rw[show((-1:Int) == 1)=false from rfl,Bool.and_false,Bool.false_and];exact Q3)]
 have pk:((List.range its.length).filterMap fun(m:Nat)=>its.toArray[((its.length:Int)-1+(m:Int)*-1).toNat]?).toArray=its.reverse.toArray:=by
  have h:=pT its its.length (QV _);rw[List.take_of_length_le (by simp),List.filterMap_map]at h;rw[<-h];congr 2;funext m;simp only[Function.comp];congr 2;lia
 rw[pk]
 first
  | exact QT (m:=Builtin.Tuple.tupleExact _) (wpAny_newObj_type (QW ⟨_,rfl,QW h⟩) htake)
  | exact QT (m:=Builtin.Tuple.tupleExact _) (wpAny_newObj_type (QT (QW (QW ⟨_,rfl,QW h⟩))) htake)
  | exact QT (QT (m:=Builtin.Tuple.tupleExact _) (wpAny_newObj_type (QW (QW ⟨_,rfl,QW h⟩)) htake))
  | exact QT (QT (m:=Builtin.Tuple.tupleExact _) (wpAny_newObj_type (QW ⟨_,rfl,QW h⟩) htake))
abbrev Jn(K:W.Frag)(te:TE):TE:=fun Y H Q=>te Y H fun x H1=>∃ a xs,x=.ref a/\((SqL K H1 a xs/\∀ p,H1 p=none->Q (.ref p) (upd H1 p (.lst xs.reverse)))\/(SqT K H1 a xs/\∀ p,H1 p=none->Q (.ref p) (upd H1 p (.tup xs.reverse))))
def Ht(h3:PE X e3 (tC (.int (-1))))(he:PE X e te):PE X (.Subscript e (.Slice none none (some e3) p2) pos) (Jn X.K te):=by
 k_ne;refine Subscript_ (thn (he pins s Y H _ I h) fun v s1 ⟨x,H1,I1,r1,q1⟩=>?_);refine wpAny_Slice ?_;rw[evalPart_none];refine QW (QW ?_);rw[evalPart_some];refine thn (h3 pins s1 Y H1 (fun y H2=>y=.int (-1)/\H2=H1) I1 ⟨rfl,rfl⟩) fun vs s3 ⟨y,H3,I3,r3,q3⟩=>?_;obtain⟨rfl,rfl⟩:=q3;obtain⟨t,rfl⟩:=r3;obtain⟨a,xs,rfl,q⟩:=q1;cases r1;have I4:Inv X pins Y H3 { s3 with heap:=s3.heap.push { cls:=.type "slice",data:=.fields (List.toArray [.none,.none,.int (-1) t]) } }:=I3.kept (t':=s3.toks) fun b ob q=>QU _ q;show wpAny (model X.prog X.w) X.A (subscriptTail e (.Slice none none (some e3) p2) (.ref a) (.ref s3.heap.objs.size)) (EP X pins Y Q) X.xe { s3 with heap:=s3.heap.push { cls:=.type "slice",data:=.fields (List.toArray [.none,.none,.int (-1) t]) } }
 rcases q with⟨hx,q⟩ | ⟨hx,q⟩
 ·obtain⟨its,r,ht,hz⟩:=I4.list hx;have hlen:=r.length;refine tail_any (ops:=[.ref a,.ref s3.heap.objs.size]) ht.isList.typeIs slot_list_getitem.lookup ?_ (by with_unfolding_all rfl);refine wpAny_getItem_list_slice ht.isList (Heap.IsSliceOf.new ..) .none .none (.int (-1) t) (by simp) ?_ (by rw[List.size_toArray]<;>lia);rw[Az];refine#[.ref _,_,I4.laid (t':=s3.toks) (o:=.lst xs.reverse) (fun b ob q=>QU _ q) (QV _) ?_,rfl,q _ (I4.hok.fresh (QV _))];exact#[by rw[List.length_reverse];exact hz,_,0,r.reverse,QX _ rfl]
 ·obtain⟨its,r,ht,hz⟩:=I4.tuple hx;have hlen:=r.length;refine tail_any (ops:=[.ref a,.ref s3.heap.objs.size]) ht.typeIs PyProof.Rows.slot_tuple_getitem.lookup ?_ (by with_unfolding_all rfl);refine m4 ht (Heap.IsSliceOf.new ..) ?_ ⋯;refine#[.ref _,_,I4.laid (t':=s3.toks) (o:=.tup xs.reverse) (fun b ob q=>QU _ q) (QV _) ?_,rfl,q _ (I4.hok.fresh (QV _))];exact#[by rw[List.length_reverse];exact hz,_,r.reverse,IsTup.new _ _]
end
end L2
namespace RS
open PySem PySem.Spec PyProof.Rows L2
section
def Fg(ha:SE X cl a a')(h3:fG (-1) e3=true):SE X cl (.Subscript a (.Slice none none (some e3) p2) pos) (.rev a'):=by
 refine PE.weak (Ht (jO h3).1 ha) fun Y H Q h=>?_;fin2;k_in;refine#[Zy,x,rv,ea,fun v H1 r1=>?_]
 cases x with
 |lst xs=>
  cases e;obtain⟨q,ys,rfl,_,f2,f3⟩:=aE r1.rep;exact#[q,ys,rfl,.inl #[SqL.of f2,fun l hl=>k _ _ (fh r1.same hl f3.rev fun _=>rfl)]]
 |tup xs=>
  cases e;obtain⟨q,ys,rfl,f2,f3⟩:=bo r1.rep;exact#[q,ys,rfl,.inr #[SqT.of f2,fun l hl=>k _ _ (eQ r1.same hl f3.rev fun _=>rfl)]]
 | _=>cases e
def Ad{c:Expr}{body:List Stmt}{b:RL.Ss}(hx:X.xe=fun _ _=>False)(hc:ST X cl c c')(hb:SSs X cl M body b):SS X cl M (.While c body [] pos) (.whil c' b):=by
 refine PS.weak (zH (by rw[hx];exact PassesOwn.never) hc hb) fun D Y H h=>?_;obtain⟨Zy,r,ZD,rv,e,k⟩:=h;refine#[fun m ZC H2=>∃ ZF,RVm X.K M ZF ZC H2/\Fr' M Y H ZC H2/\RL.whF (fun Y=>(RL.ev cl Y c').bind RL.truth) (RL.ao cl M b) m ZF=some (r,ZD),#[_,Zy,rv,Fr'.same (a6.refl _),e],?_];rintro m ZC H2 ⟨ZF,rv2,fr2,hl⟩
 cases m with
 | zero=>rw[RL.whF]at hl;cases hl
 |succ m=>
  rw[RL.whF]at hl;obtain⟨t,e1,hl⟩:=bind_some hl;refine#[ZF,t,rv2.rv0,e1,fun H3 s3=>?_];have fr3:=fr2.trans (Fr'.same (M:=M) (Y:=ZC) s3)
  cases t with
  |true=>
   rw[if_pos rfl]at hl;dsimp only;rw[if_pos rfl];obtain⟨⟨o,ZM⟩,e2,hl⟩:=bind_some hl;refine#[fun Zz H'=>∃ m',m'<m+1/\∃ ZN,RVm X.K M ZN Zz H'/\Fr' M Y H Zz H'/\RL.whF (fun Y=>(RL.ev cl Y c').bind RL.truth) (RL.ao cl M b) m' ZN=some (r,ZD),fun _ _ h=>h,ZF,o,ZM,rv2.same s3,e2,?_]
   cases o with
   | nx=>exact fun Zz H' rv' fr'=>#[m,by lia,ZM,rv',fr3.trans fr',hl]
   |rt d=>
    cases hl;exact fun Zz H' v H4 rv' fr' sm rp=>k Zz H' v H4 rv' (fr3.trans fr') sm rp
  |false=>
   rw[if_neg ∅]at hl;dsimp only;rw[if_neg ∅];cases hl;exact k ZC H3 (rv2.same s3) fr3
end
end RS
namespace L2
open PySem PySem.Spec PyProof.Rows
section
def pR:∀ {ns:List Int} {us:List Value},Vals (ns.map V.int) us->IntsAre us ns
 | [],_,.nil=>.nil
 | n::r,_,.cons ⟨t,e⟩ h=>by
  subst e;exact .cons _ _ (pR h)
end
section
end
end L2
namespace RS
open PySem PySem.Spec PyProof.Rows L2
section
end
def DT:swappedStores [.Tuple [.Subscript o1 k1 p1,.Subscript o2 k2 p2] kt pt] (.Tuple [a,b] k pt2) env=pure none:=by
 unfold swappedStores;dsimp only;split
 ·rfl
 ·split
  ·rfl
  ·rfl
section
variable{st:Stmt}
def Dr(h:PS X st (oV (GJ (gQ (tE X.K cl a') (gQ (tE X.K cl b') pz))) (mX X.K 2 (qS (uh (gK i) (tE X.K cl k') nX) (qS (uh (gK i) (tE X.K cl l') nX) AR)))))(hi:M.contains i=true):SS X cl M st (.put2 i k' l' a' b'):=by
 refine PS.weak h fun D Y H h=>?_;k_all;obtain⟨x,e1,e⟩:=bind_some e;obtain⟨y,e2,e⟩:=bind_some e;split at e
 ·rename_i him;rw[Bool.and_eq_true]at him;obtain⟨kk,e3,e⟩:=bind_some e;obtain⟨c,e4,e⟩:=bind_some e
  cases c with
  |lst ds=>
   dsimp only at e;obtain⟨c1,e5,e⟩:=bind_some e
   cases kk with
   |int kk=>
    obtain⟨jx,e6,e7⟩:=map_some (show(RL.jY ds.length kk).map (fun j=>RL.D.lst (ds.set j x))=some c1 from e5);subst e7;obtain⟨ll,e8,e⟩:=bind_some e;obtain⟨c2,e9,e⟩:=map_some e;cases e
    cases ll with
    |int ll=>
     obtain⟨jy,f6,f7⟩:=map_some (show(RL.jY (ds.set jx x).length ll).map (fun j=>RL.D.lst ((ds.set jx x).set j y))=some c2 from e9);subst f7;obtain⟨v,h1,h2⟩:=rv.val i _ (slot_get e4);rw[if_pos hi]at h2;obtain⟨q1,q2,q3⟩:=h2;obtain⟨a,xs,rfl,_,f2,f3⟩:=aE q3;refine#[Zy,x,rv.rv0,e1,fun vx H1 r1=>#[Zy,y,rv.rv0.same r1.same,e2,fun vy H2 r2=>#[by show 2<=sizeLine;decide,fun p hp=>?_]]];have s3:a6 H2 (upd H2 p (.tup [vx,vy])):=a6.bP hp;have sm:=(r1.same.trans r2.same).trans s3;refine#[p,[vx,vy],rfl,SqT.of bp,rfl,vx,[vy],rfl,.ref a,h1,Zy,.int kk,rv.rv0.same sm,e3,fun z H4 r4=>?_];have sm4:=sm.trans r4.same;refine#[a,xs,kk,jx,rfl,ak r4.rep,sm4 _ _ f2,?_,?_]
     ·rw[<-f3.length];exact mN e6
     ·have im:=oI jx q2 him.1;have rx:Rep nP X.K H4 x vx:=((r1.rep.same r2.same).same s3).same r4.same;have own1:=hZ (X:=X) (ds:=ds) (sm4 _ _ f2) im (ae.set jx (f3.same sm4) rx);obtain⟨g1,g2⟩:=(rv.same sm4).fC (d':=.lst (ds.set jx x)) (o':=.lst (xs.set jx vx)) hi h1 (sm4 _ _ f2) (.inl #[_,rfl]) own1;refine#[vy,[],rfl,.ref a,h1,_,.int ll,g1.rv0,e8,fun z' H6 r6=>?_];have f2':H6 a=some (.lst (xs.set jx vx)):=r6.same _ _ bp;refine#[a,xs.set jx vx,ll,jy,rfl,ak r6.rep,f2',?_,rfl,?_]
      ·have hl:(xs.set jx vx).length=(ds.set jx x).length:=by rw[List.length_set,List.length_set,f3.length]
       rw[hl];exact mN f6
      ·have im1:RL.aw (ds.set jx x)=true:=im;have im2:=oI jy im1 him.2;have ry:Rep nP X.K H6 y vy:=(((r2.rep.same s3).same r4.same).imm him.2).upd (sm4 _ _ f2) (.inl #[_,rfl]) (P:=fun q=>q=a) rfl |>.imm him.2 |>.same r6.same;obtain⟨m1,m2,m3⟩:=own1.same r6.same;obtain⟨a',ys,e',_,g2',g3'⟩:=aE m3;cases e';rw[f2']at g2';cases g2';have own2:=hZ (X:=X) (ds:=ds.set jx x) f2' im2 (ae.set jy g3' ry);obtain⟨g5,g6⟩:=(g1.same r6.same).fC (d':=.lst ((ds.set jx x).set jy y)) (o':=.lst ((xs.set jx vx).set jy vy)) hi h1 f2' (.inl #[_,rfl]) own2;exact k _ _ g5 ((((Fr'.same sm4).trans g2).trans (Fr'.same r6.same)).trans g6)
    | _=>cases e9
   | _=>cases e5
  | _=>cases e
 ·cases e
end
section
variable{X:Cx}
end
end RS
namespace L2
open PySem PySem.Spec PyProof.Rows
end L2
namespace RS
open PySem PySem.Spec PyProof.Rows L2
end RS
namespace L2
open PySem PySem.Spec PyProof.Rows
section
variable{prog:Program}{w:World}{A:Around}{E:Value->Shared->Prop}{s:Shared}
end
end L2
namespace RS
open PySem PySem.Spec PyProof.Rows L2
end RS
namespace L2
open PySem PySem.Spec PyProof.Rows
end L2
namespace RS
open PySem PySem.Spec PyProof.Rows L2
end RS
namespace L2
open PySem PySem.Spec PyProof.Rows
end L2
namespace RS
open PySem PySem.Spec PyProof.Rows L2
section
open PySem.Builtin.Str
end
section
variable{X:Cx}{cl:RL.Cl}{a b:Expr}{a' b' e':RL.E}{pos p2:Pos}{M:List Nat}{st:Stmt}{i:Nat}
end
section
variable{X:Cx}{cl:RL.Cl}{a b c d:Expr}{a' b' c' d':RL.E}{pos apos p p2 p3:Pos}
end
section
open PySem.W
variable{prog:Program}{w:World}{A:Around}{E:Value->Shared->Prop}{s:Shared}
variable{vs:List Value}{xs:List Str}
end
variable{X:Cx}
section
variable{K:W.Frag}
end
section
variable{X:Cx}{M N1:List Nat}{st:Stmt}{sts:List Stmt}{j:Nat}
end
section
variable{X:Cx}
variable{M:List Nat}{st:Stmt}{i:Nat}{cl:RL.Cl}
end
section
variable{bt:Bool}{t:SetTable}{m:Nat}
end
section
variable{prog:Program}{w:World}{A:Around}{E:Value->Shared->Prop}{s:Shared}
end
section
variable{prog:Program}{w:World}{A:Around}{E:Value->Shared->Prop}{s:Shared}
variable{R:Result->Shared->Prop}{I:Addr}{fp wr:List Addr}{G:Array GenState->Array GenState->Prop}{n:Nat}{P:Nat->Value->Prop}{St:Nat->Shared->Prop}
end
section
variable{prog:Program}{w:World}{A:Around}{E:Value->Shared->Prop}{s:Shared}{S I:Addr}{o:Obj}{es:Array (Int × Value)}{ep m i j:Nat}{t:SetTable}
end
section
variable{prog:Program}{w:World}{A:Around}{E:Value->Shared->Prop}{s:Shared}{S I:Addr}{o:Obj}{es:Array (Int × Value)}{ep m i j:Nat}{t:SetTable}
end
section
variable{X:Cx}
end
open Sem (wp)
section
variable{prog:Program}{w:World}{A:Around}{E:Value->Shared->Prop}{s:Shared}{it d:Addr}{es:Array DictEntry}{ep i:Nat}
end
end RS
namespace L2
open PySem PySem.Spec PyProof.Rows
end L2
namespace RS
open PySem PySem.Spec PyProof.Rows L2
end RS
namespace L2
open PySem PySem.Spec PyProof.Rows
section
variable{X:Cx}
def Gi{e:Expr}{t t':TE}(h:PE X e t')(w:∀ Y H Q,t Y H Q->t' Y H fun v H1=>∃ p xs,v=.ref p/\H1 p=some (.lst xs)/\∀ o,Q (.ref p) (upd H1 p (.frz o (.lst xs)))):PE X e t:=by
 intro pins s Y H Q I q;refine thn (h pins s Y H _ I (w Y H Q q)) fun v s1 ⟨x,H1,I1,r1,p,xs,e1,hH,k⟩=>?_;subst e1;obtain⟨z,its,n,r,g⟩:=I1.hok p _ hH;have I':Inv X pins Y (upd H1 p (.frz _ (.lst xs))) { s1 with heap:=s1.heap,toks:=s1.toks }:=I1.write (x:=p) (e:=p) (h':=s1.heap) (t':=s1.toks) (by rw[hH];trivial) (.inl rfl) (fun b u _ e=>e) ⟨_,g⟩ ⟨g,z,its,n,r,g⟩;exact#[.ref p,_,I',r1,k _]
end
end L2
namespace RS
open PySem PySem.Spec PyProof.Rows L2
section
variable{X:Cx}{cl:RL.Cl}{a b:Expr}{a' b':RL.E}
def E8(ha:SE X cl a a'):SE X cl a (.frz a'):=by
 refine Gi ha fun Y H Q h=>?_;fin2;obtain⟨x,ea,e⟩:=bind_some (show(RL.ev cl Zy a').bind _=some d from e);refine#[Zy,x,rv,ea,fun v H1 r1=>?_];by_cases tf:RL.aC a'=true
 ·rw[if_pos tf]at e
  cases x with
  |lst ds=>
   obtain⟨im,rfl⟩:=bM (show(if RL.aw ds=true then some (RL.D.fL ds)else none)=some d from e);obtain⟨p,xs,rfl,_,hH,rs⟩:=aE r1.rep;have fr:=r1.fresh tf rfl p rfl;refine#[p,xs,rfl,hH,fun o=>k _ _ (bZ ?_ ?_ im)]
   ·intro b ob eb;rw[aV (aO eb fr)];exact r1.same _ _ eb
   ·rw[Rep];exact#[p,o,xs,rfl,bp,(ae.upd (P:=fun q=>q=p) hH (.inl #[_,rfl]) rfl (rs.imm im)).imm im]
  | _=>cases e
 ·rw[if_neg tf]at e;cases e
end
section
variable{prog:Program}{w:World}{A:Around}{R:Result->Shared->Prop}{I S:Addr}{fp wr:List Addr}{n:Nat}{P:Nat->Value->Prop}{St:Nat->Heap->Prop}{Ok:Heap->Prop}{bt:Nat->Nat->Bool}
end
section
variable{prog:Program}{w:World}{A:Around}{E:Value->Shared->Prop}{s:Shared}
end
end RS
namespace L2
open PySem PySem.Spec PyProof.Rows
section
variable{X:Cx}
end
end L2
namespace RS
open PySem PySem.Spec PyProof.Rows L2
section
variable{X:Cx}{cl:RL.Cl}{a b:Expr}{a' b':RL.E}{p pos:Pos}
end
section
variable{prog:Program}{w:World}{A:Around}{E:Value->Shared->Prop}{s:Shared}{I t:Addr}{items:Array Value}
end
end RS
namespace L2
open PySem PySem.Spec PyProof.Rows
section
variable{X:Cx}
abbrev GDc(X:Cx)(d:Addr)(kvs:List (Str × Addr)):Prop:=(d == sysModules)=false/\∀ h:Heap,X.K.In h->h.DictOf (bQ X.prog X.w) d (kvs.map fun q=>((Sum.inr q.1:Key),Value.ref q.2))
end
end L2
namespace RS
open PySem PySem.Spec PyProof.Rows L2
section
variable{X:Cx}{cl:RL.Cl}{a b e:Expr}{a' b' e':RL.E}{p pos:Pos}{M:List Nat}{st:Stmt}{i j:Nat}
def CS(h:PS X st (A8 i j (gQ (tE X.K cl a') (gQ (tE X.K cl b') pz))))(hi:M.contains i=false)(hj:M.contains j=false):SS X cl M st (.parL i j a' b'):=by
 refine PS.weak h fun D Y H h=>?_;k_all;obtain⟨x,e1,e⟩:=bind_some e;obtain⟨y,e2,e⟩:=bind_some e;obtain⟨him,e⟩:=bM e;cases e;rw[Bool.and_eq_true,Bool.and_eq_true]at him;obtain⟨im,q1,q2⟩:=him;refine#[Zy,x,rv.rv0,e1,fun v H1 r1=>#[Zy,y,rv.rv0.same r1.same,e2,fun u H2 r2=>#[v,u,rfl,k _ _ ?_ ?_]]]
 ·have rv1:=(rv.same r1.same).bind hi (r1.rep.imm im);refine(rv1.same r2.same).bind hj ?_;have rp:=r2.rep;have fr:l0 y=true->∀ a,u=.ref a->¬ bG M (Y.set i (some v)) a:=fun m a z p=>rv1.oZ a p (r2.fresh q2 m a z)
  cases y with
  | lst ds=>obtain⟨a,xs,e1,e0,e2,e3⟩:=aE rp;rw[Rep];exact#[a,xs,e1,fr rfl a e1,e2,e3.imm q1]
  | dK ks ds=>rw[Rep]at rp ⊢;obtain⟨a,xs,e1,e0,e2,el,e3⟩:=rp;exact#[a,xs,e1,fr rfl a e1,e2,el,e3.imm q1]
  | dT ks ds=>rw[Rep]at rp ⊢;obtain⟨a,xs,e1,e0,e2,el,e3⟩:=rp;exact#[a,xs,e1,fr rfl a e1,e2,el,e3.imm q1]
  | _=>cases q1
 ·exact(Fr'.bind hi r1.same).trans (Fr'.bind hj r2.same)
end
end RS
namespace L2
open PySem PySem.Spec PyProof.Rows
section
variable{prog:Program}{w:World}{A:Around}{E:Value->Shared->Prop}{s:Shared}
def vw{α:Type}(a c:Nat)(h:a<=c):∀ (xs:List α) (j:Nat),((xs.zipIdx j).filterMap fun p=>if(decide ((a:Int)<=(p.2:Int))&&decide ((p.2:Int)<(c:Int))&&((p.2:Int)-(a:Int))%1 == 0)=true then none else some p.1)=xs.take (a-j)++xs.drop (c-j)
 | [],j=>by simp
 | x::xs,j=>by
  have ih:=vw a c h xs (j+1);rw[List.zipIdx_cons,List.filterMap_cons]
  have m:((j:Int)-(a:Int))%1=0:=by omega
  by_cases h1:j<a
  ·have e1:a-j=(a-(j+1))+1:=by omega
   have e2:c-j=(c-(j+1))+1:=by omega
   have hn:¬ ((a:Int)<=(j:Int)):=by omega
   simp only[hn,decide_false,Bool.false_and,Bool.false_eq_true,if_false];rw[ih,e1,e2];rfl
  ·have e1:a-j=0:=by omega
   have e1':a-(j+1)=0:=by omega
   rw[e1']at ih;rw[e1]
   have hp:(a:Int)<=(j:Int):=by omega
   by_cases h2:j<c
   ·have e2:c-j=(c-(j+1))+1:=by omega
    have hq:(j:Int)<(c:Int):=by omega
    simp only[hp,hq,m,decide_true,Bool.true_and,beq_self_eq_true,if_true];rw[ih,e2];rfl
   ·have e2:c-j=0:=by omega
    have e2':c-(j+1)=0:=by omega
    rw[e2']at ih
    have hq:¬ ((j:Int)<(c:Int)):=by omega
    simp only[hp,hq,decide_true,decide_false,Bool.and_false,Bool.false_and,Bool.false_eq_true,if_false];rw[ih,e2];rfl
set_option maxRecDepth 100000 in
def qF{l sl:Addr}{items:Array Value}{n:Nat}{vl vu:Value}{a c:Nat}{Q:Unit->Shared->Prop}
 (e:s.heap.get? l=some { cls:=.type "list",data:=.seq items n })
 (hs:s.heap.IsSliceOf sl vl vu .none)(pl:IsPart vl (some (a:Int)))(pu:IsPart vu (some (c:Int)))(hac:a<=c)(hc:c<=items.size)
 (hsz:items.size<=sizeLine)(h:∀ f:Array Value->Array Value,f items=(items.toList.take a++items.toList.drop c).toArray->Q () { s with heap:=s.heap.update l (Obj.mapSeq f) }) :
  wpAny (model prog w) A (delItem (.ref l) (.ref sl)) Q E s:=by
 have hl:s.heap.IsList l items:=PySem.IsL.isList e;obtain⟨os,hos,hcs,hds⟩:=id hs
 have hTs:s.TypeIs (.ref sl) "slice" := #[os,hos,hcs]
 have hstep:¬ ((rawPart none == rawInt 0)=true):=Q3;refine wpAny_delItem_slot hl.typeIs ∅ PySem.F.slot_list_delitem ?_;refine wpAny_call_entry PySem.F.slot_list_delitem hl.typeIs PySem.F.entry_list_delitem ?_ (PySem.F.args_list_delitem_2 _ _);show wpAny _ _ (Builtin.List.listSubscript? (.ref sl) >>= _) _ _ s;refine QT ?_;unfold Builtin.List.listSubscript?;refine QT (wpAny_specialOf hTs slice_no_index ?_);simp only[Option.isNone_none,if_true];refine QW ?_;show wpAny _ _ (typeOf (.ref sl) >>= _) _ _ s;refine QT (wpAny_typeOf hTs ?_)
 first
  | rw[if_neg ∅]
  | refine W.KFB.if_not ∅ ?_
 rw[listSliceParts_eq];refine QT (QT (wpAny_field hos hds (x:=.none) rfl (QT (wpAny_listPart .none ?_))));rw[if_neg hstep];refine QT (wpAny_field hos hds (x:=vl) rfl (QT (wpAny_listPart pl ?_)));refine QT (wpAny_field hos hds (x:=vu) rfl (QT (wpAny_listPart pu (QW ?_))));unfold Builtin.List.listItems;refine QT (QT (wpAny_seqItems e rfl (QW ?_)));refine QT (wpAny_of_eq ((sliceIndices_raw (some (a:Int)) (some (c:Int)) none items.size (by simp)).trans (congrArg (pure:Int × Int × Int->Sem (Int × Int × Int)) (wm hac hc))) ?_);refine QT (wpAny_rule ?_);have hf:((items.toList.zipIdx.filterMap fun(p:Value × Nat)=>if(decide ((a:Int)<=(p.2:Int))&&decide ((p.2:Int)<(c:Int))&&((p.2:Int)-(a:Int))%1 == 0)=true then none else some p.1)).toArray=(items.toList.take a++items.toList.drop c).toArray:=congrArg List.toArray (vw a c hac items.toList 0);refine QT (wpAny_updateSeq (hz:=hsz) (_hz':=?z) e rfl ?_)
 case z =>
  show(List.toArray (items.toList.zipIdx.filterMap fun(p:Value × Nat)=>if(decide ((a:Int)<=(p.2:Int))&&decide ((p.2:Int)<(c:Int))&&((p.2:Int)-(a:Int))%1 == 0)=true then none else some p.1)).size<=sizeLine+1;rw[hf,List.size_toArray,List.length_append,Zt,Zu];have:items.toList.length=items.size:=Array.length_toList;omega
 refine QT (wpAny_letGo ?_);refine QW ⟨.none,rfl,h _ ?_⟩;exact hf
end
section
variable{X:Cx}
abbrev BF(td ti:TE):TS:=fun D Y H=>td Y H fun x H1=>ti Y H1 fun y H2=>∃ l xs i,x=.ref l/\y=.int i/\H2 l=some (.lst xs)/\0<=i/\i<(xs.length:Int)/\D.nx Y (upd H2 l (.lst (xs.eraseIdx i.toNat)))
def D5(ho:PE X o td)(hi:PE X i ti):PS X (.Delete [.Subscript o i tpos] pos) (BF td ti):=by
 intro pins s Y H D I h;refine wpAny_Delete (wpAny_deleteEach_cons (wpAny_delete_Subscript (thn (ho pins s Y H _ I h) fun u s1 ⟨x,H1,I1,rx,q1⟩=>thn (hi pins s1 Y H1 _ I1 q1) fun iv s2 ⟨y,H2,I2,ry,l,xs,k,ex,ey,e,h0,hk,q2⟩=>?_)));subst ex ey;obtain rfl:u=Value.ref l:=rx;obtain⟨t,rfl⟩:=ry;obtain⟨z,_⟩:=I2.l4 e;have z:xs.length<=2 ^ 40:=Za z ∅;obtain⟨k',rfl⟩:=Zg h0;refine zI (k:=k') I2 e (by omega) (by omega) ?_ fun s3 I3=>wpAny_deleteEach_nil ⟨Y,_,I3,q2⟩
 have hk:k'<xs.length:=by omega
 have n0:¬ ((k':Int)<0):=by omega
 unfold seqIndex?;simp[hk,n0]
abbrev zc(td ta tb:TE):TS:=fun D Y H=>td Y H fun x H1=>vY ta Y H1 fun l H2=>vY tb Y H2 fun u H3=>∃ i j a xs,l=some i/\u=some j/\x=.ref a/\H3 a=some (.lst xs)/\0<=i/\i<=j/\j<=(xs.length:Int)/\D.nx Y (upd H3 a (.lst (xs.take i.toNat++xs.drop j.toNat)))
def Aj(ho:PE X o td)(ha:PE X a ta)(hb:PE X b tb):PS X (.Delete [.Subscript o (.Slice (some a) (some b) none p2) tpos] pos) (zc td ta tb):=by
 intro pins s Y H D I h;refine wpAny_Delete (wpAny_deleteEach_cons (wpAny_delete_Subscript (thn (ho pins s Y H _ I h) fun u s1 ⟨x,H1,I1,rx,q1⟩=>?_)));refine wpAny_Slice (thn (lD ha pins s1 Y H1 _ I1 q1) fun vl s2 ⟨l,H2,I2,pl,q2⟩=>thn (lD hb pins s2 Y H2 _ I2 q2) fun vu s3 ⟨u',H3,I3,pu,i,j,a,xs,el,eu,ex,e,h0,h1,h2,q3⟩=>?_);subst el eu ex;obtain rfl:u=Value.ref a:=rx;rw[evalPart_none];refine QW ?_;have I4:Inv X pins Y H3 { s3 with heap:=s3.heap.push { cls:=.type "slice",data:=.fields (List.toArray [vl,vu,.none]) } }:=I3.kept (t':=s3.toks) fun b ob q=>QU _ q;obtain⟨z,its,n,r,hl,e'⟩:=I4.l4 e;obtain⟨i',rfl⟩:=Zg h0;obtain⟨j',rfl⟩:=Zg (Int.le_trans h0 h1);refine qF (a:=i') (c:=j') e' (Heap.IsSliceOf.new ..) pl pu (by omega) (by rw[List.size_toArray];omega) (by rw[List.size_toArray];omega) fun f hf=>wpAny_deleteEach_nil ⟨Y,_,?_,q3⟩;refine I4.wz (its':=its.take i'++its.drop j') (t':=s3.toks) e e' hf (Vals.append (r.take _) (r.drop _)) ?_;rw[List.length_append,Zt,Zu];omega
abbrev CH:V->List V->Hp->VK->Prop:=fun x vs H Q=>∃ (l:Addr) (ns:List Int) (k:Int) (j:Nat),x=.ref l/\vs=[.int k,.int j]/\H l=some (.lst (ns.map V.int))/\k∈ns.drop j/\Q (.int (j+(ns.drop j).idxOf k:Nat)) H
def qD(l:Addr)(items:Array Value)(n:Nat)(dd:Option Addr)(sl:Array (Option Value))(x:Value)(e:Value->Bool)(st j:Nat)(t:Tok)(hs:st<=j)(hj:j<items.size)(hsmall:(j:Int)<2 ^ 63-1)
 (hit:e items[j]=true)(hno:∀ m (hm:m<items.size),st<=m->m<j->e items[m]=false) :
  Meets (Builtin.«list.index» ⟨[.ref l,x,.int (st:Int) t],[]⟩)
   (fun A R s=>s.heap.get? l=some { cls:=.type "list",dict:=dd,data:=.seq items n,slots:=sl }/\(∀ y,y∈items->SeqAt.EqAt A.in1 s y x (e y))/\R (.ok (.ret (.int j s.toks))) { s with toks:=s.toks+1 }):=by
 intro prog w A R s h;obtain⟨hp,g,d,tk,os⟩:=s;obtain⟨hl,he,h⟩:=h
 wp_walk using wpAny_loadPart' hl
 have a1:((fun i:Int=>if i<0 then max 0 (i+(items.size:Int))else i) ((some (st:Int)).getD 0))=((st:Nat):Int):=by
  have:¬ ((st:Int)<0):=by omega
  simp[this]
 have a2:((fun i:Int=>if i<0 then max 0 (i+(items.size:Int))else i) ((none:Option Int).getD (2 ^ 63-1)))=2 ^ 63-1:=by simp
 rw[a1,a2]
 exact⟨plainId_quiet MeetsSeq.plain_index_loop _,codeAny_builtin MeetsSeq.entry_index_loop (by
  rw[Around.under_plainId MeetsSeq.plain_index_loop _]
  exact SeqAt.index_loopAt l items n dd sl x e (2 ^ 63-1) j hj hsmall hit _ st rfl hs (fun m hm h1 h2=>hno m hm h1 h2) prog w A R _ ⟨hl,he,h⟩)⟩
end
section
variable{X:Cx}
def xB:MtM X "list.index" CH:=by
 intro pins s Y H x vs v us Q I rx rv h;obtain⟨l,ns,k,st,rfl,rfl,hH,hk,q⟩:=h;cases rx;obtain⟨u,u',rfl,⟨t,rfl⟩,⟨t',rfl⟩⟩:=rv.two;obtain⟨its,r,hl,hz⟩:=I.list (SqL.of hH);have hi:=pR r;have hn:=hi.length;obtain⟨⟨cls,dd,data,sl⟩,ho,hc,n,hd⟩:=id hl.isList;have hc:cls=.type "list" := hc;have hd:data=.seq its.toArray n:=hd;subst hc hd;have hj:=List.idxOf_lt_length_iff.mpr hk
 have hj':(ns.drop st).idxOf k<ns.length-st:=by rw[Zu]at hj;exact hj
 have hz':ns.length<=sizeLine:=by simpa using hz
 refine call_meets F.slot_list_index ⟨_,ho,rfl⟩ F.entry_list_index (F.args_list_index_3 _ _ _) (qD l its.toArray n dd sl (.int k t) (isInt k) st (st+(ns.drop st).idxOf k) t' (by omega) (by rw[List.size_toArray];omega) (by unfold sizeLine at hz';omega) ?h1 ?h2) ⟨ho,fun y hy=>(eq_isInt k t hi y (by simpa using hy)).at _ _,.int (st+(ns.drop st).idxOf k:Nat),H,I.tok _,⟨_,rfl⟩,q⟩
 case h1 =>
  have e:=isInt_at k hi (st+(ns.drop st).idxOf k) (by omega) (by omega)
  have e2:ns[st+(ns.drop st).idxOf k]'(by omega)=k:=by
   have:=List.getElem_idxOf hj;rw[List.getElem_drop]at this;exact this
  rw[e2,beq_self_eq_true]at e;exact e
 case h2 =>
  intro m hm h1 hlt
  have hm':m<its.length:=by simpa using hm
  refine(isInt_at k hi m hm' (by omega)).trans ?_;have e:=ne_of_lt_idxOf (ns:=ns.drop st) (k:=k) (j:=m-st) (by omega) (by rw[Zu];omega);rw[List.getElem_drop]at e
  have e3:st+(m-st)=m:=by omega
  simp only[e3]at e;exact e
end
end L2
namespace RS
open PySem PySem.Spec PyProof.Rows L2
section
def Ap{x y z d:RL.D}(h:RL.me x y z=some d):∃ xs i j is,x=.lst xs/\y=.int i/\z=.int j/\RL.cK xs=some is/\(0<=j/\i∈is.drop j.toNat)/\d=.int (j.toNat+(is.drop j.toNat).idxOf i:Nat):=by
 unfold RL.me at h;split at h
 ·obtain⟨is,e1,e⟩:=bind_some h;obtain⟨hm,e⟩:=bM e;exact#[_,_,_,is,rfl,rfl,rfl,e1,hm,e]
 ·cases h
def BW{x y d:RL.D}(h:RL.pB x y=some d):∃ xs j,x=.lst xs/\y=.int j/\(0<=j/\j<xs.length)/\d=.lst (xs.eraseIdx j.toNat):=by
 unfold RL.pB at h;split at h
 ·obtain⟨hm,e⟩:=bM h;exact#[_,_,rfl,rfl,hm,e]
 ·cases h
def AJ{x y z d:RL.D}(h:RL.lZ x y z=some d):∃ xs i j,x=.lst xs/\y=.int i/\z=.int j/\(0<=i/\i<=j/\j<=xs.length)/\d=.lst (xs.take i.toNat++xs.drop j.toNat):=by
 unfold RL.lZ at h;split at h
 ·obtain⟨hm,e⟩:=bM h;exact#[_,_,_,rfl,rfl,rfl,hm,e]
 ·cases h
def Ct(ha:SE X cl (.Name x p) a')(hb:SE X cl b b')(hc:SE X cl c c')(hn:noStar b=true)(hn':noStar c=true)(hl:(apos.endLine == pos.line)=true):SE X cl (.Call (.Attribute (.Name x p) "index" apos) [b,c] [] pos) (.idx2 a' b' c'):=by
 refine PE.weak (BA PySem.F.plainAttrs_list PySem.F.slot_list_index PySem.F.type_list_index xB ha (b0 (cl:=cl) hb (b0 (cl:=cl) hc cB hn') hn) rfl (by rw[a8 _ hn,a8 _ hn'];rfl) hl (a8 _ hn) (by rw[a8 _ hn'];rfl)) fun Y H Q h=>?_;fin2;k_in;obtain⟨y,eb,e⟩:=bind_some e;obtain⟨z,ec,e⟩:=bind_some e;obtain⟨xs,i,j,is,rfl,rfl,rfl,e1,hm,rfl⟩:=Ap e;refine#[Zy,_,rv,ea,fun v H1 r1=>?_];obtain⟨q,ys,rfl,_,f2,f3⟩:=aE r1.rep;refine#[.inl #[rfl,_,SqL.of f2],Zy,[.int i,.int j],rv.same r1.same,by rw[RL.evs,eb,RL.evs,ec];rfl,fun vs H2 s2 rr=>?_];rw[pA e1 f3]at f2;rw[ae]at rr;obtain⟨x,t,rfl,r2,r3⟩:=rr;rw[ae]at r3;obtain⟨x2,t2,rfl,r4,r5⟩:=r3;rw[ae]at r5;subst r5;exact#[q,is,i,j.toNat,rfl,by rw[ak r2,ak r4,Int.toNat_of_nonneg hm.1],s2 _ _ f2,hm.2,k _ _ (bZ (r1.same.trans s2) aW rfl)]
def oP:∀ {ds:List RL.D},RL.aw ds=true↔∀ d∈ds,d.imm=true
 | []=>by simp[RL.aw]
 | d::ds=>by simp[RL.aw,oP (ds:=ds)]
def u9{ds:List RL.D}(h:RL.aw ds=true)(a b:Nat):RL.aw (ds.take a++ds.drop b)=true:=by
 rw[oP]at h ⊢;intro d hd;rcases List.mem_append.mp hd with hd | hd
 ·exact h d (List.mem_of_mem_take hd)
 ·exact h d (List.mem_of_mem_drop hd)
def F5{st:Stmt}(h:PS X st (BF (gK i) (tE X.K cl k')))(hi:M.contains i=true):SS X cl M st (.del i k'):=by
 refine PS.weak h fun D Y H h=>?_;k_all;obtain⟨l,e3,e⟩:=bind_some e;obtain⟨x,e2,e⟩:=bind_some e;obtain⟨l',e4,e5⟩:=map_some e;cases e5;obtain⟨ds,j,rfl,rfl,⟨j0,j1⟩,rfl⟩:=BW e4;obtain⟨v,h1,h2⟩:=rv.val i _ (slot_get e3);rw[if_pos hi]at h2;obtain⟨q1,q2,q3⟩:=h2;obtain⟨a,xs,rfl,_,f2,f3⟩:=aE q3;refine#[.ref a,h1,Zy,.int j,rv.rv0,e2,fun z H2 r2=>?_];have sm:=r2.same;refine#[a,xs,j,rfl,ak r2.rep,sm _ _ f2,j0,by rw[<-f3.length];exact j1,?_];obtain⟨g1,g2⟩:=(rv.same sm).fC (d':=.lst (ds.eraseIdx j.toNat)) (o':=.lst (xs.eraseIdx j.toNat)) hi h1 (sm _ _ f2) (.inl #[_,rfl]) (hZ (ds:=ds) (sm _ _ f2) (by rw[List.eraseIdx_eq_take_drop_succ];exact u9 q2 _ _) (by rw[List.eraseIdx_eq_take_drop_succ,List.eraseIdx_eq_take_drop_succ];exact((f3.same sm).take _).append ((f3.same sm).drop _)));exact k _ _ g1 ((Fr'.same sm).trans g2)
def Eb{st:Stmt}(h:PS X st (zc (gK i) (tE X.K cl a') (tE X.K cl b')))(hi:M.contains i=true):SS X cl M st (.dels i a' b'):=by
 refine PS.weak h fun D Y H h=>?_;k_all;obtain⟨l,e3,e⟩:=bind_some e;obtain⟨x,e1,e⟩:=bind_some e;obtain⟨y,e2,e⟩:=bind_some e;obtain⟨l',e4,e5⟩:=map_some e;cases e5;obtain⟨ds,i1,j,rfl,rfl,rfl,⟨j0,j1,j2⟩,rfl⟩:=AJ e4;obtain⟨v,h1,h2⟩:=rv.val i _ (slot_get e3);rw[if_pos hi]at h2;obtain⟨q1,q2,q3⟩:=h2;obtain⟨a,xs,rfl,_,f2,f3⟩:=aE q3;refine#[.ref a,h1,Zy,.int i1,rv.rv0,e1,fun z H1 r1=>#[i1,ak r1.rep,Zy,.int j,rv.rv0.same r1.same,e2,fun z2 H2 r2=>#[j,ak r2.rep,?_]]];have sm:=r1.same.trans r2.same;refine#[i1,j,a,xs,rfl,rfl,rfl,sm _ _ f2,j0,j1,by rw[<-f3.length];exact j2,?_];obtain⟨g1,g2⟩:=(rv.same sm).fC (d':=.lst (ds.take i1.toNat++ds.drop j.toNat)) (o':=.lst (xs.take i1.toNat++xs.drop j.toNat)) hi h1 (sm _ _ f2) (.inl #[_,rfl]) (hZ (ds:=ds) (sm _ _ f2) (u9 q2 _ _) (((f3.same sm).take _).append ((f3.same sm).drop _)));exact k _ _ g1 ((Fr'.same sm).trans g2)
abbrev rK:RL.E->Bool
 | .cst .non=>true
 | _=>false
def Ec{e:RL.E}(h:rK e=true):e=.cst .non:=by
 unfold rK at h;split at h
 ·rfl
 ·cases h
def DA:SS X cl M (.Return none pos) (.ret (.cst .non)):=by
 refine PS.weak BY fun D Y H h=>?_;obtain⟨Zy,o,ZD,rv,ev,k⟩:=h;cases ev
 exact k Y H .non H rv (Fr'.same (a6.refl H)) (a6.refl H) fun P hP=>by rw[Rep]
end
def nos{α:Type}{P:Prop}{x:α}(h:(none:Option α)=some x):P:=by cases h
def ay{α:Type}{o:Option α}{f:α->Bool}(h:o.any f=true):∃ x,o=some x/\f x=true:=by
 cases o with
 | none=>cases h
 | some x=>exact#[x,rfl,h]
def ag{a b:Bool}(h:(a&&b)=true):a=true/\b=true:=by rw[Bool.and_eq_true]at h;exact h
abbrev gm:Expr->Option Str
 | .Name x _=>some x
 | _=>none
def dY{e:Expr}{x:Str}(h:gm e=some x):∃ p,e=.Name x p:=by
 cases e
 case Name=>cases h;exact#[_,rfl]
 all_goals exact nos h
abbrev zG:Expr->Option Const
 | .Constant k _ _=>some k
 | _=>none
def vm{e:Expr}{k:Const}(h:zG e=some k):∃ j p,e=.Constant k j p:=by
 cases e
 case Constant=>cases h;exact#[_,_,rfl]
 all_goals exact nos h
abbrev Ac:Expr->Option (Expr × Operator × Expr)
 | .BinOp l o r _=>some (l,o,r)
 | _=>none
def Cb{e:Expr}{l r:Expr}{o:Operator}(h:Ac e=some (l,o,r)):∃ p,e=.BinOp l o r p:=by
 cases e
 case BinOp=>cases h;exact#[_,rfl]
 all_goals exact nos h
abbrev vUn:Expr->Option (UnaryOp × Expr)
 | .UnaryOp o x _=>some (o,x)
 | _=>none
def rZ{e x:Expr}{o:UnaryOp}(h:vUn e=some (o,x)):∃ p,e=.UnaryOp o x p:=by
 cases e
 case UnaryOp=>cases h;exact#[_,rfl]
 all_goals exact nos h
abbrev mL:Expr->Option (Expr × List CmpOp × List Expr)
 | .Compare l o r _=>some (l,o,r)
 | _=>none
def hW{e l:Expr}{r:List Expr}{o:List CmpOp}(h:mL e=some (l,o,r)):∃ p,e=.Compare l o r p:=by
 cases e
 case Compare=>cases h;exact#[_,rfl]
 all_goals exact nos h
abbrev vBool:Expr->Option (BoolOp × List Expr × Pos)
 | .BoolOp o es p=>some (o,es,p)
 | _=>none
def ky{e:Expr}{es:List Expr}{o:BoolOp}{p:Pos}(h:vBool e=some (o,es,p)):e=.BoolOp o es p:=by
 cases e
 case BoolOp=>cases h;exact rfl
 all_goals exact nos h
abbrev ES:Expr->Option (Expr × Expr × Expr)
 | .IfExp c a b _=>some (c,a,b)
 | _=>none
def Du{e a b c:Expr}(h:ES e=some (c,a,b)):∃ p,e=.IfExp c a b p:=by
 cases e
 case IfExp=>cases h;exact#[_,rfl]
 all_goals exact nos h
abbrev gJ:Expr->Option (List Expr)
 | .Tuple es _ _=>some es
 | _=>none
def cW{e:Expr}{es:List Expr}(h:gJ e=some es):∃ k p,e=.Tuple es k p:=by
 cases e
 case Tuple=>cases h;exact#[_,_,rfl]
 all_goals exact nos h
abbrev As:Expr->Option (List Expr)
 | .List es _=>some es
 | _=>none
def DI{e:Expr}{es:List Expr}(h:As e=some es):∃ p,e=.List es p:=by
 cases e
 case List=>cases h;exact#[_,rfl]
 all_goals exact nos h
abbrev iB:Expr->Option (Expr × Expr)
 | .Subscript a b _=>some (a,b)
 | _=>none
def dD{e a b:Expr}(h:iB e=some (a,b)):∃ p,e=.Subscript a b p:=by
 cases e
 case Subscript=>cases h;exact#[_,rfl]
 all_goals exact nos h
abbrev vSl:Expr->Option (Option Expr × Option Expr × Option Expr)
 | .Slice a b c _=>some (a,b,c)
 | _=>none
def nT{e:Expr}{a b c:Option Expr}(h:vSl e=some (a,b,c)):∃ p,e=.Slice a b c p:=by
 cases e
 case Slice=>cases h;exact#[_,rfl]
 all_goals exact nos h
abbrev kz:Expr->Option (Expr × List Expr × List Keyword × Pos)
 | .Call f as ks p=>some (f,as,ks,p)
 | _=>none
def iu{e f:Expr}{as:List Expr}{ks:List Keyword}{p:Pos}(h:kz e=some (f,as,ks,p)):e=.Call f as ks p:=by
 cases e
 case Call=>cases h;exact rfl
 all_goals exact nos h
abbrev xf:Expr->Option (Expr × Str × Pos)
 | .Attribute o x p=>some (o,x,p)
 | _=>none
def uq{e o:Expr}{x:Str}{p:Pos}(h:xf e=some (o,x,p)):e=.Attribute o x p:=by
 cases e
 case Attribute=>cases h;exact rfl
 all_goals exact nos h
abbrev wN:Expr->Option (Expr × List Comprehension × Scope × Pos)
 | .ListComp e gs sc p=>some (e,gs,sc,p)
 | _=>none
def ud{e x:Expr}{gs:List Comprehension}{sc:Scope}{p:Pos}(h:wN e=some (x,gs,sc,p)):e=.ListComp x gs sc p:=by
 cases e
 case ListComp=>cases h;exact rfl
 all_goals exact nos h
abbrev wu:Expr->Option (List (Option Expr) × List Expr)
 | .Dict ks vs _=>some (ks,vs)
 | _=>none
def sN{e:Expr}{ks:List (Option Expr)}{vs:List Expr}(h:wu e=some (ks,vs)):∃ p,e=.Dict ks vs p:=by
 cases e
 case Dict=>cases h;exact#[_,rfl]
 all_goals exact nos h
abbrev of1{α:Type}(xs:List α)(f:α->Bool):Bool:=match xs with
 | [a]=>f a
 | _=>false
abbrev of2{α:Type}(xs:List α)(f:α->α->Bool):Bool:=match xs with
 | [a,b]=>f a b
 | _=>false
abbrev of3{α:Type}(xs:List α)(f:α->α->α->Bool):Bool:=match xs with
 | [a,b,c]=>f a b c
 | _=>false
def aR{α:Type}:∀ {xs:List α} {f:α->Bool},of1 xs f=true->∃ a,xs=[a]/\f a=true
 | [a],_,h=>#[a,rfl,h]
def cG{α:Type}:∀ {xs:List α} {f:α->α->Bool},of2 xs f=true->∃ a b,xs=[a,b]/\f a b=true
 | [a,b],_,h=>#[a,b,rfl,h]
def xY{α:Type}:∀ {xs:List α} {f:α->α->α->Bool},of3 xs f=true->∃ a b c,xs=[a,b,c]/\f a b c=true
 | [a,b,c],_,h=>#[a,b,c,rfl,h]
abbrev ofM{α:Type}(xs:List α)(f:α->α->List α->Bool):Bool:=match xs with
 | a::b::r=>f a b r
 | _=>false
def nL{α:Type}:∀ {xs:List α} {f:α->α->List α->Bool},ofM xs f=true->∃ a b r,xs=a::b::r/\f a b r=true
 | a::b::r,_,h=>#[a,b,r,rfl,h]
abbrev kY:Stmt->Option (List Expr × Expr)
 | .Assign ts e _=>some (ts,e)
 | _=>none
def fW{st:Stmt}{ts:List Expr}{e:Expr}(h:kY st=some (ts,e)):∃ p,st=.Assign ts e p:=by
 cases st
 case Assign=>cases h;exact#[_,rfl]
 all_goals exact nos h
abbrev FV:Stmt->Option (Expr × Operator × Expr)
 | .AugAssign t o e _=>some (t,o,e)
 | _=>none
def DR{st:Stmt}{t e:Expr}{o:Operator}(h:FV st=some (t,o,e)):∃ p,st=.AugAssign t o e p:=by
 cases st
 case AugAssign=>cases h;exact#[_,rfl]
 all_goals exact nos h
abbrev xb:Stmt->Option Expr
 | .Expr e _=>some e
 | _=>none
def pq{st:Stmt}{e:Expr}(h:xb st=some e):∃ p,st=.Expr e p:=by
 cases st
 case Expr=>cases h;exact#[_,rfl]
 all_goals exact nos h
abbrev Bb:Stmt->Option (List Expr)
 | .Delete ts _=>some ts
 | _=>none
def vF{st:Stmt}{ts:List Expr}(h:Bb st=some ts):∃ p,st=.Delete ts p:=by
 cases st
 case Delete=>cases h;exact#[_,rfl]
 all_goals exact nos h
abbrev wIf:Stmt->Option (Expr × List Stmt × List Stmt)
 | .If c a b _=>some (c,a,b)
 | _=>none
def yF{st:Stmt}{c:Expr}{a b:List Stmt}(h:wIf st=some (c,a,b)):∃ p,st=.If c a b p:=by
 cases st
 case If=>cases h;exact#[_,rfl]
 all_goals exact nos h
abbrev HD:Stmt->Option (Expr × Expr × List Stmt × List Stmt)
 | .For t i b o _=>some (t,i,b,o)
 | _=>none
def D8{st:Stmt}{t i:Expr}{b o:List Stmt}(h:HD st=some (t,i,b,o)):∃ p,st=.For t i b o p:=by
 cases st
 case For=>cases h;exact#[_,rfl]
 all_goals exact nos h
abbrev Hd:Stmt->Option (Expr × List Stmt × List Stmt)
 | .While c b o _=>some (c,b,o)
 | _=>none
def C7{st:Stmt}{c:Expr}{b o:List Stmt}(h:Hd st=some (c,b,o)):∃ p,st=.While c b o p:=by
 cases st
 case While=>cases h;exact#[_,rfl]
 all_goals exact nos h
abbrev Fz:Stmt->Option (Option Expr)
 | .Return e _=>some e
 | _=>none
def Cu{st:Stmt}{e:Option Expr}(h:Fz st=some e):∃ p,st=.Return e p:=by
 cases st
 case Return=>cases h;exact#[_,rfl]
 all_goals exact nos h
structure CC where
 N:List Str
 sc:Scope
 B:List Str
 G:List (Str × Int)
 F:List (Str × List Nat)
 W:List (Str × List (Str × Nat))
abbrev FF(scope sc:Scope):Scope:={ scope with names:=scope.names.map fun(n,k)=>if(k == NameKind.free&&sc.kind == .function&&sc.names.lookup n == some .cell)then(n,NameKind.cell)else(n,k) }
abbrev CC.inner(C:CC)(scope:Scope):CC:={ C with sc:=FF scope C.sc }
abbrev jD(x:Str):Bool:=!(x == ("__debug__" : Str)) && !(x == ("__classdict__" : Str))
abbrev zE(C:CC)(x:Str):Bool:=C.sc.names.lookup x == some .local || C.sc.names.lookup x == some .cell
abbrev AQ(C:CC)(x:Str):Bool:=C.sc.names.lookup x == some .local || C.sc.names.lookup x == some .cell || C.sc.names.lookup x == some .free
abbrev glB(C:CC)(x:Str):Bool:=C.sc.names.lookup x == some .globalImplicit&&jD x
abbrev tV(C:CC)(x:Str):Bool:=glB C x&&C.B.contains x
abbrev nmB(C:CC)(i:Nat)(x:Str):Bool:=C.N[i]? == some x&&jD x
structure XOk(C:CC)(X:Cx)(cl:RL.Cl):Prop where
 scope:X.env.scope=C.sc
 names:X.N=C.N
 nd:C.N.Nodup
 calm:X.calm=true
 xe:X.xe=fun _ _=>False
 hu:X.A.units+100<cLine
 blt:∀ x∈C.B,X.mg x=none
 glb:∀ x i,C.G.lookup x=some i->∃ u,X.mg x=some u/\RelV (.int i) u
 fns:∀ (f:Nat) (x:Str) (mp:List Nat),C.F[f]?=some (x,mp)->∃ k fa fd ps,j4 X.prog X.w X.K X.mg X.base CX0 k fa fd ps (if mp=[]then spF X.K cl f else spM X.K cl mp f)/\eU k X.A/\X.mg x=some (.ref fa)/\W.keepIn X.K (.ref fa)=true/\Binds X.K fd ps []
 gds:∀ x tbl,C.W.lookup x=some tbl->∃ d kvs,X.mg x=some (.ref d)/\GDc X d kvs/\kvs.map (·.1)=tbl.map (·.1)/\∀ y m,RL.Be tbl (.str y)=some m->∃ q nm,(kvs.find? fun q=>decide (q.1=y))=some q/\C.F[m]?=some (nm,[])/\X.mg nm=some (.ref q.2)
section
variable{C:CC}{X:Cx}{cl:RL.Cl}{e:Expr}
def XOk.vis(h:XOk C X cl){x:Str}(v:AQ C x=true):Vis X.env.scope x:=by
 unfold AQ at v;rw[<-h.scope,Bool.or_eq_true,Bool.or_eq_true,beq_iff_eq,beq_iff_eq,beq_iff_eq]at v;rcases v with(v | v) | v
 ·exact .inl v
 ·exact .inr (.inl v)
 ·exact .inr (.inr v)
def XOk.loc(h:XOk C X cl){x:Str}(v:zE C x=true):Loc X.env.scope x:=by
 unfold zE at v;rw[<-h.scope,Bool.or_eq_true,beq_iff_eq,beq_iff_eq]at v;exact v
def fI{x:Str}(h:jD x=true):(x == ("__debug__" : Str))=false/\(x == ("__classdict__" : Str))=false:=by
 unfold jD at h;rw[Bool.and_eq_true,Bool.not_eq_true',Bool.not_eq_true']at h;exact h
def XOk.gl(h:XOk C X cl){x:Str}(v:glB C x=true):Gl X x/\jD x=true:=by
 unfold glB at v;rw[<-h.scope,Bool.and_eq_true,beq_iff_eq]at v;exact v
def XOk.bl(h:XOk C X cl){x:Str}(v:tV C x=true):Gl X x/\X.mg x=none:=by
 unfold tV at v;rw[Bool.and_eq_true]at v;exact#[(h.gl v.1).1,h.blt x (by simpa using v.2)]
def XOk.nm(h:XOk C X cl){i:Nat}{x:Str}(v:nmB C i x=true):X.N[i]?=some x/\jD x=true:=by
 unfold nmB at v;rw[<-h.names,Bool.and_eq_true,beq_iff_eq]at v;exact v
def XOk.ndX(h:XOk C X cl):X.N.Nodup:=by rw[h.names];exact h.nd
def XOk.blk(h:XOk C X cl){scope:Scope}(cls:List (Str × Addr))(Ca:Addr)(fp:List Addr)(s:Shared)(H:Hp):XOk (C.inner scope) (L2.blk X scope cls Ca fp s H) cl where
 scope:=by
  show relabel scope X.env=FF scope C.sc;rw[<-h.scope];rfl
 names:=h.names
 nd:=h.nd
 calm:=h.calm
 xe:=rfl
 hu:=h.hu
 blt:=h.blt
 glb:=h.glb
 fns:=h.fns
 gds:=h.gds
abbrev lS:RL.D->Const->Bool
 | .int i,.int j=>i == j
 | .bl i,.bool j=>i == j
 | .non,.none=>true
 | .str x,.str y=>x == y
 | _,_=>false
abbrev plainT:Expr->Bool
 | .UnaryOp .Not _ _=>false
 | .BoolOp _ _ _=>false
 | .IfExp _ _ _ _=>false
 | .Compare _ _ _ _=>false
 | _=>true
abbrev tK:Expr->Bool
 | .BoolOp _ _ _=>true
 | _=>false
abbrev oi:Expr->Bool
 | .Set _ _ _=>false
 | _=>true
abbrev wO:RL.Bi->Option Str
 | .len=>some "len"
 | .list=>some "list"
 | .tuple=>some "tuple"
 | .int=>some "int"
 | .abs=>some "abs"
 | .all=>some "all"
 | _=>none
abbrev sq:RL.Ty->Str
 | .int => "int"
 | .bool => "bool"
 | .list => "list"
 | .tuple => "tuple"
 | .str => "str"
abbrev Jq(neg:Bool):CmpOp:=if neg then .IsNot else .Is
abbrev Gv(neg:Bool):CmpOp:=if neg then .NotIn else .In
abbrev iR(C:CC)(i:Nat)(e:Expr):Bool:=(gm e).any fun x=>nmB C i x&&AQ C x
abbrev kn(C:CC)(i:Nat)(e:Expr):Bool:=(gm e).any fun x=>nmB C i x&&zE C x
abbrev lG(C:CC):List Nat->List Expr->Bool
 | [],es=>es.isEmpty
 | i::is,es=>match es with
  | e::es=>kn C i e&&lG C is es
  | []=>false
abbrev pI(C:CC)(tg:List Nat)(e:Expr):Bool :=
 match tg with
 | [i]=>kn C i e
 | tg=>(gJ e).any fun es=>lG C tg es
abbrev nI(C:CC)(scope:Scope)(tg:List Nat):Bool:=tg.all fun i=>match C.N[i]? with
 | some x=>scope.names.lookup x == some .local || scope.names.lookup x == some .cell
 | none=>false
abbrev oM(C:CC)(scope:Scope)(tg:List Nat):Bool:=(List.range C.N.length).all fun i=>match C.N[i]? with
 | some x=>!(scope.names.lookup x == some .local || scope.names.lookup x == some .cell) || tg.contains i
 | none=>true
abbrev scB(scope sc:Scope):Bool:=scope.kind == .function&&scope.names.all (fun x=>(!(x.2 == .cell) || scope.names.lookup x.1 == some .cell)&&(!(x.2 == .local) || scope.names.lookup x.1 == some .local)&&(!(x.2 == .free) || sc.names.lookup x.1 == some .cell || sc.names.lookup x.1 == some .free))
abbrev bg(C:CC)(e:Expr)(nm:Str)(f:List Expr->Bool):Bool:=(kz e).any fun q=>(gm q.1).any (fun x=>x == nm&&tV C x)&&q.2.2.1.isEmpty&&q.2.1.all noStar&&f q.2.1
def bE{nm:Str}{f:List Expr->Bool}(h:XOk C X cl)(z:bg C e nm f=true):∃ p as pos,e=.Call (.Name nm p) as [] pos/\Gl X nm/\X.mg nm=none/\as.all noStar=true/\f as=true:=by
 unfold bg at z;obtain⟨⟨g,as,ks,pos⟩,z0,z⟩:=ay z;have e0:=iu z0;subst e0;obtain⟨z,z4⟩:=ag z;k_go;cbv;obtain⟨x,y0,z1⟩:=ay z1;obtain⟨p,rfl⟩:=dY y0;obtain⟨y1,y2⟩:=ag z1;rw[beq_iff_eq]at y1;subst y1;obtain⟨b1,b2⟩:=h.bl y2;rw[Q8]at z2;subst z2;exact#[p,as,pos,rfl,b1,b2,z3,z4]
def all1{a:Expr}(h:[a].all noStar=true):noStar a=true:=by simpa using h
def all2{a b:Expr}(h:[a,b].all noStar=true):noStar a=true/\noStar b=true:=by simpa using h
def pe{a b c:Expr}(h:[a,b,c].all noStar=true):noStar a=true/\noStar b=true/\noStar c=true:=by simpa using h
end
mutual
noncomputable def chk(C:CC)(t:Bool):RL.E->Expr->Bool
 | .var i=>fun e=>iR C i e
 | .cst d=>fun e=>(zG e).any fun k=>lS d k
 | .glb y i=>fun e=>(gm e).any fun x=>x == y&&glB C x&&C.G.lookup x == some i
 | .bin o a b=>fun e=>(Ac e).any fun q=>q.2.1 == sZ o&&chk C false a q.1&&chk C false b q.2.2
 | .neg a=>fun e=>(vUn e).any fun q=>q.1 == .USub&&chk C false a q.2
 | .cmp c a b=>fun e=>(mL e).any fun q=>of1 q.2.1 fun op=>of1 q.2.2 fun r=>op == dO c&&chk C false a q.1&&chk C false b r
 | .chain c c' a b d=>fun e=>(mL e).any fun q=>of2 q.2.1 fun op op'=>of2 q.2.2 fun r s=>op == dO c&&op' == dO c'&&chk C false a q.1&&chk C false b r&&chk C false d s
 | .isN neg a=>fun e=>(mL e).any fun q=>of1 q.2.1 fun op=>of1 q.2.2 fun r=>op == Jq neg&&(zG r).any (fun k=>lS .non k)&&chk C false a q.1
 | .inn neg a b=>fun e=>(mL e).any fun q=>of1 q.2.1 fun op=>of1 q.2.2 fun r=>op == Gv neg&&mU r&&chk C false a q.1&&chk C false b r
 | .inD neg a b=>fun e=>(mL e).any fun q=>of1 q.2.1 fun op=>of1 q.2.2 fun r=>op == Gv neg&&mU r&&chk C false a q.1&&chk C false b r
 | .and a b=>fun e=>(vBool e).any fun q=>ofM q.2.1 fun l r rest=>q.1 == .And&&chk C t a l&&(if rest.isEmpty then chk C t b r else chk C t b (.BoolOp .And (r::rest) q.2.2))
 | .or a b=>fun e=>(vBool e).any fun q=>ofM q.2.1 fun l r rest=>q.1 == .Or&&chk C t a l&&(if rest.isEmpty then chk C t b r else chk C t b (.BoolOp .Or (r::rest) q.2.2))
 | .not a=>fun e=>(vUn e).any fun q=>q.1 == .Not&&chk C t a q.2
 | .ifx c a b=>fun e=>(ES e).any fun q=>!t&&chk C true c q.1&&chk C false a q.2.1&&chk C false b q.2.2
 | .tup es=>fun e=>(gJ e).any fun xs=>oG C es xs&&decide (f9 es<=1000)
 | .lst es=>fun e=>(As e).any fun xs=>oG C es xs&&decide (f9 es<=1000)
 | .ix a b=>fun e=>(iB e).any fun q=>k9 q.2&&chk C false a q.1&&chk C false b q.2
 | .ixD a b=>fun e=>(iB e).any fun q=>k9 q.2&&chk C false a q.1&&chk C false b q.2
 | .slT a b=>fun e=>(iB e).any fun q=>chk C false a q.1&&(vSl q.2).any fun s=>s.1.isNone&&s.2.2.isNone&&s.2.1.any fun r=>chk C false b r
 | .slF a b=>fun e=>(iB e).any fun q=>chk C false a q.1&&(vSl q.2).any fun s=>s.2.1.isNone&&s.2.2.isNone&&s.1.any fun r=>chk C false b r
 | .rev a=>fun e=>(iB e).any fun q=>chk C false a q.1&&(vSl q.2).any fun s=>s.1.isNone&&s.2.1.isNone&&s.2.2.any fun r=>fG (-1) r
 | .call f es=>fun e=>(kz e).any fun q=>(gm q.1).any (fun x=>glB C x&&C.F[f]? == some (x,[]))&&q.2.2.1.isEmpty && !q.2.1.isEmpty&&oG C es q.2.1
 | .bi b a=>fun e=>match b with
  | .lenSet=>bg C e "len" fun ys=>of1 ys fun y=>bg C y "set" fun zs=>of1 zs fun z=>chk C false a z
  | b=>(wO b).any fun x=>bg C e x fun ys=>of1 ys fun y=>chk C false a y
 | .max a b=>fun e=>bg C e "max" fun ys=>of2 ys fun y z=>chk C false a y&&chk C false b z
 | .min a b=>fun e=>bg C e "min" fun ys=>of2 ys fun y z=>chk C false a y&&chk C false b z
 | .isi a ty=>fun e=>bg C e "isinstance" fun ys=>of2 ys fun y z=>(gm z).any (fun x=>x == sq ty&&tV C x)&&chk C false a y
 | .rng1 a=>fun e=>bg C e "list" fun ys=>of1 ys fun y=>bg C y "range" fun zs=>of1 zs fun z=>chk C false a z
 | .rng2 a b=>fun e=>bg C e "list" fun ys=>of1 ys fun y=>bg C y "range" fun zs=>of2 zs fun z u=>chk C false a z&&chk C false b u
 | .rng3 c a b=>fun e=>bg C e "list" fun ys=>of1 ys fun y=>bg C y "range" fun zs=>of3 zs fun z u q=>fG c q&&chk C false a z&&chk C false b u
 | .comp d tg it c=>fun e=>(wN e).any fun q=>of1 q.2.1 fun g=>of1 g.ifs fun w=>g.is_async == 0&&scB q.2.2.1 C.sc&&oM C q.2.2.1 tg&&oi g.iter&&pI (C.inner q.2.2.1) tg g.target&&nI C q.2.2.1 tg&&wH C it g.target g.iter&&chk (C.inner q.2.2.1) false d q.1&&chk (C.inner q.2.2.1) true c w
 | .compA d tg it=>fun e=>(wN e).any fun q=>of1 q.2.1 fun g=>g.ifs.isEmpty&&g.is_async == 0&&scB q.2.2.1 C.sc&&oM C q.2.2.1 tg&&oi g.iter&&pI (C.inner q.2.2.1) tg g.target&&nI C q.2.2.1 tg&&wH C it g.target g.iter&&chk (C.inner q.2.2.1) false d q.1
 | .frz a=>fun e=>((As e).isSome || (Ac e).isSome || (kz e).isSome)&&chk C false a e
 | .dk0=>fun e=>(wu e).any fun q=>q.1.isEmpty&&q.2.isEmpty
 | .dt0=>fun e=>(wu e).any fun q=>q.1.isEmpty&&q.2.isEmpty
 | .idx2 a b c=>fun e=>(kz e).any fun q=>(xf q.1).any (fun u=>u.2.1 == ("index" : Str)&&u.2.2.endLine == q.2.2.2.line&&(gm u.1).isSome&&chk C false a u.1)&&q.2.2.1.isEmpty&&of2 q.2.1 fun y w=>noStar y&&noStar w&&chk C false b y&&chk C false c w
noncomputable def oG(C:CC):RL.Es->List Expr->Bool
 | .nil=>fun xs=>xs.isEmpty
 | .cons e es=>fun xs=>match xs with
  | x::xs=>noStar x&&chk C false e x&&oG C es xs
  | []=>false
noncomputable def wH(C:CC):RL.It->Expr->Expr->Bool
 | .seq a=>fun _ e=>chk C false a e
 | .rng1 a=>fun _ e=>bg C e "range" fun ys=>of1 ys fun y=>chk C false a y
 | .rng2 a b=>fun _ e=>bg C e "range" fun ys=>of2 ys fun y z=>chk C false a y&&chk C false b z
 | .rng3 c a b=>fun _ e=>bg C e "range" fun ys=>of3 ys fun y z q=>fG c q&&chk C false a y&&chk C false b z
 | .enm a=>fun tg e=>(gJ tg).isSome&&bg C e "enumerate" fun ys=>of1 ys fun y=>chk C false a y
 | .zip a b=>fun tg e=>(gJ tg).isSome&&bg C e "zip" fun ys=>of2 ys fun y z=>chk C false a y&&chk C false b z
end
abbrev sg(X:Cx)(cl:RL.Cl)(e:Expr)(e':RL.E)(b b':Bool):Prop:=(b=true->SE X cl e e')/\(b'=true->ST X cl e e'/\(tK e=true->SW X cl e e'))
section
variable{C:CC}{X:Cx}{cl:RL.Cl}{e:Expr}{e':RL.E}{b:Bool}
def vS{env:Env}(h:plainT e=true)(whole:Sem Value):isTrue e env whole=(do let v <- whole;standAt e.pos;holding [v] (truthy v)):=by
 cases e<;>first
  | rfl
  | (cases h;done)
  | (rename_i op _ _;cases op<;>first | rfl | (cases h;done))
def aD(h:b=true->SE X cl e e'/\plainT e=true):sg X cl e e' b b :=
 ⟨fun z=>(h z).1,fun z=>⟨Bn (h z).1 (vS (h z).2),fun q=>by
  have:=(h z).2
  cases e<;>first | (cases q;done) | (cases this;done)⟩⟩
def iC(h:b=true->SE X cl e e'/\ST X cl e e'/\tK e=false):sg X cl e e' b b :=
 ⟨fun z=>(h z).1,fun z=>⟨(h z).2.1,fun q=>by rw[(h z).2.2]at q;cases q⟩⟩
def Kh(h:b=false){b':Bool}(h':b'=false):sg X cl e e' b b':=⟨fun z=>(by rw[h]at z;cases z),fun z=>(by rw[h']at z;cases z)⟩
def E3{d:RL.D}{k:Const}{j:Nat}{pos:Pos}(h:lS d k=true):SE X cl (.Constant k j pos) (.cst d):=by
 cases d<;>cases k<;>simp only[lS]at h<;>first | (cases h;done) | skip
 case non.none=>exact ou qY (fun P H=>by rw[Rep]) rfl
 case bl.bool i j=>rw[beq_iff_eq]at h;subst h;exact ou Iy (fun P H=>sI) rfl
 case int.int i j=>rw[beq_iff_eq]at h;subst h;exact ou r8 (fun P H=>aW) rfl
 case str.str i j=>rw[beq_iff_eq]at h;subst h;exact ou EN (fun P H=>jB) rfl
def De{k:Const}(h:lS .non k=true):k=.none:=by
 cases k<;>simp only[lS]at h<;>first | (cases h;done) | rfl
def xv(t:RL.Ty):bootBuiltins (sq t)=some (.type (tyN t))/\sq t ≠ "__name__" /\ (sq t == ("__debug__" : Str))=false:=by
 cases t<;>exact#[by decide +kernel,by decide +kernel,by decide +kernel]
def gu(h:oi e=true)(env:Env)(x:Value):foldedSetIterable e env x=pure x:=by
 cases e<;>first | rfl | (cases h;done)
def Ip(hcalm:X.calm=true){o:RL.Bi}{x:Str}{p pos:Pos}{y:Expr}{a':RL.E}(hx:wO o=some x)(hb:Gl X x)(hb2:X.mg x=none)(ha:SE X cl y a')(hn:noStar y=true):SE X cl (.Call (.Name x p) [y] [] pos) (.bi o a'):=by
 cases o<;>simp only[wO]at hx<;>first | (cases hx;done) | skip
 case len=>cases hx;exact GN hb hb2 ha hn
 case list=>cases hx;exact Cd hb hb2 ha hn
 case tuple=>cases hx;exact AV hb hb2 ha hn
 case int=>cases hx;exact Gf hb hb2 ha hn
 case abs=>cases hx;exact ER hb hb2 ha hn
 case all=>cases hx;exact GW hcalm hb hb2 ha hn
def zu{r:Expr}(h:k9 r=true):wc r:=by
 cases r<;>first | (cases h;done) | (intro a b;rfl) | skip
def eA{i:Nat}(h:XOk C X cl)(z:iR C i e=true):∃ x p,e=.Name x p/\X.N[i]?=some x/\Vis X.env.scope x/\(x == ("__debug__" : Str))=false/\(x == ("__classdict__" : Str))=false:=by
 obtain⟨x,z0,z⟩:=ay z;obtain⟨p,rfl⟩:=dY z0;cbv;obtain⟨g1,g2⟩:=h.nm z1;exact#[x,p,rfl,g1,h.vis z2,(fI g2).1,(fI g2).2]
def kA{i:Nat}(h:XOk C X cl)(z:kn C i e=true):∃ x p,e=.Name x p/\X.N[i]?=some x/\Loc X.env.scope x:=by
 obtain⟨x,z0,z⟩:=ay z;obtain⟨p,rfl⟩:=dY z0;cbv;exact#[x,p,rfl,(h.nm z1).1,h.loc z2]
def pj(h:XOk C X cl){T:List Nat}(hf:∀ i x,i∈T->X.N[i]?=some x->X.fn x=true\/X.env.scope.names.lookup x=some .local):∀ {is:List Nat} {es:List Expr},(∀ i∈is,i∈T)->lG C is es=true->PGs X es (gs is)/\(assignEach es X.env).length=is.length/\(assignEach es X.env).findIdx? (·.1)=none
 | [],es,_,z=>by
  rw[lG,Q8]at z;subst z;exact#[vi,rfl,rfl]
 | i::is,[],_,z=>by cases z
 | i::is,e::es,hs,z=>by
  rw[lG]at z;cbv;obtain⟨x,p,rfl,g1,g2⟩:=kA h z1;obtain⟨h1,h2,h3⟩:=pj h hf (fun j hj=>hs j (Q4 _ hj)) z2;refine#[mT (uI h.ndX g1 g2 (hf i x (hs i Zc) g1)) h1 rfl,?_,?_]
  ·show(assignEach es X.env).length+1=is.length+1;rw[h2]
  ·show List.findIdx? (·.1) ((false,assign (.Name x p) X.env)::assignEach es X.env)=none;rw[List.findIdx?_cons];simp only[Bool.false_eq_true,if_false,h3,Option.map_none]
def yl{tg:List Nat}{tgE:Expr}(h:XOk C X cl)(hf:∀ i x,i∈tg->X.N[i]?=some x->X.fn x=true\/X.env.scope.names.lookup x=some .local)(hc:pI C tg tgE=true):PG X tgE (gT X.K tg):=by
 unfold pI at hc;split at hc
 ·obtain⟨x,p,rfl,g1,g2⟩:=kA h hc;exact uI h.ndX g1 g2 (hf _ x (by simp) g1)
 ·rename_i hne;obtain⟨es,z0,z⟩:=ay hc;obtain⟨k,p,rfl⟩:=cW z0;obtain⟨h1,h2,h3⟩:=pj h hf (fun i hi=>hi) z
  have e:gT X.K tg=fun v Y H Q=>mX X.K tg.length (gs tg) v Y H Q\/oS X.K tg.length (gs tg) v Y H Q:=by
   unfold gT;split
   ·rename_i i;exact absurd rfl (hne i)
   ·rfl
  rw[e];exact yS (ug h.calm h1 h2 h3) (xy h.calm h1 h2 h3)
def GX{x:Str}{i:Int}{pos:Pos}(h:XOk C X cl)(hg:glB C x=true)(hl:C.G.lookup x=some i):SE X cl (.Name x pos) (.glb x i):=by
 obtain⟨u,h1,h2⟩:=h.glb x i hl;obtain⟨g1,g2⟩:=h.gl hg;exact GH (u:=u) (DY g1 h1 h2 (fI g2).1)
def Df{x:Str}{f:Nat}{p pos:Pos}{y:Expr}{ys:List Expr}{es:RL.Es}(h:XOk C X cl)(hg:glB C x=true)(hf:C.F[f]?=some (x,[]))(he:SEs X cl (y::ys) es)(hl:f9 es=ys.length+1)(hn:noStar y=true)(hns:ys.all noStar=true) :
  SE X cl (.Call (.Name x p) (y::ys) [] pos) (.call f es):=by
 obtain⟨k,fa,fd,ps,F,hr,hm,hk,hb⟩:=h.fns f x [] hf;obtain⟨g1,g2⟩:=h.gl hg;rw[if_pos rfl]at F
 cases es with
 | nil=>simp[f9]at hl
 | cons e' es'=>exact CB F hr g1 hm hk hb he (fI g2).1 hn hns
def qT{scope sc:Scope}(h:scB scope sc=true):pF scope sc:=by
 unfold scB at h;obtain⟨h1,h2⟩:=ag h;rw[Zf]at h2;refine#[by simpa using h1,fun x hx z=>?_,fun x hx z=>?_,fun x hx z=>?_]
 ·have:=h2 x hx;rw[z]at this;simpa using this
 ·have:=h2 x hx;rw[z]at this;simpa using this
 ·have:=h2 x hx;rw[z]at this;simpa using this
def km{scope:Scope}{tg:List Nat}(h:oM C scope tg=true)(i:Nat)(x:Str)(hx:C.N[i]?=some x)(hl:scope.names.lookup x=some .local\/scope.names.lookup x=some .cell):tg.contains i=true:=by
 unfold oM at h;rw[Zf]at h;have:=h i (List.mem_range.mpr (List.getElem?_eq_some_iff.mp hx).1);rw[hx]at this;rcases hl with hl | hl
 ·simp only[hl,beq_self_eq_true,Bool.true_or,Bool.not_true,Bool.false_or]at this;exact this
 ·simp only[hl,beq_self_eq_true,Bool.or_true,Bool.not_true,Bool.false_or]at this;exact this
def qe{X:Cx}{cls:List (Str × Addr)}{scope:Scope}{Ca:Addr}{fp:List Addr}{s:Shared}{H:Hp}{pins:List (Addr × Obj)}{s':Shared}{Y:L2.St}{H':Hp}{Q:Bool->Hp->Prop}(I:Inv (L2.blk X scope cls Ca fp s H) pins Y H' s')(q:oO Y H' Q) :
  wpAny (model X.prog X.w) X.A (iL [] (compEnvC scope cls Ca X.env)) (TP (L2.blk X scope cls Ca fp s H) pins Y Q) (fun _ _=>False) s':=by
 unfold iL;exact QW ⟨H',I,q⟩
def qd{X:Cx}{cls:List (Str × Addr)}{scope:Scope}{Ca:Addr}{fp:List Addr}{s:Shared}{H:Hp}{pins:List (Addr × Obj)}{s':Shared}{Y:L2.St}{H':Hp}{Q:Bool->Hp->Prop}{c:Expr}{t:TT}(hc:PT (L2.blk X scope cls Ca fp s H) c t)(I:Inv (L2.blk X scope cls Ca fp s H) pins Y H' s')(q:t Y H' Q) :
  wpAny (model X.prog X.w) X.A (iL [c] (compEnvC scope cls Ca X.env)) (TP (L2.blk X scope cls Ca fp s H) pins Y Q) (fun _ _=>False) s':=by
 have h:=hc pins s' Y H' Q I q;unfold iL;simp only[List.forIn_cons,List.forIn_nil,if_true];refine QT (QT (thn h fun b s1 hb=>QW ?_));exact QW hb
def oq(h:XOk C X cl){scope:Scope}{cls:List (Str × Addr)}{Ca:Addr}{fp:List Addr}{s:Shared}{H:Hp}{tg:List Nat}(ha:nI C scope tg=true){tgE:Expr}(hc:pI (C.inner scope) tg tgE=true):PG (L2.blk X scope cls Ca fp s H) tgE (gT X.K tg):=by
 have hb:=h.blk (scope:=scope) cls Ca fp s H;unfold nI at ha;rw[Zf]at ha;refine yl hb (fun i x hi hx=>?_) hc;have:=ha i hi;have hx:X.N[i]?=some x:=hx;rw[h.names]at hx;rw[hx]at this;simp only[Bool.or_eq_true,beq_iff_eq]at this;rcases this with z | z
 ·exact .inr (lookup_relabel_local z)
 ·exact .inl (by show(scope.names.lookup x == some .cell)=true;rw[z];rfl)
def fS{α:Type}{o:Option α}(h:o.isNone=true):o=none:=by
 cases o with
 | none=>rfl
 | some _=>cases h
end
mutual
theorem au{cl:RL.Cl}:∀ (e':RL.E) {C:CC} {X:Cx} (h:XOk C X cl) (e:Expr),sg X cl e e' (chk C false e' e) (chk C true e' e)
 | .var i,C,X,h,e=>aD (b:=chk C false (.var i) e) fun z=>by
  obtain⟨x,p,rfl,g1,g2,g3,g4⟩:=eA h z;exact#[FT g1 g2 g3 g4,rfl]
 | .cst d,C,X,h,e=>aD (b:=chk C false (.cst d) e) fun z=>by
  obtain⟨k,z0,z⟩:=ay z;obtain⟨j,p,rfl⟩:=vm z0;exact#[E3 z,rfl]
 | .glb y i,C,X,h,e=>aD (b:=chk C false (.glb y i) e) fun z=>by
  obtain⟨x,z0,z⟩:=ay z;obtain⟨p,rfl⟩:=dY z0;k_go;cbv;rw[beq_iff_eq]at z1 z3;subst z1;exact#[GX h z2 z3,rfl]
 | .bin o a b,C,X,h,e=>aD (b:=chk C false (.bin o a b) e) fun z=>by
  obtain⟨⟨l,op,r⟩,z0,z⟩:=ay z;obtain⟨p,rfl⟩:=Cb z0;k_go;cbv;rw[beq_iff_eq]at z1;have z1:op=sZ o:=z1;subst z1;exact#[GB ((au a h l).1 z2) ((au b h r).1 z3),rfl]
 | .neg a,C,X,h,e=>aD (b:=chk C false (.neg a) e) fun z=>by
  obtain⟨⟨op,x⟩,z0,z⟩:=ay z;obtain⟨p,rfl⟩:=rZ z0;cbv;rw[beq_iff_eq]at z1;have z1:op=.USub:=z1;subst z1;exact#[Fu ((au a h x).1 z2),rfl]
 | .cmp c a b,C,X,h,e=>iC (b:=chk C false (.cmp c a b) e) fun z=>by
  obtain⟨⟨l,os,rs⟩,z0,z⟩:=ay z;obtain⟨p,rfl⟩:=hW z0;obtain⟨op,y1,z⟩:=aR z;obtain⟨r,y2,z⟩:=aR z;have y1:os=[op]:=y1;have y2:rs=[r]:=y2;subst y1 y2;k_go;cbv;rw[beq_iff_eq]at z1;subst z1;exact#[EF h.hu ((au a h l).1 z2) ((au b h r).1 z3),FA h.hu ((au a h l).1 z2) ((au b h r).1 z3),rfl]
 | .chain c c' a b d,C,X,h,e=>iC (b:=chk C false (.chain c c' a b d) e) fun z=>by
  obtain⟨⟨l,os,rs⟩,z0,z⟩:=ay z;obtain⟨p,rfl⟩:=hW z0;obtain⟨op,op',y1,z⟩:=cG z;obtain⟨r,s,y2,z⟩:=cG z;have y1:os=[op,op']:=y1;have y2:rs=[r,s]:=y2;subst y1 y2;obtain⟨z,z5⟩:=ag z;obtain⟨z,z4⟩:=ag z;k_go;cbv;rw[beq_iff_eq]at z1 z2;subst z1 z2;exact#[Ba h.hu ((au a h l).1 z3) ((au b h r).1 z4) ((au d h s).1 z5),Au h.hu ((au a h l).1 z3) ((au b h r).1 z4) ((au d h s).1 z5),rfl]
 | .isN neg a,C,X,h,e=>iC (b:=chk C false (.isN neg a) e) fun z=>by
  obtain⟨⟨l,os,rs⟩,z0,z⟩:=ay z;obtain⟨p,rfl⟩:=hW z0;obtain⟨op,y1,z⟩:=aR z;obtain⟨r,y2,z⟩:=aR z;have y1:os=[op]:=y1;have y2:rs=[r]:=y2;subst y1 y2;k_go;cbv;rw[beq_iff_eq]at z1;subst z1;obtain⟨k,w0,w⟩:=ay z2;obtain⟨j,q,rfl⟩:=vm w0;have w:=De w;subst w;exact#[HC ((au a h l).1 z3),EM ((au a h l).1 z3),rfl]
 | .inn neg a b,C,X,h,e=>iC (b:=chk C false (.inn neg a b) e) fun z=>by
  obtain⟨⟨l,os,rs⟩,z0,z⟩:=ay z;obtain⟨p,rfl⟩:=hW z0;obtain⟨op,y1,z⟩:=aR z;obtain⟨r,y2,z⟩:=aR z;have y1:os=[op]:=y1;have y2:rs=[r]:=y2;subst y1 y2;obtain⟨z,z4⟩:=ag z;k_go;cbv;rw[beq_iff_eq]at z1;subst z1;exact#[EL ((au a h l).1 z3) ((au b h r).1 z4) z2,ED ((au a h l).1 z3) ((au b h r).1 z4) z2,rfl]
 | .inD neg a b,C,X,h,e=>iC (b:=chk C false (.inD neg a b) e) fun z=>by
  obtain⟨⟨l,os,rs⟩,z0,z⟩:=ay z;obtain⟨p,rfl⟩:=hW z0;obtain⟨op,y1,z⟩:=aR z;obtain⟨r,y2,z⟩:=aR z;have y1:os=[op]:=y1;have y2:rs=[r]:=y2;subst y1 y2;obtain⟨z,z4⟩:=ag z;k_go;cbv;rw[beq_iff_eq]at z1;subst z1;exact#[HP h.hu ((au a h l).1 z3) ((au b h r).1 z4) z2,G1 h.hu ((au a h l).1 z3) ((au b h r).1 z4) z2,rfl]
 | .and a b,C,X,h,e=>⟨(fun z=>by
   obtain⟨⟨op,es,p⟩,z0,z⟩:=ay z;obtain⟨l,r,rest,y1,z⟩:=nL z;have e0:=ky z0;have y1:es=l::r::rest:=y1;k_go;cbv;rw[beq_iff_eq]at z1;have z1:op=.And:=z1;subst y1 z1 e0;refine Ho ((au a h l).1 z2) ?_;split at z3
   ·rename_i hr;rw[Q8]at hr;subst hr;exact yH ((au b h r).1 z3)
   ·exact(au b h _).1 z3),(fun z=>by
   obtain⟨⟨op,es,p⟩,z0,z⟩:=ay z;obtain⟨l,r,rest,y1,z⟩:=nL z;have e0:=ky z0;have y1:es=l::r::rest:=y1;k_go;cbv;rw[beq_iff_eq]at z1;have z1:op=.And:=z1;subst y1 z1 e0
   have w:SW X cl (.BoolOp .And (l::r::rest) p) (.and a b):=by
    refine GR ((au a h l).2 z2).1 ?_;split at z3
    ·rename_i hr;rw[Q8]at hr;subst hr;exact ze ((au b h r).2 z3).1
    ·exact((au b h _).2 z3).2 rfl
   exact#[w.pt,fun _=>w])⟩
 | .or a b,C,X,h,e=>⟨(fun z=>by
   obtain⟨⟨op,es,p⟩,z0,z⟩:=ay z;obtain⟨l,r,rest,y1,z⟩:=nL z;have e0:=ky z0;have y1:es=l::r::rest:=y1;k_go;cbv;rw[beq_iff_eq]at z1;have z1:op=.Or:=z1;subst y1 z1 e0;refine Ii ((au a h l).1 z2) ?_;split at z3
   ·rename_i hr;rw[Q8]at hr;subst hr;exact yH ((au b h r).1 z3)
   ·exact(au b h _).1 z3),(fun z=>by
   obtain⟨⟨op,es,p⟩,z0,z⟩:=ay z;obtain⟨l,r,rest,y1,z⟩:=nL z;have e0:=ky z0;have y1:es=l::r::rest:=y1;k_go;cbv;rw[beq_iff_eq]at z1;have z1:op=.Or:=z1;subst y1 z1 e0
   have w:SW X cl (.BoolOp .Or (l::r::rest) p) (.or a b):=by
    refine IE ((au a h l).2 z2).1 ?_;split at z3
    ·rename_i hr;rw[Q8]at hr;subst hr;exact ze ((au b h r).2 z3).1
    ·exact((au b h _).2 z3).2 rfl
   exact#[w.pt,fun _=>w])⟩
 | .not a,C,X,h,e=>⟨(fun z=>by
   obtain⟨⟨op,x⟩,z0,z⟩:=ay z;obtain⟨p,rfl⟩:=rZ z0;cbv;rw[beq_iff_eq]at z1;have z1:op=.Not:=z1;subst z1
   exact HY ((au a h x).1 z2)),(fun z=>by
   obtain⟨⟨op,x⟩,z0,z⟩:=ay z;obtain⟨p,rfl⟩:=rZ z0;cbv;rw[beq_iff_eq]at z1;have z1:op=.Not:=z1;subst z1
   exact⟨Em ((au a h x).2 z2).1,fun q=>by cases q⟩)⟩
 | .ifx c a b,C,X,h,e=>⟨(fun z=>by
   obtain⟨⟨q,l,r⟩,z0,z⟩:=ay z;obtain⟨p,rfl⟩:=Du z0;obtain⟨z,z4⟩:=ag z;k_go;cbv
   exact HZ ((au c h q).2 z2).1 ((au a h l).1 z3) ((au b h r).1 z4)),(fun z=>by
   obtain⟨⟨q,l,r⟩,z0,z⟩:=ay z;obtain⟨z,z4⟩:=ag z;k_go;cbv
   cases z1)⟩
 | .tup es,C,X,h,e=>aD (b:=chk C false (.tup es) e) fun z=>by
  obtain⟨xs,z0,z⟩:=ay z;obtain⟨k,p,rfl⟩:=cW z0;cbv;exact#[Ep (kg es h _ z1).1 (by simpa using z2),rfl]
 | .lst es,C,X,h,e=>aD (b:=chk C false (.lst es) e) fun z=>by
  obtain⟨xs,z0,z⟩:=ay z;obtain⟨p,rfl⟩:=DI z0;cbv;exact#[HW (kg es h _ z1).1 (by simpa using z2),rfl]
 | .ix a b,C,X,h,e=>aD (b:=chk C false (.ix a b) e) fun z=>by
  obtain⟨⟨l,r⟩,z0,z⟩:=ay z;obtain⟨p,rfl⟩:=dD z0;k_go;cbv;exact#[IQ ((au a h l).1 z2) ((au b h r).1 z3) z1,rfl]
 | .ixD a b,C,X,h,e=>aD (b:=chk C false (.ixD a b) e) fun z=>by
  obtain⟨⟨l,r⟩,z0,z⟩:=ay z;obtain⟨p,rfl⟩:=dD z0;k_go;cbv;exact#[EZ h.hu ((au a h l).1 z2) ((au b h r).1 z3) (zu z1),rfl]
 | .slT a b,C,X,h,e=>aD (b:=chk C false (.slT a b) e) fun z=>by
  obtain⟨⟨l,s⟩,z0,z⟩:=ay z;obtain⟨p,rfl⟩:=dD z0;obtain⟨z1,z⟩:=ag z;obtain⟨⟨s1,s2,s3⟩,z0,z⟩:=ay z;obtain⟨q,e0⟩:=nT z0;have e0:s=.Slice s1 s2 s3 q:=e0;obtain⟨z,z4⟩:=ag z;obtain⟨z2,z3⟩:=ag z;have w2:s1=none:=fS z2;have w3:s3=none:=fS z3;obtain⟨r,y0,z4⟩:=ay z4;have y1:s2=some r:=y0;rw[w2,w3,y1]at e0;subst e0;exact#[G9 ((au a h l).1 z1) ((au b h r).1 z4),rfl]
 | .slF a b,C,X,h,e=>aD (b:=chk C false (.slF a b) e) fun z=>by
  obtain⟨⟨l,s⟩,z0,z⟩:=ay z;obtain⟨p,rfl⟩:=dD z0;obtain⟨z1,z⟩:=ag z;obtain⟨⟨s1,s2,s3⟩,z0,z⟩:=ay z;obtain⟨q,e0⟩:=nT z0;have e0:s=.Slice s1 s2 s3 q:=e0;obtain⟨z,z4⟩:=ag z;obtain⟨z2,z3⟩:=ag z;have w2:s2=none:=fS z2;have w3:s3=none:=fS z3;obtain⟨r,y0,z4⟩:=ay z4;have y1:s1=some r:=y0;rw[w2,w3,y1]at e0;subst e0;exact#[Fp ((au a h l).1 z1) ((au b h r).1 z4),rfl]
 | .rev a,C,X,h,e=>aD (b:=chk C false (.rev a) e) fun z=>by
  obtain⟨⟨l,s⟩,z0,z⟩:=ay z;obtain⟨p,rfl⟩:=dD z0;obtain⟨z1,z⟩:=ag z;obtain⟨⟨s1,s2,s3⟩,z0,z⟩:=ay z;obtain⟨q,e0⟩:=nT z0;have e0:s=.Slice s1 s2 s3 q:=e0;obtain⟨z,z4⟩:=ag z;obtain⟨z2,z3⟩:=ag z;have w2:s1=none:=fS z2;have w3:s2=none:=fS z3;obtain⟨r,y0,z4⟩:=ay z4;have y1:s3=some r:=y0;rw[w2,w3,y1]at e0;subst e0;exact#[Fg ((au a h l).1 z1) z4,rfl]
 | .call f es,C,X,h,e=>aD (b:=chk C false (.call f es) e) fun z=>by
  obtain⟨⟨g,as,ks,p⟩,z0,z⟩:=ay z;have z0:=iu z0;subst z0;obtain⟨z,z4⟩:=ag z;k_go;cbv;obtain⟨x,y0,z1⟩:=ay z1;obtain⟨q,e0⟩:=dY y0;have e0:g=.Name x q:=e0;obtain⟨y1,y2⟩:=ag z1;rw[beq_iff_eq]at y2
  have w2:ks=[]:=by rw[Q8]at z2;exact z2
  subst e0 w2;obtain⟨q1,q2,q3⟩:=kg es h _ z4;dsimp only at z3 q1 q2 q3
  cases as with
  | nil=>cases z3
  |cons y ys=>
   rw[Zo]at q3;exact#[Df h y1 y2 q1 q2 (ag q3).1 (ag q3).2,rfl]
 | .bi o a,C,X,h,e=>by
  have gen:(∀ t,chk C t (.bi o a) e=((wO o).any fun x=>bg C e x fun ys=>of1 ys fun y=>chk C false a y))->sg X cl e (.bi o a) (chk C false (.bi o a) e) (chk C true (.bi o a) e):=fun heq=>by
   rw[heq,heq];refine aD fun z=>?_;obtain⟨x,y0,z⟩:=ay z;obtain⟨p,as,pos,rfl,b1,b2,z3,z4⟩:=bE h z;obtain⟨y,rfl,z4⟩:=aR z4;exact#[Ip h.calm y0 b1 b2 ((au a h y).1 z4) (all1 z3),rfl]
  cases o
  case lenSet =>
   refine aD (b:=chk C false (.bi .lenSet a) e) fun z=>?_;have z:(bg C e "len" fun ys=>of1 ys fun y=>bg C y "set" fun zs=>of1 zs fun z=>chk C false a z)=true:=z;obtain⟨p,as,pos,rfl,b1,b2,z3,z4⟩:=bE h z;obtain⟨y,rfl,z5⟩:=aR z4;obtain⟨p',as',pos',rfl,b1',b2',z3',z6⟩:=bE h z5;obtain⟨y,rfl,z7⟩:=aR z6;exact#[yE h.calm b1 b2 b1' b2' ((au a h y).1 z7) (all1 z3'),rfl]
  all_goals exact gen fun t=>rfl
 | .max a b,C,X,h,e=>aD (b:=chk C false (.max a b) e) fun z=>by
  have z:(bg C e "max" fun ys=>of2 ys fun y z=>chk C false a y&&chk C false b z)=true:=z;obtain⟨p,as,pos,rfl,b1,b2,z3,z4⟩:=bE h z;obtain⟨y,u,rfl,z4⟩:=cG z4;exact#[HN h.calm b1 b2 ((au a h y).1 (ag z4).1) ((au b h u).1 (ag z4).2) (all2 z3).1 (all2 z3).2,rfl]
 | .min a b,C,X,h,e=>aD (b:=chk C false (.min a b) e) fun z=>by
  have z:(bg C e "min" fun ys=>of2 ys fun y z=>chk C false a y&&chk C false b z)=true:=z;obtain⟨p,as,pos,rfl,b1,b2,z3,z4⟩:=bE h z;obtain⟨y,u,rfl,z4⟩:=cG z4;exact#[HS h.calm b1 b2 ((au a h y).1 (ag z4).1) ((au b h u).1 (ag z4).2) (all2 z3).1 (all2 z3).2,rfl]
 | .isi a ty,C,X,h,e=>aD (b:=chk C false (.isi a ty) e) fun z=>by
  have z:(bg C e "isinstance" fun ys=>of2 ys fun y z=>(gm z).any (fun x=>x == sq ty&&tV C x)&&chk C false a y)=true:=z;obtain⟨p,as,pos,rfl,b1,b2,z3,z4⟩:=bE h z;obtain⟨y,u,rfl,z4⟩:=cG z4;obtain⟨z5,z6⟩:=ag z4;obtain⟨x,w0,w⟩:=ay z5;obtain⟨q,rfl⟩:=dY w0;obtain⟨w1,w2⟩:=ag w;rw[beq_iff_eq]at w1;subst w1;obtain⟨t1,t2,t3⟩:=xv ty;exact#[EB b1 b2 (h.bl w2).1 (h.bl w2).2 t1 t2 t3 ((au a h y).1 z6) (all2 z3).1,rfl]
 | .rng1 a,C,X,h,e=>aD (b:=chk C false (.rng1 a) e) fun z=>by
  have z:(bg C e "list" fun ys=>of1 ys fun y=>bg C y "range" fun zs=>of1 zs fun z=>chk C false a z)=true:=z;obtain⟨p,as,pos,rfl,b1,b2,z3,z4⟩:=bE h z;obtain⟨y,rfl,z5⟩:=aR z4;obtain⟨p',as',pos',rfl,b1',b2',z3',z6⟩:=bE h z5;obtain⟨y,rfl,z7⟩:=aR z6;exact#[CG h.calm b1 b2 b1' b2' ((au a h y).1 z7) (all1 z3'),rfl]
 | .rng2 a b,C,X,h,e=>aD (b:=chk C false (.rng2 a b) e) fun z=>by
  have z:(bg C e "list" fun ys=>of1 ys fun y=>bg C y "range" fun zs=>of2 zs fun z u=>chk C false a z&&chk C false b u)=true:=z;obtain⟨p,as,pos,rfl,b1,b2,z3,z4⟩:=bE h z;obtain⟨y,rfl,z5⟩:=aR z4;obtain⟨p',as',pos',rfl,b1',b2',z3',z6⟩:=bE h z5;obtain⟨y,u,rfl,z7⟩:=cG z6;exact#[DD h.calm b1 b2 b1' b2' ((au a h y).1 (ag z7).1) ((au b h u).1 (ag z7).2) (all2 z3').1 (all2 z3').2,rfl]
 | .rng3 c a b,C,X,h,e=>aD (b:=chk C false (.rng3 c a b) e) fun z=>by
  have z:(bg C e "list" fun ys=>of1 ys fun y=>bg C y "range" fun zs=>of3 zs fun z u q=>fG c q&&chk C false a z&&chk C false b u)=true:=z;obtain⟨p,as,pos,rfl,b1,b2,z3,z4⟩:=bE h z;obtain⟨y,rfl,z5⟩:=aR z4;obtain⟨p',as',pos',rfl,b1',b2',z3',z6⟩:=bE h z5;obtain⟨y,u,q,rfl,z7⟩:=xY z6;obtain⟨z7,z9⟩:=ag z7;obtain⟨z7,z8⟩:=ag z7;exact#[DB h.calm b1 b2 b1' b2' ((au a h y).1 z8) ((au b h u).1 z9) (pe z3').1 (pe z3').2.1 z7,rfl]
 | .comp d tg it c,C,X,h,e=>aD (b:=chk C false (.comp d tg it c) e) fun z=>by
  obtain⟨⟨elt,gens,scope,p⟩,z0,z⟩:=ay z;have z0:=ud z0;subst z0;obtain⟨⟨tgE,iter,ifs,asy⟩,y1,z⟩:=aR z;have y1:gens=[⟨tgE,iter,ifs,asy⟩]:=y1;obtain⟨w,y2,z⟩:=aR z;have y2:ifs=[w]:=y2;obtain⟨z,z8⟩:=ag z;obtain⟨z,z7⟩:=ag z;obtain⟨z,z6⟩:=ag z;obtain⟨z,z5⟩:=ag z;obtain⟨z,z4⟩:=ag z;k_go;obtain⟨z,z2⟩:=ag z;obtain⟨z0,z1⟩:=ag z;rw[beq_iff_eq]at z0;have w0:asy=0:=z0;subst y1 w0;subst y2;refine#[Bh (fun _ _ _ _=>h.calm) (by rw[h.scope];exact qT z1) (jS it h _ _ z6) ?_ (gu z3 _),rfl];exact#[fun cls Ca fp s H=>oq h z5 z4,fun cls Ca fp s H pins s' Y H' Q I q=>qd ((au c (h.blk cls Ca fp s H) _).2 z8).1 I q,fun cls Ca fp s H=>(au d (h.blk cls Ca fp s H) _).1 z7,fun i x hx hl=>km z2 i x (by rw[<-h.names];exact hx) hl]
 | .compA d tg it,C,X,h,e=>aD (b:=chk C false (.compA d tg it) e) fun z=>by
  obtain⟨⟨elt,gens,scope,p⟩,z0,z⟩:=ay z;have z0:=ud z0;subst z0;obtain⟨⟨tgE,iter,ifs,asy⟩,y1,z⟩:=aR z;have y1:gens=[⟨tgE,iter,ifs,asy⟩]:=y1;obtain⟨z,z7⟩:=ag z;obtain⟨z,z6⟩:=ag z;obtain⟨z,z5⟩:=ag z;obtain⟨z,z4⟩:=ag z;k_go;obtain⟨z,z2⟩:=ag z;obtain⟨z,z1⟩:=ag z;obtain⟨y2,z0⟩:=ag z;rw[beq_iff_eq]at z0;have w0:asy=0:=z0
  have w2:ifs=[]:=by rw[Q8]at y2;exact y2
  subst y1 w0;subst w2;refine#[Ai h.calm (by rw[h.scope];exact qT z1) (jS it h _ _ z6) ?_ (gu z3 _),rfl];exact#[fun cls Ca fp s H=>oq h z5 z4,fun cls Ca fp s H pins s' Y H' Q I q=>qe I q,fun cls Ca fp s H=>(au d (h.blk cls Ca fp s H) _).1 z7,fun i x hx hl=>km z2 i x (by rw[<-h.names];exact hx) hl]
 | .dk0,C,X,h,e=>aD (b:=chk C false .dk0 e) fun z=>by
  obtain⟨⟨ks,vs⟩,z0,z⟩:=ay z;obtain⟨p,rfl⟩:=sN z0;cbv;rw[Q8]at z1 z2;have z1:ks=[]:=z1;have z2:vs=[]:=z2;subst z1 z2;exact#[EW,rfl]
 | .dt0,C,X,h,e=>aD (b:=chk C false .dt0 e) fun z=>by
  obtain⟨⟨ks,vs⟩,z0,z⟩:=ay z;obtain⟨p,rfl⟩:=sN z0;cbv;rw[Q8]at z1 z2;have z1:ks=[]:=z1;have z2:vs=[]:=z2;subst z1 z2;exact#[GF,rfl]
 | .frz a,C,X,h,e=>aD (b:=chk C false (.frz a) e) fun z=>by
  cbv;exact⟨E8 ((au a h e).1 z2),by cases e<;>first | rfl | exact Bool.noConfusion z1⟩
 | .idx2 a b c,C,X,h,e=>aD (b:=chk C false (.idx2 a b c) e) fun z=>by
  obtain⟨⟨g,as,ks,p⟩,z0,z⟩:=ay z;have z0:=iu z0;k_go;cbv;obtain⟨⟨o,nm,apos⟩,y0,z1⟩:=ay z1;have e1:=uq y0;have e1:g=.Attribute o nm apos:=e1;obtain⟨z1,y4⟩:=ag z1;obtain⟨z1,y3⟩:=ag z1;obtain⟨y1,y2⟩:=ag z1;rw[beq_iff_eq]at y1;have y1:nm = "index" := y1;obtain⟨x,hx⟩:=Option.isSome_iff_exists.mp y3;obtain⟨xp,e2⟩:=dY hx;have e2:o=.Name x xp:=e2
  have w2:ks=[]:=by rw[Q8]at z2;exact z2
  obtain⟨y,w,e3,z3⟩:=cG z3;have e3:as=[y,w]:=e3;obtain⟨z3,z6⟩:=ag z3;obtain⟨z3,z5⟩:=ag z3;obtain⟨z3,z7⟩:=ag z3;rw[e1,y1,e2,w2,e3]at z0;subst z0;have y4:chk C false a o=true:=y4;rw[e2]at y4;exact#[Ct ((au a h _).1 y4) ((au b h y).1 z5) ((au c h w).1 z6) z3 z7 y2,rfl]
theorem kg{cl:RL.Cl}:∀ (es':RL.Es) {C:CC} {X:Cx} (h:XOk C X cl) (es:List Expr),oG C es' es=true->SEs X cl es es'/\f9 es'=es.length/\es.all noStar=true
 | .nil,C,X,h,es,z=>by
  have z:es=[]:=Q8.mp z;subst z;exact#[cB,rfl,rfl]
 | .cons e' es',C,X,h,es,z=>by
  cases es with
  | nil=>cases z
  |cons e es=>
   k_go;cbv;obtain⟨q1,q2,q3⟩:=kg es' h es z3;exact#[b0 ((au e' h e).1 z2) q1 z1,by rw[f9,q2,List.length_cons],by rw[Zo,z1,q3];rfl]
theorem jS{cl:RL.Cl}:∀ (it:RL.It) {C:CC} {X:Cx} (h:XOk C X cl) (tg e:Expr),wH C it tg e=true->SI X cl tg e it
 | .seq a,C,X,h,tg,e,z=>Cv ((au a h e).1 z)
 | .rng1 a,C,X,h,tg,e,z=>by
  have z:(bg C e "range" fun ys=>of1 ys fun y=>chk C false a y)=true:=z;obtain⟨p,as,pos,rfl,b1,b2,z3,z4⟩:=bE h z;obtain⟨y,rfl,z4⟩:=aR z4;exact Ee b1 b2 ((au a h y).1 z4) (all1 z3)
 | .rng2 a b,C,X,h,tg,e,z=>by
  have z:(bg C e "range" fun ys=>of2 ys fun y z=>chk C false a y&&chk C false b z)=true:=z;obtain⟨p,as,pos,rfl,b1,b2,z3,z4⟩:=bE h z;obtain⟨y,u,rfl,z4⟩:=cG z4;exact Dz b1 b2 ((au a h y).1 (ag z4).1) ((au b h u).1 (ag z4).2) (all2 z3).1 (all2 z3).2
 | .rng3 c a b,C,X,h,tg,e,z=>by
  have z:(bg C e "range" fun ys=>of3 ys fun y z q=>fG c q&&chk C false a y&&chk C false b z)=true:=z;obtain⟨p,as,pos,rfl,b1,b2,z3,z4⟩:=bE h z;obtain⟨y,u,q,rfl,z4⟩:=xY z4;obtain⟨z4,z6⟩:=ag z4;obtain⟨z4,z5⟩:=ag z4;exact C2 b1 b2 ((au a h y).1 z5) ((au b h u).1 z6) (pe z3).1 (pe z3).2.1 z4
 | .enm a,C,X,h,tg,e,z=>by
  obtain⟨z0,zz⟩:=ag z;obtain⟨ts,z0⟩:=Option.isSome_iff_exists.mp z0;obtain⟨k,tp,rfl⟩:=cW z0;obtain⟨p,as,pos,rfl,b1,b2,z3,z4⟩:=bE h zz;obtain⟨y,rfl,z4⟩:=aR z4;exact Dl b1 b2 ((au a h y).1 z4) (all1 z3)
 | .zip a b,C,X,h,tg,e,z=>by
  obtain⟨z0,zz⟩:=ag z;obtain⟨ts,z0⟩:=Option.isSome_iff_exists.mp z0;obtain⟨k,tp,rfl⟩:=cW z0;obtain⟨p,as,pos,rfl,b1,b2,z3,z4⟩:=bE h zz;obtain⟨y,u,rfl,z4⟩:=cG z4;exact PI'.calm (HU b1 b2 ((au a h y).1 (ag z4).1) ((au b h u).1 (ag z4).2) (all2 z3).1 (all2 z3).2)
end
abbrev jQ:Expr->Bool
 | .ListComp _ _ _ _=>false
 | .SetComp _ _ _ _=>false
 | .DictComp _ _ _ _ _=>false
 | _=>true
abbrev x8:Expr->Bool
 | .Tuple vs _ _=>vs.all (foldedForSure 8)
 | _=>true
abbrev A2(e:Expr):Bool:=match e with
 | .SetComp _ _ _ _=>false
 | .DictComp _ _ _ _ _=>false
 | _=>true
abbrev w4(C:CC)(x y:Str)(px py:Pos)(a b:Expr):Bool :=
 C.sc.kind == .function&&C.sc.names.lookup x == some .local&&C.sc.names.lookup y == some .local&&px.line == py.line && !(x == y)&&noStar a&&noStar b && !(foldedForSure 8 a&&foldedForSure 8 b) && !(constantsAlone 8 a&&constantsAlone 8 b)
abbrev vk(M:List Nat):RL.E->Bool
 | .var i=>M.contains i
 | _=>false
abbrev wd(C:CC):RL.Es->List Expr->Bool
 | .nil=>fun xs=>xs.isEmpty
 | .cons e es=>fun xs=>match xs with
  | x::xs=>noStar x&&chk C false e x&&wd C es xs
  | []=>false
abbrev kS:Expr->Option (Str × Pos)
 | .Name x p=>some (x,p)
 | _=>none
def jk{e:Expr}{x:Str}{p:Pos}(h:kS e=some (x,p)):e=.Name x p:=by
 cases e
 case Name=>cases h;rfl
 all_goals exact nos h
abbrev qK(C:CC)(i:Nat)(nm:Str)(e:Expr)(f:List Expr->Bool):Bool:=(kz e).any fun q=>(xf q.1).any (fun a=>iR C i a.1&&a.2.1 == nm&&a.2.2.endLine == q.2.2.2.line)&&q.2.2.1.isEmpty&&f q.2.1
abbrev nH(C:CC)(M:List Nat)(f:Nat)(es:RL.Es)(ps ms:List Nat)(e:Expr):Bool:=(kz e).any fun q=>(gm q.1).any (fun x=>glB C x&&C.F[f]? == some (x,ps))&&q.2.2.1.isEmpty && !q.2.1.isEmpty && !ps.isEmpty&&wd C es q.2.1&&cj es ps ms&&ms.all (fun i=>M.contains i)&&decide ms.Nodup&&decide ps.Nodup
mutual
noncomputable def Hq(C:CC)(M:List Nat):RL.S->Stmt->Bool
 | .asg i e'=>fun st=>(kY st).any fun q=>of1 q.1 fun t=>kn C i t && !M.contains i&&A2 q.2&&chk C false e' q.2
 | .own i e'=>fun st=>(kY st).any fun q=>of1 q.1 fun t=>kn C i t&&M.contains i&&decide (M.count i<2)&&A2 q.2&&chk C false e' q.2
 | .unp is e'=>fun st=>(kY st).any fun q=>of1 q.1 fun t=>(gJ t).any fun ts=>lG C is ts&&is.all (fun i=>!M.contains i)&&x8 q.2&&chk C false e' q.2
 | .par i j a' b'=>fun st=>(kY st).any fun q=>of1 q.1 fun t=>(gJ t).any fun ts=>of2 ts fun s u=>(kS s).any fun x=>(kS u).any fun y=>(gJ q.2).any fun vs=>of2 vs fun a b=>nmB C i x.1&&nmB C j y.1 && !(i == j) && !M.contains i && !M.contains j&&w4 C x.1 y.1 x.2 y.2 a b&&chk C false a' a&&chk C false b' b
 | .parL i j a' b'=>fun st=>(kY st).any fun q=>of1 q.1 fun t=>(gJ t).any fun ts=>of2 ts fun s u=>(kS s).any fun x=>(kS u).any fun y=>(gJ q.2).any fun vs=>of2 vs fun a b=>nmB C i x.1&&nmB C j y.1 && !(i == j) && !M.contains i && !M.contains j&&w4 C x.1 y.1 x.2 y.2 a b&&chk C false a' a&&chk C false b' b
 | .app i e'=>fun st=>(xb st).any fun e=>qK C i "append" e fun as=>of1 as fun y=>M.contains i&&noStar y&&chk C false e' y
 | .put i k' e'=>fun st=>(kY st).any fun q=>of1 q.1 fun t=>(iB t).any fun u=>iR C i u.1&&M.contains i&&k9 u.2&&jQ q.2&&chk C false k' u.2&&chk C false e' q.2
 | .del i k'=>fun st=>(Bb st).any fun ts=>of1 ts fun t=>(iB t).any fun u=>iR C i u.1&&M.contains i&&chk C false k' u.2
 | .dels i a' b'=>fun st=>(Bb st).any fun ts=>of1 ts fun t=>(iB t).any fun u=>iR C i u.1&&M.contains i&&(vSl u.2).any fun s=>s.2.2.isNone&&s.1.any (fun r=>chk C false a' r)&&s.2.1.any fun r=>chk C false b' r
 | .ife c' a' b'=>fun st=>(wIf st).any fun q=>chk C true c' q.1&&gS C M a' q.2.1&&gS C M b' q.2.2
 | .forr tg it b'=>fun st=>(HD st).any fun q=>q.2.2.2.isEmpty&&wH C it q.1 q.2.1&&pI C tg q.1&&oi q.2.1&&RL.vZ M it&&tg.all (fun i=>!M.contains i)&&gS C M b' q.2.2.1
 | .mexc f es ps ms=>fun st=>(xb st).any fun e=>nH C M f es ps ms e
 | .maug i f es ps ms=>fun st=>(FV st).any fun q=>kn C i q.1 && !M.contains i&&q.2.1 == .Add&&nH C M f es ps ms q.2.2
 | .ret e'=>fun st=>(Fz st).any fun o=>o.any (fun e=>chk C false e' e) || (o.isNone&&rK e')
 | .exc e'=>fun st=>(xb st).any fun e=>jQ e&&chk C false e' e
 | .put2 i k' l' a' b'=>fun st=>(kY st).any fun q=>of1 q.1 fun t=>(gJ t).any fun ts=>of2 ts fun s u=>(iB s).any fun x=>(iB u).any fun y=>(gJ q.2).any fun vs=>of2 vs fun a b=>iR C i x.1&&iR C i y.1&&M.contains i&&k9 x.2&&k9 y.2&&chk C false k' x.2&&chk C false l' y.2&&noStar a&&noStar b&&chk C false a' a&&chk C false b' b
 | .ifp i e' a' b'=>fun st=>(wIf st).any fun q=>(mL q.1).any fun u=>of1 u.2.1 fun op=>of1 u.2.2 fun e=>op == .NotEq&&M.contains i&&chk C false e' e&&gS C M a' q.2.1&&gS C M b' q.2.2&&qK C i "pop" u.1 fun as=>as.isEmpty
 | .whil c' b'=>fun st=>(Hd st).any fun q=>q.2.2.isEmpty&&chk C true c' q.1&&gS C M b' q.2.1
 | .rais _ _=>fun _=>true
noncomputable def gS(C:CC)(M:List Nat):RL.Ss->List Stmt->Bool
 | .nil=>fun xs=>xs.isEmpty
 | .cons s r=>fun xs=>match xs with
  | x::xs=>Hq C M s x&&gS C M r xs
  | []=>false
 | .act _ _ _ _ _=>fun _=>false
 | .opn _ _ _=>fun _=>false
end
structure YOk(C:CC)(X:Cx)(cl:RL.Cl):Prop extends XOk C X cl where
 fn:∀ x,X.fn x=true
section
variable{C:CC}{X:Cx}{cl:RL.Cl}{M:List Nat}{st:Stmt}{e:Expr}{e' k':RL.E}{i:Nat}
def i9{t:Option Expr}{l:Nat}{env:Env}(h:jQ e=true):swapsWith e t l env=pure false:=by
 cases e<;>first | rfl | (cases h;done)
def BJ{t:Expr}{spos:Pos}(h:YOk C X cl)(hn:kn C i t=true)(ha:A2 e=true)(hc:chk C false e' e=true):SA X cl (.Assign [t] e spos) i e':=by
 obtain⟨y,py,rfl,hN,hl⟩:=kA h.toXOk hn
 have plain:swapsWith e (some (.Name y py)) spos.line X.env=pure false->SA X cl (.Assign [.Name y py] e spos) i e':=fun z =>
  Ab h.ndX hN hl ((au e' h.toXOk e).1 hc) (.inl (h.fn y)) z trivial
 by_cases hcomp:jQ e=true
 ·exact plain (i9 hcomp)
 ·have:∃ elt gens scope p,e=.ListComp elt gens scope p:=by
   cases e<;>first | exact absurd rfl hcomp | exact Bool.noConfusion ha | exact#[_,_,_,_,rfl]
  obtain⟨elt,gens,scope,p,rfl⟩:=this;have hsw:swapsWith (.ListComp elt gens scope p) (some (.Name y py)) spos.line X.env=pure (X.env.blockKind == .function&&X.env.kindOf y == some .local&&py.line == p.line && !(scope.names.any fun(n,k)=>n == y&&(k == .local || k == .cell))):=rfl;by_cases hb:(X.env.blockKind == .function&&X.env.kindOf y == some .local&&py.line == p.line && !(scope.names.any fun(n,k)=>n == y&&(k == .local || k == .cell)))=true
  ·have hy:X.env.scope.names.lookup y=some .local:=by
    obtain⟨q,_⟩:=ag (ag hb).1;have q2:=(ag q).2;rw[beq_iff_eq]at q2;exact q2
   rw[hb]at hsw;by_cases hk:∃ d tg it c,e'=.comp d tg it c
   ·obtain⟨d,tg,it,c,rfl⟩:=hk;obtain⟨⟨tgE,iter,ifs,asy⟩,y1,z⟩:=aR hc;have y1:gens=[⟨tgE,iter,ifs,asy⟩]:=y1;obtain⟨w,y2,z⟩:=aR z;have y2:ifs=[w]:=y2;obtain⟨z,z8⟩:=ag z;obtain⟨z,z7⟩:=ag z;obtain⟨z,z6⟩:=ag z;obtain⟨z,z5⟩:=ag z;obtain⟨z,z4⟩:=ag z;k_go;obtain⟨z,z2⟩:=ag z;obtain⟨z0,z1⟩:=ag z;rw[beq_iff_eq]at z0;have w0:asy=0:=z0;subst y1 w0;subst y2;refine AD h.calm h.ndX hN hy (by rw[h.scope];exact qT z1) (jS it h.toXOk _ _ z6) ?_ (gu z3 _) hsw;exact#[fun cls Ca fp s H=>oq h.toXOk z5 z4,fun cls Ca fp s H pins s' Y H' Q I q=>qd ((au c (h.toXOk.blk cls Ca fp s H) _).2 z8).1 I q,fun cls Ca fp s H=>(au d (h.toXOk.blk cls Ca fp s H) _).1 z7,fun i x hx hl=>km z2 i x (by rw[<-h.names];exact hx) hl]
   ·by_cases hk2:∃ d tg it,e'=.compA d tg it
    ·obtain⟨d,tg,it,rfl⟩:=hk2;obtain⟨⟨tgE,iter,ifs,asy⟩,y1,z⟩:=aR hc;have y1:gens=[⟨tgE,iter,ifs,asy⟩]:=y1;obtain⟨z,z7⟩:=ag z;obtain⟨z,z6⟩:=ag z;obtain⟨z,z5⟩:=ag z;obtain⟨z,z4⟩:=ag z;k_go;obtain⟨z,z2⟩:=ag z;obtain⟨z,z1⟩:=ag z;obtain⟨y2,z0⟩:=ag z;rw[beq_iff_eq]at z0;have w0:asy=0:=z0
     have w2:ifs=[]:=by rw[Q8]at y2;exact y2
     subst y1 w0;subst w2;refine AG h.calm h.ndX hN hy (by rw[h.scope];exact qT z1) (jS it h.toXOk _ _ z6) ?_ (gu z3 _) hsw;exact#[fun cls Ca fp s H=>oq h.toXOk z5 z4,fun cls Ca fp s H pins s' Y H' Q I q=>qe I q,fun cls Ca fp s H=>(au d (h.toXOk.blk cls Ca fp s H) _).1 z7,fun i x hx hl=>km z2 i x (by rw[<-h.names];exact hx) hl]
    ·cases e'<;>first | exact Bool.noConfusion hc | exact absurd ⟨_,_,_,_,rfl⟩ hk | exact absurd ⟨_,_,_,rfl⟩ hk2 | (rename_i b a;cases b<;>exact Bool.noConfusion hc)
  ·have hb':=Bool.not_eq_true _▸hb;rw[hb']at hsw;exact plain hsw
def tP(h:XOk C X cl):∀ {es':RL.Es} {es:List Expr},wd C es' es=true->PA X es (iX X.K cl es')/\es.all noStar=true
 | .nil,es,z=>by
  have z:es=[]:=Q8.mp z;subst z;exact#[d5,rfl]
 | .cons _ _,[],z=>by cases z
 | .cons e' es',e::es,z=>by
  k_go;cbv;obtain⟨q1,q2⟩:=tP h z3;refine#[?_,by rw[Zo,z1,q2];rfl];rw[iX];refine bH ?_ q1 (a8 es z1);by_cases hv:∃ j,e'=.var j
  ·obtain⟨j,rfl⟩:=hv;obtain⟨x,p,rfl,g1,g2,g3,g4⟩:=eA h z2;exact eI g1 g2 g3 g4
  ·have ht:wW X.K cl e'=tE X.K cl e':=by
    cases e'<;>first | rfl | exact absurd ⟨_,rfl⟩ hv
   rw[ht];exact(au _ h e).1 z2
def uR{is:List Nat}(h:is.all (fun i=>!M.contains i)=true):∀ i∈is,M.contains i=false:=fun i hi=>by
 rw[Zf]at h;simpa using h i hi
def Fd{is:List Nat}(h:is.all (fun i=>M.contains i)=true):∀ i∈is,M.contains i=true:=fun i hi=>by
 rw[Zf]at h;exact h i hi
def jE{b:Bool}(h:(!b)=true):b=false:=by simpa using h
def rf{f:Nat}{ps ms:List Nat}{es:RL.Es}(h:XOk C X cl)(z:nH C M f es ps ms e=true):PE X e (oj (spM X.K cl ps f) [] E0 (iX X.K cl es))/\cj es ps ms=true/\(∀ i∈ms,M.contains i=true)/\ms.Nodup/\ps.Nodup/\jQ e=true:=by
 unfold nH at z;obtain⟨⟨g,as,ks,pos⟩,z0,z⟩:=ay z;have e0:=iu z0;obtain⟨z,z9⟩:=ag z;obtain⟨z,z8⟩:=ag z;obtain⟨z,z7⟩:=ag z;obtain⟨z,z6⟩:=ag z;obtain⟨z,z5⟩:=ag z;obtain⟨z,z4⟩:=ag z;k_go;cbv;obtain⟨x,y0,z1⟩:=ay z1;obtain⟨p,e1⟩:=dY y0;have e1:g=.Name x p:=e1;obtain⟨y1,y2⟩:=ag z1;rw[beq_iff_eq]at y2
 have w2:ks=[]:=by rw[Q8]at z2;exact z2
 rw[e1,w2]at e0;subst e0;refine#[?_,z6,Fd z7,by simpa using z8,by simpa using z9,rfl];obtain⟨k,fa,fd,pn,F,hr,hm,hk,hb⟩:=h.fns f x ps y2;rw[if_neg (fun z=>by subst z;cases z4)]at F;obtain⟨q1,q2⟩:=tP h z5;obtain⟨g1,g2⟩:=h.gl y1
 cases as with
 | nil=>cases z3
 |cons y ys=>
  rw[Zo]at q2;exact vt F hr g1 hm hk hb .nil BO q1 (fI g2).1 (a8 ys (ag q2).1) (dZ (ag q2).2)
def uU{nm:Str}{f:List Expr->Bool}(h:XOk C X cl)(z:qK C i nm e f=true):∃ x p apos as pos,e=.Call (.Attribute (.Name x p) nm apos) as [] pos/\X.N[i]?=some x/\Vis X.env.scope x/\(x == ("__debug__" : Str))=false/\(x == ("__classdict__" : Str))=false/\(apos.endLine == pos.line)=true/\f as=true:=by
 unfold qK at z;obtain⟨⟨g,as,ks,pos⟩,z0,z⟩:=ay z;have e0:=iu z0;k_go;cbv;obtain⟨⟨o,a,apos⟩,y0,z1⟩:=ay z1;have e1:=uq y0;have e1:g=.Attribute o a apos:=e1;obtain⟨z1,y3⟩:=ag z1;obtain⟨y1,y2⟩:=ag z1;rw[beq_iff_eq]at y2;have y2:a=nm:=y2
 have w2:ks=[]:=by rw[Q8]at z2;exact z2
 obtain⟨x,p,e2,g1,g2,g3,g4⟩:=eA h y1;have e2:o=.Name x p:=e2;rw[e1,w2,y2,e2]at e0;exact#[x,p,apos,as,pos,e0,g1,g2,g3,g4,y3,z3]
def Cc(h1:PS X st (oV (tE X.K cl e') (uh (gK i) (tE X.K cl k') nX)))(h2:PS X st (vR (gK i) (tE X.K cl k') (tE X.K cl e')))(hi:M.contains i=true):SS X cl M st (.put i k' e'):=by
 have a1:=Fe h1 hi trivial;have a2:=Cy h2 hi;intro pins s Y H D I h;k_all;obtain⟨d,e1,e⟩:=bind_some e;obtain⟨kk,e2,e⟩:=bind_some e;obtain⟨l,e3,e⟩:=bind_some e
 cases l with
 | lst ds=>exact a1 pins s Y H D I ⟨Zy,o,ZD,rv,by dsimp only;rw[e1];dsimp only[Option.bind_some];rw[e2];dsimp only[Option.bind_some];rw[e3];exact e,k⟩
 | _=>exact a2 pins s Y H D I ⟨Zy,o,ZD,rv,by dsimp only;rw[e1];dsimp only[Option.bind_some];rw[e2];dsimp only[Option.bind_some];rw[e3];exact e,k⟩
def kd{o k:Expr}{pos:Pos}{env:Env}(h:k9 k=true)(v:Value):assign (.Subscript o k pos) env v=(do
   let ov <- holding [v] (eval o env)
   let iv <- holding [v,ov] (eval k env)
   standAt pos
   holding [v,ov,iv] (setItem ov iv v)
   release [v,ov,iv] []):=by
 cases k<;>first | rfl | (cases h;done)
def xQ{us:List Expr}{kk:Nat}{tp:Pos}{env:Env}(h:x8 e=true):swappedStores [.Tuple us kk tp] e env=pure none:=by
 cases e with
 |Tuple vs k p=>
  have h:vs.all (foldedForSure 8)=true:=h;unfold swappedStores;dsimp only;split
  ·rfl
  ·split
   ·rfl
   ·split
    ·rfl
    ·first | rfl | (rw[if_pos h];rfl)
 | _=>rfl
def yq{x y:Str}{px py pt pt2:Pos}{kt k2:Nat}{a b:Expr}(h:XOk C X cl)(hp:w4 C x y px py a b=true):swappedStores [.Tuple [.Name x px,.Name y py] kt pt] (.Tuple [a,b] k2 pt2) X.env=pure (some [x,y]) /\
  X.env.scope.names.lookup x=some .local/\X.env.scope.names.lookup y=some .local/\noStar a=true/\noStar b=true:=by
 unfold w4 at hp;obtain⟨hp,h9⟩:=ag hp;obtain⟨hp,h8⟩:=ag hp;obtain⟨hp,h7⟩:=ag hp;obtain⟨hp,h6⟩:=ag hp;obtain⟨hp,h5⟩:=ag hp;obtain⟨hp,h4⟩:=ag hp;obtain⟨hp,h3⟩:=ag hp;obtain⟨h1,h2⟩:=ag hp;rw[beq_iff_eq]at h1 h2 h3 h4;rw[<-h.scope]at h1 h2 h3;refine#[?_,h2,h3,h6,h7]
 have bk:X.env.blockKind=.function:=by
  unfold Env.blockKind;rw[h1];rfl
 have k1:X.env.kindOf x=some .local:=h2;have k2:X.env.kindOf y=some .local:=h3
 have hxy:x≠y:=by simpa using h5
 have fs':foldedForSure 8 a=true->foldedForSure 8 b=false:=fun z=>by simpa[z]using h8
 have ca':constantsAlone 8 a=true->constantsAlone 8 b=false:=fun z=>by simpa[z]using h9
 have ed:[x,y].eraseDups=[x,y]:=by
  rw[List.eraseDups_cons];simp[Ne.symm hxy];rfl
 unfold swappedStores;simp only[bk];simp[show ∀ (x:Str) (p:Pos),(Expr.Name x p).pos=p from fun _ _=>rfl,k1,k2,h4,ed];refine(if_neg ?_).trans ((if_neg ?_).trans (if_neg ?_))
 ·intro hh;rcases hh with hh | hh
  ·cases a<;>first | exact Bool.noConfusion (show false=true from hh) | exact Bool.noConfusion (show false=true from h6)
  ·cases b<;>first | exact Bool.noConfusion (show false=true from hh) | exact Bool.noConfusion (show false=true from h7)
 ·intro hh;have:=fs' hh.1;rw[hh.2]at this;cases this
 ·intro hh;have:=ca' hh.1;rw[hh.2]at this;cases this
end
section
variable{X:Cx}{cl:RL.Cl}
mutual
theorem D0:∀ (s:RL.S) {C:CC} {M:List Nat} (h:YOk C X cl) (st:Stmt),Hq C M s st=true->SS X cl M st s
 | .asg i e',C,M,h,st,z=>by
  obtain⟨⟨ts,e⟩,z0,z⟩:=ay z;obtain⟨p,rfl⟩:=fW z0;obtain⟨t,y1,z⟩:=aR z;have y1:ts=[t]:=y1;obtain⟨z,z4⟩:=ag z;k_go;cbv;subst y1;exact Ge (BJ h z1 z3 z4) (jE z2)
 | .own i e',C,M,h,st,z=>by
  obtain⟨⟨ts,e⟩,z0,z⟩:=ay z;obtain⟨p,rfl⟩:=fW z0;obtain⟨t,y1,z⟩:=aR z;have y1:ts=[t]:=y1;obtain⟨z,z5⟩:=ag z;obtain⟨z,z4⟩:=ag z;k_go;cbv;subst y1;exact FY (BJ h z1 z4 z5) z2 (by simpa using z3)
 | .unp is e',C,M,h,st,z=>by
  obtain⟨⟨ts,e⟩,z0,z⟩:=ay z;obtain⟨p,rfl⟩:=fW z0;obtain⟨t,y1,z⟩:=aR z;have y1:ts=[t]:=y1;obtain⟨us,y2,z⟩:=ay z;obtain⟨k,tp,rfl⟩:=cW y2;obtain⟨z,z4⟩:=ag z;k_go;cbv;subst y1;obtain⟨g1,g2,g3⟩:=pj h.toXOk (T:=is) (fun i x _ _=>.inl (h.fn x)) (fun _ h=>h) z1;refine Co (rO ((au e' h.toXOk e).1 z4) (yS (ug h.calm g1 g2 g3) (xy h.calm g1 g2 g3)) ?_ (xQ z3) rfl) (uR z2);cases e<;>rfl
 | .par i j a' b',C,M,h,st,z=>by
  obtain⟨⟨ts,e⟩,z0,z⟩:=ay z;obtain⟨p,rfl⟩:=fW z0;obtain⟨t,y1,z⟩:=aR z;have y1:ts=[t]:=y1;obtain⟨us,y2,z⟩:=ay z;obtain⟨k,tp,e2⟩:=cW y2;obtain⟨s1,s2,y3,z⟩:=cG z;obtain⟨⟨x,px⟩,y4,z⟩:=ay z;obtain⟨⟨y,py⟩,y5,z⟩:=ay z;obtain⟨vs,y6,z⟩:=ay z;obtain⟨k',tp',e6⟩:=cW y6;have e6:e=.Tuple vs k' tp':=e6;obtain⟨a,b,y7,w⟩:=cG z;rw[jk y4,jk y5]at y3;rw[y3]at e2
  have e7:e=.Tuple [a,b] k' tp':=by rw[<-y7];exact e6
  rw[e2]at y1;subst y1 e7;obtain⟨w,z8⟩:=ag w;obtain⟨w,z7⟩:=ag w;obtain⟨w,z6⟩:=ag w;obtain⟨w,z5⟩:=ag w;obtain⟨w,z4⟩:=ag w;obtain⟨w,z3⟩:=ag w;obtain⟨z1,z2⟩:=ag w;obtain⟨g1,g2,g3,g4,g5⟩:=yq h.toXOk z6;exact Gm (xU h.calm h.ndX (h.nm z1).1 (h.nm z2).1 (by simpa using z3) g2 g3 (b0 (cl:=cl) ((au a' h.toXOk a).1 z7) (b0 ((au b' h.toXOk b).1 z8) cB g5) g4) g1 rfl) (jE z4) (jE z5)
 | .parL i j a' b',C,M,h,st,z=>by
  obtain⟨⟨ts,e⟩,z0,z⟩:=ay z;obtain⟨p,rfl⟩:=fW z0;obtain⟨t,y1,z⟩:=aR z;have y1:ts=[t]:=y1;obtain⟨us,y2,z⟩:=ay z;obtain⟨k,tp,e2⟩:=cW y2;obtain⟨s1,s2,y3,z⟩:=cG z;obtain⟨⟨x,px⟩,y4,z⟩:=ay z;obtain⟨⟨y,py⟩,y5,z⟩:=ay z;obtain⟨vs,y6,z⟩:=ay z;obtain⟨k',tp',e6⟩:=cW y6;have e6:e=.Tuple vs k' tp':=e6;obtain⟨a,b,y7,w⟩:=cG z;rw[jk y4,jk y5]at y3;rw[y3]at e2
  have e7:e=.Tuple [a,b] k' tp':=by rw[<-y7];exact e6
  rw[e2]at y1;subst y1 e7;obtain⟨w,z8⟩:=ag w;obtain⟨w,z7⟩:=ag w;obtain⟨w,z6⟩:=ag w;obtain⟨w,z5⟩:=ag w;obtain⟨w,z4⟩:=ag w;obtain⟨w,z3⟩:=ag w;obtain⟨z1,z2⟩:=ag w;obtain⟨g1,g2,g3,g4,g5⟩:=yq h.toXOk z6;exact CS (xU h.calm h.ndX (h.nm z1).1 (h.nm z2).1 (by simpa using z3) g2 g3 (bH ((au a' h.toXOk a).1 z7) (bH ((au b' h.toXOk b).1 z8) d5 (a8 [] g5)) (a8 [b] g4)) g1 rfl) (jE z4) (jE z5)
 | .app i e',C,M,h,st,z=>by
  obtain⟨e,z0,z8⟩:=ay z;obtain⟨p0,rfl⟩:=pq z0;obtain⟨x,p,apos,as,pos,rfl,g1,g2,g3,g4,z6,z7⟩:=uU h.toXOk z8;obtain⟨y,rfl,z9⟩:=aR z7;obtain⟨z9,z7⟩:=ag z9;obtain⟨z4,z5⟩:=ag z9;refine Hi (oR (BA PySem.F.plainAttrs_list PySem.F.slot_list_append PySem.F.type_list_append qi (eI g1 g2 g3 g4) (b0 (cl:=cl) ((au e' h.toXOk y).1 z7) cB z5) rfl ?_ z6 (a8 [] z5) rfl) rfl) z4;rw[a8 [] z5];rfl
 | .put i k' e',C,M,h,st,z=>by
  obtain⟨⟨ts,e⟩,z0,z⟩:=ay z;obtain⟨p,rfl⟩:=fW z0;obtain⟨t,y1,z⟩:=aR z;have y1:ts=[t]:=y1;obtain⟨⟨o,k⟩,y2,z⟩:=ay z;obtain⟨sp,e2⟩:=dD y2;obtain⟨z,z7⟩:=ag z;obtain⟨z,z6⟩:=ag z;obtain⟨z,z5⟩:=ag z;obtain⟨z,z4⟩:=ag z;obtain⟨z1,z3⟩:=ag z;obtain⟨x,px,e3,g1,g2,g3,g4⟩:=eA h.toXOk z1;have e3:o=.Name x px:=e3;rw[e3]at e2;rw[e2]at y1;subst y1;have pv:=fun pos=>eI (X:=X) (pos:=pos) g1 g2 g3 g4;refine Cc (rO ((au e' h.toXOk e).1 z7) (rV (pv _) ((au k' h.toXOk k).1 z6) set_list (kd z4)) ?_ ?_ rfl) (Dj (Nat.lt_of_le_of_lt ⋯ h.hu) (pv _) ((au k' h.toXOk k).1 z6) ((au e' h.toXOk e).1 z7) (i9 z5)) z3
  ·unfold swapsWithSole;exact i9 z5
  ·rfl
 | .del i k',C,M,h,st,z=>by
  obtain⟨ts,z0,z⟩:=ay z;obtain⟨p,rfl⟩:=vF z0;obtain⟨t,y1,z⟩:=aR z;obtain⟨⟨o,k⟩,y2,z⟩:=ay z;obtain⟨sp,e2⟩:=dD y2;obtain⟨z,z4⟩:=ag z;obtain⟨z1,z3⟩:=ag z;obtain⟨x,px,e3,g1,g2,g3,g4⟩:=eA h.toXOk z1;have e3:o=.Name x px:=e3;rw[e3]at e2;rw[e2]at y1;subst y1;exact F5 (D5 (eI g1 g2 g3 g4) ((au k' h.toXOk k).1 z4)) z3
 | .dels i a' b',C,M,h,st,z=>by
  obtain⟨ts,z0,z⟩:=ay z;obtain⟨p,rfl⟩:=vF z0;obtain⟨t,y1,z⟩:=aR z;obtain⟨⟨o,k⟩,y2,z⟩:=ay z;obtain⟨sp,e2⟩:=dD y2;obtain⟨z,z4⟩:=ag z;obtain⟨z1,z3⟩:=ag z;obtain⟨x,px,e3,g1,g2,g3,g4⟩:=eA h.toXOk z1;have e3:o=.Name x px:=e3;obtain⟨⟨s1,s2,s3⟩,z0,z⟩:=ay z4;obtain⟨q,e0⟩:=nT z0;have e0:k=.Slice s1 s2 s3 q:=e0;obtain⟨z,z4⟩:=ag z;obtain⟨z2,z5⟩:=ag z;have w2:s3=none:=fS z2;obtain⟨r,y0,z5⟩:=ay z5;have w1:s1=some r:=y0;obtain⟨t',y2,z4⟩:=ay z4;have w3:s2=some t':=y2;rw[w2,w1,w3]at e0;rw[e3,e0]at e2;rw[e2]at y1;subst y1;exact Eb (Aj (eI g1 g2 g3 g4) ((au a' h.toXOk r).1 z5) ((au b' h.toXOk t').1 z4)) z3
 | .ife c' a' b',C,M,h,st,z=>by
  obtain⟨⟨c,a,b⟩,z0,z⟩:=ay z;obtain⟨p,rfl⟩:=yF z0;k_go;cbv;exact IL ((au c' h.toXOk c).2 z1).1 (eh a' h a z2) (eh b' h b z3)
 | .forr tg it b',C,M,h,st,z=>by
  obtain⟨⟨t,it',b,o⟩,z0,z⟩:=ay z;obtain⟨p,rfl⟩:=D8 z0;obtain⟨z,z7⟩:=ag z;obtain⟨z,z6⟩:=ag z;obtain⟨z,z5⟩:=ag z;obtain⟨z,z4⟩:=ag z;k_go;cbv;have z1:o=[]:=Q8.mp z1;subst z1;exact F9 h.xe h.calm (jS it h.toXOk t it' z2) (yl h.toXOk (fun i x _ _=>.inl (h.fn x)) z3) (eh b' h b z7) (gu z4 _) z5 (uR z6)
 | .mexc f es ps ms,C,M,h,st,z=>by
  obtain⟨e,z0,z⟩:=ay z;obtain⟨p0,rfl⟩:=pq z0;obtain⟨g1,g2,g3,g4,g5,g6⟩:=rf h.toXOk z;exact Ce (oR g1 (i9 g6)) g2 g3 g4 g5
 | .maug i f es ps ms,C,M,h,st,z=>by
  obtain⟨⟨t,op,e⟩,z0,z⟩:=ay z;obtain⟨p,rfl⟩:=DR z0;obtain⟨z,z4⟩:=ag z;k_go;cbv;obtain⟨x,px,e1,l1,l2⟩:=kA h.toXOk z1;have e1:t=.Name x px:=e1;rw[beq_iff_eq]at z3;have z3:op=.Add:=z3;subst e1 z3;obtain⟨g1,g2,g3,g4,g5,g6⟩:=rf h.toXOk z4;exact Cr (F6 h.ndX l1 l2 g1 E4 (.inl (h.fn _))) (jE z2) g2 g3 g4 g5
 | .ret e',C,M,h,st,z=>by
  obtain⟨o,z0,z⟩:=ay z;obtain⟨p,rfl⟩:=Cu z0;rcases Bool.or_eq_true_iff.mp z with z | z
  case inr =>
   cbv;rw[Option.isNone_iff_eq_none]at z1;rw[z1,Ec z2];exact DA
  obtain⟨e,rfl,zz⟩:=ay z;by_cases hv:vk M e'=true
  ·have:∃ i,e'=.var i:=by
    cases e'<;>first | exact#[_,rfl] | exact Bool.noConfusion hv
   obtain⟨i,rfl⟩:=this;obtain⟨x,q,rfl,g1,g2,g3,g4⟩:=eA h.toXOk zz;exact DX g1 g2 g3 g4 hv
  ·exact GP ((au e' h.toXOk e).1 zz) fun i hi=>by
    subst hi;simpa[vk]using hv
 | .exc e',C,M,h,st,z=>by
  obtain⟨e,z0,z⟩:=ay z;obtain⟨p0,rfl⟩:=pq z0;cbv;exact FE (oR ((au e' h.toXOk e).1 z2) (i9 z1))
 | .put2 i k' l' a' b',C,M,h,st,z=>by
  obtain⟨⟨ts,e⟩,z0,z⟩:=ay z;obtain⟨p,rfl⟩:=fW z0;obtain⟨t,y1,z⟩:=aR z;have y1:ts=[t]:=y1;obtain⟨us,y2,z⟩:=ay z;obtain⟨kt,tp,e2⟩:=cW y2;obtain⟨s1,s2,y3,z⟩:=cG z;obtain⟨⟨o1,k1⟩,y4,z⟩:=ay z;obtain⟨⟨o2,k2⟩,y5,z⟩:=ay z;obtain⟨sp1,e4⟩:=dD y4;obtain⟨sp2,e5⟩:=dD y5;obtain⟨vs,y6,z⟩:=ay z;obtain⟨kv,tv,e6⟩:=cW y6;have e6:e=.Tuple vs kv tv:=e6;obtain⟨a,b,y7,w⟩:=cG z;obtain⟨w,c11⟩:=ag w;obtain⟨w,c10⟩:=ag w;obtain⟨w,c9⟩:=ag w;obtain⟨w,c8⟩:=ag w;obtain⟨w,c7⟩:=ag w;obtain⟨w,c6⟩:=ag w;obtain⟨w,c5⟩:=ag w;obtain⟨w,c4⟩:=ag w;obtain⟨w,c3⟩:=ag w;obtain⟨c1,c2⟩:=ag w;obtain⟨x,px,e7,g1,g2,g3,g4⟩:=eA h.toXOk c1;obtain⟨y,py,e8,g5,g6,g7,g8⟩:=eA h.toXOk c2;have e7:o1=.Name x px:=e7;have e8:o2=.Name y py:=e8;rw[e7]at e4;rw[e8]at e5;rw[e4,e5]at y3;rw[y3]at e2;rw[e2]at y1
  have e9:e=.Tuple [a,b] kv tv:=by rw[<-y7];exact e6
  subst y1 e9;refine Dr (rO (ya (bH ((au a' h.toXOk a).1 c10) (bH ((au b' h.toXOk b).1 c11) d5 (a8 [] c9)) (a8 [b] c8))) (ug h.calm (mT (rV (eI g1 g2 g3 g4) ((au k' h.toXOk k1).1 c6) set_list (kd c4)) (mT (rV (eI g5 g6 g7 g8) ((au l' h.toXOk k2).1 c7) set_list (kd c5)) vi rfl) rfl) rfl rfl) rfl DT rfl) c3
 | .ifp i e' a' b',C,M,h,st,z=>by
  obtain⟨⟨c,a,b⟩,z0,z⟩:=ay z;obtain⟨p,rfl⟩:=yF z0;obtain⟨⟨l,os,rs⟩,z0,z⟩:=ay z;obtain⟨cp,ec⟩:=hW z0;have ec:c=.Compare l os rs cp:=ec;obtain⟨op,y1,z⟩:=aR z;obtain⟨e,y2,z⟩:=aR z;have y1:os=[op]:=y1;have y2:rs=[e]:=y2;obtain⟨z,z6⟩:=ag z;obtain⟨z,z5⟩:=ag z;obtain⟨z,z4⟩:=ag z;k_go;cbv;rw[beq_iff_eq]at z1;obtain⟨x,px,apos,as,pos,e2,g1,g2,g3,g4,z7,z8⟩:=uU h.toXOk z6;have e2:l=.Call (.Attribute (.Name x px) "pop" apos) as [] pos:=e2;have z8:as=[]:=Q8.mp z8;rw[z8]at e2;rw[y1,y2,z1,e2]at ec;subst ec;exact Fm (GQ PySem.F.plainAttrs_list PySem.F.slot_list_pop PySem.F.type_list_pop Fx (eI g1 g2 g3 g4) rfl z7) ((au e' h.toXOk e).1 z3) (eh a' h a z4) (eh b' h b z5) z2
 | .whil c' b',C,M,h,st,z=>by
  obtain⟨⟨c,b,o⟩,z0,z⟩:=ay z;obtain⟨p,rfl⟩:=C7 z0;k_go;cbv;have z1:o=[]:=Q8.mp z1;subst z1;exact Ad h.xe ((au c' h.toXOk c).2 z2).1 (eh b' h b z3)
 | .rais _ _,C,M,h,st,z=>fun pins s Y H D I ⟨Zy,r,ZD,_,e,_⟩=>by
  exact nos e
theorem eh:∀ (s:RL.Ss) {C:CC} {M:List Nat} (h:YOk C X cl) (st:List Stmt),gS C M s st=true->SSs X cl M st s
 | .nil,C,M,h,st,z=>by
  have z:st=[]:=Q8.mp z;subst z;exact Dd
 | .cons s r,C,M,h,st,z=>by
  cases st with
  | nil=>cases z
  |cons x xs=>
   cbv;exact zO (D0 s h x z1) (eh r h xs z2)
 | .act _ _ _ _ _,C,M,h,st,z=>by cases z
 | .opn _ _ _,C,M,h,st,z=>by cases z
end
end
structure jo where
 name:Str
 st:Stmt
 ps:List Str
 N:List Str
structure PT' where
 B:List Str
 G:List (Str × Int)
 Ds:List jo
 T:List RL.Fn
 W:List (Str × List (Str × Nat)):=[]
abbrev PT'.F(p:PT'):List (Str × List Nat):=(p.Ds.zip p.T).map fun q=>(q.1.name,q.2.mp)
abbrev PT'.cc(p:PT')(d:jo):CC:=#[d.N,cv d.st,p.B,p.G,p.F,p.W]
abbrev tL(N ps:List Str)(sc:Scope):Bool :=
 sc.kind == .function && !sc.isCoroutine && !sc.isGenerator&&decide N.Nodup&&N.take ps.length == ps&&ps.all (fun x=>sc.names.lookup x == some .local || sc.names.lookup x == some .cell)&&sc.names.all (fun y=>!(y.2 == .free))
abbrev fnB(p:PT')(d:jo)(fn:RL.Fn):Bool :=
 tL d.N d.ps (cv d.st)&&fn.ps == d.ps.length&&fn.nn == d.N.length&&decide (d.ps.length<=d.N.length)&&(List.range fn.ps).all (fun i=>!fn.M.contains i || fn.mp.contains i)&&fn.mp.all (fun i=>decide (i<fn.ps)&&decide (2<=fn.M.count i))&&gS (p.cc d) fn.M fn.body (fj d.st)
abbrev PT'.ok(p:PT'):Bool:=p.Ds.length == p.T.length&&(p.Ds.zip p.T).all fun q=>fnB p q.1 q.2
def Ae{N ps:List Str}{sc:Scope}(h:tL N ps sc=true):l8 N ps sc:=by
 unfold tL at h;obtain⟨h,h7⟩:=ag h;obtain⟨h,h6⟩:=ag h;obtain⟨h,h5⟩:=ag h;obtain⟨h,h4⟩:=ag h;obtain⟨h,h3⟩:=ag h;obtain⟨h1,h2⟩:=ag h;refine#[by simpa using h1,by simpa using h2,by simpa using h3,by simpa using h4,by simpa using h5,fun x hx=>?_,fun y hy=>?_]
 ·rw[Zf]at h6;have:=h6 x hx;rw[Bool.or_eq_true,beq_iff_eq,beq_iff_eq]at this;exact this
 ·rw[Zf]at h7;have:=h7 y hy;intro z;rw[z]at this;simp at this
structure BG(p:PT')(w:World)(K:W.Frag)(mg:Str->Option Value):Prop where
 defs:∀ (f:Nat) (d:jo),p.Ds[f]?=some d->∃ fa fd,mg d.name=some (.ref fa)/\Fun K d.name d.name d.st fa fd/\W.keepIn K (.ref fa)=true/\Binds K fd d.ps []
 blt:∀ x∈p.B,mg x=none
 glb:∀ x i,p.G.lookup x=some i->∃ u,mg x=some u/\RelV (.int i) u
 gds:∀ x tbl,p.W.lookup x=some tbl->∃ (d:Addr) (kvs:List (Str × Addr)),mg x=some (.ref d)/\((d == sysModules)=false/\∀ (P:Program) (h:Heap),K.In h->h.DictOf (bQ P w) d (kvs.map fun q=>((Sum.inr q.1:Key),Value.ref q.2)))/\kvs.map (·.1)=tbl.map (·.1)/\∀ y m,RL.Be tbl (.str y)=some m->∃ q nm,(kvs.find? fun q=>decide (q.1=y))=some q/\p.F[m]?=some (nm,[])/\mg nm=some (.ref q.2)
section
variable{p:PT'}{K:W.Frag}{mg:Str->Option Value}{base:Heap}{P:Program}{w:World}
abbrev qZ(K:W.Frag)(cl:RL.Cl)(mp:List Nat)(f:Nat):Sp:=if mp=[]then spF K cl f else spM K cl mp f
def bB{α:Type}(vs:List α)(k:Nat)(i:Nat)(v:α):(vs.map some++List.replicate k none)[i]?=some (some v)↔vs[i]?=some v:=by
 by_cases h:i<vs.length
 ·rw[Zn (by simpa using h)];simp[h]
 ·rw[Zh (by simpa using h)];constructor
  ·intro e;rw[List.getElem?_replicate]at e;split at e<;>cases e
  ·intro e;have:=(List.getElem?_eq_some_iff.mp e).1;lia
def CV{ds:List RL.D}{vs:List V}{H:Hp}{M:List Nat}{k n:Nat}(r:ae nP K H ds vs)(hM:∀ i,i<n->M.contains i=false)(hn:ds.length=n):RVm K M (ds.map some++List.replicate k none) (vs.map some++List.replicate k none) H:=by
 have nA:∀ a,¬ bG M (vs.map some++List.replicate k none) a:=fun a ⟨i,hi,e⟩=>by
  rw[bB]at e;have:=(List.getElem?_eq_some_iff.mp e).1;rw[hM i (by rw[<-hn,r.length];exact this)]at hi;cases hi
 refine#[by simp[r.length],fun i d e=>?_,fun i v e=>?_,fun i j a hi hj e1 e2=>(nA a #[i,hi,e1]).elim]
 ·rw[bB]at e;obtain⟨v,h1,h2⟩:=r.get e;have hl:=(List.getElem?_eq_some_iff.mp e).1;refine#[v,(bB _ _ _ _).mpr h1,?_];rw[if_neg (by rw[hM i ⋯];decide)];exact h2.weak fun a ha=>nA a ha
 ·rw[bB]at e;have hl:=(List.getElem?_eq_some_iff.mp e).1;exact#[ds[i]'(by rw[r.length];exact hl),(bB _ _ _ _).mpr (by simp)]
def Cj{ds:List RL.D}{vs:List V}{H:Hp}{M mp:List Nat}{k n:Nat}(a:Ia K mp ds vs H)(hM:∀ i,i<n->M.contains i=true->i∈mp)(hp:∀ i∈mp,M.contains i=true)(hn:ds.length=n):RVm K M (ds.map some++List.replicate k none) (vs.map some++List.replicate k none) H:=by
 have r:=a.kR
 have inM:∀ i v,(vs.map some++List.replicate k none)[i]?=some (some v)->M.contains i=true->i∈mp/\vs[i]?=some v:=fun i v e hi=>by
  rw[bB]at e;have:=(List.getElem?_eq_some_iff.mp e).1;exact#[hM i (by rw[<-hn,r.length];exact this) hi,e]
 refine#[by simp[r.length],fun i d e=>?_,fun i v e=>?_,fun i j b hi hj e1 e2=>?_]
 ·rw[bB]at e;obtain⟨v,h1,h2⟩:=r.get e;have hl:=(List.getElem?_eq_some_iff.mp e).1;refine#[v,(bB _ _ _ _).mpr h1,?_];by_cases hm:M.contains i=true
  ·rw[if_pos hm];obtain⟨d',b,g1,g2,g3⟩:=a.own i (hM i ⋯ hm);rw[e]at g1;cases g1;rw[h1]at g2;cases g2;exact g3
  ·rw[if_neg hm];refine(a.oth i d v (fun z=>hm (hp i z)) e h1).weak fun b ⟨j,hj,ej⟩=>?_;obtain⟨q1,q2⟩:=inM j _ ej hj;exact#[j,q1,q2]
 ·rw[bB]at e;have hl:=(List.getElem?_eq_some_iff.mp e).1;exact#[ds[i]'(by rw[r.length];exact hl),(bB _ _ _ _).mpr (by simp)]
 ·obtain⟨q1,q2⟩:=inM i _ e1 hi;obtain⟨q3,q4⟩:=inM j _ e2 hj;exact a.sep i q1 j q3 b q2 q4
def t5{Y:RL.St}:∀ {mp:List Nat} {outs:List RL.D},RL.cF Y mp=some outs->outs.length=mp.length/\∀ (k i:Nat) o,mp[k]?=some i->outs[k]?=some o->Y[i]?=some (some o)
 | [],outs,h=>by
  rw[RL.cF]at h;cases h;exact#[rfl,fun k i o e=>by simp at e]
 | m::mp,outs,h=>by
  rw[RL.cF]at h;obtain⟨d,h1,h⟩:=bind_some h;obtain⟨os,h2,h3⟩:=map_some h;subst h3;obtain⟨g1,g2⟩:=t5 h2;refine#[by simp[g1],fun k i o e1 e2=>?_]
  cases k with
  |zero=>
   simp at e1 e2;subst e1 e2;exact slot_get h1
  | succ k=>exact g2 k i o (by simpa using e1) (by simpa using e2)
def xP{fn:RL.Fn}{d r:RL.D}{Y:RL.St}(h:RL.aZ fn d Y=some r)(hm:fn.mp=[]):r=d:=by
 unfold RL.aZ at h;rw[hm]at h;simpa using h.symm
def GG{fn:RL.Fn}{d r:RL.D}{Y:RL.St}(h:RL.aZ fn d Y=some r)(hm:fn.mp≠[]):d.imm=true/\∃ outs,RL.cF Y fn.mp=some outs/\r=.tup (d::outs):=by
 unfold RL.aZ at h;rw[if_neg (by simpa using hm)]at h;split at h
 ·rename_i im;obtain⟨os,h1,h2⟩:=map_some h;exact#[im,os,h1,h2.symm]
 ·cases h
def xD(hok:p.ok=true)(tp:BG p w K mg):∀ (n f:Nat) (d:jo) (fn:RL.Fn),p.Ds[f]?=some d->p.T[f]?=some fn->∀ fa fd,Fun K d.name d.name d.st fa fd->j4 P w K mg base CX0 n fa fd d.ps (qZ K (RL.a7 p.T n) fn.mp f)
 | 0,f,d,fn,hd,hf,fa,fd,F=>by
  have no:∀ vs H Q E,¬ qZ K (RL.a7 p.T 0) fn.mp f vs H Q E:=fun vs H Q E h=>by
   unfold qZ at h;split at h
   ·obtain⟨ds,r,_,e,_⟩:=h;cases e
   ·obtain⟨ds,r,o,e,_⟩:=h;cases e
  exact#[fun vs H Q E h=>(no vs H Q E h).elim,fun A outer s H args us vs Q E _ _ _ _ h=>(no vs H Q E h).elim]
 | n+1,f,d,fn,hd,hf,fa,fd,F=>by
  have hok':=hok;unfold PT'.ok at hok';obtain⟨hl,hall⟩:=ag hok';rw[beq_iff_eq]at hl;rw[Zf]at hall
  have hz:(p.Ds.zip p.T)[f]?=some (d,fn):=by
   rw[List.getElem?_zip_eq_some];exact#[hd,hf]
  have hB:=hall (d,fn) (Zb hz);unfold fnB at hB;dsimp only at hB;obtain⟨hB,b7⟩:=ag hB;obtain⟨hB,b6⟩:=ag hB;obtain⟨hB,b5⟩:=ag hB;obtain⟨hB,b4⟩:=ag hB;obtain⟨hB,b3⟩:=ag hB;obtain⟨b1,b2⟩:=ag hB;rw[beq_iff_eq]at b2 b3;rw[decide_eq_true_eq]at b4;rw[Zf]at b5 b6;have S:=Ae b1
  have hM:∀ i,i<fn.ps->fn.M.contains i=true->i∈fn.mp:=fun i hi hm=>by
   have:=b5 i (List.mem_range.mpr hi);rw[hm]at this;simpa using this
  have hp2:∀ i∈fn.mp,i<fn.ps/\2<=fn.M.count i:=fun i hi=>by simpa using b6 i hi
  have unf:∀ ds r,RL.a7 p.T (n+1) f ds=some r->ds.length=fn.ps/\∃ o Zz,RL.ao (RL.a7 p.T n) fn.M fn.body (ds.map some++List.replicate (fn.nn-fn.ps) none)=some (o,Zz)/\(match o with | .nx=>RL.aZ fn .non Zz | .rt d=>RL.aZ fn d Zz)=some r:=by
   intro ds r h;rw[RL.a7,hf]at h;dsimp only[Option.bind_some]at h;split at h
   ·rename_i hlen;obtain⟨⟨o,Zz⟩,h1,h2⟩:=bind_some h;exact#[hlen,o,Zz,h1,h2]
   ·cases h
  refine Fun.ok F S (fun vs H Q E h=>?_) fun cdv A outer s H vs Q E hr h=>?_
  ·unfold qZ at h;split at h
   ·obtain⟨ds,r,r1,e,_⟩:=h;rw[<-r1.length,(unf ds r e).1,b2]
   ·obtain⟨ds,r,o,e,a,_⟩:=h;rw[<-a.kR.length,(unf ds _ e).1,b2]
  ·-- the body's context
   have Zx:YOk (p.cc d) (mI CX0 P w K mg base d.N d.name (cv d.st) fa cdv A outer s H E).nox (RL.a7 p.T n):={
    scope:=rfl
    names:=rfl
    nd:=S.nd
    calm:=rfl
    xe:=rfl
    hu:=by
     have:=hr.un;show(A.deeper _).units+100<cLine;lia
    blt:=tp.blt
    glb:=tp.glb
    gds:=fun x tbl hx=>let ⟨d,kvs,a,b,c⟩:=tp.gds x tbl hx;⟨d,kvs,a,⟨b.1,fun h q=>b.2 _ h q⟩,c⟩
    fns:=fun g x mp hg=>by
     have hg':p.F[g]?=some (x,mp):=hg;unfold PT'.F at hg';rw[List.getElem?_map]at hg';obtain⟨⟨d',fn'⟩,q1,q2⟩:=map_some hg';cases q2;rw[List.getElem?_zip_eq_some]at q1;obtain⟨fa',fd',t1,t2,t3,t4⟩:=tp.defs g d' q1.1;exact#[n,fa',fd',d'.ps,xD hok tp n g d' fn' q1.1 q1.2 fa' fd' t2,hr,t1,t3,t4]
    fn:=fun _=>rfl }
   have body:=eh fn.body Zx (M:=fn.M) _ b7;refine#[_,body,?_];have hst:start d.N vs=vs.map some++List.replicate (d.N.length-vs.length) none:=rfl;unfold qZ at h;split at h
   ·rename_i hmp;obtain⟨ds,r,r1,e,k⟩:=h;obtain⟨hlen,o,Zz,e1,e2⟩:=unf ds r e
    have hvl:vs.length=fn.ps:=by rw[<-r1.length];exact hlen
    refine#[_,o,Zz,?_,e1,?_]
    ·rw[hst,hvl,<-b3]
     exact CV r1 (fun i hi=>by
      cases hc:fn.M.contains i with
      | false=>rfl
      |true=>
       have:=hM i hi hc;rw[hmp]at this
       cases this) hlen
    ·have noA:∀ a,¬ bG fn.M (start d.N vs) a:=fun a ⟨i,hi,ei⟩=>by
      rw[hst,bB]at ei;have h3:=(List.getElem?_eq_some_iff.mp ei).1;have:=hM i ⋯ hi;rw[hmp]at this;cases this
     cases o with
     |nx=>
      have hr':=xP (d:=.non) e2 hmp;subst hr';intro ZA H1 rv1 fr1;refine k .non H1 (fun b u eb=>(fr1.1 b u eb (noA b)).1) (by rw[Rep])
     |rt d0=>
      have hr':=xP (d:=d0) e2 hmp;subst hr';intro ZA H1 v H' rv1 fr1 sm rp;refine k v H' (fun b u eb=>sm _ _ (fr1.1 b u eb (noA b)).1) (rp _ fun q hq=>?_);obtain⟨u,hu⟩:=Option.ne_none_iff_exists'.mp hq;have:=fr1.1 q u hu (noA q);exact#[(by rw[this.1];exact fun z=>nomatch z),this.2]
   ·rename_i hmp;obtain⟨ds,r,outs,e,a,k⟩:=h;obtain⟨hlen,o,Zz,e1,e2⟩:=unf ds _ e
    have hvl:vs.length=fn.ps:=by rw[<-a.kR.length];exact hlen
    refine#[_,o,Zz,?_,e1,?_]
    ·rw[hst,hvl,<-b3];exact Cj a hM (fun i hi=>lW (hp2 i hi).2) hlen
    ·-- the lists behind it
     have fin:∀ (d0:RL.D) (ZA:L2.St) (H1 H':Hp) (v:V),RL.aZ fn d0 Zz=some (.tup (r::outs))->RVm K fn.M Zz ZA H1->Fr' fn.M (start d.N vs) H ZA H1->a6 H1 H'->(d0.imm=true->Rep nP K H' d0 v)->Q v H':=by
      intro d0 ZA H1 H' v ht rv1 fr1 sm rp;obtain⟨im,os,g1,g2⟩:=GG ht hmp;cases g2;obtain⟨l1,l2⟩:=t5 g1;refine k v H' (fun b u nb eb=>sm _ _ (fr1.1 b u eb fun⟨i,hi,ei⟩=>?_).1) (rp im) im ⟨l1,fun kk pp oo hk ho=>?_⟩
      ·rw[hst,bB]at ei;have h3:=(List.getElem?_eq_some_iff.mp ei).1;exact nb ⟨i,hM i ⋯ hi,ei⟩
      ·have hpm:=Zb hk;obtain⟨dp,ap,g3,g4,g5⟩:=a.own pp hpm;have g6:=fr1.2 pp (hp2 pp hpm).2
       have g7:(start d.N vs)[pp]?=some (some (.ref ap)):=by rw[hst,bB];exact g4
       rw[g7]at g6;obtain⟨v',g8,g9⟩:=rv1.val pp oo (l2 kk pp oo hk ho);rw[g6]at g8;cases g8;rw[if_pos (lW (hp2 pp hpm).2)]at g9;exact#[ap,g4,g9.same sm]
     cases o with
     |nx=>
      intro ZA H1 rv1 fr1
      exact fin .non ZA H1 H1 .non e2 rv1 fr1 (a6.refl _) fun _=>by rw[Rep]
     |rt d0=>
      intro ZA H1 v H' rv1 fr1 sm rp;exact fin d0 ZA H1 H' v e2 rv1 fr1 sm fun im=>rp nP fun _ z=>z.elim
end
abbrev spL(n:Nat)(p:PT')(f:Nat)(K:W.Frag):Sp:=spF K (RL.a7 p.T n) f
def Gy{n:Nat}{p:PT'}{f:Nat}{K:W.Frag}{H:Hp}{a:Addr}{ns:List Int}(hO:sP H)(hS:SqL K H a (ns.map V.int))(h:RL.a7 p.T n f [.scr (ns.map RL.D.int)]=some (.bl true)):spL n p f K [.ref a] H (fun v _=>v=.bl true) fun _ _ _=>False:=by
 refine#[_,_,?_,h,fun v H' _ r=>bh r];refine ae.cons ?_ ae.nil;rw[Rep];refine#[a,ns.map V.int,rfl,?_,?_]
 ·rcases hS with(z | ⟨o,z⟩) | z
  ·rcases hO a with q | ⟨o,xs,q⟩
   ·rw[q]at z;cases z
   ·rw[q]at z;cases z
  ·exact .inl #[o,z]
  ·exact .inr (.inr z)
 ·clear hS h
  induction ns with
  | nil=>exact ae.nil
  | cons i r ih=>exact ae.cons aW ih
end RS
namespace K34
open PySem PySem.Spec PyProof.Rows L2
abbrev top(i:Nat):Stmt:=PySem.Challenge.pw_ribbonloft_k34_whole_pairs_that_make_the.main.body.getD i (.Pass ⟨0,0,0,0⟩)
abbrev mkD(x:Str)(i n:Nat)(N:List Str):RS.jo:=#[x,top i,N.take n,N]
abbrev Ds:List RS.jo:=[
 mkD "is_number" 7 1 ["value"],
 mkD "is_peg_count" 8 1 ["value"],
 mkD "check_pegs" 9 1 ["pegs"],
 mkD "is_pairing" 11 1 ["row", "place"],
 mkD "names_back" 12 2 ["row", "place", "other"],
 mkD "is_uncrossed" 13 1 ["row", "waiting", "place", "other"],
 mkD "tie" 14 3 ["row", "one", "other"],
 mkD "is_frame" 16 1 ["frame", "pegs", "alone", "peg", "other"],
 mkD "check_frame" 17 1 ["frame"],
 mkD "pegs_of" 18 1 ["frame"],
 mkD "plain" 19 1 ["pegs"],
 mkD "round_place" 20 2 ["pegs", "peg"],
 mkD "in_round" 21 1 ["frame", "pegs", "peg"],
 mkD "moved" 22 2 ["frame", "to", "ends", "peg", "other"],
 mkD "made" 24 2 ["pegs", "row", "frame", "rings", "number"],
 mkD "hang_hook" 25 2 ["frame", "number", "left", "right"],
 mkD "is_hook" 26 2 ["pegs", "number"],
 mkD "check_row" 27 2 ["pegs", "row", "number"],
 mkD "shortest_row" 29 1 ["frame", "rest", "row", "beginnings"],
 mkD "neighbours_tied" 30 2 ["frame", "start", "number"],
 mkD "take_off" 31 2 ["frame", "number", "left", "right"],
 mkD "next_across" 32 2 ["frame", "seam", "pegs", "around", "peg"],
 mkD "bridge" 34 3 ["pegs", "one", "other", "there", "back", "trade", "opposite"],
 mkD "what_is_made" 35 2 ["pegs", "pair", "rings", "row", "frame", "fallen"],
 mkD "settling" 36 2 ["pegs", "row", "rest", "steps"],
 mkD "shorten" 37 2 ["row", "steps", "found", "first", "last"],
 mkD "loose_pair" 38 1 ["row", "latest", "last", "number"],
 mkD "neighbours_between" 39 3 ["row", "first", "last", "at"],
 mkD "close_up" 40 4 ["row", "steps", "first", "last", "between", "middle"],
 mkD "arrange" 41 3 ["row", "steps", "goal", "to", "number"],
 mkD "shift" 42 4 ["row", "steps", "start", "to", "at"],
 mkD "_law_mix" 44 1 ["_law_seed", "_law_one", "_law_two"],
 mkD "_law_raw" 45 2 ["_law_script", "_law_k", "_law_cell", "_law_found", "_law_turn"],
 mkD "_law_digits" 46 3 ["_law_script", "_law_k", "_law_sizes", "_law_rest", "_law_found", "_law_size"],
 mkD "_law_hooks" 47 4 ["_law_script", "_law_k", "_law_pegs", "_law_size", "_law_found", "_law_start", "_law_steps", "_law_step", "_law_number"],
 mkD "_law_plain" 48 1 ["_law_pegs", "_law_peg"],
 mkD "_law_rings_by" 49 3 ["_law_high", "_law_low", "_law_inner", "_law_pegs", "_law_head", "_law_peg", "_law_other", "_law_one", "_law_keep", "_law_go"],
 mkD "_law_hung" 50 2 ["_law_high", "_law_low", "_law_pegs", "_law_near", "_law_peg", "_law_found", "_law_gone", "_law_here", "_law_turn"],
 mkD "_law_stacked" 51 2 ["_law_pegs", "_law_frames", "_law_frame", "_law_found", "_law_rings", "_law_more"],
 mkD "_law_hook" 52 2 ["_law_pegs", "_law_number", "_law_found", "_law_start"],
 mkD "_law_made" 53 2 ["_law_pegs", "_law_line", "_law_number"],
 mkD "_law_after" 54 3 ["_law_pegs", "_law_pair", "_law_trade", "_law_rings", "_law_line", "_law_word", "_law_at", "_law_here", "_law_rest"],
 mkD "_law_same" 55 2 ["_law_told", "_law_due", "_law_one", "_law_other"],
 mkD "_law_leads" 56 4 ["_law_pegs", "_law_one", "_law_other", "_law_trades", "_law_pair", "_law_trade"],
 mkD "law" 57 1 ["_law_script", "_law_k", "_law_pegs", "_law_first", "_law_last", "_law_alike", "_law_told", "_law_line", "_law_one", "_law_two", "_law_rings", "_law_more", "_law_here", "_law_there"]]
abbrev p:RS.PT':=#[["abs", "all", "bool", "enumerate", "int", "isinstance", "len", "list", "max", "min", "range", "set", "str", "tuple", "zip"],[("MOST_PEGS",10)],Ds,T,[]]
def Kg:p.ok=true:=by decide +kernel
def js{P:List Value->Prop}{n:Nat}(h:∀ a t,t.length=n->P (a::t))(us:List Value)(hl:us.length=n+1):P us:=by
 cases us with
 | nil=>cases hl
 | cons a t=>exact h a t (Nat.succ.inj hl)
def wg{P:List Value->Prop}(h:P [])(us:List Value)(hl:us.length=0):P us:=by
 rw[List.eq_nil_of_length_eq_zero hl];exact h
def all1{P:List Value->Prop}(h:∀ a0,P [a0]):∀ us:List Value,us.length=1->P us :=
 js fun a0=>wg (h a0)
def all2{P:List Value->Prop}(h:∀ a0 a1,P [a0,a1]):∀ us:List Value,us.length=2->P us :=
 js fun a0=>js fun a1=>wg (h a0 a1)
def pe{P:List Value->Prop}(h:∀ a0 a1 a2,P [a0,a1,a2]):∀ us:List Value,us.length=3->P us :=
 js fun a0=>js fun a1=>js fun a2=>wg (h a0 a1 a2)
def Jm{P:List Value->Prop}(h:∀ a0 a1 a2 a3,P [a0,a1,a2,a3]):∀ us:List Value,us.length=4->P us :=
 js fun a0=>js fun a1=>js fun a2=>js fun a3=>wg (h a0 a1 a2 a3)
section
variable{K:W.Frag}{h:Heap}{mg:Str->Option Value}{x:Str}{st:Stmt}{f:Addr}{oc kV dc pm cd ct:Value}{od an:Option Addr}{sl:Array (Option Value)}{ps:List Str}
abbrev At(K:W.Frag)(mg:Str->Option Value)(x:Str)(st:Stmt)(ps:List Str):Prop:=∃ f fd,mg x=some (.ref f)/\Fun K x x st f fd/\W.keepIn K (.ref f)=true/\Binds K fd ps []
def GZ(X:K.In h)(G:h.Ns mainGlobals mg)(a:W.nsIn K mainGlobals x=some (some (.ref f)))(l:K.lookup f=some ⟨oc,od,.func (W.fnOf x x (hU st) (fj st) (cv st) .none kV dc pm an cd ct),sl⟩)(c:W.codeIn K cd x=true)(k:W.keepIn K (.ref f)=true)
 (b:∀ (kV doc pm:Value) (an:Option Addr) (cdv ct:Value) (us:List Value),us.length=ps.length->bindArgs (W.fnOf x x (hU st) (fj st) (cv st) .none kV doc pm an cdv ct) ⟨us,[]⟩=pure (ps.zip us)):At K mg x st ps :=
 ⟨f,_,W.mg_of X G a,zB (st:=st) l c k,k,(zB (st:=st) l c k).binds b⟩
abbrev oU(K:W.Frag)(mg:Str->Option Value):List RS.jo->Prop
 | []=>True
 | d::r=>At K mg d.name d.st d.ps/\oU K mg r
def oU.get:∀ {l:List RS.jo} {f:Nat} {d:RS.jo},oU K mg l->l[f]?=some d->At K mg d.name d.st d.ps
 | [],_,_,_,e=>by cases e
 | _::_,0,_,h,e=>by cases e;exact h.1
 | _::_,f+1,_,h,e=>oU.get (f:=f) h.2 e
abbrev AllP(P:Str->Prop):List Str->Prop
 | []=>True
 | x::r=>P x/\AllP P r
def AllP.get{P:Str->Prop}:∀ {l:List Str},AllP P l->x∈l->P x
 | _::_,h,e=>(List.mem_cons.mp e).elim (fun z=>z▸h.1) fun z=>AllP.get h.2 z
abbrev p7(K:W.Frag):List (Str × Int)->Prop
 | []=>True
 | q::r=>(∃ t,W.nsIn K mainGlobals q.1=some (some (.int q.2 t)))/\p7 K r
def p7.get{i:Int}:∀ {l:List (Str × Int)},p7 K l->l.lookup x=some i->∃ t,W.nsIn K mainGlobals x=some (some (.int i t))
 | [],_,e=>by cases e
 | q::_,h,e=>by
  rw[List.lookup_cons]at e
  cases hb:x == q.1 with
  | true=>rw[hb]at e;cases e;rw[eq_of_beq hb];exact h.1
  | false=>rw[hb]at e;exact p7.get h.2 e
structure Tp(w:World)(K:W.Frag)(mg:Str->Option Value):Prop where
 t1:oU K mg Ds
 t2:AllP (fun x=>W.nsIn K mainGlobals x=some none) p.B
 t3:p7 K p.G
def EK{w:World}(X:K.In h)(G:h.Ns mainGlobals mg)(A:Tp w K mg):RS.BG p w K mg where
 gds:=fun x t e=>by cases e
 defs:=fun f d e=>A.t1.get e
 blt:=fun x hx=>W.mg_none_of X G (A.t2.get hx)
 glb:=fun x i hx=>let ⟨t,ht⟩:=A.t3.get hx;⟨_,W.mg_of X G ht,t,rfl⟩
end
end K34
end
open PySem PySem.W PyProof.Rows
set_option maxRecDepth 100000 in
set_option maxHeartbeats 0 in
theorem PySem.Challenge.cw_ribbonloft_k34_whole_pairs_that_make_the_holds : PySem.Challenge.rw_ribbonloft_k34_whole_pairs_that_make_the.Holds := by
 refine hdTop ?_
 k_fill
 refine L2.A1 (l:=PySem.Challenge.rw_ribbonloft_k34_whole_pairs_that_make_the) (n:=63) (k:=30) (x := "_law_script") (CX:=L2.CX0) (sp:=RS.spL 30 K34.p 44) rfl (by decide) rfl ⟨rfl,by decide,by decide⟩ (fun w h Y=>HK.in_of Y) ?F ?S ?C
 case F =>
  intro w mg fa h KX G hmg
  have T:K34.Tp w (L2.KOf KX) mg:=by
   dsimp only[L2.KOf];constructor
   ·dsimp only[K34.oU,K34.Ds,K34.mkD,List.take]
    iterate 45 (refine' ⟨K34.GZ KX G ?a ?l ?c ?k ?b,?_⟩;(case a=>k_is);(case l=>k_is);(case c=>k_is);(case k=>k_is);(case b=>first | exact fun _ _ _ _ _ _=>K34.all1 fun _=>rfl | exact fun _ _ _ _ _ _=>K34.all2 fun _ _=>rfl | exact fun _ _ _ _ _ _=>K34.pe fun _ _ _=>rfl | exact fun _ _ _ _ _ _=>K34.Jm fun _ _ _ _=>rfl))
    exact True.intro
   ·dsimp only[K34.AllP,K34.p]
    iterate 15 (refine' ⟨?a,?_⟩;(case a=>k_is))
    exact True.intro
   ·dsimp only[K34.p7,K34.p]
    iterate 1 (refine⟨⟨_,by k_is⟩,?_⟩)
    exact True.intro
  have tp:=K34.EK KX G T;obtain⟨fa',fd,h1,h2,h3,h4⟩:=tp.defs 44 _ rfl;have e0:=hmg.symm.trans h1;cases e0;refine⟨fd,fun s u=>?_,fun base kb nb=>RS.xD K34.Kg tp 30 44 _ _ rfl rfl _ _ h2⟩;obtain⟨oc,od,kV,doc,pm,an,cdv,ct,osl,e9,_,_⟩:=h2.ex;subst e9;exact .of_eq rfl
 case S=>exact fun K H a ns hl hO hS=>RS.Gy hO hS (K34.main ns hl)
 case C=>exact fun _ _ _ _ h=>h
