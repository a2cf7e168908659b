import PyProof.Rows.All
import OpenK.KLine
import Wide.FinOn
import OpenK.KOwn
import KE.RegKIsAll
import KE.KItem
import KE.KUnpack
import KE.KDictOf
import PyProof.EqAt
import PyProof.EqKinds
import PyProof.TupleCall
import PySem.Str
import PyProof.NeKinds
import PyProof.CompMap
import PyProof.CompFree
import PyProof.EnumMake
import PyProof.Draws
import PyProof.ListRange
import PyProof.ConsumeWalk
import PyProof.Rows.SetFrom
import PyProof.SetRoads
import PyProof.ZipIter
import PyProof.Rows.SumAny
import PyProof.Rows.SortWalk
import PyProof.Rows.SeqMore2
import PyProof.ExcAttrAll.ValueError
import PyProof.ExcBaseAll.ValueError
import PyProof.Rows.FStr
import OpenK.KMake
import PyProof.InstStoreFacts
import PyProof.ExcClass3
import KE.KSortAsk
import PyProof.Rows.SeqMore
import PyProof.StrWalks
import PyProof.SliceStr2
import PyProof.StrBlockI
import PyProof.StrOps2
import PySem.SetOps
import PyProof.SetScanFacts
import KE.KDictSum
import PyProof.DictWalks
import PyProof.DictRoadsH
import PyProof.MeetsSeq3
import PyProof.MinMaxWalk
import PyProof.WalkInts
import PyProof.MeetsIn
import PyProof.Rows.TupDisplay
import PyProof.Rows.TupIter
import PyProof.CollectIter
import PyProof.WalksS
import PyProof.WalksMore
import PyProof.Rows.StrJoin2
import PyProof.TableCode
import PySem.Challenge.RW_ribbonloft_k31_trades_one_behind_the_oth
set_option Elab.async false
set_option linter.all false
set_option maxRecDepth 100000
set_option maxHeartbeats 4000000
set_option autoImplicit true
set_option relaxedAutoImplicit true
set_option genSizeOf false
set_option genSizeOfSpec false
set_option genInjectivity false
namespace HK
open PySem PySem.W
noncomputable def live : Obj → Bool
  | ⟨_, _, .freed, _⟩ => false
  | _ => true
noncomputable def pick : List Nat → Nat → List Obj → List (Nat × Obj)
  | a :: as, i, o :: os => cond (Nat.beq a i) (cond (live o) ((a, o) :: pick as (i + 1) os) []) (pick (a :: as) (i + 1) os)
  | _, _, _ => []
theorem sub_step {a i : Nat} (h : i + 1 ≤ a) : a - i = (a - (i + 1)) + 1 := by omega
theorem pick_in : ∀ {as : List Nat} {i : Nat} {os : List Obj} {a : Nat} {o : Obj}, (pick as i os).lookup a = some o → i ≤ a ∧ os[a - i]? = some o ∧ live o = true
  | [], _, [], _, _, h => nomatch h
  | [], _, _ :: _, _, _, h => nomatch h
  | _ :: _, _, [], _, _, h => nomatch h
  | b :: as, i, u :: os, a, o, h => by
    rw [pick] at h
    have go : ∀ {l : List Nat}, (pick l (i + 1) os).lookup a = some o → i ≤ a ∧ (u :: os)[a - i]? = some o ∧ live o = true := fun h => by
      obtain ⟨h1, h2, h3⟩ := pick_in h
      refine ⟨Nat.le_of_succ_le h1, ?_, h3⟩
      rw [sub_step h1, List.getElem?_cons_succ]
      exact h2
    cases hb : Nat.beq b i with
    | true =>
      rw [hb] at h
      have e := Nat.eq_of_beq_eq_true hb
      subst e
      cases hl : live u with
      | false => rw [hl] at h; cases h
      | true =>
        rw [hl] at h
        have h : ((b, u) :: pick as (b + 1) os).lookup a = some o := h
        rw [List.lookup_cons] at h
        cases hc : a == b with
        | true =>
          rw [hc] at h
          cases h
          have e := eq_of_beq hc
          subst e
          exact ⟨Nat.le_refl _, by rw [Nat.sub_self]; rfl, hl⟩
        | false =>
          rw [hc] at h
          exact go h
    | false =>
      rw [hb] at h
      exact go h
noncomputable def hook (K : Params → Frag) (as : List Nat) : Hook :=
  ⟨List (Nat × Obj), fun s => pick as 0 s.heap.objs.toList, fun w => K w.params, InK K, fun w s e a o l => by
    rw [← show pick as 0 s.heap.objs.toList = K w.params from e] at l
    obtain ⟨_, h, v⟩ := pick_in l
    rw [Nat.sub_zero, Array.getElem?_toList] at h
    unfold Heap.get?
    rw [h]
    unfold live at v
    split at v
    · cases v
    · rename_i h'
      split
      · rename_i h1
        cases h1
        exact absurd rfl (h' _ _ _)
      · rfl, InK.keeps⟩
theorem in_of {K : Params → Frag} {as : List Nat} {w : World} {h : Heap} (Y : (hook K as).says w h) : (K w.params).In h := Y
end HK
namespace PySem.W.Fast
local macro_rules|`(universe $x*)=>do pure (Lean.mkNullNode (<-x.mapM fun x=>`(theorem $(Lean.mkIdent (.mkSimple s!"tw{x.getId.toString.foldl (fun a c=>52*a+c.toNat-if c.toNat<97 then 65 else 71) 0}")) :True:=trivial)))
universe FCQoQzqIwGI BykEVEFhwpyo rZobMsOjFwQ BoflJdPOyjfE KXwfPTnSkOI BfsqKtVtTmMw PwPtFKHHOZs ceomIfKptWY UgrptMpaXuY qPeSDibrkZM RhhtZefoCTk LKMrCdaKUCY CDfHzKdzYoA mnDgSToGxHk BakZlApGkehs ISFoXXXmBdM BODspoJfajKI BnfAjSjpphNM ktIqXvpuagg BUMwQAZYPogA fvSeXMYhgDE BKkRhDAcBKaZ CWAvttDMtuep BqoTegnPyRkB nAZGgaXNqcR BtJlbCmZVhFN BqQUDrQuJAmJ LTaqVFWriep taAxVCkbiYh BztXdmUOEOJ BnVXuTyQyGDl BJaAXEpnmfEB CNGhUibNWzRd onKnkJCRXYR JsoNltiolpd CCvMsXNQLVTV CFgqqQArGnaJ YYtfVBjLSsy imslCRxLCAi BYaVYBiMHSte TDINJKmyHwS uDGeqhpzDUC BwkuetmKLwOK WitaxOrbyDm FdbRaUYekAC iaFKbkpNsAi CMOkrcNJTUMy BvpoXBYCrfki qipcqnOQvqq BSKpGRfMcCjG CVYQBowtrDtO CJrDfnquOmNe rIxaUooUxaK CLgHksTOWqib meQUbhmwFwz hjKDmWKIOGL CVcoulTYjCCb CXMSEDPwMgpv pZhwTHOqefX nSkEdypZhZf CFomfraByNvH BpbiBJlUcWOr zMSKXpmzsBP OSltNGqdcXX DjeZNLxPNdP BvwMLPSYngWr NiNoHATTMJP IKvmyXphVlv vOjRNHGCoFA BpqFZDQaGVEE BdDXHQXriTKM NjzlbuBIgkU fiGezBrbExw BrheQGSmbLFw BOkZIIXeZFjY CNNwFdRvHfys BXMJoajqzsjI XScKzEiOAes FAgdBeWycdg BhKNnZpZnUcU wySsBpyjwNA oxEwbVbAtsk hJItHxqJNHJ BELEWAbAJKkV keUKDoDjIGN bYyOWeEsKAF SZRqkvJgqAl BoejajAzTYWN BUqtcyRdkSrp BfcmXqBeCqZR jbupBssRpit CLeZbOcGBXQV BVxRHqmciMol QRZbTmnIQRx BugEAKRmEAid sVcrvZkGbud BDEbhAPhglMF taTIAoWkYdh BNcGmFqiiYWN BMeZLApDOrSt BAuLMGiazrhh jlIIaQqAFBB ORVBWnCjcIF cIPpUCDzTlx BcynjMpBbLBh UjxdQNoOVVx BiFHTwBRUNXq qhkquUSArTa BFdTswiMkiEW hJImGIVyNDa NtvzPvKvhoW wTxGfBCRseO WgYUBcpNtJC CBcAXgPoNAeu nMtzWHTEhKO BlcRukyvlhsm CSEomhfOBcAG hunfaasszxC yHmoiCRWlCO BaWMGLWbkImP CWsyAXLgdkWP dLtOgTesyWP ijZtWAqMkCf pZDYiPvNzTb BREcaoHBdtdT BoMTrytyjVRD nSJnhEwbKpz mShMSskXmeQ GZnqDUwlIKg BcpBbLehAnCQ BwSpRrjZByPc BiyBarkYhmiA uYRDUlMKnuA CEcJRfuhNxPs BIOJnfDBLoFE WDwLaRiJAaA BOPpEauVFTjc BdWNTEpuKIoI BQjmsuPjCZeA JESCDSwhIJU BrUpPeZQEUTt pdVESliyGYJ BUvEhlvDkIrt BZOaOrJEOJax CKCFkHmCMzft euZGPHHFrNV CRhHXWLNVUSh BSYnmAIlQWZV ZLiASAetdix CAbwUBvEvnZF CMGZdScUJyEa WOfvpaubhnO BCSCKAEpHYuS BxFoUYQyxigK dpTtmAfRIYK BoQrnPIdXFPu BMuDKbspsUgq CSWNimoTLGyi BuzUdwsqmulG KewCNwQfiai fXblvKqrwDO BLCkNxurmSiC IsKAfNfbgru bmADjyGOISi dmapjtsMByy CFkCZycEPSOy CKyYNbYHBJuD ZAXZSPizxbf CVMtHSIJuDOD jnhouUrVhQb gDFDBzwWjpn eXMuQAFOWiD BnYJVfuWVwgL BswdRPOFZvcr BCBytrrGDsoL hcGKnPdFSGT SkXcxUJTxWj CHhZyLvjYyIr BXmKzTVatMKD BTndywGgBQFH BVmKBfRNRhqT lQwbhiWlrZn COjyMAGcwAmT fjOPSWQkfRo BhTAStooqsjQ PaNZJGrADMM BBjCPpXrZOjQ TNyOFUdziws kZzpqlQJwmU BugvzMImRWLw CQZHTQLQDQHA REloBVpemzQ CSExUkObQMGU UXFuqKMkpGE CKdNWMYuIJoc BvSrHXIoCNTA BTohDDxEyEPA COOShMNQZLqV tVwPhknuVJJ BOaceJHfyMBZ MDqTiNdRVDB gVHiyYiBeDx IBvsedjLwIN DefSQzjQtjh TpFtscZJGzR BZLIioVKjiaF BtBtYYHPBvHR TOGXpoPCVQd BaeACuHWgOEd zoZfhzeCkyl clqqKJiwTDh BVVBuJSlpzCV BHwsDhjGgCFK mlJDlZgyKVK QRzCtbsxBEO tCLtqWHABQe CUBCMonBZnXS CLeCSHVzZFJq BzjjABbIkvTC BzuxpbDWRvbi xspzkNmeBPy BufjuZxwCmfi BgtGFUrxbVNa uFBOYVmchcu plefgUFqbri zvHHCytoSzS BIZHbmmaGmrS CBtZxUXDshGG CBrbskTBBRKW BHLlKboTLDRr BfwPvspmAUf CAKEZSOtJTTj BTSlflhOTOUf uOXIYkgtbGH cTNQKunKhMv CKAIMjwKegvj bQYRCbKBqrT BOdcobwLhEHk XXIHCdXFvLk oljuZLgCLuo BKMuDvdOYBxs BxVoQxOtlvwA DvAZGtipISo CHlzmSUFxSGY CWcNvOspVVsw BUOkuaHRtSkA BgxRJiFotanE MJKVbhGopJs BUAEssWIagvl rTGNKkWXWFN BriCBeuNeeXl BOnveCEQUoaJ PCEBgRMWKCJ EnBHNvneffV fmklRBUfQgR BTdcidUvjWQR KfQjPlyrvMR YpyXNiKmGdN BlNodGxXaGBd qxHeFQySOZ CQWePYULzdjG CQxJPXclJiFO BfmEHXswhszW qGHfvdzANUy CPDLyoowEPte lkwvDQyNEAy BKcNHhXkodrm bmMIkaoCVYi BtaWCKXxJSPG CQxYVdfXvzaa BLijnrBXGKdu BlSLsubDzasC CRyypQPxBFmK BekNNfhfHrEy BBOMCDLJvfTm CQfsQQvuktYi BSCGHlTiBMvG mFmBcWuGTcS BljomlIcEqRf BUxPTsfLTQCL xJNiPWTVvzn CTPXBHxSXoir CRgukFDgPKoz fyLzRBRfQj BvZjaLXEPZLH BhNYBOJJwMwT NhnOslvcDBP BSFUBzZMtZIj BLTiVRfLSMwz oqftzVNUPJP hYqTSRjiArX CSQPGEmCoZLH BRaGxWDdWuAT CyIFccWISoz BiEHHrJGpUJf BmNMkGqWOIgz jrHagdeMlOL CAdflnBClRib CAzlOwxUglWL jpjQYzKamSL BoSRZcjWKvDH buOzWQkHFeL BxxrHVToZgfn BUWmMrfFxDcT BazPHyLepmbY ZewdxeMdYhA CRbaCamVHtSc mOgrMEhILzo vxCpoFiZbQk zOsMBIslHcU BQtPdfwbBCqs BZDEWaejkNZQ slExnIXFZuM BkLDvCJVsoDY upWbTlSCdqc CKnfdRLffsbZ LXyuMMXeZlh BRnhlmurumMl BogJytERqnPZ aGqRrhQNMHp CROmAQtZjgxh CAVVmFNHxmlR BzjudHiLIEdx mQhXmNdyZxx BuYtHrFEqUdx BACsNfbdmOHp XGBYMkYCJZR CKdxaNPeDlOt BvnaelKoxRSe BxjhsqwjrNgm BonzgGvfdDdC BOLmOZeTQgBi BqUdtBHQFVuu oAOjRXqFmoW BcvYQHjWZqIW CRZyDvcaowlS vRTpmwYnHUW LkqkXXgWXCe BllvyvACIopi CQPmMEVFTrqe sxGGlJBtfjq BoEPSVQAvFCf jouVkyElOdz CSjCqKdXwOyP CJvPfHwXDbtD SSREnfNZspD BRpxtDnoFDkX qqUthdredhT eSzpFYgBFUX KhyrtENrmRj BLZTmVwkQAmf CNsEJcAPzvEY BRgEeNZJzwrc CRbcZyYefWRk HamyzvVQztE IUfhqNmExrs CQDiMUCGPKSw CUmYCNdeoco qJUTuTSQzLM BujQCqhJwsxE CVaMqMXFeGKQ LqjFTdCLBcZ WKaDsaBikrd ZQRYHmtXqjd BYBUwpsQYxFl kkIRHZbkctV CsAJcCjElPd sbnidirnzTt VihnIkmmAFV BAeteoosTmIZ PBdGVreqMJl BfxLJvgdbex BpRhCfHqtKnt iHQNGkPXxii BcmjfRqWqzka CKXUGXHwPdSC wTsJidBPVG BGaRQGFCFfai CBwmVXCNLoUK CGcBhblqhqhm CWtxhCaYQZxW tdIcncNHfFG BWivcEYvNyC sUlQsFPxyKS BoZprVNdLrbu BDlqOuIINLLu CUvPdQwxHukK BSWDMNyTIxYq CPCTogiRjsxm BglGBCdLXwwb BbfeNkfuXhaj VGgdllwEHKD PjmhUBxSNVH qOnpwdxMxlH CAHmGOOrtKWj KLdBPmRzXyD CPojyiRzQHrv pTyizfrIOZH xPtzKNtSKGj BGUWFlYcAZgL tQvBeadNJOz CMkvXJCKLaGj CFEzYVkWRXKE BXXiNoeMJSho CFfnfRMfwXfA BUvaEJFVpQjg CABUBNZcVWyU FTkkakMHzwM BsnqENxHvYJo fRNGHmwtMek SYVJwTFKfrQ BkYsIAkHMWRI cZpAyalTZHA ejdfopOfhsc qKTweWpgmZI BTyxfrMiZUjg hIjGjsQFuRo BkpEysdxBXgs DxMksEmoYLg BjHmSuyCPsgd keYderwtuLh jjlhJKDNkst lzfatbkfOzB BaYFEQTNPHkd BUqFLOrFKufR MxpEmduQuOF BtragjjgDxbR ZROjIFQJITB OmgNqtrgRFp WWGmRXzSgqW BkkUmvTOtsta RkKhtJkJFou ByyscqvVynse BJoYHDiIfCXS BziuAmVSOObC zTNIIWOQTgO oaPHHSTFWTC BbxsIVRuZdxa PavcqJQMtmW YCSexAQJPEe VkmShKhVfni cTdNTlBmOLi BmIwWRyPxSEu BxzdmwZmWLce BzPSkXCdfWRK CROQenVsxYsu BidVXOvjQOFa CNEmoCqYGIBr CGggwxsoljCH CXYKyLhGIcXz BfxrlxediTD DlEQxAzyUrD bynKEQVenjT BheYvVbRvGMP hQNZqxXNsIf BBOJBnKSElUf bzWKaKnMrdL CBCLnwsmbQGn wyeRjvFbIhr yQAFGLqwCkP CWglCxiEvxfD ZvYIdLdFABL FFWXLFFunFr NMWwuMXXjKn pbSqvAOdMgf CKelEFqDEmfT KdRelwgzYv BifmdrQeKRIv BfNNYRIjlEzG BczCQRysNyDW
end PySem.W.Fast
section
open PySem PySem.W PyProof.Rows
local macro_rules | `(tactic| o_head (kHook $k $a $e)) => `(tactic| o_head (HK.hook $k $a))
set_option maxHeartbeats 0 in
open_top hdTop for PySem.Challenge.rw_ribbonloft_k31_trades_one_behind_the_oth
end
section
local macro_rules
|`(def $d $s:optDeclSig $v:declVal)=>`(theorem $d $(Lean.TSyntax.mk (Lean.mkNode ``Lean.Parser.Command.declSig #[s.raw[0],s.raw[1][0]])):declSig $v:declVal)
|`(abbrev $d $s:optDeclSig $v:declVal)=>`(noncomputable def $d $s:optDeclSig $v:declVal)
local macro_rules|`($i:num#$n)=>if n.raw.isNatLit?==some 0 then `(.var $i) else `(.cst (.int $i))
local macro_rules|`(%[$x,*|_])=>do pure (<-x.getElems.foldrM (fun x k=>`(.cons $x $k)) (<-`(.nil))).raw
set_option hygiene false
local macro_rules
|`(tactic|cbv)=>`(tactic|obtain⟨z1,z2⟩:=ag z)
|`(tactic|fin2)=>`(tactic|intro pins s J H Q I h)
|`(tactic|k_go)=>`(tactic|obtain⟨z,O⟩:=ag z)
|`(tactic|k_in)=>`(tactic|apply wpAny_bind)
|`(tactic|k_ne)=>`(tactic|rw[Rep]at h ⊢)
|`(tactic|k_all)=>`(tactic|exact ak (I "double" (by decide) _) (ak (I "grow" O _) (ak (I "swap" (by decide) _) (aL (yes "drop" _ _ rfl (aV (aB (aa rfl) (aU ay) fK) (aB U (aa rfl) (by show some (_ == _)=_;rw[beq_self_eq_true])))) (aC (aN (ah (ao (aa rfl) ae bs) (ah (bR (ao (cQ (aa rfl) (ao (aa rfl) ae b1) tk1) (dJ (aa rfl) ae s1) (bO (by simp at Y ⊢;omega))) rfl (bh _)) ay))) (rk _ _))))))
|`(tactic|k_asm)=>`(tactic|intro pins s J H xs us Q I r h)
|`(tactic|k_cls)=>`(tactic|obtain⟨y,z,h⟩:=cy h)
|`(tactic|k_get)=>`(tactic|exact ak (I "double" (by decide) _) (ak (I "grow" O _) (aL (yes "swap" _ _ rfl (aV (aB (aa rfl) (aU ay) fK) c)) (aC (aN (ah (aa rfl) (ah (bR (ao (ao (cQ (aa rfl) (aa rfl) tk0) (aU (ah U (ah (aa rfl) ay))) (bO (b:=[x,h]) (by simp at Y ⊢;omega))) (dJ (aa rfl) ae s1) (bO (by simp at Y ⊢;omega))) rfl (bh _)) ay))) (rk _ _)))))
|`(tactic|k_mem)=>`(tactic|intro pins s J H D I h)
|`(⋯)=>`(by lia)
|`(∅)=>`(by decide)
set_option hygiene true
local macro_rules|`(#[$x,*])=>`(⟨$x,*⟩)
open List (any_cons contains_cons drop_length drop_zero filterMap_cons find?_cons getElem?_map length_append length_cons length_drop length_map length_nil length_range length_take map_cons mem_cons mem_nil_iff mem_of_getElem? not_mem_nil of_mem_zip range' replicate set_cons_succ set_cons_zero size_toArray)
open Bool (and_eq_true false_eq_true noConfusion not_eq_true not_eq_true' or_eq_true)
open Int (toNat_natCast)
open Nat (le_of_eq le_of_lt le_succ lt_trans ne_of_gt sub_zero zero_le)
open Array (length_toList)
abbrev Ja:=@PySem.wpAny_bind
abbrev Jb:=@PySem.Heap.get?_push_of_some
abbrev Jc:=@PySem.wpAny_pure
abbrev Jd:=@PySem.Heap.get?_push_size
abbrev Je:=@Nat.le_refl
abbrev Jf:=@PySem.Heap.lt_size
abbrev Jg:=@List.getElem?_set_ne
abbrev Jh:=@decide_eq_false
abbrev Ji:=@Nat.lt_of_lt_of_le
abbrev Jj:=@decide_eq_true
abbrev Jk:=@List.getElem?_set_self
abbrev Jl:=@Nat.ne_of_lt
abbrev Jm:=@List.mem_cons_of_mem
abbrev Jn:=@List.lookup_cons
abbrev Jo:=@Bool.false_ne_true
abbrev Jp:=@List.isEmpty_iff
abbrev Jq:=@PySem.Heap.get?_update_self
abbrev Jr:=@Nat.le_trans
abbrev Js:=@List.mem_append_right
abbrev Jt:=@PySem.Heap.size_push
abbrev Ju:=@List.append_nil
abbrev Jv:=@Nat.lt_of_le_of_lt
abbrev Jw:=@Nat.lt_irrefl
abbrev Jx:=@List.all_cons
abbrev Jy:=@PySem.Heap.get?_update_other
abbrev Jz:=@List.all_eq_true
abbrev JA:=@List.mem_cons_self
abbrev JB:=@PySem.Heap.get?_update_ne
namespace RL
open PySem
abbrev mkR(c:Str)(k:Nat):Str:=#[c.cps.push (1114112+k)]
abbrev dN(x:Str):Option Nat:=match x.cps.back? with
 | some n=>if 1114112<=n then some (n-1114112)else none
 | none=>none
abbrev baseOf(x:Str):Str:=if(dN x).isSome then⟨x.cps.pop⟩else x
def pA:dN (mkR c k)=some k:=by
 unfold dN mkR;simp
def rH:baseOf (mkR c k)=c:=by
 unfold baseOf;rw[pA];simp[mkR]
def Ax(h:dN x=none):baseOf x=x:=by
 unfold baseOf;rw[h];rfl
open PySem (Str)
@[reducible]noncomputable def Ky:=Sum Int Str
set_option genInjectivity true in
inductive D where
 | non
 | bl (b:Bool)
 | int (i:Int)
 | str (x:Str)
 | tup (xs:List D)
 | lst (xs:List D)
 | dK (ks:List Ky) (vs:List D)
 | dT (ks:List (List Ky)) (vs:List D)
 | scr (xs:List D)
 | exc (c:Str)
 | fT (ks:List (List Ky)) (vs:List D)
 | fL (xs:List D)
 | obj
 deriving Inhabited
mutual
noncomputable def D.imm:D->Bool
 | .tup xs=>aF xs
 | .lst _=>false
 | .dK _ _=>false
 | .dT _ _=>false
 | .scr xs=>aF xs
 | .fT _ vs=>aF vs
 | .fL xs=>aF xs
 | _=>true
noncomputable def aF:List D->Bool
 | []=>true
 | d::r=>d.imm&&aF r
end
mutual
noncomputable def D.noF:D->Bool
 | .tup xs=>dR xs
 | .lst xs=>dR xs
 | .dK _ _=>false
 | .dT _ _=>false
 | .scr _=>false
 | .exc _=>false
 | .fT _ _=>false
 | .fL _=>false
 | _=>true
noncomputable def dR:List D->Bool
 | []=>true
 | d::r=>d.noF&&dR r
end
inductive Bop where | add | sub | mul | fdiv | mod | pow
 deriving DecidableEq
inductive Cop where | lt | le | gt | ge | eq | ne
 deriving DecidableEq
inductive Bi where | len | list | tuple | int | all | any | lenSet | sorted | sortedSet | abs | sum | sortedS
 deriving DecidableEq
inductive Ty where | int | bool | list | tuple | str
 deriving DecidableEq
mutual
inductive E where
 | var (i:Nat)
 | cst (d:D)
 | glb (x:Str) (i:Int)
 | bin (o:Bop) (a b:E)
 | cmp (c:Cop) (a b:E)
 | chain (c c':Cop) (a b e:E)
 | isN (neg:Bool) (a:E)
 | inn (neg:Bool) (a b:E)
 | and (a b:E)
 | or (a b:E)
 | not (a:E)
 | tup (es:Es)
 | lst (es:Es)
 | ix (a b:E)
 | slT (a b:E)
 | slF (a b:E)
 | call (f:Nat) (es:Es)
 | bi (b:Bi) (a:E)
 | max (a b:E)
 | min (a b:E)
 | isi (a:E) (t:Ty)
 | rng1 (a:E)
 | rng3 (c:Int) (a b:E)
 | neg (a:E)
 | comp (e:E) (tg:List Nat) (it:It) (c:E)
 | compA (e:E) (tg:List Nat) (it:It)
 | join (a:E)
 | isx (a:E) (c:Str)
 | fld (a:E)
 | frz (a:E)
 | inG (g:Str) (ks:List Str) (a:E)
inductive Es where
 | nil
 | cons (e:E) (es:Es)
inductive It where
 | seq (e:E)
 | rng1 (a:E)
 | rng3 (c:Int) (a b:E)
 | enm (e:E)
 | zip (a b:E)
end
mutual
inductive S where
 | asg (i:Nat) (e:E)
 | own (i:Nat) (e:E)
 | unp (is:List Nat) (e:E)
 | par (i j:Nat) (a b:E)
 | parL (i j:Nat) (a b:E)
 | parR (i j:Nat) (a b:E)
 | asgT (i:Nat) (a b:E)
 | star (i j:Nat) (e:E)
 | app (i:Nat) (e:E)
 | ife (t:E) (a b:Ss)
 | forr (tg:List Nat) (it:It) (b:Ss)
 | ret (e:E)
 | exc (e:E)
 | rais (c:Str) (ps:Es)
 | tryc (b:Ss) (c:Str) (i:Nat) (h:Ss)
 | raiI (c:Str) (e:E)
inductive Ss where
 | nil
 | cons (s:S) (r:Ss)
 | act (i:Nat) (g:Str) (tbl:List (Str × Nat)) (a:E) (es:Es)
 | opn (j:Nat) (e:E) (r:Sq)
 | tell (i f:Nat) (es:Es) (t:E) (a r:Ss)
inductive Sq where
 | cls (r:Ss)
 | cons (s:S) (r:Sq)
 | opn (j:Nat) (e:E) (r:Sq)
 | frz (j:Nat) (r:Ss)
 | fz (j:Nat) (r:Sq)
end
@[reducible]noncomputable def St:=List (Option D)
@[reducible]noncomputable def Cl:=Nat->List D->Option D
abbrev most:Nat:=100000
abbrev bQ{α:Type}(xs:List α)(i:Int):Option α :=
 if 0<=i then xs[i.toNat]? else if -(xs.length:Int)<=i then xs[(i+xs.length).toNat]? else none
abbrev Eu(n:Nat)(i:Int):Option Nat :=
 if 0<=i then(if i<n then some i.toNat else none)else if -(n:Int)<=i then some (i+n).toNat else none
abbrev cutAt(n:Nat)(i:Int):Nat:=if 0<=i then min i.toNat n else(i+n).toNat
abbrev aT:Bop->D->D->Option D
 | .add,.int a,.int b=>some (.int (a+b))
 | .add,.str a,.str b=>if a.length+b.length<=most then some (.str (a++b))else none
 | .add,.lst a,.lst b=>if a.length+b.length<=most then some (.lst (a++b))else none
 | .add,.tup a,.tup b=>if a.length+b.length<=most/\0<a.length then some (.tup (a++b))else none
 | .sub,.int a,.int b=>some (.int (a-b))
 | .mul,.int a,.int b=>if(-(2 ^ 64)<a/\a<2 ^ 64)\/(-(2 ^ 64)<b/\b<2 ^ 64)then some (.int (a*b))else none
 | .mul,.lst a,.int b=>if 0<=b/\b<=most/\a.length*b.toNat<=most then some (.lst (replicate b.toNat a).flatten)else none
 | .fdiv,.int a,.int b=>if 0<b/\b<2 ^ 200 then some (.int (a / b))else none
 | .mod,.int a,.int b=>if 0<b then some (.int (a%b))else none
 | .pow,.int a,.int b=>if 0<=b/\b<=1000/\a.natAbs<2 ^ 64 then some (.int (a ^ b.toNat))else none
 | _,_,_=>none
abbrev eqs(f:D->D->Option Bool):List D->List D->Option Bool
 | a::r,b::s=>(f a b).bind fun e=>(eqs f r s).map fun k=>e&&k
 | _,_=>some true
abbrev eqD:Nat->D->D->Option Bool
 | _,.int a,.int b=>some (a == b)
 | _,.str a,.str b=>some (a == b)
 | _,.bl a,.bl b=>some (a == b)
 | n+1,.tup a,.tup b=>(eqs (eqD n) a b).map fun k=>k&&a.length == b.length
 | n+1,.lst a,.lst b=>(eqs (eqD n) a b).map fun k=>k&&a.length == b.length
 | n+1,.fL a,.fL b=>(eqs (eqD n) a b).map fun k=>k&&a.length == b.length
 | n+1,.lst a,.fL b=>(eqs (eqD n) a b).map fun k=>k&&a.length == b.length
 | n+1,.fL a,.lst b=>(eqs (eqD n) a b).map fun k=>k&&a.length == b.length
 | _,_,_=>none
abbrev bo:Cop->D->D->Option Bool
 | .lt,.int a,.int b=>some (decide (a<b))
 | .le,.int a,.int b=>some (decide (a<=b))
 | .gt,.int a,.int b=>some (decide (b<a))
 | .ge,.int a,.int b=>some (decide (b<=a))
 | .eq,a,b=>eqD 8 a b
 | .ne,a,b=>(eqD 8 a b).map not
 | _,_,_=>none
abbrev truth:D->Option Bool
 | .bl b=>some b
 | .lst xs=>some (!xs.isEmpty)
 | .tup xs=>some (!xs.isEmpty)
 | .int i=>some (i != 0)
 | _=>none
abbrev gQ:List D->Option (List Int)
 | []=>some []
 | .int i::r=>(gQ r).map (i :: ·)
 | _=>none
abbrev ff:List D->Option (List Bool)
 | []=>some []
 | .bl i::r=>(ff r).map (i :: ·)
 | _=>none
abbrev strs?:List D->Option (List Str)
 | []=>some []
 | .str i::r=>(strs? r).map (i :: ·)
 | _=>none
abbrev qN(a:Int):List Int->List Int
 | []=>[a]
 | b::r=>if a<=b then a::b::r else b::qN a r
abbrev sortI:List Int->List Int
 | []=>[]
 | a::r=>qN a (sortI r)
abbrev kB(xs:List Int):List Int:=xs.foldl (fun m k=>if m.any (· == k)then m else m++[k]) []
abbrev items:D->Option (List D)
 | .lst xs=>some xs
 | .tup xs=>some xs
 | .fL xs=>some xs
 | _=>none
abbrev i6:D->Option (List D)
 | .fL xs=>some xs
 | .lst xs=>some xs
 | .tup xs=>some xs
 | _=>none
@[simp] theorem itemsS_lst:i6 (.lst xs)=some xs:=rfl
@[simp] theorem itemsS_tup:i6 (.tup xs)=some xs:=rfl
abbrev kM:D->Option (List D)
 | .lst xs=>some xs
 | .tup xs=>some xs
 | .str x=>some (x.cps.toList.map fun c=>.str ⟨(List.toArray [c])⟩)
 | _=>none
abbrev CZ:List Str->Bool
 | a::b::r=>!decide (b.cps.toList<a.cps.toList)&&CZ (b::r)
 | _=>true
abbrev biV:Bi->D->Option D
 | .len,.str x=>if x.length<=most then some (.int x.length)else none
 | .len,.dK ks _=>some (.int ks.length)
 | .len,.dT ks _=>some (.int ks.length)
 | .len,.fT ks _=>some (.int ks.length)
 | .len,d=>(items d).map fun xs=>.int xs.length
 | .list,d=>(items d).map .lst
 | .tuple,d=>(items d).map .tup
 | .int,.bl b=>some (.int (if b then 1 else 0))
 | .int,.int i=>some (.int i)
 | .int,_=>none
 | .all,.lst xs=>(ff xs).map fun bs=>.bl (bs.all id)
 | .any,.lst xs=>(ff xs).map fun bs=>.bl (bs.any id)
 | .all,_=>none
 | .any,_=>none
 | .lenSet,.lst xs=>if xs.length<=1000 then(gQ xs).map fun is=>.int (kB is).length else none
 | .lenSet,_=>none
 | .sorted,.lst xs=>if xs.length<64 then(gQ xs).map fun is=>.lst ((sortI is).map .int)else none
 | .sorted,_=>none
 | .sortedSet,.lst xs=>if xs.length<=5 then(gQ xs).map fun is=>.lst ((sortI (kB is)).map .int)else(gQ xs).bind fun is=>if(kB is).length<=4 then some (.lst ((sortI (kB is)).map .int))else none
 | .sortedSet,_=>none
 | .abs,.int i=>some (.int (if i<0 then -i else i))
 | .abs,_=>none
 | .sortedS,.lst xs=>(strs? xs).bind fun I=>if CZ I then some (.lst xs)else none
 | .sortedS,_=>none
 | .sum,.lst xs=>(gQ xs).map fun is=>.int is.sum
 | .sum,_=>none
abbrev eX:Ty->D->Option Bool
 | .int,.int _=>some true
 | .int,.bl _=>some true
 | .bool,.bl _=>some true
 | .list,.lst _=>some true
 | .list,.fL _=>some true
 | .tuple,.tup _=>some true
 | .str,.str _=>some true
 | _,.non=>some false
 | _,.bl _=>some false
 | _,.int _=>some false
 | _,.str _=>some false
 | _,.tup _=>some false
 | _,.lst _=>some false
 | _,.fL _=>some false
 | _,_=>none
abbrev keyOf:D->Option Ky
 | .int i=>some (.inl i)
 | .str x=>some (.inr x)
 | _=>none
abbrev keysOf:List D->Option (List Ky)
 | []=>some []
 | d::r=>(keyOf d).bind fun k=>(keysOf r).map (k :: ·)
abbrev gH{κ:Type} [DecidableEq κ]:List κ->List D->κ->Option D
 | k::ks,v::vs,x=>if k=x then some v else gH ks vs x
 | _,_,_=>none
abbrev putD{κ:Type} [DecidableEq κ](ks:List κ)(vs:List D)(x:κ)(d:D):List κ × List D :=
 if x∈ks then(ks,List.zipWith (fun k v=>if k=x then d else v) ks vs)else(ks++[x],vs++[d])
abbrev ixV:D->D->Option D
 | .lst xs,.int i=>bQ xs i
 | .tup xs,.int i=>bQ xs i
 | .str x,.int i=>if x.length<=most then(bQ x.cps.toList i).map fun c=>.str ⟨(List.toArray [c])⟩else none
 | .fL xs,.int i=>if aF xs then bQ xs i else none
 | _,_=>none
abbrev Fu:D->D->Option D
 | .dK ks vs,k=>(keyOf k).bind (gH ks vs)
 | .dT ks vs,.tup k=>(keysOf k).bind (gH ks vs)
 | .fT ks vs,.tup k=>(keysOf k).bind (gH ks vs)
 | _,_=>none
abbrev Fp:D->D->D->Option D
 | .dK ks vs,k,z=>(keyOf k).map fun q=>(gH ks vs q).getD z
 | .dT ks vs,.tup k,z=>(keysOf k).map fun q=>(gH ks vs q).getD z
 | _,_,_=>none
abbrev Fq:D->D->Option Bool
 | .dK ks vs,k=>(keyOf k).map fun k=>(gH ks vs k).isSome
 | .dT ks vs,.tup k=>(keysOf k).map fun k=>(gH ks vs k).isSome
 | .fT ks _,.tup k=>(keysOf k).map fun k=>ks.any fun x=>decide (x=k)
 | _,_=>none
abbrev flat:D->Bool
 | .int _=>true
 | .str _=>true
 | _=>false
abbrev eqF:D->D->Bool
 | .int a,.int b=>a == b
 | .str a,.str b=>a == b
 | _,_=>false
abbrev inV(a b:D):Option Bool :=
 (items b).bind fun xs=>if flat a&&xs.all flat then some (xs.any fun x=>eqF x a)else none
abbrev hW:D->D->Option D
 | .fL xs,.int k=>some (.lst (xs.take (cutAt xs.length k)))
 | .scr xs,.int k=>some (.lst (xs.take (cutAt xs.length k)))
 | .lst xs,.int k=>some (.lst (xs.take (cutAt xs.length k)))
 | .tup xs,.int k=>if cutAt xs.length k<xs.length then some (.tup (xs.take (cutAt xs.length k)))else none
 | _,_=>none
abbrev da:D->D->Option D
 | .fL xs,.int k=>some (.lst (xs.drop (cutAt xs.length k)))
 | .lst xs,.int k=>some (.lst (xs.drop (cutAt xs.length k)))
 | .tup xs,.int k=>if 0<cutAt xs.length k then some (.tup (xs.drop (cutAt xs.length k)))else none
 | _,_=>none
abbrev cb(lo:Int):Nat->List D
 | 0=>[]
 | n+1=>.int lo::cb (lo+1) n
abbrev cx(c lo:Int):Nat->List D
 | 0=>[]
 | n+1=>.int lo::cx c (lo+c) n
abbrev bF(c a b:Int):Nat:=(if c > 0 then(if a<b then(b-a-1) / c+1 else 0)else(if a > b then(a-b-1) / (-c)+1 else 0)).toNat
abbrev jJ:D->D->Option (List D)
 | .int a,.int b=>if(b-a).toNat<=most/\-(2 ^ 60)<=a/\a<2 ^ 60/\-(2 ^ 60)<=b/\b<2 ^ 60 then some (cb a (b-a).toNat)else none
 | _,_=>none
abbrev jH(c:Int):D->D->Option (List D)
 | .int a,.int b=>if c≠0/\-(2 ^ 60)<c/\c<2 ^ 60/\bF c a b<=most/\-(2 ^ 60)<=a/\a<2 ^ 60/\-(2 ^ 60)<=b/\b<2 ^ 60 then some (cx c a (bF c a b))else none
 | _,_=>none
abbrev dZ(i:Int):List D->List D
 | []=>[]
 | d::r=>.tup [.int i,d]::dZ (i+1) r
abbrev eV:List D->List D->List D
 | a::r,b::s=>.tup [a,b]::eV r s
 | _,_=>[]
abbrev cB:List Nat->List D->St->Option St
 | [],[],J=>some J
 | i::is,d::ds,J=>cB is ds (J.set i (some d))
 | _,_,_=>none
abbrev bP(tg:List Nat)(d:D)(J:St):Option St :=
 match tg with
 | [i]=>some (J.set i (some d))
 | tg=>match d with
  | .tup ds=>cB tg ds J
  | .lst ds=>cB tg ds J
  | _=>none
abbrev lQ(y:Option D)(ys:List D):Option (List D) :=
 match y with
 | some e=>if e.imm then some (e::ys)else none
 | none=>some ys
abbrev de(f:St->Option (Option D))(tg:List Nat)(J:St):List D->Option (List D)
 | []=>some []
 | d::r=>(bP tg d J).bind fun I=>(f I).bind fun y=>(de f tg J r).bind (lQ y)
abbrev aS:D->Bool
 | .lst xs=>aF xs
 | .dK _ vs=>aF vs
 | .dT _ vs=>aF vs
 | _=>false
abbrev Ei(f:St->Option D)(O:Bool)(tg:List Nat)(J:St):List D->Option (List D)
 | []=>some []
 | d::r=>(bP tg d J).bind fun I=>(f I).bind fun y=>if aS y&&O then(Ei f O tg J r).map (y :: ·)else none
abbrev fits(xs:List D):Option (List D):=if xs.length<=most then some xs else none
abbrev aH:E->Bool
 | .lst _=>true
 | .tup _=>true
 | .comp _ _ _ _=>true
 | .compA _ _ _=>true
 | .bin _ _ _=>true
 | .slT _ _=>true
 | .slF _ _=>true
 | .call _ _=>true
 | .bi _ _=>true
 | .rng1 _=>true
 | .rng3 _ _ _=>true
 | _=>false
abbrev cV(n c:Str):Bool:=n == c || c == "RibbonError" || c == "ValueError"
abbrev fU(n c:Str):Bool:=cV (baseOf n) c
abbrev AO(neg:Bool):D->Option D
 | .non=>some (.bl (!neg))
 | .dK _ _=>none
 | .dT _ _=>none
 | .fT _ _=>none
 | _=>some (.bl neg)
abbrev tw(y:Option D):D->Option D
 | .bl true=>y
 | .bl false=>some (.bl false)
 | _=>none
abbrev orV(y:Option D):D->Option D
 | .bl false=>y
 | .bl true=>some (.bl true)
 | _=>none
abbrev xP:D->Option D
 | .int i=>some (.int (-i))
 | _=>none
abbrev wz:D->D->Option D
 | .int i,.int j=>some (.int (if j > i then j else i))
 | _,_=>none
abbrev wJ:D->D->Option D
 | .int i,.int j=>some (.int (if j<i then j else i))
 | _,_=>none
abbrev Fi:D->D->D->Option D
 | .lst xs,.int i,.int j=>(gQ xs).bind fun is=>if 0<=j/\i∈is.drop j.toNat then some (.int (j.toNat+(is.drop j.toNat).idxOf i:Nat))else none
 | _,_,_=>none
abbrev Fd:D->D->Option D
 | .str x,.str y=>match y.cps.toList with
  | [c]=>some (.int (x.cps.toList.count c:Nat))
  | _=>none
 | _,_=>none
abbrev Fx:D->D->Option D
 | .str x,.int k=>if 0<=k/\x.length<=most then some (.str ⟨(x.cps.toList.take k.toNat).toArray⟩)else none
 | _,_=>none
abbrev Fv:D->D->Option D
 | .str x,.int k=>if 0<=k/\x.length<=most then some (.str ⟨(x.cps.toList.drop k.toNat).toArray⟩)else none
 | _,_=>none
abbrev Fj:D->D->D->D->Option D
 | .str x,y,.str z,w=>if x≠z/\y.imm=true/\w.imm=true then some (.dK [.inr x,.inr z] [y,w])else none
 | _,_,_,_=>none
abbrev Ff:D->D->Option D
 | .str x,.int n=>if 1<n/\n<=1000/\0<x.length/\x.length<=100 then some (.str ⟨(replicate n.toNat x.cps.toList).flatten.toArray⟩)else none
 | _,_=>none
abbrev DP:D->Option D
 | .lst xs=>(strs? xs).bind fun I=>if I.length<=most/\I.all (fun s=>s.length<=100)then some (.str ⟨(I.flatMap fun s=>s.cps.toList).toArray⟩)else none
 | _=>none
abbrev E2(c:Str):D->Option D
 | .exc n=>some (.bl (fU n c))
 | _=>none
abbrev vQ:D->Option D
 | .exc n=>(dN n).bind fun k=>some (.int (Int.ofNat k))
 | _=>none
abbrev kyD:Ky->D
 | .inl i=>.int i
 | .inr x=>.str x
abbrev Fm:D->Option (List D)
 | .fT ks _=>some (ks.map fun k=>.tup (k.map kyD))
 | _=>none
abbrev EO:D->Option D
 | .lst xs=>if aF xs then some (.fL xs)else none
 | _=>none
abbrev Fo:D->D->Option D
 | .fL a,.lst b=>if a.length+b.length<=most then some (.lst (a++b))else none
 | .lst a,.fL b=>if a.length+b.length<=most then some (.lst (a++b))else none
 | _,_=>none
abbrev F0:D->D->Option D
 | .tup k,v=>(keysOf k).bind fun q=>if v.imm then some (.dT [q] [v])else none
 | _,_=>none
abbrev yC:List D->Option (List (List Int))
 | []=>some []
 | .fL ds::r=>(gQ ds).bind fun is=>(yC r).map (is :: ·)
 | _=>none
abbrev ltL:List Int->List Int->Bool
 | [],[]=>false
 | [],_::_=>true
 | _::_,[]=>false
 | a::r,b::s=>if a=b then ltL r s else decide (a<b)
abbrev C6:List Int->List (List Int)->List Int
 | b,[]=>b
 | b,x::r=>C6 (if ltL x b then x else b) r
abbrev Fg:D->Option D
 | .lst xs=>(yC xs).bind fun I=>match I with
  | []=>none
  | x::r=>some (.fL ((C6 x r).map .int))
 | _=>none
abbrev Eo(ks:List Str):D->Option D
 | .str w=>some (.bl (ks.any fun k=>decide (k=w)))
 | _=>none
abbrev gw(tbl:List (Str × Nat)):D->Option Nat
 | .str w=>(tbl.find? fun q=>decide (q.1=w)).map (·.2)
 | _=>none
abbrev ng:D->Option (D × D)
 | .tup (d::r)=>if d.imm&&aF r then some (d,.fL r)else none
 | _=>none
abbrev Ck:D->Option D
 | .dT ks vs=>some (.fT ks vs)
 | _=>none
@[simp] theorem sv_andt {y:Option D}:tw y (.bl true)=y:=rfl
@[simp] theorem sv_andf {y:Option D}:tw y (.bl false)=some (.bl false):=rfl
@[simp] theorem sv_ort {y:Option D}:orV y (.bl true)=some (.bl true):=rfl
@[simp] theorem sv_orf {y:Option D}:orV y (.bl false)=y:=rfl
@[simp] theorem sv_max {i j:Int}:wz (.int i) (.int j)=some (.int (if j > i then j else i)):=rfl
@[simp] theorem sv_min {i j:Int}:wJ (.int i) (.int j)=some (.int (if j<i then j else i)):=rfl
@[simp] theorem sv_neg {i:Int}:xP (.int i)=some (.int (-i)):=rfl
mutual
noncomputable def ev(cl:Cl)(J:St):E->Option D
 | .var i=>(J[i]?).bind id
 | .cst d=>some d
 | .glb _ i=>some (.int i)
 | .bin o a b=>(ev cl J a).bind fun x=>(ev cl J b).bind fun y=>aT o x y
 | .cmp c a b=>(ev cl J a).bind fun x=>(ev cl J b).bind fun y=>(bo c x y).map .bl
 | .chain c c' a b e=>(ev cl J a).bind fun x=>(ev cl J b).bind fun y=>(bo c x y).bind fun k=>if k then(ev cl J e).bind fun z=>(bo c' y z).map .bl else some (.bl false)
 | .isN neg a=>(ev cl J a).bind (AO neg)
 | .inn neg a b=>(ev cl J a).bind fun x=>(ev cl J b).bind fun y=>(inV x y).map fun k=>.bl (if neg then !k else k)
 | .and a b=>(ev cl J a).bind (tw (ev cl J b))
 | .or a b=>(ev cl J a).bind (orV (ev cl J b))
 | .not a=>((ev cl J a).bind truth).map fun k=>.bl (!k)
 | .tup es=>(evs cl J es).map .tup
 | .lst es=>(evs cl J es).map .lst
 | .ix a b=>(ev cl J a).bind fun x=>(ev cl J b).bind fun y=>ixV x y
 | .slT a b=>(ev cl J a).bind fun x=>(ev cl J b).bind fun y=>hW x y
 | .slF a b=>(ev cl J a).bind fun x=>(ev cl J b).bind fun y=>da x y
 | .call f es=>(evs cl J es).bind fun ds=>cl f ds
 | .bi b a=>(ev cl J a).bind fun x=>biV b x
 | .max a b=>(ev cl J a).bind fun x=>(ev cl J b).bind fun y=>wz x y
 | .min a b=>(ev cl J a).bind fun x=>(ev cl J b).bind fun y=>wJ x y
 | .isi a t=>(ev cl J a).bind fun x=>(eX t x).map .bl
 | .rng1 a=>(ev cl J a).bind fun x=>(jJ (.int 0) x).map .lst
 | .rng3 c a b=>(ev cl J a).bind fun x=>(ev cl J b).bind fun y=>(jH c x y).map .lst
 | .neg a=>(ev cl J a).bind xP
 | .comp e tg it c=>(cm cl J it).bind fun ds=>(fits ds).bind fun ds=>(de (fun I=>((ev cl I c).bind truth).bind fun k=>if k then(ev cl I e).map some else some none) tg J ds).map .lst
 | .compA e tg it=>(cm cl J it).bind fun ds=>(fits ds).bind fun ds=>(de (fun I=>(ev cl I e).map some) tg J ds).map .lst
 | .join a=>(ev cl J a).bind DP
 | .isx a c=>(ev cl J a).bind (E2 c)
 | .fld a=>(ev cl J a).bind vQ
 | .frz a=>(ev cl J a).bind fun x=>if aH a then EO x else none
 | .inG _ ks a=>(ev cl J a).bind (Eo ks)
noncomputable def evs(cl:Cl)(J:St):Es->Option (List D)
 | .nil=>some []
 | .cons e es=>(ev cl J e).bind fun d=>(evs cl J es).map (d :: ·)
noncomputable def cm(cl:Cl)(J:St):It->Option (List D)
 | .seq e=>(ev cl J e).bind i6
 | .rng1 a=>(ev cl J a).bind fun x=>jJ (.int 0) x
 | .rng3 c a b=>(ev cl J a).bind fun x=>(ev cl J b).bind fun y=>jH c x y
 | .enm e=>(ev cl J e).bind fun x=>(kM x).map (dZ 0)
 | .zip a b=>(ev cl J a).bind fun x=>(ev cl J b).bind fun y=>(items x).bind fun xs=>(items y).bind fun ys=>if xs.length=ys.length then some (eV xs ys)else none
end
abbrev clX(cl:Cl)(f:Nat)(ds:List D):Option Str:=(cl (f+1000) ds).bind fun d=>match d with
 | .str x=>some x
 | _=>none
mutual
noncomputable def evX(cl:Cl)(J:St):E->Option Str
 | .call f es=>match evs cl J es with
  | some ds=>clX cl f ds
  | none=>oR cl J es
 | .ix a _=>evX cl J a
 | _=>none
noncomputable def oR(cl:Cl)(J:St):Es->Option Str
 | .nil=>none
 | .cons e es=>match ev cl J e with
  | some _=>oR cl J es
  | none=>evX cl J e
end
abbrev written:D->Bool
 | .int i=>decide (i.natAbs<2 ^ 1900)
 | _=>false
abbrev xJ(c:Str):D->Option Str
 | .int i=>if 0<=i/\written (.int i)then some (mkR c i.toNat)else none
 | _=>none
inductive Out where
 | nx
 | rt (d:D)
abbrev avE(M:List Nat):E->Bool
 | .var j=>!M.contains j
 | .ix a _=>avE M a
 | .call _ _=>true
 | _=>false
abbrev ot(M:List Nat):It->Bool
 | .seq e=>avE M e || aH e
 | .enm e=>avE M e || aH e
 | .zip a b=>(avE M a || aH a)&&(avE M b || aH b)
 | _=>true
abbrev cR(M:List Nat)(e:E)(d:D):Bool :=
 d.imm || (aS d&&(aH e || match e with | .var i=>M.contains i | _=>false))
abbrev bz(M:List Nat)(e:E)(d:D):Bool:=d.imm || (aS d&&aH e) || avE M e
abbrev isVar:E->Bool
 | .var _=>true
 | _=>false
abbrev C7(M ps:List Nat):Nat->Es->List D->Bool
 | _,.nil,[]=>true
 | q,.cons e es,d::ds=>(if ps.contains q then isVar e else bz M e d)&&C7 M ps (q+1) es ds
 | _,_,_=>false
abbrev Ft:D->D->D->Option D
 | .lst xs,.int k,d=>(Eu xs.length k).map fun j=>.lst (xs.set j d)
 | .dK ks vs,k,d=>(keyOf k).bind fun k=>if ks.length<most then some (.dK (putD ks vs k d).1 (putD ks vs k d).2)else none
 | .dT ks vs,.tup k,d=>(keysOf k).bind fun k=>if ks.length<most then some (.dT (putD ks vs k d).1 (putD ks vs k d).2)else none
 | _,_,_=>none
abbrev bN(f:St->Option (Out × St))(tg:List Nat):List D->St->Option (Out × St)
 | [],J=>some (.nx,J)
 | d::r,J=>if d.imm then(bP tg d J).bind fun I=>(f I).bind fun p=>match p.1 with
   | .nx=>bN f tg r p.2
   | .rt d=>some (.rt d,p.2)
  else none
abbrev whF(t:St->Option Bool)(f:St->Option (Out × St)):Nat->St->Option (Out × St)
 | 0,_=>none
 | n+1,J=>(t J).bind fun k=>if k then(f J).bind fun p=>match p.1 with
   | .nx=>whF t f n p.2
   | .rt d=>some (.rt d,p.2)
  else some (.nx,J)
abbrev di(f:St->Option (Out × St))(O:St->Option (Str × St))(tg:List Nat):List D->St->Option (Str × St)
 | [],_=>none
 | d::r,J=>if d.imm then(bP tg d J).bind fun I=>match f I with
   | some p=>match p.1 with
    | .nx=>di f O tg r p.2
    | .rt _=>none
   | none=>O I
  else none
abbrev Fs:D->Option (D × D)
 | .lst xs=>(xs[xs.length-1]?).map fun d=>(d,.lst xs.dropLast)
 | _=>none
abbrev Fw:D->D->Option D
 | .lst xs,.int k=>if 0<=k/\k<xs.length then some (.lst (xs.eraseIdx k.toNat))else none
 | _,_=>none
abbrev Fh:D->D->D->Option D
 | .lst xs,.int a,.int b=>if 0<=a/\a<=b/\b<=xs.length then some (.lst (xs.take a.toNat++xs.drop b.toNat))else none
 | _,_,_=>none
abbrev Fy:D->Option D
 | .lst xs=>some (.lst xs.reverse)
 | _=>none
abbrev Fe(J:St)(r w:Nat)(l:D):D->Option (Out × St)
 | .tup [_,R]=>some (.nx,(J.set w (some l)).set r (some R))
 | _=>none
abbrev Fc:D->D->Option D
 | .str a,.str b=>if a.length+b.length<=most then some (.str (a++b))else none
 | _,_=>none
abbrev back:Out × St->Option (Out × St)
 | (.nx,_)=>none
 | p=>some p
abbrev lZ(i:Nat):E:=.isi (.ix (.var i) 1#1) .list
abbrev told:D->Bool
 | .tup [_,.fL xs]=>decide (xs.length<most)
 | _=>false
mutual
noncomputable def evS(cl:Cl)(M:List Nat):S->St->Option (Out × St)
 | .asg i e,J=>(ev cl J e).bind fun d=>if bz M e d then some (.nx,J.set i (some d))else none
 | .own i e,J=>(ev cl J e).bind fun d=>if aS d&&aH e then some (.nx,J.set i (some d))else none
 | .unp is e,J=>(ev cl J e).bind fun d=>(items d).bind fun ds=>if aF ds then(cB is ds J).map fun I=>(.nx,I)else none
 | .par i j a b,J=>(ev cl J a).bind fun x=>(ev cl J b).bind fun y=>if x.imm&&y.imm then some (.nx,(J.set i (some x)).set j (some y))else none
 | .parL i j a b,J=>(ev cl J a).bind fun x=>(ev cl J b).bind fun y=>if x.imm&&(aS y&&aH b)then some (.nx,(J.set i (some x)).set j (some y))else none
 | .parR i j a b,J=>(ev cl J a).bind fun x=>(ev cl J b).bind fun y=>if y.imm&&(aS x&&aH a)then some (.nx,(J.set i (some x)).set j (some y))else none
 | .asgT i a b,J=>(ev cl J a).bind fun x=>(ev cl J b).bind fun y=>if x.imm&&(aS y&&aH b)then some (.nx,J.set i (some (.tup [x,y])))else none
 | .star i j e,J=>((ev cl J e).bind ng).map fun q=>(.nx,(J.set i (some q.1)).set j (some q.2))
 | .app i e,J=>(ev cl J e).bind fun d=>((J[i]?).bind id).bind fun l=>match l with
  | .lst xs=>if d.imm&&decide (xs.length<most)then some (.nx,J.set i (some (.lst (xs++[d]))))else none
  | _=>none
 | .ife t a b,J=>((ev cl J t).bind truth).bind fun k=>if k then aw cl M a J else aw cl M b J
 | .forr tg it b,J=>(cm cl J it).bind fun ds=>bN (aw cl M b) tg ds J
 | .ret e,J=>(ev cl J e).bind fun d=>if cR M e d then some (.rt d,J)else none
 | .exc e,J=>(ev cl J e).map fun _=>(.nx,J)
 | .rais _ _,_=>none
 | .tryc b c i h,J=>match aw cl M b J with
  | some p=>some p
  | none=>(bM cl M b J).bind fun q=>if fU q.1 c then(aw cl M h (q.2.set i (some (.exc q.1)))).map fun r=>(r.1,r.2.set i none)else none
 | .raiI _ _,_=>none
noncomputable def aw(cl:Cl)(M:List Nat):Ss->St->Option (Out × St)
 | .nil,J=>some (.nx,J)
 | .cons s r,J=>(evS cl M s J).bind fun p=>match p.1 with
  | .nx=>aw cl M r p.2
  | .rt d=>some (.rt d,p.2)
 | .opn j e r,J=>(ev cl J e).bind fun d=>if aS d&&aH e then rS cl M (j::M) r (J.set j (some d))else none
 | .tell i f es t a r,J=>(evs cl J es).bind fun ds=>if dR ds then(cl f ds).bind fun d=>if d.imm then((ev cl (J.set i (some d)) t).bind truth).bind fun k=>if k then(aw cl M a (J.set i (some d))).bind back else((ev cl (J.set i (some d)) (lZ i)).bind truth).bind fun k=>if k then(if told d then aw cl M r (J.set i (some .obj))else none)else aw cl M r (J.set i (some d))
  else none else none
 | .act i _ tbl a es,J=>((ev cl J a).bind (gw tbl)).bind fun f=>(evs cl (J.set i none) es).bind fun ds=>(cl f ds).bind fun d=>if d.imm then some (.rt d,J)else none
noncomputable def rS(cl:Cl)(M:List Nat):List Nat->Sq->St->Option (Out × St)
 | _,.cls r,J=>aw cl M r J
 | M1,.cons s r,J=>(evS cl M1 s J).bind fun p=>match p.1 with
  | .nx=>rS cl M M1 r p.2
  | .rt _=>none
 | M1,.opn j e r,J=>(ev cl J e).bind fun d=>if aS d&&aH e then rS cl M (j::M1) r (J.set j (some d))else none
 | _,.frz j r,J=>(((J[j]?).bind id).bind Ck).bind fun d=>aw cl M r (J.set j (some d))
 | M1,.fz j r,J=>(((J[j]?).bind id).bind Ck).bind fun d=>rS cl M M1.tail r (J.set j (some d))
noncomputable def l6(cl:Cl)(M:List Nat):S->St->Option (Str × St)
 | .asg _ e,J=>(evX cl J e).map fun x=>(x,J)
 | .own _ e,J=>(evX cl J e).map fun x=>(x,J)
 | .unp _ e,J=>(evX cl J e).map fun x=>(x,J)
 | .exc e,J=>(evX cl J e).map fun x=>(x,J)
 | .ret e,J=>(evX cl J e).map fun x=>(x,J)
 | .ife t a b,J=>((ev cl J t).bind truth).bind fun k=>if k then bM cl M a J else bM cl M b J
 | .forr tg it b,J=>(cm cl J it).bind fun ds=>di (aw cl M b) (bM cl M b) tg ds J
 | .rais c ps,J=>(evs cl J ps).bind fun ds=>if ds.all written then some (c,J)else none
 | .raiI c e,J=>((ev cl J e).bind (xJ c)).map fun x=>(x,J)
 | _,_=>none
noncomputable def bM(cl:Cl)(M:List Nat):Ss->St->Option (Str × St)
 | .nil,_=>none
 | .cons s r,J=>match evS cl M s J with
  | some p=>match p.1 with
   | .nx=>bM cl M r p.2
   | .rt _=>none
  | none=>l6 cl M s J
 | .opn _ _ _,_=>none
 | .tell _ _ _ _ _ _,_=>none
 | .act _ _ _ _ _,_=>none
end
def eJ:ev cl J (.var i)=((J[i]?).bind id):=rfl
def gP:ev cl J (.cst d)=(some d):=rfl
def Ed:ev cl J (.glb y1 i)=(some (.int i)):=rfl
def iM:ev cl J (.bin o a b)=((ev cl J a).bind fun x=>(ev cl J b).bind fun y=>aT o x y):=rfl
def nc:ev cl J (.cmp c a b)=((ev cl J a).bind fun x=>(ev cl J b).bind fun y=>(bo c x y).map .bl):=rfl
def jA:ev cl J (.chain c c' a b e)=((ev cl J a).bind fun x=>(ev cl J b).bind fun y=>(bo c x y).bind fun k=>if k then(ev cl J e).bind fun z=>(bo c' y z).map .bl else some (.bl false)):=rfl
def DC:ev cl J (.isN neg a)=((ev cl J a).bind (AO neg)):=rfl
def Ec:ev cl J (.inn neg a b)=((ev cl J a).bind fun x=>(ev cl J b).bind fun y=>(inV x y).map fun k=>.bl (if neg then !k else k)):=rfl
def gY:ev cl J (.and a b)=((ev cl J a).bind (tw (ev cl J b))):=rfl
def xS:ev cl J (.or a b)=((ev cl J a).bind (orV (ev cl J b))):=rfl
def yf:ev cl J (.not a)=(((ev cl J a).bind truth).map fun k=>.bl (!k)):=rfl
def DJ:ev cl J (.tup es)=((evs cl J es).map .tup):=rfl
def iT:ev cl J (.lst es)=((evs cl J es).map .lst):=rfl
def sA:ev cl J (.ix a b)=((ev cl J a).bind fun x=>(ev cl J b).bind fun y=>ixV x y):=rfl
def yr:ev cl J (.slT a b)=((ev cl J a).bind fun x=>(ev cl J b).bind fun y=>hW x y):=rfl
def Eb:ev cl J (.slF a b)=((ev cl J a).bind fun x=>(ev cl J b).bind fun y=>da x y):=rfl
def gm:ev cl J (.call f es)=((evs cl J es).bind fun ds=>cl f ds):=rfl
def E3:ev cl J (.bi b a)=((ev cl J a).bind fun x=>biV b x):=rfl
def tJ:ev cl J (.max a b)=((ev cl J a).bind fun x=>(ev cl J b).bind fun y=>wz x y):=rfl
def sf:ev cl J (.min a b)=((ev cl J a).bind fun x=>(ev cl J b).bind fun y=>wJ x y):=rfl
def Dw:ev cl J (.isi a t)=((ev cl J a).bind fun x=>(eX t x).map .bl):=rfl
def nE:ev cl J (.neg a)=((ev cl J a).bind xP):=rfl
def BZ:ev cl J (.comp e tg it c)=((cm cl J it).bind fun ds=>(fits ds).bind fun ds=>(de (fun I=>((ev cl I c).bind truth).bind fun k=>if k then(ev cl I e).map some else some none) tg J ds).map .lst):=rfl
def yP:ev cl J (.compA e tg it)=((cm cl J it).bind fun ds=>(fits ds).bind fun ds=>(de (fun I=>(ev cl I e).map some) tg J ds).map .lst):=rfl
def gM:evS cl M (.asg i e) J=((ev cl J e).bind fun d=>if bz M e d then some (.nx,J.set i (some d))else none):=rfl
def xU:evS cl M (.own i e) J=((ev cl J e).bind fun d=>if aS d&&aH e then some (.nx,J.set i (some d))else none):=rfl
def DN:evS cl M (.unp is e) J=((ev cl J e).bind fun d=>(items d).bind fun ds=>if aF ds then(cB is ds J).map fun I=>(.nx,I)else none):=rfl
def Ee:evS cl M (.par i j a b) J=((ev cl J a).bind fun x=>(ev cl J b).bind fun y=>if x.imm&&y.imm then some (.nx,(J.set i (some x)).set j (some y))else none):=rfl
def kI:evS cl M (.app i e) J=((ev cl J e).bind fun d=>((J[i]?).bind id).bind fun l=>match l with
  | .lst xs=>if d.imm&&decide (xs.length<most)then some (.nx,J.set i (some (.lst (xs++[d]))))else none
  | _=>none):=rfl
def hG:evS cl M (.ife t a b) J=(((ev cl J t).bind truth).bind fun k=>if k then aw cl M a J else aw cl M b J):=rfl
def js:evS cl M (.forr tg it b) J=((cm cl J it).bind fun ds=>bN (aw cl M b) tg ds J):=rfl
def gI:evS cl M (.ret e) J=((ev cl J e).bind fun d=>if cR M e d then some (.rt d,J)else none):=rfl
def yn:evS cl M (.exc e) J=((ev cl J e).map fun _=>(.nx,J)):=rfl
def nL:evS cl M (.tryc b c i h) J=(match aw cl M b J with
  | some p=>some p
  | none=>(bM cl M b J).bind fun q=>if fU q.1 c then(aw cl M h (q.2.set i (some (.exc q.1)))).map fun r=>(r.1,r.2.set i none)else none):=rfl
def CA:evS cl M (.raiI y1 y2) J=(none):=rfl
def wu:aT .add (.lst a) (.lst b)=(if a.length+b.length<=most then some (.lst (a++b))else none):=rfl
def Cd:aT .mul (.int a) (.int b)=(if(-(2 ^ 64)<a/\a<2 ^ 64)\/(-(2 ^ 64)<b/\b<2 ^ 64)then some (.int (a*b))else none):=rfl
def EW:aT .fdiv (.int a) (.int b)=(if 0<b/\b<2 ^ 200 then some (.int (a / b))else none):=rfl
def EB:aT .mod (.int a) (.int b)=(if 0<b then some (.int (a%b))else none):=rfl
def El:ixV (.lst xs) (.int i)=(bQ xs i):=rfl
def iO:bP [i] d J=some (J.set i (some d)):=rfl
def EF:eqD n (.int a) (.int b)=some (a == b):=by cases n<;>rfl
def B8:biV .all (.lst xs)=(ff xs).map fun bs=>.bl (bs.all id):=rfl
def Dp:biV .len (.str x)=if x.length<=most then some (.int x.length)else none:=rfl
def E6:avE M (.var j)=!M.contains j:=rfl
set_option autoImplicit false
structure Fn where
 ps:Nat
 nn:Nat
 M:List Nat
 mp:List Nat
 body:Ss
abbrev ij(J:St):List Nat->Option (List D)
 | []=>some []
 | i::is=>((J[i]?).bind id).bind fun d=>(ij J is).map (d :: ·)
abbrev bY(fn:Fn)(d:D)(J:St):Option D :=
 if fn.mp.isEmpty then some d else if d.imm then(ij J fn.mp).map fun os=>.tup (d::os)else none
abbrev aq(T:List Fn):Nat->Cl
 | 0,_,_=>none
 | n+1,f,ds=>match T[f]? with
  | some fn=>if ds.length=fn.ps then(aw (aq T n) fn.M fn.body (ds.map some++replicate (fn.nn-fn.ps) none)).bind fun p=>match p.1 with
   | .nx=>bY fn .non p.2
   | .rt d=>bY fn d p.2
   else none
  | none=>(T[f-1000]?).bind fun fn=>if ds.length=fn.ps/\fn.mp=[]then(bM (aq T n) fn.M fn.body (ds.map some++replicate (fn.nn-fn.ps) none)).map fun p=>.str p.1 else none
end RL
namespace RT
open RL
abbrev hZ:Fn :=
 ⟨1,1,[],[],%[.ret (.and (.isi 0#0 .int) (.not (.isi 0#0 .bool)))|_]⟩
abbrev dI(I:Nat):Fn :=
 ⟨1,1,[],[],%[.ret (.and (.call I %[0#0|_]) (.chain .le .le 1#1 0#0 (.glb "MOST_PEGS" 10)))|_]⟩
abbrev eY(I:Nat):Fn :=
 ⟨1,1,[],[],%[.ife (.not (.call I %[0#0|_])) %[.rais "BadPegs" %[.glb "MOST_PEGS" 10|_]|_] .nil|_]⟩
abbrev gS(I:Nat):Fn :=
 ⟨2,2,[],[],%[.ret (.and (.call I %[1#0|_]) (.chain .le .le 0#1 1#0 (.bin .sub 0#0 2#1)))|_]⟩
abbrev jr(I O:Nat):Ss :=
 %[.ife (.not (.call I %[0#0,2#0|_])) %[.rais "BadHook" %[2#0,0#0|_]|_] .nil|_]
abbrev jS(O I:Nat):Fn :=
 ⟨2,3,[],[],%[.exc (.call I %[0#0|_]),.forr [2] (.seq 1#0) (jr O I)|_]⟩
abbrev j0:Fn :=
 ⟨1,3,[],[],%[.asg 1 (.bin .mod (.bin .add (.bin .mul 0#0 48271#1) 11#1) 2147483647#1),.asg 2 (.bin .mod (.bin .add (.bin .add (.bin .mul 1#0 1#0) (.bin .mul 40692#1 1#0)) 0#0) 2147483399#1),.ret (.bin .mod (.bin .add (.bin .add (.bin .mul 2#0 2#0) (.bin .mul 69621#1 2#0)) 1#0) 2147483563#1)|_]⟩
abbrev iQ(I:Nat):Ss :=
 %[.asg 3 (.bin .add (.bin .mul 3#0 2147483563#1) (.call I %[.bin .add (.bin .add 2#0 (.bin .mul 1009#1 1#0)) (.bin .mul 7919#1 4#0)|_]))|_]
abbrev jj(I:Nat):Fn :=
 ⟨2,5,[],[],%[.asg 2 (.bin .add (.bin .mul 7#1 1#0) 3#1),.ife (.cmp .gt (.bi .len 0#0) 0#1) %[.asg 2 (.bin .add (.ix 0#0 (.bin .mod 1#0 (.bi .len 0#0))) (.bin .mul 9973#1 (.bin .fdiv 1#0 (.bi .len 0#0))))|_] .nil,.ife (.and (.cmp .lt 1#0 (.bi .len 0#0)) (.cmp .ge 2#0 (.bin .pow 10#1 18#1))) %[.ret (.bin .sub 2#0 (.bin .pow 10#1 18#1))|_] .nil,.asg 3 0#1,.forr [4] (.rng1 40#1) (iQ I),.ret 3#0|_]⟩
abbrev fO(I:Nat):Ss :=
 %[.app 4 (.bin .mod 3#0 5#0),.asg 3 (.bin .fdiv 3#0 5#0)|_]
abbrev eQ(I:Nat):Fn :=
 ⟨3,6,[4],[],%[.asg 3 (.call I %[0#0,1#0|_]),.own 4 (.lst .nil),.forr [5] (.seq 2#0) (fO I),.ret 4#0|_]⟩
abbrev cT(I:Nat):Ss :=
 %[.ife (.cmp .lt 2#0 2#1) %[.ret (.lst .nil)|_] .nil,.asg 8 (.bin .mod 7#0 (.bin .sub 2#0 1#1)),.ife (.and (.cmp .ne 4#0 (.lst .nil)) (.cmp .eq (.bin .mod 7#0 3#1) 1#1)) %[.asg 8 (.min (.bin .sub 2#0 2#1) (.max 0#1 (.bin .add (.ix 4#0 (.neg 1#1)) (.ix (.lst %[1#1,.neg 1#1,0#1|_]) (.bin .mod (.bin .mod 7#0 7#1) 3#1)))))|_] .nil,.app 4 8#0|_]
abbrev gv(I:Nat):Ss :=
 %[.asg 6 (.call I %[0#0,.bin .add 1#0 (.bin .fdiv 5#0 12#1),.bin .mul (.lst %[97#1|_]) 12#1|_]),.forr [7] (.seq (.slT 6#0 (.bin .sub 3#0 5#0))) (cT I)|_]
abbrev fw(I:Nat):Fn :=
 ⟨4,9,[4],[],%[.own 4 (.lst .nil),.forr [5] (.rng3 (12) 0#1 3#0) (gv I),.ret 4#0|_]⟩
abbrev bJ(I:Nat):Fn :=
 ⟨2,4,[],[],%[.ife (.isN false 1#0) %[.ret (.isN false 0#0)|_] .nil,.ife (.or (.cmp .ne (.isi 0#0 .bool) (.isi 1#0 .bool)) (.cmp .ne (.isi 0#0 .int) (.isi 1#0 .int))) %[.ret (.cst (.bl false))|_] .nil,.ife (.or (.cmp .ne (.isi 0#0 .list) (.isi 1#0 .list)) (.cmp .ne (.isi 0#0 .tuple) (.isi 1#0 .tuple))) %[.ret (.cst (.bl false))|_] .nil,.ife (.and (.not (.isi 1#0 .list)) (.not (.isi 1#0 .tuple))) %[.ret (.and (.cmp .eq (.isi 0#0 .str) (.isi 1#0 .str)) (.cmp .eq 0#0 1#0))|_] .nil,.ret (.and (.cmp .eq (.bi .len 0#0) (.bi .len 1#0)) (.bi .all (.compA (.call I %[2#0,3#0|_]) [2,3] (.zip 0#0 1#0))))|_]⟩
end RT
namespace M
end M
namespace RL
abbrev evF(cl:Cl)(fn:Fn)(ds:List D):Option D:=if ds.length=fn.ps then(aw cl fn.M fn.body (ds.map some++replicate (fn.nn-fn.ps) none)).bind fun p=>match p.1 with
  | .nx=>bY fn .non p.2
  | .rt d=>bY fn d p.2
  else none
def aE(h:T[f]?=some fn):aq T (n+1) f ds=evF (aq T n) fn ds:=by
 rw[aq,h];rfl
abbrev L(xs:List Nat):List D:=xs.map fun(i:Nat)=>.int (i:Int)
def rE(I:List D->St->Prop):∀ (ds done:List D) (J:St),(∀ pre d post J,done++ds=pre++d::post->I pre J->d.imm=true/\∃ O,(bP tg d J).bind f=some (.nx,O)/\I (pre++[d]) O)->I done J->∃ U,bN f tg ds J=some (.nx,U)/\I (done++ds) U
 | [],done,J,_,h=>#[J,rfl,by simpa using h]
 | d::ds,done,J,hs,h=>by
  obtain⟨a,O,Y,i⟩:=hs done d ds J rfl h;obtain⟨U,g,c⟩:=rE I ds (done++[d]) O (fun pre e post J b=>hs pre e post J (by simpa using b)) i;refine#[U,?_,by simpa using c];rw[bN,if_pos a]
  cases hb:bP tg d J with
  | none=>rw[hb]at Y;cases Y
  |some Z=>
   rw[hb]at Y;simp only[Option.bind_some]at Y ⊢;rw[Y];exact g
def Ae(I:List D->St->Prop)(Z:I [] J)(Y:∀ pre d post J,ds=pre++d::post->I pre J->d.imm=true/\∃ O,(bP tg d J).bind f=some (.nx,O)/\I (pre++[d]) O):∃ U,bN f tg ds J=some (.nx,U)/\I ds U :=
 rE I ds [] J (by simpa using Y) Z
@[simp] theorem tf_lst:aH (.lst a)=true:=rfl
@[simp] theorem tf_tup:aH (.tup a)=true:=rfl
@[simp] theorem tf_comp:aH (.comp a b c d)=true:=rfl
@[simp] theorem tf_compA:aH (.compA a b c)=true:=rfl
@[simp] theorem tf_bin:aH (.bin a b c)=true:=rfl
@[simp] theorem tf_slT:aH (.slT a b)=true:=rfl
@[simp] theorem tf_slF:aH (.slF a b)=true:=rfl
@[simp] theorem tf_call:aH (.call a b)=true:=rfl
@[simp] theorem tf_bi:aH (.bi a b)=true:=rfl
@[simp] theorem tf_rng1:aH (.rng1 a)=true:=rfl
@[simp] theorem tf_rng3:aH (.rng3 a b c)=true:=rfl
end RL
namespace RM
open RL RT
section basics
def l0:bo .lt (.int a) (.int b)=some (decide (a<b)):=rfl
def CI:bo .le (.int a) (.int b)=some (decide (a<=b)):=rfl
def B9:bo .gt (.int a) (.int b)=some (decide (b<a)):=rfl
def C5:bo .ge (.int a) (.int b)=some (decide (b<=a)):=rfl
def pZ:bo .eq (.int a) (.int b)=some (a == b):=rfl
def Fl:bo .ne (.int a) (.int b)=some (!(a == b)):=rfl
def dS:aT .add (.int a) (.int b)=some (.int (a+b)):=rfl
def jB:aT .sub (.int a) (.int b)=some (.int (a-b)):=rfl
def dW(h:0<b):aT .mod (.int a) (.int b)=some (.int (a%b)):=EB.trans (if_pos h)
def sX(h:0<b)(h':b<2 ^ 200):aT .fdiv (.int a) (.int b)=some (.int (a / b)):=EW.trans (if_pos ⟨h,h'⟩)
def fF(O:-(2 ^ 64)<a)(I:a<2 ^ 64):aT .mul (.int a) (.int b)=some (.int (a*b)):=Cd.trans (if_pos (.inl #[O,I]))
def tL(O:-(2 ^ 64)<b)(I:b<2 ^ 64):aT .mul (.int a) (.int b)=some (.int (a*b)):=Cd.trans (if_pos (.inr #[O,I]))
def wM(k:Bool):truth (.bl k)=some k:=rfl
end basics
def Ai(h:L xs=pre++d::post):∃ p x q,xs=p++x::q/\pre=L p/\d=.int (x:Nat)/\post=L q:=by
 obtain⟨p,r,rfl,Y,U⟩:=List.map_eq_append_iff.mp h;obtain⟨x,q,rfl,O,I⟩:=List.map_eq_cons_iff.mp U;exact#[p,x,q,rfl,Y.symm,O.symm,I.symm]
def sM:∀ {a b:List Nat},L a=L b->a=b
 | [],[],_=>rfl
 | [],_::_,h=>by simp[L]at h
 | _::_,[],h=>by simp[L]at h
 | x::a,y::b,h=>by
  unfold L at h;rw[map_cons,map_cons,List.cons.injEq]at h
  have I:(x:Int)=y:=by injection h.1
  rw[sM h.2,Int.ofNat_inj.mp I]
def fG(I:List Nat->St->Prop)(g:I [] J)(Z:∀ p x q J,xs=p++x::q->I p J->∃ O,(bP tg (.int (x:Nat)) J).bind f=some (.nx,O)/\I (p++[x]) O):∃ U,bN f tg (L xs) J=some (.nx,U)/\I xs U:=by
 obtain⟨U,e,p,a,hi⟩:=Ae (ds:=L xs) (J:=J) (fun pre J=>∃ p,pre=L p/\I p J) ⟨[],rfl,g⟩ (by
  rintro pre d post J hd ⟨h,Y,hi⟩;obtain⟨p,x,q,rfl,rfl,rfl,rfl⟩:=Ai hd;have:=sM Y;subst this;obtain⟨O,c,b⟩:=Z p x q J rfl hi
  exact#[rfl,O,c,p++[x],by simp[L],b])
 have:=sM a;subst this;exact#[U,e,hi]
def eU(xs:List Nat):(L xs).length=xs.length:=by simp[L]
def DX(xs:List Nat)(i:Nat):(L xs)[i]?=(xs[i]?).map fun(i:Nat)=>.int (i:Int):=by simp[L]
def bh:∀ xs:List Nat,aF (L xs)=true
 | []=>rfl
 | x::xs=>by
  show((D.int x).imm&&aF (L xs))=true;rw[bh xs];rfl
def oO(xs ys:List Nat):L (xs++ys)=L xs++L ys:=by simp[L]
def pF(xs:List α)(i:Nat):bQ xs (i:Int)=xs[i]?:=by
 rfl
def nY(a:Nat):∀ n:Nat,cb (a:Int) n=L (range' a n)
 | 0=>rfl
 | n+1=>by
  rw[cb,List.range'_succ];have:=nY (a+1) n;rw[show((a+1:Nat):Int)=(a:Int)+1 by lia]at this;rw[this];rfl
section
def mW(i:Int):evF cl hZ [.int i]=some (.bl true):=rfl
def kh(h:∀ i:Int,cl f [.int i]=some (.bl true))(i:Int):evF cl (dI f) [.int i]=some (.bl (decide (1<=i/\i<=10))):=by
 simp[evF,dI,aw,gI,gY,gm,jA,gP,Ed,eJ,evs,h,CI,cR,D.imm,bY];by_cases I:1<=i<;>simp[I,D.imm,bY]
def lG(h:cl f [.int i]=some (.bl true)):evF cl (eY f) [.int i]=some .non:=by
 simp[evF,eY,aw,hG,gm,yf,eJ,evs,h,truth,bY]
def qi(h:∀ i:Int,cl f [.int i]=some (.bl true))(n i:Int):evF cl (gS f) [.int n,.int i]=some (.bl (decide (0<=i/\i<=n-2))):=by
 simp[evF,gS,aw,gI,gY,iM,gm,jA,gP,eJ,evs,h,CI,jB];by_cases I:0<=i<;>simp[I,cR,D.imm,bY]
end
end RM
namespace RL
section
def bH:aw cl M .nil J=some (.nx,J):=by rw[aw]
def d9(h:evS cl M s J=some (.nx,Qc))(k:aw cl M r Qc=res):aw cl M (.cons s r) J=res:=by
 rw[aw,h];exact k
def yp(h:evS cl M s J=some (.rt d,Qc)):aw cl M (.cons s r) J=some (.rt d,Qc):=by
 rw[aw,h];rfl
def aZ(h:ev cl J e=some d)(ok:bz M e d=true)(k:aw cl M r (J.set i (some d))=res):aw cl M (.cons (.asg i e) r) J=res :=
 d9 (by rw[gM,h];show(if bz M e d=true then _ else _)=_;rw[if_pos ok]) k
def tX(h:ev cl J e=some d)(k:aw cl M r J=res):aw cl M (.cons (.exc e) r) J=res :=
 d9 (by rw[yn,h];rfl) k
def aC(h:ev cl J e=some d)(ok:cR M e d=true):aw cl M (.cons (.ret e) r) J=some (.rt d,J) :=
 yp (by rw[gI,h];show(if cR M e d=true then _ else _)=_;rw[if_pos ok])
def jx(h:(ev cl J t).bind truth=some true)(I:aw cl M a J=some (.nx,Qc))(k:aw cl M r Qc=res):aw cl M (.cons (.ife t a b) r) J=res :=
 d9 (by rw[hG,h];exact I) k
def aL(h:(ev cl J t).bind truth=some true)(I:aw cl M a J=some (.rt d,Qc)):aw cl M (.cons (.ife t a b) r) J=some (.rt d,Qc) :=
 yp (by rw[hG,h];exact I)
def oG(h:(ev cl J t).bind truth=some false)(I:aw cl M b J=some (.nx,Qc))(k:aw cl M r Qc=res):aw cl M (.cons (.ife t a b) r) J=res :=
 d9 (by rw[hG,h];exact I) k
def ak(h:(ev cl J t).bind truth=some false)(k:aw cl M r J=res):aw cl M (.cons (.ife t a .nil) r) J=res:=oG h bH k
def fE(h:ev cl J e=some d)(hd:items d=some ds)(I:aF ds=true)(O:cB is ds J=some Qc)(k:aw cl M r Qc=res):aw cl M (.cons (.unp is e) r) J=res :=
 d9 (by rw[DN,h,Option.bind_some,hd];show(if aF ds=true then _ else _)=_;rw[if_pos I,O];rfl) k
def BB(h:ev cl J e=some x)(h':ev cl J e'=some y)(I:(x.imm&&y.imm)=true)(k:aw cl M r ((J.set i (some x)).set j (some y))=res):aw cl M (.cons (.par i j e e') r) J=res :=
 d9 (by rw[Ee,h,Option.bind_some,h'];show(if(x.imm&&y.imm)=true then _ else _)=_;rw[if_pos I]) k
def oN(h:ev cl J e=some d)(hi:(J[i]?).bind id=some (.lst xs))(I:d.imm=true)(O:xs.length<most)(k:aw cl M r (J.set i (some (.lst (xs++[d]))))=res):aw cl M (.cons (.app i e) r) J=res :=
 d9 (by rw[kI,h,Option.bind_some,hi];show(if(d.imm&&decide (xs.length<most))=true then _ else _)=_;rw[if_pos (by rw[I,Jj O];rfl)]) k
def iq(h:cm cl J it=some ds)(I:bN (aw cl M b) tg ds J=some (.nx,Qc))(k:aw cl M r Qc=res):aw cl M (.cons (.forr tg it b) r) J=res :=
 d9 (by rw[js,h];exact I) k
def aa(h:(J[i]?).bind id=some d):ev cl J (.var i)=some d:=by rw[eJ];exact h
def ae:ev cl J (.cst d)=some d:=by rw[gP]
def x_call(h:evs cl J es=some ds)(I:cl f ds=some d):ev cl J (.call f es)=some d:=by rw[gm,h];exact I
def ay:evs cl J .nil=some []:=by rw[evs]
def ah(h:ev cl J e=some d)(I:evs cl J es=some ds):evs cl J (.cons e es)=some (d::ds):=by rw[evs,h,Option.bind_some,I];rfl
def sv(h:ev cl J e=some d)(I:cl f [d]=some x):ev cl J (.call f %[e|_])=some x:=x_call (ah h ay) I
def hU(h:ev cl J e=some d)(h':ev cl J e'=some d')(I:cl f [d,d']=some x):ev cl J (.call f %[e,e'|_])=some x:=x_call (ah h (ah h' ay)) I
def cw(h:ev cl J e=some d)(h':ev cl J e'=some d')(I:ev cl J e''=some d'')(O:cl f [d,d',d'']=some x):ev cl J (.call f %[e,e',e''|_])=some x:=x_call (ah h (ah h' (ah I ay))) O
def ao(h:ev cl J e=some x)(h':ev cl J e'=some y)(hb:aT o x y=some d):ev cl J (.bin o e e')=some d:=by rw[iM,h,Option.bind_some,h'];exact hb
def aB(h:ev cl J e=some x)(h':ev cl J e'=some y)(hb:bo o x y=some k):ev cl J (.cmp o e e')=some (.bl k):=by rw[nc,h,Option.bind_some,h',Option.bind_some,hb];rfl
def aK(h:ev cl J e=some x)(h':ev cl J e'=some y)(hb:ixV x y=some d):ev cl J (.ix e e')=some d:=by rw[sA,h,Option.bind_some,h'];exact hb
def aX(h:ev cl J e=some x)(hb:biV o x=some d):ev cl J (.bi o e)=some d:=by rw[E3,h];exact hb
def cQ(h:ev cl J e=some x)(h':ev cl J e'=some y)(hb:hW x y=some d):ev cl J (.slT e e')=some d:=by rw[yr,h,Option.bind_some,h'];exact hb
def dJ(h:ev cl J e=some x)(h':ev cl J e'=some y)(hb:da x y=some d):ev cl J (.slF e e')=some d:=by rw[Eb,h,Option.bind_some,h'];exact hb
def gO(h:ev cl J e=some x)(h':ev cl J e'=some y)(hb:inV x y=some k):ev cl J (.inn n e e')=some (.bl (if n then !k else k)):=by rw[Ec,h,Option.bind_some,h',Option.bind_some,hb];rfl
def cJ{t:Ty}(h:ev cl J e=some x)(hb:eX t x=some k):ev cl J (.isi e t)=some (.bl k):=by rw[Dw,h,Option.bind_some,hb];rfl
def DE(h:ev cl J e=some (.int k)):ev cl J (.neg e)=some (.int (-k)):=by rw[nE,h];rfl
def ip(h:ev cl J e=some x)(h':ev cl J e'=some y)(I:ev cl J e''=some z)(b1:bo c x y=some true)(b2:bo c' y z=some k):ev cl J (.chain c c' e e' e'')=some (.bl k):=by rw[jA,h,Option.bind_some,h',Option.bind_some,b1,Option.bind_some,if_pos rfl,I,Option.bind_some,b2];rfl
def jd(h:ev cl J e=some x)(h':ev cl J e'=some y)(b1:bo c x y=some false):ev cl J (.chain c c' e e' e'')=some (.bl false):=by rw[jA,h,Option.bind_some,h',Option.bind_some,b1];rfl
def aU(h:evs cl J es=some ds):ev cl J (.lst es)=some (.lst ds):=by rw[iT,h];rfl
def aN(h:evs cl J es=some ds):ev cl J (.tup es)=some (.tup ds):=by rw[DJ,h];rfl
def aV(h:ev cl J e=some (.bl true))(h':ev cl J e'=some d):ev cl J (.and e e')=some d:=by rw[gY,h];exact h'
def bL(h:ev cl J e=some (.bl false)):ev cl J (.and e e')=some (.bl false):=by rw[gY,h];rfl
def cD(h:ev cl J e=some (.bl false))(h':ev cl J e'=some d):ev cl J (.or e e')=some d:=by rw[xS,h];exact h'
def fS(h:ev cl J e=some (.bl true)):ev cl J (.or e e')=some (.bl true):=by rw[xS,h];rfl
def DM(h:(ev cl J e).bind truth=some k):ev cl J (.not e)=some (.bl (!k)):=by rw[yf,h];rfl
def aW(h:ev cl J e=some (.bl k)):ev cl J (.not e)=some (.bl (!k)):=DM (by rw[h];rfl)
def aI(h:ev cl J e=some (.bl k)):(ev cl J e).bind truth=some k:=by rw[h];rfl
def jL(h:cm cl J it=some ds)(hf:ds.length<=most)(hm:de (fun I=>(ev cl I e).map some) tg J ds=some ys):ev cl J (.compA e tg it)=some (.lst ys):=by
 rw[yP,h,Option.bind_some,fits,if_pos hf,Option.bind_some,hm];rfl
def Bb(h:cm cl J it=some ds)(hf:ds.length<=most)(hm:de (fun I=>((ev cl I t).bind truth).bind fun k=>if k then(ev cl I e).map some else some none) tg J ds=some ys):ev cl J (.comp e tg it t)=some (.lst ys):=by
 rw[BZ,h,Option.bind_some,fits,if_pos hf,Option.bind_some,hm];rfl
def kA(h:ev cl J e=some x)(I:jJ (.int 0) x=some ds):cm cl J (.rng1 e)=some ds:=by rw[cm,h];exact I
def vq(h:ev cl J e=some x)(I:i6 x=some ds):cm cl J (.seq e)=some ds:=by rw[cm,h];exact I
def rK(h:ev cl J e=some x)(I:items x=some ds):cm cl J (.seq e)=some ds:=vq h (by
 cases x with
 | lst _=>exact I
 | tup _=>exact I
 | fL _=>exact I
 | _=>cases I)
def yb(h:ev cl J e=some x)(h':ev cl J e'=some y)(O:items x=some xs)(I:items y=some ys)(U:xs.length=ys.length):cm cl J (.zip e e')=some (eV xs ys):=by rw[cm,h,Option.bind_some,h',Option.bind_some,O,Option.bind_some,I,Option.bind_some,if_pos U]
def dX(hk:(match x with | .non=>some (D.bl (!n)) | .dK _ _=>none | .dT _ _=>none | .fT _ _=>none | _=>some (.bl n))=some (D.bl k))(h:ev cl J e=some x):ev cl J (.isN n e)=some (.bl k):=by rw[DC,h];exact hk
def yu(h:ev cl J e=some x)(I:kM x=some ds):cm cl J (.enm e)=some (dZ 0 ds):=by rw[cm,h,Option.bind_some,I];rfl
end
def CD:bN f tg [] J=some (.nx,J):=rfl
def rm(I:d.imm=true)(hb:bP tg d J=some Qd)(h:f Qd=some (.nx,Qe))(k:bN f tg r Qe=res):bN f tg (d::r) J=res:=by
 rw[bN,if_pos I,hb,Option.bind_some,h];exact k
def aR(I:ds.length=fn.ps)(hm:fn.mp=[])(h:aw cl fn.M fn.body (ds.map some++replicate (fn.nn-fn.ps) none)=some (.rt d,Qc)):evF cl fn ds=some d:=by
 unfold evF;rw[if_pos I,h];unfold bY;rw[hm];rfl
def AU(I:ds.length=fn.ps)(hm:fn.mp=[])(h:aw cl fn.M fn.body (ds.map some++replicate (fn.nn-fn.ps) none)=some (.nx,Qc)):evF cl fn ds=some .non:=by
 unfold evF;rw[if_pos I,h];unfold bY;rw[hm];rfl
end RL
namespace RM
open RL RT
abbrev LI(xs:List Int):List D:=xs.map D.int
def uW(xs:List Int):(LI xs).length=xs.length:=by simp[LI]
def vc:∀ xs:List Int,aF (LI xs)=true
 | []=>rfl
 | x::xs=>by
  show((D.int x).imm&&aF (LI xs))=true;rw[vc xs];rfl
section
def mod_lt{a b:Int}(h:0<b):0<=a%b/\a%b<b:=#[Int.emod_nonneg _ ⋯,Int.emod_lt_of_pos _ h]
def zw(s:Int):∃ m:Int,evF cl j0 [.int s]=some (.int m):=by
 have a1:=mod_lt (a:=s*48271+11) (b:=2147483647) ∅;generalize h1:(s*48271+11)%2147483647=one at a1;have a2:=mod_lt (a:=one*one+40692*one+s) (b:=2147483399) ∅;generalize h2:(one*one+40692*one+s)%2147483399=two at a2
 exact⟨_,aR rfl rfl (aZ (ao (ao (ao (aa rfl) ae (tL ∅ ∅)) ae dS) ae (by rw[dW ∅,h1])) rfl
  (aZ (ao (ao (ao (ao (aa rfl) (aa rfl) (fF ⋯ ⋯)) (ao ae (aa rfl) (fF ∅ ∅)) dS) (aa rfl) dS) ae (by rw[dW ∅,h2])) rfl
  (aC (ao (ao (ao (ao (aa rfl) (aa rfl) (fF (by omega) (by omega))) (ao ae (aa rfl) (fF ∅ ∅)) dS) (aa rfl) dS) ae (dW ∅)) rfl)))⟩
def zq{f:Nat}(h:∀ s:Int,∃ m:Int,cl f [.int s]=some (.int m)){ns:List Int}(v:ns.length<=63){k:Nat}(hk:k<=1000):∃ r:Int,evF cl (jj f) [.lst (LI ns),.int k]=some (.int r):=by
 have d:aT .pow (.int 10) (.int 18)=some (.int 1000000000000000000):=rfl
 have rest:∀ c:Int,∃ r I,aw cl [] %[.asg 3 0#1,.forr [4] (.rng1 40#1) (iQ f),.ret 3#0|_] [some (.lst (LI ns)),some (.int k),some (.int c),none,none]=some (.rt (.int r),I):=by
  intro c;have O:=congrArg some (nY 0 40)
  obtain⟨I,e,r,o,rfl⟩:=fG (f:=aw cl [] (iQ f)) (tg:=[4]) (J:=[some (.lst (LI ns)),some (.int k),some (.int c),some (.int 0),none])
   (fun p J=>∃ (r:Int) (o:Option D),J=[some (.lst (LI ns)),some (.int k),some (.int c),some (.int r),o]) ⟨0,none,rfl⟩ (by
    rintro p x q J u ⟨r,o,rfl⟩;obtain⟨m,hm⟩:=h (c+1009*k+7919*x)
    exact#[_,aZ (ao (ao (aa rfl) ae (tL ∅ ∅)) (sv (ao (ao (aa rfl) (ao ae (aa rfl) (fF ∅ ∅)) dS) (ao ae (aa rfl) (fF ∅ ∅)) dS) hm) dS) rfl bH,_,_,rfl])
  exact#[r,_,aZ ae rfl (iq (kA ae O) e (aC (aa rfl) rfl))]
 have len:=congrArg (fun n:Nat=>some (D.int n)) (uW ns)
 have first:ev cl [some (.lst (LI ns)),some (.int k),none,none,none] (.bin .add (.bin .mul 7#1 1#0) 3#1)=some (.int (7*k+3)):=ao (ao ae (aa rfl) (fF ∅ ∅)) ae dS
 by_cases y:0<ns.length
 ·have Z:=mod_lt (a:=(k:Int)) (b:=(ns.length:Int)) ⋯;obtain⟨j,t⟩:=Int.eq_ofNat_of_zero_le Z.1
  have g:j<ns.length:=by lia
  have ix:ixV (.lst (LI ns)) (.int ((k:Int)%ns.length))=some (.int ns[j]):=by
   show bQ (LI ns) _=_;rw[t,pF];simp[LI,g]
  obtain⟨r,I,O⟩:=rest (ns[j]+9973*((k:Int) / ns.length));generalize hc:ns[j]+9973*((k:Int) / ns.length)=cell at O
  have U:∀ {r':Ss} {Y:Option (Out × St)},aw cl [] r' [some (.lst (LI ns)),some (.int k),some (.int cell),none,none]=Y->aw cl [] (.cons (.asg 2 (.bin .add (.bin .mul 7#1 1#0) 3#1)) (.cons (.ife (.cmp .gt (.bi .len 0#0) 0#1) (.cons (.asg 2 (.bin .add (.ix 0#0 (.bin .mod 1#0 (.bi .len 0#0))) (.bin .mul 9973#1 (.bin .fdiv 1#0 (.bi .len 0#0))))) .nil) .nil) r')) [some (.lst (LI ns)),some (.int k),none,none,none]=Y:=fun z =>
   aZ first rfl (jx (aI (aB (aX (aa rfl) len) ae (by rw[B9,Jj ⋯]))) (aZ (ao (aK (aa rfl) (ao (aa rfl) (aX (aa rfl) len) (dW ⋯)) ix) (ao ae (ao (aa rfl) (aX (aa rfl) len) (sX ⋯ ⋯)) (fF ∅ ∅)) (by rw[dS,hc])) rfl bH) z)
  by_cases w:k<ns.length
  ·have l:bo .lt (.int (k:Nat)) (.int (ns.length:Nat))=some true:=by rw[l0,Jj ⋯]
   by_cases i:1000000000000000000<=cell
   ·exact#[_,aR rfl rfl (U (aL (aI (aV (aB (aa rfl) (aX (aa rfl) len) l) (aB (aa rfl) (ao ae ae d) (by rw[C5,Jj i])))) (aC (ao (aa rfl) (ao ae ae d) jB) rfl)))]
   ·exact#[r,aR rfl rfl (U (ak (aI (aV (aB (aa rfl) (aX (aa rfl) len) l) (aB (aa rfl) (ao ae ae d) (by rw[C5,Jh i])))) O))]
  ·exact#[r,aR rfl rfl (U (ak (aI (bL (aB (aa rfl) (aX (aa rfl) len) (by rw[l0,Jh ⋯])))) O))]
 ·obtain⟨r,I,O⟩:=rest (7*k+3);exact#[r,aR rfl rfl (aZ first rfl (ak (aI (aB (aX (aa rfl) len) ae (by rw[B9,Jh ⋯]))) (ak (aI (bL (aB (aa rfl) (aX (aa rfl) len) (by rw[l0,Jh ⋯])))) O)))]
end
section
abbrev iW(ds I:List Nat):Prop:=ds.length=I.length/\∀ (i d s:Nat),ds[i]?=some d->I[i]?=some s->d<s
def iW.snoc(h:iW ds sizes)(hd:d<s):iW (ds++[d]) (sizes++[s]):=by
 refine#[by simp[h.1],fun i x y I O=>?_];by_cases hi:i<ds.length
 ·rw[List.getElem?_append_left hi]at I;rw[List.getElem?_append_left (by rw[<-h.1];exact hi)]at O;exact h.2 i x y I O
 ·rw[List.getElem?_append_right ⋯]at I;rw[List.getElem?_append_right (by rw[<-h.1];lia)]at O;rw[h.1]at I
  cases hk:i-sizes.length with
  | zero=>rw[hk]at I O;simp at I O;lia
  | succ k=>rw[hk]at I;simp at I
def t9(h:cl f [scr,.int k]=some (.int r))(g:∀ s∈I,0<s/\s<2 ^ 200)(hlen:I.length<=1000):∃ ds:List Nat,iW ds I/\evF cl (eQ f) [scr,.int k,.lst (L I)]=some (.lst (L ds)):=by
 obtain⟨b,e,r',ds,o,O,rfl⟩:=fG (f:=aw cl [4] (fO f)) (tg:=[5]) (xs:=I) (J:=[some scr,some (.int k),some (.lst (L I)),some (.int r),some (.lst []),none])
  (fun p J=>∃ (r:Int) (ds:List Nat) (o:Option D),iW ds p/\J=[some scr,some (.int k),some (.lst (L I)),some (.int r),some (.lst (L ds)),o]) ⟨r,[],none,⟨rfl,by simp⟩,rfl⟩ (by
   rintro p x q J a ⟨r,ds,o,O,rfl⟩;have c:=g x (by rw[a];simp)
   have hpl:p.length<1000:=by
    have:=congrArg List.length a;simp at this;lia
   have U:(0:Int)<x:=by lia
   have Y:(x:Int)<2 ^ 200:=by
    lia
   obtain⟨d,hd⟩:=Int.eq_ofNat_of_zero_le (Int.emod_nonneg r (show(x:Int)≠0 by lia))
   have Z:d<x:=by
    have:=Int.emod_lt_of_pos r U;lia
   refine#[[some scr,some (.int k),some (.lst (L I)),some (.int (r / x)),some (.lst (L (ds++[d]))),some (.int x)],?_,_,_,_,O.snoc Z,rfl]
   have i:(L ds).length<most:=by
    rw[eU,O.1];unfold most;lia
   simp[iO,fO,aw,kI,gM,iM,eJ,dW U,sX U Y,hd,D.imm,i,bz,oO]
   rfl)
 refine#[ds,O,?_];simp[evF,eQ,aw,gM,js,xU,gI,iT,eJ,gm,evs,cm,items,h,bz,D.imm,aS,aF];simp[e,cR,aS,bh,bY]
end
section
def pD(c:Nat):∀ (n a:Nat),cx (c:Int) (a:Int) n=L (range' a n c)
 | 0,a=>rfl
 | n+1,a=>by
  rw[cx,List.range'_succ];have:=pD c n (a+c);rw[show((a+c:Nat):Int)=(a:Int)+(c:Int) by lia]at this;rw[this];rfl
def ne_nil(I:List Nat):bo .ne (.lst (L I)) (.lst [])=some (!I.isEmpty):=by
 cases I with
 | nil=>rfl
 |cons h t=>
  show((eqs (eqD 7) (D.int h::L t) []).map fun k=>k&&(D.int h::L t).length == ([]:List D).length).map not=_;simp[eqs]
def za(h:hs≠[]):∃ m,m∈hs/\bQ (L hs) (-1)=some (.int (m:Nat)):=by
 have I:0<hs.length:=List.length_pos_iff.mpr h;refine#[hs[hs.length-1],List.getElem_mem _,?_];unfold bQ;rw[if_neg ∅,if_pos (by rw[eU];lia),eU,show((-1:Int)+hs.length).toNat=hs.length-1 by lia,DX,List.getElem?_eq_getElem (by omega)];rfl
def wK(x:Nat):∃ v:Int,(v=1\/v=-1\/v=0)/\bQ [D.int 1,D.int (-1),D.int 0] ((x:Int)%7%3)=some (.int v):=by
 have h:x%7%3=0\/x%7%3=1\/x%7%3=2:=by lia
 have e:x%7%3=((x%7%3:Nat):Int):=by lia
 rw[e,pF];rcases h with h | h | h
 ·exact#[1,.inl rfl,by rw[h];rfl]
 ·exact#[-1,.inr (.inl rfl),by rw[h];rfl]
 ·exact#[0,.inr (.inr rfl),by rw[h];rfl]
def sS(hn:2<=n)(t:∀ h∈O,h+1<n)(s:O.length<10000):∃ m:Nat,m+1<n /\
  (bP [7] (.int (x:Nat)) [some scr,some (.int k),some (.int n),some (.int size),some (.lst (L O)),some (.int start),some (.lst (L steps)),o7,o8]).bind (aw cl [4] (cT f)) =
   some (.nx,[some scr,some (.int k),some (.int n),some (.int size),some (.lst (L (O++[m]))),some (.int start),some (.lst (L steps)),some (.int x),some (.int m)]):=by
 have hlen:(L O).length<most:=by rw[eU];unfold most;lia
 have g:¬ (n:Int)<2:=by lia
 have I:(0:Int)<(n:Int)-1:=by lia
 have ap:∀ m:Nat,L O++[D.int m]=L (O++[m]):=fun m=>by rw[oO];rfl
 obtain⟨i,Y⟩:=Int.eq_ofNat_of_zero_le (Int.emod_nonneg (x:Int) (show(n:Int)-1≠0 by lia))
 have Z:i+1<n:=by
  have:=Int.emod_lt_of_pos (x:Int) I;lia
 by_cases a:O.isEmpty=false/\(x:Int)%3=1
 ·have b:O≠[]:=by
   intro z;subst z;cases a.1
  obtain⟨U,l,r⟩:=za b;obtain⟨v,j,q⟩:=wK x
  have e:∃ m:Nat,(if(if(U:Int)+v > 0 then(U:Int)+v else 0)<(n:Int)-2 then(if(U:Int)+v > 0 then(U:Int)+v else 0)else(n:Int)-2)=(m:Int)/\m+1<n:=by
   refine#[(if(if(U:Int)+v > 0 then(U:Int)+v else 0)<(n:Int)-2 then(if(U:Int)+v > 0 then(U:Int)+v else 0)else(n:Int)-2).toNat,?_,?_]<;>rcases j with rfl | rfl | rfl<;>(repeat' split)<;>lia
  obtain⟨m,p,hm⟩:=e;refine#[m,hm,?_];simp only[iO,Option.bind_some,cT,aw,kI,gM,hG,gI,gY,iM,nc,gP,sA,iT,tJ,sf,nE,eJ,sv_andt,sv_andf,sv_max,sv_min,sv_neg,evs,set_cons_succ,set_cons_zero,List.getElem?_cons_succ,List.getElem?_cons_zero,id,l0,g,decide_false,Option.map_some,wM,false_eq_true,if_false,jB,dW I,Y,bz,D.imm,Bool.true_or,if_true,ne_nil,a.1,Bool.not_false,dW (show(0:Int)<3 by decide),dW (show(0:Int)<7 by decide),a.2,pZ,beq_self_eq_true,El,r,q,dS,p,and_eq_true,decide_eq_true_eq,true_and,hlen,ap]
 ·refine#[i,Z,?_];by_cases d:O.isEmpty=false
  ·have o:((x:Int)%3 == 1)=false:=by
    have:¬ (x:Int)%3=1:=fun z=>a ⟨d,z⟩;simpa using this
   simp only[iO,Option.bind_some,cT,aw,kI,gM,hG,gI,gY,iM,nc,gP,sA,iT,tJ,sf,nE,eJ,sv_andt,sv_andf,sv_max,sv_min,sv_neg,evs,set_cons_succ,set_cons_zero,List.getElem?_cons_succ,List.getElem?_cons_zero,id,l0,g,decide_false,Option.map_some,wM,false_eq_true,if_false,jB,dW I,Y,bz,D.imm,Bool.true_or,if_true,ne_nil,d,Bool.not_false,dW (show(0:Int)<3 by decide),pZ,o,and_eq_true,decide_eq_true_eq,true_and,hlen,ap]
  ·have c:O.isEmpty=true:=by
    cases hz:O.isEmpty with
    | true=>rfl
    | false=>exact absurd hz d
   simp only[iO,Option.bind_some,cT,aw,kI,gM,hG,gI,gY,iM,nc,gP,sA,iT,tJ,sf,nE,eJ,sv_andt,sv_andf,sv_max,sv_min,sv_neg,evs,set_cons_succ,set_cons_zero,List.getElem?_cons_succ,List.getElem?_cons_zero,id,l0,g,decide_false,Option.map_some,wM,false_eq_true,if_false,jB,dW I,Y,bz,D.imm,Bool.true_or,if_true,ne_nil,c,Bool.not_true,and_eq_true,decide_eq_true_eq,true_and,hlen,ap]
def vm(xs:List Nat)(n:Nat):(L xs).take n=L (xs.take n):=by simp[L]
def um{f:Nat}{scr:D}{k n size:Nat}(hn:2<=n)(O:size<=100)(hk:k<=900)(h:∀ k:Nat,k<=1000->∃ ds:List Nat,iW ds (replicate 12 97)/\cl f [scr,.int k,.lst (L (replicate 12 97))]=some (.lst (L ds))) :
  ∃ O:List Nat,(∀ h∈O,h+1<n)/\O.length<=1200/\evF cl (fw f) [scr,.int k,.int n,.int size]=some (.lst (L O)):=by
 have Qa:bF 12 0 size<=100:=by
  unfold bF;rw[if_pos ∅];split
  ·lia
  ·simp
 have u:jH 12 (.int 0) (.int size)=some (L (range' 0 (bF 12 0 size) 12)):=by
  dsimp only[jH];rw[if_pos ⟨by decide,by decide,by decide,by unfold most;lia,by decide,by decide,by lia,by lia⟩];have:=pD 12 (bF 12 0 size) 0;exact congrArg some this
 have d:aT .mul (.lst [.int 97]) (.int 12)=some (.lst (L (replicate 12 97))):=rfl
 obtain⟨t,e,I,c,b,o7,o8,Y,l,rfl⟩:=fG (f:=aw cl [4] (gv f)) (tg:=[5]) (xs:=range' 0 (bF 12 0 size) 12) (J:=[some scr,some (.int k),some (.int n),some (.int size),some (.lst []),none,none,none,none])
  (fun p J=>∃ (O:List Nat) (c b o7 o8:Option D),(∀ h∈O,h+1<n)/\O.length<=12*p.length/\J=[some scr,some (.int k),some (.int n),some (.int size),some (.lst (L O)),c,b,o7,o8]) ⟨[],none,none,none,none,by simp,by simp,rfl⟩ (by
   rintro p x q J o ⟨O,c,b,o7,o8,Y,l,rfl⟩
   have g:x∈range' 0 (bF 12 0 size) 12:=by rw[o];simp
   have hxb:x<=1200:=by
    obtain⟨i,hi,rfl⟩:=List.mem_range'.mp g;lia
   have hpl:p.length<100:=by
    have:=congrArg List.length o;simp at this;lia
   obtain⟨ds,j,G⟩:=h (k+x / 12) ⋯
   have F:(k:Int)+(x:Int) / 12=((k+x / 12:Nat):Int):=by lia
   have B:ds.length=12:=by rw[j.1];simp
   obtain⟨s,H,U,a,Z,g1,g2,rfl⟩:=fG (f:=aw cl [4] (cT f)) (tg:=[7]) (xs:=ds.take (cutAt (L ds).length ((size:Int)-(x:Int)))) (J:=[some scr,some (.int k),some (.int n),some (.int size),some (.lst (L O)),some (.int x),some (.lst (L ds)),o7,o8])
    (fun p J=>∃ (I:List Nat) (o7 o8:Option D),(∀ h∈I,h+1<n)/\I.length<=O.length+p.length/\J=[some scr,some (.int k),some (.int n),some (.int size),some (.lst (L I)),some (.int x),some (.lst (L ds)),o7,o8]) ⟨O,o7,o8,Y,by simp,rfl⟩ (by
     rintro v y q' J w ⟨I,o7,o8,g1,g2,rfl⟩
     have r:v.length<12:=by
      have:=congrArg List.length w;simp at this;lia
     obtain⟨m,hm,E⟩:=sS (cl:=cl) (f:=f) (scr:=scr) (k:=k) (size:=size) (start:=x) (x:=y) (steps:=ds) (o7:=o7) (o8:=o8) hn g1 ⋯;refine#[_,E,_,_,_,?_,?_,rfl]
     ·intro h A;rcases List.mem_append.mp A with z | z
      ·exact g1 h z
      ·rw[List.mem_singleton.mp z];exact hm
     ·simp;lia)
   have C:(ds.take (cutAt (L ds).length ((size:Int)-(x:Int)))).length<=12:=by
    rw[length_take];lia
   refine#[[some scr,some (.int k),some (.int n),some (.int size),some (.lst (L U)),some (.int x),some (.lst (L ds)),a,Z],?_,U,_,_,_,_,g1,?_,rfl]
   ·simp only[iO,Option.bind_some,gv,aw,gM,js,iM,yr,eJ,gm,gP,iT,evs,cm,itemsS_lst,itemsS_tup,set_cons_succ,set_cons_zero,List.getElem?_cons_succ,List.getElem?_cons_zero,id,Option.map_some,sX (show(0:Int)<12 by decide) (show(12:Int)<2 ^ 200 by decide),dS,F,d,G,bz,D.imm,aS,bh,tf_call,tf_slT,tf_bin,tf_lst,Bool.true_and,Bool.or_true,Bool.true_or,if_true,jB,hW,vm,items,H]
   ·simp only[length_append,length_cons,length_nil]
    lia)
 refine#[I,Y,by rw[List.length_range']at l;lia,?_];simp[evF,fw,aw,js,xU,gI,gP,eJ,iT,evs,cm,u,aS,aF];simp[e,cR,aS,bh,bY]
end
def xT(k:Nat):∀ xs:List Nat,eqs (eqD k) (L xs) (L xs)=some true
 | []=>rfl
 | x::xs=>by
  show((eqD k (.int x) (.int x)).bind fun e=>(eqs (eqD k) (L xs) (L xs)).map fun k=>e&&k)=_;rw[xT k xs];simp[EF]
section dicts
variable [DecidableEq κ]
end dicts
def pR{β:Type}{F:St->Option (Option D)}{tg:List Nat}{J:St}{h g:β->D}(I:∀ x,(g x).imm=true):∀ xs:List β,(∀ x∈xs,(bP tg (h x) J).bind F=some (some (g x)))->de F tg J (xs.map h)=some (xs.map g)
 | [],_=>rfl
 | x::r,hh=>by
  have a:=hh x (by simp);have b:=pR I r (fun y U=>hh y (by simp[U]));rw[map_cons,de]
  cases hb:bP tg (h x) J with
  | none=>rw[hb]at a;cases a
  |some O=>
   rw[hb]at a;simp only[Option.bind_some]at a ⊢;rw[a,b];simp[lQ,I]
def nh(x:Bool):bo .ne (.bl x) (.bl x)=some false:=by cases x<;>rfl
def Ea(x:Bool):bo .eq (.bl x) (.bl x)=some true:=by cases x<;>rfl
section
def j3(U:(match d with | .non=>some (D.bl (!false)) | .dK _ _=>none | .dT _ _=>none | .fT _ _=>none | _=>some (.bl false))=some (D.bl false))(hb:eX .bool d=some kb)(hi:eX .int d=some ki)(O:eX .list d=some kl)(I:eX .tuple d=some kt)
 (k:aw cl [] r [some d,some d,none,none]=res):aw cl [] (.cons (.ife (.isN false 1#0) %[.ret (.isN false 0#0)|_] .nil) (.cons (.ife (.or (.cmp .ne (.isi 0#0 .bool) (.isi 1#0 .bool)) (.cmp .ne (.isi 0#0 .int) (.isi 1#0 .int))) %[.ret (.cst (.bl false))|_] .nil) (.cons (.ife (.or (.cmp .ne (.isi 0#0 .list) (.isi 1#0 .list)) (.cmp .ne (.isi 0#0 .tuple) (.isi 1#0 .tuple))) %[.ret (.cst (.bl false))|_] .nil) r))) [some d,some d,none,none]=res :=
 ak (aI (dX U (aa rfl))) (ak (aI (cD (aB (cJ (aa rfl) hb) (cJ (aa rfl) hb) (nh _)) (aB (cJ (aa rfl) hi) (cJ (aa rfl) hi) (nh _)))) (ak (aI (cD (aB (cJ (aa rfl) O) (cJ (aa rfl) O) (nh _)) (aB (cJ (aa rfl) I) (cJ (aa rfl) I) (nh _)))) k))
def mh(Z:(match d with | .non=>some (D.bl (!false)) | .dK _ _=>none | .dT _ _=>none | .fT _ _=>none | _=>some (.bl false))=some (D.bl false))(hb:eX .bool d=some kb)(hi:eX .int d=some ki)(U:eX .list d=some false)(I:eX .tuple d=some false)(O:eX .str d=some ks)(Y:bo .eq d d=some true):evF cl (bJ fs) [d,d]=some (.bl true) :=
 aR rfl rfl (j3 Z hb hi U I (aL (aI (aV (aW (cJ (aa rfl) U)) (aW (cJ (aa rfl) I)))) (aC (aV (aB (cJ (aa rfl) O) (cJ (aa rfl) O) (Ea _)) (aB (aa rfl) (aa rfl) Y)) rfl)))
end
def same_int(a:Int):evF cl (bJ fs) [.int a,.int a]=some (.bl true):=mh rfl rfl rfl rfl rfl rfl (by rw[pZ,beq_self_eq_true])
def gz:∀ xs:List D,eV xs xs=xs.map fun x=>.tup [x,x]
 | []=>rfl
 | x::r=>by simp[eV,gz r]
def pS:∀ xs:List β,ff (xs.map fun _=>D.bl true)=some (xs.map fun _=>true)
 | []=>rfl
 | x::r=>by simp[ff,pS r]
def jV{fs:Nat}{d:D}{xs:List D}(hd:d=.tup xs\/d=.lst xs)(g:xs.length<=1000)(h:∀ x∈xs,cl fs [x,x]=some (.bl true)):evF cl (bJ fs) [d,d]=some (.bl true):=by
 have f:biV .all (.lst (xs.map fun _=>.bl true))=some (.bl true):=by
  simp only[B8,pS];simp
 have Y:=pR (F:=fun O=>(ev cl O (.call fs (.cons 2#0 (.cons 3#0 .nil)))).map some) (tg:=[2,3]) (J:=[some d,some d,none,none]) (h:=fun x=>.tup [x,x]) (fun _=>rfl) xs (by
  intro x c;show(ev cl [some d,some d,some x,some x] (.call fs %[2#0,3#0|_])).map some=_;rw[hU (aa rfl) (aa rfl) (h x c)]
  rfl)
 have it:items d=some xs:=by rcases hd with rfl | rfl<;>rfl
 have Z:biV .len d=some (.int xs.length):=by rcases hd with rfl | rfl<;>rfl
 have b:bo .eq (.int (xs.length:Int)) (.int (xs.length:Int))=some true:=by simp[pZ]
 have a:(eV xs xs).length<=most:=by rw[gz,length_map];unfold most;lia
 rw[<-gz]at Y;have U:∀ {I:Option (Out × St)},some (Out.rt (.bl true),[some d,some d,none,none])=I->aw cl [] (.cons (.ret (.and (.cmp .eq (.bi .len 0#0) (.bi .len 1#0)) (.bi .all (.compA (.call fs (.cons 2#0 (.cons 3#0 .nil))) [2,3] (.zip 0#0 1#0))))) .nil) [some d,some d,none,none]=I:=fun e=>(aC (aV (aB (aX (aa rfl) Z) (aX (aa rfl) Z) b) (aX (jL (yb (aa rfl) (aa rfl) it it rfl) a Y) f)) rfl).trans e;rcases hd with rfl | rfl
 ·exact aR rfl rfl (j3 rfl rfl rfl rfl rfl (ak (aI (aV (aW (k:=false) (cJ (aa rfl) rfl)) (aW (k:=true) (cJ (aa rfl) rfl)))) (U rfl)))
 ·exact aR rfl rfl (j3 rfl rfl rfl rfl rfl (ak (aI (bL (aW (k:=true) (cJ (aa rfl) rfl)))) (U rfl)))
structure Dg(T:List Fn)(mx rw dg:Nat):Prop where
 EU:T[mx]?=some j0
 Ez:T[rw]?=some (jj mx)
 Et:T[dg]?=some (eQ rw)
def Dg.digits{T:List Fn}{mx rw dg:Nat}(h:Dg T mx rw dg){ns:List Int}(Y:ns.length<=63)(n:Nat){k:Nat}{sizes:List Nat}(hk:k<=1000)(U:∀ s∈sizes,0<s/\s<2 ^ 200)(I:sizes.length<=1000) :
  ∃ ds:List Nat,iW ds sizes/\aq T (n+3) dg [.lst (LI ns),.int k,.lst (L sizes)]=some (.lst (L ds)):=by
 obtain⟨r,O⟩:=zq (fun s=>by
  obtain⟨m,hm⟩:=zw (cl:=aq T n) s
  exact#[m,(aE h.EU).trans hm]) Y hk
 obtain⟨ds,a,Z⟩:=t9 ((aE h.Ez).trans O) U I;exact#[ds,a,(aE h.Et).trans Z]
def same_str{cl:Cl}{fs:Nat}(x:PySem.Str):evF cl (bJ fs) [.str x,.str x]=some (.bl true):=mh rfl rfl rfl rfl rfl rfl (show some (x == x)=some true by rw[beq_self_eq_true])
end RM
namespace K32
open RL RT
abbrev e8(I:Nat):Fn :=
 ⟨3,3,[],[],%[.ife (.or (.not (.call I %[1#0,2#0,2#1|_])) (.cmp .lt (.bi .abs (.bin .sub (.ix 1#0 2#0) (.ix 1#0 (.bin .add 2#0 1#1)))) 2#1)) %[.ret (.cst .non)|_] .nil,.ret (.tup %[0#0,.frz (.bin .add (.bin .add (.slT 1#0 2#0) (.lst %[.ix 1#0 (.bin .add 2#0 1#1),.ix 1#0 2#0|_])) (.slF 1#0 (.bin .add 2#0 2#1)))|_])|_]⟩
abbrev eA(I:Nat):Fn :=
 ⟨3,3,[],[],%[.ife (.or (.not (.call I %[1#0,2#0,2#1|_])) (.cmp .ne (.ix 1#0 2#0) (.ix 1#0 (.bin .add 2#0 1#1)))) %[.ret (.cst .non)|_] .nil,.ret (.tup %[.bin .add 0#0 1#1,.frz (.bin .add (.slT 1#0 2#0) (.slF 1#0 (.bin .add 2#0 1#1)))|_])|_]⟩
abbrev eu(I:Nat):Fn :=
 ⟨3,3,[],[],%[.ife (.or (.not (.call I %[1#0,2#0,1#1|_])) (.cmp .lt 0#0 1#1)) %[.ret (.cst .non)|_] .nil,.ret (.tup %[.bin .sub 0#0 1#1,.frz (.bin .add (.bin .add (.slT 1#0 2#0) (.lst %[.ix 1#0 2#0|_])) (.slF 1#0 2#0))|_])|_]⟩
abbrev cN(I:Nat):Fn :=
 ⟨3,3,[],[],%[.ife (.or (.not (.call I %[1#0,2#0,3#1|_])) (.or (.cmp .ne (.ix 1#0 2#0) (.ix 1#0 (.bin .add 2#0 2#1))) (.cmp .ne (.bi .abs (.bin .sub (.ix 1#0 2#0) (.ix 1#0 (.bin .add 2#0 1#1)))) 1#1))) %[.ret (.cst .non)|_] .nil,.ret (.tup %[0#0,.frz (.bin .add (.slT 1#0 (.bin .add 2#0 1#1)) (.slF 1#0 (.bin .add 2#0 3#1)))|_])|_]⟩
abbrev fm(O I:Nat):Fn :=
 ⟨5,5,[],[],%[.ife (.or (.not (.call I %[2#0,3#0,1#1|_])) (.or (.not (.call O %[0#0,4#0|_])) (.cmp .ne (.bi .abs (.bin .sub (.ix 2#0 3#0) 4#0)) 1#1))) %[.ret (.cst .non)|_] .nil,.ret (.tup %[1#0,.frz (.bin .add (.bin .add (.slT 2#0 (.bin .add 3#0 1#1)) (.lst %[4#0,.ix 2#0 3#0|_])) (.slF 2#0 (.bin .add 3#0 1#1)))|_])|_]⟩
abbrev cG(O U Y I Z:Nat):Fn :=
 ⟨3,8,[],[],%[.unp [3,4] 1#0,.star 5 7 2#0,.ife (.and (.cmp .eq 5#0 (.cst (.str "grow"))) (.cmp .eq (.bi .len 7#0) 2#1)) %[.ret (.call Z %[0#0,3#0,4#0,.ix 7#0 0#1,.ix 7#0 1#1|_])|_] .nil,.ife (.and (.inG "TRADES_AT_A_PLACE" ["swap", "drop", "double", "cut"] 5#0) (.cmp .eq (.bi .len 7#0) 1#1)) (.act 6 "TRADES_AT_A_PLACE" [("swap",O),("drop",U),("double",Y),("cut",I)] 5#0 %[3#0,4#0,.ix 7#0 0#1|_]) .nil,.ret (.cst .non)|_]⟩
abbrev gq(I:Nat):Fn :=
 ⟨3,3,[],[],%[.ret (.and (.call I %[1#0|_]) (.chain .le .le 0#1 1#0 (.bin .sub (.bi .len 0#0) 2#0)))|_]⟩
abbrev bf:Fn :=
 ⟨3,9,[],[],%[.unp [3,4] 1#0,.par 5 6 (.ix 2#0 0#1) (.ix 2#0 1#1),.ife (.or (.not (.chain .le .lt 0#1 6#0 (.bi .len 4#0))) (.cmp .ne (.bi .len 2#0) (.bin .add 2#1 (.bi .int (.cmp .eq 5#0 (.cst (.str "grow"))))))) %[.ret (.cst .non)|_] .nil,.parL 7 8 (.ix 4#0 6#0) (.slF 4#0 (.bin .add 6#0 1#1)),.ife (.and (.cmp .eq 5#0 (.cst (.str "double"))) (.cmp .gt 3#0 0#1)) %[.ret (.tup %[.bin .sub 3#0 1#1,.frz (.bin .add (.bin .add (.slT 4#0 (.bin .add 6#0 1#1)) (.lst %[7#0|_])) 8#0)|_])|_] .nil,.ife (.and (.cmp .eq 5#0 (.cst (.str "grow"))) (.and (.chain .le .lt 0#1 (.ix 2#0 2#1) (.bin .sub 0#0 1#1)) (.inn false (.ix 2#0 2#1) (.tup %[.bin .sub 7#0 1#1,.bin .add 7#0 1#1|_])))) %[.ret (.tup %[3#0,.frz (.bin .add (.bin .add (.slT 4#0 (.bin .add 6#0 1#1)) (.lst %[.ix 2#0 2#1,7#0|_])) 8#0)|_])|_] .nil,.ife (.and (.cmp .eq 5#0 (.cst (.str "swap"))) (.and (.cmp .ne 8#0 (.lst .nil)) (.inn true (.ix 8#0 0#1) (.tup %[.bin .sub 7#0 1#1,7#0,.bin .add 7#0 1#1|_])))) %[.ret (.tup %[3#0,.frz (.bin .add (.bin .add (.slT 4#0 6#0) (.lst %[.ix 8#0 0#1,7#0|_])) (.slF 8#0 1#1))|_])|_] .nil,.ife (.and (.cmp .eq 5#0 (.cst (.str "drop"))) (.and (.cmp .ne 8#0 (.lst .nil)) (.cmp .eq (.ix 8#0 0#1) 7#0))) %[.ret (.tup %[.bin .add 3#0 1#1,.frz (.bin .add (.slT 4#0 (.bin .add 6#0 1#1)) (.slF 8#0 1#1))|_])|_] .nil,.ife (.and (.cmp .eq 5#0 (.cst (.str "cut"))) (.and (.cmp .gt (.bi .len 8#0) 1#1) (.and (.cmp .eq (.ix 8#0 1#1) 7#0) (.inn false (.ix 8#0 0#1) (.tup %[.bin .sub 7#0 1#1,.bin .add 7#0 1#1|_]))))) %[.ret (.tup %[3#0,.frz (.bin .add (.slT 4#0 (.bin .add 6#0 1#1)) (.slF 8#0 2#1))|_])|_] .nil,.ret (.cst .non)|_]⟩
abbrev dQ(O I:Nat):Ss :=
 %[.asg 5 (.bin .add 5#0 (.compA (.tup %[12#0,6#0|_]) [12] (.seq (.tup %[.cst (.str "swap"),.cst (.str "drop"),.cst (.str "cut"),.cst (.str "double")|_])))),.asg 5 (.bin .add 5#0 (.compA (.tup %[.cst (.str "grow"),6#0,.bin .add (.ix (.ix 3#0 1#1) 6#0) 13#0|_]) [13] (.seq (.tup %[.neg 1#1,1#1|_]))))|_]
abbrev gy(O I:Nat):Fn :=
 ⟨4,14,[],[],%[.unp [7,4,8,9] (.call I %[0#0,1#0,.lst %[14#1,.bin .add (.bi .len (.ix 3#0 1#1)) 2#1,10#1,.bin .pow 10#1 20#1|_]|_]),.asg 4 (.bin .sub 4#0 1#1),.asg 5 (.lst .nil),.forr [6] (.rng1 (.bi .len (.ix 3#0 1#1))) (dQ O I),.asg 5 (.comp 11#0 [11] (.seq 5#0) (.isN true (.call O %[2#0,3#0,11#0|_]))),.ife (.and (.cmp .lt 7#0 9#1) (.cmp .ne 5#0 (.lst .nil))) %[.ret (.ix 5#0 (.bin .mod 9#0 (.bi .len 5#0)))|_] .nil,.ife (.cmp .eq 7#0 9#1) %[.ret (.tup %[.cst (.str "grow"),4#0,.ix (.lst %[.bin .sub 8#0 1#1,9#0,.bin .sub 0#1 9#0|_]) (.bin .mod 9#0 3#1)|_])|_] .nil,.ife (.cmp .eq 7#0 10#1) %[.asg 10 (.lst %[.tup %[.cst (.str "grow"),4#0|_],.tup %[.cst (.str "swap"),4#0,0#1|_],.tup %[.cst (.str ""),4#0|_],.tup %[.cst (.str "Swap"),4#0|_],.tup %[.cst (.str "drop"),9#0|_],.tup %[.cst (.str "cut"),.bin .sub 0#1 9#0|_]|_]),.ret (.ix (.bin .add 10#0 (.lst %[.tup %[.cst (.str "drop"),4#0,0#1|_],.tup %[.cst (.str "double"),4#0,0#1|_],.tup %[.cst (.str "cut"),4#0,0#1|_]|_])) (.bin .mod 9#0 9#1))|_] .nil,.ret (.tup %[.ix (.lst %[.cst (.str "swap"),.cst (.str "drop"),.cst (.str "cut"),.cst (.str "double")|_]) (.bin .mod 9#0 4#1),4#0|_])|_]⟩
open RM
section
variable{cl:Cl}
def bR(h:ev cl J a=some (.lst xs))(I:aH a=true)(O:aF xs=true):ev cl J (.frz a)=some (.fL xs):=by
 show(ev cl J a).bind _=_;rw[h,Option.bind_some,if_pos I];exact if_pos O
def nj(h:ev cl J a=some (.str w)):ev cl J (.inG g ks a)=some (.bl (ks.any fun k=>decide (k=w))):=by
 show(ev cl J a).bind _=_;rw[h];rfl
def rl(h:ev cl J e=some x)(h':ev cl J e'=some y)(ok:(x.imm&&(aS y&&aH e'))=true)(k:aw cl M r ((J.set i (some x)).set j (some y))=res):aw cl M (.cons (.parL i j e e') r) J=res :=
 d9 (by
  show(ev cl J e).bind _=_;rw[h,Option.bind_some,h',Option.bind_some]
  exact if_pos ok) k
def iu(h:ev cl J e=some (.tup (d::ds)))(I:(d.imm&&aF ds)=true)(k:aw cl M r ((J.set i (some d)).set j (some (.fL ds)))=res):aw cl M (.cons (.star i j e) r) J=res :=
 d9 (by
  show((ev cl J e).bind ng).map _=_;rw[h,Option.bind_some,show ng (.tup (d::ds))=if(d.imm&&aF ds)=true then some (d,.fL ds)else none from rfl,if_pos I]
  rfl) k
def uT(h:ev cl J a=some x)(hf:gw tbl x=some f)(O:evs cl (J.set i none) es=some ds)(U:cl f ds=some d)(I:d.imm=true):aw cl M (.act i g tbl a es) J=some (.rt d,J):=by
 show((ev cl J a).bind (gw tbl)).bind _=_;rw[h,Option.bind_some,hf,Option.bind_some,O,Option.bind_some,U,Option.bind_some];exact if_pos I
def weq(x:PySem.Str):bo .eq (.str x) (.str x)=some true:=by
 show some (x == x)=_;rw[beq_self_eq_true]
def wne{x y:PySem.Str}(h:x≠y):bo .eq (.str x) (.str y)=some false:=by
 show some (x == y)=_;rw[beq_eq_false_iff_ne.mpr h]
end
def lM{xs:List Nat}{k x:Nat}(h:xs[k]?=some x):ixV (.fL (L xs)) (.int (k:Nat))=some (.int (x:Nat)):=by
 show(if aF (L xs)=true then bQ (L xs) (k:Nat)else none)=_;rw[if_pos (bh xs)];unfold bQ L;rw[if_pos (Int.natCast_nonneg k),toNat_natCast,getElem?_map,h];rfl
def rV{xs:List Nat}{k:Nat}(h:k<=xs.length):cutAt (L xs).length (k:Nat)=k:=by
 unfold cutAt;rw[if_pos (Int.natCast_nonneg k),toNat_natCast,eU];omega
def yx{xs:List Nat}{k:Nat}(h:k<=xs.length):hW (.fL (L xs)) (.int (k:Nat))=some (.lst (L (xs.take k))):=by
 show some (D.lst ((L xs).take (cutAt (L xs).length (k:Nat))))=_;rw[rV h,vm]
def tQ(xs:List Nat)(n:Nat):(L xs).drop n=L (xs.drop n):=by simp[L]
def j4{xs:List Nat}{k:Nat}(h:k<=xs.length):da (.fL (L xs)) (.int (k:Nat))=some (.lst (L (xs.drop k))):=by
 show some (D.lst ((L xs).drop (cutAt (L xs).length (k:Nat))))=_;rw[rV h,tQ]
def i3{xs:List Nat}{k:Nat}(h:k<=xs.length):da (.lst (L xs)) (.int (k:Nat))=some (.lst (L (xs.drop k))):=by
 show some (D.lst ((L xs).drop (cutAt (L xs).length (k:Nat))))=_;rw[rV h,tQ]
def bO{a b:List Nat}(h:a.length+b.length<=50000):aT .add (.lst (L a)) (.lst (L b))=some (.lst (L (a++b))):=by
 rw[wu,if_pos (by rw[eU,eU];unfold most;omega)];simp[L]
def jD(xs:List Nat):biV .len (.fL (L xs))=some (.int (xs.length:Nat)):=by
 show some (D.int ((L xs).length:Nat))=_;rw[eU]
def ny(xs:List Nat):biV .len (.lst (L xs))=some (.int (xs.length:Nat)):=by
 show some (D.int ((L xs).length:Nat))=_;rw[eU]
abbrev prF(r:Nat)(row:List Nat):D:=.tup [.int (r:Nat),.fL (L row)]
def c5(r:Nat)(row:List Nat):(prF r row).imm=true:=by simp[prF,D.imm,aF,bh]
inductive Stp (n:Nat):Nat->List Nat->PySem.Str->Int->List Int->Nat->List Nat->Prop
 | swap {r:Nat} {p q:List Nat} {h x:Nat}:(h+1<x\/x+1<h)->Stp n r (p++h::x::q) "swap" (p.length:Nat) [] r (p++x::h::q)
 | drop {r:Nat} {p q:List Nat} {h:Nat}:Stp n r (p++h::h::q) "drop" (p.length:Nat) [] (r+1) (p++h::q)
 | dbl {r:Nat} {p q:List Nat} {h:Nat}:Stp n (r+1) (p++h::q) "double" (p.length:Nat) [] r (p++h::h::q)
 | cut {r:Nat} {p q:List Nat} {h x:Nat}:(x=h+1\/h=x+1)->Stp n r (p++h::x::h::q) "cut" (p.length:Nat) [] r (p++h::q)
 | grow {r:Nat} {p q:List Nat} {h b:Nat}:b+1<n->(b=h+1\/h=b+1)->Stp n r (p++h::q) "grow" (p.length:Nat) [((b:Nat):Int)] r (p++h::b::h::q)
abbrev trD(w:PySem.Str)(a:Int)(bs:List Int):D:=.tup (.str w :: .int a::bs.map .int)
def gb:∀ (w:PySem.Str) (a:Int) (bs:List Int),(trD w a bs).imm=true:=fun w a bs=>by
 have:∀ bs:List Int,aF (bs.map D.int)=true:=fun bs=>by
  induction bs with
  | nil=>rfl
  | cons b r I=>rw[map_cons,aF,I];rfl
 simp[trD,D.imm,aF,this]
end K32
namespace K32
open RL RT RM
section
variable{cl:Cl}{n r:Nat}{row:List Nat}
def rB{a:Int}(O:0<=a)(I:a<(row.length:Nat)):∃ p h q,row=p++h::q/\a=((p.length:Nat):Int):=by
 have hk:a.toNat<row.length:=by omega
 refine#[row.take a.toNat,row[a.toNat],row.drop (a.toNat+1),?_,?_]
 ·rw[<-List.drop_eq_getElem_cons hk,List.take_append_drop]
 ·rw[length_take];omega
def oz{a:Int}(h:¬ (0<=a/\a<(row.length:Nat)))(I:(J[6]?).bind id=some (.int a))(U:(J[4]?).bind id=some (.fL (L row))):ev cl J (.chain .le .lt 0#1 6#0 (.bi .len 4#0))=some (.bl false):=by
 by_cases O:0<=a
 ·exact ip ae (aa I) (aX (aa U) (jD row)) (by show some (decide _)=_;rw[Jj O]) (by show some (decide _)=_;rw[Jh (by omega)])
 ·exact jd ae (aa I) (by show some (decide _)=_;rw[Jh O])
def rj{a:Int}(h:0<=a/\a<(row.length:Nat))(I:(J[6]?).bind id=some (.int a))(O:(J[4]?).bind id=some (.fL (L row))):ev cl J (.chain .le .lt 0#1 6#0 (.bi .len 4#0))=some (.bl true) :=
 ip ae (aa I) (aX (aa O) (jD row)) (by show some (decide _)=_;rw[Jj h.1]) (by show some (decide _)=_;rw[Jj h.2])
def in2(x h:Nat):inV (.int (x:Nat)) (.tup [.int ((h:Int)-1),.int ((h:Int)+1)])=some (decide (x=h+1\/h=x+1)):=by
 show some (((h:Int)-1 == (x:Int)) || (((h:Int)+1 == (x:Int)) || false))=_;congr 1;rw[Bool.eq_iff_iff];simp;omega
def in3(x h:Nat):inV (.int (x:Nat)) (.tup [.int ((h:Int)-1),.int (h:Nat),.int ((h:Int)+1)])=some (!decide (h+1<x\/x+1<h)):=by
 show some (((h:Int)-1 == (x:Int)) || ((((h:Nat):Int) == (x:Int)) || (((h:Int)+1 == (x:Int)) || false)))=_;congr 1;rw[Bool.eq_iff_iff];simp;omega
def tj(b:Int)(h:Nat):inV (.int b) (.tup [.int ((h:Int)-1),.int ((h:Int)+1)])=some (decide (b=h-1\/b=h+1)):=by
 show some (((h:Int)-1 == b) || (((h:Int)+1 == b) || false))=_;congr 1;rw[Bool.eq_iff_iff];simp;omega
abbrev A5:Ss :=
 %[.ife (.and (.cmp .eq 5#0 (.cst (.str "double"))) (.cmp .gt 3#0 0#1)) %[.ret (.tup %[.bin .sub 3#0 1#1,.frz (.bin .add (.bin .add (.slT 4#0 (.bin .add 6#0 1#1)) (.lst %[7#0|_])) 8#0)|_])|_] .nil,.ife (.and (.cmp .eq 5#0 (.cst (.str "grow"))) (.and (.chain .le .lt 0#1 (.ix 2#0 2#1) (.bin .sub 0#0 1#1)) (.inn false (.ix 2#0 2#1) (.tup %[.bin .sub 7#0 1#1,.bin .add 7#0 1#1|_])))) %[.ret (.tup %[3#0,.frz (.bin .add (.bin .add (.slT 4#0 (.bin .add 6#0 1#1)) (.lst %[.ix 2#0 2#1,7#0|_])) 8#0)|_])|_] .nil,.ife (.and (.cmp .eq 5#0 (.cst (.str "swap"))) (.and (.cmp .ne 8#0 (.lst .nil)) (.inn true (.ix 8#0 0#1) (.tup %[.bin .sub 7#0 1#1,7#0,.bin .add 7#0 1#1|_])))) %[.ret (.tup %[3#0,.frz (.bin .add (.bin .add (.slT 4#0 6#0) (.lst %[.ix 8#0 0#1,7#0|_])) (.slF 8#0 1#1))|_])|_] .nil,.ife (.and (.cmp .eq 5#0 (.cst (.str "drop"))) (.and (.cmp .ne 8#0 (.lst .nil)) (.cmp .eq (.ix 8#0 0#1) 7#0))) %[.ret (.tup %[.bin .add 3#0 1#1,.frz (.bin .add (.slT 4#0 (.bin .add 6#0 1#1)) (.slF 8#0 1#1))|_])|_] .nil,.ife (.and (.cmp .eq 5#0 (.cst (.str "cut"))) (.and (.cmp .gt (.bi .len 8#0) 1#1) (.and (.cmp .eq (.ix 8#0 1#1) 7#0) (.inn false (.ix 8#0 0#1) (.tup %[.bin .sub 7#0 1#1,.bin .add 7#0 1#1|_]))))) %[.ret (.tup %[3#0,.frz (.bin .add (.slT 4#0 (.bin .add 6#0 1#1)) (.slF 8#0 2#1))|_])|_] .nil,.ret (.cst .non)|_]
abbrev s9(n r:Nat)(p:List Nat)(h:Nat)(q:List Nat)(w:PySem.Str)(bs:List Int):St:=[some (.int (n:Nat)),some (prF r (p++h::q)),some (trD w (p.length:Nat) bs),some (.int (r:Nat)),some (.fL (L (p++h::q))),some (.str w),some (.int (p.length:Nat)),some (.int (h:Nat)),some (.lst (L q))]
section
variable{p q:List Nat}{h:Nat}{w:PySem.Str}{bs:List Int}
def b1:aT .add (.int (p.length:Nat)) (.int 1)=some (.int ((p.length+1:Nat):Int)):=rfl
def tk1:hW (.fL (L (p++h::q))) (.int ((p.length+1:Nat):Int))=some (.lst (L (p++[h]))):=by
 rw[yx (by simp)]
 have e:(p++h::q).take (p.length+1)=p++[h]:=by
  rw[show p++h::q=(p++[h])++q by simp,List.take_left' (by simp)]
 rw[e]
def tk0:hW (.fL (L (p++h::q))) (.int (p.length:Nat))=some (.lst (L p)):=by
 rw[yx (by simp),List.take_left' rfl]
def no(x:PySem.Str)(I:w≠x)(e:E)(J:St)(O:(J[5]?).bind id=some (.str w)):(ev cl J (.and (.cmp .eq 5#0 (.cst (.str x))) e)).bind truth=some false:=aI (bL (aB (aa O) ae (wne I)))
def no2(x:PySem.Str)(e:E)(J:St)(I:(J[5]?).bind id=some (.str x))(h:ev cl J e=some (.bl false)):(ev cl J (.and (.cmp .eq 5#0 (.cst (.str x))) e)).bind truth=some false:=aI (aV (aB (aa I) ae (weq x)) h)
def yes(x:PySem.Str)(e:E)(J:St)(I:(J[5]?).bind id=some (.str x))(h:ev cl J e=some (.bl true)):(ev cl J (.and (.cmp .eq 5#0 (.cst (.str x))) e)).bind truth=some true:=aI (aV (aB (aa I) ae (weq x)) h)
def dA{r':Nat}{row':List Nat}{xs:List Nat}(e:xs=row'):D.tup [.int (r':Nat),.fL (L xs)]=prF r' row':=by rw[e];rfl
def rk{e:E}(r':Nat)(xs:List Nat):cR [] e (.tup [.int (r':Nat),.fL (L xs)])=true:=by
 unfold cR;rw[show(D.tup [.int (r':Nat),.fL (L xs)]).imm=true from c5 r' xs];rfl
def fK:bo .ne (.lst (L q)) (.lst [])=some (!q.isEmpty):=ne_nil q
def kq(Z:(p++h::q).length<=5000)(hn:1<=n)(b:Int):aw cl [] A5 (s9 n r p h q "grow" [b])=some (.rt .non,s9 n r p h q "grow" [b])\/∃ r' row',Stp n r (p++h::q) "grow" (p.length:Nat) [b] r' row'/\aw cl [] A5 (s9 n r p h q "grow" [b])=some (.rt (prF r' row'),s9 n r p h q "grow" [b]):=by
 have Z:p.length+(q.length+1)<=5000:=by simpa using Z
 have i2:ev cl (s9 n r p h q "grow" [b]) (.ix 2#0 2#1)=some (.int b):=aK (aa rfl) ae rfl;have tp:ev cl (s9 n r p h q "grow" [b]) (.tup %[.bin .sub 7#0 1#1,.bin .add 7#0 1#1|_])=some (.tup [.int ((h:Int)-1),.int ((h:Int)+1)]):=aN (ah (ao (aa rfl) ae rfl) (ah (ao (aa rfl) ae rfl) ay));have a:aT .sub (.int (n:Nat)) (.int 1)=some (.int ((n:Int)-1)):=rfl
 have O:ev cl (s9 n r p h q "grow" [b]) (.chain .le .lt 0#1 (.ix 2#0 2#1) (.bin .sub 0#0 1#1))=some (.bl (decide (0<=b/\b<(n:Int)-1))):=by
  by_cases I:0<=b
  ·rw[ip ae i2 (ao (aa rfl) ae a) (by show some (decide _)=_;rw[Jj I]) (k:=decide (b<(n:Int)-1)) rfl];simp[I]
  ·rw[jd ae i2 (by show some (decide _)=_;rw[Jh I])];simp[I]
 have U:=fun e=>no (cl:=cl) (w := "grow") "double" ∅ e (s9 n r p h q "grow" [b]) rfl;by_cases k1:0<=b/\b<(n:Int)-1
 ·rw[Jj k1]at O;by_cases k2:b=h-1\/b=h+1
  ·obtain⟨m,rfl⟩:∃ m:Nat,b=(m:Nat):=#[b.toNat,by omega]
   have Y:=gO (n:=false) i2 tp ((tj m h).trans (by rw[Jj k2]));refine .inr #[r,p++h::m::h::q,.grow (by omega) (by omega),?_];rw[<-dA (xs:=(p++[h])++[m,h]++q) (by simp)];exact ak (U _) (aL (yes "grow" _ _ rfl (aV O Y)) (aC (aN (ah (aa rfl) (ah (bR (ao (ao (cQ (aa rfl) (ao (aa rfl) ae b1) tk1) (aU (ah i2 (ah (aa rfl) ay))) (bO (b:=[m,h]) (by simp;omega))) (aa rfl) (bO (by simp;omega))) rfl (bh _)) ay))) (rk _ _)))
  ·have Y:=gO (n:=false) i2 tp ((tj b h).trans (by rw[Jh k2]));exact .inl (ak (U _) (ak (no2 "grow" _ _ rfl (aV O Y)) (ak (no "swap" ∅ _ _ rfl) (ak (no "drop" ∅ _ _ rfl) (ak (no "cut" ∅ _ _ rfl) (aC ae rfl))))))
 ·rw[Jh k1]at O;exact .inl (ak (U _) (ak (no2 "grow" _ _ rfl (bL O)) (ak (no "swap" ∅ _ _ rfl) (ak (no "drop" ∅ _ _ rfl) (ak (no "cut" ∅ _ _ rfl) (aC ae rfl))))))
def me(Y:(p++h::q).length<=5000)(O:w ≠ "grow"):aw cl [] A5 (s9 n r p h q w [])=some (.rt .non,s9 n r p h q w [])\/∃ r' row',Stp n r (p++h::q) w (p.length:Nat) [] r' row'/\aw cl [] A5 (s9 n r p h q w [])=some (.rt (prF r' row'),s9 n r p h q w []):=by
 have Y:p.length+(q.length+1)<=5000:=by simpa using Y
 have I:∀ (x:PySem.Str),w≠x->∀ e,(ev cl (s9 n r p h q w []) (.and (.cmp .eq 5#0 (.cst (.str x))) e)).bind truth=some false:=fun x m e=>no x m e _ rfl;by_cases l:w = "double"
 ·subst l
  cases r with
  |zero=>
   have t:ev cl (s9 n 0 p h q "double" []) (.cmp .gt 3#0 0#1)=some (.bl false):=aB (aa rfl) ae rfl;exact .inl (ak (no2 "double" _ _ rfl t) (ak (I "grow" O _) (ak (I "swap" ∅ _) (ak (I "drop" ∅ _) (ak (I "cut" ∅ _) (aC ae rfl))))))
  |succ r=>
   have t:ev cl (s9 n (r+1) p h q "double" []) (.cmp .gt 3#0 0#1)=some (.bl true):=aB (aa rfl) ae (by show some (decide _)=_;rw[Jj (by omega)])
   have bs:aT .sub (.int ((r+1:Nat):Int)) (.int 1)=some (.int (r:Nat)):=by show some (D.int _)=_;congr 2;omega
   refine .inr #[r,p++h::h::q,.dbl,?_];rw[<-dA (xs:=(p++[h])++[h]++q) (by simp)];exact aL (yes "double" _ _ rfl t) (aC (aN (ah (ao (aa rfl) ae bs) (ah (bR (ao (ao (cQ (aa rfl) (ao (aa rfl) ae b1) tk1) (aU (ah (aa rfl) ay)) (bO (b:=[h]) (by simp;omega))) (aa rfl) (bO (by simp;omega))) rfl (bh _)) ay))) (rk _ _))
 by_cases j:w = "swap"
 ·subst j;have f:∀ {e},ev cl (s9 n r p h q "swap" []) (.and (.cmp .ne 8#0 (.lst .nil)) e)=some (.bl false)->(ev cl (s9 n r p h q "swap" []) (.and (.cmp .eq 5#0 (.cst (.str "swap"))) (.and (.cmp .ne 8#0 (.lst .nil)) e))).bind truth=some false:=fun t=>no2 "swap" _ _ rfl t
  cases q with
  | nil=>exact .inl (ak (I "double" ∅ _) (ak (I "grow" O _) (ak (f (bL (aB (aa rfl) (aU ay) fK))) (ak (I "drop" ∅ _) (ak (I "cut" ∅ _) (aC ae rfl))))))
  |cons x q=>
   have U:ev cl (s9 n r p h (x::q) "swap" []) (.ix 8#0 0#1)=some (.int (x:Nat)):=aK (aa rfl) ae rfl;have tp:ev cl (s9 n r p h (x::q) "swap" []) (.tup %[.bin .sub 7#0 1#1,7#0,.bin .add 7#0 1#1|_])=some (.tup [.int ((h:Int)-1),.int (h:Nat),.int ((h:Int)+1)]):=aN (ah (ao (aa rfl) ae rfl) (ah (aa rfl) (ah (ao (aa rfl) ae rfl) ay)));have c:=gO (n:=true) U tp (in3 x h);by_cases d:h+1<x\/x+1<h
   ·rw[Jj d]at c;have s1:da (.lst (L (x::q))) (.int 1)=some (.lst (L q)):=i3 (xs:=x::q) (k:=1) (by simp);refine .inr #[r,p++x::h::q,.swap d,?_];rw[<-dA (xs:=p++[x,h]++q) (by simp)];k_get
   ·rw[Jh d]at c;exact .inl (ak (I "double" ∅ _) (ak (I "grow" O _) (ak (f (aV (aB (aa rfl) (aU ay) fK) c)) (ak (I "drop" ∅ _) (ak (I "cut" ∅ _) (aC ae rfl))))))
 by_cases i:w = "drop"
 ·subst i
  cases q with
  | nil=>exact .inl (ak (I "double" ∅ _) (ak (I "grow" O _) (ak (I "swap" ∅ _) (ak (no2 "drop" _ _ rfl (bL (aB (aa rfl) (aU ay) fK))) (ak (I "cut" ∅ _) (aC ae rfl))))))
  |cons x q=>
   have U:ev cl (s9 n r p h (x::q) "drop" []) (.ix 8#0 0#1)=some (.int (x:Nat)):=aK (aa rfl) ae rfl;by_cases d:x=h
   ·subst d;have s1:da (.lst (L (x::q))) (.int 1)=some (.lst (L q)):=i3 (xs:=x::q) (k:=1) (by simp);have bs:aT .add (.int (r:Nat)) (.int 1)=some (.int ((r+1:Nat):Int)):=rfl;refine .inr #[r+1,p++x::q,.drop,?_];rw[<-dA (xs:=(p++[x])++q) (by simp)];k_all
   ·exact .inl (ak (I "double" ∅ _) (ak (I "grow" O _) (ak (I "swap" ∅ _) (ak (no2 "drop" _ _ rfl (aV (aB (aa rfl) (aU ay) fK) (aB U (aa rfl) (by show some (_ == _)=_;rw[beq_eq_false_iff_ne.mpr (by omega)])))) (ak (I "cut" ∅ _) (aC ae rfl))))))
 by_cases g:w = "cut"
 ·subst g;have hd:∀ {a},aw cl [] (.cons (.ife (.and (.cmp .eq 5#0 (.cst (.str "cut"))) (.and (.cmp .gt (.bi .len 8#0) 1#1) (.and (.cmp .eq (.ix 8#0 1#1) 7#0) (.inn false (.ix 8#0 0#1) (.tup (.cons (.bin .sub 7#0 1#1) (.cons (.bin .add 7#0 1#1) .nil))))))) (.cons (.ret (.tup (.cons 3#0 (.cons (.frz (.bin .add (.slT 4#0 (.bin .add 6#0 1#1)) (.slF 8#0 2#1))) .nil)))) .nil) .nil) (.cons (.ret (.cst .non)) .nil)) (s9 n r p h q "cut" [])=a->aw cl [] A5 (s9 n r p h q "cut" [])=a:=fun k=>ak (I "double" ∅ _) (ak (I "grow" O _) (ak (I "swap" ∅ _) (ak (I "drop" ∅ _) k)));by_cases o:1<q.length
  ·obtain⟨x,y,q,rfl⟩:∃ x y q',q=x::y::q':=by
    match q,o with
    | x::y::q',_=>exact#[x,y,q',rfl]
   have Z:ev cl (s9 n r p h (x::y::q) "cut" []) (.cmp .gt (.bi .len 8#0) 1#1)=some (.bl true):=aB (aX (aa rfl) (ny _)) ae (by show some (decide _)=_;rw[Jj (by simp;omega)]);have i1:ev cl (s9 n r p h (x::y::q) "cut" []) (.ix 8#0 1#1)=some (.int (y:Nat)):=aK (aa rfl) ae rfl;have U:ev cl (s9 n r p h (x::y::q) "cut" []) (.ix 8#0 0#1)=some (.int (x:Nat)):=aK (aa rfl) ae rfl;by_cases d:y=h
   ·subst d;have t1:ev cl (s9 n r p y (x::y::q) "cut" []) (.cmp .eq (.ix 8#0 1#1) 7#0)=some (.bl true):=aB i1 (aa rfl) (by show some (_ == _)=_;rw[beq_self_eq_true]);have tp:ev cl (s9 n r p y (x::y::q) "cut" []) (.tup %[.bin .sub 7#0 1#1,.bin .add 7#0 1#1|_])=some (.tup [.int ((y:Int)-1),.int ((y:Int)+1)]):=aN (ah (ao (aa rfl) ae rfl) (ah (ao (aa rfl) ae rfl) ay));have c:=gO (n:=false) U tp (in2 x y);by_cases e:x=y+1\/y=x+1
    ·rw[Jj e]at c;have s1:da (.lst (L (x::y::q))) (.int 2)=some (.lst (L q)):=i3 (xs:=x::y::q) (k:=2) (by simp);refine .inr #[r,p++y::q,.cut e,?_];rw[<-dA (xs:=(p++[y])++q) (by simp)];exact hd (aL (yes "cut" _ _ rfl (aV Z (aV t1 c))) (aC (aN (ah (aa rfl) (ah (bR (ao (cQ (aa rfl) (ao (aa rfl) ae b1) tk1) (dJ (aa rfl) ae s1) (bO (by simp at Y ⊢;omega))) rfl (bh _)) ay))) (rk _ _)))
    ·rw[Jh e]at c;exact .inl (hd (ak (no2 "cut" _ _ rfl (aV Z (aV t1 c))) (aC ae rfl)))
   ·have t1:ev cl (s9 n r p h (x::y::q) "cut" []) (.cmp .eq (.ix 8#0 1#1) 7#0)=some (.bl false):=aB i1 (aa rfl) (by show some (_ == _)=_;rw[beq_eq_false_iff_ne.mpr (by omega)]);exact .inl (hd (ak (no2 "cut" _ _ rfl (aV Z (bL t1))) (aC ae rfl)))
  ·have Z:ev cl (s9 n r p h q "cut" []) (.cmp .gt (.bi .len 8#0) 1#1)=some (.bl false):=aB (aX (aa rfl) (ny _)) ae (by show some (decide _)=_;rw[Jh (by omega)]);exact .inl (hd (ak (no2 "cut" _ _ rfl (bL Z)) (aC ae rfl)))
 exact .inl (ak (I _ l _) (ak (I _ O _) (ak (I _ j _) (ak (I _ i _) (ak (I _ g _) (aC ae rfl))))))
end
end
section
variable{cl:Cl}{n r:Nat}{row:List Nat}{w:PySem.Str}{bs:List Int}
abbrev A3:Ss:=.cons (.ife (.or (.not (.chain .le .lt 0#1 6#0 (.bi .len 4#0))) (.cmp .ne (.bi .len 2#0) (.bin .add 2#1 (.bi .int (.cmp .eq 5#0 (.cst (.str "grow"))))))) %[.ret (.cst .non)|_] .nil) (.cons (.parL 7 8 (.ix 4#0 6#0) (.slF 4#0 (.bin .add 6#0 1#1))) A5)
abbrev s7(n r:Nat)(row:List Nat)(w:PySem.Str)(a:Int)(bs:List Int):St:=[some (.int (n:Nat)),some (prF r row),some (trD w a bs),some (.int (r:Nat)),some (.fL (L row)),some (.str w),some (.int a),none,none]
def out{a:Int}{d:D}(k:aw cl [] A3 (s7 n r row w a bs)=some (.rt d,Qc)):evF cl bf [.int (n:Nat),prF r row,trD w a bs]=some d:=by
 have I:aF [D.int r,.fL (L row)]=true:=by simp[aF,D.imm,bh]
 exact aR rfl rfl (fE (aa rfl) rfl I rfl (BB (aK (aa rfl) ae rfl) (aK (aa rfl) ae rfl) rfl k))
def fN{a:Int}{k:Bool}(hk:bo .eq (.str w) (.str "grow")=some k):ev cl (s7 n r row w a bs) (.cmp .ne (.bi .len 2#0) (.bin .add 2#1 (.bi .int (.cmp .eq 5#0 (.cst (.str "grow"))))))=some (.bl (!decide (bs.length=if k then 1 else 0))):=by
 refine aB (aX (aa rfl) (by show some (D.int ((D.str w::D.int _::bs.map D.int).length:Nat))=_;rw[length_cons,length_cons,length_map])) (ao ae (aX (aB (aa rfl) ae hk) rfl) rfl) ?_;show some (!(_ == _))=_;congr 2;rw[Bool.eq_iff_iff,beq_iff_eq,decide_eq_true_eq];cases k
 ·show((bs.length+2:Nat):Int)=2+0↔bs.length=0;omega
 ·show((bs.length+2:Nat):Int)=2+1↔bs.length=1;omega
def gK(e:row.length<=5000)(hn:1<=n)(w:PySem.Str)(a:Int)(bs:List Int)(hb:bs.length<=1) :
  evF cl bf [.int (n:Nat),prF r row,trD w a bs]=some .non\/∃ r' row',Stp n r row w a bs r' row'/\evF cl bf [.int (n:Nat),prF r row,trD w a bs]=some (prF r' row'):=by
 by_cases Y:0<=a/\a<(row.length:Nat)
 case neg=>exact .inl (out (aL (aI (fS (aW (oz Y rfl rfl)))) (aC ae rfl)))
 have c:ev cl (s7 n r row w a bs) (.chain .le .lt 0#1 6#0 (.bi .len 4#0))=some (.bl true):=rj Y rfl rfl;obtain⟨p,h,q,rfl,rfl⟩:=rB Y.1 Y.2;have Z:ixV (.fL (L (p++h::q))) (.int (p.length:Nat))=some (.int (h:Nat)):=lM (by simp)
 have dr:da (.fL (L (p++h::q))) (.int ((p.length+1:Nat):Int))=some (.lst (L q)):=by
  rw[j4 (by simp)];simp
 have U:ev cl (s7 n r (p++h::q) w (p.length:Nat) bs) (.cmp .ne (.bi .len 2#0) (.bin .add 2#1 (.bi .int (.cmp .eq 5#0 (.cst (.str "grow"))))))=some (.bl false)->∀ {d I},aw cl [] A5 (s9 n r p h q w bs)=some (.rt d,I)->evF cl bf [.int (n:Nat),prF r (p++h::q),trD w (p.length:Nat) bs]=some d:=fun z {d I} k =>
  out (ak (aI (cD (aW c) z)) (rl (aK (aa rfl) (aa rfl) Z) (dJ (aa rfl) (ao (aa rfl) ae b1) dr) (by simp[D.imm,aS,bh,aH]) k))
 have off:ev cl (s7 n r (p++h::q) w (p.length:Nat) bs) (.cmp .ne (.bi .len 2#0) (.bin .add 2#1 (.bi .int (.cmp .eq 5#0 (.cst (.str "grow"))))))=some (.bl true)->evF cl bf [.int (n:Nat),prF r (p++h::q),trD w (p.length:Nat) bs]=some .non:=fun z =>
  out (aL (aI (cD (aW c) z)) (aC ae rfl))
 by_cases O:w = "grow"
 ·subst O
  match bs,hb with
  | [],_=>exact .inl (off (fN (weq _)))
  |[b],_=>
   rcases kq (cl:=cl) (n:=n) (r:=r) e hn b with k | ⟨r',row',S,k⟩
   ·exact .inl (U (fN (weq _)) k)
   ·exact .inr #[r',row',S,U (fN (weq _)) k]
 ·match bs,hb with
  |[],_=>
   rcases me (cl:=cl) (n:=n) (r:=r) e O with k | ⟨r',row',S,k⟩
   ·exact .inl (U (fN (wne O)) k)
   ·exact .inr #[r',row',S,U (fN (wne O)) k]
  | [b],_=>exact .inl (off (fN (wne O)))
end
section
variable{cl:Cl}{n r:Nat}{row:List Nat}
variable{p q:List Nat}{h x:Nat}
def at0:ixV (.fL (L (p++h::q))) (.int (p.length:Nat))=some (.int (h:Nat)):=lM (by simp)
def at1:ixV (.fL (L (p++h::x::q))) (.int ((p.length+1:Nat):Int))=some (.int (x:Nat)):=lM (by simp)
def at2:ixV (.fL (L (p++h::x::y::q))) (.int ((p.length+2:Nat):Int))=some (.int (y:Nat)):=lM (by simp)
def dr0:da (.fL (L (p++h::q))) (.int (p.length:Nat))=some (.lst (L (h::q))):=by rw[j4 (by simp)];simp
def dr1:da (.fL (L (p++h::q))) (.int ((p.length+1:Nat):Int))=some (.lst (L q)):=by rw[j4 (by simp)];simp
def dr2:da (.fL (L (p++h::x::q))) (.int ((p.length+2:Nat):Int))=some (.lst (L q)):=by rw[j4 (by simp)];simp
def dr3:da (.fL (L (p++h::x::y::q))) (.int ((p.length+3:Nat):Int))=some (.lst (L q)):=by rw[j4 (by simp)];simp
def oF(a b:Nat):biV .abs (.int ((a:Int)-(b:Nat)))=some (.int ((a:Int)-b).natAbs):=by
 show some (D.int (if(a:Int)-b<0 then -((a:Int)-b)else(a:Int)-b))=_;congr 2;split<;>omega
abbrev b2':aT .add (.int (p.length:Nat)) (.int 2)=some (.int ((p.length+2:Nat):Int)):=rfl
end
end K32
namespace RL
open PySem (Str)
abbrev Rx(cl:Cl)(J:St)(e:E)(c:Str):Prop:=ev cl J e=none/\evX cl J e=some c
abbrev Rr(cl:Cl)(M:List Nat)(b:Ss)(J:St)(c:Str)(I:St):Prop:=aw cl M b J=none/\bM cl M b J=some (c,I)
abbrev Rc(cl:Cl)(f:Nat)(ds:List D)(c:Str):Prop:=cl f ds=none/\cl (f+1000) ds=some (.str c)
section
def Bv(h:evS cl M s J=some (.nx,Qd))(k:Rr cl M r Qd c Qc):Rr cl M (.cons s r) J c Qc:=by
 refine#[?_,?_]
 ·rw[aw,h];exact k.1
 ·rw[bM,h];exact k.2
def kT(h:evS cl M s J=none)(k:l6 cl M s J=some (c,Qc)):Rr cl M (.cons s r) J c Qc:=by
 refine#[?_,?_]
 ·rw[aw,h];rfl
 ·rw[bM,h];exact k
def DF(h:Rx cl J e c):Rr cl M (.cons (.asg i e) r) J c J:=kT (by rw[gM,h.1];rfl) (by show(evX cl J e).map _=_;rw[h.2];rfl)
def Dr(h:(ev cl J t).bind truth=some true)(k:Rr cl M a J c Qc):Rr cl M (.cons (.ife t a b) r) J c Qc:=kT (by rw[hG,h];exact k.1) (by show((ev cl J t).bind truth).bind _=_;rw[h];exact k.2)
def E7(h:ev cl J e=some d)(k:Rr cl M r J c Qc):Rr cl M (.cons (.exc e) r) J c Qc:=Bv (by rw[yn,h];rfl) k
def D8(h:cm cl J it=some ds)(k1:bN (aw cl M b) tg ds J=none)(k2:di (aw cl M b) (bM cl M b) tg ds J=some (c,Qc)):Rr cl M (.cons (.forr tg it b) r) J c Qc:=kT (by rw[js,h];exact k1) (by show(cm cl J it).bind _=_;rw[h];exact k2)
def CT(h:evs cl J es=some ds)(k:Rc cl f ds c):Rx cl J (.call f es) c:=by
 refine#[?_,?_]
 ·rw[gm,h];exact k.1
 ·show(match evs cl J es with | some ds=>clX cl f ds | none=>oR cl J es)=_;rw[h];show clX cl f ds=_;unfold clX;rw[k.2];rfl
def AW(I:aw cl M b J=some (.nx,Qd))(k:aw cl M r Qd=res):aw cl M (.cons (.tryc b c i h) r) J=res:=d9 (by rw[nL,I]) k
def yM(I:Rr cl M b J n Qd)(O:fU n c=true)(U:aw cl M h (Qd.set i (some (.exc n)))=some (.nx,Qe))(k:aw cl M r (Qe.set i none)=res):aw cl M (.cons (.tryc b c i h) r) J=res:=d9 (by
 rw[nL,I.1];show(bM cl M b J).bind _=_;rw[I.2,Option.bind_some,if_pos O,U]
 rfl) k
end
def DA(h:T[f]?=some fn)(O:T.length<=1000)(I:ds.length=fn.ps)(hm:fn.mp=[])(k:Rr (aq T n) fn.M fn.body (ds.map some++replicate (fn.nn-fn.ps) none) c Qc):Rc (aq T (n+1)) f ds c:=by
 refine#[?_,?_]
 ·rw[aq,h];show(if ds.length=fn.ps then _ else none)=none;rw[if_pos I,k.1];rfl
 ·rw[aq,List.getElem?_eq_none (by omega)];show(T[f+1000-1000]?).bind _=_;rw[Nat.add_sub_cancel,h,Option.bind_some,if_pos ⟨I,hm⟩,k.2];rfl
end RL
namespace RT
open RL
abbrev mq:Fn :=
 ⟨1,5,[1],[],%[.own 1 (.lst %[.isx 0#0 "BadPegs",.isx 0#0 "BadFrame",.isx 0#0 "BadHalf",.isx 0#0 "BadHook"|_]),.own 1 (.bin .add 1#0 (.lst %[.isx 0#0 "BadName",.isx 0#0 "NoNumber",.isx 0#0 "NoFrame",.isx 0#0 "NoStack"|_])),.own 1 (.bin .add 1#0 (.lst %[.isx 0#0 "NoPlace",.isx 0#0 "Taken",.isx 0#0 "Full",.isx 0#0 "NothingThere"|_])),.own 1 (.bin .add 1#0 (.lst %[.isx 0#0 "BadTrade",.isx 0#0 "Hangs",.isx 0#0 "BadPage"|_])),.app 1 (.not (.isx 0#0 "ValueError")),.asg 2 (.lst %[.cst (.str "BadPegs"),.cst (.str "BadFrame"),.cst (.str "BadHalf"),.cst (.str "BadHook"),.cst (.str "BadName"),.cst (.str "NoNumber"),.cst (.str "NoFrame"),.cst (.str "NoStack"),.cst (.str "NoPlace")|_]),.asg 2 (.bin .add 2#0 (.lst %[.cst (.str "Taken"),.cst (.str "Full"),.cst (.str "NothingThere"),.cst (.str "BadTrade"),.cst (.str "Hangs"),.cst (.str "BadPage"),.cst (.str "odd")|_])),.ret (.join (.comp 3#0 [3,4] (.zip 2#0 1#0) 4#0))|_]⟩
end RT
namespace RM
open RL RT
end RM
namespace RT
open RL
end RT
namespace RM
open RL RT
end RM
namespace RT
open RL
end RT
namespace RM
open RL RT
end RM
namespace RT
open RL
end RT
namespace RM
open RL RT
section
variable{cl:Cl}
def v9{n:Nat}(h:n<=100):written (.int (n:Nat))=true:=by
 show decide (_<_)=true;rw[decide_eq_true_eq];refine Jv (show((n:Int)).natAbs<=100 by omega) (Ji (show 100<2 ^ 7 by decide) (Nat.pow_le_pow_right ∅ ∅))
end
end RM
namespace K30
open RL RT K32
open RM
inductive Bad (n:Nat):Nat->List Nat->PySem.Str->Int->List Int->Prop
 | out {r:Nat} {row:List Nat} {w:PySem.Str} {a:Int} {bs:List Int}:¬ (0<=a/\a<(row.length:Nat))->bs.length<=1->Bad n r row w a bs
 | grow0 {r:Nat} {row:List Nat} {a:Int}:Bad n r row "grow" a []
 | num {r:Nat} {row:List Nat} {w:PySem.Str} {a b:Int}:w ≠ "grow" -> Bad n r row w a [b]
 | grow {r h:Nat} {p q:List Nat} {b:Int}:¬ ((0<=b/\b<(n:Int)-1)/\(b=h-1\/b=h+1))->Bad n r (p++h::q) "grow" (p.length:Nat) [b]
 | dbl {row:List Nat} {a:Int}:Bad n 0 row "double" a []
 | swap {r h:Nat} {p q:List Nat}:(∀ x q',q=x::q'->¬ (h+1<x\/x+1<h))->Bad n r (p++h::q) "swap" (p.length:Nat) []
 | drop {r h:Nat} {p q:List Nat}:(∀ x q',q=x::q'->¬ x=h)->Bad n r (p++h::q) "drop" (p.length:Nat) []
 | cut {r h:Nat} {p q:List Nat}:(∀ x y q',q=x::y::q'->¬ (y=h/\(x=h+1\/h=x+1)))->Bad n r (p++h::q) "cut" (p.length:Nat) []
 | word {r:Nat} {row:List Nat} {w:PySem.Str} {a:Int}:w ≠ "grow" -> w∉(["swap", "drop", "double", "cut"]:List PySem.Str)->Bad n r row w a []
section
variable{cl:Cl}{n r:Nat}{p q:List Nat}{h:Nat}{w:PySem.Str}{bs:List Int}
def kq(Z:(p++h::q).length<=5000)(hn:1<=n)(b:Int):(Bad n r (p++h::q) "grow" (p.length:Nat) [b]/\aw cl [] A5 (s9 n r p h q "grow" [b])=some (.rt .non,s9 n r p h q "grow" [b]))\/∃ r' row',Stp n r (p++h::q) "grow" (p.length:Nat) [b] r' row'/\aw cl [] A5 (s9 n r p h q "grow" [b])=some (.rt (prF r' row'),s9 n r p h q "grow" [b]):=by
 have Z:p.length+(q.length+1)<=5000:=by simpa using Z
 have i2:ev cl (s9 n r p h q "grow" [b]) (.ix 2#0 2#1)=some (.int b):=aK (aa rfl) ae rfl;have tp:ev cl (s9 n r p h q "grow" [b]) (.tup %[.bin .sub 7#0 1#1,.bin .add 7#0 1#1|_])=some (.tup [.int ((h:Int)-1),.int ((h:Int)+1)]):=aN (ah (ao (aa rfl) ae rfl) (ah (ao (aa rfl) ae rfl) ay));have a:aT .sub (.int (n:Nat)) (.int 1)=some (.int ((n:Int)-1)):=rfl
 have O:ev cl (s9 n r p h q "grow" [b]) (.chain .le .lt 0#1 (.ix 2#0 2#1) (.bin .sub 0#0 1#1))=some (.bl (decide (0<=b/\b<(n:Int)-1))):=by
  by_cases I:0<=b
  ·rw[ip ae i2 (ao (aa rfl) ae a) (by show some (decide _)=_;rw[Jj I]) (k:=decide (b<(n:Int)-1)) rfl];simp[I]
  ·rw[jd ae i2 (by show some (decide _)=_;rw[Jh I])];simp[I]
 have U:=fun e=>no (cl:=cl) (w := "grow") "double" ∅ e (s9 n r p h q "grow" [b]) rfl;by_cases k1:0<=b/\b<(n:Int)-1
 ·rw[Jj k1]at O;by_cases k2:b=h-1\/b=h+1
  ·obtain⟨m,rfl⟩:∃ m:Nat,b=(m:Nat):=#[b.toNat,by omega]
   have Y:=gO (n:=false) i2 tp ((tj m h).trans (by rw[Jj k2]));refine .inr #[r,p++h::m::h::q,.grow (by omega) (by omega),?_];rw[<-dA (xs:=(p++[h])++[m,h]++q) (by simp)];exact ak (U _) (aL (yes "grow" _ _ rfl (aV O Y)) (aC (aN (ah (aa rfl) (ah (bR (ao (ao (cQ (aa rfl) (ao (aa rfl) ae b1) tk1) (aU (ah i2 (ah (aa rfl) ay))) (bO (b:=[m,h]) (by simp;omega))) (aa rfl) (bO (by simp;omega))) rfl (bh _)) ay))) (rk _ _)))
  ·have Y:=gO (n:=false) i2 tp ((tj b h).trans (by rw[Jh k2]));exact .inl #[.grow (fun z=>k2 z.2),(ak (U _) (ak (no2 "grow" _ _ rfl (aV O Y)) (ak (no "swap" ∅ _ _ rfl) (ak (no "drop" ∅ _ _ rfl) (ak (no "cut" ∅ _ _ rfl) (aC ae rfl))))))]
 ·rw[Jh k1]at O;exact .inl #[.grow (fun z=>k1 z.1),(ak (U _) (ak (no2 "grow" _ _ rfl (bL O)) (ak (no "swap" ∅ _ _ rfl) (ak (no "drop" ∅ _ _ rfl) (ak (no "cut" ∅ _ _ rfl) (aC ae rfl))))))]
def me(Y:(p++h::q).length<=5000)(O:w ≠ "grow"):(Bad n r (p++h::q) w (p.length:Nat) []/\aw cl [] A5 (s9 n r p h q w [])=some (.rt .non,s9 n r p h q w []))\/∃ r' row',Stp n r (p++h::q) w (p.length:Nat) [] r' row'/\aw cl [] A5 (s9 n r p h q w [])=some (.rt (prF r' row'),s9 n r p h q w []):=by
 have Y:p.length+(q.length+1)<=5000:=by simpa using Y
 have I:∀ (x:PySem.Str),w≠x->∀ e,(ev cl (s9 n r p h q w []) (.and (.cmp .eq 5#0 (.cst (.str x))) e)).bind truth=some false:=fun x o e=>no x o e _ rfl;by_cases l:w = "double"
 ·subst l
  cases r with
  |zero=>
   have t:ev cl (s9 n 0 p h q "double" []) (.cmp .gt 3#0 0#1)=some (.bl false):=aB (aa rfl) ae rfl;exact .inl #[.dbl,(ak (no2 "double" _ _ rfl t) (ak (I "grow" O _) (ak (I "swap" ∅ _) (ak (I "drop" ∅ _) (ak (I "cut" ∅ _) (aC ae rfl))))))]
  |succ r=>
   have t:ev cl (s9 n (r+1) p h q "double" []) (.cmp .gt 3#0 0#1)=some (.bl true):=aB (aa rfl) ae (by show some (decide _)=_;rw[Jj (by omega)])
   have bs:aT .sub (.int ((r+1:Nat):Int)) (.int 1)=some (.int (r:Nat)):=by show some (D.int _)=_;congr 2;omega
   refine .inr #[r,p++h::h::q,.dbl,?_];rw[<-dA (xs:=(p++[h])++[h]++q) (by simp)];exact aL (yes "double" _ _ rfl t) (aC (aN (ah (ao (aa rfl) ae bs) (ah (bR (ao (ao (cQ (aa rfl) (ao (aa rfl) ae b1) tk1) (aU (ah (aa rfl) ay)) (bO (b:=[h]) (by simp;omega))) (aa rfl) (bO (by simp;omega))) rfl (bh _)) ay))) (rk _ _))
 by_cases j:w = "swap"
 ·subst j;have f:∀ {e},ev cl (s9 n r p h q "swap" []) (.and (.cmp .ne 8#0 (.lst .nil)) e)=some (.bl false)->(ev cl (s9 n r p h q "swap" []) (.and (.cmp .eq 5#0 (.cst (.str "swap"))) (.and (.cmp .ne 8#0 (.lst .nil)) e))).bind truth=some false:=fun t=>no2 "swap" _ _ rfl t
  cases q with
  | nil=>exact .inl #[.swap (fun _ _ e=>nomatch e),(ak (I "double" ∅ _) (ak (I "grow" O _) (ak (f (bL (aB (aa rfl) (aU ay) fK))) (ak (I "drop" ∅ _) (ak (I "cut" ∅ _) (aC ae rfl))))))]
  |cons x q=>
   have U:ev cl (s9 n r p h (x::q) "swap" []) (.ix 8#0 0#1)=some (.int (x:Nat)):=aK (aa rfl) ae rfl;have tp:ev cl (s9 n r p h (x::q) "swap" []) (.tup %[.bin .sub 7#0 1#1,7#0,.bin .add 7#0 1#1|_])=some (.tup [.int ((h:Int)-1),.int (h:Nat),.int ((h:Int)+1)]):=aN (ah (ao (aa rfl) ae rfl) (ah (aa rfl) (ah (ao (aa rfl) ae rfl) ay)));have c:=gO (n:=true) U tp (in3 x h);by_cases d:h+1<x\/x+1<h
   ·rw[Jj d]at c;have s1:da (.lst (L (x::q))) (.int 1)=some (.lst (L q)):=i3 (xs:=x::q) (k:=1) (by simp);refine .inr #[r,p++x::h::q,.swap d,?_];rw[<-dA (xs:=p++[x,h]++q) (by simp)];k_get
   ·rw[Jh d]at c;exact .inl ⟨.swap (fun _ _ e=>by cases e;exact d),(ak (I "double" ∅ _) (ak (I "grow" O _) (ak (f (aV (aB (aa rfl) (aU ay) fK) c)) (ak (I "drop" ∅ _) (ak (I "cut" ∅ _) (aC ae rfl))))))⟩
 by_cases i:w = "drop"
 ·subst i
  cases q with
  | nil=>exact .inl #[.drop (fun _ _ e=>nomatch e),(ak (I "double" ∅ _) (ak (I "grow" O _) (ak (I "swap" ∅ _) (ak (no2 "drop" _ _ rfl (bL (aB (aa rfl) (aU ay) fK))) (ak (I "cut" ∅ _) (aC ae rfl))))))]
  |cons x q=>
   have U:ev cl (s9 n r p h (x::q) "drop" []) (.ix 8#0 0#1)=some (.int (x:Nat)):=aK (aa rfl) ae rfl;by_cases d:x=h
   ·subst d;have s1:da (.lst (L (x::q))) (.int 1)=some (.lst (L q)):=i3 (xs:=x::q) (k:=1) (by simp);have bs:aT .add (.int (r:Nat)) (.int 1)=some (.int ((r+1:Nat):Int)):=rfl;refine .inr #[r+1,p++x::q,.drop,?_];rw[<-dA (xs:=(p++[x])++q) (by simp)];k_all
   ·exact .inl ⟨.drop (fun _ _ e=>by cases e;exact d),(ak (I "double" ∅ _) (ak (I "grow" O _) (ak (I "swap" ∅ _) (ak (no2 "drop" _ _ rfl (aV (aB (aa rfl) (aU ay) fK) (aB U (aa rfl) (by show some (_ == _)=_;rw[beq_eq_false_iff_ne.mpr (by omega)])))) (ak (I "cut" ∅ _) (aC ae rfl))))))⟩
 by_cases g:w = "cut"
 ·subst g;have hd:∀ {a},aw cl [] (.cons (.ife (.and (.cmp .eq 5#0 (.cst (.str "cut"))) (.and (.cmp .gt (.bi .len 8#0) 1#1) (.and (.cmp .eq (.ix 8#0 1#1) 7#0) (.inn false (.ix 8#0 0#1) (.tup (.cons (.bin .sub 7#0 1#1) (.cons (.bin .add 7#0 1#1) .nil))))))) (.cons (.ret (.tup (.cons 3#0 (.cons (.frz (.bin .add (.slT 4#0 (.bin .add 6#0 1#1)) (.slF 8#0 2#1))) .nil)))) .nil) .nil) (.cons (.ret (.cst .non)) .nil)) (s9 n r p h q "cut" [])=a->aw cl [] A5 (s9 n r p h q "cut" [])=a:=fun k=>ak (I "double" ∅ _) (ak (I "grow" O _) (ak (I "swap" ∅ _) (ak (I "drop" ∅ _) k)));by_cases m:1<q.length
  ·obtain⟨x,y,q,rfl⟩:∃ x y q',q=x::y::q':=by
    match q,m with
    | x::y::q',_=>exact#[x,y,q',rfl]
   have Z:ev cl (s9 n r p h (x::y::q) "cut" []) (.cmp .gt (.bi .len 8#0) 1#1)=some (.bl true):=aB (aX (aa rfl) (ny _)) ae (by show some (decide _)=_;rw[Jj (by simp;omega)]);have i1:ev cl (s9 n r p h (x::y::q) "cut" []) (.ix 8#0 1#1)=some (.int (y:Nat)):=aK (aa rfl) ae rfl;have U:ev cl (s9 n r p h (x::y::q) "cut" []) (.ix 8#0 0#1)=some (.int (x:Nat)):=aK (aa rfl) ae rfl;by_cases d:y=h
   ·subst d;have t1:ev cl (s9 n r p y (x::y::q) "cut" []) (.cmp .eq (.ix 8#0 1#1) 7#0)=some (.bl true):=aB i1 (aa rfl) (by show some (_ == _)=_;rw[beq_self_eq_true]);have tp:ev cl (s9 n r p y (x::y::q) "cut" []) (.tup %[.bin .sub 7#0 1#1,.bin .add 7#0 1#1|_])=some (.tup [.int ((y:Int)-1),.int ((y:Int)+1)]):=aN (ah (ao (aa rfl) ae rfl) (ah (ao (aa rfl) ae rfl) ay));have c:=gO (n:=false) U tp (in2 x y);by_cases e:x=y+1\/y=x+1
    ·rw[Jj e]at c;have s1:da (.lst (L (x::y::q))) (.int 2)=some (.lst (L q)):=i3 (xs:=x::y::q) (k:=2) (by simp);refine .inr #[r,p++y::q,.cut e,?_];rw[<-dA (xs:=(p++[y])++q) (by simp)];exact hd (aL (yes "cut" _ _ rfl (aV Z (aV t1 c))) (aC (aN (ah (aa rfl) (ah (bR (ao (cQ (aa rfl) (ao (aa rfl) ae b1) tk1) (dJ (aa rfl) ae s1) (bO (by simp at Y ⊢;omega))) rfl (bh _)) ay))) (rk _ _)))
    ·rw[Jh e]at c;exact .inl ⟨.cut (fun _ _ _ z=>by cases z;exact fun z=>e z.2),(hd (ak (no2 "cut" _ _ rfl (aV Z (aV t1 c))) (aC ae rfl)))⟩
   ·have t1:ev cl (s9 n r p h (x::y::q) "cut" []) (.cmp .eq (.ix 8#0 1#1) 7#0)=some (.bl false):=aB i1 (aa rfl) (by show some (_ == _)=_;rw[beq_eq_false_iff_ne.mpr (by omega)]);exact .inl ⟨.cut (fun _ _ _ z=>by cases z;exact fun z=>d z.1),(hd (ak (no2 "cut" _ _ rfl (aV Z (bL t1))) (aC ae rfl)))⟩
  ·have Z:ev cl (s9 n r p h q "cut" []) (.cmp .gt (.bi .len 8#0) 1#1)=some (.bl false):=aB (aX (aa rfl) (ny _)) ae (by show some (decide _)=_;rw[Jh (by omega)]);exact .inl #[.cut (fun _ _ _ z=>by subst z;simp at m),(hd (ak (no2 "cut" _ _ rfl (bL Z)) (aC ae rfl)))]
 exact .inl #[.word O (by simp[l,j,i,g]),(ak (I _ l _) (ak (I _ O _) (ak (I _ j _) (ak (I _ i _) (ak (I _ g _) (aC ae rfl))))))]
end
section
variable{cl:Cl}{n r:Nat}{row:List Nat}{w:PySem.Str}{bs:List Int}
def gK(e:row.length<=5000)(hn:1<=n)(w:PySem.Str)(a:Int)(bs:List Int)(hb:bs.length<=1) :
  (Bad n r row w a bs/\evF cl bf [.int (n:Nat),prF r row,trD w a bs]=some .non)\/∃ r' row',Stp n r row w a bs r' row'/\evF cl bf [.int (n:Nat),prF r row,trD w a bs]=some (prF r' row'):=by
 by_cases U:0<=a/\a<(row.length:Nat)
 case neg=>exact .inl #[.out U hb,(out (aL (aI (fS (aW (oz U rfl rfl)))) (aC ae rfl)))]
 have c:ev cl (s7 n r row w a bs) (.chain .le .lt 0#1 6#0 (.bi .len 4#0))=some (.bl true):=rj U rfl rfl;obtain⟨p,h,q,rfl,rfl⟩:=rB U.1 U.2;have Z:ixV (.fL (L (p++h::q))) (.int (p.length:Nat))=some (.int (h:Nat)):=lM (by simp)
 have dr:da (.fL (L (p++h::q))) (.int ((p.length+1:Nat):Int))=some (.lst (L q)):=by
  rw[j4 (by simp)];simp
 have Y:ev cl (s7 n r (p++h::q) w (p.length:Nat) bs) (.cmp .ne (.bi .len 2#0) (.bin .add 2#1 (.bi .int (.cmp .eq 5#0 (.cst (.str "grow"))))))=some (.bl false)->∀ {d O},aw cl [] A5 (s9 n r p h q w bs)=some (.rt d,O)->evF cl bf [.int (n:Nat),prF r (p++h::q),trD w (p.length:Nat) bs]=some d:=fun z {d O} k =>
  out (ak (aI (cD (aW c) z)) (rl (aK (aa rfl) (aa rfl) Z) (dJ (aa rfl) (ao (aa rfl) ae b1) dr) (by simp[D.imm,aS,bh,aH]) k))
 have off:ev cl (s7 n r (p++h::q) w (p.length:Nat) bs) (.cmp .ne (.bi .len 2#0) (.bin .add 2#1 (.bi .int (.cmp .eq 5#0 (.cst (.str "grow"))))))=some (.bl true)->evF cl bf [.int (n:Nat),prF r (p++h::q),trD w (p.length:Nat) bs]=some .non:=fun z =>
  out (aL (aI (cD (aW c) z)) (aC ae rfl))
 by_cases I:w = "grow"
 ·subst I
  match bs,hb with
  | [],_=>exact .inl #[.grow0,(off (fN (weq _)))]
  |[b],_=>
   rcases kq (cl:=cl) (n:=n) (r:=r) e hn b with⟨z,k⟩ | ⟨r',row',S,k⟩
   ·exact .inl #[z,Y (fN (weq _)) k]
   ·exact .inr #[r',row',S,Y (fN (weq _)) k]
 ·match bs,hb with
  |[],_=>
   rcases me (cl:=cl) (n:=n) (r:=r) e I with⟨z,k⟩ | ⟨r',row',S,k⟩
   ·exact .inl #[z,Y (fN (wne I)) k]
   ·exact .inr #[r',row',S,Y (fN (wne I)) k]
  | [b],_=>exact .inl #[.num I,off (fN (wne I))]
end
end K30
namespace K31
open RL RT K32
abbrev eF(I O:Nat):Ss :=
 %[.asg 4 (.call I %[0#0,4#0,6#0|_]),.ife (.isN false 4#0) %[.raiI "BadTrade" 5#0|_] .nil|_]
abbrev jW(O I:Nat):Fn :=
 ⟨4,7,[],[],%[.exc (.call I %[0#0,2#0|_]),.asg 4 (.tup %[1#0,.frz (.bi .list 2#0)|_]),.forr [5,6] (.enm 3#0) (eF O I),.ret 4#0|_]⟩
abbrev iS(O I:Nat):Fn :=
 ⟨3,5,[],[],%[.asg 3 (.cst .non),.tryc %[.asg 3 (.call O %[0#0,.ix 1#0 0#1,.ix 1#0 1#1,2#0|_])|_] "BadTrade" 4 %[.asg 3 (.tup %[.call I %[4#0|_],.fld 4#0|_])|_],.ret 3#0|_]⟩
abbrev ju(a Z O I Y U:Nat):Ss :=
 %[.asg 15 (.call I %[0#0,.bin .add (.bin .add 5#1 (.bin .mul 20#1 1#0)) 5#0,2#0,3#0|_]),.asg 16 (.call O %[2#0,3#0,15#0|_]),.ife (.cmp .eq 5#0 12#0) %[.asg 14 (.tup %[.cst (.str "BadTrade"),.bi .len 13#0|_]),.app 13 (.ix (.lst %[15#0,.tup %[.cst (.str "swap"),.bi .len (.ix 3#0 1#1)|_]|_]) (.bi .int (.isN true 16#0)))|_] %[.ife (.isN true 16#0) %[.app 13 15#0,.asg 3 16#0|_] .nil|_]|_]
abbrev kP(O I a Y Z U:Nat):Ss :=
 (.cons (.unp [2,9,10,11,12] (.call U %[0#0,.bin .add 60#1 1#0,.lst %[9#1,6#1,13#1,16#1,32#1|_]|_])) (.cons (.asg 2 (.bin .add 2#1 2#0)) (.cons (.asg 3 (.tup %[9#0,.frz (.call Z %[0#0,.bin .mul 2#1 1#0,2#0,10#0|_])|_])) (.cons (.asgT 4 9#0 (.bi .list (.ix 3#0 1#1))) (.cons (.parR 13 14 (.lst .nil) (.cst .non)) (.cons (.forr [5] (.rng1 11#0) (ju O I a Y Z U)) (.cons (.ife (.isN false 14#0) %[.asg 14 3#0|_] .nil) (.cons (.asg 6 (.lst %[.frz (.bi .list (.ix 4#0 1#1)),.frz (.bi .list 13#0)|_])) (.tell 7 I %[2#0,4#0,13#0|_] (.not (.call O %[7#0,14#0|_])) %[.ret (.cst (.bl false))|_] %[.asg 8 (.lst %[.call I %[1#1,.tup %[9#0,.frz (.lst .nil)|_],.lst .nil|_],.call I %[1#1,.tup %[9#0,.frz (.lst .nil)|_],.lst %[.tup %[.cst (.str "double"),0#1|_]|_]|_]|_]),.ife (.not (.call O %[8#0,.lst %[.tup %[9#0,.frz (.lst .nil)|_],.tup %[.cst (.str "BadTrade"),0#1|_]|_]|_])) %[.ret (.cst (.bl false))|_] .nil,.ife (.cmp .ne (.lst %[.ix 4#0 1#1,13#0|_]) 6#0) %[.ret (.cst (.bl false))|_] .nil|_])))))))))
abbrev yG(a Z Y I U O:Nat):Fn :=
 ⟨1,17,[13],[],%[.asg 0 (.slT 0#0 63#1),.forr [1] (.rng1 2#1) (kP a Z Y I U O),.ret (.cst (.bl true))|_]⟩
abbrev T:List Fn:=[hZ,dI 0,eY 1,gS 0,jS 3 2,jW 11 4,e8 12,eA 12,eu 12,cN 12,fm 3 12,cG 6 7 8 9 10,gq 0,mq,j0,jj 14,eQ 15,fw 16,bf,gy 18 16,bJ 20,iS 5 13,yG 20 21 18 19 17 16]
end K31
namespace K32
open RL RT RM
section
variable{cl:Cl}{n r:Nat}{p q:List Nat}{h x:Nat}
def b3':aT .add (.int (p.length:Nat)) (.int 3)=some (.int ((p.length+3:Nat):Int)):=rfl
def nne{a b:Nat}(h:a=b):bo .ne (.int (a:Nat)) (.int (b:Nat))=some false:=by
 subst h;show some (!(_ == _))=_;rw[beq_self_eq_true];rfl
end
section
variable{n r r':Nat}{row row':List Nat}
def ln1(xs:List D):biV .len (.fL xs)=some (.int (xs.length:Nat)):=rfl
end
end K32
namespace K30
open RL RT RM K32
end K30
namespace K31
open RL RT RM K32
open K30 (Bad)
section
variable{cl:Cl}{n r:Nat}{p q:List Nat}{h x:Nat}
def qp(O:∀ (row:List Nat) (k m:Nat),k+m<=row.length->cl 12 [.fL (L row),.int (k:Nat),.int (m:Nat)]=some (.bl true))(I:(p++h::x::q).length<=5000)(d:h+1<x\/x+1<h):evF cl (e8 12) [.int (r:Nat),.fL (L (p++h::x::q)),.int (p.length:Nat)]=some (prF r (p++x::h::q)):=by
 have I:p.length+(q.length+1+1)<=5000:=by simpa using I
 rw[<-dA (xs:=p++[x,h]++q) (by simp)];refine aR (fn:=e8 12) rfl rfl (ak (aI (cD (aW (cw (aa rfl) (aa rfl) ae (O _ _ 2 (by simp)))) (aB (aX (ao (aK (aa rfl) (aa rfl) at0) (aK (aa rfl) (ao (aa rfl) ae b1) at1) rfl) (oF h x)) ae (k:=false) (by show some (decide _)=_;rw[Jh (by omega)])))) (aC (aN (ah (aa rfl) (ah (bR (ao (ao (cQ (aa rfl) (aa rfl) tk0) (aU (ah (aK (aa rfl) (ao (aa rfl) ae b1) at1) (ah (aK (aa rfl) (aa rfl) at0) ay))) (bO (b:=[x,h]) (by simp;omega))) (dJ (aa rfl) (ao (aa rfl) ae b2') dr2) (bO (by simp;omega))) rfl (bh _)) ay))) (rk _ _)))
def qq(O:∀ (row:List Nat) (k m:Nat),k+m<=row.length->cl 12 [.fL (L row),.int (k:Nat),.int (m:Nat)]=some (.bl true))(I:(p++h::h::q).length<=5000):evF cl (eA 12) [.int (r:Nat),.fL (L (p++h::h::q)),.int (p.length:Nat)]=some (prF (r+1) (p++h::q)):=by
 have I:p.length+(q.length+1+1)<=5000:=by simpa using I
 have bs:aT .add (.int (r:Nat)) (.int 1)=some (.int ((r+1:Nat):Int)):=rfl;exact aR (fn:=eA 12) rfl rfl (ak (aI (cD (aW (cw (aa rfl) (aa rfl) ae (O _ _ 2 (by simp)))) (aB (aK (aa rfl) (aa rfl) at0) (aK (aa rfl) (ao (aa rfl) ae b1) at1) (nne rfl)))) (aC (aN (ah (ao (aa rfl) ae bs) (ah (bR (ao (cQ (aa rfl) (aa rfl) tk0) (dJ (aa rfl) (ao (aa rfl) ae b1) dr1) (bO (by simp;omega))) rfl (bh _)) ay))) (rk _ _)))
def qo(O:∀ (row:List Nat) (k m:Nat),k+m<=row.length->cl 12 [.fL (L row),.int (k:Nat),.int (m:Nat)]=some (.bl true))(I:(p++h::q).length<=5000):evF cl (eu 12) [.int ((r+1:Nat):Int),.fL (L (p++h::q)),.int (p.length:Nat)]=some (prF r (p++h::h::q)):=by
 have I:p.length+(q.length+1)<=5000:=by simpa using I
 have bs:aT .sub (.int ((r+1:Nat):Int)) (.int 1)=some (.int (r:Nat)):=by show some (D.int _)=_;congr 2;omega
 rw[<-dA (xs:=p++[h]++(h::q)) (by simp)];exact aR (fn:=eu 12) rfl rfl (ak (aI (cD (aW (cw (aa rfl) (aa rfl) ae (O _ _ 1 (by simp)))) (aB (aa rfl) ae (k:=false) (by show some (decide _)=_;rw[Jh (by omega)])))) (aC (aN (ah (ao (aa rfl) ae bs) (ah (bR (ao (ao (cQ (aa rfl) (aa rfl) tk0) (aU (ah (aK (aa rfl) (aa rfl) at0) ay)) (bO (b:=[h]) (by simp;omega))) (dJ (aa rfl) (aa rfl) dr0) (bO (by simp;omega))) rfl (bh _)) ay))) (rk _ _)))
def mU(O:∀ (row:List Nat) (k m:Nat),k+m<=row.length->cl 12 [.fL (L row),.int (k:Nat),.int (m:Nat)]=some (.bl true))(I:(p++h::x::h::q).length<=5000)(d:x=h+1\/h=x+1):evF cl (cN 12) [.int (r:Nat),.fL (L (p++h::x::h::q)),.int (p.length:Nat)]=some (prF r (p++h::q)):=by
 have I:p.length+(q.length+1+1+1)<=5000:=by simpa using I
 have ab:((h:Int)-(x:Int)).natAbs=1:=by omega
 rw[<-dA (xs:=(p++[h])++q) (by simp)];exact aR (fn:=cN 12) rfl rfl (ak (aI (cD (aW (cw (aa rfl) (aa rfl) ae (O _ _ 3 (by simp)))) (cD (aB (aK (aa rfl) (aa rfl) at0) (aK (aa rfl) (ao (aa rfl) ae b2') at2) (nne rfl)) (aB (aX (ao (aK (aa rfl) (aa rfl) at0) (aK (aa rfl) (ao (aa rfl) ae b1) at1) rfl) ((oF h x).trans (by rw[ab]))) ae (nne (a:=1) (b:=1) rfl))))) (aC (aN (ah (aa rfl) (ah (bR (ao (cQ (aa rfl) (ao (aa rfl) ae b1) tk1) (dJ (aa rfl) (ao (aa rfl) ae b3') dr3) (bO (by simp;omega))) rfl (bh _)) ay))) (rk _ _)))
def uJ(O:∀ (row:List Nat) (k m:Nat),k+m<=row.length->cl 12 [.fL (L row),.int (k:Nat),.int (m:Nat)]=some (.bl true))(U:cl 3 [.int (n:Nat),.int (x:Nat)]=some (.bl true))(I:(p++h::q).length<=5000)(d:x=h+1\/h=x+1):evF cl (fm 3 12) [.int (n:Nat),.int (r:Nat),.fL (L (p++h::q)),.int (p.length:Nat),.int (x:Nat)]=some (prF r (p++h::x::h::q)):=by
 have I:p.length+(q.length+1)<=5000:=by simpa using I
 have ab:((h:Int)-(x:Int)).natAbs=1:=by omega
 rw[<-dA (xs:=(p++[h])++[x,h]++q) (by simp)];exact aR (fn:=fm 3 12) rfl rfl (ak (aI (cD (aW (cw (aa rfl) (aa rfl) ae (O _ _ 1 (by simp)))) (cD (aW (hU (aa rfl) (aa rfl) U)) (aB (aX (ao (aK (aa rfl) (aa rfl) at0) (aa rfl) rfl) ((oF h x).trans (by rw[ab]))) ae (nne (a:=1) (b:=1) rfl))))) (aC (aN (ah (aa rfl) (ah (bR (ao (ao (cQ (aa rfl) (ao (aa rfl) ae b1) tk1) (aU (ah (aa rfl) (ah (aK (aa rfl) (aa rfl) at0) ay))) (bO (b:=[x,h]) (by simp;omega))) (dJ (aa rfl) (ao (aa rfl) ae b1) dr1) (bO (by simp;omega))) rfl (bh _)) ay))) (rk _ _)))
end
section
variable{n r r':Nat}{row row':List Nat}
def num(m:Nat)(i:Int):aq T (m+1) 0 [.int i]=some (.bl true):=(aE (fn:=hZ) rfl).trans (mW i)
def plc(m:Nat)(row:List Nat)(a:Int)(j:Nat):aq T (m+2) 12 [.fL (L row),.int a,.int (j:Nat)]=some (.bl (decide (0<=a/\a+j<=(row.length:Nat)))):=by
 refine(aE (fn:=gq 0) rfl).trans (aR (fn:=gq 0) rfl rfl (aC (aV (sv (aa rfl) (num m a)) ?_) rfl));by_cases I:0<=a
 ·rw[ip ae (aa rfl) (ao (aX (aa rfl) (jD row)) (aa rfl) rfl) (by show some (decide _)=_;rw[Jj I]) (k:=decide (a+j<=(row.length:Nat))) (by show some (decide _)=_;congr 1;rw[decide_eq_decide];omega)];simp[I]
 ·rw[jd ae (aa rfl) (by show some (decide _)=_;rw[Jh I])];simp[I]
def hpl(m:Nat)(row:List Nat)(k j:Nat)(h:k+j<=row.length):aq T (m+2) 12 [.fL (L row),.int (k:Nat),.int (j:Nat)]=some (.bl true):=by
 rw[plc,Jj (by omega)]
def hpn(m:Nat)(row:List Nat)(a:Int)(j:Nat)(h:¬ (0<=a/\a+j<=(row.length:Nat))):aq T (m+2) 12 [.fL (L row),.int a,.int (j:Nat)]=some (.bl false):=by
 rw[plc,Jh h]
def rJ(m:Nat)(b:Int):aq T (m+2) 3 [.int (n:Nat),.int b]=some (.bl (decide (0<=b/\b<=(n:Int)-2))):=(aE (fn:=gS 0) rfl).trans (qi (num m) n b)
def hook(m:Nat){x:Nat}(h:x+1<n):aq T (m+2) 3 [.int (n:Nat),.int (x:Nat)]=some (.bl true):=by
 rw[rJ,Jj (by omega)]
def mj(S:Stp n r row w a bs r' row')(I:row.length<=5000):aq T 27 11 [.int (n:Nat),prF r row,trD w a bs]=some (prF r' row'):=by
 have O:∀ row:List Nat,aF [D.int (r:Nat),.fL (L row)]=true:=fun row=>by simp[aF,D.imm,bh]
 have act:∀ {w:PySem.Str} {k f:Nat} {row:List Nat},w ≠ "grow" -> (["swap", "drop", "double", "cut"]:List PySem.Str).any (fun k=>decide (k=w))=true->gw [("swap",6),("drop",7),("double",8),("cut",9)] (.str w)=some f->aq T 26 f [.int (r:Nat),.fL (L row),.int (k:Nat)]=some (prF r' row')->aq T 27 11 [.int (n:Nat),prF r row,trD w (k:Nat) []]=some (prF r' row'):=fun {w k f row} U hi hf Y=>by
  refine(aE (fn:=cG 6 7 8 9 10) rfl).trans (aR rfl rfl (fE (aa rfl) rfl (O row) rfl (iu (aa rfl) rfl (ak (aI (bL (aB (aa rfl) ae (wne U)))) (aL (aI (aV ((nj (aa rfl)).trans (by rw[hi])) (aB (aX (aa rfl) (ln1 _)) ae rfl))) (uT (aa rfl) hf (ah (aa rfl) (ah (aa rfl) (ah (aK (aa rfl) ae rfl) ay))) Y (c5 _ _)))))))
 cases S with
 | swap d=>exact act (f:=6) ∅ ∅ ∅ ((aE (fn:=e8 12) rfl).trans (qp (hpl 23) I d))
 | drop=>exact act (f:=7) ∅ ∅ ∅ ((aE (fn:=eA 12) rfl).trans (qq (hpl 23) I))
 | dbl=>exact act (f:=8) ∅ ∅ ∅ ((aE (fn:=eu 12) rfl).trans (qo (hpl 23) I))
 | cut d=>exact act (f:=9) ∅ ∅ ∅ ((aE (fn:=cN 12) rfl).trans (mU (hpl 23) I d))
 |grow hb d=>
  exact(aE (fn:=cG 6 7 8 9 10) rfl).trans (aR rfl rfl (fE (aa rfl) rfl (O _) rfl (iu (aa rfl) rfl (aL (aI (aV (aB (aa rfl) ae (weq _)) (aB (aX (aa rfl) (ln1 _)) ae rfl))) (aC (x_call (ah (aa rfl) (ah (aa rfl) (ah (aa rfl) (ah (aK (aa rfl) ae rfl) (ah (aK (aa rfl) ae rfl) ay))))) ((aE (fn:=fm 3 12) rfl).trans (uJ (hpl 23) (hook 23 hb) I d))) (rk _ _))))))
def xX(m:Nat){a:Int}(h:¬ (0<=a/\a+2<=(row.length:Nat))):aq T (m+3) 6 [.int (r:Nat),.fL (L row),.int a]=some .non:=(aE (fn:=e8 12) rfl).trans (aR rfl rfl (aL (aI (fS (aW (cw (aa rfl) (aa rfl) ae (hpn m row a 2 h))))) (aC ae rfl)))
def yE(m:Nat){a:Int}(h:¬ (0<=a/\a+2<=(row.length:Nat))):aq T (m+3) 7 [.int (r:Nat),.fL (L row),.int a]=some .non:=(aE (fn:=eA 12) rfl).trans (aR rfl rfl (aL (aI (fS (aW (cw (aa rfl) (aa rfl) ae (hpn m row a 2 h))))) (aC ae rfl)))
def yF(m:Nat){a:Int}(h:¬ (0<=a/\a+1<=(row.length:Nat))):aq T (m+3) 8 [.int (r:Nat),.fL (L row),.int a]=some .non:=(aE (fn:=eu 12) rfl).trans (aR rfl rfl (aL (aI (fS (aW (cw (aa rfl) (aa rfl) ae (hpn m row a 1 h))))) (aC ae rfl)))
def rP(m:Nat){a:Int}(h:¬ (0<=a/\a+3<=(row.length:Nat))):aq T (m+3) 9 [.int (r:Nat),.fL (L row),.int a]=some .non:=(aE (fn:=cN 12) rfl).trans (aR rfl rfl (aL (aI (fS (aW (cw (aa rfl) (aa rfl) ae (hpn m row a 3 h))))) (aC ae rfl)))
def DL(m:Nat){a b:Int}(h:¬ (0<=a/\a+1<=(row.length:Nat))):aq T (m+3) 10 [.int (n:Nat),.int (r:Nat),.fL (L row),.int a,.int b]=some .non:=(aE (fn:=fm 3 12) rfl).trans (aR rfl rfl (aL (aI (fS (aW (cw (aa rfl) (aa rfl) ae (hpn m row a 1 h))))) (aC ae rfl)))
def CV(m:Nat){a:Int}:aq T (m+3) 8 [.int 0,.fL (L row),.int a]=some .non:=by
 by_cases h:0<=a/\a+1<=(row.length:Nat)
 ·have e:aq T (m+2) 12 [.fL (L row),.int a,.int 1]=some (.bl true):=(plc m row a 1).trans (by rw[Jj (by omega)]);exact(aE (fn:=eu 12) rfl).trans (aR rfl rfl (aL (aI (cD (aW (cw (aa rfl) (aa rfl) ae e)) (aB (aa rfl) ae rfl))) (aC ae rfl)))
 ·exact yF (r:=0) m h
section
variable{p q:List Nat}{h x:Nat}
def AQ(m:Nat)(d:¬ (h+1<x\/x+1<h)):aq T (m+3) 6 [.int (r:Nat),.fL (L (p++h::x::q)),.int (p.length:Nat)]=some .non :=
 (aE (fn:=e8 12) rfl).trans (aR rfl rfl (aL (aI (cD (aW (cw (aa rfl) (aa rfl) ae (hpl m _ _ 2 (by simp)))) (aB (aX (ao (aK (aa rfl) (aa rfl) at0) (aK (aa rfl) (ao (aa rfl) ae b1) at1) rfl) (oF h x)) ae (k:=true) (by show some (decide _)=_;rw[Jj (by omega)])))) (aC ae rfl)))
def rL{a b:Nat}(h:a≠b):bo .ne (.int (a:Nat)) (.int (b:Nat))=some true:=by
 show some (!(_ == _))=_;rw[beq_eq_false_iff_ne.mpr (by omega)];rfl
def Bf(m:Nat)(d:¬ x=h):aq T (m+3) 7 [.int (r:Nat),.fL (L (p++h::x::q)),.int (p.length:Nat)]=some .non :=
 (aE (fn:=eA 12) rfl).trans (aR rfl rfl (aL (aI (cD (aW (cw (aa rfl) (aa rfl) ae (hpl m _ _ 2 (by simp)))) (aB (aK (aa rfl) (aa rfl) at0) (aK (aa rfl) (ao (aa rfl) ae b1) at1) (rL fun z=>d z.symm)))) (aC ae rfl)))
def BP(m:Nat)(d:¬ (y=h/\(x=h+1\/h=x+1))):aq T (m+3) 9 [.int (r:Nat),.fL (L (p++h::x::y::q)),.int (p.length:Nat)]=some .non:=by
 have I:=aW (cw (cl:=aq T (m+2)) (J:=[some (.int (r:Nat)),some (.fL (L (p++h::x::y::q))),some (.int (p.length:Nat))]) (e:=.var 1) (e':=.var 2) (aa rfl) (aa rfl) ae (hpl m (p++h::x::y::q) p.length 3 (by simp)));by_cases e:y=h
 ·subst e;refine(aE (fn:=cN 12) rfl).trans (aR rfl rfl (aL (aI (cD I (cD (aB (aK (aa rfl) (aa rfl) at0) (aK (aa rfl) (ao (aa rfl) ae b2') at2) (nne rfl)) (aB (aX (ao (aK (aa rfl) (aa rfl) at0) (aK (aa rfl) (ao (aa rfl) ae b1) at1) rfl) (oF y x)) ae (rL (a:=((y:Int)-x).natAbs) (b:=1) (by omega)))))) (aC ae rfl)))
 ·exact(aE (fn:=cN 12) rfl).trans (aR rfl rfl (aL (aI (cD I (fS (aB (aK (aa rfl) (aa rfl) at0) (aK (aa rfl) (ao (aa rfl) ae b2') at2) (rL fun z=>e z.symm))))) (aC ae rfl)))
def CN(m:Nat){b:Int}(d:¬ ((0<=b/\b<(n:Int)-1)/\(b=h-1\/b=h+1))):aq T (m+3) 10 [.int (n:Nat),.int (r:Nat),.fL (L (p++h::q)),.int (p.length:Nat),.int b]=some .non:=by
 have I:=aW (cw (cl:=aq T (m+2)) (J:=[some (.int (n:Nat)),some (.int (r:Nat)),some (.fL (L (p++h::q))),some (.int (p.length:Nat)),some (.int b)]) (e:=.var 2) (e':=.var 3) (aa rfl) (aa rfl) ae (hpl m _ _ 1 (by simp)));by_cases e:0<=b/\b<(n:Int)-1
 ·have hk:aq T (m+2) 3 [.int (n:Nat),.int b]=some (.bl true):=(rJ m b).trans (by rw[Jj (by omega)])
  have ab:biV .abs (.int ((h:Int)-b))=some (.int (((h:Int)-b).natAbs:Nat)):=by
   show some (D.int (if(h:Int)-b<0 then -((h:Int)-b)else(h:Int)-b))=_;congr 2;split<;>omega
  exact(aE (fn:=fm 3 12) rfl).trans (aR rfl rfl (aL (aI (cD I (cD (aW (hU (aa rfl) (aa rfl) hk)) (aB (aX (ao (aK (aa rfl) (aa rfl) at0) (aa rfl) rfl) ab) ae (rL (a:=((h:Int)-b).natAbs) (b:=1) (by omega)))))) (aC ae rfl)))
 ·have hk:aq T (m+2) 3 [.int (n:Nat),.int b]=some (.bl false):=(rJ m b).trans (by rw[Jh (by omega)]);exact(aE (fn:=fm 3 12) rfl).trans (aR rfl rfl (aL (aI (cD I (fS (aW (hU (aa rfl) (aa rfl) hk))))) (aC ae rfl)))
end
def act(m:Nat){w:PySem.Str}{f:Nat}{a:Int}{d:D}(U:w ≠ "grow")(hi:(["swap", "drop", "double", "cut"]:List PySem.Str).any (fun k=>decide (k=w))=true)(hf:gw [("swap",6),("drop",7),("double",8),("cut",9)] (.str w)=some f)(Y:aq T (m+3) f [.int (r:Nat),.fL (L row),.int a]=some d)(O:d.imm=true):aq T (m+4) 11 [.int (n:Nat),prF r row,trD w a []]=some d:=by
 have I:aF [D.int (r:Nat),.fL (L row)]=true:=by simp[aF,D.imm,bh]
 exact(aE (fn:=cG 6 7 8 9 10) rfl).trans (aR rfl rfl (fE (aa rfl) rfl I rfl (iu (aa rfl) rfl (ak (aI (bL (aB (aa rfl) ae (wne U)))) (aL (aI (aV ((nj (aa rfl)).trans (by rw[hi])) (aB (aX (aa rfl) (ln1 _)) ae rfl))) (uT (aa rfl) hf (ah (aa rfl) (ah (aa rfl) (ah (aK (aa rfl) ae rfl) ay))) Y O))))))
def Bd(m:Nat){a b:Int}{d:D}(U:aq T (m+3) 10 [.int (n:Nat),.int (r:Nat),.fL (L row),.int a,.int b]=some d)(O:d.imm=true):aq T (m+4) 11 [.int (n:Nat),prF r row,trD "grow" a [b]]=some d:=by
 have I:aF [D.int (r:Nat),.fL (L row)]=true:=by simp[aF,D.imm,bh]
 exact(aE (fn:=cG 6 7 8 9 10) rfl).trans (aR rfl rfl (fE (aa rfl) rfl I rfl (iu (aa rfl) rfl (aL (aI (aV (aB (aa rfl) ae (weq _)) (aB (aX (aa rfl) (ln1 _)) ae rfl))) (aC (x_call (ah (aa rfl) (ah (aa rfl) (ah (aa rfl) (ah (aK (aa rfl) ae rfl) (ah (aK (aa rfl) ae rfl) ay))))) U) (by unfold cR;rw[O];rfl))))))
def i9(m:Nat){w:PySem.Str}{a:Int}{bs:List Int}(b:¬ (w = "grow" /\ bs.length=1))(Z:¬ ((["swap", "drop", "double", "cut"]:List PySem.Str).any (fun k=>decide (k=w))=true/\bs.length=0)):aq T (m+4) 11 [.int (n:Nat),prF r row,trD w a bs]=some .non:=by
 have O:aF [D.int (r:Nat),.fL (L row)]=true:=by simp[aF,D.imm,bh]
 have I:((D.str w).imm&&aF (.int a::bs.map .int))=true:=by
  have:=gb w a bs;simpa[trD,D.imm,aF]using this
 have U:∀ k:Nat,bo .eq (.int ((D.int a::bs.map D.int).length:Nat)) (.int (k:Nat))=some (decide (bs.length+1=k)):=fun k=>by
  show some (_ == _)=_;congr 1;rw[Bool.eq_iff_iff,beq_iff_eq,decide_eq_true_eq,length_cons,length_map];omega
 refine(aE (fn:=cG 6 7 8 9 10) rfl).trans (aR rfl rfl (fE (aa rfl) rfl O rfl (iu (aa rfl) I (ak ?_ (ak ?_ (aC ae rfl))))))
 ·by_cases Y:w = "grow"
  ·subst Y;exact aI (aV (aB (aa rfl) ae (weq _)) (aB (aX (aa rfl) (ln1 _)) ae ((U 2).trans (by rw[Jh fun z=>b ⟨rfl,by omega⟩]))))
  ·exact aI (bL (aB (aa rfl) ae (wne Y)))
 ·cases hi:(["swap", "drop", "double", "cut"]:List PySem.Str).any (fun k=>decide (k=w))with
  | true=>exact aI (aV ((nj (aa rfl)).trans (by rw[hi])) (aB (aX (aa rfl) (ln1 _)) ae ((U 1).trans (by rw[Jh fun z=>Z ⟨hi,by omega⟩]))))
  | false=>exact aI (bL ((nj (aa rfl)).trans (by rw[hi])))
def vM(m:Nat)(B:Bad n r row w a bs):aq T (m+4) 11 [.int (n:Nat),prF r row,trD w a bs]=some .non:=by
 cases B with
 |out e hb=>
  match bs,hb with
  |[b],_=>
   by_cases I:w = "grow"
   ·subst I;exact Bd m (DL m (by omega)) rfl
   ·exact i9 m (fun z=>I z.1) (fun z=>by cases z.2)
  |[],_=>
   by_cases Z:w = "swap"
   ·subst Z;exact act m (f:=6) ∅ ∅ ∅ (xX m (by omega)) rfl
   by_cases Y:w = "drop"
   ·subst Y;exact act m (f:=7) ∅ ∅ ∅ (yE m (by omega)) rfl
   by_cases U:w = "double"
   ·subst U;exact act m (f:=8) ∅ ∅ ∅ (yF m (by omega)) rfl
   by_cases O:w = "cut"
   ·subst O;exact act m (f:=9) ∅ ∅ ∅ (rP m (by omega)) rfl
   refine i9 m (fun z=>by cases z.2) fun z=>?_;have z:=z.1;simp only[any_cons,List.any_nil,Bool.or_false,or_eq_true,decide_eq_true_eq]at z;rcases z with z | z | z | z
   ·exact Z z.symm
   ·exact Y z.symm
   ·exact U z.symm
   ·exact O z.symm
 | grow0=>exact i9 m (fun z=>by cases z.2) (fun z=>by revert z;decide)
 | num I=>exact i9 m (fun z=>I z.1) (fun z=>by cases z.2)
 | grow d=>exact Bd m (CN m d) rfl
 | dbl=>exact act (r:=0) m (f:=8) ∅ ∅ ∅ (CV m) rfl
 |@swap r h p q d=>
  refine act m (f:=6) ∅ ∅ ∅ ?_ rfl
  cases q with
  | nil=>exact xX m (by simp)
  | cons x q=>exact AQ m (d x q rfl)
 |@drop r h p q d=>
  refine act m (f:=7) ∅ ∅ ∅ ?_ rfl
  cases q with
  | nil=>exact yE m (by simp)
  | cons x q=>exact Bf m (d x q rfl)
 |@cut r h p q d=>
  refine act m (f:=9) ∅ ∅ ∅ ?_ rfl
  match q,d with
  | [],_=>exact rP m (by simp)
  | [x],_=>exact rP m (by simp)
  | x::y::q,d=>exact BP m (d x y q rfl)
 |word c I=>
  refine i9 m (fun z=>c z.1) fun z=>?_;have z:=z.1;rw[List.any_eq_true]at z;obtain⟨k,hk,z⟩:=z;rw[decide_eq_true_eq]at z;exact I (z▸hk)
end
end K31
namespace K32
open RL RT RM
def rI:∀ (n a:Nat),cb (a:Int) n=L (range' a n)
 | 0,_=>rfl
 | n+1,a=>by
  rw[cb,List.range'_succ];show D.int (a:Int)::cb ((a:Int)+1) n=D.int (a:Int)::L (range' (a+1) n);rw[<-rI n (a+1)];rfl
def xg{n:Nat}(h:n<=10000):jJ (.int 0) (.int n)=some (L (List.range n)):=by
 show(if((n:Int)-0).toNat<=most/\-(2 ^ 60)<=(0:Int)/\(0:Int)<2 ^ 60/\-(2 ^ 60)<=(n:Int)/\(n:Int)<2 ^ 60 then some (cb 0 ((n:Int)-0).toNat)else none)=_
 have q:(2:Int) ^ 60=1152921504606846976:=by decide
 rw[q,if_pos ⟨by unfold most;omega,by omega,by omega,by omega,by omega⟩,show((n:Int)-0).toNat=n by omega,List.range_eq_range'];exact congrArg some (rI n 0)
def DQ{ns:List Int}(I:ns.length<=63):hW (.scr (LI ns)) (.int 63)=some (.lst (LI ns)):=by
 show some (D.lst ((LI ns).take (cutAt (LI ns).length 63)))=_;rw[List.take_of_length_le];rw[uW];unfold cutAt;rw[if_pos ∅];show ns.length<=min 63 ns.length;omega
def D6(h:iW ds [a,b,c,d]):∃ x y z u,ds=[x,y,z,u]/\x<a/\y<b/\z<c/\u<d:=by
 obtain⟨O,I⟩:=h
 match ds,O with
 | [x,y,z,u],_=>exact#[x,y,z,u,rfl,I 0 x a rfl rfl,I 1 y b rfl rfl,I 2 z c rfl rfl,I 3 u d rfl rfl]
abbrev IsT(g:D):Prop:=∃ w a bs,bs.length<=1/\g=trD w a bs
def IsT.imm(h:IsT g):g.imm=true:=by
 obtain⟨w,a,bs,_,rfl⟩:=h;exact gb w a bs
def t2(w:PySem.Str)(a:Int):IsT (.tup [.str w,.int a]):=#[w,a,[],by simp,rfl]
def t3(w:PySem.Str)(a b:Int):IsT (.tup [.str w,.int a,.int b]):=#[w,a,[b],by simp,rfl]
def fX:∀ {gs:List D},(∀ g∈gs,IsT g)->aF gs=true
 | [],_=>rfl
 | g::r,h=>by rw[aF,(h g (by simp)).imm,fX fun g I=>h g (by simp[I])];rfl
section
variable{cl:Cl}{n r:Nat}{row:List Nat}{F:St->Option (Option D)}{J:St}{i:Nat}
def uy(hf:F (J.set i (some d))=some (some x))(I:x.imm=true)(O:de F [i] J ds=some ys):de F [i] J (d::ds)=some (x::ys):=by
 show(bP [i] d J).bind _=_;rw[iO,Option.bind_some,hf,Option.bind_some,O,Option.bind_some];exact if_pos I
def om:∀ {gs:List D},(∀ g∈gs,IsT g/\∃ b:Bool,F (J.set i (some g))=some (if b then some g else none))->∃ I,de F [i] J gs=some I/\(∀ g∈I,IsT g)/\I.length<=gs.length
 | [],_=>⟨[],rfl,fun g U=>(by cases U),Je _⟩
 | g::r,h=>by
  obtain⟨I,e,Y,Z⟩:=om (gs:=r) fun g U=>h g (by simp[U]);obtain⟨it,b,hb⟩:=h g (by simp)
  have u:de F [i] J (g::r)=(F (J.set i (some g))).bind fun y=>(de F [i] J r).bind (lQ y):=by
   show(bP [i] g J).bind _=_;rw[iO];rfl
  cases b with
  |true=>
   refine#[g::I,?_,fun x O=>?_,by simp;omega]
   ·rw[u,hb,e];exact if_pos it.imm
   ·rcases List.mem_cons.mp O with rfl | O
    ·exact it
    ·exact Y x O
  | false=>exact#[I,by rw[u,hb,e];rfl,Y,by simp;omega]
def ri(gs:List D):bo .ne (.lst gs) (.lst [])=some (!gs.isEmpty):=by
 cases gs<;>rfl
abbrev sT(s:D)(k n r:Nat)(row:List Nat)(a:Int)(gs:List D)(O:Option D)(I num far:Nat):St:=[some s,some (.int (k:Nat)),some (.int (n:Nat)),some (prF r row),some (.int a),some (.lst gs),O,some (.int (I:Nat)),some (.int (num:Nat)),some (.int (far:Nat)),none,none,none,none]
def tD{J:St}(h:(J[3]?).bind id=some (prF r row)):ev cl J (.ix 3#0 1#1)=some (.fL (L row)):=aK (aa h) ae rfl
def uh(s:D)(k n I num far:Nat)(a:Int)(y:row.length<=5000):∃ gs U,(∀ g∈gs,IsT g)/\gs.length<=6*row.length/\bN (aw cl [] (dQ 23 21)) [6] (L (List.range row.length)) (sT s k n r row a [] none I num far)=some (.nx,sT s k n r row a gs U I num far):=by
 obtain⟨j,e,gs,U,Z,h,rfl⟩:=fG (f:=aw cl [] (dQ 23 21)) (tg:=[6]) (xs:=List.range row.length) (J:=sT s k n r row a [] none I num far)
  (fun p J=>∃ gs U,(∀ g∈gs,IsT g)/\gs.length<=6*p.length/\J=sT s k n r row a gs U I num far) ⟨[],none,fun g O=>(by cases O),by simp,rfl⟩ (by
   rintro p x q J b ⟨gs,U,Z,h,rfl⟩
   have Y:x<row.length:=by
    have:x∈List.range row.length:=by rw[b];simp
    simpa using this
   have w:p.length<=row.length:=by
    have:=congrArg List.length b;simp at this;omega
   obtain⟨v,o⟩:∃ v,row[x]?=some v:=#[row[x],by simp[Y]]
   let A:List D:=[.tup [.str "swap",.int (x:Nat)],.tup [.str "drop",.int (x:Nat)],.tup [.str "cut",.int (x:Nat)],.tup [.str "double",.int (x:Nat)]]
   let B:List D:=[.tup [.str "grow",.int (x:Nat),.int ((v:Int)+-1)],.tup [.str "grow",.int (x:Nat),.int ((v:Int)+1)]]
   have u:ev cl (sT s k n r row a gs (some (.int (x:Nat))) I num far) (.compA (.tup %[12#0,6#0|_]) [12] (.seq (.tup %[.cst (.str "swap"),.cst (.str "drop"),.cst (.str "cut"),.cst (.str "double")|_])))=some (.lst A) :=
    jL (rK (aN (ah ae (ah ae (ah ae (ah ae ay))))) rfl) ∅ rfl
   have i:∀ (gs:List D) (st:Int),ev cl ((sT s k n r row a gs (some (.int (x:Nat))) I num far).set 13 (some (.int st))) (.tup (.cons (.cst (.str "grow")) (.cons 6#0 (.cons (.bin .add (.ix (.ix 3#0 1#1) 6#0) 13#0) .nil))))=some (.tup [.str "grow",.int (x:Nat),.int ((v:Int)+st)]):=fun gs st =>
    aN (ah ae (ah (aa rfl) (ah (ao (aK (tD rfl) (aa rfl) (lM o)) (aa rfl) rfl) ay)))
   have t:∀ gs:List D,ev cl (sT s k n r row a gs (some (.int (x:Nat))) I num far) (.compA (.tup (.cons (.cst (.str "grow")) (.cons 6#0 (.cons (.bin .add (.ix (.ix 3#0 1#1) 6#0) 13#0) .nil)))) [13] (.seq (.tup (.cons (.neg 1#1) (.cons 1#1 .nil)))))=some (.lst B):=fun gs =>
    jL (rK (aN (ah (DE ae) (ah ae ay))) rfl) ∅ (uy (by rw[i];rfl) rfl (uy (by rw[i];rfl) rfl rfl))
   have d:∀ g∈gs++A,IsT g:=fun g O=>by
    rcases List.mem_append.mp O with O | O
    ·exact Z g O
    ·simp only[A,mem_cons,not_mem_nil,or_false]at O;rcases O with rfl | rfl | rfl | rfl<;>exact t2 _ _
   have c:∀ g∈gs++A++B,IsT g:=fun g O=>by
    rcases List.mem_append.mp O with O | O
    ·exact d g O
    ·simp only[B,mem_cons,not_mem_nil,or_false]at O;rcases O with rfl | rfl<;>exact t3 _ _ _
   have m:aT .add (.lst gs) (.lst A)=some (.lst (gs++A)):=by rw[wu];exact if_pos (by show gs.length+4<=most;unfold most;omega)
   have l:aT .add (.lst (gs++A)) (.lst B)=some (.lst (gs++A++B)):=by rw[wu];exact if_pos (by rw[length_append];show gs.length+4+2<=most;unfold most;omega)
   refine#[sT s k n r row a (gs++A++B) (some (.int (x:Nat))) I num far,?_,_,_,c,?_,rfl]
   ·rw[iO,Option.bind_some];exact aZ (ao (aa rfl) u m) (by simp[bz,aS,fX d,aH]) (aZ (ao (aa rfl) (t _) l) (by simp only[bz,aS,fX c,aH];simp) bH)
   ·simp only[length_append,length_cons,length_nil];show gs.length+4+2<=_
    omega)
 exact#[gs,U,Z,by simpa using h,e]
def nine(I far:Int):∀ m:Nat,m<9->∃ g,IsT g/\bQ [D.tup [.str "grow",.int I],.tup [.str "swap",.int I,.int 0],.tup [.str "",.int I],.tup [.str "Swap",.int I],.tup [.str "drop",.int far],.tup [.str "cut",.int (0-far)],.tup [.str "drop",.int I,.int 0],.tup [.str "double",.int I,.int 0],.tup [.str "cut",.int I,.int 0]] (m:Nat)=some g
 | 0,_=>#[_,t2 _ _,rfl]
 | 1,_=>#[_,t3 _ _ _,rfl]
 | 2,_=>#[_,t2 _ _,rfl]
 | 3,_=>#[_,t2 _ _,rfl]
 | 4,_=>#[_,t2 _ _,rfl]
 | 5,_=>#[_,t2 _ _,rfl]
 | 6,_=>#[_,t3 _ _ _,rfl]
 | 7,_=>#[_,t3 _ _ _,rfl]
 | 8,_=>#[_,t3 _ _ _,rfl]
def three(a b c:Int):∀ m:Nat,m<3->∃ v,bQ [D.int a,.int b,.int c] (m:Nat)=some (.int v)
 | 0,_=>#[_,rfl]
 | 1,_=>#[_,rfl]
 | 2,_=>#[_,rfl]
def four:∀ m:Nat,m<4->∃ w:PySem.Str,bQ [D.str "swap",.str "drop",.str "cut",.str "double"] (m:Nat)=some (.str w)
 | 0,_=>#[_,rfl]
 | 1,_=>#[_,rfl]
 | 2,_=>#[_,rfl]
 | 3,_=>#[_,rfl]
def md{b:Nat}(h:0<b)(far:Nat):aT .mod (.int (far:Nat)) (.int (b:Nat))=some (.int ((far%b:Nat):Int)):=by
 rw[dW (by omega)];rfl
def rIs{M:List Nat}{e:E}(h:IsT g):cR M e g=true:=by unfold cR;rw[h.imm];rfl
end
end K32
namespace RM
open RL RT
end RM
namespace RT
open RL
end RT
namespace RM
open RL RT
end RM
namespace RT
open RL
end RT
namespace RM
open RL RT
end RM
namespace RT
open RL
end RT
namespace RM
open RL RT
section
variable{cl:Cl}{n:Nat}{a b:List Nat}
def tM{M:List Nat}{J I:St}{e:E}{d:D}{i:Nat}{r:Ss}{c:PySem.Str}(h:ev cl J e=some d)(ok:bz M e d=true)(k:Rr cl M r (J.set i (some d)) c I):Rr cl M (.cons (.asg i e) r) J c I:=Bv (by
 show(ev cl J e).bind _=_
 rw[h,Option.bind_some,if_pos ok]) k
end
end RM
namespace K30
open RL RT RM K32
section
variable{n r r':Nat}{row row':List Nat}
def vL{cl:Cl}{k:Nat}(h:ev cl J e=some (.int (k:Nat)))(hk:k<=100):Rr cl M (.cons (.raiI c e) rs) J (mkR c k) J:=kT (by rw[CA]) (by
 show((ev cl J e).bind (xJ c)).map _=_;rw[h];show(if 0<=((k:Nat):Int)/\written (.int (k:Nat))=true then some (mkR c ((k:Nat):Int).toNat)else none).map _=_;rw[if_pos ⟨Int.natCast_nonneg k,v9 hk⟩]
 rfl)
def yA{cl:Cl}(h:ev cl J e=some (.exc x))(hf:vQ (.exc x)=some d):ev cl J (.fld e)=some d:=by
 show(ev cl J e).bind vQ=_;rw[h];exact hf
def qv{cl:Cl}{fs:Nat}{xs:List D}(b:xs.length<=5000)(h:∀ x∈xs,cl fs [x,x]=some (.bl true)):evF cl (bJ fs) [.fL xs,.fL xs]=some (.bl true):=by
 have a:biV .all (.lst (xs.map fun _=>.bl true))=some (.bl true):=by
  simp only[B8,pS];simp
 have O:=pR (F:=fun I=>(ev cl I (.call fs (.cons 2#0 (.cons 3#0 .nil)))).map some) (tg:=[2,3]) (J:=[some (.fL xs),some (.fL xs),none,none]) (h:=fun x=>.tup [x,x]) (g:=fun _=>.bl true) (fun _=>rfl) xs (by
  intro x Z;show(ev cl [some (.fL xs),some (.fL xs),some x,some x] (.call fs %[2#0,3#0|_])).map some=_;rw[hU (aa rfl) (aa rfl) (h x Z)]
  rfl)
 have Y:bo .eq (.int (xs.length:Int)) (.int (xs.length:Int))=some true:=by simp[pZ]
 have U:(eV xs xs).length<=most:=by rw[gz,length_map];unfold most;lia
 rw[<-gz]at O;exact aR rfl rfl (j3 rfl rfl rfl rfl rfl (ak (aI (bL (aW (k:=true) (cJ (aa rfl) rfl)))) (aC (aV (aB (aX (aa rfl) rfl) (aX (aa rfl) rfl) Y) (aX (jL (yb (aa rfl) (aa rfl) rfl rfl rfl) U O) a)) rfl)))
end
end K30
namespace K31
open RL RT RM K32
open K30 (Bad vL yA qv)
def dg:Dg T 14 15 16:=#[rfl,rfl,rfl]
section
variable{cl:Cl}{n r:Nat}{row:List Nat}
def wX{ns:List Int}(D:ns.length<=63)(t:row.length<=5000)(hn:1<=n)(k:Nat)(hk:k<=900):∃ w a bs,bs.length<=1/\aq T 29 19 [.lst (LI ns),.int (k:Nat),.int (n:Nat),prF r row]=some (trD w a bs):=by
 suffices h:∃ g,IsT g/\aq T 29 19 [.lst (LI ns),.int (k:Nat),.int (n:Nat),prF r row]=some g by
  obtain⟨g,⟨w,a,bs,hb,rfl⟩,e⟩:=h;exact#[w,a,bs,hb,e]
 obtain⟨ds,hd,E⟩:=dg.digits D 25 (k:=k) (sizes:=[14,row.length+2,10,10 ^ 20]) (by omega) (by simp;omega) (by simp);obtain⟨I,at0,nm,far,rfl,Qa,ha,hm,hf⟩:=D6 hd;have y:aT .pow (.int 10) (.int 20)=some (.int ((10 ^ 20:Nat):Int)):=rfl;have C:aT .add (.int (row.length:Nat)) (.int 2)=some (.int ((row.length+2:Nat):Int)):=rfl;obtain⟨gs,c,g1,g2,B⟩:=uh (cl:=aq T 28) (r:=r) (row:=row) (.lst (LI ns)) k n I nm far ((at0:Int)-1) t
 have G:∀ g∈gs,IsT g/\∃ b:Bool,(fun U=>((ev (aq T 28) U (.isN true (.call 18 (.cons 2#0 (.cons 3#0 (.cons 11#0 .nil)))))).bind truth).bind fun k=>if k then(ev (aq T 28) U 11#0).map some else some none) ((sT (.lst (LI ns)) k n r row ((at0:Int)-1) gs c I nm far).set 11 (some g))=some (if b then some g else none):=fun g m=>by
  refine#[g1 g m,?_];obtain⟨w,a,bs,hb,rfl⟩:=g1 g m
  rcases K32.gK (cl:=aq T 27) (r:=r) t hn w a bs hb with q | ⟨r',row',_,q⟩
  ·have q:aq T 28 18 [.int (n:Nat),prF r row,trD w a bs]=some .non:=(aE (fn:=bf) rfl).trans q;refine#[false,?_];show((ev (aq T 28) _ _).bind truth).bind _=_;rw[aI (dX (n:=true) (k:=false) rfl (cw (aa rfl) (aa rfl) (aa rfl) q))];rfl
  ·have q:aq T 28 18 [.int (n:Nat),prF r row,trD w a bs]=some (prF r' row'):=(aE (fn:=bf) rfl).trans q;refine#[true,?_];show((ev (aq T 28) _ _).bind truth).bind _=_;rw[aI (dX (n:=true) (k:=true) rfl (cw (aa rfl) (aa rfl) (aa rfl) q))];rfl
 obtain⟨O,A,s,H⟩:=om (F:=fun U=>((ev (aq T 28) U (.isN true (.call 18 (.cons 2#0 (.cons 3#0 (.cons 11#0 .nil)))))).bind truth).bind fun k=>if k then(ev (aq T 28) U 11#0).map some else some none) (J:=sT (.lst (LI ns)) k n r row ((at0:Int)-1) gs c I nm far) (i:=11) (gs:=gs) G
 have st:∀ {d j},aw (aq T 28) [] (.cons (.ife (.and (.cmp .lt 7#0 9#1) (.cmp .ne 5#0 (.lst .nil))) (.cons (.ret (.ix 5#0 (.bin .mod 9#0 (.bi .len 5#0)))) .nil) .nil) (.cons (.ife (.cmp .eq 7#0 9#1) (.cons (.ret (.tup (.cons (.cst (.str "grow")) (.cons 4#0 (.cons (.ix (.lst (.cons (.bin .sub 8#0 1#1) (.cons 9#0 (.cons (.bin .sub 0#1 9#0) .nil)))) (.bin .mod 9#0 3#1)) .nil))))) .nil) .nil) (.cons (.ife (.cmp .eq 7#0 10#1) (.cons (.asg 10 (.lst (.cons (.tup (.cons (.cst (.str "grow")) (.cons 4#0 .nil))) (.cons (.tup (.cons (.cst (.str "swap")) (.cons 4#0 (.cons 0#1 .nil)))) (.cons (.tup (.cons (.cst (.str "")) (.cons 4#0 .nil))) (.cons (.tup (.cons (.cst (.str "Swap")) (.cons 4#0 .nil))) (.cons (.tup (.cons (.cst (.str "drop")) (.cons 9#0 .nil))) (.cons (.tup (.cons (.cst (.str "cut")) (.cons (.bin .sub 0#1 9#0) .nil))) .nil)))))))) (.cons (.ret (.ix (.bin .add 10#0 (.lst (.cons (.tup (.cons (.cst (.str "drop")) (.cons 4#0 (.cons 0#1 .nil)))) (.cons (.tup (.cons (.cst (.str "double")) (.cons 4#0 (.cons 0#1 .nil)))) (.cons (.tup (.cons (.cst (.str "cut")) (.cons 4#0 (.cons 0#1 .nil)))) .nil))))) (.bin .mod 9#0 9#1))) .nil)) .nil) (.cons (.ret (.tup (.cons (.ix (.lst (.cons (.cst (.str "swap")) (.cons (.cst (.str "drop")) (.cons (.cst (.str "cut")) (.cons (.cst (.str "double")) .nil))))) (.bin .mod 9#0 4#1)) (.cons 4#0 .nil)))) .nil)))) (sT (.lst (LI ns)) k n r row ((at0:Int)-1) O c I nm far)=some (.rt d,j)->aq T 29 19 [.lst (LI ns),.int (k:Nat),.int (n:Nat),prF r row]=some d:=fun {d j} z =>
  (aE (fn:=gy 18 16) rfl).trans (aR rfl rfl (fE (cw (aa rfl) (aa rfl) (aU (ah ae (ah (ao (aX (tD rfl) (jD row)) ae C) (ah ae (ah (ao ae ae y) ay))))) E) rfl rfl rfl
   (aZ (ao (aa rfl) ae (d:=.int ((at0:Int)-1)) rfl) rfl (aZ (aU ay) rfl (iq (kA (aX (tD rfl) (jD row)) (xg (by omega))) B
   (aZ (Bb (rK (aa rfl) rfl) (by show gs.length<=most;unfold most;omega) A) (by simp[bz,aS,fX s,aH]) z))))))
 have rest:∀ (u:¬ I<9\/O=[]),∃ g,IsT g/\aq T 29 19 [.lst (LI ns),.int (k:Nat),.int (n:Nat),prF r row]=some g:=fun u=>by
  have Y:(ev (aq T 28) (sT (.lst (LI ns)) k n r row ((at0:Int)-1) O c I nm far) (.and (.cmp .lt 7#0 9#1) (.cmp .ne 5#0 (.lst .nil)))).bind truth=some false:=by
   by_cases l:I<9
   ·have e:O=[]:=u.resolve_left (by omega);subst e;exact aI (aV (aB (aa rfl) ae (by show some (decide _)=_;rw[Jj (by omega)])) (aB (aa rfl) (aU ay) (ri _)))
   ·exact aI (bL (aB (aa rfl) ae (by show some (decide _)=_;rw[Jh (by omega)])))
  by_cases x:I=9
  ·subst x;obtain⟨v,Z⟩:=three ((nm:Int)-1) far (0-far) (far%3) (by omega);exact#[_,t3 "grow" ((at0:Int)-1) v,st (ak Y (aL (aI (aB (aa rfl) ae rfl)) (aC (aN (ah ae (ah (aa rfl) (ah (aK (aU (ah (ao (aa rfl) ae rfl) (ah (aa rfl) (ah (ao ae (aa rfl) rfl) ay)))) (ao (aa rfl) ae (md (b:=3) (by omega) far)) Z) ay)))) (rIs (t3 _ _ _)))))]
  ·have no2:(ev (aq T 28) (sT (.lst (LI ns)) k n r row ((at0:Int)-1) O c I nm far) (.cmp .eq 7#0 9#1)).bind truth=some false:=aI (aB (aa rfl) ae (by show some (_ == _)=_;rw[beq_eq_false_iff_ne.mpr (by omega)]));by_cases o:I=10
   ·subst o;obtain⟨g,m,Z⟩:=nine ((at0:Int)-1) far (far%9) (by omega)
    exact⟨g,m,st (ak Y (ak no2 (aL (aI (aB (aa rfl) ae rfl)) (aZ (aU (ah (aN (ah ae (ah (aa rfl) ay))) (ah (aN (ah ae (ah (aa rfl) (ah ae ay)))) (ah (aN (ah ae (ah (aa rfl) ay))) (ah (aN (ah ae (ah (aa rfl) ay))) (ah (aN (ah ae (ah (aa rfl) ay))) (ah (aN (ah ae (ah (ao ae (aa rfl) rfl) ay))) ay))))))) rfl
     (aC (aK (ao (aa rfl) (aU (ah (aN (ah ae (ah (aa rfl) (ah ae ay)))) (ah (aN (ah ae (ah (aa rfl) (ah ae ay)))) (ah (aN (ah ae (ah (aa rfl) (ah ae ay)))) ay)))) rfl) (ao (aa rfl) ae (md (b:=9) (by omega) far)) Z) (rIs m))))))⟩
   ·have p:(ev (aq T 28) (sT (.lst (LI ns)) k n r row ((at0:Int)-1) O c I nm far) (.cmp .eq 7#0 10#1)).bind truth=some false:=aI (aB (aa rfl) ae (by show some (_ == _)=_;rw[beq_eq_false_iff_ne.mpr (by omega)]));obtain⟨w,Z⟩:=four (far%4) (by omega);exact#[_,t2 w ((at0:Int)-1),st (ak Y (ak no2 (ak p (aC (aN (ah (aK (aU (ah ae (ah ae (ah ae (ah ae ay))))) (ao (aa rfl) ae (md (b:=4) (by omega) far)) Z) (ah (aa rfl) ay))) (rIs (t2 _ _))))))]
 by_cases l:I<9
 ·cases O with
  | nil=>exact rest (.inr rfl)
  |cons f O=>
   have hi:far%(f::O).length<(f::O).length:=Nat.mod_lt _ (by simp)
   have Z:bQ (f::O) ((far%(f::O).length:Nat):Int)=some ((f::O)[far%(f::O).length]):=by
    unfold bQ;rw[if_pos (Int.natCast_nonneg _),toNat_natCast];exact List.getElem?_eq_getElem hi
   have it:=s _ (List.getElem_mem hi);exact#[_,it,st (aL (aI (aV (aB (aa rfl) ae (by show some (decide _)=_;rw[Jj (by omega)])) (aB (aa rfl) (aU ay) (ri _)))) (aC (aK (aa rfl) (ao (aa rfl) (aX (aa rfl) rfl) (md (by simp) far)) Z) (rIs it)))]
 ·exact rest (.inl l)
end
section
variable{cl:Cl}{M:List Nat}{J Qd:St}{f:St->Option (Out × St)}{fx:St->Option (PySem.Str × St)}{tg:List Nat}
def yU(h:ev cl J e=some x)(h':ev cl J e'=some y)(ok:(y.imm&&(aS x&&aH e))=true)(k:aw cl M r ((J.set i (some x)).set j (some y))=res):aw cl M (.cons (.parR i j e e') r) J=res :=
 d9 (by
  show(ev cl J e).bind _=_;rw[h,Option.bind_some,h',Option.bind_some]
  exact if_pos ok) k
def Ab(h:ev cl J e=some x)(h':ev cl J e'=some y)(ok:(x.imm&&(aS y&&aH e'))=true)(k:aw cl M r (J.set i (some (.tup [x,y])))=res):aw cl M (.cons (.asgT i e e') r) J=res :=
 d9 (by
  show(ev cl J e).bind _=_;rw[h,Option.bind_some,h',Option.bind_some]
  exact if_pos ok) k
def zu(c:evs cl J es=some ds)(O:dR ds=true)(e:cl fi ds=some d)(U:d.imm=true)(Y:(ev cl (J.set i (some d)) t).bind truth=some false)(Z:(ev cl (J.set i (some d)) (lZ i)).bind truth=some b)(I:b=true->told d=true)
 (k:aw cl M r (J.set i (some (if b then .obj else d)))=res):aw cl M (.tell i fi es t a r) J=res:=by
 show(evs cl J es).bind _=_;rw[c,Option.bind_some,if_pos O,e,Option.bind_some,if_pos U,Y,Option.bind_some,if_neg ∅,Z,Option.bind_some]
 cases b with
 | true=>rw[if_pos rfl,if_pos (I rfl)];exact k
 | false=>exact k
def Ar(I:d.imm=true)(hb:bP tg d J=some Qd)(h:f Qd=some (.nx,Qe))(k:di f fx tg r Qe=res):di f fx tg (d::r) J=res:=by
 rw[di,if_pos I,hb,Option.bind_some,h];exact k
def Aq(I:d.imm=true)(hb:bP tg d J=some Qd)(h:f Qd=none)(k:fx Qd=res):di f fx tg (d::r) J=res:=by
 rw[di,if_pos I,hb,Option.bind_some,h];exact k
def zZ(I:d.imm=true)(hb:bP tg d J=some Qd)(h:f Qd=none):bN f tg (d::r) J=none:=by
 rw[bN,if_pos I,hb,Option.bind_some,h];rfl
end
inductive Ch (n:Nat):Nat->List Nat->List D->Nat->List Nat->Prop
 | nil {r:Nat} {row:List Nat}:Ch n r row [] r row
 | cons {r r1 r':Nat} {row row1 row':List Nat} {w:PySem.Str} {a:Int} {bs:List Int} {ts:List D}:Stp n r row w a bs r1 row1->Ch n r1 row1 ts r' row'->Ch n r row (trD w a bs::ts) r' row'
section
variable{n r r' r1:Nat}{row row' row1:List Nat}{ts:List D}{w:PySem.Str}{a:Int}{bs:List Int}
def Ch.snoc(h:Ch n r row ts r1 row1)(S:Stp n r1 row1 w a bs r' row'):Ch n r row (ts++[trD w a bs]) r' row':=by
 induction h with
 | nil=>exact .cons S .nil
 | cons s _ I=>exact .cons s (I S)
def lT(S:Stp n r row w a bs r' row'):row'.length<=row.length+2:=by
 cases S<;>simp<;>omega
def jl(k:Nat):(D.tup [.int (k:Nat),trD w a bs]).imm=true:=by
 show aF [D.int k,trD w a bs]=true;simp[aF,D.imm,gb]
def yL{s1 s2 s3:Option D}(h:Ch n r row ts r' row'):row.length+2*ts.length<=5000->∀ (k:Nat) (Y U:Option D),∃ O I,bN (aw (aq T 27) [] (eF 11 4)) [5,6] (dZ (k:Nat) ts) [some (.int (n:Nat)),s1,s2,s3,some (prF r row),Y,U]=some (.nx,[some (.int (n:Nat)),s1,s2,s3,some (prF r' row'),O,I]):=by
 induction h with
 | nil=>exact fun _ _ _ _=>#[_,_,CD]
 |cons S _ Z=>
  intro a k Y U;rw[length_cons]at a;have b:=lT S;obtain⟨O,I,e⟩:=Z (by omega) (k+1) _ _;exact#[O,I,rm (jl k) rfl (aZ (cw (aa rfl) (aa rfl) (aa rfl) (mj S (by omega))) (by unfold bz;rw[c5];rfl) (ak (aI (dX (n:=false) (k:=false) rfl (aa rfl))) bH)) e]
def zI{s1 s2 s3:Option D}{rest:List D}(h:Ch n r row ts r' row')(B:Bad n r' row' w a bs):row.length+2*ts.length<=5000->∀ (k:Nat) (U O:Option D),k+ts.length<=100 ->
  bN (aw (aq T 27) [] (eF 11 4)) [5,6] (dZ (k:Nat) (ts++trD w a bs::rest)) [some (.int (n:Nat)),s1,s2,s3,some (prF r row),U,O]=none /\
  ∃ I,di (aw (aq T 27) [] (eF 11 4)) (bM (aq T 27) [] (eF 11 4)) [5,6] (dZ (k:Nat) (ts++trD w a bs::rest)) [some (.int (n:Nat)),s1,s2,s3,some (prF r row),U,O]=some (mkR "BadTrade" (k+ts.length),I):=by
 induction h with
 |@nil r row=>
  intro Y k U O hk
  have body:Rr (aq T 27) [] (eF 11 4) [some (.int (n:Nat)),s1,s2,s3,some (prF r row),some (.int (k:Nat)),some (trD w a bs)] (mkR "BadTrade" k) [some (.int (n:Nat)),s1,s2,s3,some .non,some (.int (k:Nat)),some (trD w a bs)] :=
   tM (cw (aa rfl) (aa rfl) (aa rfl) (vM 23 B)) rfl (Dr (aI (dX (n:=false) (k:=true) rfl (aa rfl))) (vL (aa rfl) (by simpa using hk)))
  exact#[zZ (jl k) rfl body.1,_,Aq (jl k) rfl body.1 body.2]
 |cons S _ Z=>
  intro Y k U O hk;rw[length_cons]at Y hk;have d:=lT S;obtain⟨c,I,b⟩:=Z B (by omega) (k+1) _ _ (by omega);have st:=aZ (i:=4) (M:=[]) (cw (cl:=aq T 27) (f:=11) (e:=.var 0) (e':=.var 4) (e'':=.var 6) (J:=[some (.int (n:Nat)),s1,s2,s3,some (prF _ _),some (.int (k:Nat)),some (trD _ _ _)]) (aa rfl) (aa rfl) (aa rfl) (mj S (by omega))) (by unfold bz;rw[c5];rfl) (ak (t:=.isN false 4#0) (a:=.cons (.raiI "BadTrade" 5#0) .nil) (aI (dX (n:=false) (k:=false) rfl (aa rfl))) bH);refine#[rm (jl k) rfl st c,I,?_];rw[length_cons,Nat.add_comm _ 1,<-Nat.add_assoc];exact Ar (jl k) rfl st b
def Ep(m:Nat)(O:1<=n)(I:n<=10):aq T (m+3) 2 [.int (n:Nat)]=some .non:=(aE (fn:=eY 1) rfl).trans (lG ((aE (fn:=dI 0) rfl).trans ((kh (num m) n).trans (by rw[Jj (by omega)]))))
abbrev RwD(rw:D)(row:List Nat):Prop:=rw=.lst (L row)\/rw=.fL (L row)
def rows(m:Nat){rw:D}(w:RwD rw row)(Y:1<=n)(U:n<=10)(O:∀ i∈row,i+1<n):aq T (m+4) 4 [.int (n:Nat),rw]=some .non:=by
 obtain⟨I,e,o',rfl⟩:=fG (f:=aw (aq T (m+3)) [] (jr 3 2)) (tg:=[2]) (xs:=row) (J:=[some (.int (n:Nat)),some rw,none]) (fun _ J=>∃ o,J=[some (.int (n:Nat)),some rw,o]) ⟨none,rfl⟩ (by
  rintro p x q J rfl ⟨o,rfl⟩
  exact#[_,ak (aI (aW (hU (aa rfl) (aa rfl) (hook (m+1) (O x (by simp)))))) bH,_,rfl])
 have it:i6 rw=some (L row):=by rcases w with rfl | rfl<;>rfl
 exact(aE (fn:=jS 3 2) rfl).trans (AU rfl rfl (tX (sv (aa rfl) (Ep m Y U)) (iq (vq (aa rfl) it) e bH)))
def uA{rw:D}(w:RwD rw row):biV .list rw=some (.lst (L row)):=by rcases w with rfl | rfl<;>rfl
def yq{e:E}:bz [] e (.tup [.int (r:Nat),.fL (L row)])=true:=by unfold bz;rw[show(D.tup [D.int (r:Nat),.fL (L row)]).imm=true from c5 r row];rfl
def mI{rw:D}(w:RwD rw row)(Z:1<=n)(Y:n<=10)(U:∀ i∈row,i+1<n)(C:Ch n r row ts r' row')(O:row.length+2*ts.length<=5000):aq T 28 5 [.int (n:Nat),.int (r:Nat),rw,.lst ts]=some (prF r' row'):=by
 obtain⟨_,_,I⟩:=yL (s1:=some (.int (r:Nat))) (s2:=some rw) (s3:=some (.lst ts)) C O 0 none none;exact(aE (fn:=jW 11 4) rfl).trans (aR rfl rfl (tX (hU (aa rfl) (aa rfl) (rows 23 w Z Y U)) (aZ (aN (ah (aa rfl) (ah (bR (aX (aa rfl) (uA w)) rfl (bh _)) ay))) yq (iq (yu (aa rfl) rfl) I (aC (aa rfl) (by unfold cR;rw[c5];rfl))))))
def mr{rw:D}{u:PySem.Str}{rest:List D}(w:RwD rw row)(Z:1<=n)(Y:n<=10)(U:∀ i∈row,i+1<n)(C:Ch n r row ts r' row')(B:Bad n r' row' u a bs)(O:row.length+2*ts.length<=5000)(hk:ts.length<=100):Rc (aq T 28) 5 [.int (n:Nat),.int (r:Nat),rw,.lst (ts++trD u a bs::rest)] (mkR "BadTrade" ts.length):=by
 obtain⟨k1,I,k2⟩:=zI (s1:=some (.int (r:Nat))) (s2:=some rw) (s3:=some (.lst (ts++trD u a bs::rest))) (rest:=rest) C B O 0 none none (by omega);rw[Nat.zero_add]at k2;exact DA (fn:=jW 11 4) rfl ∅ rfl rfl (E7 (hU (aa rfl) (aa rfl) (rows 23 w Z Y U)) (tM (aN (ah (aa rfl) (ah (bR (aX (aa rfl) (uA w)) rfl (bh _)) ay))) yq (D8 (yu (aa rfl) rfl) k1 k2)))
abbrev btK(k:Nat):D:=.tup [.str "BadTrade",.int (k:Nat)]
def BN(m:Nat){k:Nat}(hk:k<17):aq T (m+1) 13 [.exc (mkR "BadTrade" k)]=some (.str "BadTrade"):=(aE (fn:=mq) rfl).trans (by
 match k,hk with
 | 0,_ | 1,_ | 2,_ | 3,_ | 4,_ | 5,_ | 6,_ | 7,_ | 8,_ | 9,_ | 10,_ | 11,_ | 12,_ | 13,_ | 14,_ | 15,_ | 16,_=>rfl
 | k+17,h=>exact absurd h (by omega))
def qP{rw d:D}(h:aq T 28 5 [.int (n:Nat),.int (r:Nat),rw,.lst ts]=some d)(I:d.imm=true):aq T 29 21 [.int (n:Nat),.tup [.int (r:Nat),rw],.lst ts]=some d :=
 (aE (fn:=iS 5 13) rfl).trans (aR rfl rfl (aZ ae rfl (AW (aZ (x_call (ah (aa rfl) (ah (aK (aa rfl) ae rfl) (ah (aK (aa rfl) ae rfl) (ah (aa rfl) ay)))) h) (by unfold bz;rw[I];rfl) bH) (aC (aa rfl) (by unfold cR;rw[I];rfl)))))
def rf{rw:D}{k:Nat}(h:Rc (aq T 28) 5 [.int (n:Nat),.int (r:Nat),rw,.lst ts] (mkR "BadTrade" k))(hk:k<17):aq T 29 21 [.int (n:Nat),.tup [.int (r:Nat),rw],.lst ts]=some (btK k) :=
 (aE (fn:=iS 5 13) rfl).trans (aR rfl rfl (aZ ae rfl (yM (DF (CT (ah (aa rfl) (ah (aK (aa rfl) ae rfl) (ah (aK (aa rfl) ae rfl) (ah (aa rfl) ay)))) h)) (by unfold fU;rw[rH];rfl) (aZ (aN (ah (sv (aa rfl) (BN 27 hk)) (ah (yA (aa rfl) (d:=.int (k:Nat)) (by show(dN _).bind _=_;rw[pA];rfl)) ay))) rfl bH) (aC (aa rfl) rfl))))
def pP(m:Nat)(a:Int):aq T (m+1) 20 [.int a,.int a]=some (.bl true):=(aE (fn:=bJ 20) rfl).trans (same_int a)
def yD(m:Nat)(O:row.length<=5000):aq T (m+3) 20 [prF r row,prF r row]=some (.bl true):=by
 refine(aE (fn:=bJ 20) rfl).trans (jV (.inl rfl) (show 2<=1000 by omega) fun x I=>?_);simp only[mem_cons,not_mem_nil,or_false]at I;rcases I with rfl | rfl
 ·exact pP (m+1) _
 ·refine(aE (fn:=bJ 20) rfl).trans (qv (by rw[eU];exact O) fun x I=>?_);obtain⟨a,_,rfl⟩:=List.mem_map.mp I;exact pP m _
def yv(m k:Nat):aq T (m+2) 20 [btK k,btK k]=some (.bl true):=by
 refine(aE (fn:=bJ 20) rfl).trans (jV (.inl rfl) (show 2<=1000 by omega) fun x I=>?_);simp only[mem_cons,not_mem_nil,or_false]at I;rcases I with rfl | rfl
 ·exact(aE (fn:=bJ 20) rfl).trans (same_str _)
 ·exact pP m _
def kr(k:Nat):∀ {xs:List D},(∀ x∈xs,eqD k x x=some true)->eqs (eqD k) xs xs=some true
 | [],_=>rfl
 | x::xs,h=>by
  show((eqD k x x).bind fun e=>(eqs (eqD k) xs xs).map fun k=>e&&k)=_;rw[h x (by simp),kr k fun y I=>h y (by simp[I])];rfl
def BL(k:Nat){g:D}(h:IsT g):eqD (k+1) g g=some true:=by
 obtain⟨w,a,bs,_,rfl⟩:=h;show((eqs (eqD k) _ _).map _)=_;rw[kr k fun x I=>?_]
 ·simp
 simp only[mem_cons,List.mem_map]at I
 rcases I with rfl | rfl | ⟨b,_,rfl⟩
 ·rw[eqD,beq_self_eq_true]
 ·rw[eqD,beq_self_eq_true]
 ·rw[eqD,beq_self_eq_true]
def An{I:List Nat}(h:∀ g∈ts,IsT g):bo .ne (.lst [.lst (L I),.lst ts]) (.lst [.fL (L I),.fL ts])=some false:=by
 show((((eqs (eqD 6) (L I) (L I)).map fun k=>k&&(L I).length == (L I).length).bind fun e=>((((eqs (eqD 6) ts ts).map fun k=>k&&ts.length == ts.length).bind fun e=>(some true).map fun k=>e&&k)).map fun k=>e&&k).map fun k=>k&&true).map not=_;rw[xT 6,kr 6 fun x O=>BL 5 (h x O)];simp
def qT:∀ {ts:List D},(∀ g∈ts,IsT g)->dR ts=true
 | [],_=>rfl
 | g::r,h=>by
  obtain⟨w,a,bs,_,rfl⟩:=h g (by simp)
  have:∀ bs:List Int,dR (bs.map D.int)=true:=fun bs=>by
   induction bs with
   | nil=>rfl
   | cons b r I=>exact I
  show(dR (bs.map D.int)&&dR r)=true;rw[this,qT fun g O=>h g (by simp[O])];rfl
def ya:∀ xs:List Nat,dR (L xs)=true
 | []=>rfl
 | x::xs=>ya xs
abbrev Tl:Ss:=(.cons (.asg 6 (.lst %[.frz (.bi .list (.ix 4#0 1#1)),.frz (.bi .list 13#0)|_])) (.tell 7 21 %[2#0,4#0,13#0|_] (.not (.call 20 %[7#0,14#0|_])) %[.ret (.cst (.bl false))|_] %[.asg 8 (.lst %[.call 21 %[1#1,.tup %[9#0,.frz (.lst .nil)|_],.lst .nil|_],.call 21 %[1#1,.tup %[9#0,.frz (.lst .nil)|_],.lst %[.tup %[.cst (.str "double"),0#1|_]|_]|_]|_]),.ife (.not (.call 20 %[8#0,.lst %[.tup %[9#0,.frz (.lst .nil)|_],.tup %[.cst (.str "BadTrade"),0#1|_]|_]|_])) %[.ret (.cst (.bl false))|_] .nil,.ife (.cmp .ne (.lst %[.ix 4#0 1#1,13#0|_]) 6#0) %[.ret (.cst (.bl false))|_] .nil|_]))
abbrev sg(ns:List Int)(k n:Nat)(p h:D)(c a Z Y:Option D)(r z s b:Nat)(ts:List D)(U:D)(O I:Option D):St:=[some (.lst (LI ns)),some (.int (k:Nat)),some (.int (n:Nat)),some p,some h,c,a,Z,Y,some (.int (r:Nat)),some (.int (z:Nat)),some (.int (s:Nat)),some (.int (b:Nat)),some (.lst ts),some U,O,I]
def rA{ns:List Int}{k z s b:Nat}{p I Y U:D}{O:List Nat}{o5 o6 o7 o8 o15 o16:Option D}{l:Bool}(it:∀ g∈ts,IsT g)(y:aq T 29 21 [.int (n:Nat),.tup [.int (r:Nat),.lst (L O)],.lst ts]=some (.tup [Y,U]))(t:(D.tup [Y,U]).imm=true)(w:aq T 29 20 [.tup [Y,U],I]=some (.bl true))
 (v:eX .list U=some l)(m:l=true->told (.tup [Y,U])=true):∃ i f e,aw (aq T 29) [13] Tl (sg ns k n p (.tup [.int (r:Nat),.lst (L O)]) o5 o6 o7 o8 r z s b ts I o15 o16)=some (.nx,sg ns k n p (.tup [.int (r:Nat),.lst (L O)]) o5 i f e r z s b ts I o15 o16):=by
 have c:aq T 29 21 [.int 1,.tup [.int (r:Nat),.fL []],.lst []]=some (.tup [.int (r:Nat),.fL []]):=qP (n:=1) (mI (n:=1) (row:=[]) (.inr rfl) (by omega) (by omega) (fun _ h=>nomatch h) .nil ∅) rfl;have Z:aq T 29 21 [.int 1,.tup [.int (r:Nat),.fL []],.lst [.tup [.str "double",.int 0]]]=some (btK 0):=rf (n:=1) (mr (n:=1) (row:=[]) (ts:=[]) (u := "double") (a:=0) (bs:=[]) (rest:=[]) (.inr rfl) (by omega) (by omega) (fun _ h=>nomatch h) .nil (.out (by simp) (by simp)) ∅ ∅) ∅
 have o:aq T 29 20 [.lst [.tup [.int (r:Nat),.fL []],btK 0],.lst [.tup [.int (r:Nat),.fL []],btK 0]]=some (.bl true):=(aE (fn:=bJ 20) rfl).trans (jV (.inr rfl) (show 2<=1000 by omega) fun x j=>by
  simp only[mem_cons,not_mem_nil,or_false]at j;rcases j with rfl | rfl
  ·exact yD (row:=[]) 25 (by simp)
  ·exact yv 26 0)
 have q:dR [.int (n:Nat),.tup [.int (r:Nat),.lst (L O)],.lst ts]=true:=by
  show((dR (L O)&&true)&&(dR ts&&true))=true;rw[ya,qT it];rfl
 have d:(aS (.lst [.fL (L O),.fL ts]))=true:=by simp[aS,aF,D.imm,bh,fX it]
 exact⟨_,_,_,aZ (aU (ah (bR (aX (aK (aa rfl) ae rfl) rfl) rfl (bh _)) (ah (bR (aX (aa rfl) rfl) rfl (fX it)) ay))) (by unfold bz;rw[d];simp[aH])
  (zu (ah (aa rfl) (ah (aa rfl) (ah (aa rfl) ay))) q y t (aI (aW (hU (aa rfl) (aa rfl) w))) (aI (cJ (aK (aa rfl) ae rfl) v)) m
   (aZ (aU (ah (cw ae (aN (ah (aa rfl) (ah (bR (aU ay) rfl rfl) ay))) (aU ay) c) (ah (cw ae (aN (ah (aa rfl) (ah (bR (aU ay) rfl rfl) ay))) (aU (ah (aN (ah ae (ah ae ay))) ay)) Z) ay))) rfl
    (ak (aI (aW (hU (aa rfl) (aU (ah (aN (ah (aa rfl) (ah (bR (aU ay) rfl rfl) ay))) (ah (aN (ah ae (ah ae ay))) ay))) o)))
     (ak (aI (aB (aU (ah (aK (aa rfl) ae rfl) (ah (aa rfl) ay))) (aa rfl) (An it))) bH))))⟩
def zC{ns:List Int}(m:ns.length<=63){k x z s b r0:Nat}{h due:D}{o6 o7 o8 o15 o16:Option D}(hk:k<2)(t:x<16)(hn:1<=n)(p:row.length<=4000)(u:ts.length<=100) :
  ∃ w a bs I,bs.length<=1/\((x=b/\∃ v c e,e.length<=1/\Bad n r row v c e/\aw (aq T 29) [13] (ju 20 21 18 19 17 16) (sg ns k n (prF r row) h (some (.int (x:Nat))) o6 o7 o8 r0 z s b ts due o15 o16)=some (.nx,sg ns k n (prF r row) h (some (.int (x:Nat))) o6 o7 o8 r0 z s b (ts++[trD v c e]) (btK ts.length) (some (trD w a bs)) I)) \/
   (x≠b/\aw (aq T 29) [13] (ju 20 21 18 19 17 16) (sg ns k n (prF r row) h (some (.int (x:Nat))) o6 o7 o8 r0 z s b ts due o15 o16)=some (.nx,sg ns k n (prF r row) h (some (.int (x:Nat))) o6 o7 o8 r0 z s b ts due (some (trD w a bs)) I)) \/
   (x≠b/\∃ r' row',Stp n r row w a bs r' row'/\aw (aq T 29) [13] (ju 20 21 18 19 17 16) (sg ns k n (prF r row) h (some (.int (x:Nat))) o6 o7 o8 r0 z s b ts due o15 o16)=some (.nx,sg ns k n (prF r' row') h (some (.int (x:Nat))) o6 o7 o8 r0 z s b (ts++[trD w a bs]) due (some (trD w a bs)) I))):=by
 obtain⟨w,a,bs,hb,g⟩:=wX (r:=r) (row:=row) (n:=n) m (by omega) hn (5+20*k+x) (by omega)
 have f:aT .mul (.int 20) (.int (k:Nat))=some (.int ((20*k:Nat):Int)):=by
  dsimp only[aT];rw[if_pos (by omega)];rfl
 have o:aT .add (.int 5) (.int ((20*k:Nat):Int))=some (.int ((5+20*k:Nat):Int)):=rfl;have ex:aT .add (.int ((5+20*k:Nat):Int)) (.int (x:Nat))=some (.int ((5+20*k+x:Nat):Int)):=rfl
 have pre:∀ {y:D} {d:Ss} {U},y.imm=true->aq T 29 18 [.int (n:Nat),prF r row,trD w a bs]=some y->aw (aq T 29) [13] d (sg ns k n (prF r row) h (some (.int (x:Nat))) o6 o7 o8 r0 z s b ts due (some (trD w a bs)) (some y))=U ->
   aw (aq T 29) [13] (.cons (.asg 15 (.call 19 (.cons 0#0 (.cons (.bin .add (.bin .add 5#1 (.bin .mul 20#1 1#0)) 5#0) (.cons 2#0 (.cons 3#0 .nil)))))) (.cons (.asg 16 (.call 18 (.cons 2#0 (.cons 3#0 (.cons 15#0 .nil))))) d)) (sg ns k n (prF r row) h (some (.int (x:Nat))) o6 o7 o8 r0 z s b ts due o15 o16)=U:=fun {y d U} j l i =>
  aZ (x_call (ah (aa rfl) (ah (ao (ao ae (ao ae (aa rfl) f) o) (aa rfl) ex) (ah (aa rfl) (ah (aa rfl) ay)))) g) (by unfold bz;rw[gb];rfl) (aZ (cw (aa rfl) (aa rfl) (aa rfl) l) (by unfold bz;rw[j];rfl) i)
 have lt:ts.length<most:=by unfold most;omega
 have bk:∀ {e:E},bz [13] e (.tup [.str "BadTrade",.int (ts.length:Nat)])=true:=rfl;have Y:∀ {J:St},(J[3]?).bind id=some (prF r row)->ev (aq T 29) J (.bi .len (.ix 3#0 1#1))=some (.int (row.length:Nat)):=fun q=>aX (aK (aa q) ae rfl) (jD row);by_cases O:x=b
 ·have Z:bo .eq (.int (x:Nat)) (.int (b:Nat))=some true:=by show some (_ == _)=_;rw[O,beq_self_eq_true]
  rcases K30.gK (cl:=aq T 28) (r:=r) (n:=n) (row:=row) (by omega) hn w a bs hb with⟨B,q⟩ | ⟨r',row',S,q⟩
  ·have q:aq T 29 18 [.int (n:Nat),prF r row,trD w a bs]=some .non:=(aE (fn:=bf) rfl).trans q;exact#[w,a,bs,_,hb,.inl #[O,w,a,bs,hb,B,pre rfl q (jx (aI (aB (aa rfl) (aa rfl) Z)) (aZ (aN (ah ae (ah (aX (aa rfl) rfl) ay))) bk (oN (aK (aU (ah (aa rfl) (ah (aN (ah ae (ah (Y rfl) ay))) ay))) (aX (dX (n:=true) (k:=false) rfl (aa rfl)) rfl) rfl) rfl (gb _ _ _) lt bH)) bH)]]
  ·have q:aq T 29 18 [.int (n:Nat),prF r row,trD w a bs]=some (prF r' row'):=(aE (fn:=bf) rfl).trans q;exact#[w,a,bs,_,hb,.inl #[O, "swap",(row.length:Nat),[],by simp,.out (by omega) (by simp),pre (c5 _ _) q (jx (aI (aB (aa rfl) (aa rfl) Z)) (aZ (aN (ah ae (ah (aX (aa rfl) rfl) ay))) bk (oN (aK (aU (ah (aa rfl) (ah (aN (ah ae (ah (Y rfl) ay))) ay))) (aX (dX (n:=true) (k:=true) rfl (aa rfl)) rfl) rfl) rfl rfl lt bH)) bH)]]
 ·have Z:bo .eq (.int (x:Nat)) (.int (b:Nat))=some false:=by show some (_ == _)=_;rw[beq_eq_false_iff_ne.mpr (by omega)]
  rcases K30.gK (cl:=aq T 28) (r:=r) (n:=n) (row:=row) (by omega) hn w a bs hb with⟨B,q⟩ | ⟨r',row',S,q⟩
  ·have q:aq T 29 18 [.int (n:Nat),prF r row,trD w a bs]=some .non:=(aE (fn:=bf) rfl).trans q;exact#[w,a,bs,_,hb,.inr (.inl #[O,pre rfl q (oG (aI (aB (aa rfl) (aa rfl) Z)) (ak (aI (dX (n:=true) (k:=false) rfl (aa rfl))) bH) bH)])]
  ·have q:aq T 29 18 [.int (n:Nat),prF r row,trD w a bs]=some (prF r' row'):=(aE (fn:=bf) rfl).trans q;exact#[w,a,bs,_,hb,.inr (.inr #[O,r',row',S,pre (c5 _ _) q (oG (aI (aB (aa rfl) (aa rfl) Z)) (jx (aI (dX (n:=true) (k:=true) rfl (aa rfl))) (oN (aa rfl) rfl (gb _ _ _) lt (aZ (aa rfl) (by unfold bz;rw[c5];rfl) bH)) bH) bH)])]
abbrev Drawn(n Y:Nat)(Z:List Nat)(b m r:Nat)(row:List Nat)(ts:List D)(O:D):Prop:=(O=.non/\Ch n Y Z ts r row)\/(b<m/\∃ I w a bs U r1 row1,ts=I++trD w a bs::U/\Ch n Y Z I r1 row1/\Bad n r1 row1 w a bs/\O=btK I.length)
def D7{ds:List Nat}{a b c d e:Nat}(h:iW ds [a,b,c,d,e]):∃ x y z u v,ds=[x,y,z,u,v]/\x<a/\y<b/\z<c/\u<d/\v<e:=by
 obtain⟨O,I⟩:=h
 match ds,O with
 | [x,y,z,u,v],_=>exact#[x,y,z,u,v,rfl,I 0 x a rfl rfl,I 1 y b rfl rfl,I 2 z c rfl rfl,I 3 u d rfl rfl,I 4 v e rfl rfl]
def v8{p q:List Nat}{x m:Nat}(h:List.range m=p++x::q):x=p.length/\x<m:=by
 have e:(List.range m)[p.length]?=some x:=by rw[h];simp
 obtain⟨O,I⟩:=List.getElem?_eq_some_iff.mp e;rw[List.getElem_range]at I;rw[length_range]at O;omega
def turn{ns:List Int}(V:ns.length<=63){k:Nat}(hk:k<2)(Q P N o5 o6 o7 o8 M m j i Z Y o15 o16:Option D):∃ o,(∃ Q P N o5 o6 o7 o8 M m j i Z Y o15 o16,o=[some (.lst (LI ns)),some (.int (k:Nat)),Q,P,N,o5,o6,o7,o8,M,m,j,i,Z,Y,o15,o16])/\aw (aq T 29) [13] (kP 20 21 18 19 17 16) [some (.lst (LI ns)),some (.int (k:Nat)),Q,P,N,o5,o6,o7,o8,M,m,j,i,Z,Y,o15,o16]=some (.nx,o):=by
 obtain⟨ds,hd,e1⟩:=dg.digits V 26 (k:=60+k) (sizes:=[9,6,13,16,32]) (by omega) (by simp) (by simp);obtain⟨p,r0,sz,st,G,rfl,hp,hr0,hsz,hst,hbd⟩:=D7 hd;have e60:aT .add (.int 60) (.int (k:Nat))=some (.int ((60+k:Nat):Int)):=rfl;have e0:aT .add (.int 2) (.int (p:Nat))=some (.int ((2+p:Nat):Int)):=rfl
 have n2:2<=2+p:=by omega
 have H:2+p<=10:=by omega
 generalize 2+p=n at *
 have e2k:aT .mul (.int 2) (.int (k:Nat))=some (.int ((2*k:Nat):Int)):=by
  dsimp only[aT];rw[if_pos (by omega)];rfl
 obtain⟨U,hh,R,F⟩:=um (cl:=aq T 28) (f:=16) (scr:=.lst (LI ns)) (k:=2*k) (n:=n) (size:=sz) n2 (by omega) (by omega) (fun k hk=>dg.digits V 25 (k:=k) (sizes:=replicate 12 97) hk (by simp) (by simp));have F:aq T 29 17 [.lst (LI ns),.int ((2*k:Nat):Int),.int (n:Nat),.int (sz:Nat)]=some (.lst (L U)):=(aE (fn:=fw 16) rfl).trans F;have pI:∀ row:List Nat,(D.tup [D.int (r0:Nat),.fL (L row)]).imm=true:=fun row=>c5 r0 row
 obtain⟨o,lp,r,row,ts,due,E,O,I,rfl,K,Qa,its,dr⟩:=fG (f:=aw (aq T 29) [13] (ju 20 21 18 19 17 16)) (tg:=[5]) (xs:=List.range st) (J:=sg ns k n (prF r0 U) (.tup [.int (r0:Nat),.lst (L U)]) o5 o6 o7 o8 r0 sz st G [] .non o15 o16)
  (fun p J=>∃ r row ts due o5 o15 o16,J=sg ns k n (prF r row) (.tup [.int (r0:Nat),.lst (L U)]) o5 o6 o7 o8 r0 sz st G ts due o15 o16/\row.length<=1200+2*p.length/\ts.length<=p.length/\(∀ g∈ts,IsT g)/\Drawn n r0 U G p.length r row ts due)
  ⟨r0,U,[],.non,_,_,_,rfl,by simpa using R,by simp,fun _ h=>(nomatch h),.inl #[rfl,.nil]⟩ (by
   rintro p x q J hx ⟨r,row,ts,due,o5,o15,o16,rfl,h1,h2,h3,h4⟩;obtain⟨hxp,hxs⟩:=v8 hx
   have hpl:(p++[x]).length=p.length+1:=by simp
   rw[hpl];obtain⟨w,a,bs,I,hb,c⟩:=zC (r:=r) (row:=row) (ts:=ts) (n:=n) (x:=x) (z:=sz) (s:=st) (b:=G) (r0:=r0) (h:=.tup [.int (r0:Nat),.lst (L U)]) (due:=due) (o6:=o6) (o7:=o7) (o8:=o8) (o15:=o15) (o16:=o16) V hk (by omega) (by omega) (by omega) (by omega)
   rcases c with⟨eb,v,c,e,he,B,q⟩ | ⟨nb,q⟩ | ⟨nb,r',row',S,q⟩
   ·rcases h4 with⟨rfl,C⟩ | ⟨lt,_⟩
    ·exact⟨_,q,r,row,_,_,_,_,_,rfl,by omega,by simp;omega,fun g X=>by
      rcases List.mem_append.mp X with z | z
      ·exact h3 g z
      ·rw[List.mem_singleton.mp z];exact#[_,_,_,he,rfl],.inr #[by omega,ts,v,c,e,[],r,row,rfl,C,B,rfl]⟩
    ·omega
   ·refine#[_,q,r,row,_,_,_,_,_,rfl,by omega,by omega,h3,?_]
    rcases h4 with h | ⟨lt,h⟩
    ·exact .inl h
    ·exact .inr #[by omega,h]
   ·have s2:=lT S
    refine⟨_,q,r',row',_,_,_,_,_,rfl,by omega,by simp;omega,fun g X=>by
      rcases List.mem_append.mp X with z | z
      ·exact h3 g z
      ·rw[List.mem_singleton.mp z];exact#[_,_,_,hb,rfl],?_⟩
    rcases h4 with⟨rfl,C⟩ | ⟨lt,y,v,c,e,u,r1,row1,rfl,C,B,d⟩
    ·exact .inl #[rfl,C.snoc S]
    ·exact .inr #[by omega,y,v,c,e,u++[trD w a bs],r1,row1,by simp,C,B,d])
 rw[length_range]at K Qa dr
 have pre:∀ {A},aw (aq T 29) [13] (.cons (.ife (.isN false 14#0) (.cons (.asg 14 3#0) .nil) .nil) Tl) (sg ns k n (prF r row) (.tup [.int (r0:Nat),.lst (L U)]) E o6 o7 o8 r0 sz st G ts due O I)=A->aw (aq T 29) [13] (kP 20 21 18 19 17 16) [some (.lst (LI ns)),some (.int (k:Nat)),Q,P,N,o5,o6,o7,o8,M,m,j,i,Z,Y,o15,o16]=A:=fun {A} kx =>
  fE (cw (aa rfl) (ao ae (aa rfl) e60) (aU (ah ae (ah ae (ah ae (ah ae (ah ae ay)))))) e1) rfl rfl rfl (aZ (ao ae (aa rfl) e0) rfl
   (aZ (aN (ah (aa rfl) (ah (bR (x_call (ah (aa rfl) (ah (ao ae (aa rfl) e2k) (ah (aa rfl) (ah (aa rfl) ay)))) F) rfl (bh _)) ay))) (by unfold bz;rw[pI U];rfl)
   (Ab (aa rfl) (aX (aK (aa rfl) ae rfl) rfl) (by show(true&&(aF (L U)&&true))=true;rw[bh];rfl)
   (yU (aU ay) ae rfl (iq (kA (aa rfl) (xg (by omega))) lp kx)))))
 rcases dr with⟨rfl,C⟩ | ⟨_,y,w,a,bs,u,r1,row1,rfl,C,B,rfl⟩
 ·obtain⟨_,_,_,t⟩:=rA (ns:=ns) (k:=k) (z:=sz) (s:=st) (b:=G) (p:=prF r row) (o5:=E) (o6:=o6) (o7:=o7) (o8:=o8) (o15:=O) (o16:=I) (l:=true) its (qP (mI (.inl rfl) (by omega) H hh C (by omega)) (c5 _ _)) (c5 _ _) (yD 26 (by omega)) rfl (fun _=>by show decide ((L row).length<most)=true;rw[eU,Jj (by unfold most;omega)]);exact#[_,#[_,_,_,_,_,_,_,_,_,_,_,_,_,_,_,rfl],pre (jx (aI (dX (n:=false) (k:=true) rfl (aa rfl))) (aZ (aa rfl) (by unfold bz;rw[c5];rfl) bH) t)]
 ·have lt:y.length<17:=by simp at Qa;omega
  obtain⟨_,_,_,t⟩:=rA (ns:=ns) (k:=k) (z:=sz) (s:=st) (b:=G) (p:=prF r row) (o5:=E) (o6:=o6) (o7:=o7) (o8:=o8) (o15:=O) (o16:=I) (l:=false) its (rf (mr (rest:=u) (.inl rfl) (by omega) H hh C B (by omega) (by omega)) lt) rfl (yv 27 _) rfl (fun z=>nomatch z);exact#[_,#[_,_,_,_,_,_,_,_,_,_,_,_,_,_,_,rfl],pre (ak (aI (dX (n:=false) (k:=false) rfl (aa rfl))) t)]
end
def main(ns:List Int)(s:ns.length<=63):aq T 30 22 [.scr (ns.map D.int)]=some (.bl true):=by
 obtain⟨o,e,r,m,l,k,j,i,h,g,d,b,a,Z,Y,U,O,I,rfl⟩:=fG (f:=aw (aq T 29) [13] (kP 20 21 18 19 17 16)) (tg:=[1]) (xs:=List.range 2) (J:=some (.lst (LI ns))::replicate 16 none)
  (fun _ J=>∃ r m l k j i h g d b a Z Y U O I,J=[some (.lst (LI ns)),r,m,l,k,j,i,h,g,d,b,a,Z,Y,U,O,I]) ⟨_,_,_,_,_,_,_,_,_,_,_,_,_,_,_,_,rfl⟩ (by
   rintro p x q J t ⟨r,m,l,k,j,i,h,g,d,b,a,Z,Y,U,O,I,rfl⟩;obtain⟨o,⟨b2,b3,b4,b5,b6,b7,b8,b9,b10,b11,b12,b13,b14,b15,b16,rfl⟩,c⟩:=turn s (v8 t).2 m l k j i h g d b a Z Y U O I
   exact#[_,by rw[iO,Option.bind_some];exact c,_,_,_,_,_,_,_,_,_,_,_,_,_,_,_,_,rfl])
 exact(aE (fn:=yG 20 21 18 19 17 16) rfl).trans (aR rfl rfl (aZ (cQ (aa rfl) ae (K32.DQ s)) (by simp[bz,D.imm,aS,vc])
  (iq (kA ae (xg (n:=2) (by omega))) e (aC ae rfl))))
end K31
namespace L2
open PySem PySem.Spec PyProof.Rows
@[reducible]noncomputable def Key:=Sum Int Str
abbrev j8:Key->Value->Bool
 | .inl k,v=>Value.isInt k v
 | .inr x,v=>Value.isStrOf x v
abbrev ES(w:World):Key->Int
 | .inl k=>hashInt k
 | .inr x=>hashStr w x
def bZ:∀ {k:Key} {v:Value},j8 k v=true->(∃ i t,k=Sum.inl i/\v=Value.int i t)\/(∃ x t,k=Sum.inr x/\v=Value.str x t)
 | .inl i,v,h=>by
  obtain⟨t,e⟩:=Value.isInt_shape h;exact .inl #[i,t,rfl,e]
 | .inr x,v,h=>by
  obtain⟨t,e⟩:=Value.isStrOf_shape h;exact .inr #[x,t,rfl,e]
def uH(i:Int)(t:Tok):j8 (.inl i) (.int i t)=true:=by simp[j8,Value.isInt]
def vn(x:Str)(t:Tok):j8 (.inr x) (.str x t)=true:=by simp[j8,Value.isStrOf]
def BJ(a b:Int):decide ((Sum.inl a:Key)=Sum.inl b)=(a == b):=by
 by_cases e:a=b
 ·subst e;simp
 ·have h:¬ (Sum.inl a:Key)=Sum.inl b:=fun q=>e (Sum.inl.inj q);rw[Jh h];exact(beq_eq_false_iff_ne.mpr e).symm
def ug(a b:Str):decide ((Sum.inr a:Key)=Sum.inr b)=decide (a=b):=by
 by_cases e:a=b
 ·subst e;simp
 ·have h:¬ (Sum.inr a:Key)=Sum.inr b:=fun q=>e (Sum.inr.inj q);rw[Jh h,Jh e]
def Cb(a:Int)(b:Str):decide ((Sum.inl a:Key)=Sum.inr b)=false:=Jh (fun q=>nomatch q)
def Cr(a:Str)(b:Int):decide ((Sum.inr a:Key)=Sum.inl b)=false:=Jh (fun q=>nomatch q)
abbrev bw(prog:Program)(w:World):PySem.KeyKind prog w Key where
 is:=j8
 hash:=ES w
 inj:=fun v a b ha hb=>by
  rcases bZ ha with⟨i,t,rfl,rfl⟩ | ⟨x,t,rfl,rfl⟩
  ·rcases bZ hb with⟨j,u,rfl,e⟩ | ⟨y,u,rfl,e⟩
   ·injection e with I _;rw[I]
   ·exact nomatch e
  ·rcases bZ hb with⟨j,u,rfl,e⟩ | ⟨y,u,rfl,e⟩
   ·exact nomatch e
   ·injection e with I _;rw[I]
 byValue:=fun k v h=>by
  rcases bZ h with⟨i,t,rfl,rfl⟩ | ⟨x,t,rfl,rfl⟩<;>rfl
 pyHash:=fun O h=>by
  rcases bZ O with⟨i,t,rfl,rfl⟩ | ⟨x,t,rfl,rfl⟩
  ·exact wpAny_pyHash_int h
  ·exact wpAny_pyHash_str h
 eqBool:=fun hu O h=>by
  rcases bZ hu with⟨i,t,rfl,rfl⟩ | ⟨x,t,rfl,rfl⟩
  ·rcases bZ O with⟨j,u,rfl,rfl⟩ | ⟨y,u,rfl,rfl⟩
   ·rw[BJ]at h;exact wpAny_eqBool_int h
   ·rw[Cb]at h;exact SeqAt.EqAt.int_str i t y u _ _ _ _ h
  ·rcases bZ O with⟨j,u,rfl,rfl⟩ | ⟨y,u,rfl,rfl⟩
   ·rw[Cr]at h;exact SeqAt.EqAt.str_int x t j u _ _ _ _ h
   ·rw[ug]at h;exact wpAny_eqBool_str h
 «strs»:=fun k x t v h=>by
  rcases bZ h with⟨i,u,rfl,e⟩ | ⟨y,u,rfl,e⟩
  ·exact nomatch e
  ·injection e with I _;subst I;cases v<;>rfl
def qm(prog:Program)(w:World)(i:Int)(t:Tok):(bw prog w).is (.inl i) (.int i t)=true:=uH i t
def jT(prog:Program)(w:World)(x:Str)(t:Tok):(bw prog w).is (.inr x) (.str x t)=true:=vn x t
set_option genInjectivity true in
inductive V where
 | non | bl (b:Bool) | int (i:Int) | str (x:Str) | byt (b:Array UInt8) | flt (b:UInt64) | ref (a:Addr) | ty (n:String)
 deriving DecidableEq
abbrev RelV:V->Value->Prop
 | .non,u=>u=Value.none
 | .bl b,u=>u=Value.bool b
 | .int i,u=>∃ t,u=Value.int i t
 | .str x,u=>∃ t,u=Value.str x t
 | .byt b,u=>∃ t,u=Value.bytes b t
 | .flt b,u=>∃ t,u=Value.float b t
 | .ref a,u=>u=Value.ref a
 | .ty n,u=>u=Value.type n
@[reducible]noncomputable def Vals:List V->List Value->Prop:=Paired RelV
def Vals.length(r:Vals xs us):xs.length=us.length:=Paired.length r
def Vals.get:∀ {xs:List V} {us:List Value} {i:Nat} {x:V},Vals xs us->xs[i]?=some x->∃ u,us[i]?=some u/\RelV x u
 | _,_,_,_,.nil,e=>by simp at e
 | _,_,0,_,.cons r _,e=>by simp at e;subst e;exact#[_,rfl,r]
 | _,_,i+1,x,.cons _ t,e=>by
  obtain⟨u,O,I⟩:=Vals.get t (by simpa using e);exact#[u,by simpa using O,I]
def Vals.append:∀ {xs ys:List V} {us I:List Value},Vals xs us->Vals ys I->Vals (xs++ys) (us++I)
 | _,_,_,_,.nil,s=>s
 | _,_,_,_,.cons r t,s=>.cons r (Vals.append t s)
def Vals.take:∀ {xs:List V} {us:List Value} (n:Nat),Vals xs us->Vals (xs.take n) (us.take n)
 | _,_,0,_=>.nil
 | _,_,_+1,.nil=>.nil
 | _,_,n+1,.cons r t=>.cons r (Vals.take n t)
def Vals.drop:∀ {xs:List V} {us:List Value} (n:Nat),Vals xs us->Vals (xs.drop n) (us.drop n)
 | _,_,0,r=>r
 | _,_,_+1,.nil=>.nil
 | _,_,n+1,.cons _ t=>Vals.drop n t
abbrev tG:Option V->Option Value->Prop
 | some v,some u=>RelV v u
 | none,none=>True
 | _,_=>False
abbrev KV:List (κ × V)->List (κ × Value)->Prop:=Paired fun(p:κ × V) (q:κ × Value)=>p.1=q.1/\RelV p.2 q.2
abbrev kV:Key->V
 | .inl i=>.int i
 | .inr x=>.str x
inductive HO where
  | lst (xs:List V)
  | tup (xs:List V)
  | dK (kvs:List (Key × V)) | dT (kvs:List (List Key × V))
  | set (S:Int->Bool) (n:Nat)
  | ins (C dx:Addr) (fs:List (Str × V))
  | own (x:Addr)
  | xd (fs:List (Str × V))
  | met (f x:Addr)
  | rng (lo hi:Int)
  | frz (o:Obj) (u:HO)
  | tbl (ps:Array Value)
  | ext (φ:Heap->Prop)
@[reducible]noncomputable def Hp:=Addr->Option HO
abbrev upd(H:Hp)(a:Addr)(o:HO):Hp:=fun b=>if b=a then some o else H b
def aG:upd H a o a=some o:=by unfold upd;rw[if_pos rfl]
def ax(h:b≠a):upd H a o b=H b:=by unfold upd;rw[if_neg h]
def k7{H:Hp}(h:H a=some o)(h':H b=some u)(d:o≠u):a≠b:=by
 intro e;subst e;rw[h]at h';exact d (Option.some.inj h')
def aJ{H:Hp}(h:H a=some o)(h':H b=none):a≠b:=by
 intro e;subst e;rw[h]at h';cases h'
section
variable(P:Program)(w:World)
abbrev bD(H:Hp)(h:Heap)(a:Addr):HO->Prop
 | .lst xs=>xs.length<=sizeLine/\∃ (its:List Value) (n:Nat),Vals xs its/\h.get? a=some { cls:=.type "list",data:=.seq its.toArray n }
 | .tup xs=>xs.length<=sizeLine/\∃ its:List Value,Vals xs its/\IsTup h a its.toArray
 | .dK kvs=>kvs.length<=sizeLine/\(a == sysModules)=false/\∃ vs,KV kvs vs/\h.DictOf (bw P w) a vs
 | .dT kvs=>kvs.length<=sizeLine/\(a == sysModules)=false/\∃ xs:List (List Key × Addr × Value),
   Paired (fun(p:List Key × V) (q:List Key × Addr × Value)=>p.1=q.1/\H q.2.1=some (.tup (p.1.map kV))/\RelV p.2 q.2.2) kvs xs /\
   ∃ o es ep,h.get? a=some o/\o.ExactDict/\o.data=.dict es ep/\es.toList=xs.map (entryOfKey (tupleKind (bw P w)))/\(xs.map (·.1)).Nodup
 | .set S n=>h.SetOf (intKind P w) a S n
 | .ins C dx fs=>H dx=some (.own a)/\fs.length<=1000/\dx≠a/\h.get? a=some (W.instObj C dx) /\
   ∃ mA,h.Ns1 dx mA/\(∀ f,tG (fs.lookup f) (mA f))/\PySem.Within mA (fs.map (·.1))
 | .own _=>∃ o,h.get? a=some o
 | .xd fs=>∃ mA,h.Ns1 a mA/\∀ f,tG (fs.lookup f) (mA f)
 | .rng lo hi=>∃ t u v,h.get? a=some { cls:=.type "range",data:=.fields (List.toArray [.int lo t,.int hi u,.int 1 v]) }
 | .frz o u=>h.get? a=some o/\bD H h a u
 | .tbl ps=>h.get? a=some { cls:=.none,data:=.fields ps }
 | .met f x=>h.get? a=some (W.methodObj (.ref f) (.ref x))
 | .ext φ=>φ h/\(∃ o,h.get? a=some o)/\∀ O I:Heap,φ O->(∀ o,O.get? a=some o->I.get? a=some o)->φ I
abbrev HOk(H:Hp)(h:Heap):Prop:=∀ a o,H a=some o->bD P w H h a o
end
section
variable{P:Program}{w:World}{H H':Hp}{h h':Heap}{a:Addr}{o:HO}
def bD.lt(x:bD P w H h a o):a<h.objs.size:=by
 cases o with
 | lst xs=>obtain⟨_,_,_,_,e⟩:=x;exact Jf e
 | tup xs=>obtain⟨_,_,_,p⟩:=x;exact p.lt
 | dK kvs=>obtain⟨_,_,_,_,o,_,_,e,_⟩:=x;exact Jf e
 | dT kvs=>obtain⟨_,_,_,_,o,_,_,e,_⟩:=x;exact Jf e
 | set S n=>obtain⟨o,_,_,_,e,_⟩:=x;exact Jf e
 | ins C dx fs=>obtain⟨_,_,_,e,_⟩:=x;exact Jf e
 | own y=>obtain⟨_,e⟩:=x;exact Jf e
 | xd fs=>obtain⟨_,⟨_,_,_,e,_⟩,_⟩:=x;exact Jf e
 | rng lo hi=>obtain⟨_,_,_,e⟩:=x;exact Jf e
 | frz ob u=>obtain⟨e,_⟩:=x;exact Jf e
 | tbl ps=>exact Jf (show h.get? a=some _ from x)
 | met f y=>exact Jf (show h.get? a=some _ from x)
 | ext φ=>obtain⟨_,⟨_,e⟩,_⟩:=x;exact Jf e
def Paired.Df:∀ {O:List α} {I:List β},Paired F O I->(∀ a b,F a b->G a b)->Paired G O I
 | _,_,.nil,_=>.nil
 | _,_,.cons r t,f=>.cons (f _ _ r) (Paired.Df t f)
def bD.fj(x:bD P w H h a o)(k:∀ b u,(b=a\/H b=some (.own a))->h.get? b=some u->h'.get? b=some u)
 (ho:∀ b,H b=some (.own a)->H' b=some (.own a))(O:∀ b xs,H b=some (.tup xs)->H' b=some (.tup xs)):bD P w H' h' a o:=by
 induction o with
 | lst xs=>obtain⟨z,its,n,r,e⟩:=x;exact#[z,its,n,r,k _ _ (.inl rfl) e]
 | tup xs=>obtain⟨z,its,r,ob,e,c⟩:=x;exact#[z,its,r,ob,k _ _ (.inl rfl) e,c]
 | dK kvs=>obtain⟨z,y,vs,r,ob,es,ep,e,c⟩:=x;exact#[z,y,vs,r,ob,es,ep,k _ _ (.inl rfl) e,c]
 |dT kvs=>
  obtain⟨z,y,xs,r,ob,es,ep,e,c⟩:=x;exact#[z,y,xs,Paired.Df r fun p q z=>#[z.1,O _ _ z.2.1,z.2.2],ob,es,ep,k _ _ (.inl rfl) e,c]
 | set S n=>obtain⟨ob,es,ep,t,e,c⟩:=x;exact#[ob,es,ep,t,k _ _ (.inl rfl) e,c]
 |ins C dx fs=>
  obtain⟨d,z,ne,e,mA,⟨od,es,ep,U,c⟩,r⟩:=x;exact#[ho _ d,z,ne,k _ _ (.inl rfl) e,mA,#[od,es,ep,k _ _ (.inr d) U,c],r]
 | own y=>obtain⟨ob,e⟩:=x;exact#[ob,k _ _ (.inl rfl) e]
 | xd fs=>obtain⟨mA,⟨od,es,ep,e,c⟩,r⟩:=x;exact#[mA,#[od,es,ep,k _ _ (.inl rfl) e,c],r]
 | rng lo hi=>obtain⟨t,u,v,e⟩:=x;exact#[t,u,v,k _ _ (.inl rfl) e]
 | frz ob u I=>obtain⟨e,q⟩:=x;exact#[k _ _ (.inl rfl) e,I q]
 |tbl ps=>
  have e:h.get? a=some { cls:=.none,data:=.fields ps }:=x;show h'.get? a=some { cls:=.none,data:=.fields ps };exact k a _ (.inl rfl) e
 |met f y=>
  have e:h.get? a=some (W.methodObj (.ref f) (.ref y)):=x;show h'.get? a=some (W.methodObj (.ref f) (.ref y));exact k a _ (.inl rfl) e
 | ext φ=>obtain⟨p,⟨o,e⟩,st⟩:=x;exact#[st _ _ p fun o q=>k _ _ (.inl rfl) q,#[o,k _ _ (.inl rfl) e],st]
def HOk.lt(x:HOk P w H h)(e:H a=some o):a<h.objs.size:=(x a o e).lt
def HOk.fresh(x:HOk P w H h)(e:h.objs.size<=a):H a=none:=by
 cases q:H a with
 | none=>rfl
 | some u=>exact absurd (Ji (x.lt q) e) (Jw _)
def HOk.kept(x:HOk P w H h)(k:∀ b u,h.get? b=some u->h'.get? b=some u):HOk P w H h':=fun a o e =>
 (x a o e).fj (fun b u _ q=>k b u q) (fun _ q=>q) fun _ _ q=>q
def HOk.laid(x:HOk P w H h)(k:∀ b u,h.get? b=some u->h'.get? b=some u)(I:h.objs.size<=a)(new:bD P w (upd H a o) h' a o):HOk P w (upd H a o) h':=fun b u e=>by
 have hn:=x.fresh I;by_cases hb:b=a
 ·subst hb;rw[aG]at e;cases e;exact new
 ·rw[ax hb]at e
  exact(x b u e).fj (fun c v _ q=>k c v q) (fun c q=>by rw[ax (aJ q hn)];exact q) fun c xs q=>by rw[ax (aJ q hn)];exact q
end
abbrev Rd(H:Hp)(a:Addr)(u:HO):Prop:=H a=some u\/∃ o,H a=some (.frz o u)
def Rd.ok(r:Rd H a u)(x:HOk P w H h):bD P w H h a u:=by
 rcases r with r | ⟨o,r⟩
 ·exact x a u r
 ·obtain⟨_,q⟩:=x a _ r;exact q
abbrev Mut:Option HO->Prop
 | some (.lst _)=>True
 | some (.dK _)=>True
 | some (.dT _)=>True
 | some (.set _ _)=>True
 | some (.ins _ _ _)=>True
 | some (.ext _)=>True
 | _=>False
section
variable{P:Program}{w:World}{H:Hp}{h h':Heap}{x e:Addr}{o':HO}
def HOk.write(ok:HOk P w H h)(Y:Mut (H x))(d:e=x\/H e=some (.own x))(k:∀ b u,b≠e->h.get? b=some u->h'.get? b=some u)(a:∃ u,h'.get? e=some u)
 (new:bD P w (upd H x o') h' x o'):HOk P w (upd H x o') h':=fun b u q=>by
 have O:∀ c y,H c=some (.own y)->c≠x:=fun c y r z=>by subst z;rw[r]at Y;exact Y
 have U:∀ c xs,H c=some (.tup xs)->c≠x:=fun c xs r z=>by subst z;rw[r]at Y;exact Y
 by_cases hb:b=x
 ·subst hb;rw[aG]at q;cases q;exact new
 ·rw[ax hb]at q;by_cases I:b=e
  ·have q':H b=some (.own x):=by
    rcases d with z | z
    ·exact absurd (I.trans z) hb
    ·rw[I];exact z
   rw[q]at q';cases q';obtain⟨v,f⟩:=a;exact#[v,by rw[I];exact f]
  ·refine(ok b u q).fj (fun c v Z r=>k c v ?_ r) (fun c r=>by rw[ax (O c b r)];exact r) fun c xs r=>by rw[ax (U c xs r)];exact r
   rcases Z with rfl | Z
   ·exact I
   ·rintro rfl;rcases d with z | z
    ·exact O c b Z z
    ·rw[Z]at z;cases z;exact hb rfl
end
structure Un(fs ex:List Addr)(H H':Hp)(h h':Heap):Prop where
 keep:∀ b o,h.get? b=some o->H b=none->b∉fs->b∉ex->h'.get? b=some o
 slot:∀ b o,h.get? b=some o->H b=none->b∈fs->b∉ex->∃ sl,h'.get? b=some { o with slots:=sl }
 free:∀ b o,h.get? b=some o->H b=none->b∉ex->H' b=none
 there:∀ b o,h.get? b=some o->b∉ex->∃ o',h'.get? b=some o'
 dB:∀ b xs,H b=some (.tup xs)->H' b=some (.tup xs)
 c8:∀ b o u,H b=some (.frz o u)->H' b=some (.frz o u)
 dH:∀ b ps,H b=some (.tbl ps)->∃ more,H' b=some (.tbl (ps++more))
section
variable{fs fs' ex ex':List Addr}{H H1 H2:Hp}{h h1 h2 h':Heap}{a x e:Addr}{o:HO}
def Un.any(u:Un fs ex H H1 h h1)(q:h.get? b=some ob)(n:H b=none)(I:b∉ex):∃ sl,h1.get? b=some { ob with slots:=sl }:=by
 by_cases hb:b∈fs
 ·exact u.slot b ob q n hb I
 ·exact#[ob.slots,u.keep b ob q n hb I]
def Un.kept(k:∀ b u,h.get? b=some u->h'.get? b=some u):Un fs ex H H h h' :=
 ⟨fun b ob q _ _ _=>k b ob q,fun b ob q _ _ _=>#[ob.slots,k b ob q],fun _ _ _ n _=>n,fun b ob q _=>#[ob,k b ob q],fun _ _ q=>q,fun _ _ _ q=>q,fun _ ps q=>#[(List.toArray []),by rw[q];simp]⟩
def Un.refl:Un fs ex H H h h:=Un.kept fun _ _ q=>q
def Un.laid(k:∀ b u,h.get? b=some u->h'.get? b=some u)(I:h.objs.size<=a)(hn:H a=none):Un fs ex H (upd H a o) h h' where
 keep:=fun b u q _ _ _=>k b u q
 slot:=fun b u q _ _ _=>#[u.slots,k b u q]
 free:=fun b u q n _=>by rw[ax (Jl (Ji (Jf q) I))];exact n
 there:=fun b u q _=>#[u,k b u q]
 dB:=fun b xs q=>by rw[ax (aJ q hn)];exact q
 c8:=fun b u xs q=>by rw[ax (aJ q hn)];exact q
 dH:=fun b ps q=>#[(List.toArray []),by rw[ax (aJ q hn),q];simp]
def Un.write(O:Mut (H x))(Z:e=x\/H e=some (.own x))(k:∀ b u,b≠e->h.get? b=some u->h'.get? b=some u)(U:∃ u,h'.get? e=some u):Un fs ex H (upd H x o) h h':=by
 have Y:∀ b,H b=none->b≠x:=fun b n z=>by subst z;rw[n]at O;exact O
 have hb:∀ b,H b=none->b≠e:=fun b n z=>by
  subst z;rcases Z with r | r
  ·exact Y b n r
  ·rw[n]at r;cases r
 have hm:∀ b u,H b=some u->¬ Mut (some u)->b≠x:=fun b u q nm z=>by subst z;rw[q]at O;exact nm O
 refine⟨fun b u q n _ _=>k b u (hb b n) q,fun b u q n _ _=>#[u.slots,k b u (hb b n) q],fun b u q n _=>by rw[ax (Y b n)];exact n,fun b u q _=>?_,
  fun b xs q=>by rw[ax (hm b _ q fun z=>z)];exact q,fun b u xs q=>by rw[ax (hm b _ q fun z=>z)];exact q,fun b ps q=>#[(List.toArray []),by rw[ax (hm b _ q fun z=>z),q];simp]⟩
 by_cases I:b=e
 ·subst I;exact U
 ·exact#[u,k b u I q]
end
abbrev trk(h:Heap)(H:Hp):List Addr:=(List.range h.objs.size).filter fun a=>(H a).isSome
abbrev ja(h:Heap)(H:Hp):Heap:=W.hideAll h (trk h H)
def uD(h:Heap)(H:Hp):(ja h H).objs.size=h.objs.size:=W.hideAll_size _ _
def we(e:h.get? b=some o)(n:H b=none):(ja h H).get? b=some o :=
 W.hideAll_get _ e fun hm=>by
  have q:=(List.mem_filter.mp hm).2;rw[n]at q;simp at q
def zB(e:(ja h H).get? b=some o):h.get? b=some o/\H b=none:=by
 have e':=W.of_hideAll (trk h H) e;refine#[e',?_]
 cases q:H b with
 | none=>rfl
 |some x=>
  have hm:b∈trk h H:=List.mem_filter.mpr ⟨List.mem_range.mpr (Jf e'),by simp[q]⟩;have z:(ja h H).get? b=none:=W.hideAll_none (trk h H) hm;rw[z]at e;cases e
structure Mod(K:W.Frag)(mg:Str->Option Value)(base:Heap):Prop where
 kin:K.In base
 glob:base.Ns mainGlobals mg
 blt:∃ mb,base.Ns builtinsNs mb/\∀ x:Str,x ≠ "__name__" -> mb x=bootBuiltins x
 nolimit:base.NoLimit
structure Cx where
 prog:Program
 w:World
 K:W.Frag
 mg:Str->Option Value
 base:Heap
 A:Around
 N:List Str
 s₀:Shared
 H₀:Hp
 env:Env
 outer:List Env
 stack:List Env
 ex:List Addr
 fn:Str->Bool
 calm:Bool
 pn:List (Addr × Obj)
 xe:Value->Shared->Prop
abbrev frs(l:List Env):List Addr:=l.filterMap (·.frame)
@[reducible]noncomputable def Cx.fs(X:Cx):List Addr:=frs X.outer
abbrev Vis(sc:Scope)(x:Str):Prop:=sc.names.lookup x=some .local\/sc.names.lookup x=some .cell\/sc.names.lookup x=some .free
abbrev Loc(sc:Scope)(x:Str):Prop:=sc.names.lookup x=some .local\/sc.names.lookup x=some .cell
abbrev Look(env:Env)(h:Heap)(m:Str->Option Value)(x:Str)(u:Value):Prop :=
 (env.kindOf x=some .local/\m x=some u)\/((env.kindOf x=some .cell\/env.kindOf x=some .free)/\∃ c,env.cells.lookup x=some c/\h.IsCell c (some u))
abbrev HX(X:Cx):Prop:=X.A.handled=none\/∃ h o u vs,X.A.handled=some (.ref h)/\X.H₀ h=some (.frz o u)/\o.data=.fields vs/\vs[2]?=some .none
structure Cx.Ok(X:Cx):Prop where
 mod:Mod X.K X.mg X.base
 kind:X.env.scope.kind=.function
 glob:X.env.globals=mainGlobals
 blt:X.env.builtins=builtinsNs
 above:X.s₀.heap.objs.size<=X.env.locals
 inj:∀ x y c,X.env.cells.lookup x=some c->X.env.cells.lookup y=some c->x=y
 has:∀ x,(X.env.kindOf x=some .cell\/X.env.kindOf x=some .free)->∃ c,X.env.cells.lookup x=some c
 cab:∀ x c,X.fn x=true->X.env.cells.lookup x=some c->X.s₀.heap.objs.size<=c
 hd:(X.calm=true->X.A.handled=none)/\HX X
 frames:X.A.frames=some X.stack
 stk:X.stack=X.outer\/(X.stack=X.env::X.outer/\X.env.frame=some X.env.locals)
 exf:∀ b∈X.ex,b≠X.env.locals/\∀ x c,X.env.cells.lookup x=some c->c≠b
 bs:∀ b o,X.base.get? b=some o->X.s₀.heap.get? b=some o/\X.H₀ b=none
 bsz:X.base.objs.size<=X.s₀.heap.objs.size
 iD:∀ b o,X.base.get? b=some o->b∉X.ex
 jc:∀ b∈X.ex,b∉X.fs
 dh:X.s₀.heap.FunFrames X.base X.outer
 frf:∀ b∈X.fs,X.H₀ b=none
structure Inv(X:Cx)(pins:List (Addr × Obj))(J:List (Option V))(H:Hp)(s:Shared):Prop where
 ok:X.Ok
 os:s.os=X.s₀.os
 bare:AllBare s.gens
 base:Un X.fs X.ex X.H₀ H X.s₀.heap s.heap
 loc:∃ m,s.heap.Ns X.env.locals m/\∀ (i:Nat) (x:Str) (v:V),X.N[i]?=some x->J[i]?=some (some v)->Vis X.env.scope x->∃ u,RelV v u/\Look X.env s.heap m x u
 cell:∀ x c,X.env.cells.lookup x=some c->∃ v,s.heap.IsCell c v
 free:H X.env.locals=none
 cC:∀ x c,X.env.cells.lookup x=some c->H c=none
 pin:∀ p∈X.pn++pins,s.heap.get? p.1=some p.2/\H p.1=none/\p.1≠X.env.locals/\p.1∉X.fs/\∀ v,p.2.data≠.cell v
 hok:HOk X.prog X.w H s.heap
 len:J.length=X.N.length
section
variable{X:Cx}{pins:List (Addr × Obj)}{J:List (Option V)}{H H':Hp}{s:Shared}{h':Heap}
def Cx.Ok.Ek(ok:X.Ok)(e:X.base.get? b=some o):b∉X.fs:=fun hb=>by
 have:=(ok.dh.mem hb).1;rw[e]at this;cases this
def Inv.bs(I:Inv X pins J H s):∀ b o,X.base.get? b=some o->s.heap.get? b=some o/\H b=none:=fun b o e =>
 ⟨I.base.keep b o (I.ok.bs b o e).1 (I.ok.bs b o e).2 (I.ok.Ek e) (I.ok.iD b o e),I.base.free b o (I.ok.bs b o e).1 (I.ok.bs b o e).2 (I.ok.iD b o e)⟩
def Inv.bk(I:Inv X pins J H s):∀ b o,X.base.get? b=some o->s.heap.get? b=some o:=fun b o e=>(I.bs b o e).1
def Inv.mod(I:Inv X pins J H s):Mod X.K X.mg X.base:=I.ok.mod
def Inv.kIn(I:Inv X pins J H s):X.K.In s.heap:=I.ok.mod.kin.keeps I.bk
def Inv.lt(I:Inv X pins J H s):X.env.locals<s.heap.objs.size:=let ⟨_,hn,_⟩:=I.loc;hn.lt
def Inv.sz(I:Inv X pins J H s):X.s₀.heap.objs.size<=s.heap.objs.size:=Jr I.ok.above (le_of_lt I.lt)
def Inv.EY(I:Inv X pins J H s)(h:s.heap.objs.size<=a):a∉X.fs:=fun hb=>by
 obtain⟨_,o,ho,_⟩:=I.ok.dh.mem hb;exact absurd (Ji (Jf ho) (Jr I.sz h)) (Jw _)
def Inv.cne(I:Inv X pins J H s):∀ x c,X.env.cells.lookup x=some c->c≠X.env.locals:=fun x c e z=>by
 obtain⟨v,o,ho,hd⟩:=I.cell x c e;obtain⟨m,⟨o',es,ep,O,U,_⟩,_⟩:=I.loc;rw[z,O]at ho;cases ho;rw[U]at hd;cases hd
def Inv.dh(I:Inv X pins J H s):s.heap.FunFrames X.base X.outer:=by
 have all:∀ (l:List Env),(∀ b∈frs l,b∈X.fs)->X.s₀.heap.FunFrames X.base l->s.heap.FunFrames X.base l:=by
  intro l
  induction l with
  | nil=>intro _ _;trivial
  |cons env r Y=>
   intro U a;obtain⟨hk,⟨L,o,hf,hn,ho,hd⟩,Z⟩:=a;have O:=U L (by unfold frs;rw[filterMap_cons,hf];exact JA);obtain⟨sl,e⟩:=I.base.slot L o ho (I.ok.frf L O) O fun z=>I.ok.jc L z O;exact#[hk,#[L,_,hf,hn,e,hd],Y (fun b hb=>U b (by unfold frs;rw[filterMap_cons,hf];exact Jm _ hb)) Z]
 exact all X.outer (fun _ hb=>hb) I.ok.dh
def Inv.stack(I:Inv X pins J H s):s.heap.FunFrames X.base X.stack:=by
 rcases I.ok.stk with e | ⟨e,hf⟩
 ·rw[e];exact I.dh
 ·rw[e];obtain⟨m,hn,_⟩:=I.loc;refine .cons (by rw[I.ok.kind];decide) hf hn ?_ I.dh;exact Heap.get?_none_of_le (Jr I.ok.bsz I.ok.above)
def Inv.pH(I:Inv X pins J H s):∀ b∈frs X.stack,b∈X.env.locals::X.fs:=fun b hb=>by
 rcases I.ok.stk with e | ⟨e,hf⟩
 ·rw[e]at hb;exact Jm _ hb
 ·rw[e]at hb;unfold frs at hb;rw[filterMap_cons,hf]at hb;exact hb
def Inv.jC(I:Inv X pins J H s):∀ b∈frs X.stack,H b=none:=fun b hb=>by
 rcases List.mem_cons.mp (I.pH b hb)with e | hb
 ·rw[e];exact I.free
 ·obtain⟨_,o,ho,_⟩:=I.ok.dh.mem hb;exact I.base.free b o ho (I.ok.frf b hb) fun z=>I.ok.jc b z hb
def Inv.step{g':Array GenState}{A:Nat}{d':Drawn}{ch:List Addr}(I:Inv X pins J H s)
 (Y:∀ b∈ch,(b∈X.ex\/X.s₀.heap.objs.size<=b)/\b≠X.env.locals/\(∀ x c,X.env.cells.lookup x=some c->c≠b)/\∀ p∈X.pn++pins,p.1≠b)
 (keep:∀ b o,b≠X.env.locals->b∉X.fs->b∉ch->s.heap.get? b=some o->H b=none->h'.get? b=some o)
 (slot:∀ b o,b≠X.env.locals->b∈X.fs->b∉ch->s.heap.get? b=some o->H b=none->∃ sl,h'.get? b=some { o with slots:=sl })(free:∀ b o,b∉ch->s.heap.get? b=some o->H b=none->H' b=none)
 (there:∀ b o,b∉ch->s.heap.get? b=some o->∃ o',h'.get? b=some o')
 (dB:∀ b xs,H b=some (.tup xs)->H' b=some (.tup xs))(c8:∀ b o u,H b=some (.frz o u)->H' b=some (.frz o u))(dH:∀ b ps,H b=some (.tbl ps)->∃ more,H' b=some (.tbl (ps++more)))
 (ns:∀ m,s.heap.Ns X.env.locals m->h'.Ns X.env.locals m)(hok:HOk X.prog X.w H' h')(E:AllBare g') :
  Inv X pins J H' { s with heap:=h',gens:=g',drawn:=d',toks:=A }:=by
 have f:∀ b o,X.s₀.heap.get? b=some o->b≠X.env.locals:=fun b o e=>Jl (Ji (Jf e) I.ok.above)
 have Z:∀ b o,X.s₀.heap.get? b=some o->b∉X.ex->b∉ch:=fun b o e O hb=>by
  rcases(Y b hb).1 with z | z
  ·exact O z
  ·exact absurd (Ji (Jf e) z) (Jw _)
 have cellK:∀ x c,X.env.cells.lookup x=some c->∀ v,s.heap.IsCell c v->h'.IsCell c v:=fun x c e v ⟨o,ho,hd⟩=>by
  have U:c∉ch:=fun z=>(Y c z).2.2.1 x c e rfl;by_cases y:c∈X.fs
  ·obtain⟨sl,q⟩:=slot c o (I.cne x c e) y U ho (I.cC x c e);exact#[_,q,hd]
  ·exact#[o,keep c o (I.cne x c e) y U ho (I.cC x c e),hd]
 refine#[I.ok,I.os,E,#[fun b o e n hb O=>?_,fun b o e n hb O=>?_,fun b o e n O=>?_,fun b o e O=>?_,fun b xs e=>dB b xs (I.base.dB b xs e),fun b o xs e=>c8 b o xs (I.base.c8 b o xs e),fun b ps e=>?_],?_,fun x c e=>?_,?_,fun x c e=>?_,fun p t=>?_,hok,I.len]
 ·exact keep b o (f b o e) hb (Z b o e O) (I.base.keep b o e n hb O) (I.base.free b o e n O)
 ·obtain⟨sl,a⟩:=I.base.slot b o e n hb O;obtain⟨h,g⟩:=slot b _ (f b o e) hb (Z b o e O) a (I.base.free b o e n O);exact#[h,g]
 ·obtain⟨o',a⟩:=I.base.there b o e O;exact free b o' (Z b o e O) a (I.base.free b o e n O)
 ·obtain⟨o',a⟩:=I.base.there b o e O;exact there b o' (Z b o e O) a
 ·obtain⟨C,a⟩:=I.base.dH b ps e;obtain⟨B,g⟩:=dH b _ a;exact#[C++B,by rw[g,Array.append_assoc]]
 ·obtain⟨m,hn,D⟩:=I.loc;refine#[m,ns m hn,fun i x v a g F=>?_];obtain⟨u,r,l⟩:=D i x v a g F;refine#[u,r,?_]
  rcases l with l | ⟨k,c,e,z⟩
  ·exact .inl l
  ·exact .inr #[k,c,e,cellK x c e _ z]
 ·obtain⟨v,z⟩:=I.cell x c e;exact#[v,cellK x c e v z]
 ·obtain⟨m,⟨o,_,_,ho,_⟩,_⟩:=I.loc;exact free _ o (fun z=>(Y _ z).2.1 rfl) ho I.free
 ·obtain⟨v,o,ho,hd⟩:=I.cell x c e;exact free c o (fun z=>(Y c z).2.2.1 x c e rfl) ho (I.cC x c e)
 ·obtain⟨e,n,ne,j,d⟩:=I.pin p t;have U:p.1∉ch:=fun z=>(Y p.1 z).2.2.2 p t rfl;exact#[keep p.1 p.2 ne j U e n,free p.1 p.2 U e n,ne,j,d]
def Inv.un(I:Inv X pins J H s)(u:Un X.fs [] H H' s.heap h')(hok:HOk X.prog X.w H' h'):Inv X pins J H' { s with heap:=h',toks:=t' }:=by
 obtain⟨m,⟨o,es,ep,ho,r⟩,_⟩:=id I.loc;obtain⟨sl,Z⟩:=u.any ho I.free (by simp)
 exact I.step (g':=s.gens) (d':=s.drawn) (ch:=[]) (fun _ z=>nomatch z) (fun b o _ hb _ e n=>u.keep b o e n hb (by simp)) (fun b o _ hb _ e n=>u.slot b o e n hb (by simp)) (fun b o _ e n=>u.free b o e n (by simp)) (fun b o _ e=>u.there b o e (by simp)) u.dB u.c8 u.dH (fun a hm=>by
  obtain⟨o',U,Y,O,r'⟩:=hm;rw[ho]at O;cases O
  exact#[_,U,Y,Z,r']) hok I.bare
def Inv.call(I:Inv X pins J H s)(u:Un (frs X.stack) ch H H' s.heap h')(hok:HOk X.prog X.w H' h')(f:AllBare g')
 (Y:∀ b∈ch,(b∈X.ex\/X.s₀.heap.objs.size<=b)/\b≠X.env.locals/\(∀ x c,X.env.cells.lookup x=some c->c≠b)/\∀ p∈X.pn++pins,p.1≠b) :
  Inv X pins J H' { s with heap:=h',gens:=g',drawn:=d',toks:=t' }:=by
 obtain⟨m,⟨o,es,ep,ho,r⟩,_⟩:=id I.loc;obtain⟨sl,Z⟩:=u.any ho I.free fun z=>(Y _ z).2.1 rfl
 exact I.step (ch:=ch) Y (fun b o Z hb O e n=>u.keep b o e n (fun z=>(List.mem_cons.mp (I.pH b z)).elim Z hb) O) (fun b o _ _ O e n=>u.any e n O) (fun b o O e n=>u.free b o e n O) (fun b o O e=>u.there b o e O) u.dB u.c8 u.dH (fun g hm=>by
  obtain⟨o',a,d,U,r'⟩:=hm;rw[ho]at U;cases U
  exact#[_,a,d,Z,r']) hok f
def Inv.turned(I:Inv X pins J H s)(k:∀ b o,b≠it->s.heap.get? b=some o->h'.get? b=some o)(hn:H it=none)(Y:it≠X.env.locals)
 (d:it∈X.ex\/X.s₀.heap.objs.size<=it)(a:∀ x c,X.env.cells.lookup x=some c->c≠it)(Z:∀ p∈X.pn++pins,p.1≠it):Inv X pins J H { s with heap:=h',toks:=t' }:=by
 have U:∀ b u,H b=some u->b≠it:=fun b u e z=>by rw[z,hn]at e;cases e
 refine I.step (g':=s.gens) (d':=s.drawn) (ch:=[it]) (fun b hb=>?_) (fun b o _ _ O e _=>k b o (fun z=>O (by simp[z])) e) (fun b o _ _ O e _=>#[o.slots,k b o (fun z=>O (by simp[z])) e]) (fun _ _ _ _ n=>n)
  (fun b o O e=>#[o,k b o (fun z=>O (by simp[z])) e]) (fun _ _ e=>e) (fun _ _ _ e=>e) (fun b ps e=>#[(List.toArray []),by rw[e];simp]) (fun m hm=>?_) (fun b u e=>?_) I.bare
 ·have e:b=it:=by simpa using hb
  subst e;exact#[d,Y,a,Z]
 ·obtain⟨o,es,ep,ho,r⟩:=hm;exact#[o,es,ep,k _ o (Ne.symm Y) ho,r]
 ·refine(I.hok b u e).fj (fun c v O q=>k c v ?_ q) (fun _ q=>q) fun _ _ q=>q;rcases O with z | z
  ·rw[z];exact U b u e
  ·exact U c _ z
def Inv.tok(I:Inv X pins J H s)(t:Nat):Inv X pins J H { s with toks:=t }:=I.un Un.refl I.hok
def Inv.kept(I:Inv X pins J H s)(k:∀ b u,s.heap.get? b=some u->h'.get? b=some u):Inv X pins J H { s with heap:=h',toks:=t' }:=I.un (Un.kept k) (I.hok.kept k)
def Inv.laid(I:Inv X pins J H s)(k:∀ b u,s.heap.get? b=some u->h'.get? b=some u)(O:s.heap.objs.size<=a)(new:bD X.prog X.w (upd H a o) h' a o) :
  Inv X pins J (upd H a o) { s with heap:=h',toks:=t' }:=I.un (Un.laid k O (I.hok.fresh O)) (I.hok.laid k O new)
def Inv.write(I:Inv X pins J H s)(U:Mut (H x))(Y:e=x\/H e=some (.own x))(k:∀ b u,b≠e->s.heap.get? b=some u->h'.get? b=some u)(O:∃ u,h'.get? e=some u)
 (new:bD X.prog X.w (upd H x o) h' x o):Inv X pins J (upd H x o) { s with heap:=h',toks:=t' }:=I.un (Un.write U Y k O) (I.hok.write U Y k O new)
def Inv.weak(I:Inv X pins J H s)(U:Qc.length=J.length)(w:∀ (i:Nat) v,Qc[i]?=some (some v)->J[i]?=some (some v)):Inv X pins Qc H s :=
 ⟨I.ok,I.os,I.bare,I.base,let ⟨m,hn,O⟩:=I.loc;⟨m,hn,fun i x v a Z Y=>O i x v a (w i v Z) Y⟩,I.cell,I.free,I.cC,I.pin,I.hok,U.trans I.len⟩
def Inv.qD(I:Inv X pins J H s)(h:∀ p∈O,s.heap.get? p.1=some p.2/\H p.1=none/\p.1≠X.env.locals/\p.1∉X.fs/\∀ v,p.2.data≠.cell v):Inv X O J H s :=
 ⟨I.ok,I.os,I.bare,I.base,I.loc,I.cell,I.free,I.cC,fun p U=>(List.mem_append.mp U).elim (fun z=>I.pin p (List.mem_append_left _ z)) (h p),I.hok,I.len⟩
def jX{N:List Str}(I:N.Nodup){i j:Nat}(a:N[i]?=some x)(b:N[j]?=some x):i=j:=by
 obtain⟨Z,U⟩:=List.getElem?_eq_some_iff.mp a;obtain⟨Y,O⟩:=List.getElem?_eq_some_iff.mp b;exact(List.getElem_inj I).mp (U.trans O.symm)
def m9{M:Model}{A:Around}(I:Inv X pins J H s)(hN:X.N.Nodup)(hi:X.N[i]?=some x)(Z:Loc X.env.scope x)(r:RelV v u)
 (h:∀ s',Inv X pins (J.set i (some v)) H s'->(∃ a,Heap.SameBut a s.heap s'.heap/\(a=X.env.locals\/X.env.cells.lookup x=some a))->Q () s')(hf:X.fn x=true\/X.env.scope.names.lookup x=some .local):wpAny M A (storeName X.env x u) Q E s:=by
 obtain⟨m,hn,hl⟩:=id I.loc
 have D:(X.env.scope.kind == .class || (X.env.scope.kind == .module&&X.env.locals != X.env.globals))=false:=by rw[I.ok.kind];rfl
 have l:i<J.length:=by rw[I.len];exact(List.getElem?_eq_some_iff.mp hi).1
 have cne:=I.cne
 have tracked:∀ {a:Addr} {h':Heap},(∃ o,s.heap.get? a=some o/\H a=none)->Heap.SameBut a s.heap h'->HOk X.prog X.w H h':=fun {a h'} ha O b ob e=>by
  obtain⟨_,_,f⟩:=ha;refine(I.hok b ob e).fj (fun c Qa Y q=>(O.2 c ?_).trans q) (fun _ q=>q) fun _ _ q=>q;rintro rfl;rcases Y with rfl | Y
  ·rw[f]at e;cases e
  ·rw[f]at Y;cases Y
 rcases Z with hk | hk
 ·refine wpAny_storeName_local hk hn (fun h' T O=>?_) D;obtain⟨oL,_,_,S,_⟩:=id hn;refine h _ ⟨I.ok,I.os,I.bare,⟨fun b o e n hb Z=>?_,fun b o e n hb Z=>?_,I.base.free,fun b o e Z=>?_,I.base.dB,I.base.c8,I.base.dH⟩,⟨_,T,fun j y K U g V=>?_⟩,fun y c e=>?_,I.free,I.cC,fun p R=>?_,tracked ⟨oL,S,I.free⟩ O,by simpa using I.len⟩ ⟨_,O,.inl rfl⟩
  ·exact(O.2 b (Jl (Ji (Jf e) I.ok.above))).trans (I.base.keep b o e n hb Z)
  ·obtain⟨sl,U⟩:=I.base.slot b o e n hb Z;exact#[sl,(O.2 b (Jl (Ji (Jf e) I.ok.above))).trans U]
  ·obtain⟨o',U⟩:=I.base.there b o e Z;exact#[o',(O.2 b (Jl (Ji (Jf e) I.ok.above))).trans U]
  ·by_cases t:j=i
   ·subst t;rw[hi]at U;cases U;rw[Jk l]at g;cases g;exact#[u,r,.inl #[hk,by simp]]
   ·rw[Jg (Ne.symm t)]at g;obtain⟨L,r',q⟩:=hl j y K U g V;refine#[L,r',?_]
    rcases q with⟨k,e⟩ | ⟨k,c,e,z⟩
    ·refine .inl #[k,?_];have:y≠x:=fun e=>t (jX hN U (e▸hi));simp[this,e]
    ·exact .inr #[k,c,e,z.sameBut O (cne y c e)]
  ·obtain⟨Qa,z⟩:=I.cell y c e;exact#[Qa,z.sameBut O (cne y c e)]
  ·obtain⟨e,n,ne,P,d⟩:=I.pin p R;exact#[(O.2 p.1 ne).trans e,n,ne,P,d]
 ·have hfn:X.fn x=true:=by
   rcases hf with z | z
   ·exact z
   ·rw[z]at hk;cases hk
  obtain⟨c,Y⟩:=I.ok.has x (.inl hk);obtain⟨Qa,z⟩:=I.cell x c Y;refine wpAny_storeName_cell I.ok.kind hk Y z (fun h' G O=>?_);obtain⟨oc,C,B⟩:=id z;refine h { s with heap:=h' } ⟨I.ok,I.os,I.bare,⟨fun b o e n hb Z=>?_,fun b o e n hb Z=>?_,I.base.free,fun b o e Z=>?_,I.base.dB,I.base.c8,I.base.dH⟩,⟨m,hn.sameBut O (Ne.symm (cne x c Y)),fun j y K U g V=>?_⟩,fun y c' e=>?_,I.free,I.cC,fun p R=>?_,tracked ⟨oc,C,I.cC x c Y⟩ O,by simpa using I.len⟩ ⟨c,O,.inr Y⟩
  ·exact(O.2 b (Jl (Ji (Jf e) (I.ok.cab x c hfn Y)))).trans (I.base.keep b o e n hb Z)
  ·obtain⟨sl,U⟩:=I.base.slot b o e n hb Z;exact#[sl,(O.2 b (Jl (Ji (Jf e) (I.ok.cab x c hfn Y)))).trans U]
  ·obtain⟨o',U⟩:=I.base.there b o e Z;exact#[o',(O.2 b (Jl (Ji (Jf e) (I.ok.cab x c hfn Y)))).trans U]
  ·by_cases t:j=i
   ·subst t;rw[hi]at U;cases U;rw[Jk l]at g;cases g;exact#[u,r,.inr #[.inl hk,c,Y,G]]
   ·rw[Jg (Ne.symm t)]at g;obtain⟨L,r',q⟩:=hl j y K U g V;refine#[L,r',?_]
    rcases q with q | ⟨k,c',e,z'⟩
    ·exact .inl q
    ·refine .inr #[k,c',e,z'.sameBut O ?_];rintro rfl;exact t (jX hN U (I.ok.inj _ _ _ e Y▸hi))
  ·by_cases F:c'=c
   ·subst F;exact#[_,G]
   ·obtain⟨w2,z2⟩:=I.cell y c' e;exact#[w2,z2.sameBut O F]
  ·obtain⟨e,n,ne,P,d⟩:=I.pin p R;refine#[(O.2 p.1 ?_).trans e,n,ne,P,d];intro q;rw[q,C]at e;have q':oc=p.2:=Option.some.inj e;exact d Qa (by rw[<-q'];exact B)
def gr(I:Inv X pins J H s)(U:X.N.Nodup)(hi:X.N[i]?=some x)(O:Loc X.env.scope x)(r:RelV v u)
 (h:∀ s',Inv X pins (J.set i (some v)) H s'->Q () s')(hf:X.fn x=true\/X.env.scope.names.lookup x=some .local):wpAny M A (storeName X.env x u) Q E s :=
 m9 I U hi O r (fun s' Y _=>h s' Y) hf
def Inv.mZ(I:Inv X pins J H s)(ho:s'.os=s.os)(u:Un (frs X.stack) ch H H' s.heap s'.heap)(hok:HOk X.prog X.w H' s'.heap)(U:AllBare s'.gens)
 (O:∀ b∈ch,(b∈X.ex\/X.s₀.heap.objs.size<=b)/\b≠X.env.locals/\(∀ x c,X.env.cells.lookup x=some c->c≠b)/\∀ p∈X.pn++pins,p.1≠b):Inv X pins J H' s':=by
 obtain⟨h',g',d',t',o'⟩:=s';have e:o'=s.os:=ho;subst e;exact I.call (g':=g') (t':=t') (d':=d') u hok U O
end
@[reducible]noncomputable def XK:=Value->Option Addr->Hp->Prop
@[reducible]noncomputable def St:=List (Option V)
@[reducible]noncomputable def VK:=V->Hp->Prop
@[reducible]noncomputable def TE:=St->Hp->VK->Prop
@[reducible]noncomputable def TT:=St->Hp->(Bool->Hp->Prop)->Prop
@[reducible]noncomputable def TA:=St->Hp->(List V->Hp->Prop)->Prop
structure Ends where
 nx:St->Hp->Prop
 rt:VK
 bk:St->Hp->Prop:=fun _ _=>False
 ct:St->Hp->Prop:=fun _ _=>False
@[reducible]noncomputable def TS:=Ends->St->Hp->Prop
abbrev EP(X:Cx)(pins:List (Addr × Obj))(J:St)(Q:VK)(u:Value)(s':Shared):Prop:=∃ v H',Inv X pins J H' s'/\RelV v u/\Q v H'
abbrev TP(X:Cx)(pins:List (Addr × Obj))(J:St)(Q:Bool->Hp->Prop)(b:Bool)(s':Shared):Prop:=∃ H',Inv X pins J H' s'/\Q b H'
abbrev AP(X:Cx)(pins:List (Addr × Obj))(J:St)(Q:List V->Hp->Prop)(us:List Value)(s':Shared):Prop:=∃ vs H',Inv X pins J H' s'/\Vals vs us/\Q vs H'
abbrev SP(X:Cx)(pins:List (Addr × Obj))(D:Ends)(f:Flow)(s':Shared):Prop :=
 match f with
 | .next=>∃ I H',Inv X pins I H' s'/\D.nx I H'
 | .brk=>∃ I H',Inv X pins I H' s'/\D.bk I H'
 | .cont=>∃ I H',Inv X pins I H' s'/\D.ct I H'
 | .ret u=>∃ v I H',Inv X pins I H' s'/\RelV v u/\D.rt v H'
abbrev PE(X:Cx)(e:Expr)(t:TE):Prop :=
 ∀ (pins:List (Addr × Obj)) (s:Shared) (J:St) (H:Hp) (Q:VK),Inv X pins J H s->t J H Q->wpAny (model X.prog X.w) X.A (eval e X.env) (EP X pins J Q) X.xe s
abbrev PT(X:Cx)(e:Expr)(t:TT):Prop :=
 ∀ (pins:List (Addr × Obj)) (s:Shared) (J:St) (H:Hp) (Q:Bool->Hp->Prop),Inv X pins J H s->t J H Q->wpAny (model X.prog X.w) X.A (isTrue e X.env (eval e X.env)) (TP X pins J Q) X.xe s
abbrev PW(X:Cx)(e:Expr)(t:TT):Prop :=
 ∀ (whole:Sem Value) (pins:List (Addr × Obj)) (s:Shared) (J:St) (H:Hp) (Q:Bool->Hp->Prop),Inv X pins J H s->t J H Q->wpAny (model X.prog X.w) X.A (isTrue e X.env whole) (TP X pins J Q) X.xe s
def PW.pt(h:PW X e t):PT X e t:=h _
abbrev PA(X:Cx)(es:List Expr)(t:TA):Prop :=
 ∀ (I:Pos) (pins:List (Addr × Obj)) (s:Shared) (J:St) (H:Hp) (Q:List V->Hp->Prop),Inv X pins J H s->t J H Q->wpAny (model X.prog X.w) X.A (spliced (backTo I (starEach es X.env))) (AP X pins J Q) X.xe s
abbrev PS(X:Cx)(st:Stmt)(t:TS):Prop :=
 ∀ (pins:List (Addr × Obj)) (s:Shared) (J:St) (H:Hp) (D:Ends),Inv X pins J H s->t D J H->wpAny (model X.prog X.w) X.A (exec st X.env) (SP X pins D) X.xe s
abbrev PSs(X:Cx)(st:List Stmt)(t:TS):Prop :=
 ∀ (pins:List (Addr × Obj)) (s:Shared) (J:St) (H:Hp) (D:Ends),Inv X pins J H s->t D J H->wpAny (model X.prog X.w) X.A (execs st X.env) (SP X pins D) X.xe s
def thn(h:wpAny M A t Q E s)(I:∀ a s,Q a s->Q' a s):wpAny M A t Q' E s:=wpAny_mono h I fun _ _ x=>x
section
variable{X:Cx}
abbrev eZ(i:Nat):TE:=fun J H Q=>∃ v,J[i]?=some (some v)/\Q v H
abbrev tC(v:V):TE:=fun _ H Q=>Q v H
def c9(d:X.N[i]?=some x)(a:Vis X.env.scope x)(hd:(x == ("__debug__" : Str))=false)(Y:(x == ("__classdict__" : Str))=false):PE X (.Name x pos) (eZ i):=by
 fin2;obtain⟨v,e,h⟩:=h;obtain⟨m,hn,b⟩:=I.loc;obtain⟨u,r,l⟩:=b i x v d e a
 have U:EP X pins J Q u s:=#[v,H,I,r,h]
 rcases l with⟨hk,hm⟩ | ⟨hk,c,Z,O⟩
 ·exact wpAny_Name (wpAny_loadName_local I.ok.kind hk hn hm U) hd
 ·rcases hk with hk | hk
  ·exact wpAny_Name (wpAny_loadName_cell I.ok.kind hk Z O U) hd
  ·exact wpAny_Name (wpAny_loadName_free I.ok.kind hk Z O U Y) hd
def oP:PE X (.Constant (.int i) j pos) (tC (.int i)):=fun _ _ _ H _ I h=>wpAny_Constant_int ⟨.int i,H,I.tok _,⟨_,rfl⟩,h⟩
def D9:PE X (.Constant (.bool b) j pos) (tC (.bl b)):=fun _ _ _ H _ I h=>Constant_bool ⟨.bl b,H,I,rfl,h⟩
def oV:PE X (.Constant .none j pos) (tC .non):=fun _ _ _ H _ I h=>Constant_none ⟨.non,H,I,rfl,h⟩
def oa:PE X (.Constant (.str x) j pos) (tC (.str x)):=fun _ _ _ H _ I h=>Calls.Constant_str ⟨.str x,H,I.tok _,⟨_,rfl⟩,h⟩
abbrev Gl(X:Cx)(x:Str):Prop:=X.env.kindOf x=some .globalImplicit
def cW(I:Inv X pins J H s)(O:Gl X x)(hm:X.mg x=some u)(h:Q u s)
 (hd:(x == ("__debug__" : Str))=false):wpAny (model X.prog X.w) X.A (eval (.Name x pos) X.env) Q E s :=
 Calls.Name_function_global I.ok.kind O (Calls.loadGlobal_global (by rw[I.ok.glob];exact I.mod.glob.keeps I.bk) hm h) hd
def ik(I:Inv X pins J H s)(U:Gl X x)(hm:X.mg x=none)(O:bootBuiltins x=some u)(h:Q u s)
 (hn:x ≠ "__name__")(hd:(x == ("__debug__" : Str))=false):wpAny (model X.prog X.w) X.A (eval (.Name x pos) X.env) Q E s:=by
 obtain⟨mb,Z,Y⟩:=I.mod.blt;exact Calls.Name_function_global I.ok.kind U (Calls.loadGlobal_builtin (by rw[I.ok.glob];exact I.mod.glob.keeps I.bk) hm (by rw[I.ok.blt];exact Z.keeps I.bk) ((Y x hn).trans O) h) hd
def r9(O:Gl X x)(hm:X.mg x=some u)(r:RelV v u)(hd:(x == ("__debug__" : Str))=false):PE X (.Name x pos) (tC v) :=
 fun _ _ _ H _ I h=>cW I O hm ⟨v,H,I,r,h⟩ hd
def rh(U:Gl X x)(hm:X.mg x=none)(O:bootBuiltins x=some u)(r:RelV v u)(hn:x ≠ "__name__")(hd:(x == ("__debug__" : Str))=false):PE X (.Name x pos) (tC v) :=
 fun _ _ _ H _ I h=>ik I U hm O ⟨v,H,I,r,h⟩ hn hd
variable{a b:Expr}{ta tb:TE}{pos:Pos}
abbrev PC(X:Cx)(U:CmpOp)(a b:Expr)(t:TE):Prop :=
 ∀ (pins:List (Addr × Obj)) (s:Shared) (J:St) (H:Hp) (Q:VK),Inv X pins J H s->t J H Q ->
  wpAny (model X.prog X.w) X.A (eval a X.env) (fun v O=>wpAny (model X.prog X.w) X.A (eval b X.env) (fun u I=>wpAny (model X.prog X.w) X.A (compareOp U v u) (EP X pins J Q) X.xe I) X.xe O) X.xe s
abbrev tB(t:TE):TT:=fun J H Q=>t J H fun x I=>∃ c,x=.bl c/\Q c I
def Co(h:PC X op a b t)(U:behindInMarks op b=false):PE X (.Compare a [op] [b] pos) t:=fun pins s J H Q I O=>wpAny_Compare1 (h pins s J H Q I O) U
def CK(h:PC X op a b t)(O:behindInMarks op b=false):PT X (.Compare a [op] [b] pos) (tB t):=by
 intro pins s J H Q I Y;refine wpAny_isTrue_Compare1 (thn (h pins s J H _ I Y) fun v s1 O=>thn O fun u s2 Z=>thn Z fun c g ⟨x,f,e,r1,U⟩=>?_) O;obtain⟨d,rfl,q⟩:=U;cases r1;exact wpAny_truthy_bool ⟨f,e,q⟩
variable{tA tB':TT}{rest:List Expr}
abbrev EM(t u:TT):TT:=fun J H Q=>t J H fun c I=>if c=true then u J I Q else Q false I
abbrev tOr(t u:TT):TT:=fun J H Q=>t J H fun c I=>if c=true then Q true I else u J I Q
abbrev EZ(t:TT):TT:=fun J H Q=>t J H fun c I=>Q (!c) I
def Af(ha:PT X a tA):PW X (.BoolOp .And [a] pos) tA:=by
 intro O pins s J H Q I h;refine isTrue_and (thn (ha pins s J H Q I h) fun c s1 e=>?_)
 cases c with
 | true=>exact isTrue_and_nil e
 | false=>exact e
def B4(ha:PT X a tA):PW X (.BoolOp .Or [a] pos) tA:=by
 intro O pins s J H Q I h;refine isTrue_or (thn (ha pins s J H Q I h) fun c s1 e=>?_)
 cases c with
 | false=>exact isTrue_or_nil e
 | true=>exact e
def AG(ha:PT X a tA)(hb:PW X (.BoolOp .And (b::rest) pos) tB'):PW X (.BoolOp .And (a::b::rest) pos) (EM tA tB'):=by
 intro Z pins s J H Q I h;refine isTrue_and (thn (ha pins s J H _ I h) fun c s1 ⟨Y,U,O⟩=>?_)
 cases c with
 | true=>exact hb Z pins s1 J Y Q U O
 | false=>exact#[Y,U,O]
def D5(ha:PT X a tA)(hb:PW X (.BoolOp .Or (b::rest) pos) tB'):PW X (.BoolOp .Or (a::b::rest) pos) (tOr tA tB'):=by
 intro Z pins s J H Q I h;refine isTrue_or (thn (ha pins s J H _ I h) fun c s1 ⟨Y,U,O⟩=>?_)
 cases c with
 | true=>exact#[Y,U,O]
 | false=>exact hb Z pins s1 J Y Q U O
def C3(ha:PT X a tA):PT X (.UnaryOp .Not a pos) (EZ tA):=by
 fin2;exact isTrue_not (ha pins s J H (fun c O=>Q (!c) O) I h)
abbrev Dz(ta tb:TE):TE:=fun J H Q=>ta J H fun x I=>∃ c,x=.bl c/\if c=true then tb J I Q else Q (.bl false) I
abbrev Ew(ta tb:TE):TE:=fun J H Q=>ta J H fun x I=>∃ c,x=.bl c/\if c=true then Q (.bl true) I else tb J I Q
def BO(h:PE X a t):PE X (.BoolOp op [a] pos) t:=fun pins s J H Q I O=>BoolOp_one (h pins s J H Q I O)
def BA(ha:PE X a ta)(hb:PE X (.BoolOp .And (b::rest) pos) tb):PE X (.BoolOp .And (a::b::rest) pos) (Dz ta tb):=by
 fin2;refine BoolOp_and (thn (ha pins s J H _ I h) fun v s1 ⟨x,Y,U,r1,O⟩=>?_);obtain⟨c,rfl,O⟩:=O;cases r1;refine wpAny_truthy_bool ?_
 cases c with
 | true=>exact hb pins s1 J Y Q U O
 | false=>exact#[.bl false,Y,U,rfl,O]
def DK(ha:PE X a ta)(hb:PE X (.BoolOp .Or (b::rest) pos) tb):PE X (.BoolOp .Or (a::b::rest) pos) (Ew ta tb):=by
 fin2;refine BoolOp_or (thn (ha pins s J H _ I h) fun v s1 ⟨x,Y,U,r1,O⟩=>?_);obtain⟨c,rfl,O⟩:=O;cases r1;refine wpAny_truthy_bool ?_
 cases c with
 | false=>exact hb pins s1 J Y Q U O
 | true=>exact#[.bl true,Y,U,rfl,O]
end
abbrev SqL(K:W.Frag)(H:Hp)(a:Addr)(xs:List V):Prop :=
 Rd H a (.lst xs) \/
  ∃ (o:Obj) (its:Array Value) (n:Nat),K.lookup a=some o/\o.cls=.type "list" /\ o.dict=none/\o.data=.seq its n/\its.size<=sizeLine/\Vals xs its.toList
abbrev SqT(K:W.Frag)(H:Hp)(a:Addr)(xs:List V):Prop :=
 Rd H a (.tup xs) \/
  ∃ (o:Obj) (its:Array Value) (n:Nat),K.lookup a=some o/\o.cls=.type "tuple" /\ o.data=.seq its n/\its.size<=sizeLine/\Vals xs its.toList
abbrev E4:Value->Option V
 | .none=>some .non
 | .bool b=>some (.bl b)
 | .int i _=>some (.int i)
 | .str x _=>some (.str x)
 | .bytes b _=>some (.byt b)
 | .float b _=>some (.flt b)
 | .ref a=>some (.ref a)
 | .type n=>some (.ty n)
 | _=>none
def RelV.abs(r:RelV x u):E4 u=some x:=by
 cases x with
 | non=>cases r;rfl
 | bl _=>cases r;rfl
 | int _=>obtain⟨t,rfl⟩:=r;rfl
 | str _=>obtain⟨t,rfl⟩:=r;rfl
 | byt _=>obtain⟨t,rfl⟩:=r;rfl
 | flt _=>obtain⟨t,rfl⟩:=r;rfl
 | ref _=>cases r;rfl
 | ty _=>cases r;rfl
def RelV.inj(r:RelV x u)(q:RelV y u):x=y:=Option.some.inj (r.abs.symm.trans q.abs)
def Vals.inj:∀ {xs ys:List V} {us:List Value},Vals xs us->Vals ys us->xs=ys
 | _,_,_,.nil,.nil=>rfl
 | _,_,_,.cons r t,.cons r' t'=>by rw[r.inj r',Vals.inj t t']
section
variable{X:Cx}{pins:List (Addr × Obj)}{J:St}{H:Hp}{s:Shared}{a:Addr}{xs ys:List V}
def SqL.of{K:W.Frag}(h:H a=some (.lst xs)):SqL K H a xs:=.inl (.inl h)
def SqT.of{K:W.Frag}(h:H a=some (.tup xs)):SqT K H a xs:=.inl (.inl h)
def Inv.list(I:Inv X pins J H s)(h:SqL X.K H a xs):∃ its:List Value,Vals xs its/\PlainL s.heap a its.toArray/\xs.length<=sizeLine:=by
 rcases h with h | ⟨o,its,n,hk,U,hd,O,Y,r⟩
 ·obtain⟨z,its,n,r,e⟩:=h.ok I.hok;exact#[its,r,#[_,n,e,rfl,rfl,rfl],z]
 ·refine#[its.toList,r,#[o,n,I.kIn a o hk,U,hd,by simpa using O],?_];have e:=r.length;simp only[length_toList]at e;omega
def Inv.tuple(I:Inv X pins J H s)(h:SqT X.K H a xs):∃ its:List Value,Vals xs its/\IsTup s.heap a its.toArray/\xs.length<=sizeLine:=by
 rcases h with h | ⟨o,its,n,hk,U,O,Y,r⟩
 ·obtain⟨z,its,r,p⟩:=h.ok I.hok;exact#[its,r,p,z]
 ·refine#[its.toList,r,#[o,I.kIn a o hk,U,n,by simpa using O],?_];have e:=r.length;simp only[length_toList]at e;omega
def Inv.vW(I:Inv X pins J H s)(h:SqL X.K H a xs)(h':SqL X.K H a ys):xs=ys:=by
 obtain⟨its,r,⟨o,n,e,_,_,d⟩,_⟩:=I.list h;obtain⟨O,r',⟨o',Z,e',_,_,U⟩,_⟩:=I.list h';rw[e]at e';cases e';rw[d]at U;injection U with Y _
 have:its=O:=by simpa using congrArg Array.toList Y
 subst this;exact r.inj r'
def Inv.uC(I:Inv X pins J H s)(h:SqT X.K H a xs)(h':SqT X.K H a ys):xs=ys:=by
 obtain⟨its,r,⟨o,e,_,n,d⟩,_⟩:=I.tuple h;obtain⟨O,r',⟨o',e',_,Z,U⟩,_⟩:=I.tuple h';rw[e]at e';cases e';rw[d]at U;injection U with Y _
 have:its=O:=by simpa using congrArg Array.toList Y
 subst this;exact r.inj r'
end
@[reducible]noncomputable def Cx.dP(X:Cx)(E:Value->Shared->Prop):Cx:={ X with xe:=E }
@[reducible]noncomputable def Cx.nox(X:Cx):Cx:=X.dP fun _ _=>False
def Cx.Ok.dP{X:Cx}(ok:X.Ok)(E:Value->Shared->Prop):(X.dP E).Ok :=
 ⟨ok.mod,ok.kind,ok.glob,ok.blt,ok.above,ok.inj,ok.has,ok.cab,ok.hd,ok.frames,ok.stk,ok.exf,ok.bs,ok.bsz,ok.iD,ok.jc,ok.dh,ok.frf⟩
def Cx.Ok.cM{X:Cx}(ok:(X.dP E).Ok):X.Ok :=
 ⟨ok.mod,ok.kind,ok.glob,ok.blt,ok.above,ok.inj,ok.has,ok.cab,ok.hd,ok.frames,ok.stk,ok.exf,ok.bs,ok.bsz,ok.iD,ok.jc,ok.dh,ok.frf⟩
section
variable{X:Cx}{pins:List (Addr × Obj)}{J:St}{H:Hp}{s:Shared}{E:Value->Shared->Prop}
def Inv.dP(I:Inv X pins J H s)(E:Value->Shared->Prop):Inv (X.dP E) pins J H s:=#[I.ok.dP E,I.os,I.bare,I.base,I.loc,I.cell,I.free,I.cC,I.pin,I.hok,I.len]
def Inv.cM(I:Inv (X.dP E) pins J H s):Inv X pins J H s:=#[I.ok.cM,I.os,I.bare,I.base,I.loc,I.cell,I.free,I.cC,I.pin,I.hok,I.len]
def SP.cM(h:SP (X.dP E) pins D f s'):SP X pins D f s':=by
 cases f with
 | next=>obtain⟨O,H',I,q⟩:=h;exact#[O,H',I.cM,q]
 | brk=>obtain⟨O,H',I,q⟩:=h;exact#[O,H',I.cM,q]
 | cont=>obtain⟨O,H',I,q⟩:=h;exact#[O,H',I.cM,q]
 | ret u=>obtain⟨v,O,H',I,r,q⟩:=h;exact#[v,O,H',I.cM,r,q]
def PE.nox(h:PE X.nox e t):PE X e t:=fun pins s J H Q I O =>
 wpAny_mono (h pins s J H Q (I.dP _) O) (fun _ _ ⟨v,H',U,r,q⟩=>#[v,H',U.cM,r,q]) fun _ _ z=>False.elim z
def PT.nox(h:PT X.nox e t):PT X e t:=fun pins s J H Q I O =>
 wpAny_mono (h pins s J H Q (I.dP _) O) (fun _ _ ⟨H',U,q⟩=>#[H',U.cM,q]) fun _ _ z=>False.elim z
def PSs.nox{st:List Stmt}(h:PSs X.nox st t):PSs X st t:=fun pins s J H D I O =>
 wpAny_mono (h pins s J H D (I.dP _) O) (fun _ _ q=>q.cM) fun _ _ z=>False.elim z
end
section
variable{X:Cx}{st:Stmt}{rest:List Stmt}{t u:TS}{e:Expr}{te:TE}{pos:Pos}
abbrev DI:TS:=fun D J H=>D.nx J H
abbrev Eh(t u:TS):TS:=fun D J H=>t { D with nx:=u D } J H
def eC:PSs X [] DI:=fun _ _ J H _ I h=>wpAny_execs_nil ⟨J,H,I,h⟩
def bg(Y:PS X st t)(U:PSs X rest u):PSs X (st::rest) (Eh t u):=by
 k_mem;refine wpAny_execs_cons (thn (Y pins s J H { D with nx:=u D } I h) fun f s1 q=>?_)
 cases f with
 |next=>
  obtain⟨O,H',Z,q⟩:=q;exact U pins s1 O H' D Z q
 | ret v=>exact q
 | brk=>exact q
 | cont=>exact q
def qU(O:PS X st t):PSs X [st] t:=by
 k_mem;refine wpAny_execs_cons (thn (O pins s J H D I h) fun f s1 q=>?_)
 cases f with
 | next=>exact wpAny_execs_nil q
 | ret v=>exact q
 | brk=>exact q
 | cont=>exact q
def Inv.quiet(I:Inv X pins J H s):interactive X.env=false:=by simp[interactive,I.ok.kind]
abbrev kQ(te:TE):TS:=fun D J H=>te J H fun _ I=>D.nx J I
def fh(Y:PE X e te)(U:swapsWith e none pos.line X.env=pure false):PS X (.Expr e pos) (kQ te):=by
 k_mem;exact wpAny_Expr_any (thn (Y pins s J H _ I h) fun v s1 ⟨x,a,Z,r1,O⟩=>#[J,a,Z,O]) I.quiet U
abbrev EL(te:TE):TS:=fun D J H=>te J H D.rt
def ky(U:PE X e te):PS X (.Return (some e) pos) (EL te):=by
 k_mem;exact wpAny_Return_some (thn (U pins s J H _ I h) fun v s1 ⟨x,Z,Y,r1,O⟩=>#[x,J,Z,Y,r1,O])
abbrev EN(c:TT)(t u:TS):TS:=fun D J H=>c J H fun b I=>if b=true then t D J I else u D J I
def nv(Z:PT X c tc)(ha:PSs X a t)(hb:PSs X b u):PS X (.If c a b pos) (EN tc t u):=by
 k_mem;refine wpAny_If (thn (Z pins s J H _ I h) fun d s1 ⟨Y,U,O⟩=>?_)
 cases d with
 | true=>exact ha pins s1 J Y D U O
 | false=>exact hb pins s1 J Y D U O
end
@[reducible]noncomputable def TG:=V->St->Hp->(St->Hp->Prop)->Prop
@[reducible]noncomputable def TGs:=List V->St->Hp->(St->Hp->Prop)->Prop
abbrev PG(X:Cx)(target:Expr)(t:TG):Prop :=
 ∀ (pins:List (Addr × Obj)) (s:Shared) (J:St) (H:Hp) (v:V) (u:Value) (Q:St->Hp->Prop),Inv X pins J H s->RelV v u->t v J H Q ->
  wpAny (model X.prog X.w) X.A (assign target X.env u) (fun _ s'=>∃ I H',Inv X pins I H' s'/\Q I H') X.xe s
abbrev PGs(X:Cx)(ts:List Expr)(t:TGs):Prop :=
 ∀ (pins:List (Addr × Obj)) (s:Shared) (J:St) (H:Hp) (vs:List V) (us:List Value) (Q:St->Hp->Prop),Inv X pins J H s->Vals vs us->t vs J H Q ->
  wpAny (model X.prog X.w) X.A (assignInOrder ((assignEach ts X.env).map (·.2)) us) (fun _ s'=>∃ I H',Inv X pins I H' s'/\Q I H') X.xe s
section
variable{X:Cx}{pos:Pos}
abbrev fR(i:Nat):TG:=fun v J H Q=>Q (J.set i (some v)) H
def j7(U:X.N.Nodup)(hi:X.N[i]?=some x)(O:Loc X.env.scope x)(hf:X.fn x=true\/X.env.scope.names.lookup x=some .local):PG X (.Name x pos) (fR i):=by
 intro pins s J H v u Q I r h;exact wpAny_assign_Name (gr I U hi O r (fun s' Y=>#[_,H,Y,h]) hf)
abbrev Bl:TGs:=fun vs J H Q=>vs=[]/\Q J H
abbrev yd(t:TG)(u:TGs):TGs:=fun vs J H Q=>∃ v r,vs=v::r/\t v J H fun I H'=>u r I H' Q
def yN:PGs X [] Bl:=by
 intro pins s J H vs us Q I r h;obtain⟨e,h⟩:=h;subst e;cases r;exact assignInOrder_nil ⟨J,H,I,h⟩
def xu(b:PG X e t)(a:PGs X es u)
 (Z:(assignEach (e::es) X.env).map (·.2)=assign e X.env::(assignEach es X.env).map (·.2)):PGs X (e::es) (yd t u):=by
 intro pins s J H vs us Q I r h;obtain⟨v,g,c,h⟩:=h;subst c
 cases r with
 |cons r U=>
  rw[Z];refine assignInOrder_cons (thn (b pins s J H _ _ _ I r h) fun _ s1 ⟨O,f,d,Y⟩=>?_);exact a pins s1 O f _ _ Q d U Y
abbrev l9(K:W.Frag)(n:Nat)(t:TGs):TG:=fun v J H Q=>∃ a xs,v=.ref a/\SqT K H a xs/\xs.length=n/\t xs J H Q
abbrev ko(te:TE)(g:TG):TS:=fun D J H=>te J H fun x I=>g x J I D.nx
def pJ(a:PE X e te)(Z:PG X tg g)(Y:swapsWithSole [tg] e pos.line X.env=pure false)(U:swappedStores [tg] e X.env=pure none)
 (b:(assignEach [tg] X.env).map (·.2)=[assign tg X.env]):PS X (.Assign [tg] e pos) (ko te g):=by
 k_mem;refine wpAny_Assign_stores (thn (a pins s J H _ I h) fun v s1 ⟨x,d,c,r1,O⟩=>?_) Y U;rw[b];exact thn (Z pins s1 J d x v _ c r1 O) fun _ s2 q=>q
def j1(a:X.N.Nodup)(hi:X.N[i]?=some x)(U:Loc X.env.scope x)(Z:PE X e te)(Y:swapsWith e (some (.Name x pos')) pos.line X.env=pure false)(hf:X.fn x=true\/X.env.scope.names.lookup x=some .local) :
  PS X (.Assign [.Name x pos'] e pos) (ko te (fR i)):=by
 k_mem;refine wpAny_Assign_Name (thn (Z pins s J H _ I h) fun v s1 ⟨y,d,c,r1,O⟩=>?_) Y;exact gr c a hi U r1 (fun s2 b=>#[_,d,b,O]) hf
abbrev sr(i j:Nat)(I:TA):TS:=fun D J H=>I J H fun vs O=>∃ v w,vs=[v,w]/\D.nx ((J.set i (some v)).set j (some w)) O
def oY(z:X.calm=true)(k:X.N.Nodup)(hi:X.N[i]?=some x)(u:X.N[j]?=some y)(d:i≠j)
 (g:X.env.scope.names.lookup x=some .local)(f:X.env.scope.names.lookup y=some .local)(ha:PA X [a,b] ta)
 (t:swappedStores [.Tuple [.Name x px,.Name y py] kt pt] (.Tuple [a,b] k2 pt2) X.env=pure (some [x,y]))
 (Qa:swapsWithSole [.Tuple [.Name x px,.Name y py] kt pt] (.Tuple [a,b] k2 pt2) pos.line X.env=pure false) :
  PS X (.Assign [.Tuple [.Name x px,.Name y py] kt pt] (.Tuple [a,b] k2 pt2) pos) (sr i j ta):=by
 k_mem;refine Ja (wpAny_standAt ?_);refine Ja (Jc ?_);refine Ja (Tuple_ (thn (ha _ pins s J H _ I h) fun us s1 ⟨vs,m,F,r1,Z⟩=>?_));obtain⟨v,w,A,Z⟩:=Z;subst A
 obtain⟨U,O,rfl,n,Y⟩:∃ U O,us=[U,O]/\RelV v U/\RelV w O:=by
  cases r1 with
  |cons p q=>
   cases q with
   |cons r q'=>
    cases q';exact#[_,_,rfl,p,r]
 refine wpAny_newObj_type ?_ (by show 2<=sizeLine;decide);have E:Inv X pins J m { s1 with heap:=s1.heap.push { cls:=.type "tuple",data:=.seq [U,O].toArray } }:=F.kept fun b o e=>Jb _ e;rw[t];refine Ja (Jc ?_);refine Ja (wpAny_rule (Ja (unpackItems_tuple (items:=(List.toArray [U,O])) (I.ok.hd.1 z) (IsTup.new s1.heap _) fun h' c=>?_)));have C:=E.kept (t':=s1.toks) fun b o e=>c b o (Jl (Jf e)) e;refine Ja (assignInOrder_cons (wpAny_bindName (gr C k u (.inl f) Y (fun s2 B=>?_) (.inr f))));refine assignInOrder_cons (wpAny_bindName (gr B k hi (.inl g) n (fun G l=>assignInOrder_nil (Jc ?_)) (.inr g)));rw[List.set_comm _ _ (Ne.symm d)]at l;exact#[_,m,l,Z]
end
structure It where
 go:Nat->Hp->Prop
 yld:Nat->Hp->V->Hp->Prop
 stop:Nat->Hp->Prop
abbrev iL(X:Cx)(pins:List (Addr × Obj))(H:Hp)(b:Addr):Prop :=
 H b=none/\b≠X.env.locals/\b∉X.fs/\(b∈X.ex\/X.s₀.heap.objs.size<=b)/\(∀ x c,X.env.cells.lookup x=some c->c≠b)/\∀ p∈X.pn++pins,p.1≠b
def Inv.l8(I:Inv X pins J H s)(hb:s.heap.objs.size<=b)(hn:H' b=none):iL X pins H' b:=by
 refine#[hn,ne_of_gt (Ji I.lt hb),I.EY hb,.inr (Jr I.sz hb),fun x c e z=>?_,fun p O z=>?_]
 ·obtain⟨v,q⟩:=I.cell x c e;exact absurd (Ji q.lt (by rw[z];exact hb)) (Jw _)
 ·exact absurd (Ji (Jf (I.pin p O).1) (by rw[z];exact hb)) (Jw _)
structure kX(CM:Cx->Prop)(P:Program)(w:World)(K:W.Frag)(tg:Expr)(Qa:It)(fp:List Addr)(it:Addr)(tn:Nat->Heap->Prop):Prop where
 mem:it∈fp
 obj:∀ i h,tn i h->∀ b∈fp,∃ o,h.get? b=some o/\∀ v,o.data≠.cell v
 keep:∀ i h h',tn i h->(∀ b∈fp,∀ o,h.get? b=some o->h'.get? b=some o)->tn i h'
 item:∀ (X:Cx),X.prog=P->X.w=w->X.K=K->CM X->∀ (i:Nat) (pins:List (Addr × Obj)) (s:Shared) (J:St) (H:Hp) (E:Value->Shared->Prop),Inv X pins J H s->(∀ b∈fp,iL X pins H b)->tn i s.heap->Qa.go i H ->
  wpAny (model P w) X.A (pyNext (.ref it)) (fun r s1=>∃ u,r=some u /\
   wpAny (model P w) X.A (letOwnedTupleGo tg (.ref it) u) (fun _ s2=>∃ x H',Inv X pins J H' s2/\RelV x u/\Qa.yld i H x H'/\tn (i+1) s2.heap/\∀ b∈fp,H' b=none) E s1) E s
 done:∀ (X:Cx),X.prog=P->X.w=w->X.K=K->CM X->∀ (i:Nat) (pins:List (Addr × Obj)) (s:Shared) (J:St) (H:Hp) (E:Value->Shared->Prop),Inv X pins J H s->(∀ b∈fp,iL X pins H b)->tn i s.heap->Qa.stop i H ->
  wpAny (model P w) X.A (pyNext (.ref it)) (fun r s1=>r=none/\Inv X pins J H s1) E s
 self:∀ (A:Around) (i:Nat) (s:Shared) (Q:Value->Shared->Prop) (E:Value->Shared->Prop),tn i s.heap->Q (.ref it) s->wpAny (model P w) A (pyIter (.ref it)) Q E s
@[reducible]noncomputable def Calm:Cx->Prop:=fun X=>X.calm=true
@[reducible]noncomputable def Turn:=kX Calm
@[reducible]noncomputable def TI:=St->Hp->(It->Hp->Prop)->Prop
abbrev BQ(CM:Cx->Prop)(X:Cx)(pins:List (Addr × Obj))(J:St)(tg:Expr)(R:It->Hp->Prop)(I:Value)(s2:Shared):Prop :=
 ∃ (it:Addr) (fp:List Addr) (tn:Nat->Heap->Prop) (Qa:It) (H':Hp),I=.ref it/\Inv X pins J H' s2/\kX CM X.prog X.w X.K tg Qa fp it tn/\tn 0 s2.heap/\(∀ b∈fp,iL X pins H' b)/\R Qa H'
@[reducible]noncomputable def PIE:=BQ Calm
abbrev PI'(CM:Cx->Prop)(X:Cx)(tg iter:Expr)(I:TI):Prop :=
 ∀ (pins:List (Addr × Obj)) (s:Shared) (J:St) (H:Hp) (R:It->Hp->Prop),Inv X pins J H s->I J H R ->
  wpAny (model X.prog X.w) X.A (eval iter X.env) (fun v s1=>wpAny (model X.prog X.w) X.A (pyIter v) (BQ CM X pins J tg R) X.xe s1) X.xe s
@[reducible]noncomputable def PI:=PI' Calm
def nq(ho:s.heap.get? it=some o)(O:o.cls=.type n)(hd:o.data=.fields vs)
 (hn:["enumerate", "zip", "dict_itemiterator", "dict_reverseitemiterator", "odict_iterator", "itertools.zip_longest", "itertools.pairwise"].contains n=false)(I:Q () s):wpAny M A (letOwnedTupleGo tg (.ref it) u) Q E s:=by
 unfold letOwnedTupleGo
 cases tg<;>first
  | exact Jc I
  | (cases u<;>first
    | exact Jc I
    | (refine Ja (wpAny_load ho ?_)
       rw[O,hd];show wpAny M A (if(["enumerate", "zip", "dict_itemiterator", "dict_reverseitemiterator", "odict_iterator", "itertools.zip_longest", "itertools.pairwise"].contains n&&vs[0]? == some (rawInt _))=true then _ else _) Q E s;rw[if_neg (by intro h;rw[hn,Bool.false_and]at h;cases h)]
       exact Jc I))
abbrev Itl(K:W.Frag)(a:Addr):It :=
 ⟨fun i H=>∃ xs x,SqL K H a xs/\xs[i]?=some x,fun i H x H'=>H'=H/\∀ xs,SqL K H a xs->xs[i]?=some x,fun i H=>∃ xs,SqL K H a xs/\xs.length<=i⟩
abbrev Itt(K:W.Frag)(a:Addr):It :=
 ⟨fun i H=>∃ xs x,SqT K H a xs/\xs[i]?=some x,fun i H x H'=>H'=H/\∀ xs,SqT K H a xs->xs[i]?=some x,fun i H=>∃ xs,SqT K H a xs/\xs.length<=i⟩
abbrev Itr(lo:Int)(n:Nat):It:=#[fun i _=>i<n,fun i H x H'=>H'=H/\x=.int (lo+i),fun i _=>n<=i]
def vt{P:Program}{w:World}{K:W.Frag}(a it:Addr):Turn P w K tg (Itl K a) [it] it (fun i h=>h.IsListIter it a i) where
 mem:=by simp
 obj:=fun i h st b hb=>by
  have e:b=it:=by simpa using hb
  subst e;obtain⟨o,e,c,d⟩:=st;exact⟨o,e,fun v z=>by rw[d]at z;cases z⟩
 keep:=fun i h h' st k=>st.at fun o e=>k it (by simp) o e
 item:=by
  intro X j f l r i pins s J H E I hf st g;subst j f l;obtain⟨xs,x,U,Z⟩:=g;obtain⟨its,Y,p,A⟩:=I.list U;obtain⟨u,hu,y⟩:=Y.get Z;obtain⟨q,f1,f2,f3,n,m⟩:=hf it (by simp);refine wpAny_pyNext_list_item st p.isList (by simpa using hu) fun h' O t=>?_;have D:=I.turned (t':=s.toks) (fun b o hb e=>(t.2 b hb).trans e) q f1 f3 n m;obtain⟨o,e,c,d⟩:=id O;exact#[u,rfl,nq e c d ∅ #[x,H,D,y,#[rfl,fun ys B=>by rw[I.vW B U];exact Z],O,fun b hb=>(hf b hb).1]]
 done:=by
  intro X j f l r i pins s J H E I hf st g;subst j f l;obtain⟨xs,U,Z⟩:=g;obtain⟨its,Y,p,A⟩:=I.list U;obtain⟨q,f1,f2,f3,n,m⟩:=hf it (by simp);have F:=Y.length
  exact wpAny_pyNext_list_end (I.ok.hd.1 r) st p.isList (by simp;omega) fun h' C=>#[rfl,I.turned (fun b o hb e=>C b o hb e) q f1 f3 n m]
 self:=fun _ _ _ _ _ st h=>wpAny_pyIter_listiter st h
def tq{P:Program}{w:World}{K:W.Frag}(a it:Addr):Turn P w K tg (Itt K a) [it] it (fun i h=>h.IsTupleIter it a i) where
 mem:=by simp
 obj:=fun i h st b hb=>by
  have e:b=it:=by simpa using hb
  subst e;obtain⟨o,e,c,d⟩:=st;exact⟨o,e,fun v z=>by rw[d]at z;cases z⟩
 keep:=fun i h h' st k=>st.at fun o e=>k it (by simp) o e
 item:=by
  intro X j f l r i pins s J H E I hf st g;subst j f l;obtain⟨xs,x,U,Z⟩:=g;obtain⟨its,Y,p,A⟩:=I.tuple U;obtain⟨u,hu,y⟩:=Y.get Z;obtain⟨q,f1,f2,f3,n,m⟩:=hf it (by simp);refine wpAny_pyNext_tuple_item st (show s.heap.IsTuple a its.toArray from p) (by simpa using hu) fun h' O t=>?_;have D:=I.turned (t':=s.toks) (fun b o hb e=>(t.2 b hb).trans e) q f1 f3 n m;obtain⟨o,e,c,d⟩:=id O;exact#[u,rfl,nq e c d ∅ #[x,H,D,y,#[rfl,fun ys B=>by rw[I.uC B U];exact Z],O,fun b hb=>(hf b hb).1]]
 done:=by
  intro X j f l r i pins s J H E I hf st g;subst j f l;obtain⟨xs,U,Z⟩:=g;obtain⟨its,Y,p,A⟩:=I.tuple U;obtain⟨q,f1,f2,f3,n,m⟩:=hf it (by simp);have F:=Y.length
  exact wpAny_pyNext_tuple_end (I.ok.hd.1 r) st (show s.heap.IsTuple a its.toArray from p) (by simp;omega) fun h' C=>#[rfl,I.turned (fun b o hb e=>C b o hb e) q f1 f3 n m]
 self:=fun _ _ _ _ _ st h=>wpAny_pyIter_tupleiter st h
def t8{P:Program}{w:World}{K:PySem.W.Frag}(it:Addr)(lo:Int)(n:Nat):Turn P w K tg (Itr lo n) [it] it (fun i h=>IsRangeIter h it (lo+(i:Nat)*1) ((n:Int)-(i:Nat)) 1) where
 mem:=by simp
 obj:=fun i h st b hb=>by
  have e:b=it:=by simpa using hb
  subst e
  exact⟨_,st,fun v z=>by
   have j:=z
   cases j⟩
 keep:=fun i h h' st k=>k it (by simp) _ st
 item:=by
  intro X f d g Y i pins s J H E I hf st U;subst f d g;obtain⟨c,f1,f2,f3,a,Z⟩:=hf it (by simp);have W:=Walks.range (prog:=X.prog) (w:=X.w) (I.ok.hd.1 Y) it lo 1 n;refine W.item i s _ _ U st fun v h' l p O m=>?_;obtain⟨t,rfl⟩:=p;have r:Inv X pins J H { s with heap:=h',toks:=l }:=I.turned (fun b o hb e=>m b o (by simpa using hb) e) c f1 f3 a Z;refine#[_,rfl,nq O rfl rfl ∅ #[.int (lo+i),H,r,#[t,?_],#[rfl,rfl],O,fun b hb=>(hf b hb).1]];rw[Int.mul_one]
 done:=by
  intro X f d g Y i pins s J H E I hf st U;obtain⟨c,f1,f2,f3,a,Z⟩:=hf it (by simp)
  exact wpAny_pyNext_range_end (I.ok.hd.1 Y) st (by have:n<=i:=U;omega) fun h' q=>#[rfl,I.turned (fun b o hb e=>q b o hb e) c f1 f3 a Z]
 self:=fun _ _ _ _ _ st h=>wpAny_pyIter_rangeiter st h
section
variable{X:Cx}{tg:Expr}
def vY{pins:List (Addr × Obj)}{J:St}{H:Hp}{s:Shared}{R:It->Hp->Prop}{E:Value->Shared->Prop}{lo hi:Int}{t u v:Tok}{O:Nat}(I:Inv X pins J H s)(c:-(2 ^ 62)<=lo)(a:lo<2 ^ 62)(Z:-(2 ^ 62)<=hi)(Y:hi<2 ^ 62)
 (q:R (Itr lo (hi-lo).toNat) H):wpAny (model X.prog X.w) X.A (pyIter (.ref s.heap.objs.size)) (PIE X pins J tg R) E { s with heap:=s.heap.push { cls:=.type "range",data:=.fields (List.toArray [.int lo t,.int hi u,.int 1 v]) },toks:=O }:=by
 refine wpAny_pyIter_range (IsRange.new ..) (small_one c a Z Y) ?_;have U:Inv X pins J H { s with heap:=s.heap.push { cls:=.type "range",data:=.fields (List.toArray [.int lo t,.int hi u,.int 1 v]) },toks:=O }:=I.kept fun b o e=>Jb _ e
 refine⟨(s.heap.push { cls:=.type "range",data:=.fields (List.toArray [.int lo t,.int hi u,.int 1 v]) }).objs.size,[(s.heap.push { cls:=.type "range",data:=.fields (List.toArray [.int lo t,.int hi u,.int 1 v]) }).objs.size],_,_,H,rfl,
  U.kept (t':=O) fun b o e=>Jb _ e,t8 _ lo (hi-lo).toNat,?_,fun b hb=>?_,q⟩
 ·have f:lo+((0:Nat):Int)*1=lo:=by simp
  have d:(((hi-lo).toNat:Nat):Int)-((0:Nat):Int)=Builtin.Range.rangeSize lo hi 1:=by rw[rangeSize_one];split<;>omega
  show IsRangeIter _ _ (lo+((0:Nat):Int)*1) ((((hi-lo).toNat:Nat):Int)-((0:Nat):Int)) 1;rw[f,d];exact Jd _ rfl
 ·have e:b=(s.heap.push { cls:=.type "range",data:=.fields (List.toArray [.int lo t,.int hi u,.int 1 v]) }).objs.size:=by simpa using hb
  subst e;exact U.l8 (Je _) (U.hok.fresh (Je _))
abbrev Dj(I:TA):TI:=fun J H R=>I J H fun vs O=>∃ j:Int,vs=[.int j]/\-(2 ^ 62)<=j/\j<2 ^ 62/\R (Itr 0 j.toNat) O
def vd{a:Expr}{Y:TA}{p O:Pos}(d:Gl X "range")(hm:X.mg "range" = none)(ha:PA X [a] Y)(c:starEach [a] X.env=[(false,eval a X.env)]):PI X tg (.Call (.Name "range" p) [a] [] O) (Dj Y):=by
 intro pins s J H R I h;refine Call_ (ik I d hm boot_range (PyProof.Rows.callWith_type1 (thn (ha O pins s J H _ I h) fun us s1 ⟨vs,g,f,r1,U⟩=>?_) c rfl) ∅ ∅);obtain⟨j,e,U,b,q⟩:=U;subst e
 cases r1 with
 |cons r Z=>
  cases Z;obtain⟨t,rfl⟩:=r;exact call_range_1 (vY f (by omega) (by omega) U b (by simpa using q))
abbrev ED(Y:TI)(g:TG)(Z:TS):TS:=fun D J H=>Y J H fun Qa a=>∃ W:Nat->Nat->St->Hp->Prop,(∃ m,W 0 m J a)/\∀ i m J H,W i m J H ->
 (Qa.stop i H/\D.nx J H)\/(Qa.go i H/\∃ N:St->Hp->Prop,(∀ I H',N I H'->∃ U,U<m/\W (i+1) U I H')/\∀ x H',Qa.yld i H x H'->g x J H' fun O H2=>Z { D with nx:=N,ct:=N,bk:=D.nx } O H2)
abbrev jo(fp:List Addr)(h:Heap):List (Addr × Obj):=fp.filterMap fun b=>(h.get? b).map fun o=>(b,o)
def fV(hb:b∈fp)(e:h.get? b=some o):(b,o)∈jo fp h:=List.mem_filterMap.mpr ⟨b,hb,by rw[e];rfl⟩
def v5(I:p∈jo fp h):p.1∈fp/\h.get? p.1=some p.2:=by
 obtain⟨b,hb,e⟩:=List.mem_filterMap.mp I
 cases q:h.get? b with
 | none=>rw[q]at e;cases e
 |some o=>
  rw[q]at e;have e':=Option.some.inj e;subst e';exact#[hb,q]
def Inv.pinned(I:Inv X pins J H s)(hf:∀ b∈fp,iL X pins H b)(ho:∀ b∈fp,∃ o,s.heap.get? b=some o/\∀ v,o.data≠.cell v):Inv X (pins++jo fp s.heap) J H s :=
 I.qD fun p O=>(List.mem_append.mp O).elim (fun z=>I.pin p (Js _ z)) fun z=>by
  obtain⟨hb,e⟩:=v5 z;obtain⟨U,f1,f2,_⟩:=hf p.1 hb;obtain⟨o,e',d⟩:=ho p.1 hb;rw[e]at e';cases e';exact#[e,U,f1,f2,d]
def Inv.iR(I:Inv X (pins++pl) J H s):Inv X pins J H s:=I.qD fun p O=>I.pin p (Js _ (List.mem_append_left _ O))
def uN(q:PassesOwn (model X.prog X.w) X.A X.env X.xe)(L:X.calm=true)(hi:PI X tg iter wi)(hg:PG X tg g)(hb:PSs X body tb)
 (hs:∀ x,foldedSetIterable iter X.env x=pure x):PS X (.For tg iter body [] pos) (ED wi g tb):=by
 k_mem;refine wpAny_For (thn (hi pins s J H _ I h) fun v s1 h1=>thn h1 fun itv s2 h2=>?_) hs;obtain⟨it,fp,tn,Qa,H2,e,I2,T,B,f2,W,⟨m0,w0⟩,turn⟩:=h2;subst e
 have Z:∀ {H':Hp},(∀ b∈fp,H' b=none)->∀ b∈fp,iL X pins H' b:=fun hn b hb=>#[hn b hb,(f2 b hb).2]
 refine codeAny_forLoop_any (fun n s'=>∃ i Y H',Inv X pins Y H' s'/\tn i s'.heap/\(∀ b∈fp,H' b=none)/\W i n Y H') ?_ m0 ⟨0,J,H2,I2,B,fun b hb=>(f2 b hb).1,w0⟩;rintro n K ⟨i,U,y,M,l,t,V⟩
 rcases turn i n U y V with⟨stop,qn⟩ | ⟨go,N,hN,step⟩
 ·refine wpAny_passesOwn q (thn (T.done X rfl rfl rfl L i pins K U y X.xe M (Z t) l stop) fun r s4 ⟨C,I4⟩=>?_);subst C;exact wpAny_execs_nil ⟨U,y,I4,qn⟩
 ·refine wpAny_passesOwn q (thn (T.item X rfl rfl rfl L i pins K U y X.xe M (Z t) l go) fun r s4 ⟨u,C,h4⟩=>?_);subst C;refine wpAny_passesOwn q (thn h4 fun _ G ⟨x,P,I5,r5,Q,k,E⟩=>?_);have F:=I5.pinned (Z E) (T.obj _ _ k);refine wpAny_passesOwn q (thn (hg _ G U P x u _ F r5 (step x P Q)) fun _ s6 ⟨z,H6,I6,q6⟩=>?_);refine wpAny_passesOwn q (thn (hb _ s6 z H6 _ I6 q6) fun f s7 j=>?_)
  have again:∀ {O:St} {c:Hp},Inv X (pins++jo fp G.heap) O c s7->N O c->∃ m,m<n/\∃ i Y H',Inv X pins Y H' s7/\tn i s7.heap/\(∀ b∈fp,H' b=none)/\W i m Y H':=fun {O c} a p=>by
   obtain⟨m',hm,S⟩:=hN O c p;refine#[m',hm,i+1,O,c,a.iR,T.keep _ _ _ k fun b hb o e=>(a.pin (b,o) (Js _ (Js _ (fV hb e)))).1,fun b hb=>?_,S];obtain⟨o,e,d⟩:=T.obj _ _ k b hb;exact(a.pin (b,o) (Js _ (Js _ (fV hb e)))).2.1
  cases f with
  | next=>obtain⟨O,c,a,p⟩:=j;exact again a p
  | cont=>obtain⟨O,c,a,p⟩:=j;exact again a p
  | brk=>obtain⟨O,c,a,j⟩:=j;exact#[O,c,a.iR,j]
  | ret v=>obtain⟨R,O,c,a,r7,j⟩:=j;exact#[R,O,c,a.iR,r7,j]
end
@[reducible]noncomputable def R2:=V->V->Hp->VK->Prop
abbrev OpR(X:Cx)(f:Value->Value->Sem Value)(r:R2):Prop :=
 ∀ (pins:List (Addr × Obj)) (s:Shared) (J:St) (H:Hp) (x y:V) (v u:Value) (Q:VK),Inv X pins J H s->RelV x v->RelV y u->r x y H Q ->
  wpAny (model X.prog X.w) X.A (f v u) (EP X pins J Q) X.xe s
abbrev UnR(X:Cx)(f:Value->Sem Value)(r:V->Hp->VK->Prop):Prop :=
 ∀ (pins:List (Addr × Obj)) (s:Shared) (J:St) (H:Hp) (x:V) (v:Value) (Q:VK),Inv X pins J H s->RelV x v->r x H Q ->
  wpAny (model X.prog X.w) X.A (f v) (EP X pins J Q) X.xe s
abbrev bG(X:Cx)(f:Value)(r:List V->Hp->VK->Prop):Prop :=
 ∀ (pins:List (Addr × Obj)) (s:Shared) (J:St) (H:Hp) (xs:List V) (us:List Value) (Q:VK),Inv X pins J H s->Vals xs us->r xs H Q ->
  wpAny (model X.prog X.w) X.A (call f us) (EP X pins J Q) X.xe s
abbrev EH(X:Cx)(r:V->Hp->(Bool->Hp->Prop)->Prop):Prop :=
 ∀ (pins:List (Addr × Obj)) (s:Shared) (J:St) (H:Hp) (x:V) (v:Value) (Q:Bool->Hp->Prop),Inv X pins J H s->RelV x v->r x H Q ->
  wpAny (model X.prog X.w) X.A (truthy v) (TP X pins J Q) X.xe s
abbrev tOp(r:R2)(O I:TE):TE:=fun J H Q=>O J H fun x U=>I J U fun y H2=>r x y H2 Q
abbrev tUn(r:V->Hp->VK->Prop)(I:TE):TE:=fun J H Q=>I J H fun x O=>r x O Q
abbrev rI(C:Int->Int->Prop)(g:Int->Int->V):R2:=fun x y H Q=>∃ i j,x=.int i/\y=.int j/\C i j/\Q (g i j) H
abbrev rI0(g:Int->Int->V):R2:=fun x y H Q=>∃ i j,x=.int i/\y=.int j/\Q (g i j) H
abbrev rU(g:Int->V):V->Hp->VK->Prop:=fun x H Q=>∃ i,x=.int i/\Q (g i) H
section
variable{X:Cx}{a b c:Expr}{ta tb tc:TE}{pos:Pos}
def xb(ha:PE X a ta)(hb:PE X b tb){pins:List (Addr × Obj)}{s:Shared}{J:St}{H:Hp}{R:V->V->Hp->Prop}(I:Inv X pins J H s)
 (h:ta J H fun x Y=>tb J Y fun y H2=>R x y H2){Q:Value->Shared->Prop}{f:Value->Value->Sem Value}
 (hf:∀ v u s2 x y H2,Inv X pins J H2 s2->RelV x v->RelV y u->R x y H2->wpAny (model X.prog X.w) X.A (f v u) Q X.xe s2) :
  wpAny (model X.prog X.w) X.A (eval a X.env) (fun v U=>wpAny (model X.prog X.w) X.A (eval b X.env) (fun u O=>wpAny (model X.prog X.w) X.A (f v u) Q X.xe O) X.xe U) X.xe s:=by
 refine thn (ha pins s J H _ I h) fun v s1 ⟨x,Y,g,r1,d⟩=>?_;refine thn (hb pins s1 J Y _ g d) fun u s2 ⟨y,H2,e,Z,c⟩=>?_;exact hf v u s2 x y H2 e r1 Z c
def DV{O:Operator}{r:R2}(ho:OpR X (binaryOp O) r)(ha:PE X a ta)(hb:PE X b tb):PE X (.BinOp a O b pos) (tOp r ta tb):=by
 fin2;exact wpAny_BinOp (xb ha hb I h fun v u s2 x y H2 Z Y U q=>ho pins s2 J H2 x y v u Q Z Y U q)
def xW(ho:UnR X (unaryOp op) r)(ha:PE X a ta):PE X (.UnaryOp op a pos) (tUn r ta):=by
 fin2;exact UnaryOp_ (thn (ha pins s J H _ I h) fun v s1 ⟨x,Y,U,r1,O⟩=>ho pins s1 J Y x v Q U r1 O)
def opI{f:Value->Value->Sem Value}{C:Int->Int->Prop}{g:Int->Int->Int}
 (rule:∀ (i j:Int) (t u:Tok) (s:Shared) (Q:Value->Shared->Prop) (E:Value->Shared->Prop),C i j->Q (.int (g i j) s.toks) { s with toks:=s.toks+1 }->wpAny (model X.prog X.w) X.A (f (.int i t) (.int j u)) Q E s) :
  OpR X f (rI C fun i j=>.int (g i j)):=by
 intro pins s J H x y v u Q I Y U h;obtain⟨i,j,rfl,rfl,Z,q⟩:=h;obtain⟨t,rfl⟩:=Y;obtain⟨O,rfl⟩:=U;exact rule i j t O s _ _ Z ⟨.int (g i j),H,I.tok _,⟨_,rfl⟩,q⟩
def AV{f:Value->Value->Sem Value}{g:Int->Int->Int}
 (rule:∀ (i j:Int) (t u:Tok) (s:Shared) (Q:Value->Shared->Prop) (E:Value->Shared->Prop),Q (.int (g i j) s.toks) { s with toks:=s.toks+1 }->wpAny (model X.prog X.w) X.A (f (.int i t) (.int j u)) Q E s) :
  OpR X f (rI0 fun i j=>.int (g i j)):=by
 intro pins s J H x y v u Q I Y U h;obtain⟨i,j,rfl,rfl,q⟩:=h;obtain⟨t,rfl⟩:=Y;obtain⟨O,rfl⟩:=U;exact rule i j t O s _ _ ⟨.int (g i j),H,I.tok _,⟨_,rfl⟩,q⟩
abbrev AA(i j:Int):Prop:=0<=j/\j<=1000000/\i.natAbs<2 ^ 64
abbrev sd(i j:Int):Prop:=(-(2 ^ 64)<i/\i<2 ^ 64)\/(-(2 ^ 64)<j/\j<2 ^ 64)
def sd.ok(h:sd i j):IntMulOk i j:=by
 rcases h with⟨O,I⟩ | ⟨O,I⟩
 ·exact .of_left (intBits_le_64 O I)
 ·exact .of_right (intBits_le_64 O I)
def Dd:OpR X (binaryOp .Add) (rI0 fun i j=>.int (i+j)):=AV fun _ _ _ _ _ _ _ q=>add_int q
def C2:OpR X (binaryOp .Sub) (rI0 fun i j=>.int (i-j)):=AV fun _ _ _ _ _ _ _ q=>sub_int q
def BD:OpR X (binaryOp .Mult) (rI sd fun i j=>.int (i*j)):=opI fun _ _ _ _ _ _ _ I q=>mul_int q I.ok
def AL:OpR X (binaryOp .Mod) (rI (fun _ j=>0<j) fun i j=>.int (i%j)):=opI fun i j _ _ _ _ _ I q=>by
 have O:(0:Int)<j:=I;exact mod_int' (by omega) (by rw[Int.fmod_eq_emod_of_nonneg i (by omega)];exact q)
def Cs:OpR X (binaryOp .Pow) (rI AA fun i j=>.int (i ^ j.toNat)):=opI fun _ _ _ _ _ _ _ I q=>pow_int_small I.1 I.2.1 I.2.2 q
def unI{f:Value->Sem Value}{g:Int->Int}
 (rule:∀ (i:Int) (t:Tok) (s:Shared) (Q:Value->Shared->Prop) (E:Value->Shared->Prop),Q (.int (g i) s.toks) { s with toks:=s.toks+1 }->wpAny (model X.prog X.w) X.A (f (.int i t)) Q E s) :
  UnR X f (rU fun i=>.int (g i)):=by
 intro pins s J H x v Q I O h;obtain⟨i,rfl,q⟩:=h;obtain⟨t,rfl⟩:=O;exact rule i t s _ _ ⟨.int (g i),H,I.tok _,⟨_,rfl⟩,q⟩
def vI:UnR X (unaryOp .USub) (rU fun i=>.int (-i)):=unI fun _ _ _ _ _ q=>neg_int q
end
section
variable{X:Cx}{a b c:Expr}{ta tb tc:TE}{pos:Pos}
def vB(I:Inv X pins J H s)(q:Q (.bl k) H)(e:k=k'):EP X pins J Q (.bool k') s:=by
 subst e;exact#[.bl k,H,I,rfl,q]
def CF:OpR X (compareOp .Is) (fun x y H Q=>y=.non/\Q (.bl (decide (x=.non))) H):=by
 intro pins s J H x y v u Q I O U h;obtain⟨rfl,q⟩:=h;cases U;refine is_none_gen (vB I q ?_)
 cases x<;>first
  | (cases O;rfl)
  | (obtain⟨t,rfl⟩:=O;rfl)
def yW:OpR X (compareOp .IsNot) (fun x y H Q=>y=.non/\Q (.bl (!decide (x=.non))) H):=by
 intro pins s J H x y v u Q I O U h;obtain⟨rfl,q⟩:=h;cases U;refine isnot_none_gen (vB I q ?_)
 cases x<;>first
  | (cases O;rfl)
  | (obtain⟨t,rfl⟩:=O;rfl)
def OpR.or(h:OpR X f r)(h':OpR X f r'):OpR X f (fun x y H Q=>r x y H Q\/r' x y H Q):=by
 intro pins s J H x y v u Q I U O q;rcases q with q | q
 ·exact h pins s J H x y v u Q I U O q
 ·exact h' pins s J H x y v u Q I U O q
def uV(b:Expr)(h:op≠.In)(I:op≠.NotIn):behindInMarks op b=false:=by
 have U:(op == CmpOp.In)=false:=by cases op<;>first | rfl | exact absurd rfl h
 have O:(op == CmpOp.NotIn)=false:=by cases op<;>first | rfl | exact absurd rfl I
 cases b<;>simp[behindInMarks,U,O]
def lh{O:CmpOp}{r:R2}(ho:OpR X (compareOp O) r)(ha:PE X a ta)(hb:PE X b tb)(hm:behindInMarks O b=false):PE X (.Compare a [O] [b] pos) (tOp r ta tb):=by
 fin2;exact wpAny_Compare1 (xb ha hb I h fun v u s2 x y H2 Z Y U q=>ho pins s2 J H2 x y v u Q Z Y U q) hm
abbrev yw(t:TE):TT:=fun J H Q=>t J H fun x H'=>∃ k,x=.bl k/\Q k H'
def l4(ho:OpR X (compareOp op) r)(ha:PE X a ta)(hb:PE X b tb)(hm:behindInMarks op b=false):PT X (.Compare a [op] [b] pos) (yw (tOp r ta tb)):=by
 fin2
 refine wpAny_isTrue_Compare1 (thn (ha pins s J H _ I h) fun v s1 ⟨x,l,i,r1,d⟩=>thn (hb pins s1 J l _ i d) fun u s2 ⟨y,H2,g,U,Z⟩ =>
  thn (ho pins s2 J H2 x y v u _ g r1 U Z) fun c m ⟨z,j,f,O,k,e,Y⟩=>?_) hm
 subst e;cases O;exact wpAny_truthy_bool ⟨j,f,Y⟩
abbrev qe(r r':R2)(ta tb tc:TE):TE:=fun J H Q=>ta J H fun x Y=>tb J Y fun y H2=>r x y H2 fun z I=>∃ k,z=.bl k /\
 (if k=true then tc J I fun O U=>r' y O U Q else Q (.bl false) I)
def xo(ho:OpR X (compareOp op) r)(O:OpR X (compareOp op') r')(ha:PE X a ta)(hb:PE X b tb)(t:PE X c tc)
 (hm:lastMarks [op,op'] [b,c]=false):PE X (.Compare a [op,op'] [b,c] pos) (qe r r' ta tb tc):=by
 fin2
 refine Compare_chain (thn (ha pins s J H _ I h) fun v s1 ⟨x,D,B,r1,q⟩=>chain_link (thn (hb pins s1 J D _ B q) fun u s2 ⟨y,H2,A,U,p⟩ =>
  thn (ho pins s2 J H2 x y v u _ A r1 U p) fun d l ⟨z,f,Z,n,k,e,Y⟩=>?_)) hm
 subst e;cases n;refine wpAny_truthy_bool ?_
 cases k with
 | false=>exact ite_ff ⟨.bl false,f,Z,rfl,Y⟩
 | true=>exact ite_tt (chain_last (thn (t pins l J f _ Z Y) fun i j ⟨g,C,w,m,o⟩=>O pins j J C y g u i Q w U m o))
def xj(ho:OpR X (compareOp op) r)(O:OpR X (compareOp op') r')(ha:PE X a ta)(hb:PE X b tb)(A:PE X c tc)
 (hm:lastMarks [op,op'] [b,c]=false):PT X (.Compare a [op,op'] [b,c] pos) (yw (qe r r' ta tb tc)):=by
 fin2
 refine isTrue_chain (thn (ha pins s J H _ I h) fun v s1 ⟨x,K,F,r1,w⟩=>test_link (thn (hb pins s1 J K _ F w) fun u s2 ⟨y,H2,E,U,t⟩ =>
  thn (ho pins s2 J H2 x y v u _ E r1 U t) fun d l ⟨z,f,Z,o,k,e,Y⟩=>?_)) hm
 subst e;cases o;refine wpAny_truthy_bool ?_
 cases k with
 |false=>
  obtain⟨M,e',q'⟩:=Y;cases e';exact ite_ff ⟨f,Z,q'⟩
 |true=>
  refine ite_tt (test_last (thn (A pins l J f _ Z Y) fun i j ⟨g,Qa,D,n,q⟩=>thn (O pins j J Qa y g u i _ D U n q) fun N L ⟨z2,G,C,m,k2,B,p⟩=>?_));subst B;cases m;exact wpAny_truthy_bool ⟨G,C,p⟩
abbrev sG(K:W.Frag)(x:V)(H:Hp)(k:Bool):Prop :=
 match x with
 | .non=>k=false
 | .bl b=>k=b
 | .int i=>k=(i != 0)
 | .str y=>y.length<=sizeLine/\k=((y.length:Int) != 0)
 | .byt y=>y.size<=sizeLine/\k=((y.size:Int) != 0)
 | .ref p=>(∃ xs,SqL K H p xs/\k=!xs.isEmpty)\/(∃ xs,SqT K H p xs/\k=!xs.isEmpty)\/∃ kvs,H p=some (.dK kvs)/\k=!kvs.isEmpty
 | _=>False
def rQ(r:KV kvs vs):(!vs.isEmpty)=!kvs.isEmpty:=by
 cases r<;>rfl
def kE(r:Vals xs its):(!its.toArray.isEmpty)=!xs.isEmpty:=by
 cases r<;>simp
def nF:(sizeLine:Nat)<2 ^ 63:=by rw[sizeLine_eq];decide
def uz:EH X (fun x H Q=>∃ k,sG X.K x H k/\Q k H):=by
 intro pins s J H x v Q I O h;obtain⟨k,e,q⟩:=h;have d:sizeLine=16777216:=sizeLine_eq
 cases x with
 |non=>
  cases O;have e':=e;subst e';exact truthy_none ⟨H,I,q⟩
 |bl b=>
  cases O;have e':=e;subst e';exact wpAny_truthy_bool ⟨H,I,q⟩
 |int i=>
  obtain⟨t,rfl⟩:=O;have e':=e;subst e';exact PySem.P.truthy_int ⟨H,I,q⟩
 |str y=>
  obtain⟨t,rfl⟩:=O;obtain⟨a,e'⟩:y.length<=sizeLine/\k=((y.length:Int) != 0):=e;subst e';exact PySem.P.truthy_str (by omega) ⟨H,I.tok _,q⟩
 |byt y=>
  obtain⟨t,rfl⟩:=O;obtain⟨a,e'⟩:y.size<=sizeLine/\k=((y.size:Int) != 0):=e;subst e';exact W.truthy_bytes (by omega) ⟨H,I.tok _,q⟩
 |ref p=>
  cases O;have e':=e
  rcases e' with⟨xs,U,e'⟩ | ⟨xs,U,e'⟩ | ⟨kvs,U,e'⟩
  ·subst e';obtain⟨its,r,Y,Z⟩:=I.list U;have hlen:=r.length;exact wpAny_truthy_list Y.isList (by simp only[size_toArray];omega) ⟨H,I.tok _,by rw[kE r];exact q⟩
  ·subst e';obtain⟨its,r,Y,Z⟩:=I.tuple U;have hlen:=r.length;exact truthy_tuple Y (by simp only[size_toArray];omega) ⟨H,I.tok _,by rw[kE r];exact q⟩
  ·subst e';obtain⟨Z,c,vs,r,m⟩:kvs.length<=sizeLine/\(p == sysModules)=false/\∃ vs,KV kvs vs/\s.heap.DictOf (bw X.prog X.w) p vs:=I.hok p _ U;have hlen:kvs.length=vs.length:=Paired.length r;exact wpAny_truthy_dict c m (by omega) ⟨H,I.tok _,by rw[rQ r];exact q⟩
 | _=>exact(show False from e).elim
def xf(ha:PE X a ta)(U:∀ whole,isTrue a X.env whole=(do let v <- whole;standAt a.pos;holding [v] (truthy v))) :
  PT X a (fun J H Q=>ta J H fun x H'=>∃ k,sG X.K x H' k/\Q k H'):=by
 fin2;exact isTrue_plain (thn (ha pins s J H _ I h) fun v s1 ⟨x,Z,Y,r1,O⟩=>uz pins s1 J Z x v Q Y r1 O) (U _)
def si:OpR X (binaryOp .Add) (fun x y H Q=>∃ i j,x=.str i/\y=.str j/\i.length+j.length<=sizeLine/\Q (.str (i++j)) H):=by
 intro pins s J H x y v u Q I Y U h;obtain⟨i,j,rfl,rfl,Z,q⟩:=h;obtain⟨t,rfl⟩:=Y;obtain⟨O,rfl⟩:=U;exact add_str (fun O a=>#[.str (i++j),H,I.tok _,#[_,rfl],q]) Z
def vals1(r:Vals [x] us):∃ u,us=[u]/\RelV x u:=by
 cases r with
 | cons r1 I=>cases I;exact#[_,rfl,r1]
def vals2(r:Vals [x,y] us):∃ u I,us=[u,I]/\RelV x u/\RelV y I:=by
 cases r with
 |cons r1 Y=>
  cases Y with
  | cons U O=>cases O;exact#[_,_,rfl,r1,U]
def vZ:bG X (.builtin "abs") (fun xs H Q=>∃ i,xs=[.int i]/\Q (.int (if i<0 then -i else i)) H):=by
 k_asm;obtain⟨i,rfl,q⟩:=h;obtain⟨u,rfl,t,rfl⟩:=vals1 r
 exact call_abs_int fun u O=>#[.int (if i<0 then -i else i),H,I.tok _,#[_,rfl],q]
def u6(U:X.calm=true):bG X (.builtin "max") (fun xs H Q=>∃ i j,xs=[.int i,.int j]/\Q (.int (if j > i then j else i)) H):=by
 k_asm;obtain⟨i,j,rfl,q⟩:=h;obtain⟨u,Y,rfl,⟨t,rfl⟩,⟨a,rfl⟩⟩:=vals2 r
 refine max_two_ints (I.ok.hd.1 U) fun h' Z k=>#[_,H,I.kept k,?_,q]
 by_cases O:j > i
 ·rw[if_pos O,if_pos O];exact#[_,rfl]
 ·rw[if_neg O,if_neg O];exact#[_,rfl]
def tO(U:X.calm=true):bG X (.builtin "min") (fun xs H Q=>∃ i j,xs=[.int i,.int j]/\Q (.int (if j<i then j else i)) H):=by
 k_asm;obtain⟨i,j,rfl,q⟩:=h;obtain⟨u,Y,rfl,⟨t,rfl⟩,⟨a,rfl⟩⟩:=vals2 r
 refine min_two_ints (I.ok.hd.1 U) fun h' Z k=>#[_,H,I.kept k,?_,q]
 by_cases O:j<i
 ·rw[if_pos O,if_pos O];exact#[_,rfl]
 ·rw[if_neg O,if_neg O];exact#[_,rfl]
def vP:bG X (.type "int") (fun xs H Q=>(∃ i,xs=[.int i]/\Q (.int i) H)\/∃ k,xs=[.bl k]/\Q (.int (if k then 1 else 0)) H):=by
 k_asm
 rcases h with⟨i,rfl,q⟩ | ⟨k,rfl,q⟩
 ·obtain⟨u,rfl,t,rfl⟩:=vals1 r;exact call_int_int ⟨.int i,H,I,⟨_,rfl⟩,q⟩
 ·obtain⟨u,rfl,r1⟩:=vals1 r;cases r1;exact call_int_bool ⟨.int (if k then 1 else 0),H,I.tok _,⟨_,rfl⟩,q⟩
abbrev BI(K:W.Frag)(x:V)(H:Hp)(n:Nat):Prop :=
 match x with
 | .str y=>y.length<=sizeLine/\n=y.length
 | .byt y=>y.size<=sizeLine/\n=y.size
 | .ref p=>(∃ xs,SqL K H p xs/\n=xs.length)\/∃ xs,SqT K H p xs/\n=xs.length
 | _=>False
def vU:bG X (.builtin "len") (fun xs H Q=>∃ x n,xs=[x]/\BI X.K x H n/\Q (.int n) H):=by
 k_asm;obtain⟨x,n,rfl,e,q⟩:=h;obtain⟨u,rfl,O⟩:=vals1 r;have b:sizeLine=16777216:=sizeLine_eq
 cases x with
 |str y=>
  obtain⟨t,rfl⟩:=O;obtain⟨a,e'⟩:y.length<=sizeLine/\n=y.length:=e;subst e';exact len_str (by omega) ⟨.int _,H,I.tok _,⟨_,rfl⟩,q⟩
 |byt y=>
  obtain⟨t,rfl⟩:=O;obtain⟨a,e'⟩:y.size<=sizeLine/\n=y.size:=e;subst e';exact W.len_bytes (by omega) ⟨.int _,H,I.tok _,⟨_,rfl⟩,q⟩
 |ref p=>
  cases O;have e':=e
  rcases e' with⟨xs,Y,e'⟩ | ⟨xs,Y,e'⟩
  ·subst e';obtain⟨its,r',U,Z⟩:=I.list Y;have hlen:=r'.length;exact Calls.call_len_list U.isList (by simp only[size_toArray];omega) ⟨.int xs.length,H,I.tok _,⟨_,by simp only[size_toArray];rw[hlen]⟩,q⟩
  ·subst e';obtain⟨its,r',U,Z⟩:=I.tuple Y;have hlen:=r'.length;exact len_tuple U (by simp only[size_toArray];omega) ⟨.int xs.length,H,I.tok _,⟨_,by simp only[size_toArray];rw[hlen]⟩,q⟩
 | _=>exact(show False from e).elim
end
structure qg(h:Heap)(x dx C:Addr)(mA:Str->Option Value):Prop where
 obj:h.get? x=some (W.instObj C dx)
 ns:h.Ns1 dx mA
 ne:dx≠x
def uI{h:Heap}(n:h.Ns1 dx mA):∃ od,h.get? dx=some od/\∀ name,W.lookIn name od=some (mA name):=by
 obtain⟨o,es,ep,ho,hd,hk,_,hm⟩:=n;refine#[o,ho,fun name=>?_];have e:=hm name;unfold nsFind findBy at e;rw[<-Array.find?_toList]at e;unfold W.lookIn;rw[hd];dsimp only;split
 ·rename_i y q;rw[q]at e;exact congrArg some e
 ·rename_i q;rw[q]at e
  have a:es.toList.any (·.refKey)=false:=by
   rw[List.any_eq_false];intro y O;obtain⟨z,t,I⟩:=hk y (Array.mem_toList_iff.mp O);simp[DictEntry.refKey,I]
  have U:¬ es.toList.any (·.refKey)=true:=by rw[a];exact Jo
  rw[if_neg U];exact congrArg some e
def qg.look(I:qg h x dx C mA):∃ od,W.InstAt h x (W.instObj C dx) C (some od)/\∀ name,W.lookIn name od=some (mA name) :=
 let ⟨od,ho,O⟩:=uI I.ns
 ⟨od,⟨I.obj,rfl,rfl,ho⟩,O⟩
section
variable{prog:Program}{w:World}{A:Around}{E:Value->Shared->Prop}{s:Shared}{K:W.Frag}{x dx C f:Addr}{mA:Str->Option Value}{name:Str}{v:Value}
def zP(X:K.In s.heap)(I:qg s.heap x dx C mA)
 (j:W.findIn K (.ref C) "__setattr__" = some (some (.builtin "object.__setattr__")))(k:W.plainOver K C=true)(g:W.takerIn K C name=some none)(l:W.hasDictIn K C=true)
 (f:PySem.Within mA ns)(i:ns.length<=sizeLine)
 (h:∀ h',qg h' x dx C (fun y=>if y=name then some v else mA y)->Heap.SameBut dx s.heap h'->Q () { s with heap:=h',toks:=s.toks+2 }) :
  wpAny (model prog w) A (setAttr (.ref x) name v) Q E s:=by
 obtain⟨od,Qa,q⟩:=I.look;refine W.set_plain X Qa j (W.osa_open (s:={ s with toks:=s.toks+1 }) (r:=none) X Qa k g fun b=>?_);obtain⟨cd,m,c⟩:=W.any_some l;have e:s.heap.get? x=some ⟨.ref C,some dx,.plain,(List.toArray [])⟩:=I.obj;refine Ja (Jc (Ja (Ja (wpAny_loadPart e (Ja (W.Looks.here (s:={ s with toks:=s.toks+1 }) (W.looks_clsIn X m) ?_))))));rw[c];refine Jc (a:=some dx) (Ja (Jc (Ja ?_)));refine wpAny_nsSet1 (s:={ s with toks:=s.toks+1 }) I.ns fun h' U O=>?_;obtain⟨p,n,o,Y,Z,d⟩:=U.count (PySem.Within.cons name v f);refine Ja (wpAny_lookBehind Y (by rw[Z];exact pastItsLine_dict (Jr d (by rw[length_cons];omega))) ?_);exact Jc (h _ ⟨(O.2 _ (Ne.symm I.ne)).trans I.obj,U,I.ne⟩ O)
def vR(X:K.In s.heap)(hm:W.makesIn K C=true)
 (hi:W.findIn K (.ref C) "__init__" = some (some (.ref f)))(hf:W.typeIn K (.ref f)=some (.type "function"))
 (h:codeAny (model prog w) (A.under (.builtin "type.__call__" ⟨.ref C::vs,kw⟩)) (.call (.ref f) ⟨.ref (s.heap.objs.size+1)::vs,kw⟩) (W.InitBack (s.heap.objs.size+1) R)
   { s with heap:=(s.heap.push W.emptyDict).push (W.instObj C s.heap.objs.size) }) :
  codeAny (model prog w) A (.call (.ref C) ⟨vs,kw⟩) R s:=by
 obtain⟨I,g,d,t,os⟩:=s;exact W.make_core (W.makes_of X hm) (W.looks_findIn X hi) (fun self=>W.bind_fn X self hf) (.inl rfl) h
end
abbrev cE(f:Str)(v:V):List (Str × V)->List (Str × V)
 | []=>[(f,v)]
 | (g,x)::r=>if g=f then(g,v)::r else(g,x)::cE f v r
def jU(f g:Str)(v:V):∀ fs:List (Str × V),(cE f v fs).lookup g=if g=f then some v else fs.lookup g
 | []=>by
  show List.lookup g [(f,v)]=_;by_cases h:g=f
  ·have hb:(g == f)=true:=beq_iff_eq.mpr h;simp only[List.lookup,hb,if_pos h]
  ·have hb:(g == f)=false:=beq_eq_false_iff_ne.mpr h;simp only[List.lookup,hb,if_neg h]
 | (k,x)::r=>by
  have I:=jU f g v r;rw[show cE f v ((k,x)::r)=(if k=f then(k,v)::r else(k,x)::cE f v r)from rfl];by_cases hk:k=f
  ·rw[if_pos hk];by_cases h:g=k
   ·have hb:(g == k)=true:=beq_iff_eq.mpr h;simp only[List.lookup,hb,if_pos (h.trans hk)]
   ·have hb:(g == k)=false:=beq_eq_false_iff_ne.mpr h;simp only[List.lookup,hb,if_neg (fun e:g=f=>h (e.trans hk.symm))]
  ·rw[if_neg hk];by_cases h:g=k
   ·have hb:(g == k)=true:=beq_iff_eq.mpr h;simp only[List.lookup,hb,if_neg (fun e:g=f=>hk (h.symm.trans e))]
   ·have hb:(g == k)=false:=beq_eq_false_iff_ne.mpr h;simp only[List.lookup,hb];exact I
def j2(f:Str)(v:V):∀ fs:List (Str × V),f∈(cE f v fs).map (·.1)/\∀ g,g∈fs.map (·.1)->g∈(cE f v fs).map (·.1)
 | []=>#[by simp[cE],fun g h=>by simp at h]
 | (k,x)::r=>by
  obtain⟨i1,i2⟩:=j2 f v r;rw[show cE f v ((k,x)::r)=(if k=f then(k,v)::r else(k,x)::cE f v r)from rfl];by_cases hk:k=f
  ·rw[if_pos hk];subst hk;exact#[by simp,fun g h=>by simpa using h]
  ·rw[if_neg hk];refine#[?_,fun g h=>?_]
   ·rw[map_cons];exact Jm _ i1
   ·rw[map_cons]at h ⊢;rcases List.mem_cons.mp h with e | e
    ·exact List.mem_cons.mpr (.inl e)
    ·exact Jm _ (i2 g e)
def jP(f:Str)(v:V):∀ fs:List (Str × V),(cE f v fs).length<=fs.length+1
 | []=>by simp[cE]
 | (k,x)::r=>by
  have I:=jP f v r;rw[show cE f v ((k,x)::r)=(if k=f then(k,v)::r else(k,x)::cE f v r)from rfl];by_cases hk:k=f
  ·rw[if_pos hk,length_cons,length_cons];omega
  ·rw[if_neg hk,length_cons,length_cons];omega
section
variable{P:Program}{w:World}{H H':Hp}{h h':Heap}{a C dx:Addr}{fs fs':List (Str × V)}
def qX(hok:HOk P w H h)(e:H a=some (.ins C dx fs)):∃ mA,qg h a dx C mA/\(∀ f,tG (fs.lookup f) (mA f))/\PySem.Within mA (fs.map (·.1))/\fs.length<=1000/\H dx=some (.own a):=by
 obtain⟨d,z,ne,ob,mA,n,r,q⟩:=(show bD P w H h a (.ins C dx fs)from hok a _ e)
 exact#[mA,#[ob,n,ne],r,q,z,d]
end
structure Cls(K:W.Frag)(C:Addr):Prop where
 pg:W.plainGet K C Str.empty=true
 hd:W.hasDictIn K C=true
 po:W.plainOver K C=true
 sa:W.findIn K (.ref C) "__setattr__" = some (some (.builtin "object.__setattr__"))
def Cls.get{K:W.Frag}(c:Cls K C)(f:Str):W.plainGet K C f=true:=c.pg
abbrev bT(K:W.Frag)(C:Addr)(f:Str):Prop:=W.findIn K (.ref C) f=some none
def bT.DW{K:W.Frag}(n:bT K C f):W.takerIn K C f=some none:=by
 unfold W.takerIn;rw[show W.findIn K (.ref C) f=some none from n];rfl
section
variable{X:Cx}{pins:List (Addr × Obj)}{J:St}{H:Hp}{s:Shared}{a C dx:Addr}{fs:List (Str × V)}{f:Str}{v:V}{A:Around}{E:Value->Shared->Prop}
def rM(I:Inv X pins J H s)(e:H a=some (.ins C dx fs))(c:Cls X.K C)(n:bT X.K C f)(k:fs.length<1000)(d:RelV y u)
 (h:∀ s',Inv X pins J (upd H a (.ins C dx (cE f y fs))) s'->Q () s'):wpAny (model X.prog X.w) A (setAttr (.ref a) f u) Q E s:=by
 obtain⟨mA,O,r,Y,_,ho⟩:=qX I.hok e
 have i:(fs.map (·.1)).length<=sizeLine:=by rw[length_map,sizeLine_eq];omega
 refine zP I.kIn O c.sa c.po n.DW c.hd Y i fun h' U Z=>h _ ?_;have hd:∃ o,h'.get? dx=some o:=let ⟨o,_,_,e',_⟩:=U.ns;⟨o,e'⟩;refine I.write (x:=a) (e:=dx) (by rw[e];exact True.intro) (.inr ho) (fun b q hb z=>(Z.2 b hb).trans z) hd ?_;refine#[by rw[ax O.ne];exact ho,?_,O.ne,U.obj,_,U.ns,fun g=>?_,fun g j=>?_]
 ·have:=jP f y fs;omega
 ·show tG ((cE f y fs).lookup g) (if g=f then some u else mA g);rw[jU];by_cases q:g=f
  ·rw[if_pos q,if_pos q];exact d
  ·rw[if_neg q,if_neg q];exact r g
 ·by_cases q:g=f
  ·rw[q];exact(j2 f y fs).1
  ·refine(j2 f y fs).2 g (Y g fun z=>j ?_);show(if g=f then some u else mA g)=none;rw[if_neg q];exact z
def Inv.made(I:Inv X pins J H s):Inv X pins J (upd (upd H s.heap.objs.size (.own (s.heap.objs.size+1))) (s.heap.objs.size+1) (.ins C s.heap.objs.size []))
  { s with heap:=(s.heap.push W.emptyDict).push (W.instObj C s.heap.objs.size) }:=by
 have O:(s.heap.push W.emptyDict).get? s.heap.objs.size=some W.emptyDict:=Jd s.heap rfl
 have c:((s.heap.push W.emptyDict).push (W.instObj C s.heap.objs.size)).get? (s.heap.objs.size+1)=some (W.instObj C s.heap.objs.size):=by
  have:=Jd (s.heap.push W.emptyDict) (o:=W.instObj C s.heap.objs.size) rfl
  rwa [Jt]at this
 have Z:(s.heap.push W.emptyDict).Ns s.heap.objs.size (fun _=>none):=#[W.emptyDict,(List.toArray []),_,O,rfl,(fun e Y=>absurd Y (by simp)),fun _=>rfl]
 have d:=I.laid (a:=s.heap.objs.size) (o:=.own (s.heap.objs.size+1)) (h':=s.heap.push W.emptyDict) (t':=s.toks) (fun b u q=>Jb _ q) (Je _) ⟨_,O⟩;refine d.laid (a:=s.heap.objs.size+1) (o:=.ins C s.heap.objs.size []) (t':=s.toks) (fun b u q=>Jb _ q) (le_of_eq (Jt _ _)) ?_;have ne:s.heap.objs.size≠s.heap.objs.size+1:=Jl (Nat.lt_succ_self _);refine#[by rw[ax ne,aG],zero_le _,ne,c,fun _=>none,(Heap.Ns1.of_empty Z).at fun o q=>Jb _ q,fun _=>True.intro,fun y U=>absurd rfl U]
def yK(hb:attributeBase e f env (eval e env)=eval e env)
 (h:wpAny (model prog w) A (eval e env) (fun o I=>wpAny (model prog w) A (getAttr o f true) Q E I) E s):wpAny (model prog w) A (eval (.Attribute e f pos) env) Q E s :=
 Attribute_any_ h (by rw[arm_eval_Attribute,hb])
end
abbrev EG(K:W.Frag)(O I:TE)(f:Str):TS:=fun D J H=>I J H fun y U=>O J U fun x H2=>∃ a C dx fs,x=.ref a/\H2 a=some (.ins C dx fs)/\Cls K C/\bT K C f/\fs.length<1000 /\
 D.nx J (upd H2 a (.ins C dx (cE f y fs)))
section
variable{X:Cx}{o e value:Expr}{f:Str}{pos pos' tpos:Pos}{ta tv:TE}
def gF(ha:PE X o ta)(b:PE X value tv)(d:swapsWith value (some (.Attribute o f pos')) pos.line X.env=pure false):PS X (.Assign [.Attribute o f pos'] value pos) (EG X.K ta tv f):=by
 k_mem;refine plainObj_wpAny_Assign_Attribute (thn (b pins s J H _ I h) fun u s1 ⟨y,k,j,O,q⟩=>thn (ha pins s1 J k _ j q) fun Z s2 ⟨x,H2,i,U,a,C,dx,fs,ex,e,c,n,l,Y⟩=>?_) d;subst ex;obtain rfl:Z=Value.ref a:=U
 exact rM i e c n l O fun m g=>#[J,_,g,Y]
end
section
variable{X:Cx}{pins:List (Addr × Obj)}{J:St}{H:Hp}{s:Shared}{A:Around}{E:Value->Shared->Prop}{Q:Value->Shared->Prop}{c:Value}{b:Bool}
inductive eI (K:W.Frag) (H:Hp):V->Value->Prop where
 | non:eI K H .non (.type "NoneType")
 | bl (x:Bool):eI K H (.bl x) (.type "bool")
 | int (i:Int):eI K H (.int i) (.type "int")
 | str (x:Str):eI K H (.str x) (.type "str")
 | flt (x:UInt64):eI K H (.flt x) (.type "float")
 | lst {a:Addr} {xs:List V} (e:H a=some (.lst xs)):eI K H (.ref a) (.type "list")
 | frz {a:Addr} {o:Obj} {xs:List V} (e:H a=some (.frz o (.lst xs))):eI K H (.ref a) (.type "list")
 | tup {a:Addr} {xs:List V} (e:H a=some (.tup xs)):eI K H (.ref a) (.type "tuple")
 | dK {a:Addr} {kvs:List (Key × V)} (e:H a=some (.dK kvs)):eI K H (.ref a) (.type "dict")
 | dT {a:Addr} {kvs:List (List Key × V)} (e:H a=some (.dT kvs)):eI K H (.ref a) (.type "dict")
 | ins {a C dx:Addr} {fs:List (Str × V)} (e:H a=some (.ins C dx fs)) (cl:Cls K C) (ha:W.findIn K (.ref C) "__class__" = some (some (.builtin "object.__class__")))
   (hn:W.specialIn K (.builtin "object.__class__") "__get__" = some (some (.builtin "getset_descriptor.__get__"))) (htk:W.takesIn K (.builtin "object.__class__")=some true)
   (hm:W.mroIn K C (.type "object")=some true):eI K H (.ref a) (.ref C)
def ue(I:Inv X pins J H s)(U:RelV x u)(ty:eI X.K H x t)(e:W.kitOne X.K t c=some b)(h:∀ d,Q (.bool b) { s with toks:=d }) :
  wpAny (model X.prog X.w) A (call (.builtin "isinstance") [u,c]) Q E s:=by
 cases ty with
 | non=>cases(show u=Value.none from U);exact W.kia_one W.kitx_none I.kIn True.intro e (fun z=>nomatch z) h
 | bl y=>cases(show u=Value.bool y from U);exact W.kia_one W.kitx_bool I.kIn True.intro e (fun z=>nomatch z) h
 | int i=>obtain⟨t,q⟩:=(show ∃ t,u=Value.int i t from U);cases q;exact W.kia_one W.kitx_int I.kIn True.intro e (fun z=>nomatch z) h
 | str y=>obtain⟨t,q⟩:=(show ∃ t,u=Value.str y t from U);cases q;exact W.kia_one W.kitx_str I.kIn True.intro e (fun z=>nomatch z) h
 | flt y=>obtain⟨t,q⟩:=(show ∃ t,u=Value.float y t from U);cases q;exact W.kia_one W.kitx_float I.kIn True.intro e (fun z=>nomatch z) h
 |@lst a xs ea=>
  cases(show u=Value.ref a from U)
  obtain⟨_,_,n,_,Y⟩:=(show bD X.prog X.w H s.heap a (.lst xs)from I.hok a _ ea)
  exact W.kia_one W.kitx_list I.kIn ⟨_,Y,rfl⟩ e (fun z=>nomatch z) h
 |@frz a ob xs ea=>
  cases(show u=Value.ref a from U)
  obtain⟨_,_,_,n,_,Y⟩:=(show bD X.prog X.w H s.heap a (.frz ob (.lst xs))from I.hok a _ ea)
  exact W.kia_one W.kitx_list I.kIn ⟨_,Y,rfl⟩ e (fun z=>nomatch z) h
 |@tup a xs ea=>
  cases(show u=Value.ref a from U)
  obtain⟨_,_,_,p⟩:=(show bD X.prog X.w H s.heap a (.tup xs)from I.hok a _ ea)
  obtain⟨o,Y,Z,_⟩:=p;exact W.kia_one W.kitx_tuple I.kIn ⟨o,Y,Z⟩ e (fun z=>nomatch z) h
 |@dK a kvs ea=>
  cases(show u=Value.ref a from U)
  obtain⟨_,_,vs,_,p⟩:=(show bD X.prog X.w H s.heap a (.dK kvs)from I.hok a _ ea)
  obtain⟨o,es,ep,Y,Z,_⟩:=p;exact W.kia_one W.kitx_dict I.kIn ⟨o,Y,Z.1⟩ e (fun z=>nomatch z) h
 |@dT a kvs ea=>
  cases(show u=Value.ref a from U)
  obtain⟨_,_,xs,_,o,es,ep,Y,Z,_⟩:=(show bD X.prog X.w H s.heap a (.dT kvs)from I.hok a _ ea)
  exact W.kia_one W.kitx_dict I.kIn ⟨o,Y,Z.1⟩ e (fun z=>nomatch z) h
 |@ins a C dx fs ea cl ha hn htk hm=>
  cases(show u=Value.ref a from U);obtain⟨mA,O,_⟩:=qX I.hok ea;obtain⟨od,Qa,_⟩:=O.look;exact W.kia_one (W.kitx_own (cl.get _) cl.hd ha hn htk hm) I.kIn Qa e (fun z=>nomatch z) h
end
structure bq(k:Nat)(A:Around):Prop where
 hd:A.handled=none
 dp:A.depth+3*k+5<recursionLimit
 un:A.units+16*k+200<cLine
def bq.mono(r:bq k A)(h:j<=k):bq j A:=⟨r.hd,by have:=r.dp;omega,by have:=r.un;omega⟩
def bq.deeper(r:bq (k+1) A)(env:Env):bq k (A.deeper env) :=
 ⟨r.hd,by have:=r.dp;show A.depth+1+3*k+5<_;omega,by have:=r.un;show A.units+3+16*k+200<_;omega⟩
def rN{A:Around}:(A.under (.builtin "type.__call__" ⟨.ref C::us,kw⟩)).depth=A.depth+1:=by
 first | rfl | simp[Around.under,Code.weight,Code.isCreation,Code.isGuard,Code.isCaller,Code.frames,Code.isFrame,guardIds]
def sY{A:Around}:(A.under (.builtin "type.__call__" ⟨.ref C::us,kw⟩)).units=A.units+1:=by
 first | rfl | simp[Around.under,Code.cUnits,Code.frames,Code.isFrame]
def bq.make(r:bq (k+1) A)(C:Addr)(us:List Value)(I:List (Str × Value)):bq k (A.under (.builtin "type.__call__" ⟨.ref C::us,I⟩)) :=
 ⟨r.hd,by have:=r.dp;rw[rN];omega,by have:=r.un;rw[sY];omega⟩
def bq.depth(r:bq k A):A.depth<recursionLimit:=by have:=r.dp;omega
abbrev iH:TA:=fun _ H Q=>Q [] H
abbrev eL(O:TE)(I:TA):TA:=fun J H Q=>O J H fun x U=>I J U fun xs H2=>Q (x::xs) H2
section
variable{X:Cx}{e:Expr}{es:List Expr}{te:TE}{t:TA}{pos:Pos}
def bE:PA X [] iH:=fun _ _ _ _ H Q I h=>Calls.spliced_nil ⟨[],H,I,.nil,h⟩
def aO(ha:PE X e te)(a:PA X es t)(Z:starEach (e::es) X.env=(false,eval e X.env)::starEach es X.env):PA X (e::es) (eL te t):=by
 intro pos pins s J H Q I h;rw[Z];refine Calls.spliced_cons (thn (ha pins s J H _ I h) fun u s1 ⟨x,d,c,r1,Y⟩=>?_)
 exact thn (a pos pins s1 J d _ c Y) fun us s2 ⟨xs,H2,b,O,U⟩=>#[x::xs,H2,b,.cons r1 O,U]
abbrev Ce(t:TA):TE:=fun J H Q=>t J H fun xs I=>xs.length<=sizeLine/\∀ p,I p=none->Q (.ref p) (upd I p (.tup xs))
abbrev Em(t:TA):TE:=fun J H Q=>t J H fun xs I=>xs.length<=sizeLine/\∀ p,I p=none->Q (.ref p) (upd I p (.lst xs))
def uX(h:PA X es t):PE X (.Tuple es x1 pos) (Ce t):=by
 intro pins s J H Q I U;refine wpAny_Tuple_spliced (thn (h pos pins s J H _ I U) fun us s1 ⟨xs,Y,O,r,z,q⟩=>#[by rw[<-r.length];exact z,?_]);have hf:=O.hok.fresh (Je _);refine#[.ref s1.heap.objs.size,upd Y s1.heap.objs.size (.tup xs),O.laid (fun b u e=>Jb _ e) (Je _) ?_,rfl,q _ hf];exact#[z,us,r,#[_,Jd _ rfl,rfl,_,rfl]]
def oy(h:PA X es t):PE X (.List es pos) (Em t):=by
 intro pins s J H Q I U;refine wpAny_List_spliced (thn (h pos pins s J H _ I U) fun us s1 ⟨xs,Y,O,r,z,q⟩=>#[by rw[<-r.length];exact z,?_]);have hf:=O.hok.fresh (Je _);refine#[.ref s1.heap.objs.size,upd Y s1.heap.objs.size (.lst xs),O.laid (fun b u e=>Jb _ e) (Je _) ?_,rfl,q _ hf];exact#[z,us,0,r,Jd _ rfl]
end
@[reducible]noncomputable def Sp:=List V->Hp->VK->XK->Prop
@[reducible]noncomputable def CXT:=List Env->Hp->Shared->XK->Value->Shared->Prop
structure iE(P:Program)(w:World)(K:W.Frag)(mg:Str->Option Value)(base:Heap)(A:Around)(outer:List Env)(s:Shared)(H:Hp):Prop where
 frames:A.frames=some outer
 mod:Mod K mg base
 bs:∀ b o,base.get? b=some o->s.heap.get? b=some o/\H b=none
 bsz:base.objs.size<=s.heap.objs.size
 dh:s.heap.FunFrames base outer
 frf:∀ b∈frs outer,H b=none
 hok:HOk P w H s.heap
 bare:AllBare s.gens
abbrev CE(outer:List Env)(P:Program)(w:World)(H:Hp)(s:Shared)(Q:VK)(u:Value)(s':Shared):Prop :=
 ∃ v H',s'.os=s.os/\AllBare s'.gens/\Un (frs outer) [] H H' s.heap s'.heap/\HOk P w H' s'.heap/\RelV v u/\Q v H'
abbrev CR(CX:CXT)(outer:List Env)(P:Program)(w:World)(H:Hp)(s:Shared)(Q:VK)(E:XK)(r:Result)(s':Shared):Prop :=
 match r with
 | .ok (.ret u)=>CE outer P w H s Q u s'
 | .ok _=>False
 | .error e=>CX outer H s E e s'
structure aY(P:Program)(w:World)(K:W.Frag)(mg:Str->Option Value)(base:Heap)(CX:CXT)(k:Nat)(f:Addr)(fd:FuncData)(ps:List Str)(sp:Sp):Prop where
 len:∀ vs H Q E,sp vs H Q E->vs.length=ps.length
 run:∀ (A:Around) (outer:List Env) (s:Shared) (H:Hp) (args:Args) (us:List Value) (vs:List V) (Q:VK) (E:XK),bq k A->iE P w K mg base A outer s H->BindsTo s fd args (ps.zip us)->Vals vs us->sp vs H Q E ->
  codeAny (model P w) A (.call (.ref f) args) (CR CX outer P w H s Q E) s
def aY.mono{P:Program}{w:World}{K:W.Frag}(F:aY P w K mg base CX j f fd ps sp)(h:j<=k) :
  aY P w K mg base CX k f fd ps sp:=#[F.len,fun A outer s H args us vs Q E I=>F.run A outer s H args us vs Q E (I.mono h)]
def aY.imp{P:Program}{w:World}{K:W.Frag}{mg:Str->Option Value}{base:Heap}{CX:CXT}{k:Nat}{f:Addr}{fd:FuncData}{ps:List Str}{sp I:Sp}(F:aY P w K mg base CX k f fd ps sp)
 (h:∀ vs H Q E,I vs H Q E->sp vs H Q E):aY P w K mg base CX k f fd ps I :=
 ⟨fun vs H Q E q=>F.len vs H Q E (h _ _ _ _ q),fun A outer s H args us vs Q E Y Z hb O U=>F.run A outer s H args us vs Q E Y Z hb O (h _ _ _ _ U)⟩
def iE.make{P:Program}{w:World}{K:W.Frag}{mg:Str->Option Value}{base:Heap}{A:Around}{outer:List Env}{s:Shared}{H:Hp}(e:iE P w K mg base A outer s H)(C:Addr)(us:List Value)(I:List (Str × Value)) :
  iE P w K mg base (A.under (.builtin "type.__call__" ⟨.ref C::us,I⟩)) outer s H:=#[by first | exact e.frames | (simpa[Around.under,Code.envs,Code.isFrame,pushEnvs]using e.frames),e.mod,e.bs,e.bsz,e.dh,e.frf,e.hok,e.bare]
section
variable{X:Cx}{pins:List (Addr × Obj)}{J:St}{H:Hp}{s s':Shared}
def Inv.pL(I:Inv X pins J H s):iE X.prog X.w X.K X.mg X.base X.A X.stack s H :=
 ⟨I.ok.frames,I.ok.mod,I.bs,Jr I.ok.bsz I.sz,I.stack,I.jC,I.hok,I.bare⟩
def Inv.after(I:Inv X pins J H s)(h:CE X.stack X.prog X.w H s Q u s'):EP X pins J Q u s':=by
 obtain⟨v,H',os,bare,un,hok,r,q⟩:=h;obtain⟨U,g,d,t,O⟩:=s';obtain rfl:O=s.os:=os;exact#[v,H',I.call (h':=U) (g':=g) (d':=d) (t':=t) (ch:=[]) un hok bare (fun b z=>absurd z (by simp)),r,q]
end
abbrev nC(sp:Sp)(I:List V)(E:XK)(t:TA):TE:=fun J H Q=>t J H fun vs O=>sp (vs++I) O Q E
abbrev DD(C:Addr)(sp:Sp)(I:List V)(E:XK)(t:TA):TE:=fun J H Q=>t J H fun vs O=>∀ x dx,O x=none->O dx=none->dx≠x ->
 sp (.ref x::(vs++I)) (upd (upd O dx (.own x)) x (.ins C dx [])) (fun v H2=>v=.non/\Q (.ref x) H2) E
abbrev Binds(K:W.Frag)(fd:FuncData)(ps:List Str)(ds:List Value):Prop :=
 ∀ (s:Shared) (us:List Value),K.In s.heap->(us++ds).length=ps.length->BindsTo s fd ⟨us,[]⟩ (ps.zip (us++ds))
def Binds.all{K:W.Frag}(h:∀ us:List Value,us.length=ps.length->bindArgs fd ⟨us,[]⟩=pure (ps.zip us)):Binds K fd ps []:=fun s us _ I=>by
 rw[Ju]at I ⊢;exact .of_eq (h us I)
abbrev Passes(CX:CXT)(X:Cx)(E:XK):Prop:=∀ (pins:List (Addr × Obj)) (J:St) (H:Hp) (s:Shared) (e:Value) (s':Shared),Inv X pins J H s->CX X.stack H s E e s'->X.xe e s'
section
variable{X:Cx}{CX:CXT}{k:Nat}{f C:Addr}{fd:FuncData}{ps:List Str}{sp:Sp}{dvs:List V}{ds:List Value}{E:XK}{x m:Str}{p pos apos:Pos}{e o:Expr}{es:List Expr}{ta:TE}{t:TA}
def uO(F:aY X.prog X.w X.K X.mg X.base CX k f fd ps sp)(Z:bq k X.A)(hb:Binds X.K fd ps ds)(hd:Vals dvs ds)(Y:Passes CX X E)
 (I:Inv X pins J H s)(r:Vals vs us)(h:sp (vs++dvs) H Q E):wpAny (model X.prog X.w) X.A (call (.ref f) us) (EP X pins J Q) X.xe s:=by
 have U:Vals (vs++dvs) (us++ds):=r.append hd
 have a:(us++ds).length=ps.length:=by rw[<-U.length];exact F.len _ _ _ _ h
 refine wpAny_call (codeAny_mono (F.run X.A X.stack s H ⟨us,[]⟩ (us++ds) (vs++dvs) Q E Z I.pL (hb s us I.kIn a) U h) fun r s' O=>?_)
 cases r with
 | error e=>exact Y pins J H s e s' I O
 |ok b=>
  cases b with
  | ret u=>exact I.after O
  | next=>exact False.elim O
  | brk=>exact False.elim O
  | cont=>exact False.elim O
def lA(F:aY X.prog X.w X.K X.mg X.base CX k f fd ps sp)(Z:bq k X.A)(a:Gl X x)(hm:X.mg x=some (.ref f))(hk:W.keepIn X.K (.ref f)=true)(hb:Binds X.K fd ps ds)(hd:Vals dvs ds)(Y:Passes CX X E)
 (ha:PA X (e::es) t)(O:(x == ("__debug__" : Str))=false)(b:starEach (e::es) X.env=(false,eval e X.env)::starEach es X.env)(hpl:(backTo pos (starEach es X.env)).any (·.1)=false) :
  PE X (.Call (.Name x p) (e::es) [] pos) (nC sp dvs E t):=by
 fin2;refine wpAny_Call_Name_kw (cW I a hm ?_ O);refine W.callWith_K I.ok.mod.kin hk (thn (ha pos pins s J H _ I h) fun us s1 ⟨vs,c,U,r,q⟩=>#[U.kIn,?_]) b hpl;exact uO F Z hb hd Y U r q
structure Mk(K:W.Frag)(C f:Addr):Prop where
 makes:W.makesIn K C=true
 init:W.findIn K (.ref C) "__init__" = some (some (.ref f))
 fn:W.isFn K (.ref f)=true
 kp:W.keepIn K (.ref C)=true
def xn(M:Mk X.K C f)(F:aY X.prog X.w X.K X.mg X.base CX k f fd ps sp)(d:bq (k+1) X.A)(hb:Binds X.K fd ps ds)(hd:Vals dvs ds)
 (c:Passes CX X E)(I:Inv X pins J H s)(r:Vals vs us)
 (h:∀ x dx,H x=none->H dx=none->dx≠x->sp (.ref x::(vs++dvs)) (upd (upd H dx (.own x)) x (.ins C dx [])) (fun v H2=>v=.non/\Q (.ref x) H2) E) :
  wpAny (model X.prog X.w) X.A (call (.ref C) us) (EP X pins J Q) X.xe s:=by
 have Z:=h (s.heap.objs.size+1) s.heap.objs.size (I.hok.fresh (le_succ _)) (I.hok.fresh (Je _)) (Jl (Nat.lt_succ_self _));have U:=Inv.made (C:=C) I;have Y:Vals (V.ref (s.heap.objs.size+1)::(vs++dvs)) (Value.ref (s.heap.objs.size+1)::(us++ds)):=.cons rfl (r.append hd)
 have g:(Value.ref (s.heap.objs.size+1)::us++ds).length=ps.length:=by
  have e:=Y.length;rw[F.len _ _ _ _ Z]at e;exact e.symm
 refine wpAny_call (vR (f:=f) I.kIn M.makes M.init (beq_iff_eq.mp M.fn) (codeAny_mono (F.run _ X.stack _ _ ⟨Value.ref (s.heap.objs.size+1)::us,[]⟩ (Value.ref (s.heap.objs.size+1)::(us++ds)) _ _ E (d.make C us [])
  (U.pL.make C us []) (hb _ (Value.ref (s.heap.objs.size+1)::us) U.kIn g) Y Z) fun r s' O=>?_))
 cases r with
 | error e=>exact c pins J _ _ e s' U O
 |ok i=>
  cases i with
  |ret u=>
   obtain⟨v,H',j,a,ev,b⟩:=U.after O;subst ev;exact#[a,#[V.ref (s.heap.objs.size+1),H',j,rfl,b]]
  | next=>exact False.elim O
  | brk=>exact False.elim O
  | cont=>exact False.elim O
def qB(M:Mk X.K C f)(F:aY X.prog X.w X.K X.mg X.base CX k f fd ps sp)(Z:bq (k+1) X.A)(a:Gl X x)(hm:X.mg x=some (.ref C))(hb:Binds X.K fd ps ds)(hd:Vals dvs ds)(Y:Passes CX X E)
 (ha:PA X (e::es) t)(O:(x == ("__debug__" : Str))=false)(b:starEach (e::es) X.env=(false,eval e X.env)::starEach es X.env)(hpl:(backTo pos (starEach es X.env)).any (·.1)=false) :
  PE X (.Call (.Name x p) (e::es) [] pos) (DD C sp dvs E t):=by
 fin2;refine wpAny_Call_Name_kw (cW I a hm ?_ O);refine W.callWith_K (h₀:=X.base) I.ok.mod.kin M.kp (thn (ha pos pins s J H _ I h) fun us s1 ⟨vs,c,U,r,q⟩=>#[U.kIn,?_]) b hpl;exact xn M F Z hb hd Y U r q
end
structure cU(N P:List Str)(sc:Scope):Prop where
 kind:sc.kind=.function
 co:sc.isCoroutine=false
 gen:sc.isGenerator=false
 nd:N.Nodup
 pre:N.take P.length=P
 par:∀ x∈P,sc.names.lookup x=some .local\/sc.names.lookup x=some .cell
 Bp:∀ y∈sc.names,y.2≠.free
def mJ{kindOf:Str->Option NameKind}:∀ {binds:List (Str × Value)} {m:Str->Option Value},(∀ v,(x,v)∉binds)->bindL kindOf binds m x=m x
 | [],_,_=>rfl
 | (n,v)::r,m,h=>by
  unfold bindL;rw[mJ fun w I=>h w (Jm _ I)];split
  ·have:x≠n:=by rintro rfl;exact h v JA
   simp[this]
  ·rfl
def m8{kindOf:Str->Option NameKind}:∀ {binds:List (Str × Value)} {m:Str->Option Value},(∀ v,(x,v)∉binds)->bindC kindOf binds m x=m x
 | [],_,_=>rfl
 | (n,v)::r,m,h=>by
  unfold bindC;rw[m8 fun w I=>h w (Jm _ I)];split
  ·rfl
  ·have:x≠n:=by rintro rfl;exact h v JA
   simp[this]
def mS{kindOf:Str->Option NameKind}:∀ {P:List Str} {vs:List Value} {i:Nat} {m:Str->Option Value},P.Nodup->P[i]?=some x->vs[i]?=some v->kindOf x=some .local ->
  bindL kindOf (P.zip vs) m x=some v
 | [],_,_,_,_,h,_,_=>by simp at h
 | _::_,[],_,_,_,_,h,_=>by simp at h
 | p::P,w::vs,0,m,nd,h1,h2,hk=>by
  simp at h1 h2;subst h1;subst h2;show bindL kindOf ((p,w)::P.zip vs) m p=_;unfold bindL;rw[mJ fun v I=>(List.nodup_cons.mp nd).1 (of_mem_zip I).1,if_pos hk];simp
 | p::P,w::vs,i+1,m,nd,h1,h2,hk=>by
  unfold bindL;exact mS (List.nodup_cons.mp nd).2 (by simpa using h1) (by simpa using h2) hk
def mG{kindOf:Str->Option NameKind}:∀ {P:List Str} {vs:List Value} {i:Nat} {m:Str->Option Value},P.Nodup->P[i]?=some x->vs[i]?=some v->kindOf x≠some .local ->
  bindC kindOf (P.zip vs) m x=some v
 | [],_,_,_,_,h,_,_=>by simp at h
 | _::_,[],_,_,_,_,h,_=>by simp at h
 | p::P,w::vs,0,m,nd,h1,h2,hk=>by
  simp at h1 h2;subst h1;subst h2;show bindC kindOf ((p,w)::P.zip vs) m p=_;unfold bindC;rw[m8 fun v I=>(List.nodup_cons.mp nd).1 (of_mem_zip I).1,if_neg hk];simp
 | p::P,w::vs,i+1,m,nd,h1,h2,hk=>by
  unfold bindC;exact mG (List.nodup_cons.mp nd).2 (by simpa using h1) (by simpa using h2) hk
abbrev start(N:List Str)(vs:List V):St:=vs.map some++replicate (N.length-vs.length) none
abbrev d7(CX:CXT)(P:Program)(w:World)(K:W.Frag)(mg:Str->Option Value)(base:Heap)(N:List Str)(qual:Str)(scope:Scope)(f:Addr)(cd:Value)(A:Around)(outer:List Env)(s:Shared)(H:Hp)(E:XK):Cx where
 prog:=P
 w:=w
 K:=K
 mg:=mg
 base:=base
 A:=A.deeper (envOfC qual scope s.heap.objs.size f cd)
 N:=N
 s₀:=s
 H₀:=H
 env:=envOfC qual scope s.heap.objs.size f cd
 outer:=outer
 stack:=envOfC qual scope s.heap.objs.size f cd::outer
 ex:=[]
 calm:=true
 fn:=fun _=>true
 pn:=[]
 xe:=fun e s'=>wpAny (model P w) (A.deeper (envOfC qual scope s.heap.objs.size f cd)) (leaving (envOfC qual scope s.heap.objs.size f cd) e) (fun _ I=>CX outer H s E e I) (fun e' I=>CX outer H s E e' I) s'
def oi{sc:Scope}(h:sc.names.lookup x=some .cell):∃ c,(cellsFrom n sc.names []).lookup x=some c:=by
 have q:=W.cellsFrom_some sc.names n [] (.inl h);exact Option.isSome_iff_exists.mp q
def my{CX:CXT}{P:Program}{w:World}{K:W.Frag}{mg:Str->Option Value}{base:Heap}{N ps:List Str}{qual:Str}{scope:Scope}{f:Addr}{cd:Value}{A:Around}{outer:List Env}{s s1:Shared}{H:Hp}{E:XK}{us:List Value}{vs:List V}
 (S:cU N ps scope)(hd:A.handled=none)(O:iE P w K mg base A outer s H)(m:vs.length=ps.length)(r:Vals vs us)
 (x:InCallC s s.heap.objs.size (bindL (envOfC qual scope s.heap.objs.size f cd).kindOf (ps.zip us) fun _=>none) (cellsFrom (s.heap.objs.size+1) scope.names []) (bindC (envOfC qual scope s.heap.objs.size f cd).kindOf (ps.zip us) fun _=>none) s1) :
  Inv (d7 CX P w K mg base N qual scope f cd A outer s H E) [] (start N vs) H s1:=by
 have hpl:ps.length<=N.length:=by have:=congrArg List.length S.pre;rw[length_take]at this;omega
 obtain⟨g,l,rfl,hk⟩:=x.done;have U:∀ b:Addr,b∉(d7 CX P w K mg base N qual scope f cd A outer s H E).ex:=fun b z=>absurd (show b∈([]:List Addr)from z) (by simp)
 refine⟨⟨O.mod,S.kind,rfl,rfl,Je _,fun y z c g I=>?_,fun y Y=>?_,fun y c _ h=>?_,⟨fun _=>hd,.inl hd⟩,Around.frames_deeper O.frames,.inr #[rfl,rfl],fun b z=>absurd z (U b),O.bs,O.bsz,fun b _ _=>U b,fun b z=>absurd z (U b),O.dh,O.frf⟩,
  rfl,O.bare,Un.kept hk,⟨_,x.toInCall.ns,fun i y v g I n=>?_⟩,fun y c h=>#[_,x.cell y c h],O.hok.fresh (Je _),fun y c h=>?_,fun p d=>absurd (show p∈([]:List (Addr × Obj))from d) (by simp),O.hok.kept hk,?_⟩
 ·exact name_of_addr x.apart (PySem.mem_of_lookup g) (PySem.mem_of_lookup I)
 ·have Y:=Y;rcases Y with Y | Y
  ·exact oi Y
  ·exact absurd rfl (S.Bp _ (PySem.mem_of_lookup Y))
 ·exact le_of_lt (x.above y c (PySem.mem_of_lookup h))
 ·have hi:i<vs.length:=by
   unfold start at I;by_cases hi:i<vs.length
   ·exact hi
   ·rw[List.getElem?_append_right (by simpa using hi)]at I;rw[List.getElem?_replicate]at I;split at I<;>cases I
  have ha:vs[i]?=some v:=by
   unfold start at I;rw[List.getElem?_append_left (by simpa using hi),getElem?_map]at I
   cases e:vs[i]? with
   | none=>rw[e]at I;cases I
   | some a=>rw[e]at I;cases I;rfl
  obtain⟨u,hu,j⟩:=r.get ha
  have d:ps[i]?=some y:=by
   rw[<-S.pre,List.getElem?_take_of_lt (by omega)];exact g
  have Z:ps.Nodup:=by rw[<-S.pre];exact S.nd.sublist (List.take_sublist _ _)
  refine#[u,j,?_];rcases S.par y (mem_of_getElem? d)with k | k
  ·exact .inl #[k,mS Z d hu k]
  ·obtain⟨c,e⟩:=oi k;refine .inr #[.inl k,c,e,?_];have q:=x.cell y c e;rw[mG Z d hu (by show scope.names.lookup y≠_;rw[k];decide)]at q;exact q
 ·exact O.hok.fresh (le_of_lt (x.above y c (PySem.mem_of_lookup h)))
 ·unfold start;show _=N.length;rw[length_append,length_map,List.length_replicate];omega
def yk{CX:CXT}{P:Program}{w:World}{K:W.Frag}{mg:Str->Option Value}{base:Heap}{k:Nat}{f:Addr}{name qual:Str}{params:Arguments}{body:List Stmt}{scope:Scope}{l kV doc pm cdv ct oc:Value}{an od:Option Addr}
 {osl:Array (Option Value)}{N ps:List Str}{sp:Sp}(p:K.lookup f=some ⟨oc,od,.func (W.fnOf name qual params body scope l kV doc pm an cdv ct),osl⟩)(j:W.codeIn K cdv qual=true)(S:cU N ps scope)
 (len:∀ vs H Q E,sp vs H Q E->vs.length=ps.length)
 (Y:∀ (A:Around) (outer:List Env) (s:Shared) (H:Hp) (vs:List V) (Q:VK) (E:XK),bq k (A.deeper (envOfC qual scope s.heap.objs.size f cdv))->sp vs H Q E ->
   ∃ t,PSs (d7 CX P w K mg base N qual scope f cdv A outer s H E) body t/\t { nx:=fun _ H'=>Q .non H',rt:=Q } (start N vs) H) :
  aY P w K mg base CX (k+1) f (W.fnOf name qual params body scope l kV doc pm an cdv ct) ps sp:=by
 refine#[len,fun A outer s H args us vs Q E i d hb r a=>?_];have D:=len _ _ _ _ a;have m:K.In s.heap:=d.mod.kin.keeps fun b o e=>(d.bs b o e).1;have h:s.heap.NoLimit:=d.mod.nolimit.keeps fun b o e=>(d.bs b o e).1
 have U:∀ y∈ps.zip us,scope.names.lookup y.1=some .local\/(scope.names.lookup y.1=some .cell/\((cellsFrom (s.heap.objs.size+1) scope.names []).lookup y.1).isSome=true):=fun⟨n,v⟩ z=>by
  rcases S.par n (of_mem_zip z).1 with q | q
  ·exact .inl q
  ·exact .inr #[q,W.cellsFrom_some _ _ _ (.inl q)]
 refine codeAny_call_function i.depth (m _ _ p) rfl S.co S.gen rfl (W.codeRec_of m j) (hb _ _ _ _ ?_);refine wpAny_newFunctionEnv_cells S.kind U fun env F s1 x=>?_;subst F;refine#[h.keeps x.toInCall.keep,codeAny_func ?_];obtain⟨t,B,C⟩:=Y A outer s H vs Q E (i.deeper _) a;have I:Inv (d7 CX P w K mg base N qual scope f cdv A outer s H E) [] (start N vs) H s1:=my S i.hd d D r x;refine wpAny_mono (B [] s1 (start N vs) H _ I C) (fun G s' Z=>?_) fun e s' Z=>Z
 have c:∀ {O:St} {H':Hp} {v:V} {u:Value},Inv (d7 CX P w K mg base N qual scope f cdv A outer s H E) [] O H' s'->RelV v u->Q v H'->CE outer P w H s Q u s' :=
  fun {O H' v u} Qa g q=>#[v,H',Qa.os,Qa.bare,Qa.base,Qa.hok,g,q]
 cases G with
 |ret u=>
  obtain⟨v,O,H',Qa,g,q⟩:=Z;exact c Qa g q
 |next=>
  obtain⟨O,H',Qa,q⟩:=Z;exact c (v:=V.non) (u:=Value.none) Qa rfl q
 |brk=>
  obtain⟨_,_,_,q⟩:=Z;exact False.elim q
 |cont=>
  obtain⟨_,_,_,q⟩:=Z;exact False.elim q
section
variable{X:Cx}{x:Str}{p pos:Pos}{e:Expr}{es:List Expr}{t:TA}{id T:String}{r:List V->Hp->VK->Prop}
abbrev tCB(r:List V->Hp->VK->Prop)(t:TA):TE:=fun J H Q=>t J H fun vs I=>r vs I Q
def fk(b:bG X (.builtin id) r)(Z:Gl X x)(hm:X.mg x=none)(Y:bootBuiltins x=some (.builtin id))(ha:PA X (e::es) t)(hn:x ≠ "__name__")(O:(x == ("__debug__" : Str))=false)
 (a:starEach (e::es) X.env=(false,eval e X.env)::starEach es X.env)(hpl:(backTo pos (starEach es X.env)).any (·.1)=false):PE X (.Call (.Name x p) (e::es) [] pos) (tCB r t):=by
 fin2;refine wpAny_Call_Name_kw (ik I Z hm Y ?_ hn O);exact PyProof.Rows.callWith_builtin1 (thn (ha pos pins s J H _ I h) fun us s1 ⟨vs,d,c,r1,U⟩=>b pins s1 J d vs us Q c r1 U) a hpl
def eD(b:bG X (.type T) r)(Z:Gl X x)(hm:X.mg x=none)(Y:bootBuiltins x=some (.type T))(ha:PA X (e::es) t)(hn:x ≠ "__name__")(O:(x == ("__debug__" : Str))=false)
 (a:starEach (e::es) X.env=(false,eval e X.env)::starEach es X.env)(hpl:(backTo pos (starEach es X.env)).any (·.1)=false):PE X (.Call (.Name x p) (e::es) [] pos) (tCB r t):=by
 fin2;refine wpAny_Call_Name_kw (ik I Z hm Y ?_ hn O);exact PyProof.Rows.callWith_type1 (thn (ha pos pins s J H _ I h) fun us s1 ⟨vs,d,c,r1,U⟩=>b pins s1 J d vs us Q c r1 U) a hpl
end
end L2
namespace HT
open PySem PyProof.Rows
section
variable{prog:Program}{w:World}{A:Around}{E:Value->Shared->Prop}{s:Shared}
def yZ(j:IsTup s.heap t vs.toArray)(hb:IsTup s.heap b I.toArray)(g:vs≠[])
 (l:I=[]->Q (.ref t) s)(k:I≠[]->Q (.ref s.heap.objs.size) { s with heap:=s.heap.push { cls:=.type "tuple",data:=.seq (vs++I).toArray } })
 (d:vs.length+I.length<=sizeLine):wpAny (model prog w) A (binaryOp .Add (.ref t) (.ref b)) Q E s:=by
 obtain⟨⟨cls,dd,data,sl⟩,ho,h,n,hd⟩:=id j;obtain⟨⟨i,a,data2,U⟩,O,Z,f,Y⟩:=id hb;simp only at h hd Z Y;subst h hd Z Y
 have e:vs.toArray++I.toArray=(vs++I).toArray:=by simp
 by_cases c:I=[]
 ·exact concat_meets ⟨_,ho,rfl⟩ ⟨_,O,rfl⟩ noFill_tuple_add seq_tuple_add PySem.F.slot_tuple_add PySem.F.entry_tuple_add (PySem.F.args_tuple_add_2 _ _)
   (tuple_addW1 t b vs.toArray I.toArray n f dd a sl U (by simpa using g) (by simp[c])) ⟨ho,O,l c⟩
 ·refine concat_meets ⟨_,ho,rfl⟩ ⟨_,O,rfl⟩ noFill_tuple_add seq_tuple_add PySem.F.slot_tuple_add PySem.F.entry_tuple_add (PySem.F.args_tuple_add_2 _ _)
   (tuple_addW2 t b vs.toArray I.toArray n f dd a sl U (by simpa using g) (by simpa using c) (by rw[size_toArray,size_toArray];exact d)) ⟨ho,O,?_⟩
  rw[e];exact k c
abbrev sIx(n d:Nat):Option Int->Nat
 | none=>d
 | some v=>if v<0 then(v+(n:Int)).toNat else min v.toNat n
def nV(n d:Nat):sIx n d none=d:=rfl
def gd(v:Int)(n d:Nat):(if v<0 then max (v+(n:Int)) 0 else min v (n:Int))=((sIx n d (some v):Nat):Int):=by
 show(if v<0 then max (v+(n:Int)) 0 else min v (n:Int))=(((if v<0 then(v+(n:Int)).toNat else min v.toNat n):Nat):Int);by_cases I:v<0
 ·simp only[if_pos I];omega
 ·simp only[if_neg I];omega
def rX(lo hi:Option Int)(n:Nat):Builtin.Slice.sliceAdjust lo hi 1 (n:Int)=(((sIx n 0 lo:Nat):Int),((sIx n n hi:Nat):Int)):=by
 have I:¬ (1<0):=by omega
 refine Prod.ext ?_ ?_
 ·cases lo with
  | none=>rfl
  | some v=>exact gd v n 0
 ·cases hi with
  | none=>rfl
  | some v=>exact gd v n n
def sR(i j:Nat):Builtin.Slice.slicePlaces (i:Int) (j:Int) 1=j-i:=by
 unfold Builtin.Slice.slicePlaces
 have I:1 > 0:=by omega
 split<;>omega
def kO(p:IsPart v o)(h:Q o s):wpAny (model prog w) A (Builtin.Slice.slicePartIndex v) Q E s:=by
 cases p with
 | none=>exact slicePart_none h
 | int i t=>exact slicePart_int h
def kf{sl:Addr}{Y U:Value}{lo hi:Option Int}{n:Nat}{Q:Int × Int × Nat->Shared->Prop}(b:s.heap.IsSliceOf sl Y U .none)(a:IsPart Y lo)(Z:IsPart U hi)
 (h:Q (((sIx n 0 lo:Nat):Int),1,sIx n n hi-sIx n 0 lo) s):wpAny (model prog w) A (Builtin.Slice.sliceApplied (.ref sl) (pure (n:Int))) Q E s:=by
 obtain⟨os,I,c,O⟩:=id b;refine Ja (Ja (wpAny_field I O rfl (Ja (wpAny_field I O rfl (Ja (wpAny_field I O rfl (Jc ?_)))))));refine Ja (slicePart_none ?_);refine Ja (kO a (Ja (kO Z (Ja (Jc ?_)))));show wpAny _ _ (match Builtin.Slice.sliceAdjust lo hi 1 (n:Int)with | (lo,hi)=>pure (lo,(1:Int),Builtin.Slice.slicePlaces lo hi 1)) _ _ s;rw[rX lo hi n];show wpAny _ _ (pure (((sIx n 0 lo:Nat):Int),(1:Int),Builtin.Slice.slicePlaces ((sIx n 0 lo:Nat):Int) ((sIx n n hi:Nat):Int) 1)) _ _ s;rw[sR];exact Jc h
def xy(xs:Array Value)(i k:Nat):((List.range k).filterMap fun(m:Nat)=>xs[((i:Int)+(m:Int)*1).toNat]?).toArray=((xs.toList.drop i).take k).toArray:=by
 have e:(fun(m:Nat)=>xs[(i+(m:Int)*1).toNat]?)=fun m=>xs[i+m]?:=by
  funext m
  have:(i+(m:Int)*1).toNat=i+m:=by omega
  rw[this]
 rw[e];have:=pick_run xs i k;rw[List.filterMap_map]at this;have I:((fun x=>xs[x]?) ∘ fun x=>i+x)=fun m=>xs[i+m]?:=rfl;rw[I]at this;rw[this]
def jO{t sl:Addr}{items:Array Value}{c b:Value}{lo hi:Option Int}{Q:Value->Shared->Prop}(O:IsTup s.heap t items)(d:s.heap.IsSliceOf sl c b .none)(f:IsPart c lo)(e:IsPart b hi)
 (g:¬ (sIx items.size 0 lo=0/\sIx items.size items.size hi=items.size))
 (h:Q (.ref s.heap.objs.size) { s with heap:=s.heap.push { cls:=.type "tuple",data:=.seq ((items.toList.drop (sIx items.size 0 lo)).take (sIx items.size items.size hi-sIx items.size 0 lo)).toArray } })
 (i:items.size<=sizeLine):wpAny (model prog w) A (getItem (.ref t) (.ref sl)) Q E s:=by
 have I:sizeOk (.seq ((items.toList.drop (sIx items.size 0 lo)).take (sIx items.size items.size hi-sIx items.size 0 lo)).toArray):=by
  show((items.toList.drop (sIx items.size 0 lo)).take (sIx items.size items.size hi-sIx items.size 0 lo)).toArray.size<=sizeLine;rw[size_toArray,length_take,length_drop,length_toList];omega
 obtain⟨os,U,Z,j⟩:=id d
 have a:s.TypeIs (.ref sl) "slice" := #[os,U,Z]
 unfold getItem
 try with_reducible refine wpAny_holding ?_
 first | refine Ja (Jc ?_) | skip
 refine Ja (wpAny_sequenceKey O.typeIs ∅ ?_)
 refine Ja (wpAny_callSpecial?_slot O.typeIs PyProof.Rows.slot_tuple_getitem
  (wpAny_call_entry PyProof.Rows.slot_tuple_getitem O.typeIs entry_tuple_getitem ?_ (args_tuple_getitem _ _)))
 show wpAny _ _ (Builtin.Tuple.tupleItemsOf (.ref t) >>= _) _ _ s;refine Ja (tupleItemsOf_ O ?_);refine Ja (wpAny_typeOf a ?_);refine Ja (kf d f e ?_)
 have Y:¬ ((((sIx items.size 0 lo:Nat):Int) == 0&&(1:Int) == 1&&(sIx items.size items.size hi-sIx items.size 0 lo) == items.size)=true):=by
  intro q;rw[and_eq_true,and_eq_true]at q;have l:((sIx items.size 0 lo:Nat):Int)=0:=eq_of_beq q.1.1;have k:sIx items.size items.size hi-sIx items.size 0 lo=items.size:=eq_of_beq q.2;exact g ⟨by omega,by omega⟩
 show wpAny _ _ (if(((sIx items.size 0 lo:Nat):Int) == 0&&(1:Int) == 1&&(sIx items.size items.size hi-sIx items.size 0 lo) == items.size)=true then _ else _) _ _ s;rw[if_neg Y,xy]
 first
  | exact Ja (wpAny_newObj_type (Jc ⟨_,rfl,Jc h⟩) I)
  | exact Ja (wpAny_newObj_type (Ja (Jc (Jc ⟨_,rfl,Jc h⟩))) I)
  | exact Ja (Ja (wpAny_newObj_type (Jc (Jc ⟨_,rfl,Jc h⟩)) I))
  | exact Ja (Ja (wpAny_newObj_type (Jc ⟨_,rfl,Jc h⟩) I))
end
end HT
namespace L2
open PySem PySem.Spec PyProof.Rows
@[reducible]noncomputable def TO:=St->Hp->(Option Int->Hp->Prop)->Prop
abbrev PO(X:Cx)(e:Option Expr)(t:TO):Prop :=
 ∀ (pins:List (Addr × Obj)) (s:Shared) (J:St) (H:Hp) (Q:Option Int->Hp->Prop),Inv X pins J H s->t J H Q ->
  wpAny (model X.prog X.w) X.A (evalPart e X.env) (fun u s'=>∃ o H',Inv X pins J H' s'/\IsPart u o/\Q o H') X.xe s
abbrev yH:TO:=fun _ H Q=>Q none H
abbrev DH(t:TE):TO:=fun J H Q=>t J H fun x I=>∃ i,x=.int i/\Q (some i) I
section
variable{X:Cx}{e:Expr}{te:TE}{lo hi:Option Expr}{tl th:TO}{pos p2:Pos}
def qI:PO X none yH:=by
 fin2;exact Jc ⟨none,H,I,.none,h⟩
def qz(h:PE X e te):PO X (some e) (DH te):=by
 intro pins s J H Q I U;refine thn (h pins s J H _ I U) fun u s1 ⟨x,Z,Y,r1,O⟩=>?_;obtain⟨i,rfl,q⟩:=O;obtain⟨t,rfl⟩:=r1;exact#[some i,Z,Y,.int i t,q]
abbrev SlR(X:Cx)(r:V->Option Int->Option Int->Hp->VK->Prop):Prop :=
 ∀ (pins:List (Addr × Obj)) (s:Shared) (J:St) (H:Hp) (x:V) (v O I:Value) (lo hi:Option Int) (sl:Addr) (Q:VK),Inv X pins J H s->RelV x v->s.heap.IsSliceOf sl O I .none->IsPart O lo->IsPart I hi->r x lo hi H Q ->
  ∃ T id,typeLookup (.type T) "__getitem__" = pure (some (.builtin id))/\s.TypeIs v T/\wpAny (model X.prog X.w) X.A (getItem v (.ref sl)) (EP X pins J Q) X.xe s
def SlR.or(h:SlR X r)(h':SlR X r'):SlR X (fun x lo hi H Q=>r x lo hi H Q\/r' x lo hi H Q):=by
 intro pins s J H x v U O lo hi sl Q I Y b a Z q;rcases q with q | q
 ·exact h pins s J H x v U O lo hi sl Q I Y b a Z q
 ·exact h' pins s J H x v U O lo hi sl Q I Y b a Z q
abbrev tSl(r:V->Option Int->Option Int->Hp->VK->Prop)(te:TE)(tl th:TO):TE:=fun J H Q=>te J H fun x O=>tl J O fun l H2=>th J H2 fun u I=>r x l u I Q
def pQ(j:SlR X r)(n:PE X e te)(k:PO X lo tl)(hu:PO X hi th):PE X (.Subscript e (.Slice lo hi none p2) pos) (tSl r te tl th):=by
 fin2;refine Subscript_ (thn (n pins s J H _ I h) fun v s1 ⟨x,B,z,r1,d⟩=>?_);refine wpAny_Slice (thn (k pins s1 J B _ z d) fun Y s2 ⟨l,H2,y,g,c⟩=>thn (hu pins s2 J H2 _ y c) fun U O ⟨u,Z,t,f,a⟩=>?_);rw[evalPart_none];refine Jc ?_;have p:Inv X pins J Z { O with heap:=O.heap.push { cls:=.type "slice",data:=.fields (List.toArray [Y,U,.none]) } }:=t.kept (t':=O.toks) fun b ob q=>Jb _ q;obtain⟨T,id,o,i,m⟩:=j pins { O with heap:=O.heap.push { cls:=.type "slice",data:=.fields (List.toArray [Y,U,.none]) } } J Z x v Y U l u O.heap.objs.size Q p r1 (Heap.IsSliceOf.new ..) g f a;show wpAny (model X.prog X.w) X.A (subscriptTail e (.Slice lo hi none p2) v (.ref O.heap.objs.size)) (EP X pins J Q) X.xe { O with heap:=O.heap.push { cls:=.type "slice",data:=.fields (List.toArray [Y,U,.none]) } };exact tail_any (ops:=[.ref O.heap.objs.size,v]) i o m (by with_unfolding_all rfl)
abbrev jv(xs:List V)(lo hi:Option Int):List V:=(xs.drop (HT.sIx xs.length 0 lo)).take (HT.sIx xs.length xs.length hi-HT.sIx xs.length 0 lo)
def jR(xs:List V)(lo hi:Option Int):(jv xs lo hi).length<=xs.length:=by
 unfold jv;rw[length_take,length_drop];omega
abbrev EA(K:W.Frag):V->Option Int->Option Int->Hp->VK->Prop:=fun x lo hi H Q=>∃ a xs,x=.ref a/\SqT K H a xs /\
 ¬ (HT.sIx xs.length 0 lo=0/\HT.sIx xs.length xs.length hi=xs.length)/\∀ p,H p=none->Q (.ref p) (upd H p (.tup (jv xs lo hi)))
def uG:SlR X (EA X.K):=by
 intro pins s J H x v i g lo hi sl Q I Y f c Z h;obtain⟨a,xs,rfl,d,e,q⟩:=h;cases Y;obtain⟨its,r,U,O⟩:=I.tuple d
 have hlen:its.toArray.size=xs.length:=by rw[size_toArray];exact r.length.symm
 refine#["tuple",_,PyProof.Rows.slot_tuple_getitem.lookup,U.typeIs,?_];refine HT.jO U f c Z (by rw[hlen];exact e) ?_ (by rw[hlen];exact O);rw[hlen];refine#[.ref s.heap.objs.size,_,I.laid (fun b ob q=>Jb _ q) (Je _) ?_,rfl,q _ (I.hok.fresh (Je _))];exact#[Jr (jR xs lo hi) O,_,(r.drop (HT.sIx xs.length 0 lo)).take (HT.sIx xs.length xs.length hi-HT.sIx xs.length 0 lo),IsTup.new _ _]
abbrev DY(K:W.Frag):R2:=fun x y H Q=>∃ a b xs ys,x=.ref a/\y=.ref b/\SqT K H a xs/\SqT K H b ys/\xs≠[]/\xs.length+ys.length<=sizeLine /\
 (ys=[]->Q (.ref a) H)/\(ys≠[]->∀ p,H p=none->Q (.ref p) (upd H p (.tup (xs++ys))))
def Vals.ma(r:Vals xs us):us=[]↔xs=[]:=by
 cases r with
 | nil=>simp
 | cons _ _=>simp
def zO:OpR X (binaryOp .Add) (DY X.K):=by
 intro pins s J H x y v u Q I c Z h;obtain⟨a,b,xs,ys,rfl,rfl,ha,hb,f,Y,e,d⟩:=h;cases c;cases Z;obtain⟨its,r1,p1,_⟩:=I.tuple ha;obtain⟨U,O,p2,_⟩:=I.tuple hb;refine HT.yZ p1 p2 (fun z=>f (r1.ma.mp z)) (fun z=>#[.ref a,H,I,rfl,e (O.ma.mp z)]) (fun z=>?_) (by rw[<-r1.length,<-O.length];exact Y);refine#[.ref s.heap.objs.size,_,I.laid (fun b ob q=>Jb _ q) (Je _) ?_,rfl,d (fun w=>z (O.ma.mpr w)) _ (I.hok.fresh (Je _))];exact#[by rw[length_append];exact Y,_,r1.append O,IsTup.new _ _]
end
abbrev ixN(n:Nat)(i:Int):Option Nat:=if 0<=i then(if i<n then some i.toNat else none)else if -(n:Int)<=i then some (i+n).toNat else none
abbrev atI(xs:List α)(i:Int):Option α:=(ixN xs.length i).bind fun j=>xs[j]?
def Ah(h:ixN n i=some j):seqIndex? i n=some j/\j<n/\-(n:Int)<=i/\i<n:=by
 unfold ixN at h;by_cases O:0<=i
 ·rw[if_pos O]at h;by_cases I:i<n
  ·rw[if_pos I]at h;have e:=Option.some.inj h;exact#[by rw[seqIndex_of O I,e],by omega,by omega,I]
  ·rw[if_neg I]at h;cases h
 ·rw[if_neg O]at h;by_cases I:-n<=i
  ·rw[if_pos I]at h;have e:=Option.some.inj h;exact#[by rw[seqIndex_neg (by omega) I,e],by omega,I,by omega]
  ·rw[if_neg I]at h;cases h
def lj(h:atI xs i=some v):∃ j,seqIndex? i xs.length=some j/\xs[j]?=some v/\j<xs.length/\-(xs.length:Int)<=i/\i<xs.length:=by
 unfold atI at h
 cases e:ixN xs.length i with
 | none=>rw[e]at h;cases h
 |some j=>
  rw[e]at h;obtain⟨Y,U,O,I⟩:=Ah e;exact#[j,Y,h,U,O,I]
abbrev r8(b:Expr):Prop:=∀ o i,subscripted b false o i=operate [o,i] (getItem o i)
abbrev IxR(X:Cx)(r:R2):Prop :=
 ∀ (value slice:Expr) (pins:List (Addr × Obj)) (s:Shared) (J:St) (H:Hp) (x y:V) (v u:Value) (Q:VK),Inv X pins J H s->RelV x v->RelV y u->r x y H Q ->
  subscripted slice false v u=operate [v,u] (getItem v u)->wpAny (model X.prog X.w) X.A (subscriptTail value slice v u) (EP X pins J Q) X.xe s
abbrev MtR(X:Cx)(id:String)(r:V->List V->Hp->VK->Prop):Prop :=
 ∀ (pins:List (Addr × Obj)) (s:Shared) (J:St) (H:Hp) (x:V) (xs:List V) (v:Value) (us:List Value) (Q:VK),Inv X pins J H s->RelV x v->Vals xs us->r x xs H Q ->
  wpAny (model X.prog X.w) X.A (call (.builtin id) (v::us)) (EP X pins J Q) X.xe s
section
variable{X:Cx}{a b:Expr}{ta tb:TE}{pos:Pos}
def IxR.or(h:IxR X r)(h':IxR X r'):IxR X (fun x y H Q=>r x y H Q\/r' x y H Q):=by
 intro value slice pins s J H x y v u Q I U O q Y;rcases q with q | q
 ·exact h value slice pins s J H x y v u Q I U O q Y
 ·exact h' value slice pins s J H x y v u Q I U O q Y
def rY{r:R2}(Z:IxR X r)(ha:PE X a ta)(hb:PE X b tb)(Y:r8 b):PE X (.Subscript a b pos) (tOp r ta tb):=by
 fin2;exact Subscript_ (xb ha hb I h fun v u s2 x y H2 c U O q=>Z a b pins s2 J H2 x y v u Q c U O q (Y _ _))
abbrev Bs(K:W.Frag):R2:=fun x y H Q=>∃ p xs i v,x=.ref p/\y=.int i/\SqL K H p xs/\atI xs i=some v/\Q v H
abbrev Bz(K:W.Frag):R2:=fun x y H Q=>∃ p xs i v,x=.ref p/\y=.int i/\SqT K H p xs/\atI xs i=some v/\Q v H
abbrev Bu:R2:=fun x y H Q=>∃ z i c,x=.str z/\y=.int i/\z.length<=sizeLine/\atI z.cps.toList i=some c/\Q (.str ⟨(List.toArray [c])⟩) H
def zg:IxR X (Bs X.K):=by
 intro value slice pins s J H x y v u Q I f e h b;obtain⟨p,xs,i,z,rfl,rfl,g,l,q⟩:=h;cases f;obtain⟨t,rfl⟩:=e;obtain⟨its,r,Z,A⟩:=I.list g;obtain⟨j,U,o,B,n,m⟩:=lj l;obtain⟨w,d,Y⟩:=r.get o;have k:=r.length;have hn:=nF
 have O:EP X pins J Q w s:=#[z,H,I,Y,q]
 by_cases c:0<=i
 ·have a:i.toNat=j:=by
   rw[seqIndex_of c m]at U;exact Option.some.inj U
  exact item_listR Z.isList c (by omega) (by rw[a];simpa using d) O b
 ·have a:(i+(its.toArray.size:Int)).toNat=j:=by
   rw[seqIndex_neg (by omega) n]at U;rw[size_toArray,<-k];exact Option.some.inj U
  exact subscriptTail_builtinR Z.isList.typeIs slot_list_getitem.lookup
   (wpAny_getItem_list_neg Z.isList (by omega) (by rw[size_toArray]<;>omega) (by omega) (by rw[a];simpa using d) ⟨rfl,O⟩) b
def Cn:IxR X (Bz X.K):=by
 intro value slice pins s J H x y v u Q I a Z h b;obtain⟨p,xs,i,z,rfl,rfl,c,e,q⟩:=h;cases a;obtain⟨t,rfl⟩:=Z;obtain⟨its,r,Y,l⟩:=I.tuple c;obtain⟨j,g,f,o,n,m⟩:=lj e;obtain⟨w,k,O⟩:=r.get f;have d:=r.length;have hn:=nF
 have U:EP X pins J Q w s:=#[z,H,I,O,q]
 exact subscriptTail_builtinR Y.typeIs slot_tuple_getitem.lookup
  (getItem_tuple Y (by omega) (by omega) (by rw[size_toArray,<-d];exact g) (by simpa using k) ⟨rfl,U⟩) b
def C4:IxR X Bu:=by
 intro value slice pins s J H x y v u Q I Y U h Z;obtain⟨z,i,c,rfl,rfl,m,b,q⟩:=h;obtain⟨t,rfl⟩:=Y;obtain⟨l,rfl⟩:=U;obtain⟨j,O,f,n,e,d⟩:=lj b
 have a:z.cps.toList.length=z.length:=by simp[Str.length]
 rw[a]at O e d;have hn:=nF
 exact tail_any (typeIs_str s z t) slot_str_getitem.lookup (getItem_str (by
  have k:decide (i < -(2 ^ 63:Int))=false:=Jh (by omega);have g:decide (i≥2 ^ 63)=false:=Jh (by omega)
  rw[k,g,Bool.or_false]) (by rw[O];simpa using f) ⟨.str ⟨(List.toArray [c])⟩,H,I.tok _,⟨_,rfl⟩,q⟩) Z
abbrev rIx(K:W.Frag):R2:=fun x y H Q=>Bs K x y H Q\/Bz K x y H Q\/Bu x y H Q
def nN:IxR X (rIx X.K):=zg.or (Cn.or C4)
def nX(lo hi:Option Int)(n:Nat):(sliceBounds lo hi none n).1=((HT.sIx n 0 lo:Nat):Int)/\(sliceBounds lo hi none n).2.1=((HT.sIx n n hi:Nat):Int)/\(sliceBounds lo hi none n).2.2=1:=by
 refine#[?_,?_,rfl]
 ·cases lo with
  | none=>simp[sliceBounds,HT.sIx]
  |some i=>
   simp only[sliceBounds,HT.sIx,Option.getD_none,show(1:Int) > 0 by decide,if_true];by_cases h:i<0
   ·simp only[h,if_true]<;>omega
   ·simp only[h,if_false]<;>omega
 ·cases hi with
  | none=>simp[sliceBounds,HT.sIx]
  |some i=>
   simp only[sliceBounds,HT.sIx,Option.getD_none,show(1:Int) > 0 by decide,if_true];by_cases h:i<0
   ·simp only[h,if_true]<;>omega
   ·simp only[h,if_false]<;>omega
def mY(its:List Value)(lo hi:Option Int):slicePick its.toArray lo hi none=((its.drop (HT.sIx its.length 0 lo)).take (HT.sIx its.length its.length hi-HT.sIx its.length 0 lo)).toArray:=by
 obtain⟨U,O,I⟩:=nX lo hi its.toArray.size;unfold slicePick;rw[U,O,I];simp only[sliceRange_one,pick_run]<;>rfl
abbrev E8(K:W.Frag):V->Option Int->Option Int->Hp->VK->Prop:=fun x lo hi H Q=>∃ a xs,x=.ref a/\SqL K H a xs/\∀ p,H p=none->Q (.ref p) (upd H p (.lst (jv xs lo hi)))
def qH:SlR X (E8 X.K):=by
 intro pins s J H x v g f lo hi sl Q I U e Z Y h;obtain⟨a,xs,rfl,d,q⟩:=h;cases U;obtain⟨its,r,O,c⟩:=I.list d;have hlen:=r.length;refine#["list",_,slot_list_getitem.lookup,O.isList.typeIs,?_];refine wpAny_getItem_list_slice O.isList e Z Y .none (by simp) ?_ (by rw[size_toArray]<;>omega);rw[mY,<-hlen];refine#[.ref s.heap.objs.size,_,I.laid (fun b ob q=>Jb _ q) (Je _) ?_,rfl,q _ (I.hok.fresh (Je _))];exact#[Jr (jR xs lo hi) c,_,0,(r.drop (HT.sIx xs.length 0 lo)).take (HT.sIx xs.length xs.length hi-HT.sIx xs.length 0 lo),Jd _ rfl]
abbrev fA:V->Bool
 | .non=>true
 | .bl _=>true
 | .int _=>true
 | .str _=>true
 | _=>false
abbrev eqV:V->V->Bool
 | .non,.non=>true
 | .bl a,.bl b=>a == b
 | .bl a,.int b=>(if a then 1 else 0) == b
 | .int a,.bl b=>a == (if b then 1 else 0)
 | .int a,.int b=>a == b
 | .str a,.str b=>a == b
 | _,_=>false
def AE(U:RelV y u)(I:RelV x v)(Z:fA y=true)(Y:fA x=true):SeqAt.EqAt A s u v (eqV y x):=by
 cases y with
 |non=>
  cases U
  cases x with
  | non=>cases I;exact SeqAt.EqAt.same _
  | bl b=>cases I;exact SeqAt.EqAt.none_bool b
  | int b=>obtain⟨t,rfl⟩:=I;exact SeqAt.EqAt.none_int b t
  | str b=>obtain⟨t,rfl⟩:=I;exact SeqAt.EqAt.none_str b t
  | _=>exact absurd (show false=true from Y) Jo
 |bl a=>
  cases U
  cases x with
  | non=>cases I;exact SeqAt.EqAt.bool_none a
  | bl b=>cases I;exact SeqAt.EqAt.bool_bool a b
  | int b=>obtain⟨t,rfl⟩:=I;exact SeqAt.EqAt.bool_int a b t
  | str b=>obtain⟨t,rfl⟩:=I;exact SeqAt.EqAt.bool_str a b t
  | _=>exact absurd (show false=true from Y) Jo
 |int a=>
  obtain⟨O,rfl⟩:=U
  cases x with
  | non=>cases I;exact SeqAt.EqAt.int_none a O
  | bl b=>cases I;exact SeqAt.EqAt.int_bool a O b
  | int b=>obtain⟨t,rfl⟩:=I;exact SeqAt.EqAt.int_int a O b t
  | str b=>obtain⟨t,rfl⟩:=I;exact SeqAt.EqAt.int_str a O b t
  | _=>exact absurd (show false=true from Y) Jo
 |str a=>
  obtain⟨O,rfl⟩:=U
  cases x with
  | non=>cases I;exact SeqAt.EqAt.str_none a O
  | bl b=>cases I;exact SeqAt.EqAt.str_bool a O b
  | int b=>obtain⟨t,rfl⟩:=I;exact SeqAt.EqAt.str_int a O b t
  | str b=>obtain⟨t,rfl⟩:=I;exact SeqAt.EqAt.str_str a O b t
  | _=>exact absurd (show false=true from Y) Jo
 | _=>exact absurd (show false=true from Z) Jo
abbrev eqU(x:V)(u:Value):Bool:=match u with
 | .none=>eqV .non x
 | .bool b=>eqV (.bl b) x
 | .int i _=>eqV (.int i) x
 | .str z _=>eqV (.str z) x
 | _=>false
def tY(r:RelV y u)(f:fA y=true):eqU x u=eqV y x:=by
 cases y with
 | non=>cases r;rfl
 | bl b=>cases r;rfl
 | int i=>obtain⟨t,rfl⟩:=r;rfl
 | str z=>obtain⟨t,rfl⟩:=r;rfl
 | _=>exact absurd (show false=true from f) Jo
def iz:∀ {xs:List V} {us:List Value},Vals xs us->xs.all fA=true->us.any (eqU x)=xs.any fun y=>eqV y x
 | _,_,.nil,_=>rfl
 | y::xs,u::us,.cons r t,f=>by
  rw[Jx,and_eq_true]at f;rw[any_cons,any_cons,tY r f.1,iz t f.2]
def gD(I:RelV x v)(O:fA x=true):∀ {xs:List V} {us:List Value},Vals xs us->xs.all fA=true->∀ u∈us,SeqAt.EqAt A s u v (eqU x u)
 | _,_,.nil,_=>fun u hu=>by cases hu
 | y::xs,u::us,.cons r t,f=>fun U hu=>by
  rw[Jx,and_eq_true]at f;rcases List.mem_cons.mp hu with rfl | hu
  ·rw[tY r f.1];exact AE r I f.1 O
  ·exact gD I O t f.2 U hu
abbrev inV(x:V)(xs:List V):Bool:=xs.any fun y=>eqV y x
abbrev rIn(K:W.Frag)(neg:Bool):R2:=fun x y H Q=>∃ p xs,y=.ref p/\(SqL K H p xs\/SqT K H p xs)/\fA x=true/\xs.all fA=true/\Q (.bl (if neg then !inV x xs else inV x xs)) H
def vo:OpR X (compareOp .In) (rIn X.K false):=by
 intro pins s J H x y v u Q I Z b h;obtain⟨p,xs,rfl,O,a,fs,q⟩:=h;cases b;rcases O with O | O
 ·obtain⟨its,r,U,c⟩:=I.list O;refine SeqAt.in_listAt (eqU x) U.isList (fun w Y=>gD Z a r fs w (by simpa using Y)) ⟨.bl _,H,I,rfl,?_⟩;rw[show its.toArray.any (eqU x)=its.any (eqU x) by simp,iz r fs];exact q
 ·obtain⟨its,r,U,c⟩:=I.tuple O;refine SeqAt.in_tupleAt (eqU x) U (fun w Y=>gD Z a r fs w (by simpa using Y)) ⟨.bl _,H,I,rfl,?_⟩;rw[show its.toArray.any (eqU x)=its.any (eqU x) by simp,iz r fs];exact q
def pU:OpR X (compareOp .NotIn) (rIn X.K true):=by
 intro pins s J H x y v u Q I Z b h;obtain⟨p,xs,rfl,O,a,fs,q⟩:=h;cases b;rcases O with O | O
 ·obtain⟨its,r,U,c⟩:=I.list O;refine SeqAt.notIn_listAt (eqU x) U.isList (fun w Y=>gD Z a r fs w (by simpa using Y)) ⟨.bl _,H,I,rfl,?_⟩;rw[show its.toArray.any (eqU x)=its.any (eqU x) by simp,iz r fs];exact q
 ·obtain⟨its,r,U,c⟩:=I.tuple O;refine SeqAt.notIn_tupleAt (eqU x) U (fun w Y=>gD Z a r fs w (by simpa using Y)) ⟨.bl _,H,I,rfl,?_⟩;rw[show its.toArray.any (eqU x)=its.any (eqU x) by simp,iz r fs];exact q
def bG.or(h:bG X f r)(h':bG X f r'):bG X f (fun xs H Q=>r xs H Q\/r' xs H Q):=by
 intro pins s J H xs us Q I O q;rcases q with q | q
 ·exact h pins s J H xs us Q I O q
 ·exact h' pins s J H xs us Q I O q
def oB:bG X (.type "list") (fun xs H Q=>∃ p ys,xs=[.ref p]/\(SqL X.K H p ys\/SqT X.K H p ys)/\∀ l,H l=none->Q (.ref l) (upd H l (.lst ys))):=by
 k_asm;obtain⟨p,ys,rfl,U,q⟩:=h;obtain⟨u,rfl,c⟩:=vals1 r;cases c
 have Y:∀ (its:List Value),Vals ys its->ys.length<=sizeLine->∀ (h':Heap) c',(∀ b o',s.heap.get? b=some o'->h'.get? b=some o') ->
   h'.get? s.heap.objs.size=some { cls:=.type "list",dict:=none,data:=.seq its.toArray c',slots:=(List.toArray []) }->EP X pins J Q (.ref s.heap.objs.size) { s with heap:=h' }:=fun its r' O h' c' kp e =>
  ⟨.ref s.heap.objs.size,_,I.laid kp (Je _) (show bD X.prog X.w _ h' _ (.lst ys)from⟨O,its,c',r',e⟩),rfl,q _ (I.hok.fresh (Je _))⟩
 rcases U with U | U
 ·obtain⟨its,r',Z,O⟩:=I.list U;have hlen:=r'.length;obtain⟨o,ho,a,n,hd⟩:=Z.isList;exact call_list_seq p (.inl rfl) ho a hd (fun h' c' kp e=>Y its r' O h' c' kp e) (by simp only[size_toArray]<;>omega)
 ·obtain⟨its,r',Z,O⟩:=I.tuple U;have hlen:=r'.length;obtain⟨o,ho,a,n,hd⟩:=Z;exact call_list_seq p (.inr rfl) ho a hd (fun h' c' kp e=>Y its r' O h' c' kp e) (by simp only[size_toArray]<;>omega)
abbrev tyV(K:W.Frag)(T:String)(x:V)(H:Hp):Prop:=match x with
 | .str _=>T = "str"
 | .int _=>T = "int"
 | .ref p=>(T = "list" /\ ∃ xs,SqL K H p xs)\/(T = "tuple" /\ ∃ o,K.lookup p=some o/\o.cls=.type "tuple" /\ o.dict=none) \/
   (T = "dict" /\ ((∃ kvs,H p=some (.dK kvs))\/∃ kvs,H p=some (.dT kvs)))\/(T = "set" /\ ∃ S n,H p=some (.set S n))
 | _=>False
def Bq(I:Inv X pins J H s)(r:RelV x v)(ty:tyV X.K T x H) :
  s.TypeIs v T/\∀ a,v=.ref a->∃ ob,s.heap.get? a=some ob/\ob.dict=none:=by
 cases x with
 |str z=>
  obtain⟨t,rfl⟩:=r;cases(show T = "str" from ty);exact#[typeIs_str s z t,fun _ e=>nomatch e]
 |int i=>
  obtain⟨t,rfl⟩:=r;cases(show T = "int" from ty);exact#[typeIs_int s i t,fun _ e=>nomatch e]
 |ref p=>
  cases r
  rcases ty with⟨rfl,xs,Y⟩ | ⟨rfl,o,hk,Z,hd⟩ | ⟨rfl,hk⟩ | ⟨rfl,S,n,hk⟩
  ·obtain⟨its,_,U,_⟩:=I.list Y;refine#[U.isList.typeIs,fun a e=>?_];cases e;obtain⟨o,n,e,c,hd,_⟩:=U;exact#[o,e,hd]
  ·refine#[#[o,I.kIn p o hk,Z],fun a e=>?_];cases e;exact#[o,I.kIn _ o hk,hd]
  ·have z:∃ o,s.heap.get? p=some o/\o.ExactDict:=by
    rcases hk with⟨kvs,hk⟩ | ⟨kvs,hk⟩
    ·obtain⟨_,_,_,_,o,_,_,e,ex,_⟩:=I.hok p _ hk;exact#[o,e,ex]
    ·obtain⟨_,_,_,_,o,_,_,e,ex,_⟩:=I.hok p _ hk;exact#[o,e,ex]
   obtain⟨o,e,ex⟩:=z;refine#[#[o,e,ex.1],fun a O=>?_];cases O;exact#[o,e,ex.2.1]
  ·obtain⟨o,_,_,_,e,ex,_⟩:=I.hok p _ hk;refine#[#[o,e,ex.1],fun a O=>?_];cases O;exact#[o,e,ex.2.1]
 | _=>exact False.elim ty
abbrev tBM(K:W.Frag)(T:String)(r:V->List V->Hp->VK->Prop)(O:TE)(t:TA):TE:=fun J H Q=>O J H fun x I=>tyV K T x I/\t J I fun xs H2=>r x xs H2 Q
variable{o e:Expr}{es:List Expr}{to:TE}{t:TA}{name:Str}{apos cpos:Pos}{T id:String}{r:V->List V->Hp->VK->Prop}
def sP(i:PlainAttrs T)(slot:Slot T name id)(a:typeOf (.builtin id)=pure (.type "method_descriptor"))(hm:MtR X id r)(ho:PE X o to)(ha:PA X (e::es) t)
 (Y:attributeBase o name X.env (eval o X.env)=eval o X.env)
 (Z:((backTo cpos (starEach (e::es) X.env)).all (fun x=>!x.1)&&(backToKw cpos (keywordEach [] X.env)).all (fun x=>x.1.isSome)
   && decide ((e::es).length+([]:List Keyword).length+(if([]:List Keyword).isEmpty then 0 else 1)<30))=true:=by rfl)
 (U:(apos.endLine == cpos.line)=true)(j:starEach (e::es) X.env=(false,eval e X.env)::starEach es X.env)(O:(backTo cpos (starEach es X.env)).any (·.1)=false) :
  PE X (.Call (.Attribute o name apos) (e::es) [] cpos) (tBM X.K T r to t):=by
 fin2;refine wpAny_Call_method_late Y Z U rfl (thn (ho pins s J H _ I h) fun v s1 ⟨x,n,c,r1,ty,g⟩=>?_);obtain⟨l,k⟩:=Bq c r1 ty;refine#[T,id,i,slot,a,l,k,?_];have b:=ha cpos pins s1 J n _ c g;rw[j]at b ⊢;refine Calls.callWith_builtin (by show(false || (backTo cpos (starEach es X.env)).any (·.1))=false;rw[O]<;>rfl) (Calls.evalArgs_plain ?_);exact thn b fun us s2 ⟨vs,H2,m,d,f⟩=>hm pins s2 J H2 x vs v us Q m r1 d f
end
abbrev MtM(X:Cx)(id:String)(r:V->List V->Hp->VK->Prop):Prop :=
 ∀ (pins:List (Addr × Obj)) (s:Shared) (J:St) (H:Hp) (x:V) (xs:List V) (v:Value) (us:List Value) (Q:VK),Inv X pins J H s->RelV x v->Vals xs us->r x xs H Q ->
  wpAny (model X.prog X.w) X.A (call (.builtin id) (v::us)) (EP X pins J Q) X.xe s
def Vals.inv(h:Vals (x::xs) us):∃ u t,us=u::t/\RelV x u/\Vals xs t:=by
 cases h with
 | cons r t=>exact#[_,_,rfl,r,t]
def Vals.Ej(h:Vals [] us):us=[]:=by
 cases h;rfl
def Vals.one{x:V}{us:List Value}(h:Vals [x] us):∃ u,us=[u]/\RelV x u :=
 let ⟨u,_,e,r,h⟩:=h.inv
 ⟨u,by rw[e,h.Ej],r⟩
def Vals.rep(h:Vals xs us):∀ k:Nat,Vals (replicate k xs).flatten (replicate k us).flatten
 | 0=>.nil
 | k+1=>by
  exact Vals.append h (Vals.rep h k)
def foldl_rep(its:List Value):∀ (k:Nat) (I:List Value),
  List.foldl (fun U O=>U++O) I.toArray (replicate k its.toArray)=(I++(replicate k its).flatten).toArray
 | 0,I=>by simp
 | k+1,I=>by
  have e:I.toArray++its.toArray=(I++its).toArray:=by simp
  have Y:(I++its)++(replicate k its).flatten=I++(replicate (k+1) its).flatten:=by
   rw[List.replicate_succ,List.flatten_cons,List.append_assoc]
  rw[<-Y,<-foldl_rep its k (I++its),<-e,List.replicate_succ,List.foldl_cons]
section
variable{X:Cx}{pins:List (Addr × Obj)}{J:St}{H:Hp}{s:Shared}{l b:Addr}{xs ys zs:List V}
def Inv.EV{its O:List Value}{n:Nat}{f:Array Value->Array Value}{U:Nat}(I:Inv X pins J H s)(a:H l=some (.lst xs))
 (e:s.heap.get? l=some { cls:=.type "list",data:=.seq its.toArray n })(hf:f its.toArray=O.toArray)(Z:Vals ys O)(Y:ys.length<=sizeLine) :
  Inv X pins J (upd H l (.lst ys)) { s with heap:=s.heap.update l (Obj.mapSeq f),toks:=U }:=by
 have q:=PySem.IsL.update e f;rw[hf]at q;refine I.write (by rw[a];exact trivial) (.inl rfl) (fun b u hb hu=>(Jy s.heap (Obj.mapSeq f) (Ne.symm hb)).trans hu) ⟨_,q⟩ ?_;exact#[Y,O,_,Z,q]
def Inv.xh(I:Inv X pins J H s)(U:Vals ys its)(O:ys.length<=sizeLine) :
  Inv X pins J (upd H s.heap.objs.size (.lst ys)) { s with heap:=s.heap.push { cls:=.type "list",data:=.seq its.toArray },toks:=t' } :=
 I.laid (fun _ _ q=>Jb _ q) (Je _) ⟨O,its,0,U,Jd _ rfl⟩
def Inv.fresh(I:Inv X pins J H s):H s.heap.objs.size=none:=I.hok.fresh (Je _)
def Inv.tu(I:Inv X pins J H s)(O:H l=some (.lst xs)):xs.length<=sizeLine/\∃ (its:List Value) (n:Nat),Vals xs its/\xs.length=its.length/\s.heap.get? l=some { cls:=.type "list",data:=.seq its.toArray n }:=by
 obtain⟨z,its,n,r,e⟩:=I.hok l _ O;exact#[z,its,n,r,r.length,e]
def x9(h:n<=sizeLine):Builtin.List.listTooLong n=false:=by
 exact Jh (by omega)
end
section
variable{X:Cx}
abbrev jM:V->List V->Hp->VK->Prop:=fun x vs H Q=>∃ l xs y,x=.ref l/\vs=[y]/\H l=some (.lst xs)/\xs.length<sizeLine/\Q .non (upd H l (.lst (xs++[y])))
def jk:MtM X "list.append" jM:=by
 intro pins s J H x vs v us Q I U Y h;obtain⟨l,xs,y,rfl,rfl,O,a,q⟩:=h;cases U;obtain⟨u,rfl,Z⟩:=Y.one;obtain⟨z,its,n,r,b,e⟩:=I.tu O;refine call_meets F.slot_list_append ⟨_,e,rfl⟩ F.entry_list_append (F.args_list_append_2 _ _) (PySem.list_append l its.toArray n u (by rw[size_toArray];omega)) ⟨e,?_⟩;refine#[.non,_,I.EV O e (by simp) (r.append %[Z|_]) ?_,rfl,q];rw[length_append,List.length_singleton];omega
abbrev EK:R2:=fun x y H Q=>∃ l b xs I,x=.ref l/\y=.ref b/\H l=some (.lst xs)/\H b=some (.lst I)/\xs.length+I.length<=sizeLine/\∀ p,H p=none->Q (.ref p) (upd H p (.lst (xs++I)))
def BX:OpR X (binaryOp .Add) EK:=by
 intro pins s J H x y v u Q I Y U h;obtain⟨l,b,xs,i,rfl,rfl,c,d,k,q⟩:=h;cases Y;cases U;obtain⟨z,its,n,r,m,e⟩:=I.tu c;obtain⟨z2,O,j,Z,a,g⟩:=I.tu d;refine PySem.P.add_list e g ?_ (by rw[size_toArray,size_toArray];omega)
 have f:its.toArray++O.toArray=(its++O).toArray:=by simp
 rw[f];exact#[.ref _,_,I.xh (r.append Z) (by rw[length_append];omega),rfl,q _ I.fresh]
abbrev Eg:R2:=fun x y H Q=>∃ l k xs,x=.ref l/\y=.int k/\H l=some (.lst xs)/\-(2 ^ 63)<=k/\k<2 ^ 63/\xs.length*k.toNat<=sizeLine /\
 ∀ p,H p=none->Q (.ref p) (upd H p (.lst (replicate k.toNat xs).flatten))
def len_rep(xs:List α)(k:Nat):(replicate k xs).flatten.length=k*xs.length:=by
 induction k with
 | zero=>simp
 | succ k I=>rw[List.replicate_succ,List.flatten_cons,length_append,I,Nat.succ_mul,Nat.add_comm]
def CY:OpR X (binaryOp .Mult) Eg:=by
 intro pins s J H x y v u Q I g f h;obtain⟨l,k,xs,rfl,rfl,j,p,o,b,q⟩:=h;cases g;obtain⟨t,rfl⟩:=f;obtain⟨z,its,n,r,i,e⟩:=I.tu j
 have hlen:its.toArray.size*k.toNat<=sizeLine:=by rw[size_toArray,<-i];exact b
 have Z:¬ its.toArray.size*k.toNat > (2 ^ 63-1) / 8:=by
  have:sizeLine<=(2 ^ 63-1) / 8:=by decide
  omega
 have Y:¬ (!Builtin.List.listFitsIndex k)=true:=by
  rw[fitsIndex_both p o];exact Jo
 have O:¬ Builtin.List.listTooLong (its.toArray.size*k.toNat)=true:=by
  rw[x9 hlen];exact Jo
 have U:List.foldl (fun d c=>d++c) (List.toArray []) (replicate (if its.toArray.isEmpty=true then 0 else k.toNat) its.toArray)=(replicate k.toNat its).flatten.toArray:=by
  have w:=fun m=>by
   have:=foldl_rep its m [];rw[List.nil_append]at this;exact this
  rw[w]
  cases its with
  | nil=>simp
  | cons a r'=>rw[if_neg (by simp)]
 refine wpAny_binaryOp_repeat_ref ∅ ⟨_,e,rfl⟩ (fun s'=>typeIs_int s' k t) noFill_list_mul F.fills_int_mul F.slot_int_rmul repeat_list F.slot_int_index.lookup
  (call_meets F.slot_int_rmul (typeIs_int s k t) F.entry_int_rmul (F.args_int_rmul_2 _ _) (int___rmul___int_list k t l its.toArray n)
   ⟨e,rfl,⟨_,e,rfl⟩,call_meets F.slot_list_mul ⟨_,e,rfl⟩ F.entry_list_mul (F.args_list_mul_2 _ _) (AutoListH.list___mul___list_int_3 l its.toArray n k t Y Z O) ⟨e,?_⟩⟩)
 rw[U];exact#[.ref _,_,I.xh (r.rep k.toNat) (by rw[len_rep,Nat.mul_comm];exact b),rfl,q _ I.fresh]
end
section
variable{κ:Type} [DecidableEq κ]
def KV.length(r:KV kvs vs):kvs.length=vs.length:=Paired.length r
end
def sk(r:RelV (kV k) u):(bw P w).is k u=true:=by
 cases k with
 | inl i=>obtain⟨t,e⟩:=(show ∃ t,u=Value.int i t from r);subst e;exact qm P w i t
 | inr x=>obtain⟨t,e⟩:=(show ∃ t,u=Value.str x t from r);subst e;exact jT P w x t
def ml:∀ {ks:List Key} {us:List Value},Vals (ks.map kV) us->ItemsAre (bw P w) ks us
 | [],_,r=>by rw[List.map_nil]at r;cases r;exact .nil
 | k::ks,_,r=>by
  cases r with
  | cons h t=>exact .cons (sk h) (ml t)
@[reducible]noncomputable def KT(H:Hp):List (List Key × V)->List (List Key × Addr × Value)->Prop:=Paired fun p q=>p.1=q.1/\H q.2.1=some (.tup (p.1.map kV))/\RelV p.2 q.2.2
section
variable{P:Program}{w:World}{H:Hp}{h:Heap}{a:Addr}
def yz(ok:HOk P w H h)(e:Rd H a u):bD P w H h a u:=e.ok ok
def Dv(ok:HOk P w H h)(e:Rd H a (.dK kvs)):kvs.length<=sizeLine/\(a == sysModules)=false/\∃ vs,KV kvs vs/\h.DictOf (bw P w) a vs :=
 show bD P w H h a (.dK kvs)from yz ok e
def Cz(ok:HOk P w H h)(e:H a=some (.tup (ks.map kV))):(tupleKind (bw P w)).is h ks a:=by
 obtain⟨_,its,r,o,U,O,n,I⟩:=(show bD P w H h a (.tup (ks.map kV))from ok a _ e)
 exact#[o,its.toArray,n,U,O,I,by simpa using ml r]
def DO(ok:HOk P w H h)(e:Rd H a (.dT kvs)):kvs.length<=sizeLine/\(a == sysModules)=false /\
  ∃ xs,KT H kvs xs/\h.DictOfH (tupleKind (bw P w)) a xs:=by
 obtain⟨z,y,xs,r,o,es,ep,b,Z,Y,U,O⟩:=(show bD P w H h a (.dT kvs)from yz ok e)
 refine#[z,y,xs,r,o,es,ep,b,Z,Y,U,fun x I=>?_,O]
 have all:∀ {l:List (List Key × V)} {m:List (List Key × Addr × Value)},KT H l m->∀ x∈m,(tupleKind (bw P w)).is h x.1 x.2.1:=by
  intro l m q
  induction q with
  | nil=>intro x I;exact nomatch I
  |@cons p q ps qs hq t ih=>
   intro x I;rcases List.mem_cons.mp I with e | I
   ·subst e;exact Cz ok (by rw[<-hq.1];exact hq.2.1)
   ·exact ih x I
 exact all r x I
def Dk(ok:HOk P w H h)(e:H a=some (.dT kvs)):kvs.length<=sizeLine/\(a == sysModules)=false /\
  ∃ xs,KT H kvs xs/\h.DictOfH (tupleKind (bw P w)) a xs:=DO ok (.inl e)
end
section
variable{X:Cx}{pins:List (Addr × Obj)}{J:St}{H:Hp}{s:Shared}{a:Addr}{y v:V}{u r:Value}{o:Option V}{A:Around}{E:Value->Shared->Prop}
def Inv.big(I:Inv X pins J H s):sysModules<s.heap.objs.size:=by
 have h:=(I.mod.glob.keeps I.bk).lt;exact lt_trans ∅ h
end
section
variable{X:Cx}{pins:List (Addr × Obj)}{J:St}{H:Hp}{s:Shared}{a:Addr}{kvs:List (Key × V)}{k:Key}{u:Value}{A:Around}{E:Value->Shared->Prop}
def DZ(I:Inv X pins J H s)(e:Rd H a (.dK kvs))(h:∀ t s',Inv X pins J H s'->Q (.int kvs.length t) s'):wpAny (model X.prog X.w) A (call (.builtin "len") [.ref a]) Q E s:=by
 obtain⟨z,hd,vs,O,dd⟩:=Dv I.hok e;refine call_len_dict hd dd (by rw[<-O.length];rw[sizeLine_eq]at z;omega) ?_;rw[<-O.length];exact h _ _ (I.tok _)
end
abbrev sJ(i:Expr):Prop:=∀ I O,subscripted i false I O=operate [I,O] (getItem I O)
def yR{prog:Program}{w:World}{A:Around}{E:Value->Shared->Prop}{s:Shared}{env:Env}{value slice:Expr}{c:Pos}{T id:String}{Q:Value->Shared->Prop}
 (e:typeLookup (.type T) "__getitem__" = pure (some (.builtin id)))(d:sJ slice)
 (h:wpAny (model prog w) A (eval value env) (fun o Y=>wpAny (model prog w) A (eval slice env) (fun i I=>I.TypeIs o T/\wpAny (model prog w) A (getItem o i) Q E I) E Y) E s) :
  wpAny (model prog w) A (eval (.Subscript value slice c) env) Q E s:=by
 refine Subscript_ (wpAny_mono h (fun o Y b=>wpAny_mono b (fun i I O=>?_) fun _ _ x=>x) fun _ _ x=>x);obtain⟨f,O⟩:=O;refine Ja ?_;refine Ja (wpAny_specialOf f e ?_)
 have Z:wpAny (model prog w) A (subscripted slice false o i) (fun r U=>wpAny (model prog w) A (letTemporaryGo value o r >>= fun _=>pure r) Q E U) E I:=by
  rw[d o i];exact wpAny_operating (wpAny_mono O (fun r U a=>Ja (wpAny_letTemporaryGo (Jc a))) fun _ _ x=>x)
 first
  | exact Jc (Ja Z)
  | exact Ja (Jc (Ja Z))
  | exact Ja Z
def wF(h:Heap)(hb:sysModules<h.objs.size):bD P w H (h.push { cls:=.type "dict",data:=.dict (List.toArray []) }) h.objs.size (.dK []) :=
 ⟨zero_le _,beq_eq_false_iff_ne.mpr (Ne.symm (Jl hb)),[],.nil,Heap.DictOf.new h⟩
abbrev A8:TE:=fun _ H Q=>∀ p,H p=none->Q (.ref p) (upd H p (.dK []))
section
variable{X:Cx}{pos:Pos}
def oS:PE X (.Dict [] [] pos) A8:=fun pins s J H Q I h =>
 wpAny_Dict_empty ⟨.ref s.heap.objs.size,_,I.laid (fun _ _ q=>Jb _ q) (Je _) (wF s.heap I.big),rfl,h _ (I.hok.fresh (Je _))⟩
end
end L2
namespace Att
open PySem PySem.W PySem.Calls PyProof.Rows
def kJ:∀ (ns:List Int) (vs:List Value),WellAll P h vs (ns.map WData.int)->IntsAre vs ns:=by
 intro ns
 induction ns with
 |nil=>
  intro vs w;cases w;exact .nil
 |cons n ns I=>
  intro vs w
  cases w with
  |cons a b=>
   cases a;exact .cons _ _ (I _ b)
def tU{l:OpenLaw}{n:Nat}(hn:l.most=some n){P:Params}{h:Heap}{args:List WData}{vals:List Value}
 (I:l.row.toRowW.claim.pre args=true)(Y:WellAll P h vals args) :
  ∃ a vs ns,vals=[Value.ref a]/\args=[WData.list (ns.map WData.int)]/\h.get? a=some { cls:=.type "list",data:=.seq vs.toArray }/\IntsAre vs ns/\ns.length<=n:=by
 have Z:=(pre_splitW I).1;have f:l.pre.holds [] { args:=args }=true:=(pre_splitW I).2;obtain⟨d,r,rfl,j,i⟩:=hasAllW_cons Z;obtain rfl:=hasAllW_nil i;obtain⟨xs,rfl,g⟩:=hasW_list j;obtain⟨ns,rfl⟩:=items_int g
 have hlen:ns.length<=n:=by
  have U:(WTm.not (.lt (.lit (.int n)) (.len (.arg 0)))).holds [] { args:=[.list (ns.map .int)] }=true:=by
   have U:=(holds_andW f).1;rw[hn]at U;exact U
  have b:=condW_of U (w_not (w_lt w_lit (w_len_list (w_arg rfl))));refine Nat.le_of_not_lt fun q=>?_
  have q':n<((ns.length:Nat):Int):=by omega
  first
   | (rw[Jj q']at b;exact absurd b ∅)
   | (simp at b;omega)
 cases Y with
 |cons e c=>
  cases c
  cases e with
  | list ho O=>exact#[_,_,ns,rfl,rfl,ho,kJ ns _ O,hlen]
def tK(l:OpenLaw)(args:List WData):l.row.toRowW.claim.post args (.bool true) args=true :=
 postW_of
  (show WShape.has [] (.bool true) .bool=true by first | rfl | decide | simp[ WShape.arms])
  (show(WTm.eq .res (.lit (.bool true))).value [] { args:=args,res:=some (.bool true),after:=args }=some (.bool (true == true))from w_eq_bool (w_res rfl) w_lit) rfl
def qk{l:OpenLaw}{n:Nat}{q:Program}{loose:List Str}{j:(Str->Option Value)->Heap->Prop}{i:World->Heap->Prop}{d:DefRec}
 (hn:l.most=some n)(c:d.params.defaults=[])
 (call:∀ (w:World) (s₀ I:Shared) (mg mb:Str->Option Value) (fa:Addr) (o:Obj) (pm cd doc:Value) (a:Addr) (vs:List Value) (ns:List Int),
   Ground q loose [] j w s₀ mg mb I.heap->i w I.heap ->
   I.heap.get? fa=some o->o.data=.func (docDef d.name d.params d.body d.scope pm cd doc)->I.heap.CodeRec cd d.name->mg d.name=some (.ref fa) ->
   I.heap.get? a=some { cls:=.type "list",data:=.seq vs.toArray }->IntsAre vs ns->ns.length<=n->I.gens=(List.toArray []) ->
   codeAny (model l.prog w) callerA (.call (.ref fa) ⟨[.ref a],[]⟩) (fun r s'=>r=.ok (.ret (.bool true))/\OldK I.heap s'.heap/\s'.os=I.os/\AllBare s'.gens) I) :
  WalkO q loose j i l.row.toRowW d [] (fun f vs=>PySem.call f vs):=by
 intro w s₀ I mg mb G Y fa o pm cd doc x kV ho hd e h b s args vals y O g k Z p;obtain rfl:x=.none:=Dflts.none h c;obtain rfl:kV=.none:=Dflts.noKw h;obtain⟨a,vs,ns,rfl,rfl,U,hints,hlen⟩:=tU hn O Z;refine enter_call (codeAny_mono (call w s₀ I mg mb fa o pm cd doc a vs ns G Y ho (fd_plain hd) e b U hints hlen s) fun r s' m=>?_);obtain⟨rfl,v,u,t⟩:=m;exact#[.inl #[.bool true,.bool true,[],rfl,fun _=>rfl,.bool true,tK l _,fun _=>#[List.Pairwise.nil,fun _ hm=>(nomatch hm)]],v,u,t]
end Att
namespace L2
open PySem PySem.Spec PyProof.Rows
def mP:∀ {vs:List Value} {ns:List Int},IntsAre vs ns->Vals (ns.map V.int) vs
 | _,_,.nil=>.nil
 | _,_,.cons n t h=>.cons ⟨t,rfl⟩ (mP h)
abbrev nS(H:Hp):Prop:=∀ b,H b=none\/∃ o xs,H b=some (.frz o (.lst xs))
def wd{P:Program}{w:World}{K:W.Frag}{mg mb:Str->Option Value}{CX:CXT}{k:Nat}{fa a:Addr}{fd:FuncData}{x:Str}{sp:Sp}{I:Shared}{vs:List Value}{ns:List Int}
 (G:K.In I.heap)(g:I.heap.Ns mainGlobals mg)(hb:I.heap.Ns builtinsNs mb)(t:∀ x:Str,x ≠ "__name__" -> mb x=bootBuiltins x)(i:I.heap.NoLimit)(M:I.gens=(List.toArray []))
 (ha:I.heap.get? a=some { cls:=.type "list",data:=.seq vs.toArray })(hi:IntsAre vs ns)(B:ns.length<=sizeLine)(L:bq k callerA)
 (F:∀ base:Heap,K.In base->base.Ns mainGlobals mg->aY P w K mg base CX k fa fd [x] sp)(Y:∀ (s:Shared) (u:Value),BindsTo s fd ⟨[u],[]⟩ [(x,u)])
 (p:∀ H:Hp,nS H->SqL K H a (ns.map V.int)->sp [.ref a] H (fun v _=>v=.bl true) fun _ _ _=>False)
 (y:∀ H e s',CX [] H I (fun _ _ _=>False) e s'->False) :
  codeAny (model P w) callerA (.call (.ref fa) ⟨[.ref a],[]⟩) (fun r s'=>r=.ok (.ret (.bool true))/\OldK I.heap s'.heap/\s'.os=I.os/\AllBare s'.gens) I:=by
 have A:=mP hi;have c:=hi.length
 have core:∀ H:Hp,nS H->SqL K H a (ns.map V.int)->HOk P w H I.heap->(∀ b,H b≠none->b=a)->(H a≠none->K.lookup a=none) ->
   codeAny (model P w) callerA (.call (.ref fa) ⟨[.ref a],[]⟩) (fun r s'=>r=.ok (.ret (.bool true))/\OldK I.heap s'.heap/\s'.os=I.os/\AllBare s'.gens) I:=by
  intro H C N hok D Q;have O:∀ {b:Addr} {o:Obj},I.heap.get? b=some o->H b=none->(ja I.heap H).get? b=some o:=fun e n=>we e n
  have l:∀ {b:Addr} {o:Obj} {es:Array DictEntry} {ep:Nat},I.heap.get? b=some o->o.data=.dict es ep->H b=none:=fun {b o es ep} e d=>by
   cases q:H b with
   | none=>rfl
   |some u=>
    have e':b=a:=D b (by rw[q];simp);subst e';rw[ha]at e;cases e;have d':Data.seq vs.toArray _=Data.dict es ep:=d;cases d'
  have U:∀ {b:Addr} {m:Str->Option Value},I.heap.Ns b m->(ja I.heap H).Ns b m:=fun {b m} ⟨o,es,ep,e,d,r⟩=>#[o,es,ep,O e (l e d),d,r]
  have j:K.In (ja I.heap H):=fun b o e=>O (G b o e) (by
   cases q:H b with
   | none=>rfl
   |some u=>
    have e':b=a:=D b (by rw[q];simp);subst e'
    rw[Q (by rw[q];simp)]at e;cases e)
  have hM:Mod K mg (ja I.heap H):=⟨j,U g,⟨mb,U hb,t⟩,let ⟨Qa,S,R⟩:=i;⟨Qa,U S,R⟩⟩
  have e0:iE P w K mg (ja I.heap H) callerA [] I H:=#[rfl,hM,fun b o e=>zB e,le_of_eq (uD _ _),trivial,fun b hb=>absurd (show b∈([]:List Addr)from hb) (by simp),hok,.of_eq M]
  refine codeAny_mono ((F _ j (U g)).run callerA [] I H ⟨[.ref a],[]⟩ [.ref a] [.ref a] _ _ L e0 (Y I (.ref a)) (.cons rfl .nil) (p H C N)) fun r s' h=>?_
  cases r with
  | error e=>exact(y H e s' h).elim
  |ok T=>
   cases T with
   | next=>exact False.elim h
   | brk=>exact False.elim h
   | cont=>exact False.elim h
   |ret u=>
    obtain⟨v,H',os,bare,un,f,r',q⟩:=h;have q':v=.bl true:=q;subst q';obtain rfl:u=Value.bool true:=r';refine#[rfl,OldK.of_keep fun b o e=>?_,os,bare]
    cases q:H b with
    | none=>exact un.keep b o e q (by intro z;exact absurd (show b∈([]:List Addr)from z) (by simp)) (by simp)
    |some u=>
     rcases C b with z | ⟨ob,xs,z⟩
     ·rw[q]at z;cases z
     ·have z2:=un.c8 b ob _ z;obtain⟨E,_⟩:=hok b _ z;obtain⟨X,_⟩:=f b _ z2;rw[e]at E;cases E;exact X
 cases hk:K.lookup a with
 |some o=>
  have e:=G a o hk;rw[ha]at e;cases e;refine core (fun _=>none) (fun _=>.inl rfl) (.inr #[_,vs.toArray,_,hk,rfl,rfl,rfl,by rw[size_toArray,c];exact B,by simpa using A]) (fun b u z=>by have Z:(none:Option HO)=some u:=z;cases Z) (fun b z=>absurd rfl z) fun z=>absurd rfl z
 |none=>
  refine core (fun b=>if b=a then some (.frz { cls:=.type "list",data:=.seq vs.toArray } (.lst (ns.map V.int)))else none) (fun b=>?_) (.inl (.inr #[{ cls:=.type "list",data:=.seq vs.toArray },if_pos rfl])) (fun b u z=>?_) (fun b z=>?_) fun _=>hk
  ·by_cases hb:b=a
   ·exact .inr #[_,_,if_pos hb]
   ·exact .inl (if_neg hb)
  ·by_cases hb:b=a
   ·have Z:=(if_pos hb).symm.trans z;cases Z;subst hb;exact#[ha,by rw[length_map];exact B,vs,_,A,ha]
   ·have Z:=(if_neg hb).symm.trans z;cases Z
  ·by_cases hb:b=a
   ·exact hb
   ·exact absurd (if_neg hb) z
@[reducible]noncomputable def KOf{K:W.Frag}{h:Heap}(_:K.In h):W.Frag:=K
def qM{l:W.OpenLaw}{n k:Nat}{q:Program}{loose:List Str}{D:(Str->Option Value)->Heap->Prop}{m:World->Heap->Prop}{d:DefRec}{K:Params->W.Frag}{CX:World->CXT}{sp:World->Sp}{x:Str}
 (hn:l.most=some n)(Z:n<=sizeLine)(i:d.params.defaults=[])(r:bq k callerA)
 (z:∀ (w:World) (h:Heap),m w h->(K w.params).In h)
 (F:∀ (w:World) (mg:Str->Option Value) (fa:Addr) (h:Heap),(K w.params).In h->h.Ns mainGlobals mg->mg d.name=some (.ref fa) ->
   ∃ fd:FuncData,(∀ (s:Shared) (u:Value),BindsTo s fd ⟨[u],[]⟩ [(x,u)]) /\
    ∀ base:Heap,(K w.params).In base->base.Ns mainGlobals mg->aY l.prog w (K w.params) mg base (CX w) k fa fd [x] (sp w))
 (U:∀ (w:World) (H:Hp) (a:Addr) (ns:List Int),ns.length<=n->nS H->SqL (K w.params) H a (ns.map V.int)->sp w [.ref a] H (fun v _=>v=.bl true) fun _ _ _=>False)
 (j:∀ (w:World) (H:Hp) (s:Shared) (e:Value) (s':Shared),CX w [] H s (fun _ _ _=>False) e s'->False) :
  W.WalkO q loose D m l.row.toRowW d [] (fun f vs=>PySem.call f vs):=by
 refine Att.qk hn i fun w s₀ I mg mb fa o pm cd doc a vs ns G Y ho hd y c O hints hlen t=>?_;have p:=z w _ Y;obtain⟨fd,hb,C⟩:=F w mg fa _ p G.T.g c;exact wd p G.T.g G.T.b G.T.builtins G.T.nolimit t O hints (Jr hlen Z) r C hb (fun H B A=>U w H a ns hlen B A) fun H e s'=>j w H I e s'
def xK{l:W.OpenLaw}{n k:Nat}{q:Program}{loose:List Str}{m:(Str->Option Value)->Heap->Prop}{Z:World->Heap->Prop}{d:DefRec}{K:Params->W.Frag}{CX:CXT}{sp:W.Frag->Sp}{x:Str}
 (hn:l.most=some n)(O:n<=sizeLine)(U:d.params.defaults=[])(b:bq k callerA)
 (c:∀ (w:World) (h:Heap),Z w h->(K w.params).In h)
 (F:∀ (w:World) (mg:Str->Option Value) (fa:Addr) (h:Heap),(K w.params).In h->h.Ns mainGlobals mg->mg d.name=some (.ref fa) ->
   ∃ fd:FuncData,(∀ (s:Shared) (u:Value),BindsTo s fd ⟨[u],[]⟩ [(x,u)]) /\
    ∀ base:Heap,(K w.params).In base->base.Ns mainGlobals mg->aY l.prog w (K w.params) mg base CX k fa fd [x] (sp (K w.params)))
 (I:∀ (K:W.Frag) (H:Hp) (a:Addr) (ns:List Int),ns.length<=n->nS H->SqL K H a (ns.map V.int)->sp K [.ref a] H (fun v _=>v=.bl true) fun _ _ _=>False)
 (Y:∀ (H:Hp) (s:Shared) (e:Value) (s':Shared),CX [] H s (fun _ _ _=>False) e s'->False) :
  W.WalkO q loose m Z l.row.toRowW d [] (fun f vs=>PySem.call f vs) :=
 qM (K:=K) (CX:=fun _=>CX) (sp:=fun w=>sp (K w.params)) hn O U b c F (fun w H a ns j i g=>I (K w.params) H a ns j i g) fun _ H s e s'=>Y H s e s'
abbrev du(s:Stmt):Arguments:=match s with
 | .FunctionDef _ a _ _ _ _ _ _ _ _=>a
 | _=>{ posonlyargs:=[],args:=[],vararg:=none,kwonlyargs:=[],kw_defaults:=[],kwarg:=none,defaults:=[] }
abbrev br(s:Stmt):List Stmt:=match s with
 | .FunctionDef _ _ b _ _ _ _ _ _ _=>b
 | _=>[]
abbrev az(s:Stmt):Scope:=match s with
 | .FunctionDef _ _ _ _ _ _ sc _ _ _=>sc
 | _=>{ kind:=.function,names:=[],isGenerator:=false,isCoroutine:=false }
@[reducible]noncomputable def CX0:CXT:=fun _ _ _ _ _ _=>False
@[reducible]noncomputable def E0:XK:=fun _ _ _=>False
def k9:Passes CX0 X E0:=fun _ _ _ _ _ _ _ h=>h.elim
structure Fun(K:W.Frag)(x qual:Str)(st:Stmt)(f:Addr)(fd:FuncData):Prop where
 ex:∃ (oc:Value) (od:Option Addr) (kV doc pm:Value) (an:Option Addr) (cdv ct:Value) (osl:Array (Option Value)),
  fd=W.fnOf x qual (du st) (br st) (az st) .none kV doc pm an cdv ct/\K.lookup f=some ⟨oc,od,.func fd,osl⟩/\W.codeIn K cdv qual=true
 kp:W.keepIn K (.ref f)=true
section
variable{P:Program}{w:World}{K:W.Frag}{mg:Str->Option Value}{base:Heap}
def Fun.ok{x qual:Str}{st:Stmt}{f:Addr}{fd:FuncData}{N ps:List Str}{k:Nat}{sp:Sp}(F:Fun K x qual st f fd)(S:cU N ps (az st))(len:∀ vs H Q E,sp vs H Q E->vs.length=ps.length)
 (I:∀ (cdv:Value) (A:Around) (outer:List Env) (s:Shared) (H:Hp) (vs:List V) (Q:VK) (E:XK),bq k (A.deeper (envOfC qual (az st) s.heap.objs.size f cdv))->sp vs H Q E ->
   ∃ t,PSs (d7 CX0 P w K mg base N qual (az st) f cdv A outer s H E).nox (br st) t/\t { nx:=fun _ H'=>Q .non H',rt:=Q } (start N vs) H):aY P w K mg base CX0 (k+1) f fd ps sp:=by
 obtain⟨oc,od,kV,doc,pm,an,cdv,ct,osl,rfl,Y,U⟩:=F.ex;refine yk Y U S len fun A outer s H vs Q E Z O=>?_;obtain⟨t,h,q⟩:=I cdv A outer s H vs Q E Z O;exact#[t,h.nox,q]
def Fun.binds{x qual:Str}{st:Stmt}{f:Addr}{fd:FuncData}{ps:List Str}(F:Fun K x qual st f fd)
 (h:∀ (kV doc pm:Value) (an:Option Addr) (cdv ct:Value) (us:List Value),us.length=ps.length->bindArgs (W.fnOf x qual (du st) (br st) (az st) .none kV doc pm an cdv ct) ⟨us,[]⟩=pure (ps.zip us)):Binds K fd ps []:=by
 obtain⟨oc,od,kV,doc,pm,an,cdv,ct,osl,rfl,O,I⟩:=F.ex;exact .all (h kV doc pm an cdv ct)
def kU{x qual:Str}{st:Stmt}{f:Addr}{oc:Value}{od an:Option Addr}{osl:Array (Option Value)}{kV doc pm cdv ct:Value}(l:K.lookup f=some ⟨oc,od,.func (W.fnOf x qual (du st) (br st) (az st) .none kV doc pm an cdv ct),osl⟩)
 (c:W.codeIn K cdv qual=true)(k:W.keepIn K (.ref f)=true):Fun K x qual st f (W.fnOf x qual (du st) (br st) (az st) .none kV doc pm an cdv ct):=#[#[oc,od,kV,doc,pm,an,cdv,ct,osl,rfl,l,c],k]
end
def mn(h:n<=1000):n<sizeLine:=Jv h ∅
def gE{A B:Prop}(h:B):if false=true then A else B:=by
 exact h
def fQ{A B:Prop}(h:A):if true=true then A else B:=by
 exact h
abbrev aD(H H':Hp):Prop:=∀ b o,H b=some o->H' b=some o
def aD.refl(H:Hp):aD H H:=fun _ _ h=>h
def aD.trans(a:aD H H1)(b:aD H1 H2):aD H H2:=fun c o h=>b c o (a c o h)
def aD.free(e:aD H H')(h:H' l=Option.none):H l=Option.none:=by
 cases q:H l with
 | none=>rfl
 |some o=>
  rw[e l o q]at h;cases h
section
variable{X:Cx}
def ub:bG X (.builtin "len") (fun xs H Q=>∃ a kvs,xs=[V.ref a]/\H a=some (.dK kvs)/\Q (.int kvs.length) H):=by
 k_asm;obtain⟨a,kvs,rfl,ha,q⟩:=h;obtain⟨u,rfl,O⟩:=vals1 r;cases O
 exact DZ I (.inl ha) fun t s' U=>#[.int kvs.length,H,U,#[t,rfl],q]
end
end L2
namespace RS
open PySem PySem.Spec PyProof.Rows L2
@[reducible]def VE:List Value:=[.type "ValueError",.type "Exception",.type "BaseException",.type "object"]
abbrev cP:List Str:=["RibbonError", "BadPegs", "BadFrame", "BadHalf", "BadHook", "BadName", "NoNumber", "NoFrame", "NoStack", "NoPlace", "Taken", "Full", "NothingThere", "BadTrade", "Hangs", "BadPage"]
abbrev pb(f:Option PySem.Builtin.ObjectAttr.Found):Bool:=match f with
 | some (.bind (.builtin a) (.builtin b))=>a == "getset_descriptor.__get__" && b == "object.__class__"
 | _=>false
abbrev gR(K:W.Frag)(C:Addr):Bool:=match K.lookup C with
 | some ⟨.type "type",_,.cls cd,sl⟩=>(match cd.mro,sl.toList with
  | .ref C'::bm,[_,_,_,_,some (.builtin n),_]=>C' == C&&n == "ValueError.__new__" && !cd.hasDel&&W.tailIn K VE bm
  | _,_=>false)
 | _=>false
def Ad{K:W.Frag}(h:W.excIn K C VE "ValueError.__new__" = true):gR K C=true:=by
 unfold W.excIn at h;unfold gR;split at h
 ·rename_i ho;simp only[ho];split at h
  ·rename_i hm I;simp only[hm,I,and_eq_true]at h ⊢;exact h.1.1
  ·cases h
 ·cases h
def qE{K:W.Frag}{k0 k1 k2 k3 k5:Option Value}(l:K.lookup C=some (excClassObj nm qn C N bs (.ref R::VE) hdct sn sub ab col dd k0 k1 k2 k3 k5 "ValueError.__new__"))(r:W.excIn K R VE "ValueError.__new__" = true):W.tailIn K VE (.ref R::VE)=true/\gR K C=true:=by
 have t:W.tailIn K VE (.ref R::VE)=true:=by
  unfold W.excIn at r;split at r
  ·rename_i dd cd sl ho;split at r
   ·simp only[and_eq_true,beq_iff_eq]at r
    have e:W.tailIn K VE VE=true:=by
     unfold W.tailIn;simp
    unfold W.tailIn;simp only[ho,or_eq_true,and_eq_true,beq_iff_eq];exact .inr #[#[r.1.2,r.2],e]
   ·cases r
  ·cases r
 refine#[t,?_];unfold gR;rw[l];show(C == C && "ValueError.__new__" == "ValueError.__new__" && !false&&W.tailIn K VE (.ref R::VE))=true;rw[t];simp
abbrev nR(K:W.Frag)(C:Addr):Bool:=gR K C&&(W.findIn K (.ref C) "at" == some none&&W.hasDictIn K C)
abbrev f7(K:W.Frag)(x:Str)(C:Addr):Bool :=
 nR K C&&W.findIn K (.ref C) "__getattribute__" == some (some (.builtin "BaseException.__getattribute__"))&&W.findIn K (.ref C) "__getattr__" == some none&&pb (W.findObj K C none "__class__") &&
 W.mroIn K C (.type "object") == some true&&W.subIn K (.ref C) (.type "BaseException") == some true&&(W.clsIn K C).isSome&&W.kitOne K (.ref C) (.type "ValueError") == some true &&
 cP.all fun c=>match W.nsIn K mainGlobals c with
  | some (some (.ref D))=>W.kitOne K (.ref C) (.ref D) == some (RL.cV x c)&&W.subIn K (.ref C) (.ref D) == some (RL.cV x c)
  | _=>true
structure Cls(K:W.Frag)(x:Str)(C:Addr):Prop where
 ns:W.nsIn K mainGlobals x=some (some (.ref C))
 ok:f7 K x C=true
section
variable{K:W.Frag}
def Cls.exc(h:Cls K x C):nR K C=true:=by
 have:=h.ok;simp only[f7,and_eq_true]at this;exact this.1.1.1.1.1.1.1.1
def Cls.ref(h:Cls K x C)(I:c∈cP)(O:W.nsIn K mainGlobals c=some (some (.ref D))):W.kitOne K (.ref C) (.ref D)=some (RL.cV x c)/\W.subIn K (.ref C) (.ref D)=some (RL.cV x c):=by
 have:=h.ok;simp only[f7,and_eq_true]at this;have q:=Jz.mp this.2 c I;rw[O]at q;simp only[and_eq_true,beq_iff_eq]at q;exact q
def Cls.val(h:Cls K x C):W.kitOne K (.ref C) (.type "ValueError")=some true:=by
 have:=h.ok;simp only[f7,and_eq_true,beq_iff_eq]at this;exact this.1.2
end
structure bU(K:W.Frag)(x:Str)(C:Addr)(c:Str):Prop where
 ex:∃ D b,W.nsIn K mainGlobals c=some (some (.ref D))/\W.kitOne K (.ref C) (.ref D)=some b/\W.subIn K (.ref C) (.ref D)=some b/\RL.cV x c=b
def uo{K:W.Frag}(n:W.nsIn K mainGlobals c=some (some (.ref D)))(k:W.kitOne K (.ref C) (.ref D)=some b)(s:W.subIn K (.ref C) (.ref D)=some b)(e:RL.cV x c=b):bU K x C c:=#[D,b,n,k,s,e]
structure tV(K:W.Frag)(x:Str)(C:Addr):Prop where
 a1:gR K C=true
 a10:W.findIn K (.ref C) "at" = some none
 a11:W.hasDictIn K C=true
 a2:W.findIn K (.ref C) "__getattribute__" = some (some (.builtin "BaseException.__getattribute__"))
 a3:W.findIn K (.ref C) "__getattr__" = some none
 a4:W.findIn K (.ref C) "__class__" = some (some (.builtin "object.__class__"))
 a5:W.specialIn K (.builtin "object.__class__") "__get__" = some (some (.builtin "getset_descriptor.__get__"))
 a6:W.takesIn K (.builtin "object.__class__")=some true
 a7:W.mroIn K C (.type "object")=some true
 a8:W.subIn K (.ref C) (.type "BaseException")=some true
 a9:W.kitOne K (.ref C) (.type "ValueError")=some true
 b1:bU K x C "RibbonError"
 b2:bU K x C "BadPegs"
 b3:bU K x C "BadFrame"
 b4:bU K x C "BadHalf"
 b5:bU K x C "BadHook"
 b6:bU K x C "BadName"
 b7:bU K x C "NoNumber"
 b8:bU K x C "NoFrame"
 b9:bU K x C "NoStack"
 b10:bU K x C "NoPlace"
 b11:bU K x C "Taken"
 b12:bU K x C "Full"
 b13:bU K x C "NothingThere"
 b14:bU K x C "BadTrade"
 b15:bU K x C "Hangs"
 b16:bU K x C "BadPage"
def vf{K:W.Frag}(h:tV K x C):f7 K x C=true:=by
 obtain⟨cd,O,_⟩:=Option.bind_eq_some_iff.mp h.a7
 have fo:pb (W.findObj K C none "__class__")=true:=by
  unfold W.findObj;rw[O,Option.bind_some,h.a4,Option.bind_some];dsimp only;rw[h.a5,Option.bind_some];rfl
 have one:∀ {c:Str},bU K x C c->(match W.nsIn K mainGlobals c with
  | some (some (.ref D))=>W.kitOne K (.ref C) (.ref D) == some (RL.cV x c)&&W.subIn K (.ref C) (.ref D) == some (RL.cV x c)
  | _=>true)=true:=fun⟨D,b,a,Z,Y,U⟩=>by
  rw[a];dsimp only;rw[Z,Y,U,beq_self_eq_true];rfl
 unfold f7 nR;rw[h.a1,h.a10,h.a11,h.a2,h.a3,fo,h.a7,h.a8,O,h.a9];simp only[beq_self_eq_true,Option.isSome_some,Bool.and_self,Bool.true_and];rw[Jz];intro c I;simp only[cP,mem_cons,mem_nil_iff,or_false]at I;rcases I with rfl | rfl | rfl | rfl | rfl | rfl | rfl | rfl | rfl | rfl | rfl | rfl | rfl | rfl | rfl | rfl
 ·exact one h.b1
 ·exact one h.b2
 ·exact one h.b3
 ·exact one h.b4
 ·exact one h.b5
 ·exact one h.b6
 ·exact one h.b7
 ·exact one h.b8
 ·exact one h.b9
 ·exact one h.b10
 ·exact one h.b11
 ·exact one h.b12
 ·exact one h.b13
 ·exact one h.b14
 ·exact one h.b15
 ·exact one h.b16
abbrev nP:Addr->Prop:=fun _=>False
abbrev jy(K:W.Frag)(H:Hp)(a:Addr)(xs:List V):Prop:=(∃ o,H a=some (.frz o (.lst xs)))\/SqL K (fun _=>none) a xs
def jy.seq{K:W.Frag}(h:jy K H a xs):SqL K H a xs:=by
 rcases h with⟨o,h⟩ | (h | ⟨o,h⟩) | h
 ·exact .inl (.inr #[o,h])
 ·cases h
 ·cases h
 ·exact .inr h
def jy.same{K:W.Frag}(e:aD H H')(h:jy K H a xs):jy K H' a xs:=by
 rcases h with⟨o,h⟩ | h
 ·exact .inl #[o,e _ _ h]
 ·exact .inr h
abbrev gB(H:Hp)(f:Option Nat)(od:Option Addr):Prop:=match f with
 | none=>od=none
 | some k=>∃ n u U O I,od=some n/\H n=some (.frz { cls:=.type "dict",data:=.dict (List.toArray [⟨U,.str "at" O,.int k I⟩]) 1 } u)
def gB.keep(h:gB H f od)(k:∀ b o u,H b=some (.frz o u)->H' b=some (.frz o u)):gB H' f od:=by
 cases f with
 | none=>exact h
 | some m=>exact let ⟨n,u,U,O,I,Z,Y⟩:=h;⟨n,u,U,O,I,Z,k _ _ _ Y⟩
abbrev ExV(K:W.Frag)(H:Hp)(c:Str)(v:V):Prop:=∃ a o u D vs,v=.ref a/\H a=some (.frz o u)/\(o.cls=.ref D/\gB H (RL.dN c) o.dict)/\o.data=.fields vs/\vs[2]?=some .none/\Cls K (RL.baseOf c) D
def ExV.keep{K:W.Frag}(h:ExV K H c v)(k:∀ b o u,H b=some (.frz o u)->H' b=some (.frz o u)):ExV K H' c v :=
 let ⟨a,o,u,D,vs,U,O,I,r⟩:=h;⟨a,o,u,D,vs,U,k _ _ _ O,⟨I.1,I.2.keep k⟩,r⟩
mutual
noncomputable def Rep(P:Addr->Prop)(K:W.Frag)(H:Hp):RL.D->V->Prop
 | .non,v=>v=.non
 | .bl b,v=>v=.bl b
 | .int i,v=>v=.int i
 | .str x,v=>v=.str x
 | .tup ds,v=>∃ a xs,v=.ref a/\H a=some (.tup xs)/\ai P K H ds xs
 | .lst ds,v=>∃ a xs,v=.ref a/\¬ P a/\H a=some (.lst xs)/\ai P K H ds xs
 | .dK ks ds,v=>∃ a xs,v=.ref a/\¬ P a/\H a=some (.dK (ks.zip xs))/\ks.length=ds.length/\ai P K H ds xs
 | .dT ks ds,v=>∃ a xs,v=.ref a/\¬ P a/\H a=some (.dT (ks.zip xs))/\ks.length=ds.length/\ai P K H ds xs
 | .scr ds,v=>∃ a xs,v=.ref a/\jy K H a xs/\ai P K H ds xs
 | .exc c,v=>ExV K H c v
 | .obj,v=>∃ a,v=.ref a
 | .fT ks ds,v=>∃ a o xs,v=.ref a/\H a=some (.frz o (.dT (ks.zip xs)))/\ks.length=ds.length/\ai P K H ds xs
 | .fL ds,v=>∃ a o xs,v=.ref a/\H a=some (.frz o (.lst xs))/\ai P K H ds xs
noncomputable def ai(P:Addr->Prop)(K:W.Frag)(H:Hp):List RL.D->List V->Prop
 | [],xs=>xs=[]
 | d::r,xs=>∃ x t,xs=x::t/\Rep P K H d x/\ai P K H r t
end
mutual
theorem Rep.same{P:Addr->Prop}{K:W.Frag}{H H':Hp}(e:aD H H'):∀ {d:RL.D} {v:V},Rep P K H d v->Rep P K H' d v
 | .non,v,h=>by simpa[Rep]using h
 | .bl _,v,h=>by simpa[Rep]using h
 | .int _,v,h=>by simpa[Rep]using h
 | .str _,v,h=>by simpa[Rep]using h
 | .tup ds,v,h=>by
  k_ne;obtain⟨a,xs,U,O,I⟩:=h;exact#[a,xs,U,e _ _ O,ai.same e I]
 | .lst ds,v,h=>by
  k_ne;obtain⟨a,xs,U,Z,O,I⟩:=h;exact#[a,xs,U,Z,e _ _ O,ai.same e I]
 | .dK ks ds,v,h=>by
  k_ne;obtain⟨a,xs,U,Z,O,Y,I⟩:=h;exact#[a,xs,U,Z,e _ _ O,Y,ai.same e I]
 | .dT ks ds,v,h=>by
  k_ne;obtain⟨a,xs,U,Z,O,Y,I⟩:=h;exact#[a,xs,U,Z,e _ _ O,Y,ai.same e I]
 | .scr ds,v,h=>by
  k_ne;obtain⟨a,xs,U,O,I⟩:=h;exact#[a,xs,U,jy.same e O,ai.same e I]
 | .exc c,v,h=>by rw[Rep]at h ⊢;exact h.keep fun _ _ _ q=>e _ _ q
 | .obj,v,h=>by rw[Rep]at h ⊢;exact h
 | .fT ks ds,v,h=>by rw[Rep]at h ⊢;obtain⟨a,o,xs,U,O,Y,I⟩:=h;exact#[a,o,xs,U,e _ _ O,Y,ai.same e I]
 | .fL ds,v,h=>by rw[Rep]at h ⊢;obtain⟨a,o,xs,U,O,I⟩:=h;exact#[a,o,xs,U,e _ _ O,ai.same e I]
theorem ai.same{P:Addr->Prop}{K:W.Frag}{H H':Hp}(e:aD H H'):∀ {ds:List RL.D} {xs:List V},ai P K H ds xs->ai P K H' ds xs
 | [],xs,h=>by rw[ai]at h ⊢;exact h
 | d::r,xs,h=>by
  rw[ai]at h ⊢;obtain⟨x,t,U,O,I⟩:=h;exact#[x,t,U,Rep.same e O,ai.same e I]
end
mutual
theorem Rep.weak{P b:Addr->Prop}{K:W.Frag}{H:Hp}(e:∀ a,b a->P a):∀ {d:RL.D} {v:V},Rep P K H d v->Rep b K H d v
 | .non,v,h=>by simpa[Rep]using h
 | .bl _,v,h=>by simpa[Rep]using h
 | .int _,v,h=>by simpa[Rep]using h
 | .str _,v,h=>by simpa[Rep]using h
 | .tup ds,v,h=>by
  k_ne;obtain⟨a,xs,U,O,I⟩:=h;exact#[a,xs,U,O,ai.weak e I]
 | .lst ds,v,h=>by
  k_ne;obtain⟨a,xs,U,Z,O,I⟩:=h;exact#[a,xs,U,fun z=>Z (e a z),O,ai.weak e I]
 | .dK ks ds,v,h=>by
  k_ne;obtain⟨a,xs,U,Z,O,Y,I⟩:=h;exact#[a,xs,U,fun z=>Z (e a z),O,Y,ai.weak e I]
 | .dT ks ds,v,h=>by
  k_ne;obtain⟨a,xs,U,Z,O,Y,I⟩:=h;exact#[a,xs,U,fun z=>Z (e a z),O,Y,ai.weak e I]
 | .scr ds,v,h=>by
  k_ne;obtain⟨a,xs,U,O,I⟩:=h;exact#[a,xs,U,O,ai.weak e I]
 | .exc c,v,h=>by rw[Rep]at h ⊢;exact h
 | .obj,v,h=>by rw[Rep]at h ⊢;exact h
 | .fT ks ds,v,h=>by rw[Rep]at h ⊢;obtain⟨a,o,xs,U,O,Y,I⟩:=h;exact#[a,o,xs,U,O,Y,ai.weak e I]
 | .fL ds,v,h=>by rw[Rep]at h ⊢;obtain⟨a,o,xs,U,O,I⟩:=h;exact#[a,o,xs,U,O,ai.weak e I]
theorem ai.weak{P I:Addr->Prop}{K:W.Frag}{H:Hp}(e:∀ a,I a->P a):∀ {ds:List RL.D} {xs:List V},ai P K H ds xs->ai I K H ds xs
 | [],xs,h=>by rw[ai]at h ⊢;exact h
 | d::r,xs,h=>by
  rw[ai]at h ⊢;obtain⟨x,t,Y,U,O⟩:=h;exact#[x,t,Y,Rep.weak e U,ai.weak e O]
end
def Rep.none{P:Addr->Prop}{K:W.Frag}(h:Rep P K H d v):Rep nP K H d v:=h.weak fun _ z=>z.elim
mutual
theorem Rep.imm{P Z:Addr->Prop}{K:W.Frag}{H:Hp}:∀ {d:RL.D} {v:V},d.imm=true->Rep P K H d v->Rep Z K H d v
 | .non,v,_,h=>by simpa[Rep]using h
 | .bl _,v,_,h=>by simpa[Rep]using h
 | .int _,v,_,h=>by simpa[Rep]using h
 | .str _,v,_,h=>by simpa[Rep]using h
 | .tup ds,v,i,h=>by
  k_ne;rw[RL.D.imm]at i;obtain⟨a,xs,U,O,I⟩:=h;exact#[a,xs,U,O,ai.imm i I]
 | .lst ds,v,i,h=>by rw[RL.D.imm]at i;cases i
 | .dK ks ds,v,i,h=>by rw[RL.D.imm]at i;cases i
 | .dT ks ds,v,i,h=>by rw[RL.D.imm]at i;cases i
 | .scr ds,v,i,h=>by
  k_ne;rw[RL.D.imm]at i;obtain⟨a,xs,U,O,I⟩:=h;exact#[a,xs,U,O,ai.imm i I]
 | .exc c,v,i,h=>by rw[Rep]at h ⊢;exact h
 | .obj,v,i,h=>by rw[Rep]at h ⊢;exact h
 | .fT ks ds,v,i,h=>by rw[Rep]at h ⊢;rw[RL.D.imm]at i;obtain⟨a,o,xs,U,O,Y,I⟩:=h;exact#[a,o,xs,U,O,Y,ai.imm i I]
 | .fL ds,v,i,h=>by rw[Rep]at h ⊢;rw[RL.D.imm]at i;obtain⟨a,o,xs,U,O,I⟩:=h;exact#[a,o,xs,U,O,ai.imm i I]
theorem ai.imm{P Y:Addr->Prop}{K:W.Frag}{H:Hp}:∀ {ds:List RL.D} {xs:List V},RL.aF ds=true->ai P K H ds xs->ai Y K H ds xs
 | [],xs,_,h=>by rw[ai]at h ⊢;exact h
 | d::r,xs,i,h=>by
  rw[ai]at h ⊢;rw[RL.aF,and_eq_true]at i;obtain⟨x,t,U,O,I⟩:=h;exact#[x,t,U,Rep.imm i.1 O,ai.imm i.2 I]
end
abbrev df(o:HO):Prop:=(∃ xs,o=.lst xs)\/(∃ kvs,o=.dK kvs)\/(∃ kvs,o=.dT kvs)
mutual
theorem Rep.upd{P:Addr->Prop}{K:W.Frag}{H:Hp}{a:Addr}{o o':HO}(ha:H a=some o)(m:df o)(p:P a):∀ {d:RL.D} {v:V},Rep P K H d v->Rep P K (upd H a o') d v
 | .non,v,h=>by simpa[Rep]using h
 | .bl _,v,h=>by simpa[Rep]using h
 | .int _,v,h=>by simpa[Rep]using h
 | .str _,v,h=>by simpa[Rep]using h
 | .tup ds,v,h=>by
  k_ne;obtain⟨b,xs,U,I,O⟩:=h;have n:b≠a:=k7 I ha (by rcases m with⟨z,rfl⟩ | ⟨z,rfl⟩ | ⟨z,rfl⟩<;>(intro q;cases q));exact#[b,xs,U,by rw[L2.ax n];exact I,ai.upd ha m p O]
 | .lst ds,v,h=>by
  k_ne;obtain⟨b,xs,U,Y,I,O⟩:=h;have n:b≠a:=fun z=>Y (z▸p);exact#[b,xs,U,Y,by rw[L2.ax n];exact I,ai.upd ha m p O]
 | .dK ks ds,v,h=>by
  k_ne;obtain⟨b,xs,U,Y,I,Z,O⟩:=h;have n:b≠a:=fun z=>Y (z▸p);exact#[b,xs,U,Y,by rw[L2.ax n];exact I,Z,ai.upd ha m p O]
 | .dT ks ds,v,h=>by
  k_ne;obtain⟨b,xs,U,Y,I,Z,O⟩:=h;have n:b≠a:=fun z=>Y (z▸p);exact#[b,xs,U,Y,by rw[L2.ax n];exact I,Z,ai.upd ha m p O]
 | .scr ds,v,h=>by
  k_ne;obtain⟨b,xs,U,I,O⟩:=h;refine#[b,xs,U,?_,ai.upd ha m p O];rcases I with⟨q,I⟩ | I
  ·have n:b≠a:=k7 I ha (by rcases m with⟨z,rfl⟩ | ⟨z,rfl⟩ | ⟨z,rfl⟩<;>(intro q;cases q));exact .inl #[q,by rw[L2.ax n];exact I]
  ·exact .inr I
 | .obj,v,h=>by rw[Rep]at h ⊢;exact h
 | .exc c,v,h=>by
  k_ne;refine h.keep fun b ob u q=>?_;have n:b≠a:=k7 q ha (by rcases m with⟨z,rfl⟩ | ⟨z,rfl⟩ | ⟨z,rfl⟩<;>(intro q;cases q));rw[L2.ax n];exact q
 | .fT ks ds,v,h=>by
  k_ne;obtain⟨b,ob,xs,U,I,Z,O⟩:=h;have n:b≠a:=k7 I ha (by rcases m with⟨z,rfl⟩ | ⟨z,rfl⟩ | ⟨z,rfl⟩<;>(intro q;cases q));exact#[b,ob,xs,U,by rw[L2.ax n];exact I,Z,ai.upd ha m p O]
 | .fL ds,v,h=>by
  k_ne;obtain⟨b,ob,xs,U,I,O⟩:=h;have n:b≠a:=k7 I ha (by rcases m with⟨z,rfl⟩ | ⟨z,rfl⟩ | ⟨z,rfl⟩<;>(intro q;cases q));exact#[b,ob,xs,U,by rw[L2.ax n];exact I,ai.upd ha m p O]
theorem ai.upd{P:Addr->Prop}{K:W.Frag}{H:Hp}{a:Addr}{o o':HO}(ha:H a=some o)(m:df o)(p:P a):∀ {ds:List RL.D} {xs:List V},ai P K H ds xs->ai P K (upd H a o') ds xs
 | [],xs,h=>by rw[ai]at h ⊢;exact h
 | d::r,xs,h=>by
  rw[ai]at h ⊢;obtain⟨x,t,U,O,I⟩:=h;exact#[x,t,U,Rep.upd ha m p O,ai.upd ha m p I]
end
section lists
variable{K:W.Frag}
def ai.nil:ai P K H [] []:=by rw[ai]
def ai.cons{d:RL.D}{ds:List RL.D}{x:V}{xs:List V}(h:Rep P K H d x)(t:ai P K H ds xs):ai P K H (d::ds) (x::xs):=by rw[ai];exact#[x,xs,rfl,h,t]
def ai.length:∀ {ds:List RL.D} {xs:List V},ai P K H ds xs->ds.length=xs.length
 | [],xs,h=>by rw[ai]at h;rw[h];rfl
 | d::r,xs,h=>by
  obtain⟨x,t,rfl,_,I⟩:=h;rw[length_cons,length_cons,ai.length I]
def ai.append:∀ {ds es:List RL.D} {xs ys:List V},ai P K H ds xs->ai P K H es ys->ai P K H (ds++es) (xs++ys)
 | [],_,xs,_,h,k=>by rw[ai]at h;rw[h];exact k
 | d::r,_,xs,_,h,k=>by
  obtain⟨x,t,rfl,O,I⟩:=h;exact ai.cons O (ai.append I k)
def ai.get:∀ {ds:List RL.D} {xs:List V} {i:Nat} {d:RL.D},ai P K H ds xs->ds[i]?=some d->∃ x,xs[i]?=some x/\Rep P K H d x
 | [],_,i,d,_,e=>by simp at e
 | d::r,xs,0,d',h,e=>by
  obtain⟨x,t,rfl,Y,_⟩:=h;simp at e;subst e;exact#[x,rfl,Y]
 | d::r,xs,i+1,d',h,e=>by
  obtain⟨x,t,rfl,_,U⟩:=h;obtain⟨y,O,I⟩:=ai.get U (by simpa using e);exact#[y,by simpa using O,I]
def ai.take:∀ {ds:List RL.D} {xs:List V} (n:Nat),ai P K H ds xs->ai P K H (ds.take n) (xs.take n)
 | _,_,0,_=>by simpa using ai.nil
 | [],xs,n+1,h=>by rw[ai]at h;rw[h];simpa using ai.nil
 | d::r,xs,n+1,h=>by
  obtain⟨x,t,rfl,O,I⟩:=h;exact ai.cons O (ai.take n I)
def ai.drop:∀ {ds:List RL.D} {xs:List V} (n:Nat),ai P K H ds xs->ai P K H (ds.drop n) (xs.drop n)
 | _,_,0,h=>h
 | [],xs,n+1,h=>by rw[ai]at h;rw[h];simpa using ai.nil
 | d::r,xs,n+1,h=>by
  obtain⟨x,t,rfl,_,I⟩:=h;exact ai.drop n I
def ai.rep(h:ai P K H ds xs):∀ n:Nat,ai P K H (replicate n ds).flatten (replicate n xs).flatten
 | 0=>ai.nil
 | n+1=>by
  exact ai.append h (ai.rep h n)
end lists
abbrev RV0(K:W.Frag)(I:RL.St)(J:L2.St)(H:Hp):Prop:=I.length<=J.length/\∀ (i:Nat) (d:RL.D),I[i]?=some (some d)->∃ v,J[i]?=some (some v)/\Rep nP K H d v
def RV0.same{K:W.Frag}(h:RV0 K Qb J H)(e:aD H H'):RV0 K Qb J H':=⟨h.1,fun i d q=>by
 obtain⟨v,O,I⟩:=h.2 i d q
 exact#[v,O,I.same e]⟩
abbrev iY:RL.D->Bool
 | .lst _=>true
 | .dK _ _=>true
 | .dT _ _=>true
 | _=>false
structure Res(K:W.Frag)(Qb:RL.St)(J:L2.St)(H:Hp)(e:RL.E)(d:RL.D)(v:V)(H':Hp):Prop where
 same:aD H H'
 rep:Rep nP K H' d v
 fresh:RL.aH e=true->iY d=true->∀ a,v=.ref a->H a=none
 av:∀ M,RL.avE M e=true->∀ P:Addr->Prop,(∀ a,P a->H a≠none)->(∀ (j:Nat) (dj:RL.D) (vj:V),M.contains j=false->Qb[j]?=some (some dj)->J[j]?=some (some vj)->Rep P K H dj vj)->Rep P K H' d v
abbrev tE(K:W.Frag)(cl:RL.Cl)(e:RL.E):TE:=fun J H Q=>∃ I d,RV0 K I J H/\RL.ev cl I e=some d/\∀ v H',Res K I J H e d v H'->Q v H'
abbrev SE(X:Cx)(cl:RL.Cl)(e:Expr)(e':RL.E):Prop:=PE X e (tE X.K cl e')
def PE.weak(h:PE X e t)(w:∀ J H Q,t' J H Q->t J H Q):PE X e t':=fun pins s J H Q I q=>h pins s J H Q I (w J H Q q)
abbrev tEs(K:W.Frag)(cl:RL.Cl)(es:RL.Es):TA:=fun J H Q=>∃ I ds,RV0 K I J H/\RL.evs cl I es=some ds/\∀ vs H',aD H H'->ai nP K H' ds vs->Q vs H'
abbrev SEs(X:Cx)(cl:RL.Cl)(es:List Expr)(I:RL.Es):Prop:=PA X es (tEs X.K cl I)
section rules
variable{X:Cx}
def two{I:RL.St}{J:L2.St}{H:Hp}{x y:RL.D}{R:V->V->Hp->Prop}(Y:RV0 X.K I J H)(a:RL.ev cl I a'=some x)(Z:RL.ev cl I b'=some y)
 (k:∀ v u O H2,aD H O->aD O H2->Rep nP X.K H2 x v->Rep nP X.K H2 y u->Res X.K I J H a' x v O->Res X.K I J O b' y u H2->R v u H2) :
  tE X.K cl a' J H fun v O=>tE X.K cl b' J O fun u H2=>R v u H2 :=
 ⟨I,x,Y,a,fun v O r1=>#[I,y,Y.same r1.same,Z,fun u H2 U=>k v u O H2 r1.same U.same (r1.rep.same U.same) U.rep r1 U]⟩
def bind_some(h:o.bind f=some y):∃ x,o=some x/\f x=some y:=by
 cases o with
 | none=>cases h
 | some x=>exact#[x,rfl,h]
def map_some(h:o.map f=some y):∃ x,o=some x/\f x=y:=by
 cases o with
 | none=>cases h
 | some x=>exact#[x,rfl,Option.some.inj h]
def cL:RL.most<=sizeLine:=by decide
def aD.cI(hn:H p=none):aD H (upd H p o):=fun b u e=>by rw[ax (aJ e hn)];exact e
def Cj(b:X.N[i]?=some x)(a:Vis X.env.scope x)(hd:(x == ("__debug__" : Str))=false)(Y:(x == ("__classdict__" : Str))=false):SE X cl (.Name x pos) (.var i):=by
 refine PE.weak (c9 b a hd Y) fun J H Q h=>?_;obtain⟨U,d,Z,e,k⟩:=h
 have e':U[i]?=some (some d):=by
  obtain⟨o,O,I⟩:=bind_some e
  cases o with
  | none=>cases I
  | some z=>cases I;exact O
 obtain⟨v,O,I⟩:=Z.2 i d e';refine⟨v,O,k v H ⟨aD.refl H,I,fun z=>(by cases z),fun M z P c av=>?_⟩⟩;rw[RL.E6]at z;exact av i d v (by simpa using z) e' O
def kH(h:PE X (.Constant k j pos) (tC v))(r:∀ P H,Rep P X.K H d v)(hm:iY d=false):SE X cl (.Constant k j pos) (.cst d):=by
 refine PE.weak h fun J H Q q=>?_;obtain⟨I,U,O,e,k⟩:=q;cases e;exact k v H ⟨aD.refl H,r _ _,fun z=>(by cases z),fun M z=>nomatch (show false=true from z)⟩
def AR{x:Str}{i:Int}{u:Value}(h:PE X (.Name x pos) (tC (.int i))):SE X cl (.Name x pos) (.glb x i):=by
 refine PE.weak h fun J H Q q=>?_;obtain⟨I,U,O,e,k⟩:=q;cases e;exact k _ H ⟨aD.refl H,(by rw[Rep]),fun z=>(by cases z),fun M z=>nomatch (show false=true from z)⟩
end rules
section rules
variable{X:Cx}
def ck(sm:aD H H')(r:Rep nP X.K H' d v)(I:d.imm=true):Res X.K Qb J H e d v H' where
 same:=sm
 rep:=r
 fresh:=fun _ m=>by
  cases d with
  | lst _=>cases I
  | dK _ _=>cases I
  | dT _ _=>cases I
  | _=>cases m
 av:=fun M _ P _ _=>r.imm I
def xI:OpR X (binaryOp .FloorDiv) (rI (fun _ j=>0<j/\j<2 ^ 200) fun i j=>.int (i / j)):=opI fun i j _ _ _ _ _ U q=>by
 refine floordiv_int ⋯ ?_ (.inl (PyProof.noPylong_of_log2 ?_))
 ·rw[Int.fdiv_eq_ediv_of_nonneg _ ⋯];exact q
 ·have O:j.natAbs≠0:=by lia
  have I:j.natAbs<2 ^ 200:=by
   omega
  have Y:j.natAbs.log2<200:=(Nat.log2_lt O).mpr I;lia
def fu(sm:aD H H1)(hn:H1 p=none)(r:ai nP X.K H1 ds xs)(I:∀ M,RL.avE M e=false):Res X.K Qb J H e (.lst ds) (.ref p) (upd H1 p (.lst xs)) where
 same:=sm.trans (aD.cI hn)
 rep:=by
  exact#[p,xs,rfl,fun z=>z,aG,r.same (aD.cI hn)]
 fresh:=fun _ _ a z=>by
  cases z;exact sm.free hn
 av:=fun M z=>by rw[I M]at z;cases z
def iC(sm:aD H H1)(hn:H1 p=none)(r:ai nP X.K H1 ds xs)(I:∀ M,RL.avE M e=false):Res X.K Qb J H e (.tup ds) (.ref p) (upd H1 p (.tup xs)) where
 same:=sm.trans (aD.cI hn)
 rep:=by
  exact#[p,xs,rfl,aG,r.same (aD.cI hn)]
 fresh:=fun _ m=>by cases m
 av:=fun M z=>by rw[I M]at z;cases z
abbrev pz:RL.Bop->Operator
 | .add=>.Add
 | .sub=>.Sub
 | .mul=>.Mult
 | .fdiv=>.FloorDiv
 | .mod=>.Mod
 | .pow=>.Pow
def bb{P:Addr->Prop}{K:W.Frag}:Rep P K H (.int i) (.int i):=by rw[Rep]
def oH{P:Addr->Prop}{K:W.Frag}:Rep P K H (.bl i) (.bl i):=by rw[Rep]
def gh{P:Addr->Prop}{K:W.Frag}:Rep P K H (.str i) (.str i):=by rw[Rep]
def ar{P:Addr->Prop}{K:W.Frag}(h:Rep P K H (.int i) v):v=.int i:=by rw[Rep]at h;exact h
def bj{P:Addr->Prop}{K:W.Frag}(h:Rep P K H (.bl i) v):v=.bl i:=by rw[Rep]at h;exact h
def aP{P:Addr->Prop}{K:W.Frag}(h:Rep P K H (.str i) v):v=.str i:=by rw[Rep]at h;exact h
abbrev kW(X:Cx)(o:RL.Bop)(r:R2):Prop :=
 ∀ (I:RL.St) (J:L2.St) (H H2:Hp) (e:RL.E) (x y d:RL.D) (v u:V) (Q:VK),aD H H2->Rep nP X.K H2 x v->Rep nP X.K H2 y u->RL.aT o x y=some d->(∀ M,RL.avE M e=false) ->
  (∀ w H',Res X.K I J H e d w H'->Q w H')->r v u H2 Q
def gf(ho:OpR X (binaryOp (pz o)) r)(ok:kW X o r)(ha:SE X cl a a')(hb:SE X cl b b'):SE X cl (.BinOp a (pz o) b pos) (.bin o a' b'):=by
 refine PE.weak (DV ho ha hb) fun J H Q h=>?_;obtain⟨I,d,Y,e,k⟩:=h;obtain⟨x,c,e⟩:=bind_some e;obtain⟨y,Z,e⟩:=bind_some e;refine two Y c Z fun v u f H2 s1 s2 U O _ _=>?_;exact ok I J H H2 _ x y d v u Q (s1.trans s2) U O e (fun _=>rfl) k
end rules
section rules
variable{X:Cx}{cl:RL.Cl}{a b c:Expr}{a' b' c':RL.E}{pos:Pos}
def bx{α:Type}{c:Prop} [Decidable c]{a d:α}(h:(if c then some a else none)=some d):c/\d=a:=by
 by_cases I:c
 ·rw[if_pos I]at h;exact#[I,(Option.some.inj h).symm]
 ·rw[if_neg I]at h;cases h
def noN{α:Type}{o:Option α}{d:α}{p:Prop}(e:o=none)(h:o=some d):p:=by rw[e]at h;cases h
def wb{x y d:RL.D}(h:RL.aT .add x y=some d):(∃ i j,x=.int i/\y=.int j/\d=.int (i+j))\/(∃ i j:Str,x=.str i/\y=.str j/\i.length+j.length<=RL.most/\d=.str (i++j)) \/
  (∃ i j,x=.lst i/\y=.lst j/\i.length+j.length<=RL.most/\d=.lst (i++j)) \/
  (∃ i j,x=.tup i/\y=.tup j/\(i.length+j.length<=RL.most/\0<i.length)/\d=.tup (i++j)):=by
 cases x with
 | int i=>cases y with
  | int j=>cases h;exact .inl #[i,j,rfl,rfl,rfl]
  | _=>exact noN rfl h
 | str i=>cases y with
  |str j=>
   obtain⟨I,e⟩:=bx h;exact .inr (.inl #[i,j,rfl,rfl,I,e])
  | _=>exact noN rfl h
 | lst i=>cases y with
  |lst j=>
   obtain⟨I,e⟩:=bx h;exact .inr (.inr (.inl #[i,j,rfl,rfl,I,e]))
  | _=>exact noN rfl h
 | tup i=>cases y with
  |tup j=>
   obtain⟨I,e⟩:=bx h;exact .inr (.inr (.inr #[i,j,rfl,rfl,I,e]))
  | _=>exact noN rfl h
 | _=>exact noN rfl h
def wY{x y d:RL.D}(h:RL.aT .mul x y=some d):(∃ i j,x=.int i/\y=.int j/\sd i j/\d=.int (i*j)) \/
  (∃ i j,x=.lst i/\y=.int j/\(0<=j/\j<=RL.most/\i.length*j.toNat<=RL.most)/\d=.lst (replicate j.toNat i).flatten):=by
 cases x with
 | int i=>cases y with
  |int j=>
   obtain⟨I,e⟩:=bx h;exact .inl #[i,j,rfl,rfl,I,e]
  | _=>exact noN rfl h
 | lst i=>cases y with
  |int j=>
   obtain⟨I,e⟩:=bx h;exact .inr #[i,j,rfl,rfl,I,e]
  | _=>exact noN rfl h
 | _=>exact noN rfl h
def gU{o:RL.Bop}{x y d:RL.D}(h:RL.aT o x y=some d)(ho:o≠.add)(hm:o≠.mul):∃ i j,x=.int i/\y=.int j/\RL.aT o (.int i) (.int j)=some d:=by
 have no:∀ {a b:RL.D},RL.aT .sub a b=none->RL.aT .fdiv a b=none->RL.aT .mod a b=none->RL.aT .pow a b=none->RL.aT o a b=some d->False:=fun Y U O I h=>by
  cases o with
  | add=>exact ho rfl
  | mul=>exact hm rfl
  | sub=>rw[Y]at h;cases h
  | fdiv=>rw[U]at h;cases h
  | mod=>rw[O]at h;cases h
  | pow=>rw[I]at h;cases h
 cases x with
 | int i=>cases y with
  | int j=>exact#[i,j,rfl,rfl,h]
  | _=>exact(no rfl rfl rfl rfl h).elim
 | _=>exact(no rfl rfl rfl rfl h).elim
def wN{x y d:RL.D}(h:RL.aT .sub x y=some d):∃ i j,x=.int i/\y=.int j/\d=.int (i-j):=by
 obtain⟨i,j,O,I,h⟩:=gU h ∅ ∅;cases h;exact#[i,j,O,I,rfl]
def tZ{x y d:RL.D}(h:RL.aT .fdiv x y=some d):∃ i j,x=.int i/\y=.int j/\(0<j/\j<2 ^ 200)/\d=.int (i / j):=by
 obtain⟨i,j,U,O,h⟩:=gU h ∅ ∅;obtain⟨I,e⟩:=bx h;exact#[i,j,U,O,I,e]
def wG{x y d:RL.D}(h:RL.aT .mod x y=some d):∃ i j,x=.int i/\y=.int j/\0<j/\d=.int (i%j):=by
 obtain⟨i,j,U,O,h⟩:=gU h ∅ ∅;obtain⟨I,e⟩:=bx h;exact#[i,j,U,O,I,e]
def wB{x y d:RL.D}(h:RL.aT .pow x y=some d):∃ i j,x=.int i/\y=.int j/\(0<=j/\j<=1000/\i.natAbs<2 ^ 64)/\d=.int (i ^ j.toNat):=by
 obtain⟨i,j,U,O,h⟩:=gU h ∅ ∅;obtain⟨I,e⟩:=bx h;exact#[i,j,U,O,I,e]
def bc{P:Addr->Prop}{K:W.Frag}{H:Hp}{ds:List RL.D}{v:V}(h:Rep P K H (.lst ds) v):∃ a xs,v=.ref a/\¬ P a/\H a=some (.lst xs)/\ai P K H ds xs:=by rw[Rep]at h;exact h
def bu{P:Addr->Prop}{K:W.Frag}{H:Hp}{ds:List RL.D}{v:V}(h:Rep P K H (.tup ds) v):∃ a xs,v=.ref a/\H a=some (.tup xs)/\ai P K H ds xs:=by rw[Rep]at h;exact h
def Bg:kW X .sub (rI0 fun i j=>.int (i-j)):=by
 intro I J H H2 e x y d v u Q sm U O h Y k;obtain⟨i,j,rfl,rfl,rfl⟩:=wN h;exact#[i,j,ar U,ar O,k _ _ (ck sm bb rfl)]
def yJ:kW X .fdiv (rI (fun _ j=>0<j/\j<2 ^ 200) fun i j=>.int (i / j)):=by
 intro I J H H2 e x y d v u Q sm U O h Z k;obtain⟨i,j,rfl,rfl,Y,rfl⟩:=tZ h;exact#[i,j,ar U,ar O,Y,k _ _ (ck sm bb rfl)]
def Cg:kW X .mod (rI (fun _ j=>0<j) fun i j=>.int (i%j)):=by
 intro I J H H2 e x y d v u Q sm U O h Z k;obtain⟨i,j,rfl,rfl,Y,rfl⟩:=wG h;exact#[i,j,ar U,ar O,Y,k _ _ (ck sm bb rfl)]
def C8:kW X .pow (rI AA fun i j=>.int (i ^ j.toNat)):=by
 intro O J H H2 e x y d v u Q sm Y U h Z k;obtain⟨i,j,rfl,rfl,I,rfl⟩:=wB h;exact#[i,j,ar Y,ar U,#[I.1,Int.le_trans I.2.1 ∅,I.2.2],k _ _ (ck sm bb rfl)]
def Cy(ha:SE X cl a a')(hb:SE X cl b b'):SE X cl (.BinOp a .Add b pos) (.bin .add a' b'):=by
 refine gf (Dd.or (si.or (BX.or zO))) ?_ ha hb;intro n J H H2 e x y d v u Q sm U Z h I k
 rcases wb h with⟨i,j,rfl,rfl,rfl⟩ | ⟨i,j,rfl,rfl,Y,rfl⟩ | ⟨i,j,rfl,rfl,Y,rfl⟩ | ⟨i,j,rfl,rfl,⟨Y,ha⟩,rfl⟩
 ·exact .inl #[i,j,ar U,ar Z,k _ _ (ck sm bb rfl)]
 ·exact .inr (.inl #[i,j,aP U,aP Z,Jr Y cL,k _ _ (ck sm gh rfl)])
 ·obtain⟨p,xs,c,_,g,O⟩:=bc U;obtain⟨q,ys,f1,_,f2,f3⟩:=bc Z;refine .inr (.inr (.inl #[p,q,xs,ys,c,f1,g,f2,?_,fun l f=>k _ _ (fu sm f (O.append f3) I)]));rw[<-O.length,<-f3.length];exact Jr Y cL
 ·obtain⟨p,xs,c,g,O⟩:=bu U;obtain⟨q,ys,f1,f2,f3⟩:=bu Z;refine .inr (.inr (.inr #[p,q,xs,ys,c,f1,SqT.of g,SqT.of f2,fun z=>?_,?_,fun z=>?_,fun _ l f=>k _ _ (iC sm f (O.append f3) I)]))
  ·rw[O.length,z]at ha;exact absurd ha ∅
  ·rw[<-O.length,<-f3.length];exact Jr Y cL
  ·have o:j=[]:=by
    have:=f3.length;rw[z]at this;exact List.length_eq_zero_iff.mp this
   subst o;rw[Ju]at k;exact k _ _ ⟨sm,c▸U,fun _ m=>(by cases m),fun M z=>by rw[I M]at z;cases z⟩
def Bc(ha:SE X cl a a')(hb:SE X cl b b'):SE X cl (.BinOp a .Mult b pos) (.bin .mul a' b'):=by
 refine gf (BD.or CY) ?_ ha hb;intro c J H H2 e x y d v u Q sm Y U h O k
 rcases wY h with⟨i,j,rfl,rfl,I,rfl⟩ | ⟨i,j,rfl,rfl,I,rfl⟩
 ·exact .inl #[i,j,ar Y,ar U,I,k _ _ (ck sm bb rfl)]
 ·obtain⟨p,xs,m,_,g,Z⟩:=bc Y;refine .inr #[p,j,xs,m,ar U,g,?_,?_,?_,fun l f=>k _ _ (fu sm f (Z.rep _) O)]
  ·exact Int.le_trans ∅ I.1
  ·exact Int.lt_of_le_of_lt I.2.1 ∅
  ·rw[<-Z.length];exact Jr I.2.2 cL
def Br{o:RL.Bop}(ha:SE X cl a a')(hb:SE X cl b b'):SE X cl (.BinOp a (pz o) b pos) (.bin o a' b'):=by
 cases o with
 | add=>exact Cy ha hb
 | mul=>exact Bc ha hb
 | sub=>exact gf C2 Bg ha hb
 | fdiv=>exact gf xI yJ ha hb
 | mod=>exact gf AL Cg ha hb
 | pow=>exact gf Cs C8 ha hb
def dz{I:RL.St}{J:L2.St}{H H':Hp}{e:RL.E}{k:Bool}(sm:aD H H'):Res X.K I J H e (.bl k) (.bl k) H':=ck sm oH rfl
def B3{rest:List Expr}(ha:SE X cl a a')(hb:SE X cl (.BoolOp .And (b::rest) pos) b'):SE X cl (.BoolOp .And (a::b::rest) pos) (.and a' b'):=by
 refine PE.weak (BA ha hb) fun J H Q h=>?_;obtain⟨I,d,O,e,k⟩:=h;obtain⟨x,Y,e⟩:=bind_some e;refine#[I,x,O,Y,fun v Z r1=>?_]
 cases x with
 |bl t=>
  refine#[t,bj r1.rep,?_]
  cases t with
  |true=>
   refine fQ ?_;refine#[I,d,O.same r1.same,e,fun w H2 U=>k w H2 ?_];exact⟨r1.same.trans U.same,U.rep,fun z=>(by cases z),fun M z=>nomatch (show false=true from z)⟩
  |false=>
   refine gE ?_;cases e;exact k _ _ (dz r1.same)
 | _=>cases e
def DR{rest:List Expr}(ha:SE X cl a a')(hb:SE X cl (.BoolOp .Or (b::rest) pos) b'):SE X cl (.BoolOp .Or (a::b::rest) pos) (.or a' b'):=by
 refine PE.weak (DK ha hb) fun J H Q h=>?_;obtain⟨I,d,O,e,k⟩:=h;obtain⟨x,Y,e⟩:=bind_some e;refine#[I,x,O,Y,fun v Z r1=>?_]
 cases x with
 |bl t=>
  refine#[t,bj r1.rep,?_]
  cases t with
  |false=>
   refine gE ?_;refine#[I,d,O.same r1.same,e,fun w H2 U=>k w H2 ?_];exact⟨r1.same.trans U.same,U.rep,fun z=>(by cases z),fun M z=>nomatch (show false=true from z)⟩
  |true=>
   refine fQ ?_;cases e;exact k _ _ (dz r1.same)
 | _=>cases e
def v7{op}(ha:SE X cl a a'):SE X cl (.BoolOp op [a] pos) a':=BO ha
abbrev tT(K:W.Frag)(cl:RL.Cl)(e:RL.E):TT:=fun J H Q=>∃ I k,RV0 K I J H/\(RL.ev cl I e).bind RL.truth=some k/\∀ H',aD H H'->Q k H'
abbrev ST(X:Cx)(cl:RL.Cl)(e:Expr)(e':RL.E):Prop:=PT X e (tT X.K cl e')
abbrev SW(X:Cx)(cl:RL.Cl)(e:Expr)(e':RL.E):Prop:=PW X e (tT X.K cl e')
def PT.weak{e:Expr}{t t':TT}(h:PT X e t)(w:∀ J H Q,t' J H Q->t J H Q):PT X e t':=fun pins s J H Q I q=>h pins s J H Q I (w J H Q q)
def PW.weak{e:Expr}{t t':TT}(h:PW X e t)(w:∀ J H Q,t' J H Q->t J H Q):PW X e t':=fun O pins s J H Q I q=>h O pins s J H Q I (w J H Q q)
def ai.isEmpty{P:Addr->Prop}{K:W.Frag}{H:Hp}{ds:List RL.D}{xs:List V}(h:ai P K H ds xs):ds.isEmpty=xs.isEmpty:=by
 cases ds with
 | nil=>rw[ai]at h;rw[h];rfl
 |cons d r=>
  obtain⟨x,t,rfl,_⟩:=h;rfl
def BY{K:W.Frag}{H:Hp}{d:RL.D}{v:V}{k:Bool}(r:Rep nP K H d v)(h:RL.truth d=some k):sG K v H k:=by
 cases d<;>simp only[RL.truth]at h<;>first | (cases h;done) | skip
 case bl t=>cases h;rw[bj r];exact rfl
 case int t =>
  cases h;rw[ar r];simp[sG]
 case tup ds =>
  obtain⟨a,xs,rfl,e,I⟩:=bu r;cases h;exact .inr (.inl #[xs,SqT.of e,by rw[I.isEmpty]])
 case lst ds =>
  obtain⟨a,xs,rfl,_,e,I⟩:=bc r;cases h;exact .inl #[xs,SqL.of e,by rw[I.isEmpty]]
def xr(ha:SE X cl a a')(U:∀ whole,isTrue a X.env whole=(do let v <- whole;standAt a.pos;holding [v] (truthy v))):ST X cl a a':=by
 refine PT.weak (xf ha U) fun J H Q h=>?_;obtain⟨I,k,O,e,q⟩:=h;obtain⟨d,Z,Y⟩:=bind_some e;exact#[I,d,O,Z,fun v b r1=>#[k,BY r1.rep Y,q b r1.same]]
def uw{I:BoolOp}(ha:ST X cl a a'):SW X cl (.BoolOp I [a] pos) a':=by
 cases I with
 | And=>exact Af ha
 | Or=>exact B4 ha
def uQ{I:RL.St}{k:Bool}(h:(RL.ev cl I (.and a' b')).bind RL.truth=some k):∃ t,(RL.ev cl I a').bind RL.truth=some t/\(if t=true then(RL.ev cl I b').bind RL.truth=some k else k=false):=by
 rw[RL.gY]at h
 cases ea:RL.ev cl I a' with
 | none=>rw[ea]at h;cases h
 |some x=>
  rw[ea]at h
  cases x with
  |bl t=>
   cases t with
   | true=>exact#[true,rfl,fQ h]
   | false=>exact⟨false,rfl,gE (by cases h;rfl)⟩
  | _=>exact noN rfl h
def xH{I:RL.St}{k:Bool}(h:(RL.ev cl I (.or a' b')).bind RL.truth=some k):∃ t,(RL.ev cl I a').bind RL.truth=some t/\(if t=true then k=true else(RL.ev cl I b').bind RL.truth=some k):=by
 rw[RL.xS]at h
 cases ea:RL.ev cl I a' with
 | none=>rw[ea]at h;cases h
 |some x=>
  rw[ea]at h
  cases x with
  |bl t=>
   cases t with
   | true=>exact⟨true,rfl,fQ (by cases h;rfl)⟩
   | false=>exact#[false,rfl,gE h]
  | _=>exact noN rfl h
def Bh{rest:List Expr}(ha:ST X cl a a')(hb:SW X cl (.BoolOp .And (b::rest) pos) b'):SW X cl (.BoolOp .And (a::b::rest) pos) (.and a' b'):=by
 refine PW.weak (AG ha hb) fun J H Q h=>?_;obtain⟨I,k,U,e,q⟩:=h;obtain⟨t,Y,O⟩:=uQ e;refine#[I,t,U,Y,fun Z s1=>?_]
 cases t with
 | true=>exact fQ ⟨I,k,U.same s1,O,fun H2 s2=>q H2 (s1.trans s2)⟩
 |false=>
  have O:=O;subst O;exact gE (q Z s1)
def DT{rest:List Expr}(ha:ST X cl a a')(hb:SW X cl (.BoolOp .Or (b::rest) pos) b'):SW X cl (.BoolOp .Or (a::b::rest) pos) (.or a' b'):=by
 refine PW.weak (D5 ha hb) fun J H Q h=>?_;obtain⟨I,k,U,e,q⟩:=h;obtain⟨t,Y,O⟩:=xH e;refine#[I,t,U,Y,fun Z s1=>?_]
 cases t with
 |true=>
  have O:=O;subst O;exact fQ (q Z s1)
 | false=>exact gE ⟨I,k,U.same s1,O,fun H2 s2=>q H2 (s1.trans s2)⟩
def CJ(ha:ST X cl a a'):ST X cl (.UnaryOp .Not a pos) (.not a'):=by
 refine PT.weak (C3 ha) fun J H Q h=>?_;obtain⟨I,k,O,e,q⟩:=h;obtain⟨d,b,Z⟩:=bind_some e;obtain⟨t,Y,U⟩:=map_some b;subst U;cases Z;exact#[I,t,O,Y,fun c s1=>q c s1]
end rules
section rules
variable{X:Cx}
def By(ha:SE X cl a a'):SE X cl (.UnaryOp .Not a pos) (.not a'):=by
 fin2;obtain⟨U,d,Y,e,k⟩:=h;obtain⟨t,j,i⟩:=map_some e;obtain⟨x,g,f⟩:=bind_some j;subst i;refine UnaryOp_ (thn (ha pins s J H (fun v O=>aD H O/\Rep nP X.K O x v) I ⟨U,x,Y,g,fun v O r1=>#[r1.same,r1.rep]⟩) fun v s1 ⟨y,O,m,r1,sm,Z⟩=>?_);refine not_of (thn (uz pins s1 J O y v (fun k H2=>k=t/\H2=O) m r1 ⟨t,BY Z f,rfl,rfl⟩) fun k2 s2 ⟨H2,l,c,b⟩=>?_);subst c;subst b;exact#[.bl (!k2),H2,l,rfl,k _ _ (dz sm)]
abbrev noStar:Expr->Bool
 | .Starred _ _=>false
 | _=>true
def aA(es:List Expr)(h:noStar e=true):starEach (e::es) X.env=(false,eval e X.env)::starEach es X.env:=by
 cases e<;>first | rfl | (cases h)
def cA:∀ {es:List Expr} {I:Pos},es.all noStar=true->(backTo I (starEach es X.env)).any (·.1)=false
 | [],_,_=>rfl
 | e::es,I,h=>by
  rw[Jx,and_eq_true]at h;rw[aA es h.1];show(false || (backTo I (starEach es X.env)).any (·.1))=false;rw[cA h.2];rfl
def dn:SEs X cl [] .nil:=by
 intro O pins s J H Q I h;obtain⟨U,ds,Y,e,k⟩:=h;cases e;exact bE O pins s J H Q I (k [] H (aD.refl H) ai.nil)
def bV(b:SE X cl e e')(a:SEs X cl es es')(hn:noStar e=true):SEs X cl (e::es) (.cons e' es'):=by
 intro U pins s J H Q I h;refine aO b a (aA es hn) U pins s J H Q I ?_;obtain⟨O,ds,Y,e,k⟩:=h;obtain⟨d,i,g⟩:=bind_some e;obtain⟨r,f,c⟩:=map_some g;subst c;refine#[O,d,Y,i,fun v j r1=>#[O,r,Y.same r1.same,f,fun vs H2 s2 Z=>k (v::vs) H2 (r1.same.trans s2) (ai.cons (r1.rep.same s2) Z)]]
abbrev ee:RL.Es->Nat
 | .nil=>0
 | .cons _ r=>ee r+1
def kd:∀ {es:RL.Es} {ds:List RL.D},RL.evs cl Qb es=some ds->ds.length=ee es
 | .nil,ds,h=>by rw[RL.evs]at h;cases h;rfl
 | .cons e r,ds,h=>by
  obtain⟨d,Y,U⟩:=bind_some h;obtain⟨t,O,I⟩:=map_some U;subst I;rw[length_cons,kd O,ee]
def Cp(h:SEs X cl es es')(Z:ee es'<=1000):SE X cl (.Tuple es x1 pos) (.tup es'):=by
 refine PE.weak (uX h) fun J H Q q=>?_;obtain⟨I,d,U,e,k⟩:=q;obtain⟨ds,O,a⟩:=map_some e;subst a;refine#[I,ds,U,O,fun vs b s1 r1=>#[?_,fun p Y=>k _ _ (iC s1 Y r1 fun _=>rfl)]];rw[<-r1.length,kd O];exact le_of_lt (mn Z)
def AB(h:SEs X cl es es')(Z:ee es'<=1000):SE X cl (.List es pos) (.lst es'):=by
 refine PE.weak (oy h) fun J H Q q=>?_;obtain⟨I,d,U,e,k⟩:=q;obtain⟨ds,O,a⟩:=map_some e;subst a;refine#[I,ds,U,O,fun vs b s1 r1=>#[?_,fun p Y=>k _ _ (fu s1 Y r1 fun _=>rfl)]];rw[<-r1.length,kd O];exact le_of_lt (mn Z)
def j9(h:RL.bQ xs i=some x):atI xs i=some x:=by
 unfold RL.bQ at h;unfold atI ixN;by_cases O:0<=i
 ·rw[if_pos O]at h;rw[if_pos O];obtain⟨I,_⟩:=List.getElem?_eq_some_iff.mp h;rw[if_pos ⋯];exact h
 ·rw[if_neg O]at h;rw[if_neg O];by_cases I:-(xs.length:Int)<=i
  ·rw[if_pos I]at h;rw[if_pos I];exact h
  ·rw[if_neg I]at h;cases h
def fB{P:Addr->Prop}{K:W.Frag}(r:ai P K H ds xs)(h:RL.bQ ds i=some d):∃ x,RL.bQ xs i=some x/\Rep P K H d x:=by
 unfold RL.bQ at h ⊢;rw[<-r.length];by_cases O:0<=i
 ·rw[if_pos O]at h ⊢;exact r.get h
 ·rw[if_neg O]at h ⊢;by_cases I:-(ds.length:Int)<=i
  ·rw[if_pos I]at h ⊢;exact r.get h
  ·rw[if_neg I]at h;cases h
abbrev lR:Expr->Bool
 | .Slice _ _ _ _=>false
 | _=>true
def lV(h:lR b=true):r8 b:=by
 intro o i
 cases b<;>first | rfl | (cases h)
def xa{xs:List RL.D}{i:Int}(I:RL.aF xs=true)(h:RL.bQ xs i=some d):d.imm=true:=by
 have mem:d∈xs:=by
  unfold RL.bQ at h;split at h
  ·exact mem_of_getElem? h
  ·split at h
   ·exact mem_of_getElem? h
   ·cases h
 clear h
 induction xs with
 | nil=>cases mem
 |cons a r O=>
  rw[RL.aF,and_eq_true]at I;rcases List.mem_cons.mp mem with rfl | m
  ·exact I.1
  ·exact O I.2 m
def u9(h:RL.ixV x y=some d):(∃ xs i,x=.lst xs/\y=.int i/\RL.bQ xs i=some d)\/(∃ xs i,x=.tup xs/\y=.int i/\RL.bQ xs i=some d) \/
  (∃ (z:Str) (i:Int) (c:Nat),x=.str z/\y=.int i/\z.length<=RL.most/\RL.bQ z.cps.toList i=some c/\d=.str ⟨(List.toArray [c])⟩)\/(∃ xs i,x=.fL xs/\y=.int i/\RL.aF xs=true/\RL.bQ xs i=some d):=by
 have no:∀ {o:Option RL.D},o=none->o=some d->False:=fun e h=>by rw[e]at h;cases h
 cases x with
 | lst xs=>cases y with
  | int i=>exact .inl #[xs,i,rfl,rfl,h]
  | _=>exact(no rfl h).elim
 | tup xs=>cases y with
  | int i=>exact .inr (.inl #[xs,i,rfl,rfl,h])
  | _=>exact(no rfl h).elim
 | str z=>cases y with
  |int i=>
   by_cases I:z.length<=RL.most
   ·obtain⟨c,U,O⟩:=map_some (show(RL.bQ z.cps.toList i).map (fun c=>RL.D.str ⟨(List.toArray [c])⟩)=some d from(if_pos I).symm.trans h);exact .inr (.inr (.inl #[z,i,c,rfl,rfl,I,U,O.symm]))
   ·exact(no (if_neg I) h).elim
  | _=>exact(no rfl h).elim
 | fL xs=>cases y with
  |int i=>
   by_cases I:RL.aF xs=true
   ·exact .inr (.inr (.inr #[xs,i,rfl,rfl,I,(if_pos I).symm.trans h]))
   ·exact(no (if_neg I) h).elim
  | _=>exact(no rfl h).elim
 | _=>exact(no rfl h).elim
def Dt(ha:SE X cl a a')(hb:SE X cl b b')(G:lR b=true):SE X cl (.Subscript a b pos) (.ix a' b'):=by
 refine PE.weak (rY nN ha hb (lV G)) fun J H Q h=>?_;obtain⟨m,d,B,e,k⟩:=h;obtain⟨x,N,e⟩:=bind_some e;obtain⟨y,L,e⟩:=bind_some e;refine two B N L fun v u S H2 s1 s2 Z l C R=>?_
 have U:∀ (w:V),Rep nP X.K H2 d w->(∀ P:Addr->Prop,Rep P X.K H2 x v->Rep P X.K H2 d w)->Res X.K m J H (.ix a' b') d w H2:=fun w I O=>{
  same:=s1.trans s2
  rep:=I
  fresh:=fun z=>by cases z
  av:=fun M z P Qa av=>O P ((C.av M z P Qa av).same s2) }
 rcases u9 e with⟨xs,i,rfl,rfl,hd⟩ | ⟨xs,i,rfl,rfl,hd⟩ | ⟨z,i,c,rfl,rfl,F,hd,rfl⟩ | ⟨xs,i,rfl,rfl,E,hd⟩
 ·obtain⟨p,ys,rfl,_,Y,j⟩:=bc Z;obtain⟨w,I,O⟩:=fB j hd;refine .inl #[p,ys,i,w,rfl,ar l,SqL.of Y,j9 I,k _ _ (U w O fun P q=>?_)];obtain⟨D,n,s,_,f,r⟩:=bc q;cases s;rw[Y]at f;cases f;obtain⟨A,g,t⟩:=fB r hd;rw[I]at g;cases g;exact t
 ·obtain⟨p,ys,rfl,Y,j⟩:=bu Z;obtain⟨w,I,O⟩:=fB j hd;refine .inr (.inl #[p,ys,i,w,rfl,ar l,SqT.of Y,j9 I,k _ _ (U w O fun P q=>?_)]);obtain⟨D,n,s,f,r⟩:=bu q;cases s;rw[Y]at f;cases f;obtain⟨A,g,t⟩:=fB r hd;rw[I]at g;cases g;exact t
 ·exact .inr (.inr #[z,i,c,aP Z,ar l,Jr F cL,j9 hd,k _ _ (U _ gh fun P _=>gh)])
 ·rw[Rep]at Z;obtain⟨p,o,ys,rfl,Y,j⟩:=Z;obtain⟨w,I,O⟩:=fB j hd;exact .inl #[p,ys,i,w,rfl,ar l,.inl (.inr #[o,Y]),j9 I,k _ _ (ck (s1.trans s2) O (xa E hd))]
end rules
section rules
def gi:∀ {Z bs:List RL.D} {k:Bool},RL.eqs f Z bs=some k ->
  ∃ e:Nat->Bool,k=(List.range (min Z.length bs.length)).all e/\∀ j x y,Z[j]?=some x->bs[j]?=some y->f x y=some (e j)
 | [],bs,k,h=>by
  have h:some true=some k:=by simpa[RL.eqs]using h
  cases h;exact#[fun _=>true,by simp,fun j x y I=>by simp at I]
 | a::r,[],k,h=>by
  have h:some true=some k:=by simpa[RL.eqs]using h
  cases h;exact#[fun _=>true,by simp,fun j x y I Y=>by simp at Y]
 | a::r,b::s,k,h=>by
  obtain⟨l,I,Y⟩:=bind_some h;obtain⟨m,i,g⟩:=map_some Y;obtain⟨e,d,c⟩:=gi i;refine⟨fun j=>match j with | 0=>l | j+1=>e j,?_,fun j x y U O=>?_⟩
  ·rw[<-g,d,length_cons,length_cons,Nat.succ_min_succ,List.range_succ_eq_map,Jx,List.all_map];rfl
  ·cases j with
   |zero=>
    simp at U O;subst U O;exact I
   | succ j=>exact c j x y (by simpa using U) (by simpa using O)
abbrev LF(x:RL.D)(i:List RL.D):Prop:=x=.lst i\/x=.fL i
def i5{P:Addr->Prop}{K:W.Frag}{H:Hp}{v:V}(h:Rep P K H x v)(l:LF x i):∃ a xs,v=.ref a/\(H a=some (.lst xs)\/∃ o,H a=some (.frz o (.lst xs)))/\ai P K H i xs:=by
 rcases l with rfl | rfl
 ·obtain⟨a,xs,U,_,O,I⟩:=bc h;exact#[a,xs,U,.inl O,I]
 ·rw[Rep]at h;obtain⟨a,o,xs,U,O,I⟩:=h;exact#[a,xs,U,.inr #[o,O],I]
def CG{H:Hp}{xs ys:List V}(h:H a=some (.lst xs)\/∃ o,H a=some (.frz o (.lst xs)))(h':H a=some (.lst ys)\/∃ o,H a=some (.frz o (.lst ys))):xs=ys:=by
 rcases h with h | ⟨o,h⟩
 ·rcases h' with h' | ⟨o',h'⟩<;>(rw[h]at h';cases h');rfl
 ·rcases h' with h' | ⟨o',h'⟩<;>(rw[h]at h';cases h');rfl
abbrev EqC(n:Nat)(x y:RL.D)(k:Bool):Prop:=(∃ i j,x=.bl i/\y=.bl j/\(i == j)=k)\/(∃ i j,x=.int i/\y=.int j/\(i == j)=k)\/(∃ i j,x=.str i/\y=.str j/\(i == j)=k) \/
  (∃ m i j,n=m+1/\x=.tup i/\y=.tup j/\Option.map (fun k=>k&&i.length == j.length) (RL.eqs (RL.eqD m) i j)=some k)\/(∃ m i j,n=m+1/\LF x i/\LF y j/\Option.map (fun k=>k&&i.length == j.length) (RL.eqs (RL.eqD m) i j)=some k)
def fJ(h:RL.eqD n x y=some k):EqC n x y k:=by
 cases n with
 | zero=>cases x with
  | bl i=>cases y with
   | bl j=>exact .inl #[i,j,rfl,rfl,Option.some.inj h]
   | _=>exact noN rfl h
  | int i=>cases y with
   | int j=>exact .inr (.inl #[i,j,rfl,rfl,Option.some.inj h])
   | _=>exact noN rfl h
  | str i=>cases y with
   | str j=>exact .inr (.inr (.inl #[i,j,rfl,rfl,Option.some.inj h]))
   | _=>exact noN rfl h
  | _=>exact noN rfl h
 | succ m=>cases x with
  | bl i=>cases y with
   | bl j=>exact .inl #[i,j,rfl,rfl,Option.some.inj h]
   | _=>exact noN rfl h
  | int i=>cases y with
   | int j=>exact .inr (.inl #[i,j,rfl,rfl,Option.some.inj h])
   | _=>exact noN rfl h
  | str i=>cases y with
   | str j=>exact .inr (.inr (.inl #[i,j,rfl,rfl,Option.some.inj h]))
   | _=>exact noN rfl h
  | tup i=>cases y with
   | tup j=>exact .inr (.inr (.inr (.inl #[m,i,j,rfl,rfl,rfl,h])))
   | _=>exact noN rfl h
  | lst i=>cases y with
   | lst j=>exact .inr (.inr (.inr (.inr #[m,i,j,rfl,.inl rfl,.inl rfl,h])))
   | fL j=>exact .inr (.inr (.inr (.inr #[m,i,j,rfl,.inl rfl,.inr rfl,h])))
   | _=>exact noN rfl h
  | fL i=>cases y with
   | lst j=>exact .inr (.inr (.inr (.inr #[m,i,j,rfl,.inr rfl,.inl rfl,h])))
   | fL j=>exact .inr (.inr (.inr (.inr #[m,i,j,rfl,.inr rfl,.inr rfl,h])))
   | _=>exact noN rfl h
  | _=>exact noN rfl h
def mE{K:W.Frag}:∀ (n:Nat) (x y:RL.D) (v:V) (k:Bool),Rep nP K H x v->Rep nP K H y v->RL.eqD n x y=some k->k=true:=by
 intro n
 induction n with
 |zero=>
  intro x y v k O I h
  rcases fJ h with⟨i,j,rfl,rfl,rfl⟩ | ⟨i,j,rfl,rfl,rfl⟩ | ⟨i,j,rfl,rfl,rfl⟩ | ⟨m,i,j,hn,a,Z,h⟩ | ⟨m,i,j,hn,a,Z,h⟩
  ·have:=bj O;rw[bj I]at this;cases this;simp
  ·have:=ar O;rw[ar I]at this;cases this;simp
  ·have:=aP O;rw[aP I]at this;cases this;simp
  ·cases hn
  ·cases hn
 |succ n r=>
  intro x y v k O I h
  have seq:∀ (i j:List RL.D) (xs:List V) (k:Bool),ai nP K H i xs->ai nP K H j xs->Option.map (fun k=>k&&i.length == j.length) (RL.eqs (RL.eqD n) i j)=some k->k=true:=by
   intro i j xs k U f3 h;obtain⟨o,A,z⟩:=map_some h;obtain⟨e,u,t⟩:=gi A;have s:i.length=j.length:=U.length.trans f3.length.symm
   have hk:o=true:=by
    rw[u,Jz];intro m hm;rw[List.mem_range]at hm;obtain⟨w,l,g⟩:=U.get (i:=m) (d:=i[m]'⋯) (by simp);obtain⟨B,Y,b⟩:=f3.get (i:=m) (d:=j[m]'⋯) (by simp);rw[l]at Y;cases Y;exact r _ _ w (e m) g b (t m _ _ (by simp) (by simp))
   rw[<-z,hk,s];simp
  rcases fJ h with⟨i,j,rfl,rfl,rfl⟩ | ⟨i,j,rfl,rfl,rfl⟩ | ⟨i,j,rfl,rfl,rfl⟩ | ⟨m,i,j,hn,a,Z,h⟩ | ⟨m,i,j,hn,a,Z,h⟩
  ·have:=bj O;rw[bj I]at this;cases this;simp
  ·have:=ar O;rw[ar I]at this;cases this;simp
  ·have:=aP O;rw[aP I]at this;cases this;simp
  ·cases hn;subst a;subst Z;obtain⟨p,xs,rfl,f,U⟩:=bu O;obtain⟨q,ys,c,f2,f3⟩:=bu I;cases c;rw[f]at f2;cases f2;exact seq i j xs k U f3 h
  ·cases hn;obtain⟨p,xs,rfl,f,U⟩:=i5 O a;obtain⟨q,ys,c,f2,f3⟩:=i5 I Z;cases c;cases CG f f2;exact seq i j xs k U f3 h
open SeqAt in
def deep(I:Inv X pins J H s):∀ (n:Nat) (A:Around) (x y:RL.D) (v u:V) (o B:Value) (k:Bool),A.units+n<cLine->Rep nP X.K H x v->Rep nP X.K H y u->RelV v o->RelV u B ->
  RL.eqD n x y=some k->RcAt A s o B k/\EqAt A s o B k:=by
 intro n
 induction n with
 |zero=>
  intro A x y v u o B k hu c b Y U h
  rcases fJ h with⟨i,j,rfl,rfl,rfl⟩ | ⟨i,j,rfl,rfl,rfl⟩ | ⟨i,j,rfl,rfl,rfl⟩ | ⟨m,i,j,hn,F,E,h⟩ | ⟨m,i,j,hn,F,E,h⟩
  ·rw[bj c]at Y;rw[bj b]at U;cases Y;cases U;exact#[RcAt.bool_bool i j,EqAt.bool_bool i j]
  ·rw[ar c]at Y;rw[ar b]at U;obtain⟨t,rfl⟩:=Y;obtain⟨a,rfl⟩:=U;exact#[RcAt.int_int i t j a,EqAt.int_int i t j a]
  ·rw[aP c]at Y;rw[aP b]at U;obtain⟨t,rfl⟩:=Y;obtain⟨a,rfl⟩:=U;exact#[RcAt.str_str i t j a,EqAt.str_str i t j a]
  ·cases hn
  ·cases hn
 |succ n ih=>
  intro A x y v u o B k hu c b Y U h
  rcases fJ h with⟨i,j,rfl,rfl,rfl⟩ | ⟨i,j,rfl,rfl,rfl⟩ | ⟨i,j,rfl,rfl,rfl⟩ | ⟨m,i,j,hn,F,E,h⟩ | ⟨m,i,j,hn,F,E,h⟩
  ·rw[bj c]at Y;rw[bj b]at U;cases Y;cases U;exact#[RcAt.bool_bool i j,EqAt.bool_bool i j]
  ·rw[ar c]at Y;rw[ar b]at U;obtain⟨t,rfl⟩:=Y;obtain⟨a,rfl⟩:=U;exact#[RcAt.int_int i t j a,EqAt.int_int i t j a]
  ·rw[aP c]at Y;rw[aP b]at U;obtain⟨t,rfl⟩:=Y;obtain⟨a,rfl⟩:=U;exact#[RcAt.str_str i t j a,EqAt.str_str i t j a]
  ·cases hn;subst F;subst E;obtain⟨p,xs,rfl,e2,G⟩:=bu c;obtain⟨q,ys,rfl,f2,f3⟩:=bu b;cases Y;cases U;obtain⟨its,r1,t1,z1⟩:=I.tuple (SqT.of e2);obtain⟨O,C,t2,z2⟩:=I.tuple (SqT.of f2);obtain⟨k',h1,N⟩:=map_some h;obtain⟨e,h3,T⟩:=gi h1;have L:i.length=its.length:=G.length.trans r1.length;have Qa:j.length=O.length:=f3.length.trans C.length
   have S:∀ m (g1:m<its.toArray.size) (g2:m<O.toArray.size),EqAt A.in1 s its.toArray[m] O.toArray[m] (e m):=fun m g1 g2=>by
    rw[size_toArray]at g1 g2;obtain⟨w,Q,P⟩:=G.get (i:=m) (d:=i[m]'⋯) (by simp);obtain⟨R,g,f⟩:=f3.get (i:=m) (d:=j[m]'⋯) (by simp);obtain⟨r,b1,b2⟩:=r1.get Q;obtain⟨Z,l,b2'⟩:=C.get g
    have c1:its.toArray[m]=r:=by simpa using(List.getElem?_eq_some_iff.mp b1).2
    have c2:O.toArray[m]=Z:=by simpa using(List.getElem?_eq_some_iff.mp l).2
    rw[c1,c2];exact(ih A.in1 _ _ w R r Z (e m) (by show A.units+1+n<cLine;lia) P f b2 b2' (T m _ _ (by simp) (by simp))).2
   have main:RcAt A s (.ref p) (.ref q) k:=by
    have z:=RcAt.tuples (e:=e) t1 t2 ⋯ S;rw[size_toArray,size_toArray,<-L,<-Qa,<-h3,N]at z;exact z
   refine#[main,?_];by_cases z:p=q
   ·subst z;rw[mE (n+1) _ _ _ k c b h];exact EqAt.same _
   ·exact EqAt.of_refs z main
  ·cases hn;obtain⟨p,xs,rfl,e2,G⟩:=i5 c F;obtain⟨q,ys,rfl,f2,f3⟩:=i5 b E;cases Y;cases U;obtain⟨its,r1,t1,z1⟩:=I.list (.inl e2);obtain⟨O,C,t2,z2⟩:=I.list (.inl f2);obtain⟨k',h1,N⟩:=map_some h;obtain⟨e,h3,T⟩:=gi h1;have L:i.length=its.length:=G.length.trans r1.length;have Qa:j.length=O.length:=f3.length.trans C.length
   have S:∀ m (g1:m<its.toArray.size) (g2:m<O.toArray.size),EqAt A.in1 s its.toArray[m] O.toArray[m] (e m):=fun m g1 g2=>by
    rw[size_toArray]at g1 g2;obtain⟨w,Q,P⟩:=G.get (i:=m) (d:=i[m]'⋯) (by simp);obtain⟨R,g,f⟩:=f3.get (i:=m) (d:=j[m]'⋯) (by simp);obtain⟨r,b1,b2⟩:=r1.get Q;obtain⟨Z,l,b2'⟩:=C.get g
    have c1:its.toArray[m]=r:=by simpa using(List.getElem?_eq_some_iff.mp b1).2
    have c2:O.toArray[m]=Z:=by simpa using(List.getElem?_eq_some_iff.mp l).2
    rw[c1,c2];exact(ih A.in1 _ _ w R r Z (e m) (by show A.units+1+n<cLine;lia) P f b2 b2' (T m _ _ (by simp) (by simp))).2
   have main:RcAt A s (.ref p) (.ref q) k:=by
    by_cases M:its.length=O.length
    ·have z:=RcAt.lists (e:=e) t1.isList t2.isList (by rw[size_toArray,size_toArray];exact M) ⋯ S;rw[size_toArray]at z
     have hk:k=(List.range its.length).all e:=by
      rw[<-N,h3,L,Qa,M];simp
     rw[hk];exact z
    ·have hk:k=false:=by
      rw[<-N,L,Qa];simp[M]
     rw[hk];exact RcAt.lists_lengths t1.isList t2.isList (by rw[size_toArray,size_toArray];simpa using M) ⋯
   refine#[main,?_];by_cases z:p=q
   ·subst z;rw[mE (n+1) _ _ _ k c b (by assumption)];exact EqAt.same _
   ·exact EqAt.of_refs z main
end rules
section rules
variable{X:Cx}
open SeqAt in
def De(I:Inv X pins J H s)(n:Nat)(A:Around)(x y:RL.D)(v u:V)(va ua:Value)(k:Bool)(hu:A.units+n<cLine)(l:Rep nP X.K H x v)(g:Rep nP X.K H y u)(Z:RelV v va)(Y:RelV u ua)
 (h:RL.eqD n x y=some k):RcNeAt A s va ua (!k):=by
 rcases fJ h with⟨i,j,rfl,rfl,rfl⟩ | ⟨i,j,rfl,rfl,rfl⟩ | ⟨i,j,rfl,rfl,rfl⟩ | ⟨nn,i,j,hn,P,N,h⟩ | ⟨nn,i,j,hn,P,N,h5⟩
 ·rw[bj l]at Z;rw[bj g]at Y;cases Z;cases Y;exact RcNeAt.bool_bool i j
 ·rw[ar l]at Z;rw[ar g]at Y;obtain⟨t,rfl⟩:=Z;obtain⟨M,rfl⟩:=Y;exact RcNeAt.int_int i t j M
 ·rw[aP l]at Z;rw[aP g]at Y;obtain⟨t,rfl⟩:=Z;obtain⟨M,rfl⟩:=Y;exact RcNeAt.str_str i t j M
 ·subst hn;subst P;subst N;obtain⟨p,xs,rfl,e2,r⟩:=bu l;obtain⟨q,ys,rfl,f2,f3⟩:=bu g;cases Z;cases Y;obtain⟨its,r1,t1,z1⟩:=I.tuple (SqT.of e2);obtain⟨O,o,t2,z2⟩:=I.tuple (SqT.of f2);obtain⟨k',T,F⟩:=map_some h;obtain⟨e,S,R⟩:=gi T;have C:i.length=its.length:=r.length.trans r1.length;have B:j.length=O.length:=f3.length.trans o.length
  have Q:∀ m (g1:m<its.toArray.size) (g2:m<O.toArray.size),EqAt A.in1 s its.toArray[m] O.toArray[m] (e m):=fun m g1 g2=>by
   rw[size_toArray]at g1 g2;obtain⟨w,Qa,G⟩:=r.get (i:=m) (d:=i[m]'⋯) (by simp);obtain⟨L,b,a⟩:=f3.get (i:=m) (d:=j[m]'⋯) (by simp);obtain⟨f,b1,b2⟩:=r1.get Qa;obtain⟨U,c,b2'⟩:=o.get b
   have c1:its.toArray[m]=f:=by simpa using(List.getElem?_eq_some_iff.mp b1).2
   have c2:O.toArray[m]=U:=by simpa using(List.getElem?_eq_some_iff.mp c).2
   rw[c1,c2];exact(deep I nn A.in1 _ _ w L f U (e m) (by show A.units+1+nn<cLine;lia) G a b2 b2' (R m _ _ (by simp) (by simp))).2
  have z:=RcNeAt.tuples (e:=e) t1 t2 ⋯ Q;rw[size_toArray,size_toArray,<-C,<-B,<-S,F]at z;exact z
 ·subst hn;obtain⟨p,xs,rfl,e2,r⟩:=i5 l P;obtain⟨q,ys,rfl,f2,f3⟩:=i5 g N;cases Z;cases Y;obtain⟨its,r1,t1,z1⟩:=I.list (.inl e2);obtain⟨O,o,t2,z2⟩:=I.list (.inl f2);obtain⟨k',T,F⟩:=map_some h5;obtain⟨e,S,R⟩:=gi T;have C:i.length=its.length:=r.length.trans r1.length;have B:j.length=O.length:=f3.length.trans o.length
  have Q:∀ m (g1:m<its.toArray.size) (g2:m<O.toArray.size),EqAt A.in1 s its.toArray[m] O.toArray[m] (e m):=fun m g1 g2=>by
   rw[size_toArray]at g1 g2;obtain⟨w,Qa,G⟩:=r.get (i:=m) (d:=i[m]'⋯) (by simp);obtain⟨L,b,a⟩:=f3.get (i:=m) (d:=j[m]'⋯) (by simp);obtain⟨f,b1,b2⟩:=r1.get Qa;obtain⟨U,c,b2'⟩:=o.get b
   have c1:its.toArray[m]=f:=by simpa using(List.getElem?_eq_some_iff.mp b1).2
   have c2:O.toArray[m]=U:=by simpa using(List.getElem?_eq_some_iff.mp c).2
   rw[c1,c2];exact(deep I nn A.in1 _ _ w L f U (e m) (by show A.units+1+nn<cLine;lia) G a b2 b2' (R m _ _ (by simp) (by simp))).2
  by_cases E:its.length=O.length
  ·have z:=RcNeAt.lists (e:=e) t1.isList t2.isList (by rw[size_toArray,size_toArray];exact E) ⋯ Q;rw[size_toArray]at z
   have hk:k=(List.range its.length).all e:=by
    rw[<-F,S,C,B,E];simp
   rw[hk];exact z
  ·have hk:k=false:=by
    rw[<-F,C,B];simp[E]
   rw[hk];exact RcNeAt.lists_lengths t1.isList t2.isList (by rw[size_toArray,size_toArray];simpa using E) ⋯
abbrev dM:RL.Cop->CmpOp
 | .lt=>.Lt
 | .le=>.LtE
 | .gt=>.Gt
 | .ge=>.GtE
 | .eq=>.Eq
 | .ne=>.NotEq
abbrev tF(K:W.Frag)(c:RL.Cop):R2:=fun v u H Q=>∃ x y k,Rep nP K H x v/\Rep nP K H y u/\RL.bo c x y=some k/\Q (.bl k) H
def iU{c:RL.Cop}(O:c≠.eq)(I:c≠.ne)(h:RL.bo c x y=some k):∃ i j,x=.int i/\y=.int j:=by
 have no:∀ {a b:RL.D},RL.bo .lt a b=none->RL.bo .le a b=none->RL.bo .gt a b=none->RL.bo .ge a b=none->RL.bo c a b=some k->False:=fun d Z Y U h=>by
  cases c with
  | eq=>exact O rfl
  | ne=>exact I rfl
  | lt=>rw[d]at h;cases h
  | le=>rw[Z]at h;cases h
  | gt=>rw[Y]at h;cases h
  | ge=>rw[U]at h;cases h
 cases x with
 | int i=>cases y with
  | int j=>exact#[_,_,rfl,rfl]
  | _=>exact(no rfl rfl rfl rfl h).elim
 | _=>exact(no rfl rfl rfl rfl h).elim
def il{c:RL.Cop}(hu:X.A.units+100<cLine):OpR X (compareOp (dM c)) (tF X.K c):=by
 intro pins s J H x y v u Q I Y U h;obtain⟨dx,b,k,ex,Z,e,q⟩:=h
 have O:EP X pins J Q (.bool k) s:=#[.bl k,H,I,rfl,q]
 cases c with
 |eq=>
  have e:=e;exact(deep I 8 X.A dx b x y v u k ⋯ ex Z Y U e).1 X.prog X.w X.xe _ O
 |ne=>
  obtain⟨d,g,f⟩:=map_some (show(RL.eqD 8 dx b).map not=some k from e);subst f;exact De I 8 X.A dx b x y v u d ⋯ ex Z Y U g X.prog X.w X.xe _ O
 |lt=>
  obtain⟨i,j,rfl,rfl⟩:=iU ∅ ∅ e;cases e;rw[ar ex]at Y;rw[ar Z]at U;obtain⟨t,rfl⟩:=Y;obtain⟨a,rfl⟩:=U;exact lt_int O
 |le=>
  obtain⟨i,j,rfl,rfl⟩:=iU ∅ ∅ e;cases e;rw[ar ex]at Y;rw[ar Z]at U;obtain⟨t,rfl⟩:=Y;obtain⟨a,rfl⟩:=U;exact le_int O
 |gt=>
  obtain⟨i,j,rfl,rfl⟩:=iU ∅ ∅ e;cases e;rw[ar ex]at Y;rw[ar Z]at U;obtain⟨t,rfl⟩:=Y;obtain⟨a,rfl⟩:=U;exact gt_int O
 |ge=>
  obtain⟨i,j,rfl,rfl⟩:=iU ∅ ∅ e;cases e;rw[ar ex]at Y;rw[ar Z]at U;obtain⟨t,rfl⟩:=Y;obtain⟨a,rfl⟩:=U;exact ge_int O
def iF{c:RL.Cop}(b:Expr):behindInMarks (dM c) b=false:=by cases c<;>exact uV b ∅ ∅
def vE{c:RL.Cop}(h:∃ I d,RV0 X.K I J H/\RL.ev cl I (.cmp c a' b')=some d/\∀ H',aD H H'->∃ k,d=.bl k/\Q (.bl k) H'):tOp (tF X.K c) (tE X.K cl a') (tE X.K cl b') J H Q:=by
 obtain⟨I,d,Z,e,k⟩:=h;obtain⟨x,g,e⟩:=bind_some e;obtain⟨y,f,e⟩:=bind_some e;obtain⟨t,i,O⟩:=map_some e;refine two Z g f fun v u l H2 s1 s2 Y U _ _=>?_;obtain⟨j,b,a⟩:=k H2 (s1.trans s2);rw[b]at O;cases O;exact#[x,y,t,Y,U,i,a]
def mK{c:RL.Cop}(e:RL.ev cl Qb (.cmp c a' b')=some d):∃ k,d=.bl k:=by
 obtain⟨x,U,e⟩:=bind_some e;obtain⟨y,O,e⟩:=bind_some e;obtain⟨t,Y,I⟩:=map_some e;exact#[t,I.symm]
def Bn{c:RL.Cop}(hu:X.A.units+100<cLine)(ha:SE X cl a a')(hb:SE X cl b b'):SE X cl (.Compare a [dM c] [b] pos) (.cmp c a' b'):=by
 refine PE.weak (lh (il hu) ha hb (iF b)) fun J H Q h=>?_;obtain⟨I,d,O,e,k⟩:=h;obtain⟨t,rfl⟩:=mK e;exact vE ⟨I,_,O,e,fun H' sm=>#[t,rfl,k _ _ (dz sm)]⟩
def C1{c:RL.Cop}(hu:X.A.units+100<cLine)(ha:SE X cl a a')(hb:SE X cl b b'):ST X cl (.Compare a [dM c] [b] pos) (.cmp c a' b'):=by
 refine PT.weak (l4 (il hu) ha hb (iF b)) fun J H Q h=>?_;obtain⟨I,k,U,e,q⟩:=h;obtain⟨d,O,Y⟩:=bind_some e;obtain⟨t,rfl⟩:=mK O;cases Y;exact vE ⟨I,_,U,O,fun H' sm=>#[k,rfl,k,rfl,q H' sm]⟩
def xV{c c':RL.Cop}(b e:Expr):lastMarks [dM c,dM c'] [b,e]=false:=by
 exact iF e
def jQ{c c':RL.Cop}(h:RL.ev cl Qb (.chain c c' a' b' e')=some d):∃ k,d=.bl k:=by
 obtain⟨x,Z,h⟩:=bind_some h;obtain⟨y,Y,h⟩:=bind_some h;obtain⟨t,O,h⟩:=bind_some h
 cases t with
 |true=>
  obtain⟨z,U,h⟩:=bind_some (show(RL.ev cl Qb e').bind _=some d from h);obtain⟨t,O,I⟩:=map_some h;exact#[t,I.symm]
 | false=>exact#[false,(Option.some.inj (show some (RL.D.bl false)=some d from h)).symm]
def oE{c c':RL.Cop}(h:∃ I k,RV0 X.K I J H/\RL.ev cl I (.chain c c' a' b' e')=some (.bl k)/\∀ H',aD H H'->Q (.bl k) H') :
  qe (tF X.K c) (tF X.K c') (tE X.K cl a') (tE X.K cl b') (tE X.K cl e') J H Q:=by
 obtain⟨I,k,Y,h,q⟩:=h;obtain⟨x,d,h⟩:=bind_some h;obtain⟨y,b,h⟩:=bind_some h;obtain⟨t,g,h⟩:=bind_some h;refine two Y d b fun v u j H2 s1 s2 Z U _ _=>?_;refine#[x,y,t,Z,U,g,t,rfl,?_];have sm:=s1.trans s2
 cases t with
 |true=>
  obtain⟨z,a,h⟩:=bind_some h;obtain⟨t,e,f⟩:=map_some h;cases f;exact fQ ⟨I,z,Y.same sm,a,fun w i O=>#[y,z,k,U.same O.same,O.rep,e,q i (sm.trans O.same)]⟩
 |false=>
  cases h;exact gE (q H2 sm)
def wc{c c':RL.Cop}(hu:X.A.units+100<cLine)(ha:SE X cl a a')(hb:SE X cl b b')(U:SE X cl e e'):SE X cl (.Compare a [dM c,dM c'] [b,e] pos) (.chain c c' a' b' e'):=by
 refine PE.weak (xo (il hu) (il hu) ha hb U (xV b e)) fun J H Q h=>?_;obtain⟨I,d,O,h,k⟩:=h;obtain⟨t,rfl⟩:=jQ h;exact oE ⟨I,t,O,h,fun H' sm=>k _ _ (dz sm)⟩
def wH{c c':RL.Cop}(hu:X.A.units+100<cLine)(ha:SE X cl a a')(hb:SE X cl b b')(Y:SE X cl e e'):ST X cl (.Compare a [dM c,dM c'] [b,e] pos) (.chain c c' a' b' e'):=by
 refine PT.weak (xj (il hu) (il hu) ha hb Y (xV b e)) fun J H Q h=>?_;obtain⟨I,k,U,h,q⟩:=h;obtain⟨d,O,Z⟩:=bind_some h;obtain⟨t,rfl⟩:=jQ O;cases Z;exact oE ⟨I,k,U,O,fun H' sm=>#[k,rfl,q H' sm]⟩
end rules
section rules
variable{X:Cx}
def m7{neg:Bool}(b:Expr):behindInMarks (if neg then .IsNot else .Is) b=false:=by cases neg<;>exact uV b ∅ ∅
def qG{neg:Bool}:OpR X (compareOp (if neg then .IsNot else .Is)) (fun x y H Q=>y=.non/\Q (.bl (if neg then !decide (x=.non)else decide (x=.non))) H):=by
 cases neg with
 | true=>exact yW
 | false=>exact CF
def uv(h:RL.ev cl Qb (.isN neg a')=some d):∃ x,RL.ev cl Qb a'=some x/\∀ v (H:Hp),Rep nP X.K H x v->d=.bl (if neg then !decide (v=.non)else decide (v=.non)):=by
 obtain⟨x,I,h⟩:=bind_some h;refine#[x,I,fun v H r=>?_]
 cases x with
 | non=>cases h;rw[Rep]at r;subst r;cases neg<;>rfl
 | bl k=>cases h;rw[bj r];cases neg<;>rfl
 | int k=>cases h;rw[ar r];cases neg<;>rfl
 | str k=>cases h;rw[aP r];cases neg<;>rfl
 | tup k=>cases h;obtain⟨p,xs,rfl,_⟩:=bu r;cases neg<;>rfl
 | lst k=>cases h;obtain⟨p,xs,rfl,_⟩:=bc r;cases neg<;>rfl
 | scr k=>cases h;rw[Rep]at r;obtain⟨p,xs,rfl,_⟩:=r;cases neg<;>rfl
 | exc k=>cases h;rw[Rep]at r;obtain⟨p,_,_,_,_,rfl,_⟩:=r;cases neg<;>rfl
 | obj=>cases h;rw[Rep]at r;obtain⟨p,rfl⟩:=r;cases neg<;>rfl
 | dK _ _=>cases h
 | dT _ _=>cases h
 | fT _ _=>cases h
 | fL k=>cases h;rw[Rep]at r;obtain⟨p,o,xs,rfl,_⟩:=r;cases neg<;>rfl
def AZ(ha:SE X cl a a'):SE X cl (.Compare a [if neg then .IsNot else .Is] [.Constant .none j p] pos) (.isN neg a'):=by
 refine PE.weak (lh qG ha oV (m7 _)) fun J H Q h=>?_;obtain⟨I,d,O,e,q⟩:=h;obtain⟨x,Y,U⟩:=uv e;refine#[I,_,O,Y,fun v Z r1=>#[rfl,?_]];have hd:=U v Z r1.rep;subst hd;exact q _ _ (dz r1.same)
def CP(ha:SE X cl a a'):ST X cl (.Compare a [if neg then .IsNot else .Is] [.Constant .none j p] pos) (.isN neg a'):=by
 refine PT.weak (l4 qG ha oV (m7 _)) fun J H Q h=>?_;obtain⟨I,k,O,e,q⟩:=h;obtain⟨d,b,Z⟩:=bind_some e;obtain⟨x,Y,U⟩:=uv b;refine#[I,_,O,Y,fun v c r1=>#[rfl,?_]];have hd:=U v c r1.rep;subst hd;cases Z;exact#[_,rfl,q _ r1.same]
def fq{P:Addr->Prop}{K:W.Frag}(h:RL.items d=some ds)(r:Rep P K H d v):∃ p xs,v=.ref p/\((H p=some (.lst xs)/\d=.lst ds)\/(H p=some (.tup xs)/\d=.tup ds)\/((∃ o,H p=some (.frz o (.lst xs)))/\d=.fL ds))/\ai P K H ds xs:=by
 cases d<;>simp only[RL.items]at h<;>first | (cases h;done) | skip
 case lst ys=>cases h;obtain⟨p,xs,U,_,O,I⟩:=bc r;exact#[p,xs,U,.inl #[O,rfl],I]
 case tup ys=>cases h;obtain⟨p,xs,U,O,I⟩:=bu r;exact#[p,xs,U,.inr (.inl #[O,rfl]),I]
 case fL ys=>cases h;rw[Rep]at r;obtain⟨p,o,xs,U,O,I⟩:=r;exact#[p,xs,U,.inr (.inr #[#[o,O],rfl]),I]
def qR{P:Addr->Prop}{K:W.Frag}(h:RL.flat d=true)(r:Rep P K H d v):fA v=true/\∀ I O,RL.flat I=true->Rep P K H I O->RL.eqF d I=eqV v O:=by
 cases d<;>simp only[RL.flat]at h<;>first | (cases h;done) | skip
 case int i =>
  rw[ar r];refine#[rfl,fun I O h' r'=>?_]
  cases I<;>simp only[RL.flat]at h'<;>first | (cases h';done) | skip
  case int j=>rw[ar r'];simp[RL.eqF,eqV]
  case str j=>rw[aP r'];simp[RL.eqF,eqV]
 case str i =>
  rw[aP r];refine#[rfl,fun I O h' r'=>?_]
  cases I<;>simp only[RL.flat]at h'<;>first | (cases h';done) | skip
  case int j=>rw[ar r'];simp[RL.eqF,eqV]
  case str j=>rw[aP r'];simp[RL.eqF,eqV]
def pK{P:Addr->Prop}{K:W.Frag}(hf:RL.flat d=true)(r:Rep P K H d v):∀ {ds:List RL.D} {xs:List V},ds.all RL.flat=true->ai P K H ds xs->xs.all fA=true/\(ds.any fun x=>RL.eqF x d)=inV v xs
 | [],xs,_,h=>by rw[ai]at h;subst h;exact#[rfl,rfl]
 | e::t,xs,ha,h=>by
  obtain⟨x,ys,rfl,a,Z⟩:=h;rw[Jx,and_eq_true]at ha;obtain⟨Y,U⟩:=pK hf r ha.2 Z;obtain⟨O,I⟩:=qR ha.1 a;refine#[by rw[Jx,O,Y];rfl,?_];rw[any_cons,U,I d v hf r];rfl
def uc:OpR X (compareOp (if neg then .NotIn else .In)) (rIn X.K neg):=by
 cases neg with
 | true=>exact pU
 | false=>exact vo
def uj(Z:RV0 X.K Qb J H)(e:RL.ev cl Qb (.inn neg a' b')=some d)(k:∀ t H',d=.bl t->aD H H'->Q (.bl t) H'):tOp (rIn X.K neg) (tE X.K cl a') (tE X.K cl b') J H Q:=by
 obtain⟨x,h,e⟩:=bind_some e;obtain⟨y,g,e⟩:=bind_some e;obtain⟨t,l,j⟩:=map_some e;obtain⟨ds,i,O⟩:=bind_some l;by_cases I:(RL.flat x&&ds.all RL.flat)=true
 ·rw[if_pos I]at O;cases O;rw[and_eq_true]at I;refine two Z h g fun v u m H2 s1 s2 U Y _ _=>?_;obtain⟨p,xs,rfl,b,a⟩:=fq i Y;obtain⟨f,c⟩:=pK I.1 U I.2 a;refine#[p,xs,rfl,?_,(qR I.1 U).1,f,?_]
  ·rcases b with⟨z,_⟩ | ⟨z,_⟩ | ⟨⟨o,z⟩,_⟩
   ·exact .inl (SqL.of z)
   ·exact .inr (SqT.of z)
   ·exact .inl (.inl (.inr #[o,z]))
  ·refine k _ _ ?_ (s1.trans s2);rw[<-j,c]
 ·rw[if_neg I]at O;cases O
abbrev rW:Expr->Bool
 | .Set _ _ _=>false
 | _=>true
def gZ(h:rW b=true):behindInMarks op b=false:=by
 cases b<;>first | rfl | (cases h)
def Cf(ha:SE X cl a a')(hb:SE X cl b b')(hm:rW b=true):SE X cl (.Compare a [if neg then .NotIn else .In] [b] pos) (.inn neg a' b'):=by
 refine PE.weak (lh uc ha hb (gZ hm)) fun J H Q h=>?_;obtain⟨I,d,O,e,q⟩:=h
 exact uj O e fun t H' hd sm=>by subst hd;exact q _ _ (dz sm)
def AH(ha:SE X cl a a')(hb:SE X cl b b')(hm:rW b=true):ST X cl (.Compare a [if neg then .NotIn else .In] [b] pos) (.inn neg a' b'):=by
 refine PT.weak (l4 uc ha hb (gZ hm)) fun J H Q h=>?_;obtain⟨I,k,O,e,q⟩:=h;obtain⟨d,Y,U⟩:=bind_some e;refine uj O Y fun t H' hd sm=>?_;subst hd;cases U;exact#[_,rfl,q _ sm]
abbrev spF(K:W.Frag)(cl:RL.Cl)(f:Nat):Sp:=fun vs H Q _=>∃ ds d,ai nP K H ds vs/\cl f ds=some d/\∀ v H',aD H H'->Rep (fun p=>H p≠none) K H' d v->Q v H'
def Ac(F:aY X.prog X.w X.K X.mg X.base CX0 k fa fd ps (spF X.K cl f))(i:bq k X.A)(l:Gl X x)
 (hm:X.mg x=some (.ref fa))(hk:W.keepIn X.K (.ref fa)=true)(hb:Binds X.K fd ps [])(n:SEs X cl (e::es) (.cons e' es'))(b:(x == ("__debug__" : Str))=false)(hn:noStar e=true)(Z:es.all noStar=true) :
  SE X cl (.Call (.Name x p) (e::es) [] pos) (.call f (.cons e' es')):=by
 refine PE.weak (lA F i l hm hk hb .nil k9 n b (aA es hn) (cA Z)) fun J H Q h=>?_;obtain⟨Y,d,g,ev,q⟩:=h;obtain⟨ds,U,O⟩:=bind_some ev;refine#[Y,ds,g,U,fun vs c s1 r1=>?_];show spF X.K cl f (vs++[]) c Q E0;rw[Ju];refine#[ds,d,r1,O,fun v H2 s2 I=>q v H2 #[s1.trans s2,I.none,fun _ m a z=>?_,fun M _ P r _=>?_]]
 ·subst z
  have j:c a=none:=by
   cases d with
   | lst ds=>obtain⟨p,xs,U,O,_⟩:=bc I;cases U;exact Classical.byContradiction O
   | dK ks ds=>rw[Rep]at I;obtain⟨p,xs,U,O,_⟩:=I;cases U;exact Classical.byContradiction O
   | dT ks ds=>rw[Rep]at I;obtain⟨p,xs,U,O,_⟩:=I;cases U;exact Classical.byContradiction O
   | _=>cases m
  exact s1.free j
 ·refine I.weak fun a z=>?_;obtain⟨o,ho⟩:=Option.ne_none_iff_exists'.mp (r a z);rw[s1 _ _ ho]
  exact fun q=>nomatch q
end rules
abbrev Off(P:Addr->Prop)(H H':Hp):Prop:=∀ b o,¬ P b->H b=some o->H' b=some o
def Off.same{H H':Hp}(h:aD H H'){P:Addr->Prop}:Off P H H':=fun b o _ e=>h b o e
mutual
theorem Rep.off{P:Addr->Prop}{K:W.Frag}{H H':Hp}(hm:∀ b o,P b->H b=some o->df o)(k:Off P H H'):∀ {d:RL.D} {v:V},Rep P K H d v->Rep P K H' d v
 | .non,v,h=>by simpa[Rep]using h
 | .bl _,v,h=>by simpa[Rep]using h
 | .int _,v,h=>by simpa[Rep]using h
 | .str _,v,h=>by simpa[Rep]using h
 | .tup ds,v,h=>by
  k_ne;obtain⟨b,xs,U,I,O⟩:=h
  have n:¬ P b:=fun p=>by rcases hm b _ p I with⟨z,q⟩ | ⟨z,q⟩ | ⟨z,q⟩<;>cases q
  exact#[b,xs,U,k _ _ n I,ai.off hm k O]
 | .lst ds,v,h=>by
  k_ne;obtain⟨b,xs,U,Y,I,O⟩:=h;exact#[b,xs,U,Y,k _ _ Y I,ai.off hm k O]
 | .dK ks ds,v,h=>by
  k_ne;obtain⟨b,xs,U,Y,I,Z,O⟩:=h;exact#[b,xs,U,Y,k _ _ Y I,Z,ai.off hm k O]
 | .dT ks ds,v,h=>by
  k_ne;obtain⟨b,xs,U,Y,I,Z,O⟩:=h;exact#[b,xs,U,Y,k _ _ Y I,Z,ai.off hm k O]
 | .scr ds,v,h=>by
  k_ne;obtain⟨b,xs,U,I,O⟩:=h;refine#[b,xs,U,?_,ai.off hm k O];rcases I with⟨q,I⟩ | I
  ·have n:¬ P b:=fun p=>by rcases hm b _ p I with⟨z,q⟩ | ⟨z,q⟩ | ⟨z,q⟩<;>cases q
   exact .inl #[q,k _ _ n I]
  ·exact .inr I
 | .obj,v,h=>by rw[Rep]at h ⊢;exact h
 | .exc c,v,h=>by
  k_ne;exact h.keep fun b ob u q=>k _ _ (fun p=>by rcases hm b _ p q with⟨z,y⟩ | ⟨z,y⟩ | ⟨z,y⟩<;>cases y) q
 | .fT ks ds,v,h=>by
  k_ne;obtain⟨b,ob,xs,U,I,Z,O⟩:=h;exact⟨b,ob,xs,U,k _ _ (fun p=>by rcases hm b _ p I with⟨z,y⟩ | ⟨z,y⟩ | ⟨z,y⟩<;>cases y) I,Z,ai.off hm k O⟩
 | .fL ds,v,h=>by
  k_ne;obtain⟨b,ob,xs,U,I,O⟩:=h;exact⟨b,ob,xs,U,k _ _ (fun p=>by rcases hm b _ p I with⟨z,y⟩ | ⟨z,y⟩ | ⟨z,y⟩<;>cases y) I,ai.off hm k O⟩
theorem ai.off{P:Addr->Prop}{K:W.Frag}{H H':Hp}(hm:∀ b o,P b->H b=some o->df o)(k:Off P H H'):∀ {ds:List RL.D} {xs:List V},ai P K H ds xs->ai P K H' ds xs
 | [],xs,h=>by rw[ai]at h ⊢;exact h
 | d::r,xs,h=>by
  rw[ai]at h ⊢;obtain⟨x,t,U,O,I⟩:=h;exact#[x,t,U,Rep.off hm k O,ai.off hm k I]
end
structure iG(K:W.Frag)(Qa:L2.It)(ds:List RL.D)(P:Addr->Prop)(H:Hp):Prop where
 go:∀ H' i,Off P H H'->i<ds.length->Qa.go i H'
 stop:∀ H',Off P H H'->Qa.stop ds.length H'
 yld:∀ H' i d x H2,Off P H H'->ds[i]?=some d->Qa.yld i H' x H2->aD H' H2/\(d.imm=true\/aD H H'->Rep nP K H2 d x)
abbrev y8(K:W.Frag)(I:RL.St)(J:L2.St)(H:Hp)(it:RL.It)(Qa:L2.It)(ds:List RL.D)(O:Hp):Prop :=
 iG K Qa ds nP O/\∀ (M:List Nat) (P:Addr->Prop),RL.ot M it=true->(∀ b,P b->∃ o,H b=some o/\df o)->(∀ (j:Nat) (dj:RL.D) (vj:V),M.contains j=false->I[j]?=some (some dj)->J[j]?=some (some vj)->Rep P K H dj vj)->iG K Qa ds P O
abbrev tI(K:W.Frag)(cl:RL.Cl)(it:RL.It):TI:=fun J H R=>∃ I ds,RV0 K I J H/\RL.cm cl I it=some ds/\∀ Qa O,aD H O->y8 K I J H it Qa ds O->R Qa O
abbrev SI(X:Cx)(cl:RL.Cl)(tg iter:Expr)(it:RL.It):Prop:=PI X tg iter (tI X.K cl it)
def PI.weak{X:Cx}{tg iter:Expr}{t t':TI}(h:PI X tg iter t)(w:∀ J H R,t' J H R->t J H R):PI X tg iter t':=fun pins s J H R I q=>h pins s J H R I (w J H R q)
def fg{K:W.Frag}{P:Addr->Prop}{H H':Hp}{d:RL.D}{v:V}(hm:∀ b o,P b->H b=some o->df o)(k:Off P H H')(r:Rep nP K H d v)(i:d.imm=true):Rep nP K H' d v :=
 ((r.imm i).off hm k).imm i
def qO{K:W.Frag}{H:Hp}{a:Addr}{ds:List RL.D}{xs:List V}{P:Addr->Prop}(h:H a=some (.lst xs))(r:ai nP K H ds xs)(I:¬ P a)(hm:∀ b o,P b->H b=some o->df o):iG K (Itl K a) ds P H where
 go:=fun H' i k hi=>by
  obtain⟨x,e,_⟩:=r.get (i:=i) (d:=ds[i]) (by simp[]);exact#[xs,x,SqL.of (k _ _ I h),e]
 stop:=fun H' k=>#[xs,SqL.of (k _ _ I h),by rw[r.length];exact Je _]
 yld:=fun H' i d x H2 k e y=>by
  obtain⟨z,y⟩:=y;subst z;have Y:=y xs (SqL.of (k _ _ I h));obtain⟨Z,U,O⟩:=r.get e;rw[Y]at U;cases U;refine#[aD.refl _,fun q=>?_];rcases q with q | q
  ·exact fg hm k O q
  ·exact O.same q
def vp{K:W.Frag}{H:Hp}{a:Addr}{ds:List RL.D}{xs:List V}{P:Addr->Prop}(h:H a=some (.frz o (.lst xs)))(r:ai nP K H ds xs)(hm:∀ b o,P b->H b=some o->df o):iG K (Itl K a) ds P H:=by
 have kp:∀ H',Off P H H'->SqL K H' a xs:=fun H' k=>by
  exact .inl (.inr ⟨o,k _ _ (fun p=>by rcases hm a _ p h with⟨z,q⟩ | ⟨z,q⟩ | ⟨z,q⟩<;>cases q) h⟩)
 exact {
  go:=fun H' i k hi=>by
   obtain⟨x,e,_⟩:=r.get (i:=i) (d:=ds[i]) (by simp[]);exact#[xs,x,kp _ k,e]
  stop:=fun H' k=>#[xs,kp _ k,by rw[r.length];exact Je _]
  yld:=fun H' i d x H2 k e y=>by
   obtain⟨z,y⟩:=y;subst z;have U:=y xs (kp _ k);obtain⟨Y,O,I⟩:=r.get e;rw[U]at O;cases O;refine#[aD.refl _,fun q=>?_];rcases q with q | q
   ·exact fg hm k I q
   ·exact I.same q }
def uM{K:W.Frag}{H:Hp}{a:Addr}{ds:List RL.D}{xs:List V}{P:Addr->Prop}(h:H a=some (.tup xs))(r:ai nP K H ds xs)(hm:∀ b o,P b->H b=some o->df o):iG K (Itt K a) ds P H:=by
 have I:¬ P a:=fun p=>by rcases hm a _ p h with⟨z,q⟩ | ⟨z,q⟩ | ⟨z,q⟩<;>cases q
 exact {
  go:=fun H' i k hi=>by
   obtain⟨x,e,_⟩:=r.get (i:=i) (d:=ds[i]) (by simp[]);exact#[xs,x,SqT.of (k _ _ I h),e]
  stop:=fun H' k=>#[xs,SqT.of (k _ _ I h),by rw[r.length];exact Je _]
  yld:=fun H' i d x H2 k e y=>by
   obtain⟨z,y⟩:=y;subst z;have Y:=y xs (SqT.of (k _ _ I h));obtain⟨Z,U,O⟩:=r.get e;rw[Y]at U;cases U;refine#[aD.refl _,fun q=>?_];rcases q with q | q
   ·exact fg hm k O q
   ·exact O.same q }
def kL:∀ (n:Nat) (lo:Int) (i:Nat) (d:RL.D),(RL.cb lo n)[i]?=some d->d=.int (lo+i)
 | 0,lo,i,d,h=>by simp[RL.cb]at h
 | n+1,lo,0,d,h=>by simp[RL.cb]at h;simp[h]
 | n+1,lo,i+1,d,h=>by
  rw[kL n (lo+1) i d h];congr 1;lia
def jg:∀ (n:Nat) (lo:Int),(RL.cb lo n).length=n
 | 0,_=>rfl
 | n+1,lo=>by rw[RL.cb,length_cons,jg n]
def vz{K:W.Frag}{H:Hp}{lo:Int}{n:Nat}{P:Addr->Prop}:iG K (Itr lo n) (RL.cb lo n) P H where
 go:=fun H' i k hi=>by rw[jg]at hi;exact hi
 stop:=fun H' k=>by rw[jg];exact Je _
 yld:=fun H' i d x H2 k e y=>by
  obtain⟨z,y⟩:=y;subst z;refine#[aD.refl _,fun _=>?_];rw[kL n lo i d e,y];exact bb
section rules
variable{X:Cx}{cl:RL.Cl}{tg a b l:Expr}{a' b' e':RL.E}{pos p:Pos}
def DB{t t':TE}{l:Expr}(f:PE X l t):PI X tg l (fun J H R=>t J H fun x U=>(∃ a,x=.ref a/\(∃ xs,SqL X.K U a xs)/\R (Itl X.K a) U)\/(∃ a,x=.ref a/\(∃ xs,SqT X.K U a xs)/\R (Itt X.K a) U)):=by
 intro pins s J H R I h;refine thn (f pins s J H _ I h) fun v s1 ⟨x,U,O,r1,c⟩=>?_
 rcases c with⟨a,e,⟨xs,Y⟩,q⟩ | ⟨a,e,⟨xs,Y⟩,q⟩
 ·subst e;cases r1;obtain⟨its,Z,p,d⟩:=O.list Y;refine wpAny_pyIter_list p.isList ⟨s1.heap.objs.size,[s1.heap.objs.size],_,_,U,rfl,O.kept fun b o e=>Jb _ e,vt a _,⟨_,Jd _ rfl,rfl,rfl⟩,fun b hb=>?_,q⟩;rw[show b=s1.heap.objs.size by simpa using hb];exact O.l8 (Je _) (O.hok.fresh (Je _))
 ·subst e;cases r1;obtain⟨its,Z,p,d⟩:=O.tuple Y;refine wpAny_pyIter_tuple (show s1.heap.IsTuple a its.toArray from p) ⟨s1.heap.objs.size,[s1.heap.objs.size],_,_,U,rfl,O.kept fun b o e=>Jb _ e,tq a _,⟨_,Jd _ rfl,rfl,rfl⟩,fun b hb=>?_,q⟩;rw[show b=s1.heap.objs.size by simpa using hb];exact O.l8 (Je _) (O.hok.fresh (Je _))
def kC{I:RL.St}{J:L2.St}{H c:Hp}{d:RL.D}{v:V}{M:List Nat}{P:Addr->Prop}(r1:Res X.K I J H e' d v c)(z:(RL.avE M e' || RL.aH e')=true)(O:∀ b,P b->∃ o,H b=some o/\df o)
 (av:∀ (j:Nat) (dj:RL.D) (vj:V),M.contains j=false->I[j]?=some (some dj)->J[j]?=some (some vj)->Rep P X.K H dj vj):∀ ds a,d=.lst ds->v=.ref a->¬ P a:=by
 intro ds a hd U;subst hd U;rw[or_eq_true]at z;rcases z with z | z
 ·obtain⟨p,xs,Z,Y,_⟩:=bc (r1.av M z P (fun b q=>by obtain⟨o,ho,_⟩:=O b q;rw[ho];exact fun z=>nomatch z) av);cases Z;exact Y
 ·intro q;obtain⟨o,ho,_⟩:=O a q;rw[r1.fresh z rfl a rfl]at ho;cases ho
def dF{P:Addr->Prop}{H I:Hp}(s:aD H I)(O:∀ b,P b->∃ o,H b=some o/\df o):∀ b o,P b->I b=some o->df o:=fun b o q e=>by
 obtain⟨o',ho,m⟩:=O b q;rw[s _ _ ho]at e;cases e;exact m
def fC{I:Hp}:∀ b o,nP b->I b=some o->df o:=fun b o q=>q.elim
def AX(f:SE X cl l e')(g:True):PI X tg l (fun J H R=>∃ O d ds,RV0 X.K O J H/\RL.ev cl O e'=some d/\RL.i6 d=some ds/\∀ Qa b,aD H b->y8 X.K O J H (.seq e') Qa ds b->R Qa b):=by
 refine PI.weak (DB (t':=tE X.K cl e') f) fun J H R h=>?_;obtain⟨O,d,ds,c,e,a,k⟩:=h;refine#[O,d,c,e,fun v b r1=>?_]
 cases d with
 |fL es=>
  cases a;have r:=r1.rep;obtain⟨p,ob,xs,rfl,I,Y⟩:=r;exact .inl #[p,rfl,#[xs,.inl (.inr #[ob,I])],k _ _ r1.same #[vp I Y fC,fun M P z Z av=>vp I Y (dF r1.same Z)]]
 |lst es=>
  obtain⟨p,xs,rfl,I,Y⟩:=fq (show RL.items (.lst es)=some ds from a) r1.rep
  rcases I with⟨I,U⟩ | ⟨I,U⟩ | ⟨I,U⟩
  ·cases U;exact .inl #[p,rfl,#[xs,SqL.of I],k _ _ r1.same #[qO I Y (fun z=>z) fC,fun M P z Z av=>qO I Y (kC r1 z Z av _ _ rfl rfl) (dF r1.same Z)]]
  ·cases U
  ·cases U
 |tup es=>
  obtain⟨p,xs,rfl,I,Y⟩:=fq (show RL.items (.tup es)=some ds from a) r1.rep
  rcases I with⟨I,U⟩ | ⟨I,U⟩ | ⟨I,U⟩
  ·cases U
  ·exact .inr #[p,rfl,#[xs,SqT.of I],k _ _ r1.same #[uM I Y fC,fun M P z Z av=>uM I Y (dF r1.same Z)]]
  ·cases U
 | _=>cases a
def vb{x y:RL.D}{ds:List RL.D}(h:RL.jJ x y=some ds):∃ i j:Int,x=.int i/\y=.int j/\(-(2 ^ 62)<=i/\i<2 ^ 62/\-(2 ^ 62)<=j/\j<2 ^ 62)/\(j-i).toNat<=RL.most/\ds=RL.cb i (j-i).toNat:=by
 have no:∀ {o:Option (List RL.D)},o=none->o=some ds->False:=fun e h=>by rw[e]at h;cases h
 cases x with
 | int i=>cases y with
  |int j=>
   obtain⟨I,e⟩:=bx h
   have lo:-(2 ^ 62:Int)<=-(2 ^ 60):=by decide
   have hi:(2 ^ 60:Int)<2 ^ 62:=by decide
   exact#[i,j,rfl,rfl,#[Int.le_trans lo I.2.1,Int.lt_trans I.2.2.1 hi,Int.le_trans lo I.2.2.2.1,Int.lt_trans I.2.2.2.2 hi],I.1,e]
  | _=>exact(no rfl h).elim
 | _=>exact(no rfl h).elim
def zY(b:Gl X "range")(hm:X.mg "range" = none)(ha:SE X cl a a')(hn:noStar a=true):SI X cl tg (.Call (.Name "range" p) [a] [] pos) (.rng1 a'):=by
 refine PI.weak (vd b hm (bV ha dn hn) (aA [] hn)) fun J H R h=>?_;obtain⟨I,ds,O,e,k⟩:=h;obtain⟨x,c,e⟩:=bind_some e;obtain⟨i,j,d,rfl,hb,_,rfl⟩:=vb e;cases d;refine#[I,[.int j],O,by rw[RL.evs,c];rfl,fun vs f s1 r1=>?_];obtain⟨v,t,rfl,Y,U⟩:=r1;subst U;refine#[j,by rw[ar Y],hb.2.2.1,hb.2.2.2,?_]
 have Z:(j-0).toNat=j.toNat:=by simp
 rw[Z]at k;exact k _ _ s1 ⟨vz,fun _ _ _ _ _=>vz⟩
end rules
end RS
namespace L2
open PySem PySem.Spec PyProof.Rows
abbrev gu(ifs:List Expr)(env:Env):Sem Bool:=forIn ifs true fun c r=>if r=true then do let ok <- isTrue c env (eval c env);pure (ForInStep.yield ok)else pure (ForInStep.yield r)
section
def CU(h:wpAny M A m P (fun _ _=>False) s):wpAny M A m P E s :=
 wpAny_mono h (fun _ _ q=>q) fun _ _ z=>z.elim
def dq(h:wpAny M A m (fun a s1=>wpAny M A (k a) P E s1) (fun _ _=>False) s):wpAny M A (m >>= k) P E s:=Ja (CU h)
end
section
abbrev mw(prog:Program)(w:World)(A:Around)(elt tg:Expr)(ifs:List Expr)(it I:Value)(env:Env)(stop next:Shared->Prop)(s:Shared):Prop :=
 wpAny (model prog w) A (pyNext it) (fun r s1=>match r with
  | none=>stop s1
  | some v=>wpAny (model prog w) A (letOwnedTupleGo tg it v) (fun _ s2=>wpAny (model prog w) A (assign tg env v) (fun _ Z=>wpAny (model prog w) A (gu ifs env) (fun ok O =>
     if ok=true then wpAny (model prog w) A (eval elt env) (fun x Y=>wpAny (model prog w) A (call (.builtin "list.append") [I,x]) (fun _ U=>next U) (fun _ _=>False) Y) (fun _ _=>False) O
     else next O) (fun _ _=>False) Z) (fun _ _=>False) s2) (fun _ _=>False) s1) (fun _ _=>False) s
def wQ(h:mw prog w A elt tg ifs it acc env stop next s) :
  wpAny (model prog w) A (compTurn (.ListComp elt [⟨tg,iter,ifs,0⟩] scope pos) 0 it acc env) (fun I s'=>match I with
   | .done f=>f=.next/\stop s'
   | .again c=>c=.compLoop (.ListComp elt [⟨tg,iter,ifs,0⟩] scope pos) 0 it acc env/\next s') E s:=by
 k_in;apply wpAny_standAt;apply dq;refine thn h fun r s1 U=>?_
 cases r with
 |none=>
  apply Jc;exact#[rfl,U]
 |some v=>
  apply dq;refine thn U fun _ s2 b=>?_;apply dq;refine thn b fun _ i a=>?_;apply dq;refine thn a fun ok g O=>?_;cases ok
  ·apply Jc;exact#[rfl,O]
  ·k_in;apply dq;refine thn O fun x e Z=>?_;apply dq;refine thn Z fun _ d Y=>?_;apply Jc;apply Jc;exact#[rfl,Y]
def ud(I:Nat->Shared->Prop)(turn:∀ n s,I n s->mw prog w A elt tg ifs it acc env (R (.ok .next)) (fun s'=>∃ m,m<n/\I m s') s)
 (n:Nat)(h:I n s):codeAny (model prog w) A (.compLoop (.ListComp elt [⟨tg,iter,ifs,0⟩] scope pos) 0 it acc env) R s :=
 codeAny_loop rfl I (fun n s U=>wpAny_noted (thn (wQ (turn n s U)) fun O s' q=>by
  cases O with
  |done f=>
   obtain⟨rfl,q⟩:=q;exact q
  | again c=>exact q)) n h
end
def j6:∀ (names:List (Str × NameKind)) (n:Nat) (I:List (Str × Addr)) (x:Str) (c:Addr),(cellsFrom n names I).lookup x=some c->(I.lookup x=some c/\(x,NameKind.cell)∉names)\/(n<=c/\(x,NameKind.cell)∈names)
 | [],n,I,x,c,h=>.inl #[h,by simp]
 | (nm,k)::r,n,I,x,c,h=>by
  unfold cellsFrom at h;by_cases hk:(k == NameKind.cell)=true
  ·rw[if_pos hk]at h
   have O:k=.cell:=by simpa using hk
   subst O
   rcases j6 r (n+1) ((nm,n)::I) x c h with⟨a,b⟩ | ⟨a,b⟩
   ·rw[Jn]at a
    cases hx:x == nm with
    |true=>
     rw[hx]at a;cases a
     have:x=nm:=by simpa using hx
     subst this;exact .inr #[Je _,JA ..]
    |false=>
     rw[hx]at a;refine .inl #[a,fun z=>?_];rcases List.mem_cons.mp z with z | z
     ·cases z;simp at hx
     ·exact b z
   ·exact .inr #[Nat.le_of_succ_le a,Jm _ b]
  ·rw[if_neg hk]at h
   rcases j6 r n I x c h with⟨a,b⟩ | ⟨a,b⟩
   ·refine .inl #[a,fun z=>?_];rcases List.mem_cons.mp z with z | z
    ·cases z;exact hk (by simp)
    ·exact b z
   ·exact .inr #[a,Jm _ b]
def lu:∀ (names:List (Str × NameKind)) (n:Nat) (I:List (Str × Addr)) (x:Str),(x,NameKind.cell)∉names->(cellsFrom n names I).lookup x=I.lookup x
 | [],n,I,x,_=>rfl
 | (nm,k)::r,n,I,x,h=>by
  have O:=fun z=>h (Jm _ z);unfold cellsFrom;by_cases hk:(k == NameKind.cell)=true
  ·rw[if_pos hk,lu r (n+1) _ x O,Jn]
   have U:k=.cell:=by simpa using hk
   subst U
   have:(x == nm)=false:=by
    rw[beq_eq_false_iff_ne];intro z;subst z;exact h (JA ..)
   rw[this]
  ·rw[if_neg hk];exact lu r n I x O
def nZ:∀ (names:List (Str × NameKind)) (n:Nat) (I:List (Str × Addr)),(∀ x c,I.lookup x=some c->c<n)->(∀ x y c,I.lookup x=some c->I.lookup y=some c->x=y)->∀ x y c,(cellsFrom n names I).lookup x=some c->(cellsFrom n names I).lookup y=some c->x=y
 | [],n,I,_,hi,x,y,c,h1,h2=>hi x y c h1 h2
 | (nm,k)::r,n,I,hl,hi,x,y,c,h1,h2=>by
  unfold cellsFrom at h1 h2;by_cases hk:(k == NameKind.cell)=true
  ·rw[if_pos hk]at h1 h2;refine nZ r (n+1) ((nm,n)::I) (fun x c e=>?_) (fun x y c U O=>?_) x y c h1 h2
   ·rw[Jn]at e
    cases hx:x == nm with
    | true=>rw[hx]at e;cases e;exact Nat.lt_succ_self _
    | false=>rw[hx]at e;exact Nat.lt_succ_of_lt (hl x c e)
   ·rw[Jn]at U O
    cases hx:x == nm with
    |true=>
     rw[hx]at U;cases U
     cases hy:y == nm with
     |true=>
      have a:x=nm:=by simpa using hx
      have b:y=nm:=by simpa using hy
      rw[a,b]
     |false=>
      rw[hy]at O;exact absurd (hl y n O) (Jw _)
    |false=>
     rw[hx]at U
     cases hy:y == nm with
     |true=>
      rw[hy]at O;cases O;exact absurd (hl x n U) (Jw _)
     |false=>
      rw[hy]at O;exact hi x y c U O
  ·rw[if_neg hk]at h1 h2;exact nZ r n I hl hi x y c h1 h2
def lX:∀ (names:List (Str × NameKind)) (h:Heap) (I:List (Str × Addr)) (x:Str) (c:Addr),(cellsFrom h.objs.size names I).lookup x=some c->I.lookup x=some c\/(pushCells h names).IsCell c none
 | [],h,I,x,c,e=>.inl e
 | (nm,k)::r,h,I,x,c,e=>by
  unfold cellsFrom at e;unfold pushCells;by_cases hk:(k == NameKind.cell)=true
  ·rw[if_pos hk]at e ⊢
   have e':(cellsFrom (h.push { cls:=.type "cell",data:=.cell none }).objs.size r ((nm,h.objs.size)::I)).lookup x=some c:=by rw[Jt];exact e
   rcases lX r (h.push { cls:=.type "cell",data:=.cell none }) ((nm,h.objs.size)::I) x c e' with a | a
   ·rw[Jn]at a
    cases hx:x == nm with
    |true=>
     rw[hx]at a;cases a;exact .inr #[_,pushCells_keeps r _ _ _ (Jd _ rfl),rfl]
    |false=>
     rw[hx]at a;exact .inl a
   ·exact .inr a
  ·rw[if_neg hk]at e ⊢;exact lX r h I x c e
def zH{M:Model}{A:Around}{E:Value->Shared->Prop}{s:Shared}{scope:Scope}{globals:Addr}{closure:List (Str × Addr)}{qual:Str}{func:Option Addr}{code:Value}{outer:Env}{builtins:Addr}{Q:Env->Shared->Prop}
 (I:Q (newEnv scope s.heap.objs.size globals (cellsFrom (s.heap.objs.size+1) scope.names closure) qual func code (some outer) builtins) { s with heap:=pushCells (s.heap.push { cls:=.type "dict",data:=.dict (List.toArray []) }) scope.names }) :
  wpAny M A (newFunctionEnv scope globals closure [] qual func code (some outer) builtins) Q E s:=by
 simp only[newFunctionEnv,Option.isSome_some,if_true];refine Ja (wpAny_alloc ?_);refine Ja (wpAny_layCells _ (fun name kind cells=>by cases hkc:kind == NameKind.cell<;>simp[]) _ _ _ _ ?_);rw[show({ s with heap:=s.heap.push { cls:=.type "dict",data:=.dict (List.toArray []) } }:Shared).heap.objs.size=s.heap.objs.size+1 from Jt ..];refine Ja ?_;exact Jc (Jc I)
abbrev blk(X:Cx)(scope:Scope)(cls:List (Str × Addr))(C:Addr)(fp:List Addr)(s:Shared)(H:Hp):Cx where
 prog:=X.prog
 w:=X.w
 K:=X.K
 mg:=X.mg
 base:=X.base
 A:=X.A
 N:=X.N
 s₀:=s
 H₀:=H
 env:=compEnvC scope cls C X.env
 outer:=X.stack
 stack:=X.stack
 ex:=fp
 fn:=fun x=>scope.names.lookup x == some .cell
 calm:=X.calm
 pn:=[]
 xe:=fun _ _=>False
structure fD(scope:Scope)(sc:Scope)(cls:List (Str × Addr))(cells:List (Str × Addr)):Prop where
 kind:scope.kind=.function
 own:∀ x∈scope.names,x.2=.cell->scope.names.lookup x.1=some .cell
 loc:∀ x∈scope.names,x.2=.local->scope.names.lookup x.1=some .local
 sub:∀ x c,cls.lookup x=some c->cells.lookup x=some c
 has:∀ x,scope.names.lookup x=some .free->∃ c,cls.lookup x=some c
 vis:∀ x,scope.names.lookup x=some .free->sc.names.lookup x=some .cell\/sc.names.lookup x=some .free
def bW{env:Env}:∀ {names:List (Str × NameKind)} {x:Str} {k:NameKind},
  (names.map fun(n,k)=>if(k == NameKind.free&&env.scope.kind == .function&&env.kindOf n == some .cell)then(n,NameKind.cell)else(n,k)).lookup x=some k ->
  names.lookup x=some k\/(k=.cell/\names.lookup x=some .free/\env.kindOf x=some .cell)
 | [],x,k,h=>by simp at h
 | (n,k')::r,x,k,h=>by
  have Z:=@bW env r x k;rw[map_cons]at h
  cases hx:x == n with
  |true=>
   have a:x=n:=by simpa using hx
   subst a;by_cases I:(k' == NameKind.free&&env.scope.kind == .function&&env.kindOf x == some .cell)=true
   ·simp only[I,if_true]at h;rw[Jn,hx]at h;cases h;simp only[and_eq_true,beq_iff_eq]at I;refine .inr #[rfl,?_,I.2];rw[Jn,hx,I.1.1]
   ·simp only[not_eq_true]at I;simp only[I,false_eq_true,if_false]at h;rw[Jn,hx]at h;cases h;exact .inl (by rw[Jn,hx])
  |false=>
   have h':(r.map fun(n,k)=>if(k == NameKind.free&&env.scope.kind == .function&&env.kindOf n == some .cell)then(n,NameKind.cell)else(n,k)).lookup x=some k:=by
    by_cases I:(k' == NameKind.free&&env.scope.kind == .function&&env.kindOf n == some .cell)=true
    ·simp only[I,if_true]at h;rw[Jn,hx]at h;exact h
    ·simp only[not_eq_true]at I;simp only[I,false_eq_true,if_false]at h;rw[Jn,hx]at h;exact h
   rcases Z h' with q | ⟨Y,U,O⟩
   ·exact .inl (by rw[Jn,hx];exact q)
   ·exact .inr #[Y,by rw[Jn,hx];exact U,O]
abbrev ym(X:Cx)(scope:Scope)(J I:St):Prop:=I.length=J.length/\∀ (i:Nat) (x:Str) (v:V),X.N[i]?=some x->I[i]?=some (some v)->J[i]?=some (some v)/\scope.names.lookup x≠some .local/\scope.names.lookup x≠some .cell
section
def Inv.hxb(I:Inv X pins J H s):HX (blk X scope cls C fp s H):=by
 rcases I.ok.hd.2 with z | ⟨h,o,u,vs,Y,U,O⟩
 ·exact .inl z
 ·exact .inr #[h,o,u,vs,Y,I.base.c8 _ _ _ U,O]
def A2(I:Inv X pins J H s)(S:fD scope X.env.scope cls X.env.cells)(hf:∀ b∈fp,iL X pins H b/\b<s.heap.objs.size)(ho:ym X scope J Qh)
 (n:h'.Ns s.heap.objs.size (fun _=>none))(hk:∀ b o,s.heap.get? b=some o->h'.get? b=some o)(w:∀ x c,(cellsFrom (s.heap.objs.size+1) scope.names cls).lookup x=some c->cls.lookup x=some c\/h'.IsCell c none) :
  Inv (blk X scope (cellsFrom (s.heap.objs.size+1) scope.names cls) s.heap.objs.size fp s H) [] Qh H { s with heap:=h',toks:=t }:=by
 have L:=I.hok.fresh (Je _)
 have d:∀ x c,cls.lookup x=some c->c<s.heap.objs.size:=fun x c e=>by
  obtain⟨v,q⟩:=I.cell x c (S.sub x c e);exact q.lt
 have g:∀ x c,(cellsFrom (s.heap.objs.size+1) scope.names cls).lookup x=some c->(X.env.cells.lookup x=some c/\c<s.heap.objs.size)\/(s.heap.objs.size+1<=c/\scope.names.lookup x=some .cell):=fun x c e=>by
  rcases j6 _ _ _ _ _ e with⟨a,_⟩ | ⟨a,b⟩
  ·exact .inl #[S.sub x c a,d x c a]
  ·exact .inr #[a,S.own _ b rfl]
 have Z:∀ x c,cls.lookup x=some c->scope.names.lookup x=some .free->(cellsFrom (s.heap.objs.size+1) scope.names cls).lookup x=some c:=fun x c e f=>by
  rw[lu _ _ _ _ fun z=>by rw[S.own _ z rfl]at f;cases f];exact e
 refine⟨⟨I.ok.mod,?_,I.ok.glob,I.ok.blt,Je _,fun x y c U Y=>nZ _ _ _ (fun x c e=>Nat.lt_succ_of_lt (d x c e)) (fun x y c Q P=>I.ok.inj x y c (S.sub x c Q) (S.sub y c P)) x y c U Y,fun x O=>?_,fun x c z e=>?_,⟨I.ok.hd.1,I.hxb⟩,I.ok.frames,.inl rfl,fun b hb=>?_,fun b o e=>I.bs b o e,Jr I.ok.bsz I.sz,fun b o e hb=>?_,fun b hb=>?_,I.stack,I.jC⟩,
  rfl,I.bare,Un.kept hk,⟨_,n,fun i x v U Y j=>?_⟩,fun x c e=>?_,L,fun x c e=>?_,fun p Qa=>absurd Qa (by simp[blk]),I.hok.kept hk,ho.1.trans I.len⟩
 ·exact S.kind
 ·have O:=O
  have key:scope.names.lookup x=some .cell\/scope.names.lookup x=some .free:=by
   rcases O with O | O
   ·rcases bW O with q | ⟨_,q,_⟩
    ·exact .inl q
    ·exact .inr q
   ·rcases bW O with q | ⟨q,_⟩
    ·exact .inr q
    ·cases q
  rcases key with q | q
  ·have:=W.cellsFrom_some scope.names (s.heap.objs.size+1) cls (.inl q);exact Option.isSome_iff_exists.mp this
  ·obtain⟨c,h⟩:=S.has x q;exact#[c,Z x c h q]
 ·have z:(scope.names.lookup x == some .cell)=true:=z
  rcases j6 _ _ _ _ _ (show(cellsFrom (s.heap.objs.size+1) scope.names cls).lookup x=some c from e)with⟨_,b⟩ | ⟨b,_⟩
  ·exact absurd (PySem.mem_of_lookup (by simpa using z)) b
  ·exact Nat.le_of_succ_le b
 ·obtain⟨⟨D,f1,f2,f3,A,C⟩,k⟩:=hf b hb;refine#[Jl k,fun x c e=>?_]
  rcases g x c e with⟨a,_⟩ | ⟨a,_⟩
  ·exact A x c a
  ·exact ne_of_gt (lt_trans k a)
 ·obtain⟨⟨D,f1,f2,f3,A,C⟩,k⟩:=hf b hb;rcases f3 with z | z
  ·exact I.ok.iD b o e z
  ·exact absurd (Ji (Jf e) I.ok.bsz) (Nat.not_lt.mpr z)
 ·obtain⟨⟨D,f1,f2,f3,A,C⟩,k⟩:=hf b hb;intro z;rcases List.mem_cons.mp (I.pH b z)with e | e
  ·exact f1 e
  ·exact f2 e
 ·obtain⟨N,B,M⟩:=ho.2 i x v U Y;have j:=j
  have key:scope.names.lookup x=some .free:=by
   rcases j with z | z | z
   ·rcases bW z with q | ⟨q,_⟩
    ·exact absurd q B
    ·cases q
   ·rcases bW z with q | ⟨_,q,_⟩
    ·exact absurd q M
    ·exact q
   ·rcases bW z with q | ⟨q,_⟩
    ·exact q
    ·cases q
  obtain⟨c,h⟩:=S.has x key;have r:=S.sub x c h;obtain⟨m,hn,K⟩:=I.loc;have G:Vis X.env.scope x:=.inr (S.vis x key);obtain⟨u,E,F⟩:=K i x v U N G;refine#[u,E,.inr #[?_,c,Z x c h key,?_]]
  ·rcases j with z | z
   ·rcases bW z with q | ⟨q,_⟩
    ·exact absurd q B
    ·cases q
   ·exact z
  ·rcases F with⟨z,_⟩ | ⟨_,c',e',q⟩
   ·have z:X.env.scope.names.lookup x=some .local:=z;rcases S.vis x key with l | l<;>(rw[z]at l;cases l)
   ·rw[r]at e';cases e';obtain⟨o,g1,g2⟩:=q;exact#[o,hk _ _ g1,g2]
 ·rcases w x c e with a | a
  ·obtain⟨v,q⟩:=I.cell x c (S.sub x c a);obtain⟨o,U,Y⟩:=q;exact#[v,o,hk _ _ U,Y]
  ·exact#[none,a]
 ·rcases g x c e with⟨a,_⟩ | ⟨a,_⟩
  ·exact I.cC x c a
  ·exact I.hok.fresh (Nat.le_of_succ_le a)
abbrev ig(b:TI)(clr:St->St)(g:TG)(tc:TT)(te:TE):TE:=fun J H Q=>b J H fun Qa a=>∀ l,a l=none->∃ W:Nat->Nat->List V->Hp->Prop,(∃ m,W 0 m [] (upd a l (.lst []))) /\
 ∀ i m ys H2,W i m ys H2->H2 l=some (.lst ys)/\((Qa.stop i H2/\Q (.ref l) H2)\/(Qa.go i H2/\∀ x Z,Qa.yld i H2 x Z->g x (clr J) Z fun I c=>tc I c fun k Y =>
  if k=true then te I Y fun y U=>U l=some (.lst ys)/\ys.length<sizeLine/\∃ O,O<m/\W (i+1) O (ys++[y]) (upd U l (.lst (ys++[y])))else ∃ O,O<m/\W (i+1) O ys Y))
structure nt(X:Cx)(scope:Scope)(tg:Expr)(ifs:List Expr)(elt:Expr)(clr:St->St)(g:TG)(tc:TT)(te:TE):Prop where
 htg:∀ cls C fp s H,PG (blk X scope cls C fp s H) tg g
 htc:∀ cls C fp s H pins s' J H' Q,Inv (blk X scope cls C fp s H) pins J H' s'->tc J H' Q->wpAny (model X.prog X.w) X.A (gu ifs (compEnvC scope cls C X.env)) (TP (blk X scope cls C fp s H) pins J Q) (fun _ _=>False) s'
 hte:∀ cls C fp s H,PE (blk X scope cls C fp s H) elt te
 B2:∀ J:St,J.length=X.N.length->ym X scope J (clr J)
 yB:∀ (x:V) (J:St) (H:Hp) (Q:St->Hp->Prop),g x (clr J) H Q->g x (clr J) H fun Qe H2=>Q Qe H2/\(clr J).length=Qe.length/\∀ (i:Nat) v,(clr J)[i]?=some (some v)->Qe[i]?=some (some v)
def mL{elt tg iter:Expr}{ifs:List Expr}{pos:Pos}{wi:TI}{clr:St->St}{g:TG}{tc:TT}{te:TE}{Q:VK}{RR:Value->Addr->Result->Shared->Prop}{CM:Cx->Prop}(hc:∀ {pins:List (Addr × Obj)} {J:St} {H:Hp} {s:Shared} (cls:List (Str × Addr)) (C:Addr) (fp:List Addr),Inv X pins J H s->CM (blk X scope cls C fp s H))(S:fD scope X.env.scope cls X.env.cells)
 (hi:PI' CM X tg iter wi)(B:nt X scope tg ifs elt clr g tc te)(I:Inv X pins J H s)(h:ig wi clr g tc te J H Q)
 (hRR:∀ l C H' s',Inv X pins J H' s'->(∃ m,s'.heap.Ns C m)->H' C=none->C≠X.env.locals->X.s₀.heap.objs.size<=C->(∀ x c,X.env.cells.lookup x=some c->c≠C)->(∀ p∈X.pn++pins,p.1≠C)->Q (.ref l) H'->RR (.ref l) C (.ok .next) s') :
  wpAny (model X.prog X.w) X.A (eval iter X.env) (fun x s1=>wpAny (model X.prog X.w) X.A (pyIter x) (fun it s2=>wpAny (model X.prog X.w) X.A (newList []) (fun acc O =>
   wpAny (model X.prog X.w) X.A (newFunctionEnv scope X.env.globals cls [] X.env.qual none .none (some X.env)) (fun k N =>
    codeAny (model X.prog X.w) X.A (.compStart (.ListComp elt [⟨tg,iter,ifs,0⟩] scope pos) 0 it acc { k with scope:=relabel scope X.env }) (RR acc k.locals) N) X.xe O) X.xe s2) X.xe s1) X.xe s:=by
 refine thn (hi pins s J H _ I h) fun x s1 h1=>thn h1 fun itv s2 h2=>?_;obtain⟨it,fp,tn,Qa,H2,e,I2,T,M,f2,h3⟩:=h2;subst e
 have flt:∀ b∈fp,b<s2.heap.objs.size:=fun b hb=>by
  obtain⟨o,e,_⟩:=T.obj _ _ M b hb;exact Jf e
 refine wpAny_newObj_type ?_
 have Z:Inv X pins J (upd H2 s2.heap.objs.size (.lst [])) { s2 with heap:=s2.heap.push { cls:=.type "list",dict:=none,data:=.seq ([]:List Value).toArray } } :=
  I2.laid (t':=s2.toks) (fun b u e=>Jb _ e) (Je _) ⟨zero_le _,[],0,.nil,Jd _ rfl⟩
 have hl2:H2 s2.heap.objs.size=none:=I2.hok.fresh (Je _);obtain⟨W,⟨m0,w0⟩,turn⟩:=h3 s2.heap.objs.size hl2
 have f3:∀ b∈fp,iL X pins (upd H2 s2.heap.objs.size (.lst [])) b/\b<(s2.heap.push { cls:=.type "list",dict:=none,data:=.seq ([]:List Value).toArray }).objs.size:=fun b hb=>by
  obtain⟨z0,z⟩:=f2 b hb;refine#[#[?_,z],?_]
  ·rw[ax (Jl (flt b hb))];exact z0
  ·rw[Jt];exact Nat.lt_succ_of_lt (flt b hb)
 generalize hs3:({ s2 with heap:=s2.heap.push { cls:=.type "list",dict:=none,data:=.seq ([]:List Value).toArray } }:Shared)=O at Z
 have a:O.heap=s2.heap.push { cls:=.type "list",dict:=none,data:=.seq ([]:List Value).toArray }:=by rw[<-hs3]
 rw[<-a]at f3
 have st3:tn 0 O.heap:=T.keep _ _ _ M fun b hb o e=>by rw[a];exact Jb _ e
 refine zH ?_;have k4:∀ b o,O.heap.get? b=some o->(pushCells (O.heap.push { cls:=.type "dict",data:=.dict (List.toArray []) }) scope.names).get? b=some o:=fun b o e=>pushCells_keeps _ _ b o (Jb _ e);have f:(pushCells (O.heap.push { cls:=.type "dict",data:=.dict (List.toArray []) }) scope.names).Ns O.heap.objs.size (fun _=>none):=(Heap.Ns.new O.heap (.type "dict")).keeps (pushCells_keeps _ _);have j:∀ x c,(cellsFrom (O.heap.objs.size+1) scope.names cls).lookup x=some c->cls.lookup x=some c\/(pushCells (O.heap.push { cls:=.type "dict",data:=.dict (List.toArray []) }) scope.names).IsCell c none:=fun x c e=>lX scope.names (O.heap.push { cls:=.type "dict",data:=.dict (List.toArray []) }) cls x c (by rw[Jt];exact e);generalize pushCells (O.heap.push { cls:=.type "dict",data:=.dict (List.toArray []) }) scope.names=h4 at k4 f j
 have I4:Inv (blk X scope (cellsFrom (O.heap.objs.size+1) scope.names cls) O.heap.objs.size fp O (upd H2 s2.heap.objs.size (.lst []))) [] (clr J) (upd H2 s2.heap.objs.size (.lst [])) { O with heap:=h4 } :=
  A2 (t:=O.toks) Z S f3 (B.B2 J I.len) f k4 j
 generalize hs4:({ O with heap:=h4 }:Shared)=N at I4
 have P:N.heap=h4:=by rw[<-hs4]
 generalize hH3:upd H2 s2.heap.objs.size (.lst [])=H3 at Z I4 w0
 have L:tn 0 N.heap:=T.keep _ _ _ st3 fun b hb o e=>by rw[P];exact k4 b o e
 have fn4:∀ b∈fp,H3 b=none:=fun b hb=>by rw[<-hH3];exact(f3 b hb).1.1
 have Y:∀ {H':Hp} {U:St} {s':Shared},Inv (blk X scope (cellsFrom (O.heap.objs.size+1) scope.names cls) O.heap.objs.size fp O H3) [] U H' s'->(∀ b∈fp,H' b=none)->∀ b∈fp,iL (blk X scope (cellsFrom (O.heap.objs.size+1) scope.names cls) O.heap.objs.size fp O H3) [] H' b :=
  fun {H' U s'} Qa hn b hb=>#[hn b hb,(Qa.ok.exf b hb).1,Qa.ok.jc b hb,.inl hb,(Qa.ok.exf b hb).2,fun p hp=>absurd hp (by simp[blk])]
 have fin:∀ {H':Hp} {s':Shared},Inv (blk X scope (cellsFrom (O.heap.objs.size+1) scope.names cls) O.heap.objs.size fp O H3) [] (clr J) H' s'->Q (.ref s2.heap.objs.size) H'->RR (.ref s2.heap.objs.size) O.heap.objs.size (.ok .next) s':=fun {H' s'} Qa q=>by
  obtain⟨m,hn,_⟩:=Qa.loc
  have J1:Inv X pins J H' s':=Z.mZ (s':=s') (ch:=fp) (Qa.os.trans rfl) Qa.base Qa.hok Qa.bare fun b hb=>by
   obtain⟨⟨g0,g1,g2,g3,g4,g5⟩,_⟩:=f3 b hb;exact#[g3,g1,g4,g5]
  refine hRR _ _ H' s' J1 ⟨m,hn⟩ Qa.free (ne_of_gt Z.lt) Z.sz (fun x c e=>?_) (fun p hp=>?_) q
  ·obtain⟨v,z⟩:=Z.cell x c e;exact Jl z.lt
  ·exact Jl (Jf (Z.pin p hp).1)
 have loop:codeAny (model X.prog X.w) X.A (.compLoop (.ListComp elt [⟨tg,iter,ifs,0⟩] scope pos) 0 (.ref it) (.ref s2.heap.objs.size) (compEnvC scope (cellsFrom (O.heap.objs.size+1) scope.names cls) O.heap.objs.size X.env))
   (RR (.ref s2.heap.objs.size) O.heap.objs.size) N:=by
  refine ud (fun n s'=>∃ i ys H',Inv (blk X scope (cellsFrom (O.heap.objs.size+1) scope.names cls) O.heap.objs.size fp O H3) [] (clr J) H' s'/\tn i s'.heap/\(∀ b∈fp,H' b=none)/\W i n ys H') ?_ m0 ⟨0,[],H3,I4,L,fn4,w0⟩;rintro n s5 ⟨i,ys,H5,I5,K,V,w5⟩;obtain⟨hl5,tr⟩:=turn i n ys H5 w5
  rcases tr with⟨stop,qn⟩ | ⟨go,step⟩
  ·refine thn (T.done (blk X scope (cellsFrom (O.heap.objs.size+1) scope.names cls) O.heap.objs.size fp O H3) rfl rfl rfl (hc _ _ _ Z) i [] s5 (clr J) H5 (fun _ _=>False) I5 (Y I5 V) K stop) fun r s6 ⟨hr,I6⟩=>?_;subst hr;exact fin I6 qn
  ·refine thn (T.item (blk X scope (cellsFrom (O.heap.objs.size+1) scope.names cls) O.heap.objs.size fp O H3) rfl rfl rfl (hc _ _ _ Z) i [] s5 (clr J) H5 (fun _ _=>False) I5 (Y I5 V) K go) fun r s6 ⟨u,hr,h6⟩=>?_;subst hr;refine thn h6 fun _ s7 ⟨x,H7,I7,r7,y7,F,fr7⟩=>?_;have I7':=I7.pinned (Y I7 fr7) (T.obj _ _ F)
   have back:∀ {U:St} {H':Hp} {s':Shared},Inv (blk X scope (cellsFrom (O.heap.objs.size+1) scope.names cls) O.heap.objs.size fp O H3) ([]++jo fp s7.heap) U H' s'->(clr J).length=U.length->(∀ (i:Nat) v,(clr J)[i]?=some (some v)->U[i]?=some (some v))->(∃ m E,m<n/\W (i+1) m E H') ->
     ∃ m,m<n/\∃ i ys H',Inv (blk X scope (cellsFrom (O.heap.objs.size+1) scope.names cls) O.heap.objs.size fp O H3) [] (clr J) H' s'/\tn i s'.heap/\(∀ b∈fp,H' b=none)/\W i m ys H':=fun {U H' s'} Qa el ew hw=>by
    obtain⟨m,E,hm,w8⟩:=hw;refine#[m,hm,i+1,E,H',Qa.iR.weak el ew,T.keep _ _ _ F fun b hb o e=>(Qa.pin (b,o) (Js _ (Js _ (fV hb e)))).1,fun b hb=>?_,w8];obtain⟨o,e,d⟩:=T.obj _ _ F b hb;exact(Qa.pin (b,o) (Js _ (Js _ (fV hb e)))).2.1
   refine thn (B.htg _ O.heap.objs.size fp O H3 _ s7 (clr J) H7 x u _ I7' r7 (B.yB x J H7 _ (step x H7 y7))) fun _ s8 ⟨D,H8,I8,q8,el8,ew8⟩=>?_;refine thn (B.htc _ O.heap.objs.size fp O H3 _ s8 D H8 _ I8 q8) fun ok s9 ⟨H9,I9,q9⟩=>?_
   cases ok with
   |false=>
    have q9:∃ G,G<n/\W (i+1) G ys H9:=q9;obtain⟨G,hm,w9⟩:=q9;exact back I9 el8 ew8 ⟨G,ys,hm,w9⟩
   |true=>
    refine thn (B.hte _ O.heap.objs.size fp O H3 _ s9 D H9 _ I9 q9) fun v s10 ⟨y,H10,I10,r10,R,hz,G,hm,w10⟩=>?_;refine thn (jk (X:=blk X scope (cellsFrom (O.heap.objs.size+1) scope.names cls) O.heap.objs.size fp O H3) _ s10 D H10 (.ref s2.heap.objs.size) [y] (.ref s2.heap.objs.size) [v] (fun _ H'=>H'=upd H10 s2.heap.objs.size (.lst (ys++[y]))) I10 rfl (.cons r10 .nil) ⟨_,ys,y,rfl,rfl,R,hz,rfl⟩) fun _ s11 ⟨_,H11,I11,_,e11⟩=>?_;subst e11;exact back I11 el8 ew8 ⟨G,_,hm,w10⟩
 exact codeAny_compStart_list loop (T.self _ 0 _ _ _ L loop)
def rC{elt tg iter:Expr}{ifs:List Expr}{U:Pos}{Y:TI}{clr:St->St}{g:TG}{tc:TT}{te:TE}{CM:Cx->Prop}(c:∀ {pins:List (Addr × Obj)} {J:St} {H:Hp} {s:Shared} (cls:List (Str × Addr)) (C:Addr) (fp:List Addr),Inv X pins J H s->CM (blk X scope cls C fp s H))(S:fD scope X.env.scope cls X.env.cells)(O:closureFor scope X.env=pure cls)
 (hi:PI' CM X tg iter Y)(B:nt X scope tg ifs elt clr g tc te)(a:∀ x,foldedSetIterable iter X.env x=pure x):PE X (.ListComp elt [⟨tg,iter,ifs,0⟩] scope U) (ig Y clr g tc te):=by
 fin2;refine wpAny_comprehension_free rfl a O S.kind S.loc (mL c S hi B I h ?_);intro l C H' s' Qa hn k j i f d q;obtain⟨m,hn⟩:=hn;exact#[m,hn,fun h' Z=>#[.ref l,H',Qa.turned (fun b o hb e=>(Z.2 b hb).trans e) k (Ne.symm (Ne.symm j)) (.inr i) f d,rfl,q]]
abbrev Dy(i:Nat)(t:TE):TS:=fun D J H=>t J H fun v I=>D.nx (J.set i (some v)) I
def rG(t:X.calm=true)(u:X.N.Nodup)(d:X.N[i]?=some y)(f:X.env.scope.names.lookup y=some .local)
 (S:fD scope X.env.scope cls X.env.cells)(O:closureFor scope X.env=pure cls)
 (hi:PI X tg iter wi)(B:nt X scope tg ifs elt clr g tc te)(hs:∀ x,foldedSetIterable iter X.env x=pure x)
 (Y:swapsWith (.ListComp elt [⟨tg,iter,ifs,0⟩] scope pos) (some (.Name y py)) spos.line X.env=pure true) :
  PS X (.Assign [.Name y py] (.ListComp elt [⟨tg,iter,ifs,0⟩] scope pos) spos) (Dy i (ig wi clr g tc te)):=by
 k_mem
 have back:∀ (l C:Addr) (H':Hp) (s':Shared),Inv X pins J H' s'->(∃ m,s'.heap.Ns C m)->H' C=none->C≠X.env.locals->X.s₀.heap.objs.size<=C->(∀ x c,X.env.cells.lookup x=some c->c≠C)->(∀ p∈X.pn++pins,p.1≠C)->D.nx (J.set i (some (.ref l))) H' ->
   compPost (model X.prog X.w) X.A X.xe (some (assign (.Name y py) X.env)) (fun _ s'=>SP X pins D .next s') (.ref l) C (.ok .next) s':=by
  intro l C H' s' Qa hn G k F j E q;obtain⟨m,hn⟩:=hn;refine wpAny_assign_Name (m9 (v:=.ref l) Qa u d (.inl f) rfl (fun s2 K ⟨a,n,ha⟩=>?_) (.inr f))
  have Z:C≠a:=by
   rcases ha with z | z
   ·rw[z];exact k
   ·exact(j _ _ z).symm
  exact#[m,hn.sameBut n Z,fun h' U=>#[J.set i (some (.ref l)),H',K.turned (fun b o hb e=>(U.2 b hb).trans e) G k (.inr F) j E,q]]
 have core:=mL (pos:=pos) (fun _ _ _ _=>t) S hi B I h back;have whole:=wpAny_comprehension_free (pos:=iter.pos) rfl hs O S.kind S.loc core;rw[exec_Assign_Name_used (hs:=Y)];k_in;apply wpAny_standAt;k_in;k_in;refine thn whole fun _ s' r=>?_;apply Jc;apply Jc;exact r
end
end L2
namespace RS
open PySem PySem.Spec PyProof.Rows L2
def eO{α:Type}{l:List α}{i:Nat}{x y:α}(e:(l.set i x)[i]?=some y):i<l.length:=by
 have:=(List.getElem?_eq_some_iff.mp e).1;simpa using this
def iK:∀ (names:List (Str × NameKind)) (I:List (Str × Addr)),(∀ x,(x,NameKind.free)∈names->∃ c,env.cells.lookup x=some c)->(∀ x c,I.lookup x=some c->env.cells.lookup x=some c) ->
  ∃ cls,(forIn names I fun(p:Str × NameKind) cs=>match p with | (name,kind)=>if(kind == NameKind.free)=true then do let c <- cellOf env name;pure (ForInStep.yield ((name,c)::cs))else pure (ForInStep.yield cs):Sem (List (Str × Addr)))=pure cls /\
   (∀ x c,cls.lookup x=some c->env.cells.lookup x=some c)/\(∀ x,(I.lookup x).isSome=true\/(x,NameKind.free)∈names->∃ c,cls.lookup x=some c)
 | [],I,_,ha=>⟨I,rfl,ha,fun x O=>by
   rcases O with h | h
   ·exact Option.isSome_iff_exists.mp h
   ·simp at h⟩
 | (n,k)::r,I,hn,ha=>by
  by_cases hk:k=.free
  ·subst hk;obtain⟨c,d⟩:=hn n JA
   have Y:∀ x c',((n,c)::I).lookup x=some c'->env.cells.lookup x=some c':=fun x c' e=>by
    rw[Jn]at e
    cases O:x == n with
    |true=>
     rw[O]at e;cases e;rw[show x=n by simpa using O];exact d
    |false=>
     rw[O]at e;exact ha x c' e
   obtain⟨cls,b,a,Z⟩:=iK r ((n,c)::I) (fun x O=>hn x (Jm _ O)) Y;refine#[cls,?_,a,fun x O=>Z x ?_]
   ·rw[List.forIn_cons]
    have U:cellOf env n=pure c:=by unfold cellOf;rw[d]
    simp only[beq_self_eq_true,if_true,U];exact b
   ·rcases O with h | h
    ·left;rw[Jn];split<;>simp_all
    ·rcases List.mem_cons.mp h with e | e
     ·cases e;left;simp[]
     ·exact .inr e
  ·obtain⟨cls,b,a,Z⟩:=iK r I (fun x O=>hn x (Jm _ O)) ha;refine#[cls,?_,a,fun x O=>Z x ?_]
   ·rw[List.forIn_cons]
    have:(k == NameKind.free)=false:=by simpa using hk
    simp only[this,false_eq_true,if_false];exact b
   ·rcases O with h | h
    ·exact .inl h
    ·rcases List.mem_cons.mp h with e | e
     ·cases e;exact absurd rfl hk
     ·exact .inr e
def sF(h:∀ x,(x,NameKind.free)∈scope.names->∃ c,env.cells.lookup x=some c) :
  ∃ cls,closureFor scope env=pure cls/\(∀ x c,cls.lookup x=some c->env.cells.lookup x=some c)/\(∀ x,scope.names.lookup x=some .free->∃ c,cls.lookup x=some c):=by
 obtain⟨cls,I,Y,U⟩:=iK scope.names [] h (fun x c e=>by simp at e);refine#[cls,?_,Y,fun x O=>U x (.inr (PySem.mem_of_lookup O))];unfold closureFor;simp only[bind_pure_comp]at I ⊢;rw[I];rfl
section
abbrev lH(K:W.Frag)(n:Nat)(t:TGs):TG:=fun v J H Q=>∃ a xs,v=.ref a/\SqL K H a xs/\xs.length=n/\t xs J H Q
end
section
def qb(h:PG X tgE t)(h':PG X tgE t'):PG X tgE (fun v J H Q=>t v J H Q\/t' v J H Q):=by
 intro pins s J H v u Q I r O;rcases O with q | q
 ·exact h pins s J H v u Q I r q
 ·exact h' pins s J H v u Q I r q
end
abbrev gs:List Nat->TGs
 | []=>Bl
 | i::r=>yd (fR i) (gs r)
abbrev gT(K:W.Frag):List Nat->TG
 | [i]=>fR i
 | is=>fun v J H Q=>l9 K is.length (gs is) v J H Q\/lH K is.length (gs is) v J H Q
abbrev dk:List Nat->List V->L2.St->L2.St
 | i::is,v::vs,J=>dk is vs (J.set i (some v))
 | _,_,J=>J
abbrev lO:List Nat->List RL.D->RL.St->RL.St
 | i::is,d::ds,J=>lO is ds (J.set i (some d))
 | _,_,J=>J
def gL:∀ {is:List Nat} {ds:List RL.D} {J I:RL.St},RL.cB is ds J=some I->is.length=ds.length/\I=lO is ds J
 | [],[],J,I,h=>by cases h;exact#[rfl,rfl]
 | [],d::ds,J,I,h=>by cases h
 | i::is,[],J,I,h=>by cases h
 | i::is,d::ds,J,I,h=>by
  obtain⟨U,O⟩:=gL (J:=J.set i (some d)) h;exact#[by simp[U],O]
def hJ:∀ {is:List Nat} {vs:List V} {J:L2.St} {H:Hp} {Q:L2.St->Hp->Prop},is.length=vs.length->Q (dk is vs J) H->gs is vs J H Q
 | [],[],J,H,Q,_,q=>#[rfl,q]
 | [],_::_,_,_,_,h,_=>by simp at h
 | _::_,[],_,_,_,h,_=>by simp at h
 | i::is,v::vs,J,H,Q,h,q=>#[v,vs,rfl,hJ (by simpa using h) q]
def sV{K:W.Frag}(h:RL.bP tg d Qb=some Qi)(r:Rep nP K H d v) :
  ∃ ds vs,Qi=lO tg ds Qb/\tg.length=ds.length/\ai nP K H ds vs/\(d.imm=true->RL.aF ds=true)/\∀ (J:L2.St) (Q:L2.St->Hp->Prop),Q (dk tg vs J) H->gT K tg v J H Q:=by
 unfold RL.bP at h;split at h
 ·rename_i i;cases h;exact#[[d],[v],rfl,rfl,ai.cons r ai.nil,fun z=>by simp[RL.aF,z],fun J Q q=>q]
 ·rename_i U
  have key:gT K tg=fun v J H Q=>l9 K tg.length (gs tg) v J H Q\/lH K tg.length (gs tg) v J H Q:=by
   unfold gT;split
   ·rename_i i;exact absurd rfl (U i)
   ·rfl
  rw[key];split at h
  ·rename_i ds;obtain⟨I,Y⟩:=gL h;obtain⟨p,xs,rfl,Z,O⟩:=bu r;exact#[ds,xs,Y,I,O,fun z=>by rw[RL.D.imm]at z;exact z,fun J Q q=>.inl #[p,xs,rfl,SqT.of Z,by rw[<-O.length,I],hJ (I.trans O.length) q]]
  ·rename_i ds;obtain⟨I,Y⟩:=gL h;obtain⟨p,xs,rfl,_,Z,O⟩:=bc r;exact⟨ds,xs,Y,I,O,fun z=>(by cases z),fun J Q q=>.inr #[p,xs,rfl,SqL.of Z,by rw[<-O.length,I],hJ (I.trans O.length) q]⟩
  ·cases h
def pG:∀ (is:List Nat) (vs:List V) (J:L2.St),(dk is vs J).length=J.length
 | [],_,_=>rfl
 | _::_,[],_=>rfl
 | i::is,v::vs,J=>by rw[dk,pG is vs,List.length_set]
def lP:∀ (is:List Nat) (vs:List V) (J:L2.St) (j:Nat),is.contains j=false->(dk is vs J)[j]?=J[j]?
 | [],_,_,_,_=>rfl
 | _::_,[],_,_,_=>rfl
 | i::is,v::vs,J,j,h=>by
  rw[contains_cons,Bool.or_eq_false_iff]at h;rw[dk,lP is vs _ j h.2,Jg (by intro e;subst e;simp at h)]
abbrev RVx(T:List Nat)(K:W.Frag)(I:RL.St)(J:L2.St)(H:Hp):Prop:=I.length<=J.length/\∀ (i:Nat) (d:RL.D),T.contains i=false->I[i]?=some (some d)->∃ v,J[i]?=some (some v)/\Rep nP K H d v
def RVx.set{K:W.Frag}(h:RVx (i::T) K Qb J H)(r:Rep nP K H d v):RVx T K (Qb.set i (some d)) (J.set i (some v)) H:=⟨by simpa using h.1,fun j dj U e=>by
 by_cases O:j=i
 ·subst O;have I:=eO e;rw[Jk I]at e;cases e;exact#[v,by rw[Jk (Ji I h.1)],r]
 ·rw[Jg (Ne.symm O)]at e ⊢
  exact h.2 j dj (by rw[contains_cons,U,Bool.or_false];simpa using O) e⟩
def RVx.cB{K:W.Frag}:∀ {is:List Nat} {ds:List RL.D} {vs:List V} {I:RL.St} {J:L2.St},RVx is K I J H->is.length=ds.length->ai nP K H ds vs->RV0 K (lO is ds I) (dk is vs J) H
 | [],_,_,_,_,h,_,_=>#[h.1,fun i d e=>h.2 i d rfl e]
 | i::is,[],_,_,_,_,hl,_=>by simp at hl
 | i::is,d::ds,vs,I,J,h,hl,r=>by
  obtain⟨v,t,rfl,r1,O⟩:=r;rw[lO,dk];exact RVx.cB (h.set r1) (by simpa using hl) O
def Ct{K:W.Frag}(h:gT K tg v J H Q):∃ vs,tg.length=vs.length/\Q (dk tg vs J) H/\∀ U:L2.St->Hp->Prop,U (dk tg vs J) H->gT K tg v J H U:=by
 have inv:∀ (is:List Nat) (xs:List V) (J:L2.St) (Q:L2.St->Hp->Prop),gs is xs J H Q->is.length=xs.length/\Q (dk is xs J) H:=by
  intro is
  induction is with
  | nil=>intro xs J Q h;obtain⟨rfl,q⟩:=h;exact#[rfl,q]
  |cons i r d=>
   intro xs J Q h;obtain⟨v,t,rfl,q⟩:=h;obtain⟨I,O⟩:=d t _ Q q;exact#[by simp[I],O]
 unfold gT at h;split at h
 ·rename_i i;exact#[[v],rfl,h,fun U q=>q]
 ·rename_i Z
  have key:gT K tg=fun v J H Q=>l9 K tg.length (gs tg) v J H Q\/lH K tg.length (gs tg) v J H Q:=by
   unfold gT;split
   ·rename_i i;exact absurd rfl (Z i)
   ·rfl
  rw[key]
  rcases h with⟨a,xs,rfl,Y,b,c⟩ | ⟨a,xs,rfl,Y,b,c⟩
  ·obtain⟨I,O⟩:=inv _ _ _ _ c;exact#[xs,I,O,fun U q=>.inl #[a,xs,rfl,Y,b,hJ I q]]
  ·obtain⟨I,O⟩:=inv _ _ _ _ c;exact#[xs,I,O,fun U q=>.inr #[a,xs,rfl,Y,b,hJ I q]]
abbrev fP(tg:List Nat)(J:L2.St):L2.St:=J.mapIdx fun i o=>if tg.contains i then none else o
def qd(tg:List Nat)(J:L2.St):(fP tg J).length=J.length:=by simp[fP]
def qw(h:tg.contains i=false):(fP tg J)[i]?=J[i]?:=by
 unfold fP;rw[List.getElem?_mapIdx]
 cases J[i]? with
 | none=>rfl
 | some o=>simp only[Option.map_some,h,false_eq_true,if_false]
def qW(h:tg.contains i=true):(fP tg J)[i]?≠some (some v):=by
 unfold fP;rw[List.getElem?_mapIdx]
 cases J[i]? with
 | none=>simp
 | some o=>simp only[ h];intro z;cases z
section comp
variable{X:Cx}
structure iB(X:Cx)(cl:RL.Cl)(scope:Scope)(tgE:Expr)(tg:List Nat)(elt:Expr)(e':RL.E)(tcs:TT)(ifs:List Expr):Prop where
 htg:∀ cls C fp s H,PG (blk X scope cls C fp s H) tgE (gT X.K tg)
 htc:∀ cls C fp s H pins s' J H' Q,Inv (blk X scope cls C fp s H) pins J H' s'->tcs J H' Q->wpAny (model X.prog X.w) X.A (gu ifs (compEnvC scope cls C X.env)) (TP (blk X scope cls C fp s H) pins J Q) (fun _ _=>False) s'
 hte:∀ cls C fp s H,SE (blk X scope cls C fp s H) cl elt e'
 cover:∀ (i:Nat) (x:Str),X.N[i]?=some x->scope.names.lookup x=some .local\/scope.names.lookup x=some .cell->tg.contains i=true
def iB.blk{tcs:TT}(B:iB X cl scope tgE tg elt e' tcs ifs):nt X scope tgE ifs elt (fP tg) (gT X.K tg) tcs (tE X.K cl e') where
 htg:=B.htg
 htc:=B.htc
 hte:=B.hte
 B2:=fun J Z=>⟨qd tg J,fun i x v U O=>by
  by_cases I:tg.contains i=true
  ·exact absurd O (qW I)
  ·simp only[not_eq_true]at I;rw[qw I]at O;refine#[O,fun z=>?_,fun z=>?_]
   ·rw[B.cover i x U (.inl z)]at I;cases I
   ·rw[B.cover i x U (.inr z)]at I
    cases I⟩
 yB:=fun x J H Q h=>by
  obtain⟨vs,U,O,Y⟩:=Ct h;refine Y _ ⟨O,(pG _ _ _).symm,fun i v e=>?_⟩;by_cases I:tg.contains i=true
  ·exact absurd e (qW I)
  ·simp only[not_eq_true]at I;rw[lP _ _ _ _ I];exact e
def vA(h:RL.de f tg J (d::r)=some ys):∃ I y O,RL.bP tg d J=some I/\f I=some y/\RL.de f tg J r=some O/\RL.lQ y O=some ys:=by
 obtain⟨I,Z,h⟩:=bind_some h;obtain⟨y,Y,h⟩:=bind_some h;obtain⟨O,U,h⟩:=bind_some h;exact#[I,y,O,Z,Y,U,h]
def rD(S:RV0 X.K Qb J H)(ei:RL.cm cl Qb it=some ds)(hz:ds.length<=RL.most)(hm:RL.de f tg Qb ds=some total)
 (ht:∀ I h H y (Q:Bool->Hp->Prop),RV0 X.K I h H->f I=some y->(∀ k H',aD H H'->(if k=true then ∃ d,y=some d/\RL.ev cl I e'=some d else y=none)->Q k H')->tcs h H Q)
 (k:∀ l H',aD H H'->H l=none->(∃ xs,H' l=some (.lst xs)/\ai nP X.K H' total xs)->Q (.ref l) H'):ig (tI X.K cl it) (fP tg) (gT X.K tg) tcs (tE X.K cl e') J H Q:=by
 refine#[Qb,ds,S,ei,fun Qa H1 s1 E l N=>?_];obtain⟨ok,_⟩:=E
 refine⟨fun i m xs H2=>∃ O rest,m=ds.length-i/\i<=ds.length/\aD H1 H2/\H2 l=some (.lst xs)/\ai (fun p=>p=l) X.K H2 O xs/\RL.de f tg Qb (ds.drop i)=some rest/\O++rest=total/\O.length<=i,
  ⟨_,[],total,rfl,zero_le _,aD.cI N,aG,ai.nil,hm,rfl,Je _⟩,?_⟩
 rintro i m xs H2 ⟨O,rest,rfl,hi,s2,g,G,D,U,R⟩;refine#[g,?_];have off:Off nP H1 H2:=Off.same s2;by_cases Y:i<ds.length
 ·refine .inr #[ok.go H2 i off Y,fun x B y=>?_]
  have hd:ds[i]?=some ds[i]:=by simp[Y]
  obtain⟨q,L⟩:=ok.yld H2 i ds[i] x B off hd y;have L:=L (.inr s2);rw[List.drop_eq_getElem_cons Y]at D;obtain⟨I,y1,Z,h1,h2,T,a⟩:=vA D;obtain⟨dv,vs,e1,e2,e3,_,e5⟩:=sV h1 L;refine e5 _ _ ?_;have r:RV0 X.K Qb J B:=S.same ((s1.trans s2).trans q)
  have F:RVx tg X.K Qb (fP tg J) B:=#[by rw[qd];exact r.1,fun j d hT e=>by rw[qw hT];exact r.2 j d e]
  have s:RV0 X.K I (dk tg vs (fP tg J)) B:=by rw[e1];exact F.cB e2 e3
  refine ht I _ B y1 _ s h2 fun t V n C=>?_;have c:V l=some (.lst xs):=n _ _ (q _ _ g);have u:ai (fun p=>p=l) X.K V O xs:=(G.same q).same n
  cases t with
  |true=>
   obtain⟨d,rfl,hv⟩:=(show ∃ d,y1=some d/\RL.ev cl I e'=some d from C)
   have A:d.imm=true/\rest=d::Z:=by
    unfold RL.lQ at a;dsimp only at a;split at a
    ·rename_i hh;cases a;exact#[hh,rfl]
    ·cases a
   refine fQ ⟨I,d,s.same n,hv,fun v H6 w=>#[w.same _ _ c,?_,ds.length-(i+1),by lia,O++[d],Z,rfl,Y,?_,aG,?_,T,?_,?_]⟩
   ·rw[<-G.length];exact Ji (Jv R (Ji Y hz)) (le_of_lt ∅)
   ·intro b o e;have hb:b≠l:=aJ e N;rw[ax hb];exact w.same _ _ (n _ _ (q _ _ (s2 _ _ e)))
   ·exact ai.upd (P:=fun p=>p=l) (w.same _ _ c) (.inl #[_,rfl]) rfl (ai.append (u.same w.same) (ai.cons (w.rep.imm A.1) ai.nil))
   ·rw[<-U,A.2,List.append_assoc];rfl
   ·rw[length_append,List.length_singleton];lia
  |false=>
   have C:y1=none:=C;subst C
   have M:rest=Z:=by
    unfold RL.lQ at a;dsimp only at a;cases a;rfl
   refine gE ⟨ds.length-(i+1),by lia,O,Z,rfl,Y,(s2.trans q).trans n,c,u,T,by rw[<-U,M],by lia⟩
 ·have e:i=ds.length:=by lia
  subst e;refine .inl #[ok.stop H2 off,k l H2 (s1.trans s2) (s1.free N) #[xs,g,?_]];rw[drop_length,RL.de]at D;cases D;rw[Ju]at U;rw[<-U];exact ai.weak (fun _ z=>z.elim) G
end comp
section comp
variable{X:Cx}
structure lx(scope sc:Scope):Prop where
 kind:scope.kind=.function
 own:∀ x∈scope.names,x.2=.cell->scope.names.lookup x.1=some .cell
 loc:∀ x∈scope.names,x.2=.local->scope.names.lookup x.1=some .local
 vis:∀ x∈scope.names,x.2=.free->sc.names.lookup x.1=some .cell\/sc.names.lookup x.1=some .free
def fW(S:lx scope X.env.scope)(I:Inv X pins J H s):∃ cls,closureFor scope X.env=pure cls/\fD scope X.env.scope cls X.env.cells:=by
 obtain⟨cls,Z,Y,U⟩:=sF fun x O=>I.ok.has x (S.vis _ O rfl);exact#[cls,Z,S.kind,S.own,S.loc,Y,U,fun x O=>S.vis _ (PySem.mem_of_lookup O) rfl]
def qf(sm:aD H H')(O:H l=none)(h:∃ xs,H' l=some (.lst xs)/\ai nP X.K H' total xs)(I:∀ M,RL.avE M e=false):Res X.K Qb J H e (.lst total) (.ref l) H' where
 same:=sm
 rep:=by
  obtain⟨xs,Y,U⟩:=h;exact#[l,xs,rfl,fun z=>z,Y,U]
 fresh:=fun _ _ a z=>by cases z;exact O
 av:=fun M z=>by rw[I M]at z;cases z
abbrev la:TT:=fun _ H Q=>Q true H
def pN(h:tE X.K cl (.compA e' tg it) J H Q):ig (tI X.K cl it) (fP tg) (gT X.K tg) la (tE X.K cl e') J H Q:=by
 obtain⟨U,d,a,e,k⟩:=h;obtain⟨ds,o,e⟩:=bind_some e;obtain⟨p,I,e⟩:=bind_some e;obtain⟨total,n,m⟩:=map_some e;unfold RL.fits at I;split at I
 ·rename_i b;cases I;subst m;refine rD a o b n (fun Y O H y Q Z c q=>?_) fun l H' sm g f=>k _ _ (qf sm g f fun _=>rfl);obtain⟨d,j,i⟩:=map_some c;exact q true H (aD.refl H) (fQ ⟨d,i.symm,j⟩)
 ·cases I
def pY(h:tE X.K cl (.comp e' tg it c') J H Q):ig (tI X.K cl it) (fP tg) (gT X.K tg) (tT X.K cl c') (tE X.K cl e') J H Q:=by
 obtain⟨a,d,b,e,k⟩:=h;obtain⟨ds,r,e⟩:=bind_some e;obtain⟨s,O,e⟩:=bind_some e;obtain⟨total,p,o⟩:=map_some e;unfold RL.fits at O;split at O
 ·rename_i c;cases O;subst o;refine rD b r c p (fun I Z H y Q U f q=>?_) fun l H' sm i g=>k _ _ (qf sm i g fun _=>rfl);obtain⟨t,n,Y⟩:=bind_some f;refine#[I,t,U,n,fun H' sm=>q t H' sm ?_]
  cases t with
  |true=>
   obtain⟨d,m,j⟩:=map_some (show(RL.ev cl I e').map some=some y from Y);exact fQ ⟨d,j.symm,m⟩
  |false=>
   cases(show(some none:Option (Option RL.D))=some y from Y);exact gE rfl
 ·cases O
def wk(U:X.calm=true)(S:lx scope X.env.scope)(hi:SI X cl tgE iter it)(B:iB X cl scope tgE tg elt e' la [])(O:∀ x,foldedSetIterable iter X.env x=pure x):SE X cl (.ListComp elt [⟨tgE,iter,[],0⟩] scope pos) (.compA e' tg it):=by
 fin2;obtain⟨cls,Z,Y⟩:=fW S I;exact rC (fun _ _ _ _=>U) Y Z hi B.blk O pins s J H Q I (pN h)
def oq(U:∀ {pins:List (Addr × Obj)} {J:L2.St} {H:Hp} {s:Shared} (cls:List (Str × Addr)) (C:Addr) (fp:List Addr),Inv X pins J H s->CM (blk X scope cls C fp s H))(S:lx scope X.env.scope)(hi:PI' CM X tgE iter (tI X.K cl it))(B:iB X cl scope tgE tg elt e' (tT X.K cl c') [c])(O:∀ x,foldedSetIterable iter X.env x=pure x):SE X cl (.ListComp elt [⟨tgE,iter,[c],0⟩] scope pos) (.comp e' tg it c'):=by
 fin2;obtain⟨cls,Z,Y⟩:=fW S I;exact rC U Y Z hi B.blk O pins s J H Q I (pY h)
abbrev SA(X:Cx)(cl:RL.Cl)(st:Stmt)(i:Nat)(e':RL.E):Prop:=PS X st (fun D J H=>tE X.K cl e' J H fun v I=>D.nx (J.set i (some v)) I)
def PS.weak{st:Stmt}(h:PS X st t)(w:∀ D J H,t' D J H->t D J H):PS X st t':=fun pins s J H D I q=>h pins s J H D I (w D J H q)
def PSs.weak{st:List Stmt}(h:PSs X st t)(w:∀ D J H,t' D J H->t D J H):PSs X st t':=fun pins s J H D I q=>h pins s J H D I (w D J H q)
def wC(a:X.calm=true)(b:X.N.Nodup)(U:X.N[i]?=some y)(Y:X.env.scope.names.lookup y=some .local)(S:lx scope X.env.scope)(hi:SI X cl tgE iter it)(B:iB X cl scope tgE tg elt e' la [])(Z:∀ x,foldedSetIterable iter X.env x=pure x)
 (O:swapsWith (.ListComp elt [⟨tgE,iter,[],0⟩] scope pos) (some (.Name y py)) spos.line X.env=pure true):SA X cl (.Assign [.Name y py] (.ListComp elt [⟨tgE,iter,[],0⟩] scope pos) spos) i (.compA e' tg it):=by
 k_mem;obtain⟨cls,d,c⟩:=fW S I;exact rG a b U Y c d hi B.blk Z O pins s J H D I (pN h)
def wU(a:X.calm=true)(b:X.N.Nodup)(U:X.N[i]?=some y)(Y:X.env.scope.names.lookup y=some .local)(S:lx scope X.env.scope)(hi:SI X cl tgE iter it)(B:iB X cl scope tgE tg elt e' (tT X.K cl c') [c])(Z:∀ x,foldedSetIterable iter X.env x=pure x)
 (O:swapsWith (.ListComp elt [⟨tgE,iter,[c],0⟩] scope pos) (some (.Name y py)) spos.line X.env=pure true):SA X cl (.Assign [.Name y py] (.ListComp elt [⟨tgE,iter,[c],0⟩] scope pos) spos) i (.comp e' tg it c'):=by
 k_mem;obtain⟨cls,e,d⟩:=fW S I;exact rG a b U Y d e hi B.blk Z O pins s J H D I (pY h)
def wa(a:X.N.Nodup)(I:X.N[i]?=some y)(O:Loc X.env.scope y)(Z:SE X cl e e')(hf:X.fn y=true\/X.env.scope.names.lookup y=some .local)(U:swapsWith e (some (.Name y py)) spos.line X.env=pure false)(Y:True):SA X cl (.Assign [.Name y py] e spos) i e':=by
 exact j1 a I O Z U hf
end comp
abbrev bI(M:List Nat)(J:L2.St):Addr->Prop:=fun a=>∃ i,M.contains i=true/\J[i]?=some (some (.ref a))
abbrev Own(K:W.Frag)(H:Hp)(d:RL.D)(v:V):Prop:=iY d=true/\RL.aS d=true/\Rep nP K H d v
structure RVm(K:W.Frag)(M:List Nat)(Qb:RL.St)(J:L2.St)(H:Hp):Prop where
 len:Qb.length=J.length
 val:∀ (i:Nat) (d:RL.D),Qb[i]?=some (some d)->∃ v,J[i]?=some (some v)/\(if M.contains i=true then Own K H d v else Rep (bI M J) K H d v)
 non:∀ (i:Nat) (v:V),J[i]?=some (some v)->∃ d,Qb[i]?=some (some d)
 sep:∀ (i j:Nat) (a:Addr),M.contains i=true->M.contains j=true->J[i]?=some (some (.ref a))->J[j]?=some (some (.ref a))->i=j
abbrev Fr'(M:List Nat)(J:L2.St)(H:Hp)(I:L2.St)(H':Hp):Prop:=(∀ b o,H b=some o->¬ bI M J b->H' b=some o/\¬ bI M I b)/\∀ j,2<=M.count j->I[j]?=J[j]?
def Fr'.trans(a:Fr' M J H Qd H1)(b:Fr' M Qd H1 Qe H2):Fr' M J H Qe H2:=#[fun c o e n=>b.1 c o (a.1 c o e n).1 (a.1 c o e n).2,fun j I=>(b.2 j I).trans (a.2 j I)]
def Fr'.same(s:aD H H1):Fr' M J H J H1:=#[fun c o e n=>#[s _ _ e,n],fun _ _=>rfl]
def i4{M:List Nat}(h:2<=M.count j):M.contains j=true:=by
 have:0<M.count j:=by lia
 simpa using List.count_pos_iff.mp this
section st
variable{K:W.Frag}
def Own.ref(h:Own K H d v):∃ a o,v=.ref a/\H a=some o/\df o:=by
 obtain⟨m,_,r⟩:=h
 cases d with
 | lst ds=>obtain⟨a,xs,O,_,I,_⟩:=bc r;exact#[a,_,O,I,.inl #[_,rfl]]
 | dK ks ds=>rw[Rep]at r;obtain⟨a,xs,O,_,I,_⟩:=r;exact#[a,_,O,I,.inr (.inl #[_,rfl])]
 | dT ks ds=>rw[Rep]at r;obtain⟨a,xs,O,_,I,_⟩:=r;exact#[a,_,O,I,.inr (.inr #[_,rfl])]
 | _=>cases m
def RVm.rv0(h:RVm K M Qb J H):RV0 K Qb J H:=⟨le_of_eq h.len,fun i d e=>by
 obtain⟨v,O,I⟩:=h.val i d e;refine#[v,O,?_];by_cases hm:M.contains i=true
 ·rw[if_pos hm]at I;exact I.2.2
 ·rw[if_neg hm]at I
  exact I.none⟩
def RVm.vS(h:RVm K M Qb J H):∀ a,bI M J a->∃ o,H a=some o/\df o:=fun a ⟨i,hi,e⟩=>by
 obtain⟨d,hd⟩:=h.non i _ e;obtain⟨v,O,I⟩:=h.val i d hd;rw[if_pos hi]at I;obtain⟨b,o,Z,Y,U⟩:=I.ref;rw[e]at O;cases O;cases Z;exact#[o,Y,U]
def RVm.oJ(h:RVm K M Qb J H):∀ a,bI M J a->H a≠none:=fun a p=>by
 obtain⟨o,e,_⟩:=h.vS a p;rw[e]
 exact fun z=>nomatch z
def Own.same(h:Own K H d v)(s:aD H H1):Own K H1 d v:=#[h.1,h.2.1,h.2.2.same s]
def RVm.same(h:RVm K M Qb J H)(s:aD H H1):RVm K M Qb J H1:=⟨h.len,fun i d e=>by
 obtain⟨v,O,I⟩:=h.val i d e;refine#[v,O,?_];by_cases hm:M.contains i=true
 ·rw[if_pos hm]at I ⊢;exact I.same s
 ·rw[if_neg hm]at I ⊢
  exact I.same s,h.non,h.sep⟩
def bI.set(hi:M.contains i=false):bI M (J.set i (some v))=bI M J:=by
 funext a;apply propext;constructor
 ·rintro⟨j,O,e⟩
  have I:i≠j:=fun z=>by subst z;rw[hi]at O;cases O
  rw[Jg I]at e;exact#[j,O,e]
 ·rintro⟨j,O,e⟩
  have I:i≠j:=fun z=>by subst z;rw[hi]at O;cases O
  exact#[j,O,by rw[Jg I];exact e]
def RVm.bind(h:RVm K M Qb J H)(hi:M.contains i=false)(r:Rep (bI M J) K H d v):RVm K M (Qb.set i (some d)) (J.set i (some v)) H where
 len:=by simpa using h.len
 val:=fun j dj e=>by
  rw[bI.set hi];by_cases O:j=i
  ·subst O;have I:=eO e;rw[Jk I]at e;cases e;refine#[v,by rw[Jk (by rw[<-h.len];exact I)],?_];rw[if_neg (by rw[hi];decide)];exact r
  ·rw[Jg (Ne.symm O)]at e ⊢;exact h.val j dj e
 non:=fun j w e=>by
  by_cases O:j=i
  ·subst O;have I:=eO e;exact#[d,by rw[Jk (by rw[h.len];exact I)]]
  ·rw[Jg (Ne.symm O)]at e ⊢;exact h.non j w e
 sep:=fun j k a O hk Y U=>by
  have b:i≠j:=fun z=>by subst z;rw[hi]at O;cases O
  have Z:i≠k:=fun z=>by subst z;rw[hi]at hk;cases hk
  rw[Jg b]at Y;rw[Jg Z]at U;exact h.sep j k a O hk Y U
def Fr'.bind{i:Nat}(hi:M.contains i=false)(s:aD H H1):Fr' M J H (J.set i (some v)) H1:=⟨fun b o e n=>#[s _ _ e,by rw[bI.set hi];exact n],fun j I=>Jg (fun z=>by subst z;rw[i4 I]at hi;cases hi)⟩
end st
mutual
theorem Rep.dE{P:Addr->Prop}{K:W.Frag}{H:Hp}{a:Addr}(ha:H a=none):∀ {d:RL.D} {v:V},Rep P K H d v->Rep (fun p=>P p\/p=a) K H d v
 | .non,v,h=>by simpa[Rep]using h
 | .bl _,v,h=>by simpa[Rep]using h
 | .int _,v,h=>by simpa[Rep]using h
 | .str _,v,h=>by simpa[Rep]using h
 | .tup ds,v,h=>by
  k_ne;obtain⟨b,xs,U,I,O⟩:=h;exact#[b,xs,U,I,ai.dE ha O]
 | .lst ds,v,h=>by
  k_ne;obtain⟨b,xs,U,Z,I,O⟩:=h;exact#[b,xs,U,fun z=>z.elim Z (fun q=>aJ I ha q),I,ai.dE ha O]
 | .dK ks ds,v,h=>by
  k_ne;obtain⟨b,xs,U,Z,I,Y,O⟩:=h;exact#[b,xs,U,fun z=>z.elim Z (fun q=>aJ I ha q),I,Y,ai.dE ha O]
 | .dT ks ds,v,h=>by
  k_ne;obtain⟨b,xs,U,Z,I,Y,O⟩:=h;exact#[b,xs,U,fun z=>z.elim Z (fun q=>aJ I ha q),I,Y,ai.dE ha O]
 | .scr ds,v,h=>by
  k_ne;obtain⟨b,xs,U,I,O⟩:=h;exact#[b,xs,U,I,ai.dE ha O]
 | .exc c,v,h=>by rw[Rep]at h ⊢;exact h
 | .obj,v,h=>by rw[Rep]at h ⊢;exact h
 | .fT ks ds,v,h=>by rw[Rep]at h ⊢;obtain⟨b,o,xs,U,I,Y,O⟩:=h;exact#[b,o,xs,U,I,Y,ai.dE ha O]
 | .fL ds,v,h=>by rw[Rep]at h ⊢;obtain⟨b,o,xs,U,I,O⟩:=h;exact#[b,o,xs,U,I,ai.dE ha O]
theorem ai.dE{P:Addr->Prop}{K:W.Frag}{H:Hp}{a:Addr}(ha:H a=none):∀ {ds:List RL.D} {xs:List V},ai P K H ds xs->ai (fun p=>P p\/p=a) K H ds xs
 | [],xs,h=>by rw[ai]at h ⊢;exact h
 | d::r,xs,h=>by
  rw[ai]at h ⊢;obtain⟨x,t,U,O,I⟩:=h;exact#[x,t,U,Rep.dE ha O,ai.dE ha I]
end
def Rep.top{K:W.Frag}{P:Addr->Prop}(O:Rep nP K H d v)(Z:RL.aS d=true)(b:iY d=true->∀ a,v=.ref a->¬ P a):Rep P K H d v:=by
 cases d with
 | lst ds=>obtain⟨a,xs,I,e,Y,U⟩:=bc O;rw[Rep];exact#[a,xs,I,b rfl a I,Y,U.imm Z]
 | dK ks ds=>rw[Rep]at O ⊢;obtain⟨a,xs,I,e,Y,c,U⟩:=O;exact#[a,xs,I,b rfl a I,Y,c,U.imm Z]
 | dT ks ds=>rw[Rep]at O ⊢;obtain⟨a,xs,I,e,Y,c,U⟩:=O;exact#[a,xs,I,b rfl a I,Y,c,U.imm Z]
 | _=>cases Z
section st
variable{K:W.Frag}
def RVm.own(h:RVm K M Qb J H)(s:aD H H1)(hi:M.contains i=true)(g:M.count i<2)(ha:H a=none)(r:Own K H1 d (.ref a)):RVm K M (Qb.set i (some d)) (J.set i (some (.ref a))) H1/\Fr' M J H (J.set i (some (.ref a))) H1:=by
 have sub:∀ b,bI M (J.set i (some (.ref a))) b->bI M J b\/b=a:=fun b ⟨j,O,e⟩=>by
  by_cases c:j=i
  ·subst c;have I:=eO e;rw[Jk I]at e;cases e;exact .inr rfl
  ·rw[Jg (Ne.symm c)]at e;exact .inl #[j,O,e]
 have old:∀ b,bI M J b->b≠a:=fun b p z=>h.oJ b p (z▸ha);refine#[#[by simpa using h.len,fun j dj e=>?_,fun j w e=>?_,fun j k b O hk Z Y=>?_],#[fun b o e n=>#[s _ _ e,fun z=>(sub b z).elim n fun q=>aJ e ha q],fun j O=>Jg (fun z=>by subst z;lia)]]
 ·by_cases O:j=i
  ·subst O;have I:=eO e;rw[Jk I]at e;cases e;refine#[.ref a,by rw[Jk (by rw[<-h.len];exact I)],?_];rw[if_pos hi];exact r
  ·rw[Jg (Ne.symm O)]at e ⊢;obtain⟨v,f,U⟩:=h.val j dj e;refine#[v,f,?_];by_cases hm:M.contains j=true
   ·rw[if_pos hm]at U ⊢;exact U.same s
   ·rw[if_neg hm]at U ⊢;exact((U.dE ha).weak sub).same s
 ·by_cases O:j=i
  ·subst O;have I:=eO e;exact#[d,by rw[Jk (by rw[h.len];exact I)]]
  ·rw[Jg (Ne.symm O)]at e ⊢;exact h.non j w e
 ·by_cases f:j=i
  ·by_cases U:k=i
   ·rw[f,U]
   ·subst f;have I:=eO Z;rw[Jk I]at Z;rw[Jg (Ne.symm U)]at Y;cases Z;exact absurd rfl (old _ ⟨k,hk,Y⟩)
  ·rw[Jg (Ne.symm f)]at Z;by_cases U:k=i
   ·subst U;have I:=eO Y;rw[Jk I]at Y;cases Y;exact absurd rfl (old _ ⟨j,O,Z⟩)
   ·rw[Jg (Ne.symm U)]at Y;exact h.sep j k b O hk Z Y
def RVm.BF(h:RVm K M Qb J H)(hi:M.contains i=true)(e:J[i]?=some (some (.ref a)))(ha:H a=some o)(m:df o)(r:Own K (upd H a o') d' (.ref a)):RVm K M (Qb.set i (some d')) J (upd H a o')/\Fr' M J H J (upd H a o'):=by
 have s:bI M J a:=#[i,hi,e]
 refine#[#[by simpa using h.len,fun j dj e'=>?_,fun j w e'=>?_,h.sep],#[fun b u A n=>#[?_,n],fun _ _=>rfl]]
 ·by_cases U:j=i
  ·subst U;have O:=eO e';rw[Jk O]at e';cases e';refine#[.ref a,e,?_];rw[if_pos hi];exact r
  ·rw[Jg (Ne.symm U)]at e';obtain⟨v,t,Z⟩:=h.val j dj e';refine#[v,t,?_];by_cases hm:M.contains j=true
   ·rw[if_pos hm]at Z ⊢;obtain⟨b,ob,rfl,hb,_⟩:=Z.ref
    have I:b≠a:=fun z=>by subst z;exact U (h.sep j i b hm hi t e)
    obtain⟨q,g,Y⟩:=Z;refine#[q,g,?_];have k:∀ {ds:List RL.D} {xs:List V},RL.aF ds=true->ai nP K H ds xs->ai nP K (L2.upd H a o') ds xs:=fun hi r=>(ai.upd (P:=fun p=>p=a) ha m rfl (r.imm hi)).imm hi
    cases dj with
    | lst ds=>obtain⟨y,xs,f,x,d,c⟩:=bc Y;cases f;rw[Rep];exact#[b,xs,rfl,fun z=>z,by rw[L2.ax I];exact d,k g c]
    | dK ks ds=>rw[Rep]at Y ⊢;obtain⟨y,xs,f,x,d,l,c⟩:=Y;cases f;exact#[b,xs,rfl,fun z=>z,by rw[L2.ax I];exact d,l,k g c]
    | dT ks ds=>rw[Rep]at Y ⊢;obtain⟨y,xs,f,x,d,l,c⟩:=Y;cases f;exact#[b,xs,rfl,fun z=>z,by rw[L2.ax I];exact d,l,k g c]
    | _=>cases q
   ·rw[if_neg hm]at Z ⊢;exact Rep.upd ha m s Z
 ·obtain⟨dj,hd⟩:=h.non j w e';by_cases U:j=i
  ·subst U;have O:=(List.getElem?_eq_some_iff.mp hd).1;exact#[d',by rw[Jk O]]
  ·exact#[dj,by rw[Jg (Ne.symm U)];exact hd]
 ·have hb:b≠a:=fun z=>n (z▸s);rw[L2.ax hb];exact A
end st
abbrev kn(K:W.Frag)(M:List Nat)(D:Ends)(J:L2.St)(H:Hp):RL.Out->RL.St->Prop
 | .nx,I=>∀ U H',RVm K M I U H'->Fr' M J H U H'->D.nx U H'
 | .rt d,I=>∀ O Y v H',RVm K M I O Y->Fr' M J H O Y->aD Y H'->(∀ P:Addr->Prop,(∀ p,P p->Y p≠none/\¬ bI M O p)->Rep P K H' d v)->D.rt v H'
def kn.from{K:W.Frag}(h:kn K M D J H r Qf)(f:Fr' M J H I Z):kn K M D I Z r Qf:=by
 cases r with
 | nx=>exact fun Y H2 O U=>h Y H2 O (f.trans U)
 | rt d=>exact fun I Z v H2 O U sm a=>h I Z v H2 O (f.trans U) sm a
abbrev tS(K:W.Frag)(M:List Nat)(f:RL.St->Option (RL.Out × RL.St)):TS:=fun D J H=>∃ O r I,RVm K M O J H/\f O=some (r,I)/\kn K M D J H r I
abbrev SS(X:Cx)(cl:RL.Cl)(M:List Nat)(st:Stmt)(s:RL.S):Prop:=PS X st (tS X.K M (RL.evS cl M s))
abbrev SSs(X:Cx)(cl:RL.Cl)(M:List Nat)(st:List Stmt)(s:RL.Ss):Prop:=PSs X st (tS X.K M (RL.aw cl M s))
section rules
variable{st:Stmt}{i j:Nat}
def zU:SSs X cl M [] .nil:=by
 refine PSs.weak eC fun D J H h=>?_;obtain⟨O,r,I,U,e,k⟩:=h;cases e;exact k J H U (Fr'.same (aD.refl H))
def wO(i:SS X cl M st s)(g:SSs X cl M sts r):SSs X cl M (st::sts) (.cons s r):=by
 refine PSs.weak (bg i g) fun D J H h=>?_;obtain⟨U,o,I,f,e,k⟩:=h;obtain⟨p,j,b⟩:=bind_some e;obtain⟨a,O⟩:=p;refine#[U,a,O,f,j,?_]
 cases a with
 |rt d=>
  cases b;exact k
 |nx=>
  exact fun c H' Y Z=>#[O,o,I,Y,b,k.from Z]
def Cm(h:SA X cl st i e')(hi:M.contains i=false):SS X cl M st (.asg i e'):=by
 refine PS.weak h fun D J H h=>?_;obtain⟨O,o,Y,I,e,k⟩:=h;obtain⟨d,r,U⟩:=bind_some e;split at U
 ·rename_i ok;cases U;refine#[O,d,I.rv0,r,fun v t r1=>k _ _ ?_ (Fr'.bind hi r1.same)];refine(I.same r1.same).bind hi ?_;unfold RL.bz at ok;rw[or_eq_true,or_eq_true,and_eq_true]at ok;rcases ok with(q | ⟨q1,q2⟩) | q
  ·exact r1.rep.imm q
  ·have c:=r1.rep;have n:=fun m a z p=>I.oJ a p (r1.fresh q2 m a z);exact c.top q1 n
  ·refine r1.av M q _ I.oJ fun j dj vj f l g=>?_;obtain⟨s,b,Z⟩:=I.val j dj l;rw[g]at b;cases b;rw[if_neg (by rw[f];decide)]at Z;exact Z
 ·cases U
def BW(h:SA X cl st i e')(hi:M.contains i=true)(O:M.count i<2):SS X cl M st (.own i e'):=by
 refine PS.weak h fun D J H h=>?_;obtain⟨I,o,Y,Z,e,k⟩:=h;obtain⟨d,g,U⟩:=bind_some e;split at U
 ·rename_i ok;cases U;rw[and_eq_true]at ok;refine#[I,d,Z.rv0,g,fun v j r1=>?_]
  have m:iY d=true:=by
   cases d with
   | lst _=>rfl
   | dK _ _=>rfl
   | dT _ _=>rfl
   | _=>cases ok.1
  have b:Own X.K j d v:=#[m,ok.1,r1.rep]
  obtain⟨a,ob,rfl,_,_⟩:=b.ref;obtain⟨f,c⟩:=Z.own r1.same hi O (r1.fresh ok.2 m a rfl) b;exact k _ _ f c
 ·cases U
def Dm{c:Expr}(Z:ST X cl c c')(ha:SSs X cl M a a')(hb:SSs X cl M b b'):SS X cl M (.If c a b pos) (.ife c' a' b'):=by
 refine PS.weak (nv Z ha hb) fun D J H h=>?_;obtain⟨O,o,I,U,e,k⟩:=h;obtain⟨t,d,Y⟩:=bind_some e;refine#[O,t,U.rv0,d,fun f s1=>?_];have k1:=k.from (Fr'.same (J:=J) s1)
 cases t with
 | true=>exact fQ ⟨O,o,I,U.same s1,Y,k1⟩
 | false=>exact gE ⟨O,o,I,U.same s1,Y,k1⟩
def AJ(g:SE X cl e e')(f:∀ i,e'=.var i->M.contains i=false):SS X cl M (.Return (some e) pos) (.ret e'):=by
 refine PS.weak (ky g) fun D J H h=>?_;obtain⟨I,o,U,Y,ev,k⟩:=h;obtain⟨d,n,O⟩:=bind_some ev;split at O
 ·rename_i ok;cases O;refine#[I,d,Y.rv0,n,fun v r r1=>k J H v r Y (Fr'.same (aD.refl H)) r1.same fun P j=>?_];unfold RL.cR at ok;rw[or_eq_true,and_eq_true,or_eq_true]at ok
  rcases ok with q | ⟨c,b⟩
  ·exact r1.rep.imm q
  ·have Z:=r1.rep
   have l:iY d=true->∀ a,v=.ref a->¬ P a:=fun m a z p=>by
    rcases b with q | q
    ·exact(j a p).1 (r1.fresh q m a z)
    ·cases e' with
     |var i=>
      have hi:M.contains i=true:=q;rw[f i rfl]at hi;cases hi
     | _=>cases q
   exact Z.top c l
 ·cases O
def zk(n:X.N[i]?=some x)(l:Vis X.env.scope x)(hd:(x == ("__debug__" : Str))=false)(Y:(x == ("__classdict__" : Str))=false)(hi:M.contains i=true):SS X cl M (.Return (some (.Name x p)) pos) (.ret (.var i)):=by
 refine PS.weak (ky (c9 n l hd Y)) fun D J H h=>?_;obtain⟨U,o,c,f,e,k⟩:=h;obtain⟨d,r,Z⟩:=bind_some e;split at Z
 ·cases Z
  have q:U[i]?=some (some d):=by
   obtain⟨o,O,I⟩:=bind_some r
   cases o with
   | none=>cases I
   | some z=>cases I;exact O
  obtain⟨v,O,I⟩:=f.val i d q;rw[if_pos hi]at I;refine#[v,O,k J H v H f (Fr'.same (aD.refl H)) (aD.refl H) fun P m=>?_];obtain⟨a,o,rfl,_,_⟩:=I.ref;have np:¬ P a:=fun p=>(m a p).2 ⟨i,hi,O⟩;obtain⟨s,j,g⟩:=I
  exact g.top j fun _ b z=>by cases z;exact np
 ·cases Z
def slot_get{I:RL.St}(h:(I[i]?).bind id=some d):I[i]?=some (some d):=by
 obtain⟨o,U,O⟩:=bind_some h
 cases o with
 | none=>cases O
 | some z=>cases O;exact U
def Cc(h:PS X st (kQ (tBM X.K "list" jM (eZ i) (tEs X.K cl %[e'|_]))))(hi:M.contains i=true):SS X cl M st (.app i e'):=by
 refine PS.weak h fun D J H h=>?_;obtain⟨O,o,Z,U,e,k⟩:=h;obtain⟨d,x,w⟩:=bind_some e;obtain⟨l,u,I⟩:=bind_some w
 cases l with
 |lst ds=>
  dsimp only at I;split at I
  ·rename_i ok;cases I;rw[and_eq_true,decide_eq_true_eq]at ok;obtain⟨v,f,c⟩:=U.val i _ (slot_get u);rw[if_pos hi]at c;obtain⟨B,n,m⟩:=c;obtain⟨a,xs,rfl,_,f2,f3⟩:=bc m;refine#[.ref a,f,.inl #[rfl,xs,SqL.of f2],O,[d],U.rv0,by rw[RL.evs,x];rfl,fun vs A s1 r1=>?_];rw[ai]at r1;obtain⟨y,t,rfl,j,b⟩:=r1;rw[ai]at b;subst b
   have s:xs.length<sizeLine:=by rw[<-f3.length];exact Ji ok.2 cL
   refine#[a,xs,y,rfl,rfl,s1 _ _ f2,s,?_]
   have Y:RL.aF (ds++[d])=true:=by
    have:∀ l:List RL.D,RL.aF l=true->RL.aF (l++[d])=true:=fun l=>by
     induction l with
     | nil=>intro _;simp[RL.aF,ok.1]
     | cons z r q=>intro h;rw[RL.aF,and_eq_true]at h;rw[List.cons_append,RL.aF,h.1,q h.2];rfl
    exact this ds n
   have g:ai nP X.K (upd A a (.lst (xs++[y]))) (ds++[d]) (xs++[y]):=(ai.upd (P:=fun p=>p=a) (s1 _ _ f2) (.inl #[_,rfl]) rfl ((ai.append (f3.same s1) (ai.cons j ai.nil)).imm Y)).imm Y;obtain⟨g1,g2⟩:=(U.same s1).BF (d':=.lst (ds++[d])) (o':=.lst (xs++[y])) hi f (s1 _ _ f2) (.inl #[_,rfl]) ⟨rfl,Y,by rw[Rep];exact#[a,_,rfl,fun z=>z,aG,g]⟩;exact k _ _ g1 ((Fr'.same s1).trans g2)
  ·cases I
 | _=>cases I
end rules
def RVm.cB{K:W.Frag}{M:List Nat}{H:Hp}:∀ {tg:List Nat} {ds:List RL.D} {vs:List V} {I:RL.St} {J:L2.St},RVm K M I J H->(∀ i∈tg,M.contains i=false)->tg.length=ds.length->RL.aF ds=true->ai nP K H ds vs ->
  RVm K M (lO tg ds I) (dk tg vs J) H/\bI M (dk tg vs J)=bI M J
 | [],_,_,_,_,h,_,_,_,_=>#[h,rfl]
 | i::is,[],_,_,_,_,_,hl,_,_=>by simp at hl
 | i::is,d::ds,vs,I,J,h,hM,hl,him,r=>by
  obtain⟨v,t,rfl,r1,O⟩:=r;rw[RL.aF,and_eq_true]at him;have hi:=hM i JA;obtain⟨g1,g2⟩:=RVm.cB (h.bind hi (r1.imm him.1)) (fun j U=>hM j (Jm _ U)) (by simpa using hl) him.2 O;exact#[g1,g2.trans (bI.set hi)]
def ka{M tg:List Nat}{vs:List V}{J:L2.St}{j:Nat}(hM:∀ i∈tg,M.contains i=false)(I:2<=M.count j):(dk tg vs J)[j]?=J[j]?:=by
 refine lP tg vs J j ?_
 cases hc:tg.contains j with
 | false=>rfl
 |true=>
  have:=hM j (by simpa using hc);rw[i4 I]at this;cases this
section rules
variable{X:Cx}{cl:RL.Cl}{M:List Nat}{st:Stmt}{tgE iter:Expr}{body:List Stmt}{b:RL.Ss}{it:RL.It}{tg:List Nat}{e' k' a' b':RL.E}{i j:Nat}{pos:Pos}
def su{f:RL.St->Option (RL.Out × RL.St)}{d:RL.D}{ds:List RL.D}{J:RL.St}{p:RL.Out × RL.St}(h:RL.bN f tg (d::ds) J=some p):d.imm=true/\∃ O o I,RL.bP tg d J=some O/\f O=some (o,I) /\
  (match o with | .nx=>RL.bN f tg ds I=some p | .rt d=>p=(.rt d,I)):=by
 rw[RL.bN]at h;split at h
 ·rename_i U;obtain⟨O,Z,h⟩:=bind_some h;obtain⟨⟨o,I⟩,Y,h⟩:=bind_some h;refine#[U,O,o,I,Z,Y,?_]
  cases o with
  | nx=>exact h
  | rt d=>exact(Option.some.inj h).symm
 ·cases h
def BK(hx:X.xe=fun _ _=>False)(hc:X.calm=true)(hi:SI X cl tgE iter it)(hg:PG X tgE (gT X.K tg))(hb:SSs X cl M body b)(hs:∀ x,foldedSetIterable iter X.env x=pure x)(G:RL.ot M it=true)(hM:∀ i∈tg,M.contains i=false) :
  SS X cl M (.For tgE iter body [] pos) (.forr tg it b):=by
 refine PS.weak (uN (by rw[hx];exact PassesOwn.never) hc hi hg hb hs) fun D J H h=>?_;obtain⟨g,r,Z,u,e,k⟩:=h;obtain⟨ds,e1,e2⟩:=bind_some e;refine#[g,ds,u.rv0,e1,fun Qa Q s1 C=>?_]
 have ok:=C.2 M (bI M J) G u.vS fun j dj vj A N L=>by
  obtain⟨v',s,T⟩:=u.val j dj N;rw[L]at s;cases s;rw[if_neg (by rw[A];decide)]at T;exact T
 have k1:=k.from (Fr'.same (J:=J) s1);refine#[fun i m U H2=>∃ I,m=ds.length-i/\i<=ds.length/\RVm X.K M I U H2/\Fr' M J Q U H2/\RL.bN (RL.aw cl M b) tg (ds.drop i) I=some (r,Z),#[_,g,rfl,zero_le _,u.same s1,Fr'.same (aD.refl _),e2],?_];rintro i m U H2 ⟨I,rfl,hi2,p,Y,w⟩;have off:=fun b o n e=>(Y.1 b o e n).1;by_cases c:i<ds.length
 ·refine .inr #[ok.go H2 i off c,fun O H'=>∃ S,S<ds.length-i/\∃ I,S=ds.length-(i+1)/\i+1<=ds.length/\RVm X.K M I O H'/\Fr' M J Q O H'/\RL.bN (RL.aw cl M b) tg (ds.drop (i+1)) I=some (r,Z),fun O H' z=>z,fun x V y=>?_];rw[List.drop_eq_getElem_cons c]at w;obtain⟨q,B,o,l,N,L,s⟩:=su w;obtain⟨R,F⟩:=ok.yld H2 i ds[i] x V off (by simp[]) y;obtain⟨dv,vs,q1,q2,q3,q4,q5⟩:=sV N (F (.inl q));refine q5 _ _ ?_;obtain⟨E,P⟩:=(p.same R).cB hM q2 (q4 q) q3
  have t:Fr' M J Q (dk tg vs U) V:=#[fun b o e n=>#[R _ _ (Y.1 b o e n).1,by rw[P];exact(Y.1 b o e n).2],fun j A=>(ka hM A).trans (Y.2 j A)]
  refine#[B,o,l,by rw[q1];exact E,L,?_]
  cases o with
  | nx=>exact fun O H' a f=>#[_,by lia,l,rfl,c,a,t.trans f,s]
  |rt d=>
   cases s;exact fun O H' v H4 a f sm F=>k1 O H' v H4 a (t.trans f) sm F
 ·have e:i=ds.length:=by lia
  subst e;rw[drop_length,RL.bN]at w;cases w;exact .inl #[ok.stop H2 off,k1 U H2 p Y]
def AN(h:PS X st (sr i j (tEs X.K cl %[a',b'|_])))(hi:M.contains i=false)(b:M.contains j=false):SS X cl M st (.par i j a' b'):=by
 refine PS.weak h fun D J H h=>?_;obtain⟨O,o,U,Y,e,k⟩:=h;obtain⟨x,g,e⟩:=bind_some e;obtain⟨y,f,e⟩:=bind_some e;split at e
 ·rename_i I;cases e;rw[and_eq_true]at I;refine#[O,[x,y],Y.rv0,by rw[RL.evs,g,RL.evs,f];rfl,fun vs l s1 r1=>?_];rw[ai]at r1;obtain⟨v,t,rfl,d,a⟩:=r1;rw[ai]at a;obtain⟨u,t,rfl,c,Z⟩:=a;rw[ai]at Z;subst Z;refine#[v,u,rfl,k _ _ ?_ ?_]
  ·refine((Y.same s1).bind hi (d.imm I.1)).bind b (c.imm I.2)
  ·exact(Fr'.bind hi s1).trans (Fr'.bind b (aD.refl _))
 ·cases e
def AS(h:PS X st (kQ (tE X.K cl e'))):SS X cl M st (.exc e'):=by
 refine PS.weak h fun D J H h=>?_;obtain⟨I,o,O,U,e,k⟩:=h;obtain⟨d,Z,Y⟩:=map_some e;cases Y;exact#[I,d,U.rv0,Z,fun v a r1=>k _ _ (U.same r1.same) (Fr'.same r1.same)]
end rules
section rules
variable{st:Stmt}
def Am(h:PS X st (ko (tE X.K cl e') (fun v J H Q=>l9 X.K is.length (gs is) v J H Q\/lH X.K is.length (gs is) v J H Q)))(hM:∀ i∈is,M.contains i=false):SS X cl M st (.unp is e'):=by
 refine PS.weak h fun D J H h=>?_;obtain⟨Y,o,a,c,e,k⟩:=h;obtain⟨d,u,e⟩:=bind_some e;obtain⟨ds,t,e⟩:=bind_some e;split at e
 ·rename_i Z;obtain⟨l,s,r⟩:=map_some e;cases r;obtain⟨g,m⟩:=gL s;refine#[Y,d,c.rv0,u,fun v w r1=>?_];obtain⟨p,xs,rfl,I,f⟩:=fq t r1.rep;obtain⟨g1,g2⟩:=(c.same r1.same).cB (vs:=xs) hM g Z f;have O:D.nx (dk is xs J) w:=k _ _ (by rw[m];exact g1) ⟨fun b o e n=>#[r1.same _ _ e,by rw[g2];exact n],fun j q=>ka hM q⟩
  have U:xs.length=is.length:=by rw[<-f.length,g]
  rcases I with⟨I,_⟩ | ⟨I,_⟩ | ⟨⟨o,I⟩,_⟩
  ·exact .inr #[p,xs,rfl,SqL.of I,U,hJ U.symm O]
  ·exact .inl #[p,xs,rfl,SqT.of I,U,hJ U.symm O]
  ·exact .inr #[p,xs,rfl,.inl (.inr #[o,I]),U,hJ U.symm O]
 ·cases e
def oU(xs:List α)(k:Int):(xs.drop (HT.sIx xs.length 0 none)).take (HT.sIx xs.length xs.length (some k)-HT.sIx xs.length 0 none)=xs.take (RL.cutAt xs.length k):=by
 rw[HT.nV,drop_zero,sub_zero];congr 1;have h:=HT.gd k xs.length xs.length;unfold RL.cutAt;split at h
 ·rename_i I;lia
 ·rename_i I;lia
def pd(xs:List α)(k:Int):(xs.drop (HT.sIx xs.length 0 (some k))).take (HT.sIx xs.length xs.length none-HT.sIx xs.length 0 (some k))=xs.drop (RL.cutAt xs.length k):=by
 have e:HT.sIx xs.length 0 (some k)=RL.cutAt xs.length k:=by
  have h:=HT.gd k xs.length 0;unfold RL.cutAt;split at h
  ·rename_i I;lia
  ·rename_i I;lia
 rw[e,HT.nV];exact List.take_of_length_le (by rw[length_drop];exact Je _)
end rules
section rules
variable{X:Cx}
def one(U:RV0 X.K Qb J H)(Z:RL.ev cl Qb a'=some d)(k:∀ v I,aD H I->Rep nP X.K I d v->R [v] I):tEs X.K cl %[a'|_] J H R :=
 ⟨Qb,[d],U,by rw[RL.evs,Z];rfl,fun vs I s1 r1=>by
  rw[ai]at r1;obtain⟨v,t,rfl,Y,O⟩:=r1;rw[ai]at O;subst O
  exact k v I s1 Y⟩
def pair(O:RV0 X.K Qb J H)(c:RL.ev cl Qb a'=some d)(b:RL.ev cl Qb b'=some d')(k:∀ v u I,aD H I->Rep nP X.K I d v->Rep nP X.K I d' u->R [v,u] I):tEs X.K cl %[a',b'|_] J H R :=
 ⟨Qb,[d,d'],O,by rw[RL.evs,c,RL.evs,b];rfl,fun vs I s1 r1=>by
  obtain⟨v,t,rfl,a,Z⟩:=r1;obtain⟨u,t,rfl,Y,U⟩:=Z;subst U
  exact k v u I s1 a Y⟩
def jq{id:String}{r:List V->Hp->VK->Prop}{b:RL.Bi}(c:bG X (.builtin id) r)(Z:Gl X x)(hm:X.mg x=none)(Y:bootBuiltins x=some (.builtin id))(ha:SE X cl a a')(hn:noStar a=true)(g:x ≠ "__name__")(f:(x == ("__debug__" : Str))=false)
 (ok:∀ (I:RL.St) (J:L2.St) (H O:Hp) (y d:RL.D) (v:V) (Q:VK),RL.biV b y=some d->aD H O->Rep nP X.K O y v->(∀ w H',Res X.K I J H (.bi b a') d w H'->Q w H')->r [v] O Q):SE X cl (.Call (.Name x p) [a] [] pos) (.bi b a'):=by
 refine PE.weak (fk c Z hm Y (bV ha dn hn) g f (aA [] hn) rfl) fun J H Q h=>?_;obtain⟨I,d,U,e,k⟩:=h;obtain⟨y,i,e⟩:=bind_some e;exact one U i fun v O s1 r1=>ok I J H O y d v Q e s1 r1 k
def mQ{T:String}{r:List V->Hp->VK->Prop}{b:RL.Bi}(c:bG X (.type T) r)(Z:Gl X x)(hm:X.mg x=none)(Y:bootBuiltins x=some (.type T))(ha:SE X cl a a')(hn:noStar a=true)(g:x ≠ "__name__")(f:(x == ("__debug__" : Str))=false)
 (ok:∀ (I:RL.St) (J:L2.St) (H O:Hp) (y d:RL.D) (v:V) (Q:VK),RL.biV b y=some d->aD H O->Rep nP X.K O y v->(∀ w H',Res X.K I J H (.bi b a') d w H'->Q w H')->r [v] O Q):SE X cl (.Call (.Name x p) [a] [] pos) (.bi b a'):=by
 refine PE.weak (eD c Z hm Y (bV ha dn hn) g f (aA [] hn) rfl) fun J H Q h=>?_;obtain⟨I,d,U,e,k⟩:=h;obtain⟨y,i,e⟩:=bind_some e;exact one U i fun v O s1 r1=>ok I J H O y d v Q e s1 r1 k
def zh(Z:Gl X "list")(hm:X.mg "list" = none)(ha:SE X cl a a')(hn:noStar a=true):SE X cl (.Call (.Name "list" p) [a] [] pos) (.bi .list a'):=by
 refine mQ oB Z hm (by decide +kernel) ha hn ∅ ∅ fun I J H f y d v Q e s1 r1 k=>?_;obtain⟨ds,c,b⟩:=map_some (show(RL.items y).map RL.D.lst=some d from e);subst b;obtain⟨q,xs,rfl,U,O⟩:=fq c r1;refine#[q,xs,rfl,?_,fun l Y=>k _ _ (fu s1 Y O fun _=>rfl)]
 rcases U with⟨z,_⟩ | ⟨z,_⟩ | ⟨⟨o,z⟩,_⟩
 ·exact .inl (SqL.of z)
 ·exact .inr (SqT.of z)
 ·exact .inl (.inl (.inr #[o,z]))
def A9(O:Gl X "int")(hm:X.mg "int" = none)(ha:SE X cl a a')(hn:noStar a=true):SE X cl (.Call (.Name "int" p) [a] [] pos) (.bi .int a'):=by
 refine mQ vP O hm (by decide +kernel) ha hn ∅ ∅ fun I J H U y d v Q e s1 r1 k=>?_
 cases y<;>first | (cases e;done) | skip
 case bl t=>cases e;exact .inr #[t,by rw[bj r1],k _ _ (ck s1 bb rfl)]
 case int t=>cases e;exact .inl #[t,by rw[ar r1],k _ _ (ck s1 bb rfl)]
def C9{prog:Program}{w:World}{d:Addr}(hd:(d == sysModules)=false) :
  MeetsIn prog w (Builtin.«dict.__len__» ⟨[.ref d],[]⟩) (fun _ R s=>∃ o es ep,s.heap.get? d=some o/\o.data=.dict es ep/\R (.ok (.ret (.int es.size s.toks))) { s with toks:=s.toks+1 }) :=
 .of_wp fun A R s ⟨o,es,ep,ho,I,h⟩=>by
  show wpAny _ _ (dictSize d >>= _) _ _ s;refine Ja (Ja (wpAny_dictEntries ho I (Jc ?_)));refine Ja (wpAny_pendingCount_other hd ?_);refine wpAny_ret_mkInt ?_;exact h
def sZ{prog:Program}{w:World}{K:Type} [DecidableEq K]{O:HeapKind prog w K}(hd:(d == sysModules)=false) :
  MeetsIn prog w (Builtin.«dict.__len__» ⟨[.ref d],[]⟩) (fun _ R s=>∃ xs,s.heap.DictOfH O d xs/\R (.ok (.ret (.int xs.length s.toks))) { s with toks:=s.toks+1 }) :=
 .of_wp fun A R s ⟨xs,hm,h⟩=>by
  obtain⟨o,es,ep,ho,U,I,hk,_,_⟩:=hm;show wpAny _ _ (dictSize d >>= _) _ _ s;refine Ja (Ja (wpAny_dictEntries ho I (Jc ?_)));refine Ja (wpAny_pendingCount_other hd ?_);refine wpAny_ret_mkInt ?_;rw[Nat.add_zero,size_of_entries hk];exact h
def lB{prog:Program}{w:World}{K:Type} [DecidableEq K]{I:HeapKind prog w K}{A:Around}{E:Value->Shared->Prop}{s:Shared}{d:Addr}{xs:List (K × Addr × Value)}{Q:Value->Shared->Prop}(hd:(d == sysModules)=false)(hm:s.heap.DictOfH I d xs)(O:(xs.length:Int)<2 ^ 63)
 (h:Q (.int xs.length (s.toks+1)) { s with toks:=s.toks+1+1 }):wpAny (model prog w) A (call (.builtin "len") [.ref d]) Q E s:=by
 refine Calls.call_function_entry kind_len plain_len entry_len (args_len1 _) ?_;refine Ja (Jc ?_)
 refine Ja (wpAny_callSpecial?_slot hm.typeIs F.slot_dict_len
  (call_meetsIn F.slot_dict_len hm.typeIs F.entry_dict_len (F.args_dict_len_1 _) (sZ hd) ⟨xs,hm,?_⟩))
 refine Ja (wpAny_holding (Jc ?_));refine Ja (wpAny_letGo ?_);rw[if_neg (by omega)];rw[if_neg (by omega)];exact Ja (wpAny_mkInt (Jc ⟨_,rfl,h⟩))
def uZ:bG X (.builtin "len") (fun xs H Q=>∃ a kvs,xs=[V.ref a]/\H a=some (.dT kvs)/\Q (.int kvs.length) H):=by
 k_asm;obtain⟨a,kvs,rfl,ha,q⟩:=h;obtain⟨u,rfl,Y⟩:=vals1 r;cases Y;obtain⟨z,hd,xs,O,dd⟩:=Dk I.hok ha;have U:=Paired.length O;refine lB hd dd (by rw[<-U];rw[sizeLine_eq]at z;omega) ?_;rw[<-U];exact#[.int kvs.length,H,I.tok _,#[_,rfl],q]
def ve:bG X (.builtin "len") (fun xs H Q=>∃ a o kvs,xs=[V.ref a]/\H a=some (.frz o (.dT kvs))/\Q (.int kvs.length) H):=by
 k_asm;obtain⟨a,o,kvs,rfl,ha,q⟩:=h;obtain⟨u,rfl,Y⟩:=vals1 r;cases Y;obtain⟨_,z,hd,xs,U,ob,es,ep,g,ex,O,c,nd⟩:=I.hok a _ ha;have b:=Paired.length U;refine Calls.call_function_entry kind_len plain_len entry_len (args_len1 _) ?_;refine Ja (Jc ?_)
 refine Ja (wpAny_callSpecial?_slot ⟨ob,g,ex.1⟩ F.slot_dict_len
  (call_meetsIn F.slot_dict_len ⟨ob,g,ex.1⟩ F.entry_dict_len (F.args_dict_len_1 _) (C9 hd) ⟨ob,es,ep,g,O,?_⟩))
 have Z:es.size=kvs.length:=by rw[<-length_toList,c,length_map,b]
 rw[sizeLine_eq]at z;refine Ja (wpAny_holding (Jc ?_));refine Ja (wpAny_letGo ?_);rw[if_neg (by omega)];rw[if_neg (by omega)];exact Ja (wpAny_mkInt (Jc ⟨_,rfl,⟨.int kvs.length,H,I.tok _,⟨_,by rw[Z]⟩,q⟩⟩))
def vN:bG X (.builtin "len") (fun xs H Q=>(∃ y n,xs=[y]/\BI X.K y H n/\Q (.int n) H)\/(∃ q kvs,xs=[V.ref q]/\H q=some (.dK kvs)/\Q (.int kvs.length) H)\/(∃ q kvs,xs=[V.ref q]/\H q=some (.dT kvs)/\Q (.int kvs.length) H)\/∃ q o kvs,xs=[V.ref q]/\H q=some (.frz o (.dT kvs))/\Q (.int kvs.length) H):=bG.or vU (bG.or ub (bG.or uZ ve))
def Be(Y:Gl X "len")(hm:X.mg "len" = none)(ha:SE X cl a a')(hn:noStar a=true):SE X cl (.Call (.Name "len" p) [a] [] pos) (.bi .len a'):=by
 refine jq vN Y hm PySem.boot_len ha hn ∅ ∅ fun O J H Z y d v Q e s1 r1 k=>?_
 cases y<;>first | (cases e;done) | skip
 case str t =>
  rw[RL.Dp]at e;split at e
  ·rename_i U;cases e;rw[aP r1];exact .inl #[_,_,rfl,#[Jr U cL,rfl],k _ _ (ck s1 bb rfl)]
  ·cases e
 case tup t =>
  cases e;obtain⟨q,xs,rfl,f2,f3⟩:=bu r1;dsimp only at k;rw[f3.length]at k;exact .inl #[_,_,rfl,.inr #[xs,SqT.of f2,rfl],k _ _ (ck s1 bb rfl)]
 case lst t =>
  cases e;obtain⟨q,xs,rfl,_,f2,f3⟩:=bc r1;dsimp only at k;rw[f3.length]at k;exact .inl #[_,_,rfl,.inl #[xs,SqL.of f2,rfl],k _ _ (ck s1 bb rfl)]
 case fL t =>
  cases e;obtain⟨q,o,xs,rfl,f2,f3⟩:=r1;dsimp only at k;rw[f3.length]at k;exact .inl #[_,_,rfl,.inl #[xs,.inl (.inr #[o,f2]),rfl],k _ _ (ck s1 bb rfl)]
 case dK ks t =>
  cases e;obtain⟨q,xs,rfl,_,f2,I,f3⟩:=r1;refine .inr (.inl #[q,_,rfl,f2,?_])
  have:(ks.zip xs).length=ks.length:=by rw[List.length_zip,<-f3.length,I,Nat.min_self]
  rw[this];exact k _ _ (ck s1 bb rfl)
 case dT ks t =>
  cases e;obtain⟨q,xs,rfl,_,f2,I,f3⟩:=r1;refine .inr (.inr (.inl #[q,_,rfl,f2,?_]))
  have:(ks.zip xs).length=ks.length:=by rw[List.length_zip,<-f3.length,I,Nat.min_self]
  rw[this];exact k _ _ (ck s1 bb rfl)
 case fT ks t =>
  cases e;obtain⟨q,o,xs,rfl,f2,I,f3⟩:=r1;refine .inr (.inr (.inr #[q,o,_,rfl,f2,?_]))
  have:(ks.zip xs).length=ks.length:=by rw[List.length_zip,<-f3.length,I,Nat.min_self]
  rw[this];exact k _ _ (ck s1 bb rfl)
def AK(c:X.calm=true)(Z:Gl X "max")(hm:X.mg "max" = none)(ha:SE X cl a a')(hb:SE X cl b b')(hn:noStar a=true)(I:noStar b=true):SE X cl (.Call (.Name "max" p) [a,b] [] pos) (.max a' b'):=by
 refine PE.weak (fk (u6 c) Z hm (by decide +kernel) (bV ha (bV hb dn I) hn) ∅ ∅ (aA _ hn) (cA (by simp[I]))) fun J H Q h=>?_;obtain⟨O,d,U,e,k⟩:=h;obtain⟨u,g,e⟩:=bind_some e;obtain⟨v,f,e⟩:=bind_some e
 cases u with
 |int i=>
  cases v with
  |int j=>
   cases e
   exact pair U g f fun v u l s1 r1 Y=>#[i,j,by rw[ar r1,ar Y],k _ _ (ck s1 bb rfl)]
  | _=>cases e
 | _=>cases e
abbrev tyN:RL.Ty->String
 | .int => "int"
 | .bool => "bool"
 | .list => "list"
 | .tuple => "tuple"
 | .str => "str"
def x6:bG X (.builtin "isinstance") (fun xs H Q=>∃ y t T k,xs=[y,.ty T]/\eI X.K H y t/\W.kitOne X.K t (.type T)=some k/\Q (.bl k) H):=by
 k_asm;obtain⟨y,t,T,k,rfl,ty,e,q⟩:=h;obtain⟨u,w,rfl,r1,U⟩:=vals2 r;cases U
 exact ue I r1 ty e fun O=>#[.bl k,H,I.tok O,rfl,q]
def AF(h:RL.eX t d=some k)(r:Rep nP X.K H d v):∃ ty,eI X.K H v ty/\W.kitOne X.K ty (.type (tyN t))=some k:=by
 cases d with
 | non=>rw[Rep]at r;subst r;refine#[_,.non,?_];cases t<;>(cases h;rfl)
 | bl i=>rw[bj r];refine#[_,.bl i,?_];cases t<;>(cases h;rfl)
 | int i=>rw[ar r];refine#[_,.int i,?_];cases t<;>(cases h;rfl)
 | str i=>rw[aP r];refine#[_,.str i,?_];cases t<;>(cases h;rfl)
 | tup i=>obtain⟨q,xs,rfl,f2,f3⟩:=bu r;refine#[_,.tup f2,?_];cases t<;>(cases h;rfl)
 | lst i=>obtain⟨q,xs,rfl,_,f2,f3⟩:=bc r;refine#[_,.lst f2,?_];cases t<;>(cases h;rfl)
 | fL i=>rw[Rep]at r;obtain⟨q,o,xs,rfl,f2,f3⟩:=r;refine#[_,.frz f2,?_];cases t<;>(cases h;rfl)
 | _=>cases t<;>cases h
def B7(i:Gl X "isinstance")(hm:X.mg "isinstance" = none)(b:Gl X y)(Z:X.mg y=none)(g:bootBuiltins y=some (.type (tyN t)))(U:y ≠ "__name__")(O:(y == ("__debug__" : Str))=false)(ha:SE X cl a a')(hn:noStar a=true) :
  SE X cl (.Call (.Name "isinstance" p) [a,.Name y p2] [] pos) (.isi a' t):=by
 have Y:PE X (.Name y p2) (tC (.ty (tyN t))):=rh b Z g rfl U O;refine PE.weak (fk x6 i hm (by decide +kernel) (aO ha (aO Y bE rfl) (aA _ hn)) ∅ ∅ (aA _ hn) rfl) fun J H Q h=>?_;obtain⟨I,d,f,e,k⟩:=h;obtain⟨u,m,e⟩:=bind_some e;obtain⟨c,o,n⟩:=map_some e;subst n;refine#[I,u,f,m,fun v q r1=>?_];obtain⟨ty,l,j⟩:=AF o r1.rep;exact#[v,ty,_,c,rfl,l,j,k _ _ (dz r1.same)]
end rules
end RS
namespace L2
open PySem PySem.Spec PyProof.Rows
structure jG(prog:Program)(w:World):Prop where
 draws:∀ {A:Around},A.handled=none->∀ (ti tp:Addr),tp≠ti->∀ its:Array Value,Draws prog w A ti [ti,tp] its.size (fun i v=>its[i]?=some v) (fun i h=>h.IsTupleIter ti tp i/\h.IsTuple tp its)
 call:∀ {A:Around} {E:Value->Shared->Prop} {z:Shared} {tp:Addr} {its:Array Value} {Q:Value->Shared->Prop},z.heap.IsTuple tp its ->
  (∀ g,IsEnum g (z.heap.objs.size+1) z.heap.objs.size 0 .none->g.IsTupleIter z.heap.objs.size tp 0->(∀ b o,z.heap.get? b=some o->g.get? b=some o)->Q (.ref (z.heap.objs.size+1)) { z with heap:=g })->wpAny (model prog w) A (call (.type "enumerate") [.ref tp]) Q E z
section
def Inv.lS{h':Heap}{t':Nat}{fp:List Addr}(I:Inv X pins J H s)(k:∀ b o,b∉fp->s.heap.get? b=some o->h'.get? b=some o)(hf:∀ b∈fp,H b=none/\(b∈X.ex\/X.s₀.heap.objs.size<=b)/\b≠X.env.locals/\(∀ x c,X.env.cells.lookup x=some c->c≠b)/\∀ p∈X.pn++pins,p.1≠b) :
  Inv X pins J H { s with heap:=h',toks:=t' }:=by
 have U:∀ b u,H b=some u->b∉fp:=fun b u e z=>by rw[(hf b z).1]at e;cases e
 refine I.mZ (s':={ s with heap:=h',toks:=t' }) (ch:=fp) rfl ⟨fun b o e _ _ O=>k b o O e,fun b o e _ _ O=>#[o.slots,k b o O e],fun _ _ _ n _=>n,fun b o e O=>#[o,k b o O e],fun _ _ e=>e,fun _ _ _ e=>e,fun b ps e=>#[(List.toArray []),by rw[e];simp]⟩ (fun b u e=>?_) I.bare fun b hb=>(hf b hb).2;refine(I.hok b u e).fj (fun c v Y q=>k c v ?_ q) (fun _ q=>q) fun _ _ q=>q;rcases Y with z | z
 ·rw[z];exact U b u e
 ·exact U c _ z
end
abbrev Ite(cont:Hp->List V->Prop):It :=
 ⟨fun i H=>∃ xs x,cont H xs/\xs[i]?=some x,fun i H v H'=>∃ p x,H p=none/\v=.ref p/\H'=upd H p (.tup [.int i,x])/\∀ xs,cont H xs->xs[i]?=some x,fun i H=>∃ xs,cont H xs/\xs.length=i⟩
structure Src(P:Program)(w:World)(K:W.Frag)(e it:Addr)(cont:Hp->List V->Prop)(ia:Nat->Heap->Prop):Prop where
 obj:∀ i h,ia i h->∃ o,h.get? it=some o/\∀ v,o.data≠.cell v
 keep:∀ i h h',ia i h->(∀ o,h.get? it=some o->h'.get? it=some o)->ia i h'
 inj:∀ (H:Hp) xs ys,cont H xs->cont H ys->xs=ys
 dr:∀ (X:Cx),X.prog=P->X.w=w->X.K=K->X.calm=true->∀ (pins:List (Addr × Obj)) (s:Shared) (J:St) (H:Hp) (xs:List V),Inv X pins J H s->H e=none->H it=none->cont H xs ->
  ∃ (fp:List Addr) (Pv:Nat->Value->Prop) (St:Nat->Heap->Prop),Draws P w X.A.in1 it fp xs.length Pv St/\e∉fp/\(∀ i,ia i s.heap->St i s.heap)/\(∀ i h,St i h->ia i h)/\∀ i v,Pv i v->∃ x,xs[i]?=some x/\RelV x v
def uB{P:Program}{w:World}{K:W.Frag}(g:e≠it)(S:Src P w K e it cont ia) :
  Turn P w K (.Tuple elts kx tp) (Ite cont) [e,it] e (fun i h=>(∃ old,IsEnum h e it i old)/\ia i h) where
 mem:=by simp
 obj:=fun i h st b hb=>by
  rcases List.mem_cons.mp hb with rfl | hb
  ·obtain⟨⟨old,U⟩,_⟩:=st;exact⟨_,U,fun v z=>by cases z⟩
  ·rw[List.mem_singleton.mp hb];exact S.obj i h st.2
 keep:=fun i h h' st k=>by
  obtain⟨⟨old,U⟩,hi⟩:=st;exact#[#[old,k e (by simp) _ U],S.keep i h h' hi fun o q=>k it (by simp) o q]
 item:=by
  intro X m t N L i pins s J H E I hf st F;subst m t N;obtain⟨⟨old,U⟩,hi⟩:=st;obtain⟨xs,x,n,f⟩:=F;have T:=hf e (by simp);have r:=hf it (by simp);obtain⟨fp,Pv,St,D,j,R,h2,h3⟩:=S.dr X rfl rfl rfl L pins s J H xs I T.1 r.1 n;have B:i<xs.length:=(List.getElem?_eq_some_iff.mp f).1;refine wpAny_pyNext_enum_itemD D U (R i hi) B g j fun v h' O m ho y hT hsz hk=>?_;obtain⟨x',d,rx⟩:=h3 i v m;rw[f]at d;cases d;refine#[.ref s.heap.objs.size,rfl,wpAny_letOwnedTupleGo_enum ho fun a Qa Z=>?_];have hn:H s.heap.objs.size=none:=I.hok.fresh (Je _)
  have I1:Inv X pins J (upd H s.heap.objs.size (.tup [.int i,x])) { s with heap:=s.heap.push { cls:=.type "tuple",data:=.seq (List.toArray [.int i O,v]) },toks:=O+1 } :=
   I.laid (t':=O+1) (fun b u q=>Jb _ q) (Je _) ⟨by show 2<=sizeLine;decide,[.int i O,v],.cons ⟨O,rfl⟩ (.cons rx .nil),⟨_,Jd _ rfl,rfl,_,rfl⟩⟩
  have G:e<s.heap.objs.size:=Jf U
  have C:it<s.heap.objs.size:=by obtain⟨o,q,_⟩:=S.obj i _ hi;exact Jf q
  have Y:∀ b∈[e,it],upd H s.heap.objs.size (.tup [.int i,x]) b=none/\(b∈X.ex\/X.s₀.heap.objs.size<=b)/\b≠X.env.locals/\(∀ x c,X.env.cells.lookup x=some c->c≠b)/\∀ p∈X.pn++pins,p.1≠b:=fun b hb=>by
   obtain⟨f0,f1,f2,f3,f4,V⟩:=hf b hb
   have M:b≠s.heap.objs.size:=by
    rcases List.mem_cons.mp hb with rfl | hb
    ·exact Jl G
    ·rw[List.mem_singleton.mp hb];exact Jl C
   exact#[by rw[ax M];exact f0,f3,f1,f4,V]
  have I2:Inv X pins J (upd H s.heap.objs.size (.tup [.int i,x])) { s with heap:=a,toks:=O+1 }:=by
   refine Inv.lS (s:={ s with heap:=s.heap.push { cls:=.type "tuple",data:=.seq (List.toArray [.int i O,v]) },toks:=O+1 }) (h':=a) (t':=O+1) (fp:=[e,it]) I1 (fun b o hb q=>?_) Y;have b1:b≠e:=fun z=>hb (by simp[z]);have b2:b≠it:=fun z=>hb (by simp[z]);refine Z.extBut b o b1 ?_;by_cases l:b=s.heap.objs.size
   ·subst l;have q':(s.heap.push { cls:=.type "tuple",data:=.seq (List.toArray [.int i O,v]) }).get? s.heap.objs.size=some o:=q;rw[Jd _ rfl]at q';cases q';exact hT
   ·have q':s.heap.get? b=some o:=(Heap.get?_push_ne _ _ _ l).symm.trans q;exact hk b o b1 b2 q'
  refine#[.ref s.heap.objs.size,_,I2,rfl,#[s.heap.objs.size,x,hn,rfl,rfl,fun ys hy=>by rw[S.inj H ys xs hy n];exact f],#[#[v,by simpa using Qa],S.keep _ h' a (h2 _ _ y) fun o q=>Z.extBut _ _ (Ne.symm g) q],fun b hb=>(Y b hb).1]
 done:=by
  intro X m t N L i pins s J H E I hf st F;subst m t N;obtain⟨⟨old,U⟩,hi⟩:=st;obtain⟨xs,n,f⟩:=F;have T:=hf e (by simp);have r:=hf it (by simp);obtain⟨fp,Pv,St,D,j,R,h2,h3⟩:=S.dr X rfl rfl rfl L pins s J H xs I T.1 r.1 n;subst f
  refine wpAny_pyNext_enum_endD D U (R _ hi) fun h' eb=>#[rfl,?_]
  obtain⟨f0,f1,f2,f3,f4,V⟩:=r;exact I.turned (it:=it) (h':=h') (t':=s.toks) (fun b o hb q=>eb b o hb q) f0 f1 f3 f4 V
 self:=fun A i s Q E st h=>by
  obtain⟨⟨old,U⟩,hi⟩:=st;exact wpAny_pyIter_enum U h
def src_list{P:Program}{w:World}{K:W.Frag}(c:e≠it):Src P w K e it (fun H xs=>H l=some (.lst xs)) (fun i h=>h.IsListIter it l i) where
 obj:=fun i h st=>let ⟨o,ho,_,hd⟩:=st;⟨o,ho,fun v q=>by rw[hd]at q;cases q⟩
 keep:=fun i h h' st k=>st.at fun o q=>k o q
 inj:=fun H xs ys Z Y=>by rw[Z]at Y;cases Y;rfl
 dr:=by
  intro X r d t n pins s J H xs I j hi b;subst r d t;obtain⟨its,a,p,y⟩:=I.list (SqL.of b)
  have f:its.toArray.size=xs.length:=by rw[size_toArray,a.length]
  have g:X.A.in1.handled=none:=I.ok.hd.1 n;have D:=Draws.list (prog:=X.prog) (w:=X.w) (A:=X.A.in1) g it l (aJ b hi) its.toArray;rw[f]at D;refine#[_,_,_,D,?_,fun i st=>#[st,p.isList],fun i h st=>st.1,fun i v U=>?_]
  ·intro m;rcases List.mem_cons.mp m with q | m
   ·exact c q
   ·exact(aJ b j).symm (List.mem_singleton.mp m)
  ·have U:its[i]?=some v:=by simpa using U
   have O:i<xs.length:=by rw[a.length];exact(List.getElem?_eq_some_iff.mp U).1
   obtain⟨u,Z,Y⟩:=a.get (i:=i) (x:=xs[i]) (by simp[O]);rw[U]at Z;cases Z;exact#[xs[i],by simp[O],Y]
def zJ{P:Program}{w:World}{K:W.Frag}(TE:jG P w)(c:e≠it):Src P w K e it (fun H xs=>H l=some (.tup xs)) (fun i h=>h.IsTupleIter it l i) where
 obj:=fun i h st=>let ⟨o,ho,_,hd⟩:=st;⟨o,ho,fun v q=>by rw[hd]at q;cases q⟩
 keep:=fun i h h' st k=>let ⟨o,ho,r⟩:=st;⟨o,k o ho,r⟩
 inj:=fun H xs ys Z Y=>by rw[Z]at Y;cases Y;rfl
 dr:=by
  intro X t d y n pins s J H xs I j hi b;subst t d y;obtain⟨its,a,p,z⟩:=I.tuple (SqT.of b)
  have f:its.toArray.size=xs.length:=by rw[size_toArray,a.length]
  have g:X.A.in1.handled=none:=I.ok.hd.1 n;have D:=TE.draws (A:=X.A.in1) g it l (aJ b hi) its.toArray;rw[f]at D;refine#[_,_,_,D,?_,fun i st=>#[st,p],fun i h st=>st.1,fun i v U=>?_]
  ·intro m;rcases List.mem_cons.mp m with q | m
   ·exact c q
   ·exact(aJ b j).symm (List.mem_singleton.mp m)
  ·have U:its[i]?=some v:=by simpa using U
   have O:i<xs.length:=by rw[a.length];exact(List.getElem?_eq_some_iff.mp U).1
   obtain⟨u,Z,Y⟩:=a.get (i:=i) (x:=xs[i]) (by simp[O]);rw[U]at Z;cases Z;exact#[xs[i],by simp[O],Y]
abbrev i7(x:Str):List V:=x.cps.toList.map fun c=>.str ⟨(List.toArray [c])⟩
def Ay{P:Program}{w:World}{K:W.Frag}(U:e≠it):Src P w K e it (fun _ xs=>xs=i7 x) (fun i h=>h.IsStrIter it (strIterType x) x t i) where
 obj:=fun i h st=>let ⟨o,ho,_,hd⟩:=st;⟨o,ho,fun v q=>by rw[hd]at q;cases q⟩
 keep:=fun i h h' st k=>let ⟨o,ho,r⟩:=st;⟨o,k o ho,r⟩
 inj:=fun H xs ys Z Y=>by rw[Z,Y]
 dr:=by
  intro X p j z n pins s J H xs I B hi g;subst p j z g;have f:X.A.in1.handled=none:=I.ok.hd.1 n
  have d:x.cps.size=(i7 x).length:=by simp[i7]
  have a:∀ (i:Nat) (v:Value),(∃ c u,x.cps[i]?=some c/\v=Value.str ⟨(List.toArray [c])⟩ u)->∃ y,(i7 x)[i]?=some y/\RelV y v:=fun i v l=>by
   obtain⟨c,u,Z,Y⟩:=l;exact#[.str #[(List.toArray [c])],by simp[i7,Z],u,Y]
  have b:e∉[it]:=fun m=>U (List.mem_singleton.mp m)
  cases ha:x.cps.all (·<128)with
  |true=>
   have O:strIterType x = "str_ascii_iterator" := by simp[strIterType,ha]
   have D:=Draws.strAscii (prog:=X.prog) (w:=X.w) (A:=X.A.in1) f it x t;rw[d]at D;exact#[_,_,_,D,b,fun i st=>by rw[O]at st;exact st,fun i h st=>by rw[O];exact st,a]
  |false=>
   have O:strIterType x = "str_iterator" := by simp[strIterType,ha]
   have D:=Draws.strWide (prog:=X.prog) (w:=X.w) (A:=X.A.in1) f it x t;rw[d]at D;exact#[_,_,_,D,b,fun i st=>by rw[O]at st;exact st,fun i h st=>by rw[O];exact st,a]
section
abbrev D0(O:TA):TI:=fun J H R=>O J H fun vs I=>(∃ l xs,vs=[.ref l]/\I l=some (.lst xs)/\R (Ite fun H xs=>H l=some (.lst xs)) I)\/(∃ l xs,vs=[.ref l]/\I l=some (.tup xs)/\R (Ite fun H xs=>H l=some (.tup xs)) I) \/
 (∃ x,vs=[.str x]/\R (Ite fun _ xs=>xs=i7 x) I)
def jY(I:Inv X pins J H s)(S:Src X.prog X.w X.K (s.heap.objs.size+1) s.heap.objs.size cont ia)
 (U:IsEnum g (s.heap.objs.size+1) s.heap.objs.size 0 .none)(hi:ia 0 g)(hk:∀ b o,s.heap.get? b=some o->g.get? b=some o)(q:R (Ite cont) H) :
  wpAny (model X.prog X.w) X.A (pyIter (.ref (s.heap.objs.size+1))) (PIE X pins J (.Tuple elts kx tp) R) E { s with heap:=g }:=by
 refine wpAny_pyIter_enum U ⟨s.heap.objs.size+1,[s.heap.objs.size+1,s.heap.objs.size],_,_,H,rfl,I.kept (t':=s.toks) hk,uB (Nat.succ_ne_self _) S,⟨⟨.none,U⟩,hi⟩,fun b hb=>?_,q⟩
 have O:s.heap.objs.size<=b:=by
  rcases List.mem_cons.mp hb with z | z
  ·rw[z];exact le_succ _
  ·rw[List.mem_singleton.mp z];exact Je _
 exact I.l8 O (I.hok.fresh O)
def Aa(TE:jG X.prog X.w)(j:Gl X "enumerate")(hm:X.mg "enumerate" = none)(ha:PA X [a] ta)(i:starEach [a] X.env=[(false,eval a X.env)]):PI X (.Tuple elts kx tp) (.Call (.Name "enumerate" p) [a] [] pos) (D0 ta):=by
 intro pins s J H R I h;refine Call_ (ik I j hm boot_enumerate (PyProof.Rows.callWith_type1 (thn (ha pos pins s J H _ I h) fun us s1 ⟨vs,k,Y,r1,e⟩=>?_) i rfl) ∅ ∅)
 rcases e with⟨l,xs,rfl,b,q⟩ | ⟨l,xs,rfl,b,q⟩ | ⟨x,rfl,q⟩
 ·obtain⟨u,rfl,O⟩:=vals1 r1;cases O;obtain⟨its,d,Z,f⟩:=Y.list (SqL.of b);exact call_enumerate_list Z.isList fun g U hi c hk=>jY Y (src_list (Nat.succ_ne_self _)) U hi hk q
 ·obtain⟨u,rfl,O⟩:=vals1 r1;cases O;obtain⟨its,d,Z,f⟩:=Y.tuple (SqT.of b);exact TE.call Z fun g U hi hk=>jY Y (zJ TE (Nat.succ_ne_self _)) U hi hk q
 ·obtain⟨u,rfl,O⟩:=vals1 r1;obtain⟨t,rfl⟩:=O;exact call_enumerate_str fun g U hi c hk=>jY Y (Ay (Nat.succ_ne_self _)) U hi hk q
end
end L2
namespace RS
open PySem PySem.Spec PyProof.Rows L2
def jn:∀ (ds:List RL.D) (k:Int),(RL.dZ k ds).length=ds.length
 | [],_=>rfl
 | d::r,k=>by rw[RL.dZ,length_cons,length_cons,jn r]
def mF:∀ (ds:List RL.D) (k:Int) (i:Nat) (d:RL.D),(RL.dZ k ds)[i]?=some d->∃ e,ds[i]?=some e/\d=.tup [.int (k+i),e]
 | [],k,i,d,h=>by simp[RL.dZ]at h
 | e::r,k,0,d,h=>by simp[RL.dZ]at h;exact#[e,rfl,by simp[h]]
 | e::r,k,i+1,d,h=>by
  obtain⟨e',I,O⟩:=mF r (k+1) i d h;refine#[e',by simpa using I,?_];congr 3;lia
def gk{K:W.Frag}(I:∀ H',Off P H H'->cont H' xs)(g:∀ H' ys,cont H' xs->cont H' ys->ys=xs)(r:ai nP K H ds xs)(hm:∀ b o,P b->H b=some o->df o):iG K (Ite cont) (RL.dZ 0 ds) P H where
 go:=fun H' i k hi=>by
  rw[jn]at hi;obtain⟨x,e,_⟩:=r.get (i:=i) (d:=ds[i]) (by simp[]);exact#[xs,x,I H' k,e]
 stop:=fun H' k=>#[xs,I H' k,by rw[jn,r.length]]
 yld:=fun H' i d v H2 k e y=>by
  obtain⟨p,x,O,rfl,rfl,a⟩:=y;obtain⟨e',c,rfl⟩:=mF ds 0 i d e;obtain⟨f,Y,U⟩:=r.get c;rw[a xs (I H' k)]at Y;cases Y;refine#[aD.cI O,fun q=>?_]
  have Z:Rep nP K H' e' x:=by
   rcases q with q | q
   ·have q:(true&&(e'.imm&&true))=true:=q;simp only[Bool.true_and,Bool.and_true]at q;exact fg hm k U q
   ·exact U.same q
  refine#[p,[.int i,x],rfl,aG,ai.cons ?_ (ai.cons (Z.same (aD.cI O)) ai.nil)];simpa using(bb)
def vK{P:Addr->Prop}{K:W.Frag}(h:RL.kM d=some ds)(r:Rep P K H d v):(∃ p xs,v=.ref p/\H p=some (.lst xs)/\d=.lst ds/\ai P K H ds xs)\/(∃ p xs,v=.ref p/\H p=some (.tup xs)/\d=.tup ds/\ai P K H ds xs) \/
  (∃ x,v=.str x/\d=.str x/\ds=x.cps.toList.map fun c=>.str ⟨(List.toArray [c])⟩):=by
 cases d<;>simp only[RL.kM]at h<;>first | (cases h;done) | skip
 case lst ys=>cases h;obtain⟨p,xs,U,_,O,I⟩:=bc r;exact .inl #[p,xs,U,O,rfl,I]
 case tup ys=>cases h;obtain⟨p,xs,U,O,I⟩:=bu r;exact .inr (.inl #[p,xs,U,O,rfl,I])
 case str x=>cases h;exact .inr (.inr #[x,aP r,rfl,rfl])
def iV{P:Addr->Prop}{K:W.Frag}:∀ (I:List Nat),ai P K H (I.map fun c=>RL.D.str ⟨(List.toArray [c])⟩) (I.map fun c=>V.str ⟨(List.toArray [c])⟩)
 | []=>ai.nil
 | c::r=>ai.cons gh (iV r)
section rules
def Bt(TE:jG X.prog X.w)(j:Gl X "enumerate")(hm:X.mg "enumerate" = none)(ha:SE X cl a a')(hn:noStar a=true):SI X cl (.Tuple elts kx tp) (.Call (.Name "enumerate" p) [a] [] pos) (.enm a'):=by
 intro pins s J H R I h;obtain⟨f,ds,i,e,k⟩:=h;obtain⟨d,t,r⟩:=bind_some e;obtain⟨es,n,m⟩:=map_some r;subst m;have g:=aO ha bE (aA [] hn);refine Aa TE j hm g (aA [] hn) pins s J H R I ⟨f,d,i,t,fun v u r1=>?_⟩
 rcases vK n r1.rep with⟨l,xs,rfl,Z,rfl,c⟩ | ⟨l,xs,rfl,Z,rfl,c⟩ | ⟨x,rfl,rfl,rfl⟩
 ·refine .inl ⟨l,xs,rfl,Z,k _ _ r1.same ⟨gk (fun H' o=>o _ _ (fun z=>z) Z) (fun H' ys Y O=>by rw[Y]at O;cases O;rfl) c fC,fun M P z U av=>?_⟩⟩;exact gk (fun H' o=>o _ _ (kC r1 z U av _ _ rfl rfl) Z) (fun H' ys Y O=>by rw[Y]at O;cases O;rfl) c (dF r1.same U)
 ·have np:∀ P:Addr->Prop,(∀ b o,P b->u b=some o->df o)->¬ P l:=fun P U q=>by rcases U l _ q Z with⟨z,q⟩ | ⟨z,q⟩ | ⟨z,q⟩<;>cases q
  exact .inr (.inl ⟨l,xs,rfl,Z,k _ _ r1.same ⟨gk (fun H' o=>o _ _ (np _ fC) Z) (fun H' ys Y O=>by rw[Y]at O;cases O;rfl) c fC,fun M P z U av=>gk (fun H' o=>o _ _ (np P (dF r1.same U)) Z) (fun H' ys Y O=>by rw[Y]at O;cases O;rfl) c (dF r1.same U)⟩⟩)
 ·exact .inr (.inr #[x,rfl,k _ _ r1.same #[gk (fun H' o=>rfl) (fun H' ys Y O=>O) (iV _) fC,fun M P z U av=>gk (fun H' o=>rfl) (fun H' ys Y O=>O) (iV _) (dF r1.same U)]])
end rules
section rules
variable{X:Cx}
def Az{P:Addr->Prop}{K:W.Frag}(h:Rep P K H (.scr ds) v):∃ a xs,v=.ref a/\jy K H a xs/\ai P K H ds xs:=by rw[Rep]at h;exact h
def u7(n:Nat)(k:Int):HT.sIx n n (some k)=RL.cutAt n k:=by
 have h:=HT.gd k n n;unfold RL.cutAt;split at h
 ·rw[if_neg ⋯];lia
 ·rw[if_pos ⋯];lia
def sH(n:Nat)(k:Int):HT.sIx n 0 (some k)=RL.cutAt n k:=by
 have h:=HT.gd k n 0;unfold RL.cutAt;split at h
 ·rw[if_neg ⋯];lia
 ·rw[if_pos ⋯];lia
def yO(h:RL.hW x y=some d):∃ n,y=.int n/\((∃ xs,(x=.lst xs\/x=.scr xs\/x=.fL xs)/\d=.lst (xs.take (RL.cutAt xs.length n)))\/∃ xs,x=.tup xs/\RL.cutAt xs.length n<xs.length/\d=.tup (xs.take (RL.cutAt xs.length n))):=by
 unfold RL.hW at h;split at h
 ·exact#[_,rfl,.inl #[_,.inr (.inr rfl),(Option.some.inj h).symm]]
 ·exact#[_,rfl,.inl #[_,.inr (.inl rfl),(Option.some.inj h).symm]]
 ·exact#[_,rfl,.inl #[_,.inl rfl,(Option.some.inj h).symm]]
 ·split at h
  ·rename_i I;exact#[_,rfl,.inr #[_,rfl,I,(Option.some.inj h).symm]]
  ·cases h
 ·cases h
def zR(h:RL.da x y=some d):∃ n,y=.int n/\((∃ xs,(x=.lst xs\/x=.fL xs)/\d=.lst (xs.drop (RL.cutAt xs.length n)))\/∃ xs,x=.tup xs/\0<RL.cutAt xs.length n/\d=.tup (xs.drop (RL.cutAt xs.length n))):=by
 unfold RL.da at h;split at h
 ·exact#[_,rfl,.inl #[_,.inr rfl,(Option.some.inj h).symm]]
 ·exact#[_,rfl,.inl #[_,.inl rfl,(Option.some.inj h).symm]]
 ·split at h
  ·rename_i I;exact#[_,rfl,.inr #[_,rfl,I,(Option.some.inj h).symm]]
  ·cases h
 ·cases h
def vG{P:Addr->Prop}{K:W.Frag}{H:Hp}(r:Rep P K H x v)(h:x=.lst xs\/x=.scr xs\/x=.fL xs):∃ q ys,v=.ref q/\SqL K H q ys/\ai P K H xs ys:=by
 rcases h with rfl | rfl | rfl
 ·obtain⟨q,ys,rfl,_,f2,f3⟩:=bc r;exact#[q,ys,rfl,SqL.of f2,f3]
 ·obtain⟨q,ys,rfl,f2,f3⟩:=Az r;exact#[q,ys,rfl,f2.seq,f3]
 ·rw[Rep]at r;obtain⟨q,o,ys,rfl,f2,f3⟩:=r;exact#[q,ys,rfl,.inl (.inr #[o,f2]),f3]
def BR(ha:SE X cl a a')(hb:SE X cl b b'):SE X cl (.Subscript a (.Slice none (some b) none p2) pos) (.slT a' b'):=by
 refine PE.weak (pQ (SlR.or qH uG) ha qI (qz hb)) fun J H Q h=>?_;obtain⟨I,d,Z,e,k⟩:=h;obtain⟨x,g,e⟩:=bind_some e;obtain⟨y,f,e⟩:=bind_some e;refine#[I,x,Z,g,fun v j r1=>#[I,y,Z.same r1.same,f,fun u H2 O=>?_]];have Y:=r1.rep.same O.same;have sm:=r1.same.trans O.same;obtain⟨n,rfl,⟨xs,c,rfl⟩ | ⟨xs,rfl,i,rfl⟩⟩:=yO e
 ·obtain⟨q,ys,rfl,f2,f3⟩:=vG Y c;refine#[n,ar O.rep,.inl #[q,ys,rfl,f2,fun l U=>?_]];unfold jv;rw[oU,<-f3.length];exact k _ _ (fu sm U (f3.take _) fun _=>rfl)
 ·obtain⟨q,ys,rfl,f2,f3⟩:=bu Y;refine#[n,ar O.rep,.inr #[q,ys,rfl,SqT.of f2,fun z=>?_,fun l U=>?_]]
  ·rw[u7,<-f3.length]at z;lia
  ·unfold jv;rw[oU,<-f3.length];exact k _ _ (iC sm U (f3.take _) fun _=>rfl)
def Bx(ha:SE X cl a a')(hb:SE X cl b b'):SE X cl (.Subscript a (.Slice (some b) none none p2) pos) (.slF a' b'):=by
 refine PE.weak (pQ (SlR.or qH uG) ha (qz hb) qI) fun J H Q h=>?_;obtain⟨I,d,Z,e,k⟩:=h;obtain⟨x,g,e⟩:=bind_some e;obtain⟨y,f,e⟩:=bind_some e;refine#[I,x,Z,g,fun v j r1=>#[I,y,Z.same r1.same,f,fun u H2 O=>?_]];have Y:=r1.rep.same O.same;have sm:=r1.same.trans O.same;obtain⟨n,rfl,⟨xs,c,rfl⟩ | ⟨xs,rfl,i,rfl⟩⟩:=zR e
 ·obtain⟨q,ys,rfl,f2,f3⟩:=vG Y (c.imp_right .inr);refine#[n,ar O.rep,.inl #[q,ys,rfl,f2,fun l U=>?_]];unfold jv;rw[pd,<-f3.length];exact k _ _ (fu sm U (f3.drop _) fun _=>rfl)
 ·obtain⟨q,ys,rfl,f2,f3⟩:=bu Y;refine#[n,ar O.rep,.inr #[q,ys,rfl,SqT.of f2,fun z=>?_,fun l U=>?_]]
  ·rw[sH,<-f3.length]at z;lia
  ·unfold jv;rw[pd,<-f3.length];exact k _ _ (iC sm U (f3.drop _) fun _=>rfl)
end rules
section rules
variable{X:Cx}{st:Stmt}
end rules
end RS
namespace L2
open PySem PySem.Spec PyProof.Rows
abbrev Its(c lo:Int)(n:Nat):It:=#[fun i _=>i<n,fun i H x H'=>H'=H/\x=.int (lo+i*c),fun i _=>n<=i]
def uF{P:Program}{w:World}{K:PySem.W.Frag}(it:Addr)(c lo:Int)(n:Nat):Turn P w K tg (Its c lo n) [it] it (fun i h=>IsRangeIter h it (lo+(i:Nat)*c) ((n:Int)-(i:Nat)) c) where
 mem:=by simp
 obj:=fun i h st b hb=>by
  rw[show b=it by simpa using hb];exact⟨_,st,fun v z=>by cases(show Data.fields _=Data.cell v from z)⟩
 keep:=fun i h h' st k=>k it (by simp) _ st
 item:=by
  intro X g f j Y i pins s J H E I hf st U;subst g f j;obtain⟨d,f1,f2,f3,a,Z⟩:=hf it (by simp);have W:=Walks.range (prog:=X.prog) (w:=X.w) (I.ok.hd.1 Y) it lo c n;refine W.item i s _ _ U st fun v h' l p O m=>?_;obtain⟨t,rfl⟩:=p;have r:Inv X pins J H { s with heap:=h',toks:=l }:=I.turned (fun b o hb e=>m b o (by simpa using hb) e) d f1 f3 a Z;exact#[_,rfl,nq O rfl rfl ∅ #[.int (lo+i*c),H,r,#[t,rfl],#[rfl,rfl],O,fun b hb=>(hf b hb).1]]
 done:=by
  intro X g f j Y i pins s J H E I hf st U;obtain⟨d,f1,f2,f3,a,Z⟩:=hf it (by simp)
  exact wpAny_pyNext_range_end (I.ok.hd.1 Y) st (by have:n<=i:=U;lia) fun h' q=>#[rfl,I.turned (fun b o hb e=>q b o hb e) d f1 f3 a Z]
 self:=fun _ _ _ _ _ st h=>wpAny_pyIter_rangeiter st h
end L2
namespace RS
open PySem PySem.Spec PyProof.Rows L2
def kS(c:Int):∀ (n:Nat) (lo:Int) (i:Nat) (d:RL.D),(RL.cx c lo n)[i]?=some d->d=.int (lo+i*c)
 | 0,lo,i,d,h=>by simp[RL.cx]at h
 | n+1,lo,0,d,h=>by simp[RL.cx]at h;simp[h]
 | n+1,lo,i+1,d,h=>by
  rw[kS c n (lo+c) i d h];congr 1;lia
def iX(c:Int):∀ (n:Nat) (lo:Int),(RL.cx c lo n).length=n
 | 0,_=>rfl
 | n+1,lo=>by rw[RL.cx,length_cons,iX c n]
def qZ{K:W.Frag}{H:Hp}{c lo:Int}:iG K (Its c lo n) (RL.cx c lo n) P H where
 go:=fun H' i k hi=>by rw[iX]at hi;exact hi
 stop:=fun H' k=>by rw[iX];exact Je _
 yld:=fun H' i d x H2 k e y=>by
  obtain⟨z,y⟩:=y;subst z;refine#[aD.refl _,fun _=>?_];rw[kS c n lo i d e,y];exact bb
section rules
variable{st:Stmt}
end rules
abbrev lJ(p:Addr)(a b c:Int):HO:=.ext fun h=>∃ t u v,IsRange h p a b c t u v
def pC(a b c:Int):0<=Builtin.Range.rangeSize a b c:=by
 unfold Builtin.Range.rangeSize;split
 ·split
  ·have:=Int.ediv_nonneg (a:=b-a-1) (b:=c) ⋯ ⋯;omega
  ·lia
 ·split
  ·by_cases I:c=0
   ·subst I;simp
   ·have:=Int.ediv_nonneg (a:=a-b-1) (b:=-c) ⋯ ⋯;omega
  ·lia
def vX(a b c:Int):Builtin.Range.rangeSize a b c<=(if a<b then b-a else a-b)+1:=by
 unfold Builtin.Range.rangeSize;split
 ·split
  ·have:=Int.ediv_le_self (a:=b-a-1) c ⋯;lia
  ·lia
 ·split
  ·have:=Int.ediv_le_self (a:=a-b-1) (-c) ⋯;split<;>omega
  ·split<;>lia
def jm(a b c:Int):(RL.bF c a b:Int)=Builtin.Range.rangeSize a b c:=Int.toNat_of_nonneg (pC a b c)
def mO(ha:-(2 ^ 60)<=a)(U:a<2 ^ 60)(hb:-(2 ^ 60)<=b)(O:b<2 ^ 60)(Z:-(2 ^ 60)<=c)(I:c<2 ^ 60):Builtin.Range.small a b c=true:=by
 have d:=pC a b c;have Y:=vX a b c;unfold Builtin.Range.small;simp only[Builtin.Range.rangeFitsLong,and_eq_true,or_eq_true,decide_eq_true_eq,beq_iff_eq];refine#[#[#[#[?_,?_],?_],?_],.inr ?_]
 ·lia
 ·lia
 ·lia
 ·split at Y<;>lia
 ·split<;>(rw[and_eq_true,decide_eq_true_eq,decide_eq_true_eq];lia)
section
variable{X:Cx}
abbrev pB(xs:List V)(a b c:Int):Prop:=(xs=[.int b]/\a=0/\c=1)\/(xs=[.int a,.int b]/\c=1)\/(xs=[.int a,.int b,.int c]/\c≠0/\c.natAbs<2 ^ 60)
def ke{pins:List (Addr × Obj)}{J:L2.St}{H:Hp}{s:Shared}{a b c:Int}{t u v:Tok}{O:Nat}(I:Inv X pins J H s):Inv X pins J (upd H s.heap.objs.size (lJ s.heap.objs.size a b c)) { s with heap:=s.heap.push { cls:=.type "range",data:=.fields (List.toArray [.int a t,.int b u,.int c v]) },toks:=O } :=
 I.laid (fun b u e=>Jb _ e) (Je _) ⟨⟨t,u,v,IsRange.new _ a b c t u v⟩,⟨_,Jd _ rfl⟩,fun Y U ⟨t,u,v,e⟩ k=>#[t,u,v,k _ e]⟩
def kc:bG X (.type "range") (fun xs H Q=>∃ a b c,pB xs a b c/\∀ p,H p=none->Q (.ref p) (upd H p (lJ p a b c))):=by
 k_asm;obtain⟨a,b,c,ha,q⟩:=h;have hf:=I.hok.fresh (Je _)
 rcases ha with⟨rfl,rfl,rfl⟩ | ⟨rfl,rfl⟩ | ⟨rfl,d,Y⟩
 ·cases r with
  |cons r O=>
   cases O;obtain⟨t,rfl⟩:=r;exact call_range_1 ⟨.ref _,_,ke I,rfl,q _ hf⟩
 ·cases r with
  |cons r O=>
   cases O with
   |cons U O=>
    cases O;obtain⟨t,rfl⟩:=r;obtain⟨t2,rfl⟩:=U;exact call_range_2 ⟨.ref _,_,ke I,rfl,q _ hf⟩
 ·cases r with
  |cons r O=>
   cases O with
   |cons U O=>
    cases O with
    |cons Z O=>
     cases O;obtain⟨t,rfl⟩:=r;obtain⟨t2,rfl⟩:=U;obtain⟨t3,rfl⟩:=Z;refine call_range_3 d ⟨.ref _,_,ke I,rfl,q _ hf⟩ (.inl (PyProof.noPylong_of_log2 ?_));have:c.natAbs.log2<60:=(Nat.log2_lt ⋯).mpr Y;lia
abbrev dm(a c:Int)(n:Nat):List V:=(List.range n).map fun(i:Nat)=>V.int (a+(i:Int)*c)
def zW{a c:Int}{n:Nat}{I:Array Value}(U:ItemsOf (fun i v=>∃ t,v=.int (a+i*c) t) I n):Vals (dm a c n) I.toList:=by
 have len:(dm a c (n)).length=I.toList.length:=by
  simp only[dm,length_map,length_range,length_toList,U.1]
 have gen:∀ (xs:List V) (us:List Value),xs.length=us.length->(∀ (i:Nat) u,us[i]?=some u->∃ x,xs[i]?=some x/\RelV x u)->Vals xs us:=by
  intro xs
  induction xs with
  | nil=>intro us h _;cases us with
   | nil=>exact .nil
   | cons _ _=>cases h
  | cons x r Z=>intro us h g;cases us with
   | nil=>cases h
   |cons u us=>
    obtain⟨j,f,e⟩:=g 0 u rfl;cases f
    exact .cons e (Z us (by simpa using h) fun i u hu=>by
     obtain⟨y,d,b⟩:=g (i+1) u (by simpa using hu)
     exact#[y,by simpa using d,b])
 refine gen _ _ len fun i u hu=>?_
 have O:I[i]?=some u:=by simpa using hu
 obtain⟨Y,rfl⟩:=U.2 i u O
 have hi:i<n:=by
  have:=(Array.getElem?_eq_some_iff.mp O).1;rw[U.1]at this;exact this
 exact#[.int (a+i*c),by simp[dm,hi],Y,rfl]
def jh(d:X.calm=true):bG X (.type "list") (fun xs H Q=>∃ p a b c,xs=[.ref p]/\H p=some (lJ p a b c)/\Builtin.Range.small a b c=true/\RL.bF c a b<=RL.most /\
  ∀ l,H l=none->Q (.ref l) (upd H l (.lst (dm a c (RL.bF c a b))))):=by
 k_asm;obtain⟨p,a,b,c,rfl,Z,Y,hn,q⟩:=h
 cases r with
 |cons r U=>
  cases U;cases r;obtain⟨⟨t,u,v,f⟩,_,_⟩:=I.hok p _ Z;refine call_list_range (I.ok.hd.1 d) f Y (jm a b c).symm (Jr hn ∅) fun h' i O c' hk e g=>?_;have hf:=I.hok.fresh (Je _);refine#[.ref s.heap.objs.size,upd H s.heap.objs.size (.lst (dm a c (RL.bF c a b))),I.laid hk (Je _) (show _/\_ from#[?_,O.toList,c',?_,?_]),rfl,q _ hf]
  ·simp only[dm,length_map,length_range];exact Jr hn cL
  ·exact zW g
  ·rw[Array.toArray_toList];exact e
def mR{P:Addr->Prop}{K:W.Frag}:∀ (n:Nat) (a c:Int),ai P K H (RL.cx c a n) (dm a c n)
 | 0,a,c=>ai.nil
 | n+1,a,c=>by
  have e:dm a c (n+1)=V.int a::dm (a+c) c n:=by
   simp only[dm,List.range_succ_eq_map,map_cons,List.map_map];congr 1
   ·simp
   ·apply List.map_congr_left;intro i _;show V.int (a+((i+1:Nat):Int)*c)=V.int (a+c+(i:Int)*c);congr 1;lia
  rw[RL.cx,e];exact ai.cons bb (mR n (a+c) c)
def nQ:∀ (n:Nat) (a:Int),RL.cb a n=RL.cx 1 a n
 | 0,_=>rfl
 | n+1,a=>by rw[RL.cb,RL.cx,nQ n]
def kz(a b:Int):RL.bF 1 a b=(b-a).toNat:=by
 have h:=jm a b 1;rw[rangeSize_one]at h;split at h<;>lia
def uU{I:RL.St}{J:L2.St}{H U:Hp}{e:RL.E}{Q:VK}{vs:List V}{a b c:Int}{ds:List RL.D}(Y:pB vs a b c)(hd:ds=RL.cx c a (RL.bF c a b))(hn:RL.bF c a b<=RL.most)(Z:Builtin.Range.small a b c=true)(sm:aD H U)
 (O:∀ M,RL.avE M e=false)(k:∀ v H',Res X.K I J H e (.lst ds) v H'->Q v H') :
  ∃ a b c,pB vs a b c/\∀ p,U p=none->(fun xs H Q=>∃ p a b c,xs=[V.ref p]/\H p=some (lJ p a b c)/\Builtin.Range.small a b c=true/\RL.bF c a b<=RL.most/\∀ l,H l=none->Q (.ref l) (upd H l (.lst (dm a c (RL.bF c a b))))) [.ref p] (upd U p (lJ p a b c)) Q:=by
 refine#[a,b,c,Y,fun p d=>#[p,a,b,c,rfl,aG,Z,hn,fun l f=>k _ _ ?_]];subst hd;exact fu (sm.trans (aD.cI d)) f (mR _ _ _) O
def zV(l:X.calm=true)(b:Gl X "list")(Y:X.mg "list" = none)(g:Gl X "range")(hm:X.mg "range" = none)(ha:SE X cl a a')(hn:noStar a=true){p2 I:Pos}:SE X cl (.Call (.Name "list" p2) [.Call (.Name "range" p) [a] [] pos] [] I) (.rng1 a'):=by
 refine PE.weak (eD (jh l) b Y (by decide +kernel) (aO (eD kc g hm boot_range (bV ha dn hn) ∅ ∅ (aA [] hn) rfl) bE rfl) ∅ ∅ rfl rfl) fun J H Q h=>?_;obtain⟨c,d,f,e,k⟩:=h;obtain⟨x,m,e⟩:=bind_some e;obtain⟨ds,U,o⟩:=map_some e;subst o;obtain⟨i,j,n,rfl,hb,Z,rfl⟩:=vb U;cases n
 have O:-(2 ^ 60)<=j/\j<2 ^ 60:=by
  simp only[RL.jJ]at U;split at U
  ·lia
  ·cases U
 refine one f m fun v q s1 r1=>?_;exact uU (.inl #[by rw[ar r1],rfl,rfl]) (by rw[nQ,kz]) (by rw[kz];exact Z) (mO ∅ ∅ O.1 O.2 ∅ ∅) s1 (fun _=>rfl) k
abbrev gW(c:Int):Expr->Bool
 | .Constant (.int i) _ _=>i == c
 | .UnaryOp .USub (.Constant (.int i) _ _) _=>-i == c
 | _=>false
def jI(h:gW c e=true):PE X e (tC (.int c))/\noStar e=true:=by
 unfold gW at h;split at h
 ·rw[beq_iff_eq]at h;subst h;exact#[oP,rfl]
 ·rw[beq_iff_eq]at h;subst h;exact#[PE.weak (xW vI oP) fun J H Q q=>#[_,rfl,q],rfl]
 ·cases h
def qJ(h:RL.jH c x y=some ds):∃ i j:Int,x=.int i/\y=.int j/\c≠0/\c.natAbs<2 ^ 60/\Builtin.Range.small i j c=true/\RL.bF c i j<=RL.most/\ds=RL.cx c i (RL.bF c i j):=by
 unfold RL.jH at h;split at h
 ·rename_i i j;split at h
  ·rename_i I;cases h;exact#[i,j,rfl,rfl,I.1,by omega,mO I.2.2.2.2.1 I.2.2.2.2.2.1 I.2.2.2.2.2.2.1 I.2.2.2.2.2.2.2 (by omega) I.2.2.1,I.2.2.2.1,rfl]
  ·cases h
 ·cases h
def rq(ha:SE X cl a a')(hb:SE X cl b b')(hn:noStar a=true)(I:noStar b=true)(O:gW c e3=true):PA X [a,b,e3] (fun J H R=>tE X.K cl a' J H fun v U=>tE X.K cl b' J U fun u H2=>R [v,u,.int c] H2) :=
 aO ha (aO hb (aO (jI O).1 bE (aA [] (jI (X:=X) O).2)) (aA _ I)) (aA _ hn)
def yY{c:Int}{f:Expr}(q:X.calm=true)(Z:Gl X "list")(Y:X.mg "list" = none)(o:Gl X "range")(hm:X.mg "range" = none)(ha:SE X cl a a')(hb:SE X cl b b')(hn:noStar a=true)(O:noStar b=true)(U:gW c f=true){p2 I:Pos} :
  SE X cl (.Call (.Name "list" p2) [.Call (.Name "range" p) [a,b,f] [] pos] [] I) (.rng3 c a' b'):=by
 refine PE.weak (eD (jh q) Z Y (by decide +kernel) (aO (eD kc o hm boot_range (rq ha hb hn O U) ∅ ∅ (aA _ hn) (cA (by simp[O,(jI (X:=X) U).2]))) bE rfl) ∅ ∅ rfl rfl) fun J H Q h=>?_;obtain⟨g,d,n,e,k⟩:=h;obtain⟨x,z,e⟩:=bind_some e;obtain⟨y,w,e⟩:=bind_some e;obtain⟨ds,B,A⟩:=map_some e;subst A;obtain⟨i,j,rfl,rfl,t,s,r,U,rfl⟩:=qJ B;refine two n z w fun v u C H2 s1 s2 m l _ _=>?_;exact uU (.inr (.inr #[by rw[ar m,ar l],t,s])) rfl U r (s1.trans s2) (fun _=>rfl) k
def zN(w:Gl X "range")(hm:X.mg "range" = none)(ha:SE X cl a a')(hb:SE X cl b b')(hn:noStar a=true)(O:noStar b=true)(Y:gW c e3=true) :
  SI X cl tg (.Call (.Name "range" p) [a,b,e3] [] pos) (.rng3 c a' b'):=by
 intro pins s J H R I h;obtain⟨d,ds,l,e,k⟩:=h;obtain⟨x,D,e⟩:=bind_some e;obtain⟨y,C,e⟩:=bind_some e;obtain⟨i,j,rfl,rfl,B,A,m,G,rfl⟩:=qJ e;refine thn (eD kc w hm boot_range (rq (cl:=cl) ha hb hn O Y) ∅ ∅ (aA _ hn) (cA (by simp[O,(jI (X:=X) Y).2])) pins s J H (fun x H2=>∃ p,x=.ref p/\H2 p=some (lJ p i j c)/\aD H H2) I ?_) ?_
 ·exact two l D C fun v u Z H2 s1 s2 g f _ _=>#[i,j,c,.inr (.inr #[by rw[ar g,ar f],B,A]),fun p r=>#[p,rfl,aG,(s1.trans s2).trans (aD.cI r)]]
 ·rintro v s1 ⟨x,Z,U,r1,q,rfl,n,sm⟩;cases r1;obtain⟨⟨t,u,v,z⟩,_,_⟩:=U.hok q _ n;refine wpAny_pyIter_range z m ⟨s1.heap.objs.size,[s1.heap.objs.size],_,Its c i (RL.bF c i j),Z,rfl,U.kept (t':=s1.toks) fun b o e=>Jb _ e,uF _ c i _,?_,fun b hb=>?_,k _ _ sm ⟨qZ,fun _ _ _ _ _=>qZ⟩⟩
  ·have F:i+((0:Nat):Int)*c=i:=by simp
   have E:((RL.bF c i j:Nat):Int)-((0:Nat):Int)=Builtin.Range.rangeSize i j c:=by rw[jm];simp
   show IsRangeIter _ _ (i+((0:Nat):Int)*c) (((RL.bF c i j:Nat):Int)-((0:Nat):Int)) c;rw[F,E];exact Jd _ rfl
  ·rw[show b=s1.heap.objs.size by simpa using hb];exact U.l8 (Je _) (U.hok.fresh (Je _))
def zE(U:SE X cl l e'):SI X cl tg l (.seq e'):=by
 refine PI.weak (AX (cl:=cl) U trivial) fun J H R h=>?_;obtain⟨I,ds,O,e,k⟩:=h;obtain⟨d,Z,Y⟩:=bind_some e;exact#[I,d,ds,O,Z,Y,k]
def C0(ha:SE X cl a a'):SE X cl (.UnaryOp .USub a pos) (.neg a'):=by
 refine PE.weak (xW vI ha) fun J H Q h=>?_;obtain⟨I,d,O,e,k⟩:=h;obtain⟨x,U,e⟩:=bind_some e
 cases x with
 | int i=>cases e;exact#[I,_,O,U,fun v Y r1=>#[i,ar r1.rep,k _ _ (ck r1.same bb rfl)]]
 | _=>cases e
def B0(O:Gl X "abs")(hm:X.mg "abs" = none)(ha:SE X cl a a')(hn:noStar a=true):SE X cl (.Call (.Name "abs" p) [a] [] pos) (.bi .abs a'):=by
 refine jq vZ O hm (by decide +kernel) ha hn ∅ ∅ fun I J H U y d v Q e s1 r1 k=>?_
 cases y<;>first | (cases e;done) | skip
 case int i=>cases e;exact#[i,by rw[ar r1],k _ _ (ck s1 bb rfl)]
def BE(c:X.calm=true)(Z:Gl X "min")(hm:X.mg "min" = none)(ha:SE X cl a a')(hb:SE X cl b b')(hn:noStar a=true)(I:noStar b=true):SE X cl (.Call (.Name "min" p) [a,b] [] pos) (.min a' b'):=by
 refine PE.weak (fk (tO c) Z hm (by decide +kernel) (bV ha (bV hb dn I) hn) ∅ ∅ (aA _ hn) (cA (by simp[I]))) fun J H Q h=>?_;obtain⟨O,d,U,e,k⟩:=h;obtain⟨u,g,e⟩:=bind_some e;obtain⟨v,f,e⟩:=bind_some e
 cases u with
 |int i=>
  cases v with
  |int j=>
   cases e
   exact pair U g f fun v u l s1 r1 Y=>#[i,j,by rw[ar r1,ar Y],k _ _ (ck s1 bb rfl)]
  | _=>cases e
 | _=>cases e
end
abbrev mAt(mp:List Nat)(vs:List V):Addr->Prop:=fun a=>∃ p,p∈mp/\vs[p]?=some (.ref a)
structure BS(K:W.Frag)(mp:List Nat)(ds:List RL.D)(vs:List V)(H:Hp):Prop where
 xc:ai nP K H ds vs
 own:∀ p∈mp,∃ d a,ds[p]?=some d/\vs[p]?=some (.ref a)/\Own K H d (.ref a)
 sep:∀ p∈mp,∀ q∈mp,∀ a,vs[p]?=some (.ref a)->vs[q]?=some (.ref a)->p=q
 oth:∀ (q:Nat) d v,q∉mp->ds[q]?=some d->vs[q]?=some v->Rep (mAt mp vs) K H d v
structure E9(K:W.Frag)(mp:List Nat)(outs:List RL.D)(vs:List V)(H:Hp):Prop where
 len:outs.length=mp.length
 own:∀ (k p:Nat) o,mp[k]?=some p->outs[k]?=some o->∃ a,vs[p]?=some (.ref a)/\Own K H o (.ref a)
abbrev spM(K:W.Frag)(cl:RL.Cl)(mp:List Nat)(f:Nat):Sp:=fun vs H Q _=>∃ ds d outs,cl f ds=some (.tup (d::outs))/\BS K mp ds vs H/\∀ v H',Off (mAt mp vs) H H'->Rep nP K H' d v->d.imm=true->E9 K mp outs vs H'->Q v H'
section rules
variable{X:Cx}{st:Stmt}
end rules
end RS
namespace L2
open PySem PySem.Spec PyProof.Rows
abbrev eg(A:Around)(h:Heap):Prop:=A.handled=none\/∃ x o vs,A.handled=some (.ref x)/\h.get? x=some o/\o.data=.fields vs/\vs[2]?=some .none
def eg.keeps(x:eg A h)(k:∀ b o vs,h.get? b=some o->o.data=.fields vs->A.handled=some (.ref b)->h'.get? b=some o):eg A h':=by
 rcases x with z | ⟨y,o,vs,O,Y,I,U⟩
 ·exact .inl z
 ·exact .inr #[y,o,vs,O,k _ _ _ Y I O,I,U]
section
def mX:entryFor table "proto.unchain" = some Builtin.«proto.unchain»:=entryFor_of_tree (by kernel_rfl)
def xE(hd:eg A s.heap)(I:s.heap.get? e=some oe)(hf:oe.data=.fields vs)(U:2<vs.size)(ne:A.handled≠some (.ref e))
 (k:∀ h',Heap.SameBut e s.heap h'->(∃ o,h'.get? e=some o/\o.cls=oe.cls)->E (.ref e) { s with heap:=h' }):wpAny (model prog w) A (raiseNew (.ref e):Sem α) Q E s:=by
 unfold raiseNew;refine Ja (wpAny_handled ?_)
 rcases hd with z | ⟨x,o,b,O,a,Z,Y⟩
 ·rw[z];exact Ja (Jc (wpAny_throw (k s.heap (.refl ..) ⟨oe,I,rfl⟩)))
 ·rw[O]
  have nx:(Value.ref x != Value.ref e)=true:=by
   rw[bne_iff_ne];intro q;exact ne (by rw[O,q])
  dsimp only;rw[if_pos nx];refine Ja (wpAny_holding (wpAny_runValue (codeAny_builtin mX ?_)));unfold Builtin.«proto.unchain»;refine Ja (wpAny_field a Z Y ?_);rw[if_pos ∅];refine Ja (Jc (Jc ?_));show wpAny _ _ _ _ _ _;refine Ja ?_;show wpAny _ _ (setField (.ref e) 2 (.ref x)) _ _ _;refine wpAny_setField I hf U (wpAny_throw (k _ (.update ..) ⟨_,Jq _ I (Obj.isFreed_of_fields (Obj.data_mapFields hf _)),Obj.cls_mapFields ..⟩))
def l3(hd:eg A s.heap)(k:∀ h' e,(∀ b o,s.heap.get? b=some o->h'.get? b=some o)->(∃ o,h'.get? e=some o/\o.cls=.type "StopIteration")->E (.ref e) { s with heap:=h' }) :
  wpAny (model prog w) A (newExc (.type "StopIteration") []) (fun e s'=>wpAny (model prog w) A (raiseNew e:Sem α) Q E s') E s:=by
 simp only[newExc,newTuple];k_in;refine wpAny_newObj_type ?_ (by size_fits);apply Ja (m:=firstArgMember _ _);refine wpAny_of_eq (a:=Value.none) (by first | rfl | (simp only[firstArgMember];rfl)) ?_;refine wpAny_newObj_type ?_ (by size_fits);have I:∀ b o,s.heap.get? b=some o->b≠(s.heap.push { cls:=.type "tuple",data:=.seq ([]:List Value).toArray }).objs.size:=fun b o e=>Jl (by rw[Jt];exact Nat.lt_succ_of_lt (Jf e));refine xE (hd.keeps fun b o vs e _ _=>Jb _ (Jb _ e)) (Jd _ rfl) rfl (Ji (by decide:2<6) (by simp)) (fun q=>?_) fun h' O ho=>k h' _ (fun b o e=>(O.2 b (I b o e)).trans (Jb _ (Jb _ e))) ho
 rcases hd with z | ⟨x,o,Z,Y,U,_,_⟩
 ·rw[z]at q;cases q
 ·rw[Y]at q;cases q;exact I _ _ U rfl
def ji{it l:Addr}{i:Nat}(hd:eg A s.heap)(Z:A.handled≠some (.ref it))(ho:s.heap.get? it=some o)(I:o.data=.fields (List.toArray [.ref l,.int i 0]))(O:s.heap.get? l=some ol)(U:ol.data=.seq its nl)(d:its[i]?=none)
 (k:∀ h' e,Heap.ExtBut it s.heap h'->(∃ o,h'.get? e=some o/\o.cls=.type "StopIteration")->E (.ref e) { s with heap:=h' }):wpAny (model prog w) A (Builtin.«list_iterator.__next__» ⟨[.ref it],[]⟩) Q E s:=by
 have a:¬ ((Value.ref l == Value.none)=true):=Jo;refine show wpAny _ _ (field (.ref it) 0 >>= _) _ _ s from Ja (wpAny_field ho I (x:=.ref l) rfl ?_);refine show wpAny _ _ (if(Value.ref l == Value.none)=true then _ else _) _ _ s from ?_;rw[if_neg a];refine show wpAny _ _ (field (.ref it) 1 >>= _) _ _ s from Ja (wpAny_field ho I (x:=.int i 0) rfl ?_);refine show wpAny _ _ (seqItems? (.ref l) >>= _) _ _ s from Ja (wpAny_seqItems O U ?_);simp only[toNat_natCast,d];refine Ja (wpAny_rule (Ja (wpAny_setField ho I (by simp) ?_)));refine show wpAny _ _ (newExc (.type "StopIteration") [] >>= _) _ _ _ from Ja ?_;have Y:=Heap.SameBut.update s.heap it (Obj.mapFields (·.setIfInBounds 0 Value.none));refine l3 (hd.keeps fun b u vs e _ hb=>(Y.2 b fun z=>Z (z▸hb)).trans e) fun h' e c f=>k h' e (fun b u hb q=>c b u ((Y.2 b hb).trans q)) f
def mV{it l:Addr}{i:Nat}(hd:eg A s.heap)(Z:A.handled≠some (.ref it))(I:s.heap.IsListIter it l i)(b:s.heap.IsList l its)(a:its[i]?=none)
 (k:∀ h' e,Heap.ExtBut it s.heap h'->(∃ o,h'.get? e=some o/\o.cls=.type "StopIteration")->E (.ref e) { s with heap:=h' }):wpAny (model prog w) A (Builtin.SmallTypes.nextOf (.ref it)) Q E s:=by
 obtain⟨o,ho,f,U⟩:=id I;obtain⟨c,O,_,d,Y⟩:=b;unfold Builtin.SmallTypes.nextOf;k_in;apply wpAny_callSpecial?_slot (name:=Str.ofString "__next__") I.typeIs slot_listiter_next;refine wpAny_call_entry slot_listiter_next I.typeIs entry_listiter_next ?_ (args_listiter_next _);exact ji hd Z ho U O Y a k
def qj{it l:Addr}{i:Nat}(hd:eg A s.heap)(Z:A.handled≠some (.ref it))(I:s.heap.IsListIter it l i)(c:s.heap.IsList l its)(a:its[i]?=none)
 (k:∀ h',Heap.ExtBut it s.heap h'->Q none { s with heap:=h' }):wpAny (model prog w) A (pyNext (.ref it)) Q E s:=by
 obtain⟨o,ho,j,U⟩:=id I;obtain⟨g,O,_,h,Y⟩:=c;unfold pyNext;k_in;apply wpAny_attempt;apply wpAny_callSpecial?_slot (name:=Str.ofString "__next__") I.typeIs slot_listiter_next;refine wpAny_call_entry slot_listiter_next I.typeIs entry_listiter_next ?_ (args_listiter_next _);refine ji hd Z ho U O Y a fun h' e f d=>?_;k_in;refine wpAny_isInstance (T := "StopIteration") (b:=true) d isSubtype_stop ?_;exact Jc (k h' f)
end
section
def pf(hi:z.heap.IsTupleIter ti tp i)(b:z.heap.IsTuple tp its)(a:its[i]?=some x)
 (k:∀ g,g.IsTupleIter ti tp (i+1)->Heap.SameBut ti z.heap g->Q x { z with heap:=g }):wpAny (model prog w) A (Builtin.SmallTypes.nextOf (.ref ti)) Q E z:=by
 have I:=hi.typeIs;obtain⟨⟨n,l,f1,s1⟩,g1,Z,U⟩:=hi;obtain⟨⟨m,j,f2,s2⟩,g2,Y,f,O⟩:=b;dsimp only at Z U Y O;subst Z U Y O;obtain⟨h,g,d,c,os⟩:=z;unfold Builtin.SmallTypes.nextOf;refine Ja (wpAny_callSpecial?_slot (name:=Str.ofString "__next__") I F.slot_tuple_iterator_next (wpAny_call_entry F.slot_tuple_iterator_next I F.entry_tuple_iterator_next ?_ (F.args_tuple_iterator_next_1 _)));unfold Builtin.«tuple_iterator.__next__»
 wp_walk using AutoSeq1.wpAny_loadPart' g1,AutoSeq1.wpAny_loadPart' g2
 have e:its[((i:Nat):Int).toNat]?=some x:=a;rw[e];dsimp only;k_in;apply wpAny_setField g1 rfl (by simp);apply Jc;refine#[x,rfl,?_];apply Jc;apply k
 ·exact#[_,Jq _ g1 rfl,rfl,by simp[Obj.mapFields,rawInt]]
 ·exact Heap.SameBut.update ..
def rF(hd:eg A z.heap)(a:A.handled≠some (.ref ti))(hi:z.heap.IsTupleIter ti tp i)(f:z.heap.IsTuple tp its)(c:its[i]?=none)
 (k:∀ g e,Heap.ExtBut ti z.heap g->(∃ o,g.get? e=some o/\o.cls=.type "StopIteration")->E (.ref e) { z with heap:=g }):wpAny (model prog w) A (Builtin.SmallTypes.nextOf (.ref ti)) Q E z:=by
 have I:=hi.typeIs;obtain⟨⟨s,p,f1,s1⟩,g1,Z,U⟩:=hi;obtain⟨⟨r,n,f2,s2⟩,g2,Y,l,O⟩:=f;dsimp only at Z U Y O;subst Z U Y O;obtain⟨m,g,d,j,os⟩:=z;unfold Builtin.SmallTypes.nextOf;refine Ja (wpAny_callSpecial?_slot (name:=Str.ofString "__next__") I F.slot_tuple_iterator_next (wpAny_call_entry F.slot_tuple_iterator_next I F.entry_tuple_iterator_next ?_ (F.args_tuple_iterator_next_1 _)));unfold Builtin.«tuple_iterator.__next__»
 wp_walk using AutoSeq1.wpAny_loadPart' g1,AutoSeq1.wpAny_loadPart' g2
 have e:its[((i:Nat):Int).toNat]?=none:=c;rw[e];dsimp only;k_in;apply wpAny_rule;k_in;apply wpAny_setField g1 rfl (by simp);unfold Builtin.SmallTypes.stopIteration;k_in;refine l3 (hd.keeps fun b u vs e _ hb=>(Heap.SameBut.update ..).extBut b u (fun z=>a (z▸hb)) e) fun g e kp h=>k g e (fun b o hb q=>kp b o ?_) h;exact(Heap.SameBut.update ..).extBut b o hb q
def nD(h:wpAny (model prog w) A m S (fun _ _=>False) z)(k:∀ a z1,S a z1->Q a z1):wpAny (model prog w) A m Q E z:=wpAny_mono h k fun _ _ f=>f.elim
def uE(h:∀ b,Q b z):wpAny (model prog w) A (pure b) Q E z:=Jc (h b)
def xi{x:Value}{S:Addr->Shared->Prop}(Z:∀ A:Around,wpAny (model prog w) A (pyIter x) (fun v z1=>∃ it,v=.ref it/\S it z1) (fun _ _=>False) z)
 (k:∀ it z1,S it z1->Q (.ref z1.heap.objs.size) { z1 with heap:=z1.heap.push { cls:=.type "enumerate",data:=.fields (List.toArray [.none,.bool false,.ref it,rawInt 0,.none,.none]) } }):wpAny (model prog w) A (call (.type "enumerate") [x]) Q E z:=by
 have body:MeetsIn prog w (Builtin.«enumerate.__new__» ⟨[.type "enumerate",x],[]⟩) (fun A R s=>s=z/\∀ it z1,S it z1->R (.ok (.ret (.ref z1.heap.objs.size))) { z1 with heap:=z1.heap.push { cls:=.type "enumerate",data:=.fields (List.toArray [.none,.bool false,.ref it,rawInt 0,.none,.none]) } }):=by
  rintro A R s ⟨rfl,c⟩;have U:=sub_enumerate;have iter:=Z A.in1;obtain⟨m,g,d,l,os⟩:=s
  wp_walk
  refine wpAny_stack_any fun st=>uE fun b=>?_
  have done:∀ it z1,S it z1->wpAny (model prog w) A.in1 (do let r <- Builtin.SmallTypes.newRecord (.type "enumerate") (Builtin.SmallTypes.ownedTupleFields++[.ref it,rawInt 0,.none,.none]);ret r)
    (fun O s'=>match O with | .done f=>R (.ok f) s' | .again c'=>c'.quiet=true/\codeAny (model prog w) A c' R s') (fun e s'=>R (.error e) s') z1:=by
   intro it z1 I;have:=c it z1 I;obtain⟨a,i,j,tk1,Y⟩:=z1
   wp_walk
   exact this
  cases b
  ·wp_walk using nD iter
   rintro _ z1 ⟨it,rfl,I⟩;exact done it z1 I
  ·wp_walk using nD iter
   rintro _ z1 ⟨it,rfl,I⟩;exact done it z1 I
 refine callType_newIn F.called_enumerate ∅ (F.typeCall_enumerate_1 _) (F.newCall_enumerate_1 _) (fun obj=>F.args_object_init_2 obj _) F.entry_enumerate_new body ⟨rfl,fun it z1 h=>?_⟩;exact#[#[_,Jd _ rfl,rfl],k it z1 h]
def qc:jG prog w where
 draws:=fun Z ti tp O its=>{
  live:=fun i h st=>let ⟨o,e,_⟩:=st.1;⟨o,e⟩
  frame:=fun i h h' st kp=>by
   obtain⟨⟨d,l,r1⟩,⟨c,j,a⟩⟩:=st;exact#[#[d,kp ti (by simp) _ l,r1],#[c,kp tp (by simp) _ j,a]]
  item:=fun i s Q E hi st k=>by
   refine pf st.1 st.2 (x:=its[i]) (by simp[hi]) fun g U I=>k its[i] g s.toks (by simp[hi]) ⟨U,st.2.extBut I.extBut O⟩ I
  done:=fun s Q E st k=>rF (.inl Z) (by rw[Z];exact fun z=>nomatch z) st.1 st.2 (by simp) fun g e U I=>k g e U I }
 call:=fun {A E z tp its Q} f k=>by
  refine xi (S:=fun it z1=>it=z.heap.objs.size/\z1={ z with heap:=z.heap.push { cls:=.type "tuple_iterator",data:=.fields (List.toArray [.ref tp,rawInt 0]) } }) (fun A=>wpAny_pyIter_tuple f ⟨_,rfl,rfl,rfl⟩) ?_;rintro it z1 ⟨rfl,rfl⟩;have Y:(z.heap.push { cls:=.type "tuple_iterator",data:=.fields (List.toArray [.ref tp,rawInt 0]) }).objs.size=z.heap.objs.size+1:=Jt ..;dsimp only;rw[Y];refine k _ ?_ ⟨_,Jb _ (Jd _ rfl),rfl,rfl⟩ fun b o e=>Jb _ (Jb _ e);have:=Jd (z.heap.push { cls:=.type "tuple_iterator",data:=.fields (List.toArray [.ref tp,rawInt 0]) }) (o:={ cls:=.type "enumerate",data:=.fields (List.toArray [.none,.bool false,.ref z.heap.objs.size,rawInt 0,.none,.none]) }) rfl;rw[Y]at this;exact this
end
end L2
namespace RS
open PySem PySem.Spec PyProof.Rows L2
section
variable{X:Cx}
def qF:∀ {bs:List Bool} {us:List Value},Vals (bs.map V.bl) us->us=bs.map Value.bool
 | [],_,h=>by cases h;rfl
 | b::bs,_,h=>by
  cases h with
  |cons r t=>
   cases r;rw[qF t];rfl
def x8{A:Around}{bs:List Bool}:TruthOf X.prog X.w A (fun i v=>(bs.map Value.bool).toArray[i]?=some v) (fun i=>bs.getD i false):=by
 intro i v s Q E O q
 have I:(bs.map Value.bool)[i]?=some v:=by simpa using O
 rw[getElem?_map]at I;obtain⟨b,Y,U⟩:=map_some I;subst U
 have:bs.getD i false=b:=by rw[List.getD_eq_getElem?_getD,Y];rfl
 have q':Q b s:=this▸q;exact wpAny_truthy_bool q'
def range_all(bs:List Bool):(List.range bs.length).all (fun i=>bs.getD i false)=bs.all id:=by
 have:bs=(List.range bs.length).map fun i=>bs.getD i false:=by
  apply List.ext_getElem
  ·simp
  ·intro i I O;simp[ I]
 conv=>rhs;rw[this]
 rw[List.all_map];rfl
abbrev Bo(f:List Bool->Bool):List V->Hp->VK->Prop:=fun xs H Q=>∃ p bs,xs=[.ref p]/\H p=some (.lst (bs.map V.bl))/\Q (.bl (f bs)) H
def xD(c:X.calm=true):bG X (.builtin "all") (Bo fun bs=>bs.all id):=by
 k_asm;obtain⟨p,bs,rfl,a,q⟩:=h
 cases r with
 |cons r Z=>
  cases Z;cases r;obtain⟨its,Y,U,f⟩:=I.list (SqL.of a);have hits:=qF Y;subst hits
  have O:p<s.heap.objs.size:=by obtain⟨o,ho,_⟩:=U.isList;exact Jf ho
  refine call_all_walk (wpAny_pyIter_list U.isList ?_);refine#[s.heap.objs.size,_,[s.heap.objs.size],_,_,_,_,rfl,Walks.list (A:=X.A.in1) (I.ok.hd.1 c) s.heap.objs.size p (Jl O) (bs.map Value.bool).toArray,#[#[_,Jd _ rfl,rfl,rfl],U.isList.push _],x8,fun h' d hk=>?_];refine#[.bl (bs.all id),H,I.kept (fun b o e=>hk b o (fun z=>?_) (Jb _ e)),?_,q]
  ·rw[List.mem_singleton.mp z]at e;exact absurd (Jf e) (Jw _)
  ·have:=range_all bs;show Value.bool _=Value.bool _;rw[<-this];simp
def oZ{P:Addr->Prop}{K:W.Frag}:∀ {ds:List RL.D} {bs:List Bool} {xs:List V},RL.ff ds=some bs->ai P K H ds xs->xs=bs.map V.bl
 | [],bs,xs,h,r=>by rw[RL.ff]at h;cases h;rw[ai]at r;exact r
 | d::ds,bs,xs,h,r=>by
  cases d<;>simp only[RL.ff]at h<;>first | (cases h;done) | skip
  rename_i b;obtain⟨Y,U,O⟩:=map_some h;subst O;obtain⟨x,t,rfl,r1,I⟩:=r;rw[bj r1,oZ U I];rfl
def Ba(U:X.calm=true)(O:Gl X "all")(hm:X.mg "all" = none)(ha:SE X cl a a')(hn:noStar a=true):SE X cl (.Call (.Name "all" p) [a] [] pos) (.bi .all a'):=by
 refine jq (xD U) O hm (by decide +kernel) ha hn ∅ ∅ fun I J H b y d v Q e s1 r1 k=>?_
 cases y<;>first | (cases e;done) | skip
 case lst ds =>
  obtain⟨bs,Z,Y⟩:=map_some e;subst Y;obtain⟨q,xs,rfl,_,f2,f3⟩:=bc r1;rw[oZ Z f3]at f2;exact#[q,bs,rfl,f2,k _ _ (ck s1 oH rfl)]
def As(I:Gl X "enumerate")(hm:X.mg "enumerate" = none)(ha:SE X cl a a')(hn:noStar a=true):SI X cl (.Tuple elts kx tp) (.Call (.Name "enumerate" p) [a] [] pos) (.enm a'):=Bt qc I hm ha hn
end
end RS
namespace L2
open PySem PySem.Spec PyProof.Rows
section
variable{prog:Program}{w:World}{A:Around}{E:Value->Shared->Prop}
def zo{x y:Value}{S1:Addr->Shared->Prop}{S2:Addr->Addr->Shared->Prop}{z:Shared}{Q:Value->Shared->Prop}(e:∀ A:Around,wpAny (model prog w) A (pyIter x) (fun v z1=>∃ it,v=.ref it/\S1 it z1) (fun _ _=>False) z)
 (c:∀ it z1,S1 it z1->∀ A:Around,wpAny (model prog w) A (pyIter y) (fun v z2=>∃ I,v=.ref I/\S2 it I z2) (fun _ _=>False) z1)
 (k:∀ it I z2,S2 it I z2->Q (.ref (((z2.heap.push { cls:=.type "tuple",data:=.seq (List.toArray [.ref it,.ref I]) }).push { cls:=.type "tuple",data:=.seq (List.toArray [.none,.none]) })).objs.size)
   { z2 with heap:=((z2.heap.push { cls:=.type "tuple",data:=.seq (List.toArray [.ref it,.ref I]) }).push { cls:=.type "tuple",data:=.seq (List.toArray [.none,.none]) }).push { cls:=.type "zip",data:=.fields (List.toArray [.none,.bool false,.bool false,.ref z2.heap.objs.size,.ref (z2.heap.push { cls:=.type "tuple",data:=.seq (List.toArray [.ref it,.ref I]) }).objs.size]) } }) :
  wpAny (model prog w) A (call (.type "zip") [x,y]) Q E z:=by
 have body:MeetsIn prog w (Builtin.«zip.__new__» ⟨[.type "zip",x,y],[]⟩) (fun A R s=>s=z/\∀ it I z2,S2 it I z2->R (.ok (.ret (.ref (((z2.heap.push { cls:=.type "tuple",data:=.seq (List.toArray [.ref it,.ref I]) }).push { cls:=.type "tuple",data:=.seq (List.toArray [.none,.none]) })).objs.size)))
   { z2 with heap:=((z2.heap.push { cls:=.type "tuple",data:=.seq (List.toArray [.ref it,.ref I]) }).push { cls:=.type "tuple",data:=.seq (List.toArray [.none,.none]) }).push { cls:=.type "zip",data:=.fields (List.toArray [.none,.bool false,.bool false,.ref z2.heap.objs.size,.ref (z2.heap.push { cls:=.type "tuple",data:=.seq (List.toArray [.ref it,.ref I]) }).objs.size]) } }):=by
  rintro A R s ⟨rfl,j⟩;have Y:=sub_zip;have iter:=e A.in1;obtain⟨t,g,d,r,os⟩:=s
  wp_walk using nD iter
  rintro _ z1 ⟨it,rfl,m⟩;have O:=c it z1 m A.in1;obtain⟨i,o,q,tk1,b⟩:=z1
  wp_walk using nD O
  rintro _ z2 ⟨I,rfl,l⟩;have U:=j it I z2 l;obtain⟨f,n,p,Z,a⟩:=z2
  wp_walk
  exact U
 refine callType_newIn F.called_zip ∅ (F.typeCall_zip_2 _ _) (F.newCall_zip_2 _ _) (fun obj=>F.args_object_init_3 obj _ _) F.entry_zip_new body ⟨rfl,fun it I z2 h=>?_⟩;exact#[#[_,Jd _ rfl,rfl],k it I z2 h]
structure iw(z TI TO i1 i2:Addr)(fp1 fp2:List Addr):Prop where
 zTI:TI≠z
 zTO:TO≠z
 TT:TI≠TO
 i1z:i1≠z
 i2z:i2≠z
 Fb:i1≠TO
 EC:i2≠TO
 i12:i1≠i2
 z1:z∉fp1
 z2:z∉fp2
 TO1:TO∉fp1
 TO2:TO∉fp2
 i1f:i1∉fp2
 i2f:i2∉fp1
def xp{z TI TO i1 i2:Addr}{fp1 fp2:List Addr}{h Y k:Nat}{P1 P2:Nat->Value->Prop}{n p:Nat->Heap->Prop}{a b:Value}{s:Shared}{Q:Value->Shared->Prop}(Z:iw z TI TO i1 i2 fp1 fp2)
 (r:Draws prog w A i1 fp1 h P1 n)(F:Draws prog w A i2 fp2 Y P2 p)(hz:IsZip s.heap z TI TO .none)(S:IsPair s.heap TI (.ref i1) (.ref i2))(R:IsPair s.heap TO a b)(s1:n k s.heap)(s2:p k s.heap)(k1:k<h)(k2:k<Y)
 (hQ:∀ x y g tk,P1 k x->P2 k y->IsZip g z TI TO (rawInt s.heap.objs.size)->IsPair g TO x y->n (k+1) g->p (k+1) g->IsPair g s.heap.objs.size x y->g.objs.size=s.heap.objs.size+1->(∀ c o,c≠z->c≠TO->c≠i1->c≠i2->s.heap.get? c=some o->g.get? c=some o)->Q (.ref s.heap.objs.size) { s with heap:=g,toks:=tk }) :
  wpAny (model prog w) A (Builtin.«zip.__next__» ⟨[.ref z],[]⟩) (fun V s'=>∃ v,V=.done (.ret v)/\Q v s') E s:=by
 obtain⟨l,g,d,tk,os⟩:=s;have off:∀ (f:Obj->Obj) b o,b≠z->l.get? b=some o->(l.update z f).get? b=some o:=fun f b o hb e=>(Heap.SameBut.update ..).extBut b o hb e;have B:∀ f:Obj->Obj,n k (l.update z f):=fun f=>r.frame k _ _ s1 fun b hb o e=>off f b o (fun q=>Z.z1 (q▸hb)) e;have M:∀ f:Obj->Obj,p k (l.update z f):=fun f=>F.frame k _ _ s2 fun b hb o e=>off f b o (fun q=>Z.z2 (q▸hb)) e;unfold Builtin.«zip.__next__»
 wp_walk using AutoSeq1.wpAny_loadPart' hz,AutoSeq1.wpAny_loadPart' S,wpAny_onRaise,(r.item k _ _ _ k1 (B _))
 intro x T t1 px u j;have P:IsPair T TO a b:=j.extBut _ _ (Ne.symm Z.Fb) (off _ TO _ Z.zTO R);have z1:IsZip T z TI TO .ellipsis:=j.extBut _ _ (Ne.symm Z.i1z) (Jq _ hz rfl);have u1:=j.1;have c1:∀ c o,c≠z->c≠i1->l.get? c=some o->T.get? c=some o:=fun c o h Y e=>j.extBut _ _ Y (off _ c o h e);clear j B M
 wp_walk using AutoSeq1.wpAny_loadPart' P,(wpAny_updateSeq_pair P)
 intro D Qa i
 replace Qa:IsPair D TO x b:=Qa
 have z2:IsZip D z TI TO .ellipsis:=i.extBut _ _ (Ne.symm Z.zTO) z1;have X:∀ c o,c≠z->c≠TO->c≠i1->l.get? c=some o->D.get? c=some o:=fun c o h Y m e=>i.extBut _ _ Y (c1 c o h m e);have e1:n (k+1) D:=r.frame _ _ _ u fun b hb o e=>i.extBut _ _ (fun q=>Z.TO1 (q▸hb)) e;have e2:p k D:=F.frame _ _ _ s2 fun b hb o e=>X b o (fun q=>Z.z2 (q▸hb)) (fun q=>Z.TO2 (q▸hb)) (fun q=>Z.i1f (q▸hb)) e;have u2:=i.1.trans u1;clear i u1 c1 z1 P
 wp_walk using wpAny_onRaise,(F.item k _ _ _ k2 e2)
 intro y K t3 py f2 U;have N:IsPair K TO x b:=U.extBut _ _ (Ne.symm Z.EC) Qa;have z3:IsZip K z TI TO .ellipsis:=U.extBut _ _ (Ne.symm Z.i2z) z2;have f1:n (k+1) K:=r.frame _ _ _ e1 fun b hb o e=>U.extBut _ _ (fun q=>Z.i2f (q▸hb)) e;have c3:∀ c o,c≠z->c≠TO->c≠i1->c≠i2->l.get? c=some o->K.get? c=some o:=fun c o h Y m C e=>U.extBut _ _ C (X c o h Y m e);have u3:=U.1.trans u2;clear U u2 X z2 Qa e1 e2
 wp_walk using AutoSeq1.wpAny_loadPart' N,(wpAny_updateSeq_pair N)
 intro I H O
 replace H:IsPair I TO x y:=H
 have z4:IsZip I z TI TO .ellipsis:=O.extBut _ _ (Ne.symm Z.zTO) z3;have g1:n (k+1) I:=r.frame _ _ _ f1 fun b hb o e=>O.extBut _ _ (fun q=>Z.TO1 (q▸hb)) e;have g2:p (k+1) I:=F.frame _ _ _ f2 fun b hb o e=>O.extBut _ _ (fun q=>Z.TO2 (q▸hb)) e;have c4:∀ c o,c≠z->c≠TO->c≠i1->c≠i2->l.get? c=some o->I.get? c=some o:=fun c o h Y m C e=>O.extBut _ _ Y (c3 c o h Y m C e);have u4:=O.1.trans u3;clear O u3 c3 z3 N f1 f2
 wp_walk using AutoSeq1.wpAny_loadPart' H
 have G:I.objs.size=l.objs.size:=u4.trans (Heap.SameBut.update ..).1;refine#[_,rfl,?_];show Q (.ref I.objs.size) _;have zp:IsZip (I.push { cls:=.type "tuple",data:=.seq (List.toArray [x,y]).toList.toArray }) z TI TO .ellipsis:=Jb _ z4;have L:z<I.objs.size:=Jf z4
 have t:∀ (f f':Obj->Obj) c o,c≠z->(I.push { cls:=.type "tuple",data:=.seq (List.toArray [x,y]).toList.toArray }).get? c=some o->(((I.push { cls:=.type "tuple",data:=.seq (List.toArray [x,y]).toList.toArray }).update z f).update z f').get? c=some o:=fun f f' c o hc e =>
  (Heap.SameBut.update ..).extBut c o hc ((Heap.SameBut.update ..).extBut c o hc e)
 have goal:=hQ x y (((I.push { cls:=.type "tuple",data:=.seq (List.toArray [x,y]).toList.toArray }).update z (Obj.mapFields (·.setIfInBounds 0 (rawInt I.objs.size)))).update z (Obj.mapFields (·.setIfInBounds 1 (.bool false)))) t3 px py ?_ ?_ ?_ ?_ ?_ ?_ ?_
 ·rw[G]at goal ⊢;exact goal
 ·rw[<-G];exact Jq _ (Jq _ zp rfl) rfl
 ·exact t _ _ _ _ Z.zTO (Jb _ H)
 ·exact r.frame _ _ _ g1 fun b hb o e=>t _ _ _ _ (fun q=>Z.z1 (q▸hb)) (Jb _ e)
 ·exact F.frame _ _ _ g2 fun b hb o e=>t _ _ _ _ (fun q=>Z.z2 (q▸hb)) (Jb _ e)
 ·show IsPair _ l.objs.size x y;rw[<-G];exact t _ _ _ _ (ne_of_gt L) (Jd _ rfl)
 ·refine((Heap.SameBut.update ..).1.trans ((Heap.SameBut.update ..).1.trans ((Jt ..).trans ?_)));show I.objs.size+1=l.objs.size+1;rw[G]
 ·exact fun c o h Y m C e=>t _ _ _ _ h (Jb _ (c4 c o h Y m C e))
def A6{z TI TO i1 i2:Addr}{fp1 fp2:List Addr}{I:Nat}{B:Nat->Value->Prop}{k:Nat->Heap->Prop}{a b:Value}{s:Shared}{Q:Fin->Shared->Prop}(Z:iw z TI TO i1 i2 fp1 fp2)
 (n:Draws prog w A i1 fp1 I B k)(l:IsZip s.heap z TI TO .none)(j:IsPair s.heap TI (.ref i1) (.ref i2))(t:IsPair s.heap TO a b)(s1:k I s.heap)
 (u:∀ g e,(∀ c o,c≠z->c≠i1->s.heap.get? c=some o->g.get? c=some o)->(∃ o,g.get? e=some o/\o.cls=.type "StopIteration")->E (.ref e) { s with heap:=g }) :
  wpAny (model prog w) A (Builtin.«zip.__next__» ⟨[.ref z],[]⟩) Q E s:=by
 obtain⟨h,g,d,C,os⟩:=s;have off:∀ (f:Obj->Obj) b o,b≠z->h.get? b=some o->(h.update z f).get? b=some o:=fun f b o hb e=>(Heap.SameBut.update ..).extBut b o hb e;have Y:∀ f:Obj->Obj,k I (h.update z f):=fun f=>n.frame I _ _ s1 fun b hb o e=>off f b o (fun q=>Z.z1 (q▸hb)) e;unfold Builtin.«zip.__next__»
 wp_walk using AutoSeq1.wpAny_loadPart' l,AutoSeq1.wpAny_loadPart' j,wpAny_onRaise,(n.done _ _ _ (Y _))
 rintro x e m ⟨p,i,O⟩;have z1:IsZip x z TI TO .ellipsis:=m _ _ (Ne.symm Z.i1z) (Jq _ l rfl)
 have y:e≠z:=fun q=>by
  rw[q,z1]at i;have:=Option.some.inj i;rw[<-this]at O;simp at O
 refine wpAny_setField_rec z1 (by simp) fun v _ U=>?_;exact u v e (fun c o I r q=>U.extBut _ _ I (m _ _ r (off _ _ _ I q))) ⟨p,U.extBut _ _ y i,O⟩
end
section
variable{prog:Program}{w:World}{A:Around}{E:Value->Shared->Prop}{z TI TO i1 i2:Addr}{fp1 fp2:List Addr}{n1 n2 k:Nat}{P1 P2:Nat->Value->Prop}{S1 S2:Nat->Heap->Prop}{a b:Value}{s:Shared}
def wt{Q:Option Value->Shared->Prop}(Z:iw z TI TO i1 i2 fp1 fp2)(t:Draws prog w A.in1 i1 fp1 n1 P1 S1)(r:Draws prog w A.in1 i2 fp2 n2 P2 S2)(Y:IsZip s.heap z TI TO .none)(U:IsPair s.heap TI (.ref i1) (.ref i2))(O:IsPair s.heap TO a b)(s1:S1 k s.heap)(s2:S2 k s.heap)(k1:k<n1)(k2:k<n2)
 (q:∀ x y g I,P1 k x->P2 k y->IsZip g z TI TO (rawInt s.heap.objs.size)->IsPair g TO x y->S1 (k+1) g->S2 (k+1) g->IsPair g s.heap.objs.size x y->g.objs.size=s.heap.objs.size+1->(∀ c o,c≠z->c≠TO->c≠i1->c≠i2->s.heap.get? c=some o->g.get? c=some o)->Q (some (.ref s.heap.objs.size)) { s with heap:=g,toks:=I }) :
  wpAny (model prog w) A (pyNext (.ref z)) Q E s:=by
 have d:s.TypeIs (.ref z) "zip" := #[_,Y,rfl]
 unfold pyNext;k_in;apply wpAny_attempt;apply wpAny_callSpecial?_slot (name:=Str.ofString "__next__") d F.slot_zip_next;refine wpAny_call_entry F.slot_zip_next d F.entry_zip_next ?_ (F.args_zip_next_1 _);refine xp Z t r Y U O s1 s2 k1 k2 fun x y g I p n m l j i h f e=>?_;apply Jc;exact q x y g I p n m l j i h f e
def xq{Q:Option Value->Shared->Prop}(Z:iw z TI TO i1 i2 fp1 fp2)(i:Draws prog w A.in1 i1 fp1 n1 P1 S1)(U:IsZip s.heap z TI TO .none)(O:IsPair s.heap TI (.ref i1) (.ref i2))(I:IsPair s.heap TO a b)(s1:S1 n1 s.heap)
 (h:∀ g,(∀ c o,c≠z->c≠i1->s.heap.get? c=some o->g.get? c=some o)->Q none { s with heap:=g }):wpAny (model prog w) A (pyNext (.ref z)) Q E s:=by
 have Y:s.TypeIs (.ref z) "zip" := #[_,U,rfl]
 unfold pyNext;k_in;apply wpAny_attempt;apply wpAny_callSpecial?_slot (name:=Str.ofString "__next__") Y F.slot_zip_next;refine wpAny_call_entry F.slot_zip_next Y F.entry_zip_next ?_ (F.args_zip_next_1 _);refine A6 Z i U O I s1 fun g e hk ⟨o,d,f⟩=>?_;k_in;refine wpAny_isInstance (T := "StopIteration") (b:=true) ⟨_,d,f⟩ isSubtype_stop ?_;apply Jc;exact h g hk
end
section
variable{s:Shared}
def eg.tN(hd:eg A s.heap):A.handled≠some (.ref s.heap.objs.size):=fun q=>by
 rcases hd with z | ⟨x,o,U,O,I,_,_⟩
 ·rw[z]at q;cases q
 ·rw[O]at q;cases q;exact Jw _ (Jf I)
def sN(hd:eg A s.heap)(a:A.handled≠some (.ref it))(I:IsTupIter s.heap it t i)(g:IsTup s.heap t its)(f:its[i]?=none)
 (k:∀ h',Heap.ExtBut it s.heap h'->Q none { s with heap:=h' }):wpAny (model prog w) A (pyNext (.ref it)) Q E s:=by
 obtain⟨o,ho,m,O⟩:=id I;obtain⟨j,U,_,l,Y⟩:=g;unfold pyNext;k_in;apply wpAny_attempt;apply wpAny_callSpecial?_slot (name:=Str.ofString "__next__") I.typeIs slot_tupleiter_next;refine wpAny_call_entry slot_tupleiter_next I.typeIs entry_tupleiter_next ?_ (args_tupleiter_next _);have c:¬ ((Value.ref t == Value.none)=true):=Jo;refine show wpAny _ _ (field (.ref it) 0 >>= _) _ _ s from Ja (wpAny_field ho O (x:=.ref t) rfl ?_);refine show wpAny _ _ (if(Value.ref t == Value.none)=true then _ else _) _ _ s from ?_;rw[if_neg c];refine show wpAny _ _ (field (.ref it) 1 >>= _) _ _ s from Ja (wpAny_field ho O (x:=.int i 0) rfl ?_);refine show wpAny _ _ (seqItems? (.ref t) >>= _) _ _ s from Ja (wpAny_seqItems U Y ?_);simp only[toNat_natCast,f];refine Ja (wpAny_rule (Ja (wpAny_setField ho O (by simp) ?_)));refine show wpAny _ _ (newExc (.type "StopIteration") [] >>= _) _ _ _ from Ja ?_;have Z:=Heap.SameBut.update s.heap it (Obj.mapFields (·.setIfInBounds 0 Value.none));refine l3 (hd.keeps fun b u vs e _ hb=>(Z.2 b fun z=>a (z▸hb)).trans e) fun h' e d h=>?_;k_in;refine wpAny_isInstance (T := "StopIteration") (b:=true) h isSubtype_stop ?_;exact Jc (k h' fun b u hb q=>d b u ((Z.2 b hb).trans q))
def take_all{its:Array Value}:List.take its.size (List.drop 0 its.toList)=its.toList:=by
 rw[drop_zero,List.take_of_length_le (by simp)]
def sI{t:Addr}(hd:eg A s.heap)(I:IsTup s.heap t its)(k:∀ h',Heap.ExtBut s.heap.objs.size s.heap h'->Q its.toList { s with heap:=h' }):wpAny (model prog w) A (unpackItems (.ref t) its.size none) Q E s:=by
 have O:t≠s.heap.objs.size:=Jl I.lt;have nn:=hd.tN;unfold unpackItems;k_in;unfold notIterableAtAll;k_in;refine wpAny_specialOf I.typeIs slot_tuple_iter.lookup (Jc ?_);simp only[false_eq_true,if_false];k_in;refine wpAny_holding (iter_tuple I ?_);k_in;refine wpAny_holding (draw_tuple O its.size 0 _ _ ⟨_,Jd _ rfl,rfl,rfl⟩ (I.push _) (by omega) fun g Y U=>?_);rw[take_all,if_neg (by simp)];k_in;refine wpAny_holding (sN (hd.keeps fun b o vs e _ hb=>(U.2 b fun z=>nn (z▸hb)).trans (Jb _ e)) nn Y ((I.push _).extBut U.extBut O) (by simp) fun g2 Z=>?_);simp only[Option.isSome_none,false_eq_true,if_false];exact Jc (k g2 fun b o hb e=>Z b o hb (U.extBut b o hb (Jb _ e)))
def rT{l:Addr}(hd:eg A s.heap)(O:s.heap.IsList l its)(k:∀ h',Heap.ExtBut s.heap.objs.size s.heap h'->Q its.toList { s with heap:=h' }):wpAny (model prog w) A (unpackItems (.ref l) its.size none) Q E s:=by
 have I:l≠s.heap.objs.size:=let ⟨o,ho,_⟩:=O;Jl (Jf ho);have nn:=hd.tN;unfold unpackItems;k_in;unfold notIterableAtAll;k_in;refine wpAny_specialOf O.typeIs slot_list_iter.lookup (Jc ?_);simp only[false_eq_true,if_false];k_in;refine wpAny_holding (wpAny_pyIter_list O ?_);k_in;refine wpAny_holding (W.kun_draw I its.size 0 _ _ ⟨_,Jd _ rfl,rfl,rfl⟩ (O.push _) (by omega) fun g Y U=>?_);rw[take_all,if_neg (by simp)];k_in;refine wpAny_holding (qj (hd.keeps fun b o vs e _ hb=>(U.2 b fun z=>nn (z▸hb)).trans (Jb _ e)) nn Y ((O.push _).extBut U.extBut I) (by simp) fun g2 Z=>?_);simp only[Option.isSome_none,false_eq_true,if_false];exact Jc (k g2 fun b o hb e=>Z b o hb (U.extBut b o hb (Jb _ e)))
def xv(Y:A.handled=some (.ref x))(hd:ox.data=.fields xs)(b:xs[2]?=some .none)(nx:x≠it)(U:l≠it)(its:Array Value) :
  Draws prog w A it [it,l,x] its.size (fun i v=>its[i]?=some v) (fun i h=>(h.IsListIter it l i/\h.IsList l its)/\h.get? x=some ox) where
 live:=fun _ _ st=>let ⟨o,ho,_⟩:=st.1.1;⟨o,ho⟩
 frame:=fun _ _ _ st hk=>#[#[st.1.1.at fun o e=>hk it (by simp) o e,st.1.2.at fun o e=>hk l (by simp) o e],hk x (by simp) _ st.2]
 item:=fun i s Q E hi st Z=>wpAny_nextOf_list_item st.1.1 st.1.2 (x:=its[i]) (by simp[hi]) fun h' O I=>Z _ h' s.toks (by simp[hi]) ⟨⟨O,st.1.2.extBut I.extBut U⟩,(I.2 x nx).trans st.2⟩ I
 done:=fun s Q E st a=>mV (.inr #[x,ox,xs,Y,st.2,hd,b]) (fun q=>by rw[Y]at q;cases q;exact nx rfl) st.1.1 st.1.2 (by simp) a
def vg(O:A.handled=some (.ref x))(hd:ox.data=.fields xs)(b:xs[2]?=some .none)(nx:x≠it)(I:l≠it)(its:Array Value) :
  Draws prog w A it [it,l,x] its.size (fun i v=>its[i]?=some v) (fun i h=>(h.IsTupleIter it l i/\h.IsTuple l its)/\h.get? x=some ox) where
 live:=fun _ _ st=>let ⟨o,ho,_⟩:=st.1.1;⟨o,ho⟩
 frame:=fun _ _ _ st hk=>by
  obtain⟨⟨⟨Z,e,r1⟩,⟨Y,d,U⟩⟩,c⟩:=st;exact#[#[#[Z,hk it (by simp) _ e,r1],#[Y,hk l (by simp) _ d,U]],hk x (by simp) _ c]
 item:=fun i s Q E hi st k=>pf st.1.1 st.1.2 (x:=its[i]) (by simp[hi]) fun g g1 g2=>k its[i] g s.toks (by simp[hi]) ⟨⟨g1,st.1.2.extBut g2.extBut I⟩,(g2.2 x nx).trans st.2⟩ g2
 done:=fun s Q E st a=>rF (.inr #[x,ox,xs,O,st.2,hd,b]) (fun q=>by rw[O]at q;cases q;exact nx rfl) st.1.1 st.1.2 (by simp) a
end
section
def Inv.hd(I:Inv X pins J H s):eg X.A s.heap:=by
 rcases I.ok.hd.2 with z | ⟨h,o,u,vs,Z,Y,U,O⟩
 ·exact .inl z
 ·exact .inr #[h,o,vs,Z,(I.hok _ _ (I.base.c8 _ _ _ Y)).1,U,O]
end
inductive SK where
 | t
 | l
 | f (o:Obj)
abbrev SK.tp:SK->Bool
 | .t=>true
 | _=>false
abbrev d8:SK->List V->HO
 | .t,xs=>.tup xs
 | .l,xs=>.lst xs
 | .f o,xs=>.frz o (.lst xs)
def qu{K:W.Frag}{k:SK}{H:Hp}(h:k.tp=false)(I:H l=some (d8 k xs)):SqL K H l xs:=by
 cases k with
 | t=>cases h
 | l=>exact SqL.of I
 | f o=>exact .inl (.inr #[o,I])
def qC{k:SK}{H:Hp}(h:k.tp=true)(I:H l=some (d8 k xs)):H l=some (.tup xs):=by
 cases k with
 | t=>exact I
 | l=>cases h
 | f o=>cases h
abbrev hV(t:Bool)(it l:Addr)(i:Nat)(h:Heap):Prop:=if t then h.IsTupleIter it l i else h.IsListIter it l i
def hV.obj(st:hV t it l i h):∃ o,h.get? it=some o/\∀ v,o.data≠.cell v:=by
 cases t with
 | true=>exact let ⟨o,ho,_,hd⟩:=(show h.IsTupleIter it l i from st);⟨o,ho,fun v q=>by rw[hd]at q;cases q⟩
 | false=>exact let ⟨o,ho,_,hd⟩:=(show h.IsListIter it l i from st);⟨o,ho,fun v q=>by rw[hd]at q;cases q⟩
def hV.keep(st:hV t it l i h)(k:∀ o,h.get? it=some o->h'.get? it=some o):hV t it l i h':=by
 cases t with
 | true=>exact let ⟨o,ho,r⟩:=(show h.IsTupleIter it l i from st);⟨o,k o ho,r⟩
 | false=>exact(show h.IsListIter it l i from st).at fun o q=>k o q
def gN{k:SK}(I:Inv X pins J H s)(hi:H it=none)(Y:H l=some (d8 k xs))(g:k.tp=t) :
  ∃ (fp:List Addr) (Pv:Nat->Value->Prop) (St:Nat->Heap->Prop),Draws X.prog X.w X.A.in1 it fp xs.length Pv St/\(∀ b∈fp,b=it\/H b≠none)/\(∀ i,hV t it l i s.heap->St i s.heap)/\(∀ i h,St i h->hV t it l i h)/\∀ i v,Pv i v->∃ x,xs[i]?=some x/\RelV x v:=by
 have back:∀ {its:List Value},Vals xs its->∀ (i:Nat) (v:Value),its.toArray[i]?=some v->∃ x,xs[i]?=some x/\RelV x v:=fun {its} U i v f=>by
  have f:its[i]?=some v:=by simpa using f
  have c:i<xs.length:=by rw[U.length];exact(List.getElem?_eq_some_iff.mp f).1
  obtain⟨u,m,q⟩:=U.get (i:=i) (x:=xs[i]) (by simp[c]);rw[f]at m;cases m;exact#[xs[i],by simp[c],q]
 have two:∀ {u:HO},H l=some u->∀ b∈[it,l],b=it\/H b≠none:=fun {u} e b hb=>by
  rcases List.mem_cons.mp hb with z | z
  ·exact .inl z
  ·rw[List.mem_singleton.mp z,e]
   exact .inr fun z=>nomatch z
 rcases I.ok.hd.2 with d | ⟨x,o,y,r,d,g1,g2,n⟩
 ·cases t with
  |true=>
   have O:H l=some (.tup xs):=qC g Y;obtain⟨its,U,p,j⟩:=I.tuple (SqT.of O);have D:=qc.draws (prog:=X.prog) (w:=X.w) (A:=X.A.in1) d it l (aJ O hi) its.toArray;rw[show its.toArray.size=xs.length by rw[size_toArray,U.length]]at D;exact#[_,_,_,D,two O,fun i st=>#[st,p],fun i h st=>st.1,back U]
  |false=>
   have O:=Y;obtain⟨its,U,p,j⟩:=I.list (qu g O);have D:=Draws.list (prog:=X.prog) (w:=X.w) (A:=X.A.in1) d it l (aJ O hi) its.toArray;rw[show its.toArray.size=xs.length by rw[size_toArray,U.length]]at D;exact#[_,_,_,D,two O,fun i st=>#[st,p.isList],fun i h st=>st.1,back U]
 ·have Z:=I.base.c8 _ _ _ g1;have a:s.heap.get? x=some o:=(I.hok _ _ Z).1;have nx:x≠it:=aJ Z hi
  have three:∀ {u:HO},H l=some u->∀ b∈[it,l,x],b=it\/H b≠none:=fun {u} e b hb=>by
   simp only[mem_cons,mem_nil_iff,or_false]at hb;rcases hb with z | z | z
   ·exact .inl z
   ·rw[z,e]
    exact .inr fun z=>nomatch z
   ·rw[z,Z]
    exact .inr fun z=>nomatch z
  cases t with
  |true=>
   have O:H l=some (.tup xs):=qC g Y;obtain⟨its,U,p,j⟩:=I.tuple (SqT.of O);have D:=vg (prog:=X.prog) (w:=X.w) (A:=X.A.in1) d g2 n nx (aJ O hi) its.toArray;rw[show its.toArray.size=xs.length by rw[size_toArray,U.length]]at D;exact#[_,_,_,D,three O,fun i st=>#[#[st,p],a],fun i h st=>st.1.1,back U]
  |false=>
   have O:=Y;obtain⟨its,U,p,j⟩:=I.list (qu g O);have D:=xv (prog:=X.prog) (w:=X.w) (A:=X.A.in1) d g2 n nx (aJ O hi) its.toArray;rw[show its.toArray.size=xs.length by rw[size_toArray,U.length]]at D;exact#[_,_,_,D,three O,fun i st=>#[#[st,p.isList],a],fun i h st=>st.1.1,back U]
abbrev Itz(t1 t2:SK)(O I:Addr):It :=
 ⟨fun i H=>∃ xs ys x y,H O=some (d8 t1 xs)/\H I=some (d8 t2 ys)/\xs[i]?=some x/\ys[i]?=some y,
   fun i H v H'=>∃ p x y,H p=none/\v=.ref p/\H'=upd H p (.tup [x,y])/\(∀ xs,H O=some (d8 t1 xs)->xs[i]?=some x)/\∀ ys,H I=some (d8 t2 ys)->ys[i]?=some y,
   fun i H=>∃ xs ys,H O=some (d8 t1 xs)/\H I=some (d8 t2 ys)/\xs.length=i/\ys.length=i⟩
def ph(h:d8 t xs=d8 t ys):xs=ys:=by
 cases t with
 | t=>injection h
 | l=>injection h
 | f o=>injection h with _ h;injection h
def wj{P:Program}{w:World}{K:W.Frag}{elts:List Expr}{kx:Nat}{tp:Pos}{t1 t2:SK}{z TI TO i1 i2 l1 l2:Addr}(T:TI≠z)(n2:TO≠z)(n3:TI≠TO)(F:i1≠z)(D:i2≠z)(S:i1≠TO)(R:i2≠TO)(B:i1≠i2)(n9:i1≠TI)(n10:i2≠TI) :
  kX (fun _=>True) P w K (.Tuple elts kx tp) (Itz t1 t2 l1 l2) [z,TI,TO,i1,i2] z (fun i h=>IsZip h z TI TO .none/\IsPair h TI (.ref i1) (.ref i2)/\(∃ a b,IsPair h TO a b)/\hV t1.tp i1 l1 i h/\hV t2.tp i2 l2 i h) where
 mem:=by simp
 obj:=fun i h st b hb=>by
  obtain⟨j,O,⟨a,c,d⟩,Y,t⟩:=st;simp only[mem_cons,mem_nil_iff,or_false]at hb;rcases hb with rfl | rfl | rfl | rfl | rfl
  ·exact⟨_,j,fun v q=>by cases q⟩
  ·exact⟨_,O,fun v q=>by cases q⟩
  ·exact⟨_,d,fun v q=>by cases q⟩
  ·exact Y.obj
  ·exact t.obj
 keep:=fun i h h' st k=>by
  obtain⟨j,O,⟨a,c,d⟩,Y,t⟩:=st;exact#[k z (by simp) _ j,k TI (by simp) _ O,#[a,c,k TO (by simp) _ d],Y.keep fun o q=>k i1 (by simp) o q,t.keep fun o q=>k i2 (by simp) o q]
 item:=by
  intro X hP hw hK hc i pins s J H E I hf st hg;subst hP hw hK;obtain⟨j,O,⟨a,c,d⟩,Y,t⟩:=st;obtain⟨xs,ys,x,y,hx,V,ex,ey⟩:=hg;have f:∀ b∈[z,TI,TO,i1,i2],H b=none:=fun b hb=>(hf b hb).1;obtain⟨fp1,Pv1,St1,D1,r,a1,a2,a3⟩:=gN I (f i1 (by simp)) hx rfl;obtain⟨fp2,Pv2,St2,D2,l,b1,b2,b3⟩:=gN I (f i2 (by simp)) V rfl;have no:∀ {fp:List Addr} {i b:Addr},(∀ b∈fp,b=i\/H b≠none)->b∈[z,TI,TO,i1,i2]->b≠i->b∉fp:=fun m hb n z=>(m _ z).elim n fun q=>q (f _ hb)
  have Z:iw z TI TO i1 i2 fp1 fp2:=#[T,n2,n3,F,D,S,R,B,no r (by simp) (Ne.symm F),no l (by simp) (Ne.symm D),no r (by simp) (Ne.symm S),no l (by simp) (Ne.symm R),no l (by simp) B,no r (by simp) (Ne.symm B)]
  refine wt Z D1 D2 j O d (a1 i Y) (b1 i t) (List.getElem?_eq_some_iff.mp ex).1 (List.getElem?_eq_some_iff.mp ey).1 fun u v g C pu pv g1 g2 g3 g4 g5 g6 g7=>?_;obtain⟨x',N,rx⟩:=a3 i u pu;obtain⟨y',M,ry⟩:=b3 i v pv;rw[ex]at N;rw[ey]at M;cases N;cases M;refine#[.ref s.heap.objs.size,rfl,wpAny_letOwnedTupleGo_zip g1 fun g' gz' sb=>?_];have hn:H s.heap.objs.size=none:=I.hok.fresh (Je _)
  have I1:Inv X pins J (upd H s.heap.objs.size (.tup [x,y])) { s with heap:=s.heap.push { cls:=.type "tuple",data:=.seq (List.toArray [u,v]) },toks:=C } :=
   I.laid (t':=C) (fun b o q=>Jb _ q) (Je _) ⟨by show 2<=sizeLine;decide,[u,v],.cons rx (.cons ry .nil),⟨_,Jd _ rfl,rfl,_,rfl⟩⟩
  have lt:∀ b∈[z,TI,TO,i1,i2],b≠s.heap.objs.size:=fun b hb=>by
   have:∃ o,s.heap.get? b=some o:=by
    simp only[mem_cons,mem_nil_iff,or_false]at hb;rcases hb with rfl | rfl | rfl | rfl | rfl
    ·exact#[_,j]
    ·exact#[_,O]
    ·exact#[_,d]
    ·exact let ⟨o,q,_⟩:=Y.obj;⟨o,q⟩
    ·exact let ⟨o,q,_⟩:=t.obj;⟨o,q⟩
   obtain⟨o,q⟩:=this;exact Jl (Jf q)
  have U:∀ b∈[z,TI,TO,i1,i2],upd H s.heap.objs.size (.tup [x,y]) b=none/\(b∈X.ex\/X.s₀.heap.objs.size<=b)/\b≠X.env.locals/\(∀ x c,X.env.cells.lookup x=some c->c≠b)/\∀ p∈X.pn++pins,p.1≠b:=fun b hb=>by
   obtain⟨f0,f1,f2,f3,f4,f5⟩:=hf b hb;exact#[by rw[ax (lt b hb)];exact f0,f3,f1,f4,f5]
  have I2:Inv X pins J (upd H s.heap.objs.size (.tup [x,y])) { s with heap:=g',toks:=C }:=by
   refine Inv.lS (s:={ s with heap:=s.heap.push { cls:=.type "tuple",data:=.seq (List.toArray [u,v]) },toks:=C }) (h':=g') (t':=C) (fp:=[z,TI,TO,i1,i2]) I1 (fun b o hb q=>?_) U;simp only[mem_cons,mem_nil_iff,or_false,not_or]at hb;refine sb.extBut b o hb.1 ?_;by_cases L:b=s.heap.objs.size
   ·subst L;have q':(s.heap.push { cls:=.type "tuple",data:=.seq (List.toArray [u,v]) }).get? s.heap.objs.size=some o:=q;rw[Jd _ rfl]at q';cases q';exact g5
   ·exact g7 b o hb.1 hb.2.2.1 hb.2.2.2.1 hb.2.2.2.2 ((Heap.get?_push_ne _ _ _ L).symm.trans q)
  have kp:∀ b∈[TI,TO,i1,i2],∀ o,g.get? b=some o->g'.get? b=some o:=fun b hb o q=>sb.extBut b o (fun e=>by
   subst e;simp only[mem_cons,mem_nil_iff,or_false]at hb;rcases hb with e | e | e | e
   ·exact T e.symm
   ·exact n2 e.symm
   ·exact F e.symm
   ·exact D e.symm) q
  refine#[.ref s.heap.objs.size,_,I2,rfl,#[s.heap.objs.size,x,y,hn,rfl,rfl,fun xs' Qa=>?_,fun ys' G=>?_],#[gz',kp TI (by simp) _ (g7 TI _ T n3 (Ne.symm n9) (Ne.symm n10) O),#[u,v,kp TO (by simp) _ g2],(a2 _ _ g3).keep fun o q=>kp i1 (by simp) o q,(b2 _ _ g4).keep fun o q=>kp i2 (by simp) o q],fun b hb=>(U b hb).1]
  ·rw[hx]at Qa;rw[<-ph (Option.some.inj Qa)];exact ex
  ·rw[V]at G;rw[<-ph (Option.some.inj G)];exact ey
 done:=by
  intro X hP hw hK hc i pins s J H E I hf st hg;subst hP hw hK;obtain⟨j,O,⟨a,c,d⟩,Y,t⟩:=st;obtain⟨xs,ys,hx,V,ex,ey⟩:=hg;have f:∀ b∈[z,TI,TO,i1,i2],H b=none:=fun b hb=>(hf b hb).1;obtain⟨fp1,Pv1,St1,D1,r,a1,a2,a3⟩:=gN I (f i1 (by simp)) hx rfl;obtain⟨fp2,_,_,_,l,_⟩:=gN I (f i2 (by simp)) V rfl;have no:∀ {fp:List Addr} {i b:Addr},(∀ b∈fp,b=i\/H b≠none)->b∈[z,TI,TO,i1,i2]->b≠i->b∉fp:=fun m hb n z=>(m _ z).elim n fun q=>q (f _ hb)
  have Z:iw z TI TO i1 i2 fp1 fp2:=#[T,n2,n3,F,D,S,R,B,no r (by simp) (Ne.symm F),no l (by simp) (Ne.symm D),no r (by simp) (Ne.symm S),no l (by simp) (Ne.symm R),no l (by simp) B,no r (by simp) (Ne.symm B)]
  subst ex
  refine xq Z D1 j O d (a1 _ Y) fun g hk=>#[rfl,?_]
  refine Inv.lS (h':=g) (t':=s.toks) (fp:=[z,i1]) I (fun b o hb q=>?_) fun b hb=>?_
  ·simp only[mem_cons,mem_nil_iff,or_false,not_or]at hb;exact hk b o hb.1 hb.2 q
  ·have hb':b∈[z,TI,TO,i1,i2]:=by
    simp only[mem_cons,mem_nil_iff,or_false]at hb ⊢;rcases hb with q | q
    ·exact .inl q
    ·exact .inr (.inr (.inr (.inl q)))
   obtain⟨f0,f1,f2,f3,f4,f5⟩:=hf b hb';exact#[f0,f3,f1,f4,f5]
 self:=fun A i s Q E st h=>wpAny_pyIter_zip st.1 h
def kX.calm{P:Program}{w:World}{K:W.Frag}(T:kX (fun _=>True) P w K tg Qa fp it tn):Turn P w K tg Qa fp it tn where
 mem:=T.mem
 obj:=T.obj
 keep:=T.keep
 item:=fun X a b c O i pins s J H E I=>T.item X a b c trivial i pins s J H E I
 done:=fun X a b c O i pins s J H E I=>T.done X a b c trivial i pins s J H E I
 self:=T.self
def PI'.calm(h:PI' (fun _=>True) X tg iter wi):PI X tg iter wi:=fun pins s J H R I q =>
 thn (h pins s J H R I q) fun v s1 U=>thn U fun O s2 ⟨it,fp,tn,Qa,H',e,Y,T,r⟩=>#[it,fp,tn,Qa,H',e,Y,T.calm,r]
abbrev cZ(t:Bool)(l:Addr):Obj:=if t then { cls:=.type "tuple_iterator",data:=.fields (List.toArray [.ref l,rawInt 0]) } else { cls:=.type "list_iterator",data:=.fields (List.toArray [.ref l,.int 0 0]) }
def nW(e:h.get? it=some (cZ t l)):hV t it l 0 h:=by
 cases t with
 | true=>exact#[_,e,rfl,rfl]
 | false=>exact#[_,e,rfl,rfl]
def nM{t:SK}(I:Inv X pins J H s)(O:H l=some (d8 t xs))(q:Q (.ref s.heap.objs.size) { s with heap:=s.heap.push (cZ t.tp l) }):wpAny (model X.prog X.w) A (pyIter (.ref l)) Q E s:=by
 cases t with
 |t=>
  obtain⟨its,U,p,Y⟩:=I.tuple (SqT.of (show H l=some (.tup xs)from O));exact wpAny_pyIter_tuple p q
 |l=>
  obtain⟨its,U,p,Y⟩:=I.list (SqL.of (show H l=some (.lst xs)from O));exact wpAny_pyIter_list p.isList q
 |f o=>
  obtain⟨its,U,p,Y⟩:=I.list (show SqL X.K H l xs from .inl (.inr #[o,O]));exact wpAny_pyIter_list p.isList q
section
abbrev Er(Y:TA):TI:=fun J H R=>Y J H fun vs U=>∃ t1 t2 O I xs ys,vs=[.ref O,.ref I]/\U O=some (d8 t1 xs)/\U I=some (d8 t2 ys)/\R (Itz t1 t2 O I) U
def far(n a b:Nat)(h:a≠b):n+a≠n+b:=fun q=>h (Nat.add_left_cancel q)
def uL:bootBuiltins "zip" = some (.type "zip"):=by decide +kernel
def CQ(v:Gl X "zip")(hm:X.mg "zip" = none)(ha:PA X [a,b] ta)(u:starEach [a,b] X.env=[(false,eval a X.env),(false,eval b X.env)])(Y:starEach [b] X.env=[(false,eval b X.env)]):PI' (fun _=>True) X (.Tuple elts kx tp) (.Call (.Name "zip" p) [a,b] [] pos) (Er ta):=by
 intro pins k J z R j h;refine Call_ (ik j v hm uL (PyProof.Rows.callWith_type1 (thn (ha pos pins k J z _ j h) fun us s ⟨vs,H,I,r1,m⟩=>?_) (by rw[u,Y]) (by rw[Y];rfl)) ∅ ∅);obtain⟨t1,t2,O,U,xs,ys,rfl,t,n,q⟩:=m
 cases r1 with
 |cons r f=>
  cases f with
  |cons l f=>
   cases f;cases r;cases l;have y:Inv X pins J H { s with heap:=s.heap.push (cZ t1.tp O) }:=I.kept (t':=s.toks) fun b o e=>Jb _ e
   refine zo (S1:=fun it z1=>it=s.heap.objs.size/\z1={ s with heap:=s.heap.push (cZ t1.tp O) }) (S2:=fun it i z2=>it=s.heap.objs.size/\i=(s.heap.push (cZ t1.tp O)).objs.size/\z2={ s with heap:=(s.heap.push (cZ t1.tp O)).push (cZ t2.tp U) })
    (fun A=>nM I t ⟨_,rfl,rfl,rfl⟩) (fun it z1 x A=>?_) fun it i z2 w=>?_
   ·obtain⟨rfl,rfl⟩:=x;exact nM y n ⟨_,rfl,rfl,rfl,rfl⟩
   ·obtain⟨rfl,rfl,rfl⟩:=w;have z1:(s.heap.push (cZ t1.tp O)).objs.size=s.heap.objs.size+1:=Jt ..;generalize e1:s.heap.push (cZ t1.tp O)=g1 at *
    have p1:g1.get? s.heap.objs.size=some (cZ t1.tp O):=by
     rw[<-e1];exact Jd _ (by cases t1<;>rfl)
    have k1:∀ b o,s.heap.get? b=some o->g1.get? b=some o:=fun b o e=>by rw[<-e1];exact Jb _ e
    have z2:(g1.push (cZ t2.tp U)).objs.size=s.heap.objs.size+2:=by rw[Jt,z1]
    have p2:(g1.push (cZ t2.tp U)).get? (s.heap.objs.size+1)=some (cZ t2.tp U):=by
     rw[<-z1];exact Jd _ (by cases t2<;>rfl)
    have k2:∀ b o,g1.get? b=some o->(g1.push (cZ t2.tp U)).get? b=some o:=fun b o e=>Jb _ e;generalize e2:g1.push (cZ t2.tp U)=g2 at *;dsimp only;rw[z1]
    have d:(g2.push { cls:=.type "tuple",data:=.seq (List.toArray [.ref s.heap.objs.size,.ref (s.heap.objs.size+1)]) }).objs.size=s.heap.objs.size+3:=by rw[Jt,z2]
    have p3:(g2.push { cls:=.type "tuple",data:=.seq (List.toArray [.ref s.heap.objs.size,.ref (s.heap.objs.size+1)]) }).get? (s.heap.objs.size+2)=some { cls:=.type "tuple",data:=.seq (List.toArray [.ref s.heap.objs.size,.ref (s.heap.objs.size+1)]) }:=by
     rw[<-z2];exact Jd _ rfl
    have k3:∀ b o,g2.get? b=some o->(g2.push { cls:=.type "tuple",data:=.seq (List.toArray [.ref s.heap.objs.size,.ref (s.heap.objs.size+1)]) }).get? b=some o:=fun b o e=>Jb _ e;rw[z2];generalize e3:g2.push { cls:=.type "tuple",data:=.seq (List.toArray [.ref s.heap.objs.size,.ref (s.heap.objs.size+1)]) }=g3 at *;rw[d]
    have g:(g3.push { cls:=.type "tuple",data:=.seq (List.toArray [.none,.none]) }).objs.size=s.heap.objs.size+4:=by rw[Jt,d]
    have p4:(g3.push { cls:=.type "tuple",data:=.seq (List.toArray [.none,.none]) }).get? (s.heap.objs.size+3)=some { cls:=.type "tuple",data:=.seq (List.toArray [.none,.none]) }:=by
     rw[<-d];exact Jd _ rfl
    have c:∀ b o,g3.get? b=some o->(g3.push { cls:=.type "tuple",data:=.seq (List.toArray [.none,.none]) }).get? b=some o:=fun b o e=>Jb _ e;generalize e4:g3.push { cls:=.type "tuple",data:=.seq (List.toArray [.none,.none]) }=g4 at *;rw[g]
    have p5:(g4.push { cls:=.type "zip",data:=.fields (List.toArray [.none,.bool false,.bool false,.ref (s.heap.objs.size+2),.ref (s.heap.objs.size+3)]) }).get? (s.heap.objs.size+4)=some { cls:=.type "zip",data:=.fields (List.toArray [.none,.bool false,.bool false,.ref (s.heap.objs.size+2),.ref (s.heap.objs.size+3)]) }:=by
     rw[<-g];exact Jd _ rfl
    have k5:∀ b o,g4.get? b=some o->(g4.push { cls:=.type "zip",data:=.fields (List.toArray [.none,.bool false,.bool false,.ref (s.heap.objs.size+2),.ref (s.heap.objs.size+3)]) }).get? b=some o:=fun b o e=>Jb _ e;generalize e5:g4.push { cls:=.type "zip",data:=.fields (List.toArray [.none,.bool false,.bool false,.ref (s.heap.objs.size+2),.ref (s.heap.objs.size+3)]) }=g5 at *
    refine wpAny_pyIter_zip (TI:=s.heap.objs.size+2) (TO:=s.heap.objs.size+3) (f0:=.none) p5 ⟨s.heap.objs.size+4,[s.heap.objs.size+4,s.heap.objs.size+2,s.heap.objs.size+3,s.heap.objs.size,s.heap.objs.size+1],_,Itz t1 t2 O U,H,rfl,I.kept (t':=s.toks) fun b o e=>k5 _ _ (c _ _ (k3 _ _ (k2 _ _ (k1 _ _ e)))),wj (far _ 2 4 ∅) (far _ 3 4 ∅) (far _ 2 3 ∅) (far _ 0 4 ∅) (far _ 1 4 ∅) (far _ 0 3 ∅) (far _ 1 3 ∅) (far _ 0 1 ∅) (far _ 0 2 ∅) (far _ 1 2 ∅),
     ⟨p5,k5 _ _ (c _ _ p3),⟨_,_,k5 _ _ p4⟩,nW (k5 _ _ (c _ _ (k3 _ _ (k2 _ _ p1)))),nW (k5 _ _ (c _ _ (k3 _ _ p2)))⟩,fun b hb=>?_,q⟩
    have Z:s.heap.objs.size<=b:=by
     simp only[mem_cons,mem_nil_iff,or_false]at hb
     rcases hb with rfl | rfl | rfl | rfl | rfl<;>first | exact Je _ | exact Nat.le_add_right _ _
    exact I.l8 Z (I.hok.fresh Z)
end
end L2
namespace RS
open PySem PySem.Spec PyProof.Rows L2
def jf:∀ (ds es:List RL.D),ds.length=es.length->(RL.eV ds es).length=ds.length
 | [],[],_=>rfl
 | [],_::_,h=>by cases h
 | _::_,[],h=>by cases h
 | d::ds,e::es,h=>by rw[RL.eV,length_cons,length_cons,jf ds es (by simpa using h)]
def nU:∀ (ds es:List RL.D) (i:Nat) (d:RL.D),(RL.eV ds es)[i]?=some d->∃ x y,ds[i]?=some x/\es[i]?=some y/\d=.tup [x,y]
 | [],es,i,d,h=>by cases es<;>simp[RL.eV]at h
 | _::_,[],i,d,h=>by simp[RL.eV]at h
 | x::ds,y::es,0,d,h=>by simp[RL.eV]at h;exact#[x,y,rfl,rfl,h.symm]
 | x::ds,y::es,i+1,d,h=>by
  obtain⟨O,I,Z,Y,U⟩:=nU ds es i d h;exact#[O,I,by simpa using Z,by simpa using Y,U]
def uf{K:W.Frag}(I:ds.length=es.length)(c:H l1=some (d8 t1 xs))(a:H l2=some (d8 t2 ys))(Y:¬ P l1)(U:¬ P l2)(r1:ai nP K H ds xs)(O:ai nP K H es ys)(hm:∀ b o,P b->H b=some o->df o) :
  iG K (Itz t1 t2 l1 l2) (RL.eV ds es) P H where
 go:=fun H' i k hi=>by
  rw[jf ds es I]at hi;obtain⟨x,e,_⟩:=r1.get (i:=i) (d:=ds[i]) (by simp[]);obtain⟨y,e',_⟩:=O.get (i:=i) (d:=es[i]'⋯) (by simp);exact#[xs,ys,x,y,k _ _ Y c,k _ _ U a,e,e']
 stop:=fun H' k=>#[xs,ys,k _ _ Y c,k _ _ U a,by rw[jf ds es I,r1.length],by rw[jf ds es I,I,O.length]]
 yld:=fun H' i d v H2 k e y=>by
  obtain⟨p,x,w,Z,rfl,rfl,n,r⟩:=y;obtain⟨dx,m,g1,g2,rfl⟩:=nU ds es i d e;obtain⟨s,l,j⟩:=r1.get g1;obtain⟨t,h,g⟩:=O.get g2;rw[n xs (k _ _ Y c)]at l;rw[r ys (k _ _ U a)]at h;cases l;cases h;refine#[aD.cI Z,fun q=>?_]
  have f:Rep nP K H' dx x/\Rep nP K H' m w:=by
   rcases q with q | q
   ·have q:(dx.imm&&(m.imm&&true))=true:=q;rw[Bool.and_true,and_eq_true]at q;exact#[fg hm k j q.1,fg hm k g q.2]
   ·exact#[j.same q,g.same q]
  exact#[p,[x,w],rfl,aG,ai.cons (f.1.same (aD.cI Z)) (ai.cons (f.2.same (aD.cI Z)) ai.nil)]
def mD{P:Addr->Prop}{K:W.Frag}(h:RL.items d=some ds)(r:Rep P K H d v):∃ t l xs,v=.ref l/\H l=some (d8 t xs)/\ai P K H ds xs/\(t=.l->d=.lst ds):=by
 obtain⟨p,xs,rfl,O,I⟩:=fq h r
 rcases O with⟨q,rfl⟩ | ⟨q,rfl⟩ | ⟨⟨o,q⟩,rfl⟩
 ·exact#[.l,p,xs,rfl,q,I,fun _=>rfl]
 ·exact⟨.t,p,xs,rfl,q,I,fun z=>by cases z⟩
 ·exact⟨.f o,p,xs,rfl,q,I,fun z=>by cases z⟩
section rules
def vF(E:Gl X "zip")(hm:X.mg "zip" = none)(ha:SE X cl a a')(hb:SE X cl b b')(hn:noStar a=true)(Y:noStar b=true):PI' (fun _=>True) X (.Tuple elts kx tp) (.Call (.Name "zip" p) [a,b] [] pos) (tI X.K cl (.zip a' b')):=by
 intro pins s J H R I h;obtain⟨Z,ds,A,e,k⟩:=h;obtain⟨x,L,e⟩:=bind_some e;obtain⟨y,Qa,e⟩:=bind_some e;obtain⟨xs,Q,e⟩:=bind_some e;obtain⟨ys,N,e⟩:=bind_some e;split at e
 ·rename_i f;cases e;have m:=aO ha (aO hb bE (aA [] Y)) (aA _ hn);refine CQ E hm m (by rw[aA _ hn,aA _ Y];rfl) (aA [] Y) pins s J H R I ?_;refine#[Z,x,A,L,fun v V r1=>#[Z,y,A.same r1.same,Qa,fun u H2 c=>?_]];obtain⟨t1,C,vs,rfl,i,p1,T⟩:=mD Q (r1.rep.same c.same);obtain⟨t2,B,us,rfl,g,p2,S⟩:=mD N c.rep;refine#[t1,t2,C,B,vs,us,rfl,i,g,k _ _ (r1.same.trans c.same) #[uf f i g (fun z=>z) (fun z=>z) p1 p2 fC,fun M P z r av=>?_]];have d:=dF (r1.same.trans c.same) r;unfold RL.ot at z;rw[and_eq_true]at z
  have O:∀ (t:SK) l w,H2 l=some (d8 t w)->t≠.l->¬ P l:=fun t l w f U q=>by
   cases t with
   | l=>exact U rfl
   | _=>rcases d l _ q f with⟨_,q⟩ | ⟨_,q⟩ | ⟨_,q⟩<;>cases q
  refine uf f i g ?_ ?_ p1 p2 d
  ·by_cases U:t1=.l
   ·exact kC r1 z.1 r av _ _ (T U) rfl
   ·exact O t1 C vs i U
  ·by_cases U:t2=.l
   ·refine kC c z.2 (fun b q=>?_) (fun j dj vj D G F=>(av j dj vj D G F).same r1.same) _ _ (S U) rfl;obtain⟨o,ho,n⟩:=r b q;exact#[o,r1.same _ _ ho,n]
   ·exact O t2 B us g U
 ·cases e
end rules
end RS
namespace L2
open PySem PySem.Spec PyProof.Rows
end L2
namespace RS
open PySem PySem.Spec PyProof.Rows L2
end RS
namespace L2
open PySem PySem.Spec PyProof.Rows
end L2
namespace RS
open PySem PySem.Spec PyProof.Rows L2
end RS
namespace L2
open PySem PySem.Spec PyProof.Rows
def uq{o:Obj}:(o.mapFields f).dict=o.dict:=by
 obtain⟨c,d,I,sl⟩:=o;cases I<;>rfl
abbrev Exc(P:Addr->Prop)(e:Addr)(C:Addr)(od:Option Addr)(U:Bool)(h:Heap):Prop :=
 ∃ I vs,h.get? e=some I/\(I.cls=.ref C/\I.dict=od)/\I.data=.fields vs/\vs[2]?=some .none/\¬ P e /\
  ((U=false/\vs[1]?=some .none)\/∃ T O ts,vs[1]?=some (.ref T)/\T≠e/\h.get? T=some O/\O.data=.fields ts/\ts[3]?=some .none/\¬ P T)
structure Off1(P:Addr->Prop)(fs:List Addr)(h h':Heap):Prop where
 sz:h.objs.size<=h'.objs.size
 keep:∀ b o,P b->b∉fs->h.get? b=some o->h'.get? b=some o
 slot:∀ b o,P b->b∈fs->h.get? b=some o->∃ sl,h'.get? b=some { o with slots:=sl }
def Off1.trans(a:Off1 P fs h h1)(b:Off1 P fs h1 h2):Off1 P fs h h2 where
 sz:=Jr a.sz b.sz
 keep:=fun c o p n e=>b.keep c o p n (a.keep c o p n e)
 slot:=fun c o p n e=>by
  obtain⟨sl,U⟩:=a.slot c o p n e;obtain⟨I,O⟩:=b.slot c _ p n U;exact#[I,O]
def Off1.so(n:¬ P a)(f:Obj->Obj):Off1 P fs h (h.update a f) where
 sz:=by rw[(Heap.SameBut.update ..).1];exact Je _
 keep:=fun b o p _ e=>by rw[Jy _ _ (show a≠b from fun z=>n (z.symm▸p))];exact e
 slot:=fun b o p _ e=>#[o.slots,by rw[Jy _ _ (show a≠b from fun z=>n (z.symm▸p))];exact e]
def Off1.ext(o:Obj):Off1 P fs h (h.push o) where
 sz:=by rw[Jt];exact le_succ _
 keep:=fun b _ _ _ e=>Jb _ e
 slot:=fun b o _ _ e=>#[o.slots,Jb _ e]
def Off1.slots(x:Heap.SlotsOnly fs h h'):Off1 P fs h h' where
 sz:=le_of_eq x.1.symm
 keep:=fun b o _ n e=>(x.2.1 b n).trans e
 slot:=fun b o _ _ e=>x.2.2 b o e
section
def oK(O:A.frames=some (env::outer))(Z:s.heap.FunFrames base (env::outer))(hf:env.frame=some L)(a:s.heap.get? e=some oe)(c:oe.cls=.ref C/\oe.dict=od)(hd:oe.data=.fields vs)(f:vs[2]?=some .none)
 (ne:¬ P e)(d:∀ b,P b->b<s.heap.objs.size)(k:∀ h',Exc P e C od true h'->Off1 P (frs (env::outer)) s.heap h'->Q () { s with heap:=h' }) :
  wpAny M A (do let l <- frameOf env;let q <- entryPlaceOf L had;let t <- EntryCells.newEntry head l .none (rawInt L) .none q;setField (.ref e) 1 t) (fun _ s2=>wpAny M A (setFlight (.ref e) none) Q E s2) E s:=by
 have U:e∉(env::outer).filterMap (·.frame):=fun z=>by
  obtain⟨_,o,ho,hn⟩:=Z.mem z;rw[a]at ho;cases ho;exact hn vs hd
 have z1:1<vs.size:=lt_trans ∅ (Array.getElem?_eq_some_iff.mp f).1;k_in;refine wpAny_frameOf_fun O Z hf fun g1 sl=>?_;k_in;refine wpAny_entryPlaceOf fun q j=>?_;unfold EntryCells.newEntry newFields;k_in;refine wpAny_newObj_type ?_ (j.sizeOk5 _ _ _ _ _);have i:g1.get? e=some oe:=(sl.2.1 e U).trans a;generalize hto:({ cls:=.type "traceback",dict:=none,data:=.fields ([head,.ref L,.none,rawInt L,.none]++(if q.isEmpty then replicate 6 Value.none else q)).toArray }:Obj)=to;have h:(g1.push to).get? e=some oe:=Jb _ i;have te:g1.objs.size≠e:=ne_of_gt (Jf i);refine wpAny_setField h hd z1 ?_;have Y:=Obj.data_mapFields hd (·.setIfInBounds 1 (Value.ref g1.objs.size));have g:=Jq (Obj.mapFields (·.setIfInBounds 1 (Value.ref g1.objs.size))) h (Obj.isFreed_of_fields Y)
 have I:to.data=.fields ([head,.ref L,.none,rawInt L,.none]++(if q.isEmpty then replicate 6 Value.none else q)).toArray:=by rw[<-hto]
 have t3:=(Jy (g1.push to) (Obj.mapFields (·.setIfInBounds 1 (Value.ref g1.objs.size))) (Ne.symm te)).trans (Jd g1 (by rw[<-hto];rfl));unfold setFlight;k_in;refine wpAny_field g Y (x:=.ref g1.objs.size) (by simp[z1]) ?_;rw[if_pos (show(Value.ref g1.objs.size != Value.none)=true from by simp)];refine wpAny_setField t3 I (by simp only[size_toArray,length_append,length_cons,length_nil]<;>omega) (k _ ?_ ?_)
 ·refine#[_,_,(Jy _ _ te).trans g,#[(Obj.cls_mapFields _ _).trans c.1,uq.trans c.2],Y,by rw[Array.getElem?_setIfInBounds_ne ∅];exact f,ne,.inr #[g1.objs.size,_,_,by simp[z1],te,Jq _ t3 (Obj.isFreed_of_fields (Obj.data_mapFields I _)),Obj.data_mapFields I _,?_,fun z=>?_]]
  ·rw[Array.getElem?_setIfInBounds_self_of_lt (by simp only[size_toArray,length_append,length_cons,length_nil]<;>omega)];rfl
  ·have:=d _ z;rw[sl.1]at this;exact Jw _ this
 ·refine(((Off1.slots sl).trans (Off1.ext _)).trans (Off1.so ne _)).trans (Off1.so (fun z=>?_) _);have:=d _ z;rw[sl.1]at this;exact Jw _ this
def mB(O:A.frames=some (env::outer))(f:s.heap.FunFrames base (env::outer))(hf:env.frame=some L)(x:Exc P e C od tb s.heap)(h:∀ b,P b->b<s.heap.objs.size)
 (k:∀ h',Exc P e C od true h'->Off1 P (frs (env::outer)) s.heap h'->Q () { s with heap:=h' }) :
  wpAny M A (noteFrame (.ref e) env) (fun _ s2=>wpAny M A (setFlight (.ref e) none) Q E s2) E s:=by
 obtain⟨n,vs,U,g,hd,j,ne,x⟩:=x;unfold noteFrame;simp only[hf];k_in
 rcases x with⟨_,c⟩ | ⟨T,p,ts,c,Z,a,I,i,m⟩
 ·refine wpAny_field U hd c ?_;exact oK O f hf U g hd j ne h k
 ·refine wpAny_field U hd c ?_;k_in;refine wpAny_field a I i ?_;k_in;refine wpAny_setField a I (Array.getElem?_eq_some_iff.mp i).1 ?_;have oth:∀ b,b≠T->(s.heap.update T (Obj.mapFields (·.setIfInBounds 3 Value.none))).get? b=s.heap.get? b:=fun b hb=>Jy _ _ (Ne.symm hb);have d:Off1 P (frs (env::outer)) s.heap (s.heap.update T (Obj.mapFields (·.setIfInBounds 3 Value.none))):=Off1.so m _
  have Y:=f.of_keeps fun b o hb hn=>⟨o,(oth b fun z=>by
   rw[z,a]at hb;cases hb
   exact hn ts I).trans hb,rfl⟩
  exact oK O Y hf ((oth e (Ne.symm Z)).trans U) g hd j ne (fun b hb=>Ji (h b hb) d.sz) fun h' l o'=>k h' l (d.trans o')
def tR(I:A.frames=some (env::outer))(O:s.heap.FunFrames base (env::outer))(hf:env.frame=some L)(x:Exc P e C od tb s.heap)(U:∀ b,P b->b<s.heap.objs.size)
 (k:∀ h',Exc P e C od true h'->Off1 P (frs (env::outer)) s.heap h'->Q () { s with heap:=h' }):wpAny M A (leaving env (.ref e)) Q E s:=by
 exact Ja (mB I O hf x U k)
end
def bD.there(x:bD P w H h a o):∃ u,h.get? a=some u:=by
 cases o with
 | lst xs=>obtain⟨_,_,_,_,e⟩:=x;exact#[_,e]
 | tup xs=>obtain⟨_,_,_,o,e,_⟩:=x;exact#[_,e]
 | dK kvs=>obtain⟨_,_,_,_,o,_,_,e,_⟩:=x;exact#[_,e]
 | dT kvs=>obtain⟨_,_,_,_,o,_,_,e,_⟩:=x;exact#[_,e]
 | set S n=>obtain⟨o,_,_,_,e,_⟩:=x;exact#[_,e]
 | ins C dx fs=>obtain⟨_,_,_,e,_⟩:=x;exact#[_,e]
 | own y=>exact x
 | xd fs=>obtain⟨_,⟨_,_,_,e,_⟩,_⟩:=x;exact#[_,e]
 | rng lo hi=>obtain⟨_,_,_,e⟩:=x;exact#[_,e]
 | frz ob u=>exact#[_,x.1]
 | tbl ps=>exact#[_,x]
 | met f y=>exact#[_,x]
 | ext φ=>exact x.2.1
abbrev eH(h:Heap)(H:Hp)(b:Addr):Prop:=(∃ o,h.get? b=some o)\/H b≠none
def Exc.mono(x:Exc P e C od tb h)(k:∀ b,P' b->P b):Exc P' e C od tb h:=by
 obtain⟨I,vs,d,c,a,Z,Y,U⟩:=x;refine#[I,vs,d,c,a,Z,fun z=>Y (k _ z),U.imp (fun z=>z) fun#[T,O,ts,a1,a2,a3,a4,a5,a6]=>#[T,O,ts,a1,a2,a3,a4,a5,fun z=>a6 (k _ z)]]
abbrev CXE(P:Program)(w:World):CXT:=fun outer H s E e s'=>∃ x C od H',e=.ref x/\E (.ref C) od H'/\s'.os=s.os/\AllBare s'.gens/\Un (frs outer) [] H H' s.heap s'.heap/\HOk P w H' s'.heap/\Exc (eH s.heap H') x C od true s'.heap
section
def Inv.old(I:Inv X pins J H s)(O:X.ex=[])(e:X.s₀.heap.get? b=some o):∃ o',s.heap.get? b=some o':=I.base.there b o e (by rw[O];simp)
def iP(I:Inv X pins J H s)(Z:X.stack=X.env::X.outer)(O:X.env.frame=some X.env.locals)(g:X.ex=[])(x:Exc (eH X.s₀.heap H) e C od tb s.heap)(p:EE (.ref C) od H)(t:A.frames=some (X.env::X.outer)) :
  wpAny (model X.prog X.w) A (leaving X.env (.ref e)) (fun _ s2=>CXE X.prog X.w X.outer X.H₀ X.s₀ EE (.ref e) s2) E' s:=by
 have i:=I.stack;rw[Z]at i
 have f:∀ b∈frs (X.env::X.outer),H b=none:=by
  have:=I.jC;rw[Z]at this;exact this
 have m:∀ b,eH X.s₀.heap H b->b<s.heap.objs.size:=fun b hb=>by
  rcases hb with⟨o,e⟩ | hb
  ·exact Ji (Jf e) I.sz
  ·obtain⟨o,ho⟩:=Option.ne_none_iff_exists'.mp hb;exact I.hok.lt ho
 refine tR t i O x m fun h' k o'=>?_;have y:X.fs=frs X.outer:=rfl
 have mem:∀ b o,X.s₀.heap.get? b=some o->b∉frs X.outer->b∉frs (X.env::X.outer):=fun b o e n z=>by
  unfold frs at z;rw[filterMap_cons,O]at z;rcases List.mem_cons.mp z with z | z
  ·have j:=Jf e;have v:=I.ok.above;rw[z]at j;exact Jw _ (Ji j v)
  ·exact n z
 have Y:∀ b,b∈frs X.outer->b∈frs (X.env::X.outer):=fun b z=>by
  unfold frs;rw[filterMap_cons,O];exact Jm _ z
 have U:∀ b:Addr,b∉X.ex:=fun b=>by rw[g];simp
 refine#[e,C,od,H,rfl,p,I.os,I.bare,#[fun b o q n hb _=>?_,fun b o q n hb _=>?_,fun b o q n _=>I.base.free b o q n (U b),fun b o q _=>?_,I.base.dB,I.base.c8,I.base.dH],fun a o q=>?_,k]
 ·exact o'.keep b o (.inl #[o,q]) (mem b o q hb) (I.base.keep b o q n hb (U b))
 ·obtain⟨sl,d⟩:=I.base.slot b o q n hb (U b);obtain⟨c,l⟩:=o'.slot b _ (.inl #[o,q]) (Y b hb) d;exact#[c,l]
 ·obtain⟨B,h⟩:=I.base.there b o q (U b);by_cases hb:b∈frs (X.env::X.outer)
  ·obtain⟨sl,d⟩:=o'.slot b _ (.inl #[o,q]) hb h;exact#[_,d]
  ·exact#[_,o'.keep b _ (.inl #[o,q]) hb h]
 ·refine(I.hok a o q).fj (fun b u hb r=>?_) (fun _ z=>z) fun _ _ z=>z
  have hn:H b≠none:=by
   rcases hb with rfl | hb
   ·rw[q];exact fun z=>nomatch z
   ·rw[hb];exact fun z=>nomatch z
  exact o'.keep b u (.inr hn) (fun z=>hn (f b z)) r
def Inv.refused(I:Inv X pins J H s)(U:X.ex=[])(h:CXE X.prog X.w X.stack H s E e s'):∃ x C od H',e=.ref x/\E (.ref C) od H'/\Inv X pins J H' s'/\Exc (eH X.s₀.heap H') x C od true s'.heap/\Exc (eH s.heap H') x C od true s'.heap/\Un (frs X.stack) [] H H' s.heap s'.heap:=by
 obtain⟨x,C,od,H',rfl,Z,os,bare,un,hok,ex⟩:=h;obtain⟨Y,g,d,t,O⟩:=s';obtain rfl:O=s.os:=os;refine#[x,C,od,H',rfl,Z,I.call (h':=Y) (g':=g) (d':=d) (t':=t) (ch:=[]) un hok bare (fun b z=>absurd z (by simp)),ex.mono fun b hb=>?_,ex,un];rcases hb with⟨o,q⟩ | hb
 ·exact .inl (I.old U q)
 ·exact .inr hb
def pM(hok:HOk P w H h)(m:Heap.MadeExcOf h h' e (.ref C) vs):Exc (eH h H) e C none false h':=by
 obtain⟨t,I,_,_⟩:=m.there;refine#[_,_,I,#[rfl,rfl],rfl,rfl,fun z=>?_,.inl #[rfl,rfl]];have hn:=m.new;rcases z with⟨o,q⟩ | z
 ·rw[hn]at q;cases q
 ·obtain⟨o,ho⟩:=Option.ne_none_iff_exists'.mp z;obtain⟨u,q⟩:=(hok e o ho).there;rw[hn]at q;cases q
def Inv.newExc(I:Inv X pins J H s)(O:X.ex=[])(m:Heap.MadeExcOf s.heap h' e (.ref C) vs):Inv X pins J H { s with heap:=h' }/\Exc (eH X.s₀.heap H) e C none false h' :=
 ⟨I.kept m.keeps,(pM I.hok m).mono fun b hb=>hb.imp (fun⟨o,q⟩=>I.old O q) fun z=>z⟩
end
open PySem.W
section
variable{K:W.Frag}
structure kj(K:W.Frag)(D:Addr):Prop where
 ga:findIn K (.ref D) "__getattribute__" = some (some (.builtin "BaseException.__getattribute__"))
 gn:findIn K (.ref D) "__getattr__" = some none
 fo:findObj K D none "__class__" = some (.bind (.builtin "getset_descriptor.__get__") (.builtin "object.__class__"))
 mo:mroIn K D (.type "object")=some true
 mb:subIn K (.ref D) (.type "BaseException")=some true
 is:(clsIn K D).isSome=true
def qr:takesIn K (.builtin "object.__class__")=some true:=by kernel_rfl
def sW(h:findObj K D none "__class__" = some (.bind (.builtin "getset_descriptor.__get__") (.builtin "object.__class__"))):findObj K D od "__class__" = some (.bind (.builtin "getset_descriptor.__get__") (.builtin "object.__class__")):=by
 unfold findObj at h ⊢;obtain⟨cd,I,h⟩:=Option.bind_eq_some_iff.mp h;obtain⟨attr,ha,h⟩:=Option.bind_eq_some_iff.mp h;obtain⟨get,O,h⟩:=Option.bind_eq_some_iff.mp h;obtain⟨data,hd,h⟩:=Option.bind_eq_some_iff.mp h;rw[I,Option.bind_some,ha,Option.bind_some,O,Option.bind_some,hd,Option.bind_some]
 cases data with
 |true=>
  cases attr with
  | none=>cases get<;>cases hd
  |some a=>
   cases get with
   | none=>cases hd
   | some g=>exact h
 |false=>
  exfalso;obtain⟨own,ho,h⟩:=Option.bind_eq_some_iff.mp (show((W.ownOf cd none "__class__").bind _)=_ from h)
  have hn:own=none:=by
   unfold W.ownOf at ho;split at ho<;>exact(Option.some.inj ho).symm
  subst hn;dsimp only at h;split at h
  ·cases h
  ·cases attr with
   | none=>cases h
   |some a=>
    cases get with
    |none=>
     dsimp only at h;split at h
     ·cases h
     ·cases h
    |some g=>
     cases h;dsimp only at hd;rw[qr]at hd;cases hd
def BG(F:kj K D)(X:K.In s.heap)(I:InstAt s.heap x ox D od)(h:Q (some (.ref D)) { s with toks:=s.toks+1 }):wpAny (model prog w) A (getAttr? (.ref x) "__class__") Q E s:=by
 have U:=I.type (M:=model prog w);have b:=looks_findIn (M:=model prog w) X F.ga;have L2:=looks_findIn (M:=model prog w) X F.gn;have Y:=looks_find (M:=model prog w) X I (sW F.fo);have a:=looks_subIn (M:=model prog w) X F.mb;have Z:=fun(A:Around) (R:Result->Shared->Prop) (t:Nat)=>class_get (prog:=prog) (w:=w) (A:=A) (R:=R) (tp:=.ref D) (s:={ s with toks:=t }) X I F.mo;obtain⟨e,g,d,t,os⟩:=s;refine Ja (wpAny_mkText (Ja (wpAny_attempt (wpAny_holding (Ja (U.at (Ja (b.at ?_))))))))
 have c:¬ ((onTheHeap (Value.ref D)&&(Value.builtin "BaseException.__getattribute__" == Value.builtin "object.__getattribute__"))=true):=by
  have:(Value.builtin "BaseException.__getattribute__" == Value.builtin "object.__getattribute__")=false:=by decide +kernel
  exact Jo
 dsimp only;refine Ja (L2.at ?_);refine Ja (wpAny_attempt (wpAny_holding (Ja (wpAny_of_eq (PySem.F.attrBase_ValueError.ga.bind (.ref x)) ?_))));refine wpAny_call (codeAny_call_builtin PySem.F.attrBase_ValueError.ga.plain PySem.F.entry_bexc_ga ?_)
 have hk:builtinKind "BaseException.__getattribute__" = some .slot:=by decide +kernel
 have O:splitId "BaseException.__getattribute__" = some ("BaseException", "__getattribute__"):=by decide +kernel
 simp only[checkBuiltinCall,hk,O]
 repeat (any_goals (first | assumption | exact U | (with_reducible refine U.at ?_) | (with_reducible refine a.at ?_) | (with_reducible refine Y.at ?_) | (with_reducible refine Ja (Y.at ?_)) | wp_step))
 refine Z _ _ _ ?_;refine Jc ?_;exact wpAny_of_eq (handedOut_of rfl) (Jc h)
def nO(F:kj K D):KitX K (.ref x) (.ref D) (fun h=>InstAt h x ox D od) where
 ty:=fun _ _ _ I=>I.type
 it:=fun M h X _=>by
  have z:=F.is;unfold clsIn at z;split at z
  ·rename_i ho;intro Z U Y s' k q;exact Ja (wpAny_loadPart (k _ _ (X _ _ ho)) (Jc q))
  ·cases z
 ne:=fun h tp dd its n sl X O=>by
  refine Bool.eq_false_iff.mpr fun q=>?_;have e:=Value.ref.inj (beq_iff_eq.mp q);subst e;have z:=F.is;unfold clsIn at z;split at z
  ·rename_i ho;cases(X _ _ ho).symm.trans O
  ·cases z
 ca:=fun X I k=>BG F X I k
end
section
def lI(h:PGs X es t)(hn:(assignEach es X.env).length=n)(Y:(assignEach es X.env).findIdx? (·.1)=none):PG X (.Tuple es k pos) (l9 X.K n t):=by
 intro pins s J H v u Q I r O;obtain⟨a,xs,i,f,g,O⟩:=O;subst i;cases r;obtain⟨its,Z,d,j⟩:=I.tuple f
 have U:(assignEach es X.env).length=its.toArray.size:=by rw[hn,<-g,Z.length,size_toArray]
 rw[PyProof.Rows.assign_Tuple];refine Ja (wpAny_standAt ?_);unfold unpack;rw[U,Y];refine Ja (wpAny_holding (sI I.hd d fun h' c=>?_));exact h pins _ J H xs _ Q (I.kept (t':=s.toks) fun b o e=>c b o (Jl (Jf e)) e) (by simpa using Z) O
def lK(h:PGs X es t)(hn:(assignEach es X.env).length=n)(Y:(assignEach es X.env).findIdx? (·.1)=none):PG X (.Tuple es k pos) (RS.lH X.K n t):=by
 intro pins s J H v u Q I r O;obtain⟨a,xs,i,f,g,O⟩:=O;subst i;cases r;obtain⟨its,Z,d,j⟩:=I.list f
 have U:(assignEach es X.env).length=its.toArray.size:=by rw[hn,<-g,Z.length,size_toArray]
 rw[PyProof.Rows.assign_Tuple];refine Ja (wpAny_standAt ?_);unfold unpack;rw[U,Y];refine Ja (wpAny_holding (rT I.hd d.isList fun h' c=>?_));exact h pins _ J H xs _ Q (I.kept (t':=s.toks) fun b o e=>c b o (Jl (Jf e)) e) (by simpa using Z) O
end
section
def PA.nox(h:PA X.nox es t):PA X es t:=fun O pins s J H Q I U =>
 wpAny_mono (h O pins s J H Q (I.dP _) U) (fun _ _ ⟨v,H',Y,r,q⟩=>#[v,H',Y.cM,r,q]) fun _ _ z=>False.elim z
def PS.nox{st:Stmt}(h:PS X.nox st t):PS X st t:=fun pins s J H D I O =>
 wpAny_mono (h pins s J H D (I.dP _) O) (fun _ _ q=>q.cM) fun _ _ z=>False.elim z
def PG.nox(h:PG X.nox tg t):PG X tg t:=fun pins s J H v u Q I r U =>
 wpAny_mono (h pins s J H v u Q (I.dP _) r U) (fun _ _ ⟨O,H',Y,q⟩=>#[O,H',Y.cM,q]) fun _ _ z=>False.elim z
def PI.nox(h:PI X.nox tg iter wi):PI X tg iter wi:=fun pins s J H R I U =>
 wpAny_mono (h pins s J H R (I.dP _) U) (fun _ _ Y=>wpAny_mono Y (fun _ _ ⟨it,fp,tn,Qa,H',e,Z,T,O,f,r⟩=>#[it,fp,tn,Qa,H',e,Z.cM,T,O,f,r]) fun _ _ z=>False.elim z) fun _ _ z=>False.elim z
def kg{CX:CXT}{k:Nat}{f:Addr}{fd:FuncData}{ps:List Str}{sp:Sp}{EX:St->XK}{x:Str}{p pos:Pos}{e:Expr}{es:List Expr}{t:TA}(F:aY X.prog X.w X.K X.mg X.base CX k f fd ps sp)(c:bq k X.A)(g:Gl X x)(hm:X.mg x=some (.ref f))(hk:W.keepIn X.K (.ref f)=true)
 (hb:Binds X.K fd ps [])(b:∀ pins J H s e s',Inv X pins J H s->CX X.stack H s (EX J) e s'->X.xe e s')(ha:PA X (e::es) t)(a:(x == ("__debug__" : Str))=false)(i:starEach (e::es) X.env=(false,eval e X.env)::starEach es X.env)(hpl:(backTo pos (starEach es X.env)).any (·.1)=false) :
  PE X (.Call (.Name x p) (e::es) [] pos) (fun J H Q=>t J H fun vs Z=>sp vs Z Q (EX J)):=by
 fin2;refine wpAny_Call_Name_kw (cW I g hm ?_ a);refine W.callWith_K (h₀:=X.base) I.ok.mod.kin hk (thn (ha pos pins s J H _ I h) fun us s1 ⟨vs,Z,Y,r,q⟩=>#[Y.kIn,?_]) i hpl
 have d:us.length=ps.length:=by rw[<-r.length];exact F.len _ _ _ _ q
 have U:=hb s1 us Y.kIn (by rw[Ju];exact d);rw[Ju]at U;refine wpAny_call (codeAny_mono (F.run X.A X.stack s1 Z ⟨us,[]⟩ us vs Q (EX J) c Y.pL U r q) fun r s' O=>?_)
 cases r with
 | error e=>exact b pins J Z s1 e s' Y O
 |ok j=>
  cases j with
  | ret u=>exact Y.after O
  | next=>exact False.elim O
  | brk=>exact False.elim O
  | cont=>exact False.elim O
end
end L2
namespace RS
open PySem PySem.Spec PyProof.Rows L2
abbrev CO(K:W.Frag)(x:Str)(C:Addr)(od:Option Addr)(H:Hp):Prop:=Cls K (RL.baseOf x) C/\gB H (RL.dN x) od
abbrev spX(K:W.Frag)(cl:RL.Cl)(f:Nat):Sp:=fun vs H _ E=>∃ ds x,ai nP K H ds vs/\RL.clX cl f ds=some x/\∀ C od H',CO K x C od H'->aD H H'->E (.ref C) od H'
abbrev tXE(K:W.Frag)(cl:RL.Cl)(EX:L2.St->XK)(e:RL.E):TE:=fun J H _=>∃ I x,RV0 K I J H/\RL.evX cl I e=some x/\∀ C od O,CO K x C od O->aD H O->EX J (.ref C) od O
abbrev tXA(K:W.Frag)(cl:RL.Cl)(EX:L2.St->XK)(es:RL.Es):TA:=fun J H _=>∃ I x,RV0 K I J H/\RL.oR cl I es=some x/\∀ C od O,CO K x C od O->aD H O->EX J (.ref C) od O
abbrev RE(X:Cx)(EX:L2.St->XK)(cl:RL.Cl)(e:Expr)(e':RL.E):Prop:=PE X e (tXE X.K cl EX e')
abbrev RA(X:Cx)(EX:L2.St->XK)(cl:RL.Cl)(es:List Expr)(I:RL.Es):Prop:=PA X es (tXA X.K cl EX I)
abbrev tXS(K:W.Frag)(M:List Nat)(EX:L2.St->XK)(r:RL.St->Option (Str × RL.St)):TS:=fun _ J H=>∃ U x I,RVm K M U J H/\r U=some (x,I)/\∀ O Y C od,CO K x C od Y->RVm K M I O Y->Fr' M J H O Y->EX O (.ref C) od Y
abbrev RZ(X:Cx)(EX:L2.St->XK)(cl:RL.Cl)(M:List Nat)(st:Stmt)(s:RL.S):Prop:=PS X st (tXS X.K M EX (RL.l6 cl M s))
abbrev RZs(X:Cx)(EX:L2.St->XK)(cl:RL.Cl)(M:List Nat)(st:List Stmt)(s:RL.Ss):Prop:=PSs X st (tXS X.K M EX (RL.bM cl M s))
section
variable{st:Stmt}
def bB(h:∀ O,RL.evX cl O e'=none):RE X EX cl e e':=fun pins s J H Q I ⟨O,x,_,z,_⟩=>by
 rw[h]at z;cases z
def gX(h:∀ O,RL.l6 cl M s' O=none):RZ X EX cl M st s':=fun pins s J H Q I ⟨O,x,_,_,z,_⟩=>by
 rw[h]at z;cases z
def Dc:RA X EX cl es .nil:=fun U pins s J H Q I ⟨O,x,_,z,_⟩=>by
 cases z
def zM(c:SE X cl e e')(b:RE X EX cl e e')(a:RA X EX cl es es')(Z:starEach (e::es) X.env=(false,eval e X.env)::starEach es X.env):RA X EX cl (e::es) (.cons e' es'):=by
 intro U pins s J H Q I h;obtain⟨O,x,Y,z,k⟩:=h;rw[RL.oR]at z
 cases hev:RL.ev cl O e' with
 |some d=>
  rw[hev]at z;exact aO c a Z U pins s J H Q I ⟨O,d,Y,hev,fun v g r1=>#[O,x,Y.same r1.same,z,fun C od H2 f sm=>k C od H2 f (r1.same.trans sm)]⟩
 |none=>
  rw[hev]at z;exact aO b a Z U pins s J H Q I ⟨O,x,Y,z,k⟩
def Ao(F:aY X.prog X.w X.K X.mg X.base (CXE X.prog X.w) k fa fd ps (spX X.K cl f))(b:bq k X.A)(c:Gl X x)
 (hm:X.mg x=some (.ref fa))(hk:W.keepIn X.K (.ref fa)=true)(hb:Binds X.K fd ps [])(a:∀ pins J H s e s',Inv X pins J H s->CXE X.prog X.w X.stack H s (EX J) e s'->X.xe e s')(d:SEs X cl (e::es) es')(ha:RA X EX cl (e::es) es')(Y:(x == ("__debug__" : Str))=false)(hn:noStar e=true)(U:es.all noStar=true) :
  RE X EX cl (.Call (.Name x p) (e::es) [] pos) (.call f es'):=by
 fin2;obtain⟨O,y,Z,z,k⟩:=h;rw[RL.evX]at z
 cases hev:RL.evs cl O es' with
 |some ds=>
  rw[hev]at z;exact kg F b c hm hk hb a d Y (aA es hn) (cA U) pins s J H Q I ⟨O,ds,Z,hev,fun vs i s1 r1=>#[ds,y,r1,z,fun C od H2 g sm=>k C od H2 g (s1.trans sm)]⟩
 |none=>
  rw[hev]at z;exact kg F b c hm hk hb a ha Y (aA es hn) (cA U) pins s J H Q I ⟨O,y,Z,z,k⟩
def nz{s':RL.S}{g:Ends->L2.St->VK}(h:PS X st (fun D J H=>tXE X.K cl EX e' J H (g D J)))(Y:∀ I,RL.l6 cl M s' I=(RL.evX cl I e').map fun x=>(x,I)):RZ X EX cl M st s':=by
 refine PS.weak h fun D J H h=>?_;obtain⟨I,x,O,U,z,k⟩:=h;rw[Y]at z;obtain⟨y,z1,z2⟩:=map_some z;cases z2;exact#[I,x,U.rv0,z1,fun C od a Z sm=>k J a C od Z (U.same sm) (Fr'.same sm)]
def zK:RZs X EX cl M sts .nil:=fun pins s J H Q I ⟨O,x,_,_,z,_⟩=>by
 cases z
def Aj:RZs X EX cl M sts (.opn j e' r):=fun pins s J H Q I ⟨O,x,_,_,z,_⟩=>by
 cases z
def zb:RZs X EX cl M sts (.act i g tbl a es):=fun pins s J H Q I ⟨O,x,_,_,z,_⟩=>by
 cases z
def xO:RZs X EX cl M sts (.tell i f es t a r):=fun pins s J H Q I ⟨O,x,_,_,z,_⟩=>by
 cases z
def wo(n:SS X cl M st s)(m:RZ X EX cl M st s)(i:RZs X EX cl M sts r):RZs X EX cl M (st::sts) (.cons s r):=by
 intro pins f J H D I h;obtain⟨U,x,O,g,z,k⟩:=h;rw[RL.bM]at z
 cases hev:RL.evS cl M s U with
 |some p=>
  obtain⟨o,Y⟩:=p;rw[hev]at z
  cases o with
  | nx=>exact bg n i pins f J H D I ⟨U,.nx,Y,g,hev,fun j H2 b e=>#[Y,x,O,b,z,fun Z q C od l a c=>k Z q C od l a (e.trans c)]⟩
  | rt d=>cases z
 |none=>
  rw[hev]at z;exact bg m i pins f J H D I ⟨U,x,O,g,z,k⟩
def D3(Z:ST X cl c c')(ha:RZs X EX cl M a a')(hb:RZs X EX cl M b b'):RZ X EX cl M (.If c a b pos) (.ife c' a' b'):=by
 refine PS.weak (nv Z ha hb) fun D J H h=>?_;obtain⟨O,x,I,Y,z,k⟩:=h;obtain⟨t,z1,z2⟩:=bind_some z;refine#[O,t,Y.rv0,z1,fun e sm=>?_];have d:=fun U H2 C od Z r f=>k U H2 C od Z r ((Fr'.same sm).trans f)
 cases t with
 | true=>exact fQ ⟨O,x,I,Y.same sm,z2,d⟩
 | false=>exact gE ⟨O,x,I,Y.same sm,z2,d⟩
end
section
def sE(h:RL.di f fx tg (d::ds) J=some p):d.imm=true/\∃ I,RL.bP tg d J=some I /\
  ((∃ O,f I=some (.nx,O)/\RL.di f fx tg ds O=some p)\/fx I=some p):=by
 rw[RL.di]at h;by_cases U:d.imm=true
 case neg=>rw[if_neg U]at h;cases h
 rw[if_pos U]at h;obtain⟨I,Y,h⟩:=bind_some h;refine#[U,I,Y,?_]
 cases hf:f I with
 | none=>rw[hf]at h;exact .inr h
 |some q=>
  obtain⟨o,O⟩:=q;rw[hf]at h
  cases o with
  | nx=>exact .inl #[O,rfl,h]
  | rt d=>cases h
def B6(hp:PassesOwn (model X.prog X.w) X.A X.env X.xe)(N:X.calm=true)(hi:SI X cl tgE iter it)(hg:PG X tgE (gT X.K tg))(hb:SSs X cl M body b)(P:RZs X EX cl M body b)(hs:∀ x,foldedSetIterable iter X.env x=pure x)(Q:RL.ot M it=true)(hM:∀ i∈tg,M.contains i=false) :
  RZ X EX cl M (.For tgE iter body [] pos) (.forr tg it b):=by
 have both:PSs X body (fun D J H=>tS X.K M (RL.aw cl M b) D J H\/tXS X.K M EX (RL.bM cl M b) D J H):=fun pins s J H D I h=>h.elim (hb pins s J H D I) (P pins s J H D I);refine PS.weak (uN hp N hi hg both hs) fun D J H h=>?_;obtain⟨l,x,Y,v,e,k⟩:=h;obtain⟨ds,e1,e2⟩:=bind_some e;refine#[l,ds,v.rv0,e1,fun Qa T s1 G=>?_]
 have ok:=G.2 M (bI M J) Q v.vS fun j dj vj E R f=>by
  obtain⟨v',F,h4⟩:=v.val j dj R;rw[f]at F;cases F;rw[if_neg (by rw[E];decide)]at h4;exact h4
 refine#[fun i m Z H2=>∃ O,m=ds.length-i/\i<=ds.length/\RVm X.K M O Z H2/\Fr' M J T Z H2/\RL.di (RL.aw cl M b) (RL.bM cl M b) tg (ds.drop i) O=some (x,Y),#[_,l,rfl,zero_le _,v.same s1,Fr'.same (aD.refl _),e2],?_];rintro i m Z H2 ⟨O,rfl,hi2,L,a,B⟩;have off:=fun b o n e=>(a.1 b o e n).1;by_cases d:i<ds.length
 ·refine .inr #[ok.go H2 i off d,fun U H'=>∃ m',m'<ds.length-i/\∃ O,m'=ds.length-(i+1)/\i+1<=ds.length/\RVm X.K M O U H'/\Fr' M J T U H'/\RL.di (RL.aw cl M b) (RL.bM cl M b) tg (ds.drop (i+1)) O=some (x,Y),fun U H' z=>z,fun y H3 yl=>?_];rw[List.drop_eq_getElem_cons d]at B;obtain⟨t,q,R,f⟩:=sE B;obtain⟨V,rp⟩:=ok.yld H2 i ds[i] y H3 off (by simp[]) yl;obtain⟨dv,vs,q1,q2,q3,q4,q5⟩:=sV R (rp (.inl t));refine q5 _ _ ?_;obtain⟨r,S⟩:=(L.same V).cB hM q2 (q4 t) q3
  have u:Fr' M J T (dk tg vs Z) H3:=#[fun b o e n=>#[V _ _ (a.1 b o e n).1,by rw[S];exact(a.1 b o e n).2],fun j E=>(ka hM E).trans (a.2 j E)]
  rcases f with⟨p,f,F⟩ | f
  ·exact .inl #[q,.nx,p,by rw[q1];exact r,f,fun U H' c g=>#[_,by lia,p,rfl,d,c,u.trans g,F]]
  ·exact .inr #[q,x,Y,by rw[q1];exact r,f,fun U H' C od N c g=>k U H' C od N c (((Fr'.same s1).trans u).trans g)]
 ·have e:i=ds.length:=by lia
  subst e;rw[drop_length,RL.di]at B;cases B
end
end RS
namespace L2
open PySem PySem.Spec PyProof.Rows
open RS (VE)
def zD{K:W.Frag}(X:K.In h)(q:W.excIn K C VE "ValueError.__new__" = true):∃ bm N nm qn bs hdct sn sub ab col dd k0 k1 k2 k3 k5 U,h.get? C=some (excClassObj nm qn C N bs bm hdct sn sub ab col dd k0 k1 k2 k3 k5 "ValueError.__new__")/\h.Ns N U/\U "__init__" = none/\OwnTail h VE bm:=by
 unfold W.excIn at q;split at q
 ·rename_i dd cd sl ho;split at q
  ·rename_i b bm k0 k1 k2 k3 n k5 hm Z;simp only[and_eq_true,beq_iff_eq,not_eq_true']at q;obtain⟨⟨⟨⟨⟨rfl,rfl⟩,I⟩,Y⟩,hok⟩,O⟩:=q;obtain⟨nm,bs,mro,ns,qn,hd,sn,sub,ab,col,a⟩:=cd;subst hm I;obtain⟨l⟩:=sl;subst Z;exact#[bm,ns,nm,qn,bs,hd,sn,sub,ab,col,dd,k0,k1,k2,k3,k5,_,X _ _ ho,.of_isNs (W.isNs_of_in X hok),W.nsMap_none_of_in X hok O,W.tail_of_in X Y]
  ·cases q
 ·cases q
def wI{K:W.Frag}(X:K.In h)(q:RS.nR K C=true):∃ bm N nm qn bs hdct sn sub ab col dd k0 k1 k2 k3 k5,h.get? C=some (excClassObj nm qn C N bs bm hdct sn sub ab col dd k0 k1 k2 k3 k5 "ValueError.__new__")/\OwnTail h VE bm:=by
 replace q:=(Bool.and_eq_true_iff.mp q).1
 unfold RS.gR at q;split at q
 ·rename_i dd cd sl ho;split at q
  ·rename_i Z bm k0 k1 k2 k3 n k5 hm U;simp only[and_eq_true,beq_iff_eq,not_eq_true']at q;obtain⟨⟨⟨rfl,rfl⟩,I⟩,O⟩:=q;obtain⟨nm,bs,mro,ns,qn,hd,sn,sub,ab,col,Y⟩:=cd;subst hm I;obtain⟨l⟩:=sl;subst U;exact#[bm,ns,nm,qn,bs,hd,sn,sub,ab,col,dd,k0,k1,k2,k3,k5,X _ _ ho,W.tail_of_in X O]
  ·cases q
 ·cases q
section
variable{EX:St->XK}
def wR(d:X.A.handled=none)(f:Gl X x)(hm:X.mg x=some (.ref C))(a:(x == ("__debug__" : Str))=false)(q:W.excIn X.K C VE "ValueError.__new__" = true)(hk:∀ pins J H s h' e vs,Inv X pins J H s->Heap.MadeExcOf s.heap h' e (.ref C) vs->EX J (.ref C) none H->X.xe (.ref e) { s with heap:=h' })
 (ha:PA X [arg] (eL ta iH))(c:starEach [arg] X.env=[(false,eval arg X.env)]):PS X (.Raise (some (.Call (.Name x np) [arg] [] cpos)) none pos) (fun _ J H=>ta J H fun v U=>[v].length<=sizeLine/\EX J (.ref C) none U):=by
 k_mem;obtain⟨bm,N,nm,qn,bs,hdct,sn,sub,ab,col,dd,k0,k1,k2,k3,k5,j,i,g,Z,T⟩:=zD I.ok.mod.kin q;refine wpAny_Raise_call_subT (C:=C) (nm:=nm) (q:=qn) (N:=N) (bs:=bs) (hdct:=hdct) (sn:=sn) (sub:=sub) (ab:=ab) (col:=col) (dd:=dd) (k0:=k0) (k1:=k1) (k2:=k2) (k3:=k3) (k5:=k5) PySem.F.excBase_ValueError (T.hasType PySem.F.excBase_ValueError.hasBase) d (by rw[c];rfl) Z (cW I f hm ⟨rfl,?_⟩ a);have O:=ha cpos pins s J H (fun vs U=>vs.length<=sizeLine/\EX J (.ref C) none U) I h;rw[c]at O ⊢;refine Calls.evalArgs_plain (thn O fun us s1 ⟨vs,U,Y,r,b⟩=>?_);exact#[rfl,by rw[<-r.length];exact b.1,Y.bk _ _ i,g.keeps Y.bk,T.keeps Y.bk,fun h' e m=>hk pins J U s1 h' e us Y m b.2]
abbrev PJ(X:Cx)(vs:List Expr)(t:TA):Prop:=∀ (pins:List (Addr × Obj)) (s:Shared) (J:St) (H:Hp) (Q:Hp->Prop) (out:Str),Inv X pins J H s->t J H (fun _ I=>Q I)->out.length+3000*vs.length<=sizeLine->wpAny (model X.prog X.w) X.A (joinParts out (evalEach vs X.env)) (EP X pins J fun v I=>(∃ x,v=.str x)/\Q I) X.xe s
def uR:PJ X [] iH:=fun pins s J H Q out I h z=>joinParts_nil ⟨.str out,H,I.tok _,⟨_,rfl⟩,⟨_,rfl⟩,h⟩ (by simpa using z)
def lY(h:PJ X vs t)(U:y.length<=3000):PJ X (.Constant (.str y) k p::vs) t:=fun pins s J H Q out I q z=>by
 have O:(out++y).length+3000*vs.length<=sizeLine:=by
  rw[strLen_append];rw[length_cons]at z;omega
 refine joinParts_cons (Calls.Constant_str ⟨by omega,?_⟩);exact h pins _ J H Q (out++y) (I.tok _) q O
abbrev vv(te:TE)(t:TA):TA:=fun J H Q=>te J H fun v I=>∃ i,v=.int i/\i.natAbs<2 ^ 1900/\t J I Q
def ui(b:PE X e te)(h:PJ X vs t):PJ X (.FormattedValue e (-1) none p::vs) (vv te t):=fun pins s J H Q out I q z=>by
 refine joinParts_cons (FormattedValue_plain (thn (b pins s J H _ I q) fun u s1 ⟨v,d,c,r1,i,a,hi,Z⟩=>?_));subst a;obtain⟨f,rfl⟩:=r1
 have U:i.natAbs.log2<1920:=by
  by_cases Y:i.natAbs=0
  ·rw[Y];decide
  ·exact lt_trans ((Nat.log2_lt Y).mpr hi) ∅
 have g:(Str.ofString (toString i)).length<=1921:=by
  rw[PySem.ofString_length];exact int_text_length_le ∅ U
 have O:(out++Str.ofString (toString i)).length+3000*vs.length<=sizeLine:=by
  rw[strLen_append];rw[length_cons]at z;omega
 refine formatField_int_small U ⟨?_,?_⟩
 ·exact Jr (Nat.le_add_right _ _) O
 ·exact h pins _ J d Q _ ((c.tok _).tok _) Z O
def mz(h:PJ X (v::v2::vs) t)(hn:vs.length<=100):PE X (.JoinedStr (v::v2::vs) pos) (fun J H Q=>t J H fun _ O=>∀ x,Q (.str x) O):=by
 intro pins s J H Q I q;refine JoinedStr_many (thn (h pins s J H (fun O=>∀ x,Q (.str x) O) Str.empty I q ?_) fun u s1 ⟨v,O,Z,r1,⟨x,Y⟩,U⟩=>#[v,O,Z,r1,by rw[Y];exact U x]);rw[length_cons,length_cons,sizeLine_eq];have:Str.empty.length=0:=rfl;omega
end
open PySem.Builtin PySem.Builtin.ObjectAttr PySem.W
open Sem (wp)
abbrev ET(w:World)(name:Str)(I:Tok)(v:Value):Obj:={ cls:=.type "dict",data:=.dict (List.toArray [⟨PyData.keyHash w.params name,.str name I,v⟩]) 1 }
def qt{I:Int}:Obj.putName name I (.str name tk) v { cls:=.type "dict",data:=.dict (List.toArray []) }={ cls:=.type "dict",data:=.dict (List.toArray [⟨I,.str name tk,v⟩]) 1 }:=by
 rw[Obj.putName_eq];simp[Obj.putNameByArray]
def vk{K:Frag}{cd:ClassData}{Q:Unit->Shared->Prop}(X:K.In s.heap)(a:s.heap.get? x=some ox)(f:ox.cls=.ref C)(hd:ox.dict=none)(hf:ox.data=.fields vs)
 (l:findIn K (.ref C) "__setattr__" = some (some (.builtin "object.__setattr__")))(Y:clsIn K C=some cd)(n:cd.hasDict=true)(m:∀ self,refuseLoop self "__setattr__" cd.mro=pure ())
 (ho:mroIn K C (.type "object")=some true)(k:findIn K (.ref C) name=some none)
 (h:∀ h':Heap,h'.get? x=some { ox with dict:=some s.heap.objs.size }->h'.get? s.heap.objs.size=some (ET w name (s.toks+1) v)->(∀ b,b≠x->b≠s.heap.objs.size->h'.get? b=s.heap.get? b)->h'.objs.size=s.heap.objs.size+1 ->
   Q () { s with heap:=h',toks:=s.toks+1+1 }):wpAny (model prog w) A (setAttr (.ref x) name v) Q E s:=by
 obtain⟨oc,i,j,osl⟩:=ox;dsimp only at f hd hf;subst f hd hf
 have I:InstAt s.heap x { cls:=.ref C,dict:=none,data:=.fields vs,slots:=osl } C none:=#[a,rfl,rfl,trivial]
 refine set_plain X I l ?_;have Z:=PySem.F.store_object;have sub:Looks (model prog w) s.heap (isInstance (.ref x) (.type "object")) true:=I.type.andThen (looks_mroIn X ho);refine codeAny_call_builtin Z.slot.plain Z.entry (@check_slot (model prog w) _ _ { s with toks:=s.toks+1 } "object.__setattr__" "object" "__setattr__" (.ref x) [.str name s.toks,v] [] _ Z.kind Z.split sub (Z.args (.ref x) (.str name s.toks) v) ?_);have hm:Looks (model prog w) s.heap (mroOf (.ref C)) cd.mro:=(looks_clsIn X Y).andThen .now;rw[osa_eq,refuse_eq];refine Ja (Ja (I.type _ _ _ _ (fun _ _ e=>e) (Ja (hm _ _ _ _ (fun _ _ e=>e) ?_))));rw[m];refine Jc (Ja (I.type _ _ _ _ (fun _ _ e=>e) (Ja (looks_findIn X k _ _ _ _ (fun _ _ e=>e) (Ja (Jc ?_))))));dsimp only;have U:x≠s.heap.objs.size:=Jl (Jf a);have O:(s.heap.push { cls:=.type "dict",data:=.dict (List.toArray []) }).get? x=some { cls:=.ref C,dict:=none,data:=.fields vs,slots:=osl }:=Jb _ a
 have D:((s.heap.push { cls:=.type "dict",data:=.dict (List.toArray []) }).update x fun o=>{ o with dict:=some s.heap.objs.size }).get? s.heap.objs.size=some { cls:=.type "dict",data:=.dict (List.toArray []) } :=
  (JB _ _ _ _ U.symm).trans (Heap.get?_push_at rfl rfl)
 refine Ja (Jc (Ja (Ja (wpAny_loadPart a (Ja (looks_clsIn X Y _ _ _ _ (fun _ _ e=>e) ?_))))));rw[n];refine Ja (wpAny_alloc' ?_);refine Ja (wpAny_update' O ?_);refine Jc ?_;show wpAny _ _ (storeInDict s.heap.objs.size (.str name s.toks) name v) _ _ _;unfold storeInDict newKeyGuard;refine Ja (Jc (Ja ?_));unfold nsSet;refine Ja (Ja (wpAny_askSetting (Jc (Ja (wpAny_mkText (Ja (wpAny_loadPart D ?_)))))));dsimp only
 have c:(!((List.toArray []):Array DictEntry).any (·.key.isStr name)&&((List.toArray []):Array DictEntry).any (·.refKey))=false:=by simp
 rw[aRefKeyMayBeTheName_at,c];refine wpAny_updatePart D ?_;have d:=Jq (Obj.putName name (PyData.keyHash w.params name) (.str name (s.toks+1)) v) D (by rw[qt];rfl);rw[qt]at d;refine Ja (wpAny_lookBehind d (pastItsLine_dict (by rw[sizeLine_eq];simp)) ?_);refine Jc (h _ ?_ d (fun b p g=>?_) ?_)
 ·exact(JB _ _ _ _ U).trans (Jq _ O rfl)
 ·refine(JB _ _ _ _ g).trans ((JB _ _ _ _ p).trans ?_);exact Heap.get?_push_ne _ _ _ g
 ·simp
open Sem (wp)
section
variable{prog:Program}{w:World}{A:Around}{E:Value->Shared->Prop}{h:Heap}{g:Array GenState}{d:Drawn}{t:Nat}{os:OsState}
variable{nm q:Str}{C N:Addr}{bs bm bmB:List Value}{hdct:Bool}{sn:List Str}{sub:List Value}{ab:Bool}{col:Option Bool}{dd:Option Addr}{k0 k1 k2 k3 k5:Option Value}{B newId initId:String}
def sO(F:ExcBaseFacts B newId initId bmB)(T:OwnTail h bmB bm){c:Str->Option Value}{rest:List Value}{fI:Addr}{k:Obj}{Q:Fin->Shared->Prop}
 (Z:h.get? C=some (excClassObj nm q C N bs bm hdct sn sub ab col dd k0 k1 k2 k3 k5 newId))(hn:h.Ns N c)(hi:c "__init__" = some (.ref fI))
 (i:h.get? fI=some k)(f:k.cls=.type "function")
 (m:∀ h' e,Heap.MadeExcOf h h' e (.ref C) rest->h.objs.size<=e ->
   wpAny (model prog w) A (call (.ref fI) (.ref e::rest)) (fun r s'=>r=.none/\Q (.done (.ret (.ref e))) s') E ⟨h',g,d,t,os⟩)(hrest:rest.length<=sizeLine:=by size_fits) :
  wpAny (model prog w) A (Builtin.«type.__call__» ⟨.ref C::rest,[]⟩) Q E ⟨h,g,d,t,os⟩:=by
 repeat (first | with_reducible refine wpAny_loadPart_at Z ?_ | with_reducible refine wpAny_madeBy_exc Z ?_ | wp_step)
 refine codeAny_call_builtin_code (Code.quiet_builtin _ F.quiet) (wpAny_check_new_subT F T Z ?_);refine codeAny_exc_new_subT F T Z ?_ hrest;show wpAny _ _ _ _ _ _
 have Y:∀ b o,h.get? b=some o->((h.push { cls:=.type "tuple",data:=.seq rest.toArray }).push { cls:=.ref C,data:=.fields (List.toArray [.ref h.objs.size,.none,.none,.none,.bool false,.none]) }).get? b=some o :=
  fun b o e=>Jb _ (Jb _ e)
 have I:=Y _ _ Z
 have U:((h.push { cls:=.type "tuple",data:=.seq rest.toArray }).push { cls:=.ref C,data:=.fields (List.toArray [.ref h.objs.size,.none,.none,.none,.bool false,.none]) }).Ns N c :=
  let ⟨o,es,ep,e,r⟩:=hn;⟨o,es,ep,Y _ _ e,r⟩
 have O:((h.push { cls:=.type "tuple",data:=.seq rest.toArray }).push
   { cls:=.ref C,data:=.fields (List.toArray [.ref h.objs.size,.none,.none,.none,.bool false,.none]) }).get? (h.objs.size+1)=some
   { cls:=.ref C,data:=.fields (List.toArray [.ref h.objs.size,.none,.none,.none,.bool false,.none]) }:=by heap_get
 have j:(Value.ref C::bm).contains (.ref C)=true:=by simp
 have a:=T.keeps Y;unfold isInstance
 repeat (first | with_reducible refine wpAny_loadPart_at O ?_ | (with_reducible refine wpAny_isSubtype_exc I ?_;rw[j]) | wp_step)
 show wpAny _ _ (typeLookup (.ref C) _) _ _ _;refine wpAny_typeLookup_tail I U a F.mroIs F.init.lookup ?_;rw[hi];refine wpAny_holding (Ja ?_);unfold bindSpecial;refine Ja (wpAny_typeOf (T := "function") ⟨_,Y _ _ i,f⟩ ?_);rw[if_pos ∅];refine Jc (Ja (wpAny_mono (m _ (h.objs.size+1) ⟨Y,Heap.get?_none_of_le (le_succ _),h.objs.size,O,Heap.get?_none_of_le (Je _),?_⟩ (le_succ _)) (fun r s' l=>?_) fun _ _ x=>x))
 ·exact Jb _ (Heap.get?_push_at rfl rfl)
 ·obtain⟨rfl,n⟩:=l
  wp_walk
  exact n
def uk(F:ExcBaseFacts B newId initId bmB)(T:OwnTail h bmB bm){Z:Str->Option Value}{rest:List Value}{fI:Addr}{Y:Obj}{Q:Value->Shared->Prop}
 (I:h.get? C=some (excClassObj nm q C N bs bm hdct sn sub ab col dd k0 k1 k2 k3 k5 newId))(hn:h.Ns N Z)(hi:Z "__init__" = some (.ref fI))
 (U:h.get? fI=some Y)(O:Y.cls=.type "function")
 (b:∀ h' e,Heap.MadeExcOf h h' e (.ref C) rest->h.objs.size<=e ->
   wpAny (model prog w) (A.under (.builtin "type.__call__" ⟨.ref C::rest,[]⟩)) (call (.ref fI) (.ref e::rest)) (fun r s'=>r=.none/\Q (.ref e) s') E ⟨h',g,d,t,os⟩)(hrest:rest.length<=sizeLine:=by size_fits) :
  wpAny (model prog w) A (call (.ref C) rest) Q E ⟨h,g,d,t,os⟩:=by
 have f1:=tc_lookup;have f2:=tc_bind (.ref C)
 have c:(⟨h,g,d,t,os⟩:Shared).TypeIs (.ref C) "type" := #[_,I,rfl]
 refine wpAny_call (codeAny_of_tree ?_);show wpAny _ _ (callAny (.ref C) _) _ _ _
 repeat (any_goals (first | assumption | with_reducible refine wpAny_loadPart_at I ?_ | wp_step))
 refine#[rfl,?_];refine codeAny_call_builtin_at (Code.quiet_builtin _ (by decide +kernel)) entry_typeCall (wpAny_check_type_call_sub I (sO (hrest:=hrest) F T I hn hi U O fun h' e hm a=>?_));exact b h' e hm a
end
section
variable{K:Frag}{prog:Program}{w:World}{A:Around}{E:Value->Shared->Prop}{s:Shared}{D x:Addr}{ox od:Obj}{Q:Value->Shared->Prop}
def vO(F:kj K D)(X:K.In s.heap)(I:InstAt s.heap x ox D (some od))(hf:findObj K D (some od) name=some (.value v))(a:handedIn v=true)(h:Q v { s with toks:=s.toks+1 }):wpAny (model prog w) A (getAttr (.ref x) name expr) Q E s:=by
 have U:=I.type (M:=model prog w);have c:=looks_findIn (M:=model prog w) X F.ga;have L2:=looks_findIn (M:=model prog w) X F.gn;have Y:=looks_find (M:=model prog w) X I hf;have b:=looks_subIn (M:=model prog w) X F.mb;obtain⟨e,g,d,t,os⟩:=s;unfold getAttr getAttrBy;refine Ja (wpAny_mkText (wpAny_holding (Ja (U.at (Ja (c.at ?_))))))
 have Z:¬ ((onTheHeap (Value.ref D)&&(Value.builtin "BaseException.__getattribute__" == Value.builtin "object.__getattribute__"))=true):=by
  have:(Value.builtin "BaseException.__getattribute__" == Value.builtin "object.__getattribute__")=false:=by decide +kernel
  rw[this,Bool.and_false];exact Jo
 dsimp only;rw[if_neg Z];unfold getAttrByItsOwn hookBefore;rw[if_pos (show onTheHeap (Value.ref D)=true from rfl)];refine Ja (L2.at ?_);unfold callGetattribute boundAndCalled;rw[if_neg (show ¬ ((expr&&onTheHeap (Value.builtin "BaseException.__getattribute__"))=true)from by cases expr<;>exact Jo)];refine Ja (wpAny_attempt (wpAny_holding (Ja (wpAny_of_eq (PySem.F.attrBase_ValueError.ga.bind (.ref x)) ?_))));refine wpAny_call (codeAny_call_builtin PySem.F.attrBase_ValueError.ga.plain PySem.F.entry_bexc_ga ?_)
 have hk:builtinKind "BaseException.__getattribute__" = some .slot:=by decide +kernel
 have O:splitId "BaseException.__getattribute__" = some ("BaseException", "__getattribute__"):=by decide +kernel
 have ha:=PySem.F.args_bexc_ga (.ref x) (.str name t);simp only[checkBuiltinCall,hk,O];unfold isInstance
 repeat (any_goals (first | assumption | exact U | (with_reducible refine U.at ?_) | (with_reducible refine b.at ?_) | (with_reducible refine Y.at ?_) | (with_reducible refine Ja (Y.at ?_)) | wp_step))
 exact wpAny_of_eq (handedOut_of a) h
end
section
variable{prog:Program}{w:World}{A:Around}{E:Value->Shared->Prop}{h:Heap}{g:Array GenState}{d:Drawn}{t:Nat}{os:OsState}
variable{nm q:Str}{C N:Addr}{bs bm bmB:List Value}{hdct:Bool}{sn:List Str}{sub:List Value}{ab:Bool}{col:Option Bool}{dd:Option Addr}{k0 k1 k2 k3 k5:Option Value}{B newId initId:String}
def sq(F:ExcBaseFacts B newId initId bmB)(T:OwnTail h bmB bm){e Y:Addr}{rest:List Value}{Q:Value->Shared->Prop}
 (a:h.get? C=some (excClassObj nm q C N bs bm hdct sn sub ab col dd k0 k1 k2 k3 k5 newId))
 (U:h.get? e=some { cls:=.ref C,data:=.fields (List.toArray [.ref Y,.none,.none,.none,.bool false,.none]) })
 (Z:∀ h':Heap,h'.get? e=some { cls:=.ref C,data:=.fields (List.toArray [.ref h.objs.size,.none,.none,.none,.bool false,.none]) }->h'.get? h.objs.size=some { cls:=.type "tuple",data:=.seq rest.toArray } ->
   (∀ b,b≠e->b≠h.objs.size->h'.get? b=h.get? b)->h'.objs.size=h.objs.size+1->Q .none ⟨h',g,d,t,os⟩)(I:rest.length<=sizeLine:=by size_fits) :
  wpAny (model prog w) A (call (.builtin initId) (.ref e::rest)) Q E ⟨h,g,d,t,os⟩:=by
 have O:e≠h.objs.size:=Jl (Jf U);refine wpAny_call (codeAny_call_builtin F.init.plain F.initEntry (wpAny_check_init_subT F T a U rfl ?_))
 wp_walk
 refine Z _ ?_ ?_ (fun b f c=>?_) ?_
 ·exact Jq _ (Jb _ U) rfl
 ·exact(JB _ _ _ _ O.symm).trans (Heap.get?_push_at rfl rfl)
 ·exact(JB _ _ _ _ f).trans (Heap.get?_push_ne _ _ _ c)
 ·simp
end
open RS (VE)
abbrev Ex0(C t e:Addr):Heap->Prop:=fun h=>h.get? e=some { cls:=.ref C,data:=.fields (List.toArray [.ref t,.none,.none,.none,.bool false,.none]) }
abbrev Ex1(C t n e:Addr):Heap->Prop:=fun h=>h.get? e=some { cls:=.ref C,dict:=some n,data:=.fields (List.toArray [.ref t,.none,.none,.none,.bool false,.none]) }
abbrev fM(U:Int)(O:Tok)(i:Nat)(I:Tok):Obj:={ cls:=.type "dict",data:=.dict (List.toArray [⟨U,.str "at" O,.int i I⟩]) 1 }
def oj(I:h.get? e=some o):bD P w H h e (.ext fun h=>h.get? e=some o):=#[I,#[_,I],fun _ _ a b=>b _ a]
structure dY(K:W.Frag)(R C fI:Addr):Prop where
 obj:∃ bm N nm qn bs hdct sn sub ab col dd k0 k1 k2 k3 k5,K.lookup C=some (excClassObj nm qn C N bs bm hdct sn sub ab col dd k0 k1 k2 k3 k5 "ValueError.__new__")/\W.tailIn K VE bm=true/\W.nsOkIn K N=true/\W.nsIn K N "__init__" = some (some (.ref fI))
 rd:W.readsIn K R (.type "type")=true
 fc:W.findCls K (.ref R) (.type "type") "__init__" = some (.val (.builtin "ValueError.__init__"))
 sp:W.specialIn K (.ref R) "__getattribute__" = some (some (.builtin "type.__getattribute__"))
 sa:W.findIn K (.ref C) "__setattr__" = some (some (.builtin "object.__setattr__"))
 cd:∃ cd,W.clsIn K C=some cd/\cd.hasDict=true/\∀ self,refuseLoop self "__setattr__" cd.mro=pure ()
 mo:W.mroIn K C (.type "object")=some true
 na:W.findIn K (.ref C) "at" = some none
 kp:W.keepIn K (.ref C)=true
 fn:∃ o,K.lookup fI=some o/\o.cls=.type "function"
section
variable{K:W.Frag}
def A0{N:Addr}{mg:Str->Option Value}(X:K.In hp)(G:hp.Ns N mg)(e:W.nsIn K N n=some (some v)):mg n=some v:=by
 obtain⟨o,es,ep,ho,hd,_,hf⟩:=G;unfold W.nsIn at e;split at e
 ·rename_i c d O U sl q;have:=X _ _ q;rw[ho]at this;cases this;cases hd;split at e
  ·rename_i Y I;cases e;rw[<-hf];unfold nsFind findBy;rw[<-Array.find?_toList,I];rfl
  ·split at e<;>cases e
 ·cases e
def dY.cls(h:dY K R C fI)(X:K.In hp):∃ bm N nm qn bs hdct sn sub ab col dd k0 k1 k2 k3 k5 I,hp.get? C=some (excClassObj nm qn C N bs bm hdct sn sub ab col dd k0 k1 k2 k3 k5 "ValueError.__new__")/\hp.Ns N I/\I "__init__" = some (.ref fI)/\OwnTail hp VE bm:=by
 obtain⟨bm,N,nm,qn,bs,hdct,sn,sub,ab,col,dd,k0,k1,k2,k3,k5,l,t,o,i⟩:=h.obj;have G:hp.Ns N _:=.of_isNs (W.isNs_of_in X o);exact#[bm,N,nm,qn,bs,hdct,sn,sub,ab,col,dd,k0,k1,k2,k3,k5,_,X _ _ l,G,A0 X G i,W.tail_of_in X t]
end
section
def zy(k:dY X.K R C fI)(w:Gl X x)(hm:X.mg x=some (.ref R))(f:(x == ("__debug__" : Str))=false)(ha:PA X [a1,a2] t)(c:starEach [a1,a2] X.env=(false,eval a1 X.env)::starEach [a2] X.env)(hpl:(backTo pos (starEach [a2] X.env)).any (·.1)=false)
 (O:(apos.endLine == pos.line)=true)(U:methodCallForm 2 (backTo pos (starEach [a1,a2] X.env)) (backToKw pos (keywordEach [] X.env))=true) :
  PE X (.Call (.Attribute (.Name x np) "__init__" apos) [a1,a2] [] pos) (fun J H Q=>t J H fun vs j=>∃ e Z y,vs=[.ref e,.str y]/\j e=some (.ext (Ex0 C Z e))/\∀ t1,Q .non (upd j e (.ext (Ex0 C t1 e)))):=by
 fin2;rw[arm_eval_Call,show attributeBase (.Name x np) "__init__" X.env (eval (.Name x np) X.env)=eval (.Name x np) X.env from rfl];refine Ja (cW I w hm ?_ f);refine Ja (wpAny_standAt ?_)
 have Y:methodCallPos true (.Name x np) X.env apos pos=pure pos:=by unfold methodCallPos;simp[O]
 unfold methodCall;rw[show methodCallForm ([a1,a2].length+([]:List Keyword).length) (backTo pos (starEach [a1,a2] X.env)) (backToKw pos (keywordEach [] X.env))=true from U];refine Ja (wpAny_holding (W.method_cls I.kIn k.sp (W.cls_value I.kIn k.rd k.fc rfl ?_)));refine Ja (wpAny_of_eq Y ?_);refine PyProof.Rows.callWith_builtin1 (thn (ha pos pins _ J H _ (I.tok _) h) fun us s1 ⟨vs,j,i,r,e,Z,y,a,m,q⟩=>?_) c hpl;subst a;obtain⟨bm,N,nm,qn,bs,hdct,sn,sub,ab,col,dd,k0,k1,k2,k3,k5,E,A,_,_,T⟩:=k.cls i.kIn
 cases r with
 |cons r1 v=>
  cases r1;obtain⟨n,g,d,p,os⟩:=s1;have ho:n.get? e=some { cls:=.ref C,data:=.fields (List.toArray [.ref Z,.none,.none,.none,.bool false,.none]) }:=(i.hok e _ m).1
  refine sq PySem.F.excBase_ValueError T A ho (fun h' l D o B=>?_) (by
   rw[<-v.length];show 1<=sizeLine
   decide)
  refine#[.non,_,i.write (x:=e) (e:=e) (t':=p) (by rw[m];exact True.intro) (.inl rfl) (fun b u hb z=>(o b hb (Jl (Jf z))).trans z) #[_,l] (oj l),rfl,q n.objs.size]
def xl(k:dY X.K R C fI)(ha:PE X o ta)(A:PE X value tv)(B:swapsWith value (some (.Attribute o "at" pos')) pos.line X.env=pure false) :
  PS X (.Assign [.Attribute o "at" pos'] value pos) (fun D J H=>tv J H fun y d=>ta J d fun x H2=>∃ (e Z:Addr) (i:Nat),x=.ref e/\y=.int i/\H2 e=some (.ext (Ex0 C Z e)) /\
   ∀ n E m O,H2 n=none->n≠e->D.nx J (upd (upd H2 n (.frz (fM E m i O) (.ext fun _=>True))) e (.ext (Ex1 C Z n e)))):=by
 k_mem;refine plainObj_wpAny_Assign_Attribute (thn (A pins s J H _ I h) fun u s1 ⟨y,d,N,p,q⟩=>thn (ha pins s1 J d _ N q) fun v s2 ⟨x,H2,c,r,e,Z,i,ex,F,g,t⟩=>?_) B;subst ex F;obtain rfl:v=Value.ref e:=r;obtain⟨O,rfl⟩:=p;have ho:s2.heap.get? e=some { cls:=.ref C,data:=.fields (List.toArray [.ref Z,.none,.none,.none,.bool false,.none]) }:=(c.hok e _ g).1;obtain⟨cd,M,L,G⟩:=k.cd;refine vk c.kIn ho rfl rfl rfl k.sa M L G k.mo k.na fun h' f l j P=>?_;have hn:H2 s2.heap.objs.size=none:=c.hok.fresh (Je _);have Y:s2.heap.objs.size≠e:=ne_of_gt (Jf ho);refine#[J,_,?_,t s2.heap.objs.size (PyData.keyHash X.w.params "at") (s2.toks+1) O hn Y];have g1:(s2.heap.push (fM (PyData.keyHash X.w.params "at") (s2.toks+1) i O)).get? s2.heap.objs.size=some (fM (PyData.keyHash X.w.params "at") (s2.toks+1) i O):=Heap.get?_push_at rfl rfl;have Qa:=c.laid (h':=s2.heap.push (fM (PyData.keyHash X.w.params "at") (s2.toks+1) i O)) (a:=s2.heap.objs.size) (o:=.frz (fM (PyData.keyHash X.w.params "at") (s2.toks+1) i O) (.ext fun _=>True)) (t':=s2.toks+1+1) (fun b u z=>Jb _ z) (Je _) ⟨g1,True.intro,⟨_,g1⟩,fun _ _ _ _=>True.intro⟩;refine Qa.write (x:=e) (e:=e) (h':=h') (t':=s2.toks+1+1) (by rw[ax (Ne.symm Y),g];exact True.intro) (.inl rfl) (fun b u hb z=>?_) ⟨_,f⟩ (oj f);by_cases U:b=s2.heap.objs.size
 ·subst U;have z:(s2.heap.push (fM (PyData.keyHash X.w.params "at") (s2.toks+1) i O)).get? s2.heap.objs.size=some u:=z;rw[g1]at z;cases z;exact l
 ·have z:(s2.heap.push (fM (PyData.keyHash X.w.params "at") (s2.toks+1) i O)).get? b=some u:=z;rw[j b hb U];rw[Heap.get?_push_ne _ _ _ U]at z;exact z
end
end L2
set_option exponentiation.threshold 2000
namespace L2
open PySem PySem.Spec PyProof.Rows
open RS (VE)
def m5{H:Hp}(h:n≠e):upd (upd (upd H e a) n b) e c=upd (upd H n b) e c:=by
 funext x;by_cases I:x=e
 ·subst I;rw[aG,aG]
 ·rw[ax I,ax I];by_cases hn:x=n
  ·subst hn;rw[aG,aG]
  ·rw[ax hn,ax hn,ax I]
abbrev spI(C:Addr):Sp:=fun vs H Q _=>∃ (e U:Addr) (i:Nat),vs=[.ref e,.int i]/\i<2 ^ 1900/\H e=some (.ext (Ex0 C U e)) /\
 ∀ n t1 Y O I,H n=none->n≠e->Q .non (upd (upd H n (.frz (fM Y O i I) (.ext fun _=>True))) e (.ext (Ex1 C t1 n e)))
structure rR(st:Stmt):Prop where
 body:∃ (np ap p2 p3 p4 p5 p6 cp p7 p8 ap2 p9 p10 p11:Pos) (y1 y2:Str) (k1 k2:Nat),br st=[.Expr (.Call (.Attribute (.Name "RibbonError" np) "__init__" ap) [.Name "self" p2,.JoinedStr [.Constant (.str y1) k1 p3,.FormattedValue (.Name "at" p4) (-1) none p5,.Constant (.str y2) k2 p6] p7] [] cp) p8,.Assign [.Attribute (.Name "self" p9) "at" ap2] (.Name "at" p10) p11] /\
  y1.length<=3000/\y2.length<=3000/\(ap.endLine == cp.line)=true
 sc:cU ["self", "at"] ["self", "at"] (az st)
 g:(az st).names.lookup ("RibbonError" : Str)=some .globalImplicit
 v1:(az st).names.lookup ("self" : Str)=some .local
 v2:(az st).names.lookup ("at" : Str)=some .local
def qS{K:W.Frag}{st:Stmt}(k:dY K R C fI)(T:rR st)(F:Fun K "__init__" qual st fI fd)(hm:mg "RibbonError" = some (.ref R)):aY P w K mg base CX0 1 fI fd ["self", "at"] (spI C):=by
 obtain⟨np,ap,p2,p3,p4,p5,p6,cp,p7,p8,ap2,p9,p10,p11,y1,y2,k1,k2,hb,j,f,l⟩:=T.body;refine Fun.ok F T.sc (fun vs H Q E h=>?_) fun cdv A outer s H vs Q E u h=>?_
 ·obtain⟨e,Z,i,rfl,_⟩:=h;rfl
 ·rw[hb];obtain⟨e,Z,i,rfl,hi,o,q⟩:=h;generalize hX:(d7 CX0 P w K mg base ["self", "at"] qual (az st) fI cdv A outer s H E).nox=X
  have b:X.N=(["self", "at"]:List Str):=by rw[<-hX];rfl
  have t:X.K=K:=by rw[<-hX];rfl
  have r:X.mg=mg:=by rw[<-hX];rfl
  have a:X.env.scope=az st:=by rw[<-hX];rfl
  have g:Gl X "RibbonError" := by rw[<-hX];exact T.g
  have U:∀ p,PE X (.Name "self" p) (eZ 0):=fun p=>c9 (by rw[b];rfl) (by rw[a];exact .inl T.v1) ∅ ∅;have O:∀ p,PE X (.Name "at" p) (eZ 1):=fun p=>c9 (by rw[b];rfl) (by rw[a];exact .inl T.v2) ∅ ∅;rw[<-t]at k;have d:=mz (X:=X) (pos:=p7) (lY (k:=k1) (p:=p3) (y:=y1) (ui (p:=p5) (O p4) (lY (k:=k2) (p:=p6) (y:=y2) uR f)) j) (show 1<=100 by decide);have s1:=fh (X:=X) (pos:=p8) (zy (x := "RibbonError") (np:=np) (apos:=ap) (pos:=cp) k g (by rw[r];exact hm) ∅ (aO (U p2) (aO d bE rfl) rfl) rfl rfl l rfl) rfl;have s2:=xl (X:=X) (pos:=p11) (pos':=ap2) k (U p9) (O p10) rfl;refine#[_,bg s1 (bg s2 eC),?_];refine#[.ref e,rfl,.int i,rfl,i,rfl,by simpa using hi,fun x=>#[e,Z,x,rfl,o,fun t1=>?_]];refine#[.int i,rfl,.ref e,rfl,e,t1,i,rfl,rfl,aG,fun n m c Y hn I=>?_];rw[m5 I];exact q n t1 m c Y ((ax I).symm.trans hn) I
end L2
set_option exponentiation.threshold 2000
namespace L2
open PySem PySem.Spec PyProof.Rows
open RS (VE gB)
structure nK(X:Cx)(H:Hp)(s:Shared)(C:Addr)(f:Option Nat)(e:Addr)(od:Option Addr)(H':Hp)(s':Shared):Prop where
 os:s'.os=s.os
 bare:AllBare s'.gens
 un:Un (frs X.stack) [] H H' s.heap s'.heap
 hok:HOk X.prog X.w H' s'.heap
 fld:gB H' f od
 ex:Exc (eH s.heap H') e C od false s'.heap
 sm:aD H H'
 ob:∃ t,s'.heap.get? e=some { cls:=.ref C,dict:=od,data:=.fields (List.toArray [.ref t,.none,.none,.none,.bool false,.none]) }
def Inv.newX(I:Inv X pins J H s)(O:X.ex=[])(nx:nK X H s C f e od H' s'):Inv X pins J H' s'/\Exc (eH X.s₀.heap H') e C od false s'.heap :=
 ⟨I.mZ nx.os nx.un nx.hok nx.bare (fun b z=>absurd z (by simp)),nx.ex.mono fun b hb=>hb.imp (fun⟨o,q⟩=>I.old O q) fun z=>z⟩
section
def xR(k:dY X.K R C fI)(F:aY X.prog X.w X.K X.mg X.base CX0 1 fI fd ["self", "at"] (spI C))(hr:bq 2 X.A)(hb:Binds X.K fd ["self", "at"] [])(I:Inv X pins J H s)(hi:i<2 ^ 1900)
 (hq:∀ e od H' s',nK X H s C (some i) e od H' s'->X.K.In s'.heap->Q (.ref e) s'):wpAny (model X.prog X.w) X.A (call (.ref C) [.int (i:Nat) x]) Q X.xe s:=by
 obtain⟨bm,N,nm,qn,bs,hdct,sn,sub,ab,col,dd,k0,k1,k2,k3,k5,mN,hC,hN,hin,T⟩:=k.cls I.kIn;obtain⟨oI,lk,hfc⟩:=k.fn;obtain⟨h,g,d,t,os⟩:=s;refine uk PySem.F.excBase_ValueError T hC hN hin (I.kIn _ _ lk) hfc (fun h' e m le=>?_) (show 1<=sizeLine by decide);obtain⟨Qa,he,_,_⟩:=m.there;have M:Inv X pins J (upd H e (.ext (Ex0 C Qa e))) ⟨h',g,d,t,os⟩:=I.laid (t':=t) m.keeps le (oj he);have L:H e=none:=I.hok.fresh le
 have hsp:spI C [.ref e,.int i] (upd H e (.ext (Ex0 C Qa e))) (fun v H2=>v=.non/\∃ n t1 B x D,(upd H e (.ext (Ex0 C Qa e))) n=none/\n≠e/\H2=upd (upd (upd H e (.ext (Ex0 C Qa e))) n (.frz (fM B x i D) (.ext fun _=>True))) e (.ext (Ex1 C t1 n e))) E0 :=
  ⟨e,Qa,i,rfl,hi,aG,fun n t1 B x D hn U=>#[rfl,n,t1,B,x,D,hn,U,rfl]⟩
 refine wpAny_call (codeAny_mono (F.run _ X.stack _ _ ⟨[.ref e,.int i x],[]⟩ [.ref e,.int i x] _ _ E0 (hr.make C _ []) (M.pL.make C _ []) (hb _ [.ref e,.int i x] M.kIn rfl) (show Vals [V.ref e,V.int i] [Value.ref e,Value.int i x]from .cons rfl (.cons ⟨_,rfl⟩ .nil)) hsp) fun r s' Z=>?_)
 cases r with
 | error e=>exact Z.elim
 |ok fl=>
  cases fl with
  | next=>exact False.elim Z
  | brk=>exact False.elim Z
  | cont=>exact False.elim Z
  |ret u=>
   obtain⟨v,H2,S,G,Y,O,P,hv,n,t1,B,tk1,c,hn,U,j⟩:=Z;subst hv;have P:u=.none:=P;rw[m5 U]at j;have hn:H n=none:=(ax U).symm.trans hn
   have new:∀ b o,h.get? b=some o->b≠e:=fun b o q z=>by
    have:=m.new;rw[z,this]at q;cases q
   have H2n:H2 n=some (.frz (fM B tk1 i c) (.ext fun _=>True)):=by rw[j,ax U,aG]
   have p:H2 e=some (.ext (Ex1 C t1 n e)):=by rw[j,aG]
   have l:∀ b,b≠e->H2 b=upd H n (.frz (fM B tk1 i c) (.ext fun _=>True)) b:=fun b hb=>by rw[j,ax hb]
   have f:∀ {b:Addr} {o:HO},H b=some o->b≠n:=fun q z=>by rw[z,hn]at q;cases q
   refine#[P,hq e (some n) (upd H n (.frz (fM B tk1 i c) (.ext fun _=>True))) s' #[S,G,#[fun b o q z hb E=>?_,fun b o q z hb E=>?_,fun b o q z E=>?_,fun b o q E=>?_,fun b xs q=>?_,fun b o u q=>?_,fun b ps q=>?_],fun a o q=>?_,?_,?_,fun a u q=>?_,#[t1,(O e _ p).1]] ?_]
   ·exact Y.keep b o (m.keeps b o q) ((ax (new b o q)).trans z) hb E
   ·exact Y.slot b o (m.keeps b o q) ((ax (new b o q)).trans z) hb E
   ·have:=Y.free b o (m.keeps b o q) ((ax (new b o q)).trans z) E;rw[l b (new b o q)]at this;exact this
   ·exact Y.there b o (m.keeps b o q) E
   ·exact(ax (f q)).trans q
   ·exact(ax (f q)).trans q
   ·exact#[(List.toArray []),by rw[Array.append_empty];exact(ax (f q)).trans q]
   ·by_cases ha:a=n
    ·subst ha;rw[aG]at q;cases q;have g1:=(O a _ H2n).1;exact#[g1,True.intro,#[_,g1],fun _ _ _ _=>True.intro]
    ·have hae:a≠e:=fun z=>by
      rw[ax ha,z,L]at q;cases q
     refine(O a o ((l a hae).trans q)).fj (fun b u hb r=>r) (fun b z=>?_) fun b xs z=>?_
     ·rw[<-l b fun y=>by rw[y,p]at z;cases z];exact z
     ·rw[<-l b fun y=>by rw[y,p]at z;cases z];exact z
   ·exact#[n,.ext fun _=>True,B,tk1,c,rfl,aG]
   ·refine#[_,_,(O e _ p).1,#[rfl,rfl],rfl,rfl,fun z=>?_,.inl #[rfl,rfl]];rcases z with⟨o,q⟩ | z
    ·exact new e o q rfl
    ·exact z ((ax (Ne.symm U)).trans L)
   ·exact(ax (f q)).trans q
   ·refine I.ok.mod.kin.keeps fun b o q=>?_;obtain⟨q1,q2⟩:=M.bs b o q;refine Y.keep b o q1 q2 (fun z=>?_) (by simp);obtain⟨z1,_⟩:=M.stack.mem z;rw[q]at z1;cases z1
def vJ{EX:St->XK}(k:dY X.K R C fI)(F:aY X.prog X.w X.K X.mg X.base CX0 1 fI fd ["self", "at"] (spI C))(c:bq 2 X.A)(hb:Binds X.K fd ["self", "at"] [])(p:Gl X x)(hm:X.mg x=some (.ref C))(Z:(x == ("__debug__" : Str))=false)
 (hk:∀ pins J H s i e od H' s',Inv X pins J H s->nK X H s C (some i) e od H' s'->EX J (.ref C) od H'->X.xe (.ref e) s')
 (ha:PA X [arg] (eL ta iH))(o:starEach [arg] X.env=[(false,eval arg X.env)]):PS X (.Raise (some (.Call (.Name x np) [arg] [] cpos)) none pos) (fun _ J H=>ta J H fun v U=>∃ i:Nat,[v]=[.int i]/\i<2 ^ 1900/\∀ od H',gB H' (some i) od->aD U H'->EX J (.ref C) od H'):=by
 k_mem
 have O:wpAny (model X.prog X.w) X.A (eval (.Call (.Name x np) [arg] [] cpos) X.env) (fun v s'=>∃ e od t,v=.ref e/\s'.heap.get? e=some { cls:=.ref C,dict:=od,data:=.fields (List.toArray [.ref t,.none,.none,.none,.bool false,.none]) }/\X.K.In s'.heap/\X.xe (.ref e) s') X.xe s:=by
  refine wpAny_Call_Name_kw (cW I p hm ?_ Z);refine W.callWith_K (h₀:=X.base) I.ok.mod.kin k.kp (thn (ha cpos pins s J H (fun vs U=>∃ i:Nat,vs=[.int i]/\i<2 ^ 1900/\∀ od H',gB H' (some i) od->aD U H'->EX J (.ref C) od H') I ?_) fun us s1 ⟨vs,U,b,r,q⟩=>#[b.kIn,?_]) o rfl
  ·exact h
  ·obtain⟨i,rfl,hi,q⟩:=q
   cases r with
   |cons r1 l=>
    cases l;obtain⟨j,rfl⟩:=r1;refine xR k F c hb b hi fun e od H' s' nx kin=>?_;obtain⟨t,ob⟩:=nx.ob;exact#[e,od,t,rfl,ob,kin,hk pins J U s1 i e od H' s' b nx (q od H' nx.fld nx.sm)]
 obtain⟨bm,N,nm,qn,bs,hdct,sn,sub,ab,col,dd,k0,k1,k2,k3,k5,m,_⟩:=k.cls I.kIn;rw[arm_exec_Raise];show wpAny _ _ (do standAt pos;raiseStmt X.env (some (do let v <- eval (.Call (.Name x np) [arg] [] cpos) X.env;standAt pos;pure v)) none) _ _ _;refine Ja (wpAny_standAt ?_);unfold raiseStmt;refine Ja (Ja (thn O fun v s1 ⟨e,od,t,n,ob,kin,Y⟩=>Ja (wpAny_standAt (Jc ?_))));subst n;obtain⟨u,g,d,j,os⟩:=s1;obtain⟨bm,N,nm,qn,bs,hdct,sn,sub,ab,col,dd,k0,k1,k2,k3,k5,m,f,_,_,T⟩:=k.cls kin
 have a:(Value.ref C::bm).contains (.type "BaseException")=true:=by rw[contains_cons,T.hasType PySem.F.excBase_ValueError.hasBase,Bool.or_true]
 repeat (first | with_reducible refine wpAny_loadPart_at ob ?_ | with_reducible refine wpAny_loadPart_at f ?_ | (with_reducible refine wpAny_isSubtype_exc f ?_;rw[a]) | wp_step)
 exact wpAny_raiseNew_none c.hd Y
end
open RS (VE)
def Dl(self:Value):refuseLoop self "__setattr__" (.ref D :: .ref R::VE)=pure ():=by
 rw[refuseLoop_ref,refuseLoop_ref]
 kernel_rfl
section
variable{K:W.Frag}{k0 k1 k2 k3 k5:Option Value}{es:Array DictEntry}{hdct:Bool}{od:Option Addr}{ep:Nat}{sl:Array (Option Value)}
def xm(O:K.lookup D=some (excClassObj nm qn D N bs (.ref R::VE) true sn sub ab col dd k0 k1 k2 k3 k5 "ValueError.__new__"))(a:W.excIn K R VE "ValueError.__new__" = true)
 (U:K.lookup N=some ⟨oc,od,.dict es ep,sl⟩)(I:(es.toList.all fun e=>match e.key with | .str _ _=>true | _=>false)=true)(Z:W.nsIn K N "__init__" = some (some (.ref fI)))
 (rd:W.readsIn K R (.type "type")=true)(fc:W.findCls K (.ref R) (.type "type") "__init__" = some (.val (.builtin "ValueError.__init__")))(sp:W.specialIn K (.ref R) "__getattribute__" = some (some (.builtin "type.__getattribute__")))
 (sa:W.findIn K (.ref D) "__setattr__" = some (some (.builtin "object.__setattr__")))(mo:W.mroIn K D (.type "object")=some true)(na:W.findIn K (.ref D) "at" = some none)(kp:W.keepIn K (.ref D)=true)
 (Y:K.lookup fI=some ⟨.type "function",odF,.func fd,slF⟩):dY K R D fI where
 obj:=#[_,N,nm,qn,bs,true,sn,sub,ab,col,dd,k0,k1,k2,k3,k5,O,(RS.qE O a).1,by unfold W.nsOkIn;rw[U];exact(Array.all_toList ..).symm.trans I,Z]
 rd:=rd
 fc:=fc
 sp:=sp
 sa:=sa
 cd:=#[_,by unfold W.clsIn;rw[O],rfl,fun self=>Dl self]
 mo:=mo
 na:=na
 kp:=kp
 fn:=#[_,Y,rfl]
end
end L2
namespace RS
open PySem PySem.Spec PyProof.Rows L2
end RS
namespace L2
open PySem PySem.Spec PyProof.Rows
end L2
namespace RS
open PySem PySem.Spec PyProof.Rows L2
end RS
namespace L2
open PySem PySem.Spec PyProof.Rows
end L2
namespace RS
open PySem PySem.Spec PyProof.Rows L2
end RS
namespace L2
open PySem PySem.Spec PyProof.Rows
end L2
namespace RS
open PySem PySem.Spec PyProof.Rows L2
variable{X:Cx}
open Sem (wp)
end RS
namespace L2
open PySem PySem.Spec PyProof.Rows
end L2
namespace RS
open PySem PySem.Spec PyProof.Rows L2
end RS
namespace L2
open PySem PySem.Spec PyProof.Rows
section
variable{X:Cx}
def Bk{e:Expr}{t t':TE}(h:PE X e t')(w:∀ J H Q,t J H Q->t' J H fun v O=>∃ p xs,v=.ref p/\O p=some (.lst xs)/\∀ o,Q (.ref p) (upd O p (.frz o (.lst xs)))):PE X e t:=by
 intro pins s J H Q I q;refine thn (h pins s J H _ I (w J H Q q)) fun v s1 ⟨x,O,Y,r1,p,xs,Z,U,k⟩=>?_;subst Z;obtain⟨z,its,n,r,g⟩:=Y.hok p _ U;have a:Inv X pins J (upd O p (.frz _ (.lst xs))) { s1 with heap:=s1.heap,toks:=s1.toks }:=Y.write (x:=p) (e:=p) (h':=s1.heap) (t':=s1.toks) (by rw[U];trivial) (.inl rfl) (fun b u _ e=>e) ⟨_,g⟩ ⟨g,z,its,n,r,g⟩;exact#[.ref p,_,a,r1,k _]
end
end L2
namespace RS
open PySem PySem.Spec PyProof.Rows L2
section
variable{X:Cx}{cl:RL.Cl}{a b:Expr}{a' b':RL.E}
def Bm(ha:SE X cl a a'):SE X cl a (.frz a'):=by
 refine Bk ha fun J H Q h=>?_;obtain⟨I,d,c,e,k⟩:=h;obtain⟨x,i,e⟩:=bind_some (show(RL.ev cl I a').bind _=some d from e);refine#[I,x,c,i,fun v j r1=>?_];by_cases O:RL.aH a'=true
 ·rw[if_pos O]at e
  cases x with
  |lst ds=>
   obtain⟨U,rfl⟩:=bx (show(if RL.aF ds=true then some (RL.D.fL ds)else none)=some d from e);obtain⟨p,xs,rfl,_,Y,f⟩:=bc r1.rep;have g:=r1.fresh O rfl p rfl;refine#[p,xs,rfl,Y,fun o=>k _ _ (ck ?_ ?_ U)]
   ·intro b ob Z;rw[ax (aJ Z g)];exact r1.same _ _ Z
   ·rw[Rep];exact#[p,o,xs,rfl,aG,(ai.upd Y (.inl #[_,rfl]) rfl (f.imm U)).imm U]
  | _=>cases e
 ·rw[if_neg O]at e;cases e
end
end RS
namespace L2
open PySem PySem.Spec PyProof.Rows
end L2
namespace RS
open PySem PySem.Spec PyProof.Rows L2
section
variable{prog:Program}{w:World}{A:Around}{E:Value->Shared->Prop}{s:Shared}{I t:Addr}{items:Array Value}
def tH(c:A.handled=none)(Y:t≠I):Walks prog w A I [I,t] [I] (items.size-1) (fun i v=>items[i+1]?=some v) (fun i h=>IsTupIter h I t (i+1)/\IsTup h t items) where
 sub:=fun b hb=>by simp at hb;simp[hb]
 frame:=fun i h h' ⟨⟨o,a1,a2⟩,o',b1,b2⟩ hk=>#[#[o,hk I (by simp) _ a1,a2],o',hk t (by simp) _ b1,b2]
 item:=fun i s Q E hi st O=>by
  have a:i+1<items.size:=by omega
  refine next_tuple_item st.1 st.2 (x:=items[i+1]) (by simp[a]) fun h' U Z=>?_;obtain⟨o',b1,b2⟩:=st.2;exact O _ h' s.toks (by simp[a]) ⟨U,o',Z.extBut t _ Y b1,b2⟩ fun b o hb e=>Z.extBut b o (fun z=>hb (by simp[z])) e
 done:=fun s Q E st O=>next_tuple_end c st.1 st.2 (by rw[Array.getElem?_eq_none_iff];omega) fun h' d=>O h' s.toks fun b o hb e=>d b o (fun z=>hb (by simp[z])) e
 self:=fun i s Q E st O=>by
  obtain⟨o,a1,a2,a3⟩:=st.1;exact wpAny_pyIter_tupleiter (t:=t) (i:=i+1) ⟨o,a1,a2,a3⟩ O
def ql{Q:List Value->Shared->Prop}(n:A.handled=none)(Y:IsTup s.heap t items)(u:0<items.size)(D:items.size<=sizeLine)
 (p:∀ (g:Heap) (h:Nat),(∀ b o,s.heap.get? b=some o->g.get? b=some o)->Q [items[0],.ref g.objs.size] { s with heap:=g.push { cls:=.type "list",data:=.seq (items.toList.drop 1).toArray },toks:=h }) :
  wpAny (model prog w) A (unpackItems (.ref t) 2 (some 1)) Q E s:=by
 have O:t<s.heap.objs.size:=by obtain⟨o,ho,_⟩:=Y;exact Jf ho
 unfold unpackItems;refine Ja ?_;unfold notIterableAtAll;refine Ja (wpAny_specialOf Y.typeIs slot_tuple_iter.lookup (Jc ?_));rw[if_neg (by simp)];refine Ja (wpAny_holding (iter_tuple Y (Ja (wpAny_holding (draw_tuple (Jl O) 1 0 _ _ ⟨_,Jd _ rfl,rfl,rfl⟩ (Y.push _) (by omega) fun r U Z=>?_)))))
 have C:List.take 1 (List.drop 0 items.toList)=[items[0]]:=by
  rw[drop_zero,List.take_one,List.head?_eq_getElem?,Array.getElem?_toList];simp[u]
 rw[C,if_neg (by simp)];have f:IsTup r t items:=(Y.push _).extBut Z.extBut (Jl O);refine Ja (wpAny_holding (wpAny_collect_iter (T := "tuple_iterator") (.inr (.inr (.inr rfl))) (tH (A:=A.in1) (I:=s.heap.objs.size) (items:=items) n (Jl O)).toS (fun i s st=>?_) ⟨U,f⟩ (fun b hb=>?_) (by simp) (fun s' a c j=>?_) (by omega)))
 ·obtain⟨o,a1,a2,_⟩:=st.1;exact#[o,a1,a2]
 ·obtain⟨o,a1,_⟩:=U;have:=Jf a1;simp at hb;rcases hb with rfl | rfl
  ·exact this
  ·exact lt_trans O this
 ·have x:a.toList=items.toList.drop 1:=by
   apply List.ext_getElem?;intro i;rw[Array.getElem?_toList,List.getElem?_drop,Array.getElem?_toList,Nat.add_comm 1 i]
   cases e:a[i]? with
   |none=>
    rw[Array.getElem?_eq_none_iff,j.1]at e;symm;rw[Array.getElem?_eq_none_iff];omega
   | some v=>exact(j.2 i v e).symm
  rw[x];show wpAny _ _ (if(items.toList.drop 1).length<0 then _ else _) _ _ _;rw[if_neg (Nat.not_lt_zero _)];refine Ja (wpAny_newObj_type (Jc ?_) ?_)
  ·have B:(items.toList.drop 1).drop ((items.toList.drop 1).length-0)=[]:=by rw[sub_zero,drop_length]
   have y:(items.toList.drop 1).take ((items.toList.drop 1).length-0)=items.toList.drop 1:=by rw[sub_zero,List.take_length]
   show Q ([items[0]]++[.ref s'.heap.objs.size]++(items.toList.drop 1).drop ((items.toList.drop 1).length-0)) _;rw[B,y];have q:=p s'.heap s'.toks (fun b o e=>c.heap b o (fun z=>by have z:=List.mem_singleton.mp z;have:=Jf e;rw[z]at this;exact Jw _ this) (Z.extBut b o (Jl (Jf e)) (Jb _ e)));obtain⟨F,g,d,h,os⟩:=s';have m:g=s.gens:=c.gens;have l:d=s.drawn:=c.drawn;have k:os=s.os:=c.os;subst m l k;exact q
  ·show((items.toList.drop 1).take ((items.toList.drop 1).length-0)).length<=sizeLine;rw[sub_zero,List.take_length,length_drop,length_toList];omega
end
end RS
namespace L2
open PySem PySem.Spec PyProof.Rows
section
variable{X:Cx}
abbrev yj(K:W.Frag)(i j:Nat):TG:=fun v J H Q=>∃ a z I,v=.ref a/\SqT K H a (z::I)/\∀ l o,H l=none->Q ((J.set i (some z)).set j (some (.ref l))) (upd (upd H l (.lst I)) l (.frz o (.lst I)))
def yS{x y:Str}{o n q d:Pos}{D:Nat}(G:X.calm=true)(L:PG X (.Name x o) (fR i))(Qa:PG X (.Name y n) (fR j)):PG X (.Tuple [.Name x o,.Starred (.Name y n) q] D d) (yj X.K i j):=by
 intro pins s J H v u Q I r h;obtain⟨a,z,U,rfl,F,k⟩:=h;cases r;obtain⟨its,C,E,p⟩:=I.tuple F
 cases C with
 |@cons _ it _ its rz c=>
  rw[assign_Tuple];refine Ja (wpAny_standAt ?_);unfold unpack;refine Ja (wpAny_holding (RS.ql (items:=(it::its).toArray) (I.ok.hd.1 G) E (by simp) (by simpa[<-c.length]using p) fun g Z kp=>?_));have w:Inv X pins J H { s with heap:=g,toks:=Z }:=I.kept (t':=Z) kp;have t:Inv X pins J (upd H g.objs.size (.lst U)) { s with heap:=g.push { cls:=.type "list",data:=.seq its.toArray },toks:=Z }:=w.xh (t':=Z) c (by have:U.length+1<=sizeLine:=p;omega);obtain⟨z1,O,f,r1,g1⟩:=t.hok g.objs.size _ aG;have P:Inv X pins J (upd (upd H g.objs.size (.lst U)) g.objs.size (.frz _ (.lst U))) { s with heap:=g.push { cls:=.type "list",data:=.seq its.toArray },toks:=Z }:=t.write (x:=g.objs.size) (e:=g.objs.size) (h':=g.push { cls:=.type "list",data:=.seq its.toArray }) (t':=Z) (by rw[aG];trivial) (.inl rfl) (fun b u _ e=>e) ⟨_,g1⟩ ⟨g1,z1,O,f,r1,g1⟩;have hf:H g.objs.size=none:=w.hok.fresh (Je _);refine assignInOrder_cons (thn (L pins _ J _ z it (fun Y H'=>Y=J.set i (some z)/\H'=upd (upd H g.objs.size (.lst U)) g.objs.size (.frz { cls:=Value.type "list",data:=Data.seq O.toArray f } (.lst U))) P rz ⟨rfl,rfl⟩) fun _ s1 ⟨B,R,N,m,l⟩=>?_);subst m l;refine assignInOrder_cons (thn (Qa pins s1 _ _ (.ref g.objs.size) (.ref g.objs.size) (fun Y H'=>Y=(J.set i (some z)).set j (some (.ref g.objs.size))/\H'=upd (upd H g.objs.size (.lst U)) g.objs.size (.frz { cls:=Value.type "list",data:=Data.seq O.toArray f } (.lst U))) N rfl ⟨rfl,rfl⟩) fun _ s2 ⟨A,H2,M,m,l⟩=>?_);subst m l;exact assignInOrder_nil ⟨_,_,M,k _ _ hf⟩
abbrev GDc(X:Cx)(d:Addr)(kvs:List (Str × Addr)):Prop:=(d == sysModules)=false/\∀ h:Heap,X.K.In h->h.DictOf (bw X.prog X.w) d (kvs.map fun q=>((Sum.inr q.1:Key),Value.ref q.2))
def yi(kvs:List (Str × Addr))(x:Str):valueAt (kvs.map fun q=>((Sum.inr q.1:Key),Value.ref q.2)) (Sum.inr x)=(kvs.find? fun q=>decide (q.1=x)).map fun q=>Value.ref q.2:=by
 unfold valueAt
 induction kvs with
 | nil=>rfl
 |cons q r I=>
  rw[map_cons,find?_cons,find?_cons];have e:=ug q.1 x;rw[e]
  cases decide (q.1=x)with
  | true=>rfl
  | false=>exact I
def vi{a:Expr}{Z:TE}{g:Str}{p:Pos}{kvs:List (Str × Addr)}(ha:PE X a Z)(b:Gl X g)(hm:X.mg g=some (.ref d))(O:(g == ("__debug__" : Str))=false)(G:GDc X d kvs) :
  PC X .In a (.Name g p) (fun J H Q=>Z J H fun y Y=>∃ x,y=.str x/\Q (.bl (kvs.find? fun q=>decide (q.1=x)).isSome) Y):=by
 fin2;refine thn (ha pins s J H _ I h) fun u s1 ⟨y,Y,U,r1,x,e,q⟩=>cW U b hm ?_ O;subst e;refine wpAny_in_of (k:=(Sum.inr x:Key)) (sk r1) G.1 (G.2 _ U.kIn).mapOf ?_;rw[yi,Option.isSome_map];exact#[.bl _,Y,U.tok _,rfl,q]
def zx{b:Expr}{Z:TE}{g:Str}{p O:Pos}{kvs:List (Str × Addr)}(hb:PE X b Z)(i:Gl X g)(hm:X.mg g=some (.ref d))(U:(g == ("__debug__" : Str))=false)(G:GDc X d kvs)(c:sJ b) :
  PE X (.Subscript (.Name g p) b O) (fun J H Q=>Z J H fun y Y=>∃ x q,y=.str x/\(kvs.find? fun q=>decide (q.1=x))=some q/\Q (.ref q.2) Y):=by
 fin2;refine yR PySem.F.slot_dict_getitem.lookup c (cW I i hm ?_ U);refine thn (hb pins s J H _ I h) fun u s1 ⟨y,Y,a,r1,x,q,e,f,k⟩=>?_;subst e;have dd:=G.2 _ a.kIn;refine#[dd.typeIs,wpAny_getItem_of (k:=(Sum.inr x:Key)) (sk r1) dd.mapOf (by rw[yi,f];rfl) #[.ref q.2,Y,a.tok _,rfl,k]]
def xw{i:Nat}{e:Expr}{es:List Expr}{t:TA}{p pos:Pos}{x:Str}(Z:X.N[i]?=some x)(c:Vis X.env.scope x)(hd:(x == ("__debug__" : Str))=false)(U:(x == ("__classdict__" : Str))=false)(ha:PA X (e::es) t)
 (g:starEach (e::es) X.env=(false,eval e X.env)::starEach es X.env)(hpl:(backTo pos (starEach es X.env)).any (·.1)=false) :
  PE X (.Call (.Name x p) (e::es) [] pos) (fun J H Q=>∃ k f fd ps sp,∃ O:St,J=O.set i (some (.ref f))/\aY X.prog X.w X.K X.mg X.base CX0 k f fd ps sp/\bq k X.A/\W.keepIn X.K (.ref f)=true/\Binds X.K fd ps []/\nC sp [] E0 t J H Q):=by
 fin2;obtain⟨k,f,fd,ps,sp,O,m,F,d,hk,hb,h⟩:=h
 have j:J[i]?=some (some (.ref f)):=by
  have l:=I.len;have n:=(List.getElem?_eq_some_iff.mp Z).1;subst m;rw[List.length_set]at l;rw[Jk (by omega)]
 refine wpAny_Call_Name_kw (thn (c9 (pos:=p) Z c hd U pins s J H (fun v Y=>v=.ref f/\Y=H) I ⟨_,j,rfl,rfl⟩) fun u s1 ⟨v,Y,b,r1,y,o⟩=>?_);subst y o;cases r1;refine W.callWith_K (h₀:=X.base) b.ok.mod.kin hk (thn (ha pos pins s1 J Y _ b h) fun us s2 ⟨vs,H2,a,r,q⟩=>#[a.kIn,?_]) g hpl;exact uO F d hb .nil k9 a r q
end
end L2
namespace RS
open PySem PySem.Spec PyProof.Rows L2
section
variable{X:Cx}{cl:RL.Cl}{a b e:Expr}{a' b' e':RL.E}{p pos:Pos}{M:List Nat}{st:Stmt}{i j:Nat}
def wV(kvs:List (Str × Addr))(x:Str):(kvs.find? fun q=>decide (q.1=x)).isSome=(kvs.map (·.1)).any fun k=>decide (k=x):=by
 induction kvs with
 | nil=>rfl
 |cons q r I=>
  rw[find?_cons,map_cons,any_cons]
  cases decide (q.1=x)with
  | true=>rfl
  | false=>rw[Bool.false_or];exact I
def tP{Q:VK}{kvs:List (Str × Addr)}{ks:List Str}(hk:kvs.map (·.1)=ks)(O:RV0 X.K Qb J H)(h:RL.ev cl Qb (.inG g ks a')=some d)(k:∀ t H',d=.bl t->aD H H'->Q (.bl t) H') :
  tE X.K cl a' J H fun y I=>∃ x,y=.str x/\Q (.bl (kvs.find? fun q=>decide (q.1=x)).isSome) I:=by
 obtain⟨x,U,e⟩:=bind_some (show(RL.ev cl Qb a').bind _=some d from h);refine#[Qb,x,O,U,fun v I r1=>?_]
 cases x with
 |str x=>
  cases e;refine#[x,aP r1.rep,?_];have q:=wV kvs x;rw[hk]at q;rw[q];exact k _ _ rfl r1.same
 | _=>cases e
def AI{kvs:List (Str × Addr)}{ks:List Str}(ha:SE X cl a a')(Y:Gl X g)(hm:X.mg g=some (.ref d))(I:(g == ("__debug__" : Str))=false)(G:GDc X d kvs)(hk:kvs.map (·.1)=ks):SE X cl (.Compare a [.In] [.Name g p] pos) (.inG g ks a'):=by
 refine PE.weak (Co (vi ha Y hm I G) (gZ rfl)) fun J H Q h=>?_;obtain⟨O,d,U,e,q⟩:=h
 exact tP hk U e fun t H' hd sm=>by subst hd;exact q _ _ (dz sm)
def CS{kvs:List (Str × Addr)}{ks:List Str}(ha:SE X cl a a')(Y:Gl X g)(hm:X.mg g=some (.ref d))(I:(g == ("__debug__" : Str))=false)(G:GDc X d kvs)(hk:kvs.map (·.1)=ks):ST X cl (.Compare a [.In] [.Name g p] pos) (.inG g ks a'):=by
 refine PT.weak (CK (vi ha Y hm I G) (gZ rfl)) fun J H Q h=>?_;obtain⟨O,k,U,e,q⟩:=h;obtain⟨d,b,Z⟩:=bind_some e;refine tP (Q:=fun v f=>∃ c,v=.bl c/\Q c f) hk U b fun t H' hd sm=>?_;subst hd;cases Z;exact#[_,rfl,q _ sm]
def zS(h:PS X st (sr i j (eL (tE X.K cl a') (eL (tE X.K cl b') iH))))(hi:M.contains i=false)(r:M.contains j=false):SS X cl M st (.parL i j a' b'):=by
 refine PS.weak h fun D J H h=>?_;obtain⟨U,o,q,g,e,k⟩:=h;obtain⟨x,I,e⟩:=bind_some e;obtain⟨y,O,e⟩:=bind_some e;obtain⟨b,e⟩:=bx e;cases e;rw[and_eq_true,and_eq_true]at b;obtain⟨w,f,t⟩:=b;refine#[U,x,g.rv0,I,fun v A r1=>#[U,y,g.rv0.same r1.same,O,fun u H2 d=>#[v,u,rfl,k _ _ ?_ ?_]]]
 ·have Y:=(g.same r1.same).bind hi (r1.rep.imm w);refine(Y.same d.same).bind r ?_;have Z:=d.rep;have l:iY y=true->∀ a,u=.ref a->¬ bI M (J.set i (some v)) a:=fun m a z p=>Y.oJ a p (d.fresh t m a z)
  cases y with
  | lst ds=>obtain⟨a,xs,I,s,O,c⟩:=bc Z;rw[Rep];exact#[a,xs,I,l rfl a I,O,c.imm f]
  | dK ks ds=>rw[Rep]at Z ⊢;obtain⟨a,xs,I,s,O,n,c⟩:=Z;exact#[a,xs,I,l rfl a I,O,n,c.imm f]
  | dT ks ds=>rw[Rep]at Z ⊢;obtain⟨a,xs,I,s,O,n,c⟩:=Z;exact#[a,xs,I,l rfl a I,O,n,c.imm f]
  | _=>cases f
 ·exact(Fr'.bind hi r1.same).trans (Fr'.bind r d.same)
def yQ(h:PS X st (ko (tE X.K cl e') (yj X.K i j)))(hi:M.contains i=false)(g:M.contains j=false):SS X cl M st (.star i j e'):=by
 refine PS.weak h fun D J H h=>?_;obtain⟨O,o,a,c,e,k⟩:=h;obtain⟨q,I,e⟩:=map_some (show((RL.ev cl O e').bind RL.ng).map _=_ from e);cases e;obtain⟨x,ex,I⟩:=bind_some I;refine#[O,x,c.rv0,ex,fun v p r1=>?_]
 cases x with
 |tup ds=>
  cases ds with
  | nil=>cases I
  |cons d r=>
   obtain⟨Z,I⟩:=bx (show(if(d.imm&&RL.aF r)=true then some (d,RL.D.fL r)else none)=some q from I);cases I;rw[and_eq_true]at Z;obtain⟨t,w,rfl,g2,m⟩:=bu r1.rep;rw[ai]at m;obtain⟨z,Y,rfl,u,s⟩:=m;refine#[t,z,Y,rfl,SqT.of g2,fun l o f=>k _ _ ?_ ?_]
   ·have s2:aD p (upd (upd p l (.lst Y)) l (.frz o (.lst Y))):=fun b ob U=>by
     have n:=aJ U f;rw[ax n,ax n];exact U
    refine(((c.same r1.same).bind hi (u.imm Z.1)).same s2).bind g ?_;rw[Rep];exact#[l,o,Y,rfl,aG,(s.same s2).imm Z.2]
   ·exact(Fr'.bind hi r1.same).trans (Fr'.bind g fun b ob U=>by
     have n:=aJ U f;rw[ax n,ax n]
     exact U)
 | _=>cases I
def zL{tbl:List (Str × Nat)}{kvs:List (Str × Addr)}{n g:Str}{e:Expr}{es:List Expr}{b:RL.Es}{np C sp cp c Y:Pos}(hN:X.N.Nodup)(hi:X.N[i]?=some n)(V:Loc X.env.scope n)(R:Vis X.env.scope n)(hd:(n == ("__debug__" : Str))=false)(z:(n == ("__classdict__" : Str))=false)
 (hf:X.fn n=true\/X.env.scope.names.lookup n=some .local)(ha:SE X cl a a')(S:sJ a)(hg:Gl X g)(hm:X.mg g=some (.ref d))(y:(g == ("__debug__" : Str))=false)(G:GDc X d kvs)
 (hk:∀ x m,RL.gw tbl (.str x)=some m->∃ q k fd ps,(kvs.find? fun q=>decide (q.1=x))=some q/\aY X.prog X.w X.K X.mg X.base CX0 k q.2 fd ps (spF X.K cl m)/\bq k X.A/\W.keepIn X.K (.ref q.2)=true/\Binds X.K fd ps [])
 (he:SEs X cl (e::es) b)(hn:noStar e=true)(t:es.all noStar=true)(p:swapsWith (.Subscript (.Name g C) a sp) (some (.Name n np)) pos.line X.env=pure false) :
  SSs X cl M [.Assign [.Name n np] (.Subscript (.Name g C) a sp) pos,.Return (some (.Call (.Name n cp) (e::es) [] c)) Y] (.act i g tbl a' b):=by
 k_mem;refine bg (j1 hN hi V (zx ha hg hm y G S) p hf) (qU (ky (xw hi R hd z he (aA es hn) (cA t)))) pins s J H D I ?_;obtain⟨O,o,B,f,ev,post⟩:=h;obtain⟨m,l,ev⟩:=bind_some (show((RL.ev cl O a').bind (RL.gw tbl)).bind _=_ from ev);obtain⟨x,ea,l⟩:=bind_some l;obtain⟨ds,e2,ev⟩:=bind_some ev;obtain⟨r,e3,ev⟩:=bind_some ev;obtain⟨Q,ev⟩:=bx ev;cases ev;refine#[O,x,f.rv0,ea,fun v H1 r1=>?_]
 cases x with
 |str x=>
  obtain⟨q,k,fd,ps,f1,F,T,u,hb⟩:=hk x m l;refine#[x,q,aP r1.rep,f1,k,q.2,fd,ps,_,J,rfl,F,T,u,hb,O.set i none,ds,#[by simpa using le_of_eq f.len,fun j dj U=>?_],e2,fun vs H2 s2 L=>?_]
  ·by_cases Z:i=j
   ·subst Z;rw[List.getElem?_set]at U;split at U
    ·split at U<;>cases U
    ·exact absurd rfl ‹_›
   ·rw[Jg Z]at U ⊢;exact(f.rv0.same r1.same).2 j dj U
  ·show spF X.K cl m (vs++[]) H2 _ E0;rw[Ju];exact#[ds,r,L,e3,fun v H3 E Qa=>post J H v H3 f (Fr'.same (aD.refl H)) ((r1.same.trans s2).trans E) fun P hP=>Qa.imm Q]
 | _=>cases l
end
inductive Ent (w:World):List DictEntry->List (Str × Addr)->Prop
 | nil:Ent w [] []
 | cons {e:DictEntry} {x:Str} {a:Addr} {t:Tok} {es:List DictEntry} {kvs:List (Str × Addr)}:e.key=.str x t->e.val=.ref a->e.hash=hashStr w x->Ent w es kvs->Ent w (e::es) ((x,a)::kvs)
def Ent.pairs{w:World}{P:Program}:∀ {es:List DictEntry} {kvs:List (Str × Addr)},Ent w es kvs->Pairs (bw P w) es (kvs.map fun q=>((Sum.inr q.1:Key),Value.ref q.2))/\∀ e∈es,∃ k,(bw P w).is k e.key=true/\e.hash=(bw P w).hash k
 | _,_,.nil=>⟨.nil,fun e I=>by cases I⟩
 | _,_,.cons (x:=x) (t:=t) h1 h2 h3 r=>by
  obtain⟨a,b⟩:=Ent.pairs (P:=P) r;have k:(bw P w).is (.inr x) (.str x t)=true:=jT P w x t;rw[<-h1]at k;refine#[.cons k h2 a,fun e I=>?_];rcases List.mem_cons.mp I with rfl | I
  ·exact#[.inr x,k,h3]
  ·exact b e I
def B1:∀ {kvs:List (Str × Addr)},(kvs.map (·.1)).Nodup->((kvs.map fun q=>((Sum.inr q.1:Key),Value.ref q.2)).map (·.1)).Nodup:=fun {kvs} h=>by
 rw[List.map_map]
 induction kvs with
 | nil=>exact List.nodup_nil
 |cons q r I=>
  rw[map_cons,List.nodup_cons]at h ⊢;refine#[fun z=>h.1 ?_,I h.2];obtain⟨y,O,e⟩:=List.mem_map.mp z;injection e with e;rw[<-e];exact List.mem_map.mpr ⟨y,O,rfl⟩
def Dx{K:W.Frag}{w:World}{es:List DictEntry}{kvs:List (Str × Addr)}{ep:Nat}(l:K.lookup d=some ⟨.type "dict",none,.dict es.toArray ep,(List.toArray [])⟩)(E:Ent w es kvs)(hn:(kvs.map (·.1)).Nodup)(P:Program)(h:Heap)(X:K.In h) :
  h.DictOf (bw P w) d (kvs.map fun q=>((Sum.inr q.1:Key),Value.ref q.2)):=by
 obtain⟨a,b⟩:=E.pairs (P:=P);exact#[_,es.toArray,ep,X _ _ l,#[rfl,rfl,rfl],rfl,fun e I=>b e (by simpa using I),by simpa using a,B1 hn]
inductive FzG (mg:Str->Option Value) (F:List (Str × List Nat)):List (Str × Addr)->List (Str × Nat)->Prop
 | nil:FzG mg F [] []
 | cons {x nm:Str} {a:Addr} {m:Nat} {r:List (Str × Addr)} {t:List (Str × Nat)}:F[m]?=some (nm,[])->mg nm=some (.ref a)->FzG mg F r t->FzG mg F ((x,a)::r) ((x,m)::t)
def FzG.keys{mg:Str->Option Value}:∀ {r:List (Str × Addr)} {t:List (Str × Nat)},FzG mg F r t->r.map (·.1)=t.map (·.1)
 | _,_,.nil=>rfl
 | _,_,.cons _ _ h=>by rw[map_cons,map_cons,h.keys]
def FzG.act{mg:Str->Option Value}:∀ {r:List (Str × Addr)} {t:List (Str × Nat)},FzG mg F r t->∀ y m,RL.gw t (.str y)=some m->∃ q nm,(r.find? fun q=>decide (q.1=y))=some q/\F[m]?=some (nm,[])/\mg nm=some (.ref q.2)
 | _,_,.nil,y,m,e=>by cases e
 | _,_,.cons (x:=x) (nm:=nm) (a:=a) (m:=k) (t:=t) h1 h2 h,y,m,e=>by
  have e:(((x,k)::t).find? fun q=>decide (q.1=y)).map (·.2)=some m:=e;rw[find?_cons]at e ⊢
  cases hd:decide (x=y)with
  | true=>rw[hd]at e;cases e;exact#[_,nm,rfl,h1,h2]
  | false=>rw[hd]at e;exact h.act y m e
def zl{K:W.Frag}{w:World}{g:Str}{tbl:List (Str × Nat)}{kvs:List (Str × Addr)}{mg:Str->Option Value}(a:mg g=some (.ref d))(hd:(d == sysModules)=false)(D:∀ (P:Program) (h:Heap),K.In h->h.DictOf (bw P w) d (kvs.map fun q=>((Sum.inr q.1:Key),Value.ref q.2)))
 (z:FzG mg F kvs tbl):∀ x t,[(g,tbl)].lookup x=some t->∃ (d:Addr) (kvs:List (Str × Addr)),mg x=some (.ref d)/\((d == sysModules)=false/\∀ (P:Program) (h:Heap),K.In h->h.DictOf (bw P w) d (kvs.map fun q=>((Sum.inr q.1:Key),Value.ref q.2)))/\kvs.map (·.1)=t.map (·.1)/\∀ y m,RL.gw t (.str y)=some m->∃ q nm,(kvs.find? fun q=>decide (q.1=y))=some q/\F[m]?=some (nm,[])/\mg nm=some (.ref q.2):=fun x t e=>by
 rw[Jn]at e
 cases hb:x == g with
 | false=>rw[hb]at e;cases e
 |true=>
  rw[hb]at e;cases e;rw[eq_of_beq hb];exact#[d,kvs,a,#[hd,D],z.keys,z.act]
end RS
namespace L2
open PySem PySem.Spec PyProof.Rows
end L2
namespace RS
open PySem PySem.Spec PyProof.Rows L2
def nos{α:Type}{P:Prop}{x:α}(h:(none:Option α)=some x):P:=by cases h
def aj{α:Type}{o:Option α}{f:α->Bool}(h:o.any f=true):∃ x,o=some x/\f x=true:=by
 cases o with
 | none=>cases h
 | some x=>exact#[x,rfl,h]
def ag{a b:Bool}(h:(a&&b)=true):a=true/\b=true:=by rw[and_eq_true]at h;exact h
abbrev vw{α:Type}{n:Nat}(k:Nat)(f:n=k->α):Option α:=if z:n=k then some (f z)else none
def cy{α:Type}{n k:Nat}{f:n=k->α}{x:α}(h:vw k f=some x):∃ (_:n=k) (z:n=k),f z=x:=by
 unfold vw at h;split at h
 ·rename_i z;cases h;exact#[z,z,rfl]
 ·cases h
abbrev cK(e:Expr):Option Str:=vw 23 fun z=>Expr.Name.elim e z fun x _=>x
def bK{e:Expr}{x:Str}(h:cK e=some x):∃ p,e=.Name x p:=by
 k_cls
 revert z
 exact Expr.Name.elim e y fun _ _ _ h=>by cases h;exact#[_,rfl]
abbrev lb(e:Expr):Option Const:=vw 19 fun z=>Expr.Constant.elim e z fun k _ _=>k
def ic{e:Expr}{k:Const}(h:lb e=some k):∃ j p,e=.Constant k j p:=by
 k_cls
 revert z
 exact Expr.Constant.elim e y fun _ _ _ _ h=>by cases h;exact#[_,_,rfl]
abbrev wg(e:Expr):Option (Expr × Operator × Expr):=vw 2 fun z=>Expr.BinOp.elim e z fun l o r _=>(l,o,r)
def zA{e:Expr}{l r:Expr}{o:Operator}(h:wg e=some (l,o,r)):∃ p,e=.BinOp l o r p:=by
 k_cls
 revert z
 exact Expr.BinOp.elim e y fun _ _ _ _ _ h=>by cases h;exact#[_,rfl]
abbrev vUn(e:Expr):Option (UnaryOp × Expr):=vw 3 fun z=>Expr.UnaryOp.elim e z fun o x _=>(o,x)
def oC{e x:Expr}{o:UnaryOp}(h:vUn e=some (o,x)):∃ p,e=.UnaryOp o x p:=by
 k_cls
 revert z
 exact Expr.UnaryOp.elim e y fun _ _ _ _ h=>by cases h;exact#[_,rfl]
abbrev ll(e:Expr):Option (Expr × List CmpOp × List Expr):=vw 15 fun z=>Expr.Compare.elim e z fun l o r _=>(l,o,r)
def iA{e l:Expr}{r:List Expr}{o:List CmpOp}(h:ll e=some (l,o,r)):∃ p,e=.Compare l o r p:=by
 k_cls
 revert z
 exact Expr.Compare.elim e y fun _ _ _ _ _ h=>by cases h;exact#[_,rfl]
abbrev vBool(e:Expr):Option (BoolOp × List Expr × Pos):=vw 0 fun z=>Expr.BoolOp.elim e z fun o es p=>(o,es,p)
def iI{e:Expr}{es:List Expr}{o:BoolOp}{p:Pos}(h:vBool e=some (o,es,p)):e=.BoolOp o es p:=by
 k_cls
 revert z
 exact Expr.BoolOp.elim e y fun _ _ _ _ h=>by cases h;exact rfl
abbrev eT(e:Expr):Option (List Expr):=vw 25 fun z=>Expr.Tuple.elim e z fun es _ _=>es
def bX{e:Expr}{es:List Expr}(h:eT e=some es):∃ k p,e=.Tuple es k p:=by
 k_cls
 revert z
 exact Expr.Tuple.elim e y fun _ _ _ _ h=>by cases h;exact#[_,_,rfl]
abbrev wq(e:Expr):Option (List Expr):=vw 24 fun z=>Expr.List.elim e z fun es _=>es
def yI{e:Expr}{es:List Expr}(h:wq e=some es):∃ p,e=.List es p:=by
 k_cls
 revert z
 exact Expr.List.elim e y fun _ _ _ h=>by cases h;exact#[_,rfl]
abbrev ly(e:Expr):Option (Expr × Expr):=vw 21 fun z=>Expr.Subscript.elim e z fun a b _=>(a,b)
def fY{e a b:Expr}(h:ly e=some (a,b)):∃ p,e=.Subscript a b p:=by
 k_cls
 revert z
 exact Expr.Subscript.elim e y fun _ _ _ _ h=>by cases h;exact#[_,rfl]
abbrev vSl(e:Expr):Option (Option Expr × Option Expr × Option Expr):=vw 26 fun z=>Expr.Slice.elim e z fun a b c _=>(a,b,c)
def vH{e:Expr}{a b c:Option Expr}(h:vSl e=some (a,b,c)):∃ p,e=.Slice a b c p:=by
 k_cls
 revert z
 exact Expr.Slice.elim e y fun _ _ _ _ _ h=>by cases h;exact#[_,rfl]
abbrev fb(e:Expr):Option (Expr × List Expr × List Keyword × Pos):=vw 16 fun z=>Expr.Call.elim e z fun f I ks p=>(f,I,ks,p)
def cO{e f:Expr}{I:List Expr}{ks:List Keyword}{p:Pos}(h:fb e=some (f,I,ks,p)):e=.Call f I ks p:=by
 k_cls
 revert z
 exact Expr.Call.elim e y fun _ _ _ _ _ h=>by cases h;exact rfl
abbrev kv(e:Expr):Option (Expr × Str × Pos):=vw 20 fun z=>Expr.Attribute.elim e z fun o x p=>(o,x,p)
def iJ{e o:Expr}{x:Str}{p:Pos}(h:kv e=some (o,x,p)):e=.Attribute o x p:=by
 k_cls
 revert z
 exact Expr.Attribute.elim e y fun _ _ _ _ h=>by cases h;exact rfl
abbrev sD(e:Expr):Option (Expr × List Comprehension × Scope × Pos):=vw 8 fun z=>Expr.ListComp.elim e z fun e gs sc p=>(e,gs,sc,p)
def nI{e x:Expr}{gs:List Comprehension}{sc:Scope}{p:Pos}(h:sD e=some (x,gs,sc,p)):e=.ListComp x gs sc p:=by
 k_cls
 revert z
 exact Expr.ListComp.elim e y fun _ _ _ _ _ h=>by cases h;exact rfl
abbrev yy(e:Expr):Option Expr:=vw 22 fun z=>Expr.Starred.elim e z fun e _=>e
def wL{e x:Expr}(h:yy e=some x):∃ p,e=.Starred x p:=by
 k_cls
 revert z
 exact Expr.Starred.elim e y fun _ _ _ h=>by cases h;exact#[_,rfl]
abbrev of1{α:Type}(xs:List α)(f:α->Bool):Bool:=match xs with
 | [a]=>f a
 | _=>false
abbrev of2{α:Type}(xs:List α)(f:α->α->Bool):Bool:=match xs with
 | [a,b]=>f a b
 | _=>false
abbrev of3{α:Type}(xs:List α)(f:α->α->α->Bool):Bool:=match xs with
 | [a,b,c]=>f a b c
 | _=>false
def aM{α:Type}:∀ {xs:List α} {f:α->Bool},of1 xs f=true->∃ a,xs=[a]/\f a=true
 | [a],_,h=>#[a,rfl,h]
def cj{α:Type}:∀ {xs:List α} {f:α->α->Bool},of2 xs f=true->∃ a b,xs=[a,b]/\f a b=true
 | [a,b],_,h=>#[a,b,rfl,h]
def uK{α:Type}:∀ {xs:List α} {f:α->α->α->Bool},of3 xs f=true->∃ a b c,xs=[a,b,c]/\f a b c=true
 | [a,b,c],_,h=>#[a,b,c,rfl,h]
abbrev ofM{α:Type}(xs:List α)(f:α->α->List α->Bool):Bool:=match xs with
 | a::b::r=>f a b r
 | _=>false
def ku{α:Type}:∀ {xs:List α} {f:α->α->List α->Bool},ofM xs f=true->∃ a b r,xs=a::b::r/\f a b r=true
 | a::b::r,_,h=>#[a,b,r,rfl,h]
abbrev gA(e:Stmt):Option (List Expr × Expr):=vw 5 fun z=>Stmt.Assign.elim e z fun ts e _=>(ts,e)
def c6{st:Stmt}{ts:List Expr}{e:Expr}(h:gA st=some (ts,e)):∃ p,st=.Assign ts e p:=by
 k_cls
 revert z
 exact Stmt.Assign.elim st y fun _ _ _ _ h=>by cases h;exact#[_,rfl]
abbrev sL(e:Stmt):Option Expr:=vw 24 fun z=>Stmt.Expr.elim e z fun e _=>e
def jF{st:Stmt}{e:Expr}(h:sL st=some e):∃ p,st=.Expr e p:=by
 k_cls
 revert z
 exact Stmt.Expr.elim st y fun _ _ _ h=>by cases h;exact#[_,rfl]
abbrev wIf(e:Stmt):Option (Expr × List Stmt × List Stmt):=vw 12 fun z=>Stmt.If.elim e z fun c a b _=>(c,a,b)
def kD{st:Stmt}{c:Expr}{a b:List Stmt}(h:wIf st=some (c,a,b)):∃ p,st=.If c a b p:=by
 k_cls
 revert z
 exact Stmt.If.elim st y fun _ _ _ _ _ h=>by cases h;exact#[_,rfl]
abbrev AD(e:Stmt):Option (Expr × Expr × List Stmt × List Stmt):=vw 9 fun z=>Stmt.For.elim e z fun t i b o _=>(t,i,b,o)
def qQ{st:Stmt}{t i:Expr}{b o:List Stmt}(h:AD st=some (t,i,b,o)):∃ p,st=.For t i b o p:=by
 k_cls
 revert z
 exact Stmt.For.elim st y fun _ _ _ _ _ _ h=>by cases h;exact#[_,rfl]
abbrev xF(e:Stmt):Option (Option Expr):=vw 3 fun z=>Stmt.Return.elim e z fun e _=>e
def lD{st:Stmt}{e:Option Expr}(h:xF st=some e):∃ p,st=.Return e p:=by
 k_cls
 revert z
 exact Stmt.Return.elim st y fun _ _ _ h=>by cases h;exact#[_,rfl]
end RS
namespace L2
open PySem PySem.Spec PyProof.Rows
section
variable{os:OsState}
def xQ
 (O:h.get? R=some (excClassObj nm q R N bs bm hdct sn sub ab col dd k0 k1 k2 k3 k5 newId))(Y:h.get? e=some oe)(Z:oe.cls=.ref C)(hb:bm.contains (.type "BaseException")=true)(L:W.Looks M h (isSubtype (.ref C) (.ref R)) b)(U:Q b ⟨h,g,d,t,os⟩) :
  wpAny M A (excMatches (.ref e) (.ref R)) Q E ⟨h,g,d,t,os⟩:=by
 have I:(Value.ref R::bm).contains (.type "BaseException")=true:=by rw[contains_cons,hb,Bool.or_true]
 have f:=tc_notTuple;unfold excMatches
 repeat (first | (with_reducible refine wpAny_loadPart_at Y ?_;rw[Z]) | with_reducible refine wpAny_loadPart_at O ?_ | (with_reducible refine wpAny_isSubtype_exc O ?_;rw[I]) | (with_reducible refine L.at ?_) | wp_step)
 cases b<;>(wp_walk;exact U)
end
section
def qA(I:Inv X pins J H s)(G:X.N.Nodup)(hi:X.N[i]?=some n)(D:X.env.scope.names.lookup n=some .local)
 (k:∀ s',Inv X pins (J.set i none) H s'->Q () s'):wpAny M A (do bindName X.env n .none;unbindBehindTheSuite X.env n pos) Q E s:=by
 obtain⟨m,hn,h⟩:=id I.loc
 have Z:(X.env.scope.kind == .class || (X.env.scope.kind == .module&&X.env.locals != X.env.globals))=false:=by rw[I.ok.kind];rfl
 refine wpAny_nameGoes_keeps D hn Z fun h' v g O=>k _ ?_;have f:∀ b o,X.s₀.heap.get? b=some o->b≠X.env.locals:=fun b o e=>Jl (Ji (Jf e) I.ok.above);have cne:=I.cne;refine#[I.ok,I.os,I.bare,#[fun b o e nn hb Y=>(O.2 b (f b o e)).trans (I.base.keep b o e nn hb Y),fun b o e nn hb Y=>?_,I.base.free,fun b o e Y=>?_,I.base.dB,I.base.c8,I.base.dH],#[_,g,fun j y t U d Qa=>?_],fun y c e=>?_,I.free,I.cC,fun p C=>?_,fun a o e=>?_,by simpa using I.len]
 ·obtain⟨sl,U⟩:=I.base.slot b o e nn hb Y;exact#[sl,(O.2 b (f b o e)).trans U]
 ·obtain⟨o',U⟩:=I.base.there b o e Y;exact#[o',(O.2 b (f b o e)).trans U]
 ·have l:j≠i:=fun z=>by
   subst z;rw[Jk (by rw[I.len];exact(List.getElem?_eq_some_iff.mp hi).1)]at d;cases d
  rw[Jg (Ne.symm l)]at d;obtain⟨u,r,x⟩:=h j y t U d Qa;refine#[u,r,?_]
  rcases x with⟨a1,a2⟩ | ⟨a1,c,a2,a3⟩
  ·have B:y≠n:=fun z=>l (jX G U (z▸hi));exact .inl #[a1,by simp[B,a2]]
  ·exact .inr #[a1,c,a2,a3.sameBut O (cne y c a2)]
 ·obtain⟨v,q⟩:=I.cell y c e;exact#[v,q.sameBut O (cne y c e)]
 ·obtain⟨p1,p2,p3,p4⟩:=I.pin p C;exact#[(O.2 p.1 p3).trans p1,p2,p3,p4]
 ·refine(I.hok a o e).fj (fun c w F q=>(O.2 c fun z=>?_).trans q) (fun _ z=>z) fun _ _ z=>z;subst z;rcases F with z | z
  ·rw[<-z,I.free]at e;cases e
  ·rw[I.free]at z;cases z
@[reducible]noncomputable def Fz(I:Obj):HO:=.frz I (.ext fun _=>True)
@[reducible]noncomputable def Cx.bC(X:Cx)(e:Addr)(I:Obj):Cx:={ X with A:=X.A.mark (some (.ref e)),calm:=false,H₀:=upd X.H₀ e (Fz I) }
def m6(f:Inv X pins J H0 s0)(Z:X.stack=X.env::X.outer)(l:X.ex=[])(un:Un (frs X.stack) [] H0 H' s0.heap h1)(hok:HOk X.prog X.w H' h1)(bare:AllBare g)
 (o:Off1 (eH s0.heap H') (frs (X.env::X.outer)) h1 h2)(s:h2.get? e=some oe)(hd:oe.data=.fields vs)(x:vs[2]?=some .none)(ne:¬ eH s0.heap H' e) :
  Inv (X.bC e oe) pins J (upd H' e (Fz oe)) ⟨h2,g,dr,tk,s0.os⟩:=by
 have O:H' e=none:=Classical.byContradiction fun z=>ne (.inr z);have p:∀ b u,s0.heap.get? b=some u->b≠e:=fun b u q z=>ne (.inl #[u,z▸q]);have v:∀ b u,X.s₀.heap.get? b=some u->b≠e:=fun b u q=>let ⟨t,q'⟩:=f.old l q;p b t q';have off:∀ {b:Addr},b≠e->upd H' e (Fz oe) b=H' b:=fun z=>ax z
 have j:∀ b,H' b≠none->b∉frs (X.env::X.outer):=fun b hb z=>by
  rw[<-Z]at z;obtain⟨_,ob,k,_⟩:=f.stack.mem z;exact hb (un.free b ob k (f.jC b z) (by simp))
 have h:Un (frs X.stack) [] H0 (upd H' e (Fz oe)) s0.heap h2:=by
  refine#[fun b u q n hb Y=>?_,fun b u q n hb Y=>?_,fun b u q n Y=>by rw[off (p b u q)];exact un.free b u q n Y,fun b u q Y=>?_,fun b xs q=>?_,fun b ob u q=>?_,fun b ps q=>?_]
  ·exact o.keep b u (.inl #[u,q]) (by rw[<-Z];exact hb) (un.keep b u q n hb Y)
  ·obtain⟨sl,U⟩:=un.slot b u q n hb Y;obtain⟨i,c⟩:=o.slot b _ (.inl #[u,q]) (by rw[<-Z];exact hb) U;exact#[i,c]
  ·obtain⟨y,U⟩:=un.there b u q Y;by_cases hb:b∈frs (X.env::X.outer)
   ·obtain⟨sl,c⟩:=o.slot b _ (.inl #[u,q]) hb U;exact#[_,c]
   ·exact#[_,o.keep b _ (.inl #[u,q]) hb U]
  ·have:=un.dB b xs q;rw[off (fun z=>by rw[z,O]at this;cases this)];exact this
  ·have:=un.c8 b ob u q;rw[off (fun z=>by rw[z,O]at this;cases this)];exact this
  ·obtain⟨more,this⟩:=un.dH b ps q;rw[off (fun z=>by rw[z,O]at this;cases this)];exact#[more,this]
 have d:HOk X.prog X.w (upd H' e (Fz oe)) h2:=fun a ob q=>by
  by_cases ha:a=e
  ·subst ha;rw[aG]at q;cases q;exact#[s,trivial,#[_,s],fun _ _ _ _=>trivial]
  ·rw[off ha]at q
   have m:∀ (b:Addr) (u:HO),H' b=some u->upd H' e (Fz oe) b=some u:=fun b u z=>by rw[off (aJ z O)];exact z
   refine(hok a ob q).fj (fun b u hb r=>?_) (fun b z=>m b _ z) fun b xs z=>m b _ z
   have hn:H' b≠none:=by
    rcases hb with rfl | hb
    ·rw[q];exact fun z=>nomatch z
    ·rw[hb];exact fun z=>nomatch z
   exact o.keep b u (.inr hn) (j b hn) r
 have Qa:=f.call (h':=h2) (g':=g) (d':=dr) (t':=tk) (ch:=[]) h d bare (fun b z=>absurd z (by simp));have I:∀ {b:Addr} {u:Obj},X.s₀.heap.get? b=some u->upd X.H₀ e (Fz oe) b=X.H₀ b:=fun q=>ax (v _ _ q);refine#[#[Qa.ok.mod,Qa.ok.kind,Qa.ok.glob,Qa.ok.blt,Qa.ok.above,Qa.ok.inj,Qa.ok.has,Qa.ok.cab,#[fun z=>(nomatch z),.inr #[e,oe,_,vs,rfl,aG,hd,x]],Qa.ok.frames,Qa.ok.stk,Qa.ok.exf,fun b ob q=>?_,Qa.ok.bsz,Qa.ok.iD,Qa.ok.jc,Qa.ok.dh,fun b hb=>?_],Qa.os,Qa.bare,#[fun b u q n=>?_,fun b u q n=>?_,fun b u q n=>?_,Qa.base.there,fun b xs q=>?_,fun b ob u q=>?_,fun b ps q=>?_],Qa.loc,Qa.cell,Qa.free,Qa.cC,Qa.pin,Qa.hok,Qa.len]
 ·obtain⟨U,c⟩:=Qa.ok.bs b ob q;exact#[U,(I U).trans c]
 ·obtain⟨_,ob,q,_⟩:=Qa.ok.dh.mem hb;exact(I q).trans (Qa.ok.frf b hb)
 ·exact Qa.base.keep b u q ((I q).symm.trans n)
 ·exact Qa.base.slot b u q ((I q).symm.trans n)
 ·exact Qa.base.free b u q ((I q).symm.trans n)
 ·by_cases hb:b=e
  ·subst hb;rw[show(X.bC b oe).H₀ b=some (Fz oe)from aG]at q;cases q
  ·exact Qa.base.dB b xs ((ax hb).symm.trans q)
 ·by_cases hb:b=e
  ·subst hb;rw[show(X.bC b oe).H₀ b=some (Fz oe)from aG]at q;cases q;exact aG
  ·exact Qa.base.c8 b ob u ((ax hb).symm.trans q)
 ·by_cases hb:b=e
  ·subst hb;rw[show(X.bC b oe).H₀ b=some (Fz oe)from aG]at q;cases q
  ·exact Qa.base.dH b ps ((ax hb).symm.trans q)
def kK(Qa:Inv (X.bC e oe) pins J H s)(ok:X.Ok)(hn:X.s₀.heap.get? e=none)(Z:∀ xs,X.H₀ e≠some (.tup xs))(Y:∀ o u,X.H₀ e≠some (.frz o u))(U:∀ ps,X.H₀ e≠some (.tbl ps)):Inv X pins J H s:=by
 have I:∀ {b:Addr} {u:Obj},X.s₀.heap.get? b=some u->upd X.H₀ e (Fz oe) b=X.H₀ b:=fun {b u} q=>ax fun z=>by rw[z,hn]at q;cases q
 have O:∀ (b:Addr) (u:HO),b≠e->X.H₀ b=some u->(X.bC e oe).H₀ b=some u:=fun b u hb z=>(ax hb).trans z
 exact⟨ok,Qa.os,Qa.bare,⟨fun b u q n=>Qa.base.keep b u q ((I q).trans n),fun b u q n=>Qa.base.slot b u q ((I q).trans n),fun b u q n=>Qa.base.free b u q ((I q).trans n),Qa.base.there,
  fun b xs q=>Qa.base.dB b xs (O b _ (fun z=>Z xs (z▸q)) q),fun b o u q=>Qa.base.c8 b o u (O b _ (fun z=>Y o u (z▸q)) q),fun b ps q=>Qa.base.dH b ps (O b _ (fun z=>U ps (z▸q)) q)⟩,Qa.loc,Qa.cell,Qa.free,Qa.cC,Qa.pin,Qa.hok,Qa.len⟩
end
end L2
namespace RS
open PySem PySem.Spec PyProof.Rows L2
def Cls.kin{K:W.Frag}(h:Cls K x C):kj K C:=by
 have:=h.ok;simp only[f7,and_eq_true,beq_iff_eq]at this;obtain⟨⟨⟨⟨⟨⟨⟨⟨_,a1⟩,a2⟩,a3⟩,a4⟩,a5⟩,a6⟩,_⟩,_⟩:=this;refine#[a1,a2,?_,a4,a5,a6];unfold pb at a3;split at a3
 ·rename_i a b e;simp only[and_eq_true,beq_iff_eq]at a3;rw[e,a3.1,a3.2]
 ·cases a3
section
def sC(a:Inv X pins J H0 s0)(U:X.stack=X.env::X.outer)(m:X.env.frame=some X.env.locals)(Y:X.ex=[])
 (os:s1.os=s0.os)(bare:AllBare s1.gens)(un:Un (frs X.stack) [] H0 H' s0.heap s1.heap)(hok:HOk X.prog X.w H' s1.heap)(xx:Exc (eH s0.heap H') e C od tb s1.heap)(hc:Cls X.K (RL.baseOf x) C)(hR:Cls X.K c R)(S:c∈cP)(h:RL.fU x c=true)(hg:Gl X c)(hm:X.mg c=some (.ref R))(Qa:(c == ("__debug__" : Str))=false)
 (hN:X.N.Nodup)(hi:X.N[i]?=some n)(hl:X.env.scope.names.lookup n=some .local)
 (j:∀ I H s,Inv (X.bC e I) pins J H s->s.heap.get? e=some I->I.cls=.ref C->wpAny (model X.prog X.w) X.A (handleBy (.ref e) X.env (.ExceptHandler (some (.Name c np)) (some n) (b0::bC) hpos::hrest)) Q E s->wpAny (model X.prog X.w) X.A (handleBy (.ref e) X.env hs) Q E s)
 (k:∀ I vs t,(I.cls=.ref C/\I.dict=od)->I.data=.fields vs->vs[2]?=some .none->H' e=none->X.s₀.heap.get? e=none->(∀ xs,X.H₀ e≠some (.tup xs))->(∀ o u,X.H₀ e≠some (.frz o u))->(∀ ps,X.H₀ e≠some (.tbl ps))->Inv (X.bC e I) pins (J.set i (some (.ref e))) (upd H' e (Fz I)) t ->
   wpAny (model X.prog X.w) (X.A.mark (some (.ref e))) (execs (b0::bC) X.env) (fun f s5=>wpAny (model X.prog X.w) X.A (do bindName X.env n .none;unbindBehindTheSuite X.env n hpos) (fun _ s6=>Q f s6) E s5) (fun _ _=>False) t) :
  wpAny (model X.prog X.w) X.A (noteFrame (.ref e) X.env) (fun _ s2=>wpAny (model X.prog X.w) X.A (setFlight (.ref e) none) (fun _ s3=>wpAny (model X.prog X.w) X.A (handleBy (.ref e) X.env hs) Q E s3) E s2) E s1:=by
 have I1:=a.mZ (ch:=[]) os un hok bare (fun b z=>absurd z (by simp));have l:=I1.stack;have p:=I1.ok.frames;rw[U]at l p
 have hP:∀ b,eH s0.heap H' b->b<s1.heap.objs.size:=fun b hb=>by
  rcases hb with⟨o,q⟩ | hb
  ·obtain⟨o',q'⟩:=un.there b o q (by simp);exact Jf q'
  ·obtain⟨o,ho⟩:=Option.ne_none_iff_exists'.mp hb;exact hok.lt ho
 refine mB p l m xx hP fun h2 x2 o2=>?_;obtain⟨I,vs,r,Z,hd,D,ne,xt⟩:=x2;obtain⟨hp,g,d,tk,B⟩:=s1;obtain rfl:B=s0.os:=os;have y:Inv (X.bC e I) pins J (upd H' e (Fz I)) ⟨h2,g,d,tk,s0.os⟩:=m6 a U Y un hok bare o2 r hd D ne;refine j I _ _ y r Z.1 ?_;refine wpAny_handleBy_cons (codeAny_handlers_test ?_) (by intro q;cases q);refine cW y hg hm ?_ Qa;obtain⟨bm,N,nm,qn,bs,hdct,sn,sub,ab,col,dd,k0,k1,k2,k3,k5,g1,T⟩:=wI y.kIn hR.exc;have L:=W.looks_subIn (M:=model X.prog X.w) y.kIn (hc.ref S hR.ns).2;rw[show RL.cV (RL.baseOf x) c=true from h]at L;refine xQ g1 r Z.1 (T.hasType PySem.F.excBase_ValueError.hasBase) L ?_;refine codeAny_handlers_suite_as ?_
 rcases xt with⟨z,_⟩ | ⟨T,oT,ts,h1,V,hT,P,h3,nT⟩
 ·cases z
 unfold setFlight;refine Ja (wpAny_field r hd h1 ?_);refine wpAny_setField hT P (Array.getElem?_eq_some_iff.mp h3).1 ?_;have G:(h2.update T (Obj.mapFields (·.setIfInBounds 3 Value.none))).get? e=some I:=(Jy _ _ V).trans r;have J3:Inv (X.bC e I) pins J (upd H' e (Fz I)) ⟨h2.update T (Obj.mapFields (·.setIfInBounds 3 Value.none)),g,d,tk,s0.os⟩:=m6 a U Y un hok bare (o2.trans (Off1.so nT _)) G hd D ne;have O:H' e=none:=Classical.byContradiction fun z=>ne (.inr z)
 have tup:∀ u,X.H₀ e=some u->(∀ b,X.H₀ b=some u->H' b=some u)->False:=fun u q z=>by
  have:=z e q;rw[O]at this;cases this
 refine gr (X:=X.bC e I) (v:=.ref e) J3 hN hi (.inl hl) rfl (fun t J4=>?_) (.inr hl);refine wpAny_mono (k I vs t Z hd D O ?_ (fun xs q=>?_) (fun o u q=>?_) (fun ps q=>?_) J4) (fun f s5 z=>z) fun _ _ z=>z.elim
 ·cases q:X.s₀.heap.get? e with
  | none=>rfl
  |some u=>
   obtain⟨u',q'⟩:=a.old Y q;exact(ne (.inl #[u',q'])).elim
 ·have:=un.dB e xs (a.base.dB e xs q);rw[O]at this;cases this
 ·have:=un.c8 e o u (a.base.c8 e o u q);rw[O]at this;cases this
 ·obtain⟨m1,q1⟩:=a.base.dH e ps q;obtain⟨m2,q2⟩:=un.dH e _ q1;rw[O]at q2;cases q2
end
section
variable{K:W.Frag}
def bI.unset(hi:M.contains i=false):bI M (J.set i none)=bI M J:=by
 funext a;apply propext
 have O:∀ {j},M.contains j=true->i≠j:=fun I z=>by subst z;rw[hi]at I;cases I
 constructor
 ·rintro⟨j,I,e⟩;rw[Jg (O I)]at e;exact#[j,I,e]
 ·rintro⟨j,I,e⟩;exact#[j,I,by rw[Jg (O I)];exact e]
def iZ{α:Type}{l:List (Option α)}{i j:Nat}{v:α}(h:(l.set i none)[j]?=some (some v)):i≠j/\l[j]?=some (some v):=by
 by_cases I:i=j
 ·subst I;rw[List.getElem?_set]at h;split at h
  ·split at h<;>cases h
  ·exact absurd rfl ‹_›
 ·rw[Jg I]at h;exact#[I,h]
def RVm.unset(h:RVm K M Qb J H)(hi:M.contains i=false):RVm K M (Qb.set i none) (J.set i none) H where
 len:=by simpa using h.len
 val:=fun j d e=>by
  obtain⟨I,e⟩:=iZ e;obtain⟨v,O,U⟩:=h.val j d e;exact#[v,by rw[Jg I];exact O,by rw[bI.unset hi];exact U]
 non:=fun j v e=>by
  obtain⟨I,e⟩:=iZ e;obtain⟨d,O⟩:=h.non j v e;exact#[d,by rw[Jg I];exact O]
 sep:=fun j k a I hk O U=>h.sep j k a I hk (iZ O).2 (iZ U).2
def Fr'.unset(hi:M.contains i=false):Fr' M J H (J.set i none) H:=⟨fun b o e n=>#[e,by rw[bI.unset hi];exact n],fun j I=>Jg fun z=>by subst z;rw[i4 I]at hi;cases hi⟩
end
section
@[reducible]noncomputable def CxX(X:Cx)(pn:List (Addr × Obj))(E:Value->Shared->Prop):Cx:={ X with pn:=pn,xe:=E }
abbrev xk(X:Cx)(EX:L2.St->XK):Prop:=(∀ pins J H s e s',Inv X pins J H s->CXE X.prog X.w X.stack H s (EX J) e s'->X.xe e s')/\(∀ pins J H s h' e C vs,Inv X pins J H s->Heap.MadeExcOf s.heap h' e (.ref C) vs->EX J (.ref C) none H->X.xe (.ref e) { s with heap:=h' }) /\
 ∀ pins J H s C i e od H' s',Inv X pins J H s->nK X H s C (some i) e od H' s'->EX J (.ref C) od H'->X.xe (.ref e) s'
abbrev xM(cl:RL.Cl)(M:List Nat)(b:RL.Ss)(i:Nat)(I:Str->Option RL.Ss)(J:RL.St):Option (RL.Out × RL.St):=match RL.aw cl M b J with
 | some p=>some p
 | none=>(RL.bM cl M b J).bind fun q=>(I q.1).bind fun h=>(RL.aw cl M h (q.2.set i (some (.exc q.1)))).map fun r=>(r.1,r.2.set i none)
abbrev Du(X:Cx)(cl:RL.Cl)(M:List Nat)(Z:List ExceptHandler)(n:Str)(x:Str)(h:RL.Ss):Prop:=∃ c R Y bC np U I,(∀ e O,SSs (X.bC e O) cl M (Y::bC) h)/\Cls X.K c R/\c∈cP/\RL.fU x c=true/\Gl X c/\X.mg c=some (.ref R)/\(c == ("__debug__" : Str))=false /\
 ∀ C,Cls X.K (RL.baseOf x) C->∀ pins J Q E e O H s,Inv (X.bC e O) pins J H s->s.heap.get? e=some O->O.cls=.ref C->wpAny (model X.prog X.w) X.A (handleBy (.ref e) X.env (.ExceptHandler (some (.Name c np)) (some n) (Y::bC) U::I)) Q E s->wpAny (model X.prog X.w) X.A (handleBy (.ref e) X.env Z) Q E s
def zF(hx:X.xe=fun _ _=>False)(hst:X.stack=X.env::X.outer)(hfrm:X.env.frame=some X.env.locals)(hex:X.ex=[])(hb:SSs X cl M body b)
 (hbx:∀ (pn:List (Addr × Obj)) (E:Value->Shared->Prop) (EX:L2.St->XK),xk (CxX X pn E) EX->PassesOwn (model X.prog X.w) X.A X.env E->RZs (CxX X pn E) EX cl M body b)
 (hsel:∀ x h,sel x=some h->Du X cl M (h0::hs) n x h)(g:∀ J,RL.evS cl M st' J=xM cl M b i sel J)(hN:X.N.Nodup)(hi:X.N[i]?=some n)(hl:X.env.scope.names.lookup n=some .local)(hM:M.contains i=false) :
  SS X cl M (.Try body (h0::hs) [] [] pos) st':=by
 intro pins s J H D I hh;obtain⟨F,r,Qf,rv,ev,post⟩:=hh;rw[g]at ev;unfold xM at ev;clear g;refine wpAny_Try_except ?_
 cases g:RL.aw cl M b F with
 |some p=>
  rw[g]at ev;cases ev
  refine wpAny_mono (hb pins s J H D I ⟨F,r,Qf,rv,g,post⟩) (fun f s1 q=>?_) fun e s1 z=>by rw[hx]at z;exact z.elim
  cases f with
  | next=>exact wpAny_execs_nil q
  | ret u=>exact q
  | brk=>exact q
  | cont=>exact q
 |none=>
  rw[g]at ev;obtain⟨⟨x,Z⟩,hev2,ev⟩:=bind_some ev;obtain⟨h,hsx,ev⟩:=bind_some ev;obtain⟨c,R,b0,bC,np,hpos,hrest,hsu,hR,hcr,hsub,hg,hm,hdb,hpre⟩:=hsel x h hsx;obtain⟨⟨rr,Qg⟩,hev3,ev⟩:=map_some ev;cases ev;generalize hE:(fun(e:Value) (s₁:Shared)=>wpAny (model X.prog X.w) X.A (noteFrame e X.env) (fun _ s₂=>wpAny (model X.prog X.w) X.A (setFlight e none) (fun _ s₃=>wpAny (model X.prog X.w) X.A (handleBy e X.env (h0::hs)) (SP X pins D) X.xe s₃) X.xe s₂) X.xe s₁)=E1
  have own:PassesOwn (model X.prog X.w) X.A X.env E1:=by
   rw[<-hE];exact PassesOwn.looking
  have hand:∀ (U:List (Addr × Obj)) (O:L2.St) (t H':Hp) (k s1:Shared) (e C:Addr) (od:Option Addr) (tb:Bool),Inv (CxX X (X.pn++pins) E1) U O t k->s1.os=k.os->AllBare s1.gens->Un (frs X.stack) [] t H' k.heap s1.heap->HOk X.prog X.w H' s1.heap->Exc (eH k.heap H') e C od tb s1.heap ->
    (CO X.K x C od H'/\RVm X.K M Z O H'/\Fr' M J H O H')->E1 (.ref e) s1:=by
   intro U O t H' k s1 e C od tb Qa os bare un hok ex ⟨l,L,T⟩
   have I0:Inv X pins O t k:=#[#[Qa.ok.mod,Qa.ok.kind,Qa.ok.glob,Qa.ok.blt,Qa.ok.above,Qa.ok.inj,Qa.ok.has,Qa.ok.cab,Qa.ok.hd,Qa.ok.frames,Qa.ok.stk,Qa.ok.exf,Qa.ok.bs,Qa.ok.bsz,Qa.ok.iD,Qa.ok.jc,Qa.ok.dh,Qa.ok.frf],Qa.os,Qa.bare,Qa.base,Qa.loc,Qa.cell,Qa.free,Qa.cC,fun p V=>Qa.pin p (List.mem_append_left _ V),Qa.hok,Qa.len]
   rw[<-hE];refine sC I0 hst hfrm hex os bare un hok ex l.1 hR hcr hsub hg hm hdb hN hi hl (fun B H s=>hpre C l.1 pins O _ _ e B H s) fun B vs s4 hcd hd hv hne hn0 n1 n2 n3 J4=>?_
   have sm:aD H' (upd H' e (Fz B)):=fun a u q=>by rw[ax (aJ q hne)];exact q
   have rv4:RVm X.K M (Z.set i (some (.exc x))) (O.set i (some (.ref e))) (upd H' e (Fz B)):=(L.same sm).bind hM (by
    exact#[e,B,_,C,vs,rfl,aG,#[hcd.1,by rw[hcd.2];exact l.2.keep fun b o u q=>sm b _ q],hd,hv,l.1])
   have fr4:Fr' M J H (O.set i (some (.ref e))) (upd H' e (Fz B)):=T.trans (Fr'.bind hM sm)
   have Q:kn X.K M { nx:=fun Y y=>D.nx (Y.set i none) y,rt:=D.rt } (O.set i (some (.ref e))) (upd H' e (Fz B)) rr Qg:=by
    cases rr with
    | nx=>exact fun Y y G S=>post (Y.set i none) y (G.unset hM) ((fr4.trans S).trans (Fr'.unset hM))
    | rt d=>exact fun Y y v H6 G S sm5 rp=>post (Y.set i none) y v H6 (G.unset hM) ((fr4.trans S).trans (Fr'.unset hM)) sm5 fun P hP=>rp P fun p V=>by rw[<-bI.unset hM];exact hP p V
   refine wpAny_mono (hsu e B pins s4 _ _ _ J4 ⟨_,rr,Qg,rv4,hev3,Q⟩) (fun f s5 q=>?_) fun e s5 z=>by
    have z:X.xe e s5:=z;rw[hx]at z;exact z.elim
   cases f with
   |next=>
    obtain⟨Y,y,J5,q⟩:=q
    exact qA (kK J5 I0.ok hn0 n1 n2 n3) hN hi hl fun s6 J6=>#[_,y,J6,q]
   |ret u=>
    obtain⟨v,Y,y,J5,rel,q⟩:=q
    exact qA (kK J5 I0.ok hn0 n1 n2 n3) hN hi hl fun s6 J6=>#[v,_,y,J6,rel,q]
   |brk=>
    obtain⟨_,_,_,q⟩:=q;exact q.elim
   |cont=>
    obtain⟨_,_,_,q⟩:=q;exact q.elim
  have rz:=hbx (X.pn++pins) E1 (fun O Cv od H1=>∃ C,Cv=.ref C/\CO X.K x C od H1/\RVm X.K M Z O H1/\Fr' M J H O H1) ⟨fun U O t k e s1 Qa z=>by
    obtain⟨x',C,od,H',rfl,⟨C',q,l⟩,os,bare,un,hok,ex⟩:=z;cases q
    exact hand U O t H' k s1 x' C od true Qa os bare un hok ex l,fun U O t k h' e C vs Qa m z=>by
    obtain⟨C',q,l⟩:=z;cases q
    exact hand U O t t k _ e C none false Qa rfl Qa.bare (Un.kept m.keeps) (Qa.hok.kept m.keeps) (pM Qa.hok m) l,fun U O t k C j e od H' s1 Qa nx z=>by
    obtain⟨C',q,l⟩:=z;cases q
    exact hand U O t H' k s1 e C od false Qa nx.os nx.bare nx.un nx.hok nx.ex l⟩ own
  have I1:Inv (CxX X (X.pn++pins) E1) [] J H s:=#[#[I.ok.mod,I.ok.kind,I.ok.glob,I.ok.blt,I.ok.above,I.ok.inj,I.ok.has,I.ok.cab,I.ok.hd,I.ok.frames,I.ok.stk,I.ok.exf,I.ok.bs,I.ok.bsz,I.ok.iD,I.ok.jc,I.ok.dh,I.ok.frf],I.os,I.bare,I.base,I.loc,I.cell,I.free,I.cC,fun p V=>I.pin p (by rw[Ju]at V;exact V),I.hok,I.len]
  refine wpAny_mono (rz [] s J H { nx:=fun _ _=>False,rt:=fun _ _=>False } I1 ⟨F,x,Z,rv,hev2,fun O H1 C od l L T=>#[C,rfl,l,L,T]⟩) (fun f s1 q=>?_) fun e s1 z=>by
   have z:E1 e s1:=z;subst hE;exact z
  cases f with
  |next=>
   obtain⟨_,_,_,q⟩:=q;exact q.elim
  |ret u=>
   obtain⟨_,_,_,_,_,q⟩:=q;exact q.elim
  |brk=>
   obtain⟨_,_,_,q⟩:=q;exact q.elim
  |cont=>
   obtain⟨_,_,_,q⟩:=q;exact q.elim
def Dh(l:X.xe=fun _ _=>False)(Y:X.stack=X.env::X.outer)(O:X.env.frame=some X.env.locals)(Z:X.ex=[])(hb:SSs X cl M body b)
 (f:∀ (pn:List (Addr × Obj)) (E:Value->Shared->Prop) (EX:L2.St->XK),xk (CxX X pn E) EX->PassesOwn (model X.prog X.w) X.A X.env E->RZs (CxX X pn E) EX cl M body b)
 (U:∀ e g,SSs (X.bC e g) cl M (j::bC) h)(t:Cls X.K c R)(d:c∈cP)(o:Gl X c)(hm:X.mg c=some (.ref R))(a:(c == ("__debug__" : Str))=false)(u:X.N.Nodup)(hi:X.N[i]?=some n)(m:X.env.scope.names.lookup n=some .local)(hM:M.contains i=false) :
  SS X cl M (.Try body [.ExceptHandler (some (.Name c np)) (some n) (j::bC) hpos] [] [] pos) (.tryc b c i h):=by
 refine zF (sel:=fun x=>if RL.fU x c then some h else none) l Y O Z hb f (fun x h' e=>?_) (fun J=>?_) u hi m hM
 ·obtain⟨I,e⟩:=bx e;subst e;exact#[c,R,j,bC,np,hpos,[],U,t,d,I,o,hm,a,fun C y pins J Q E e g H s Qa v r k=>k]
 ·rw[RL.nL];unfold xM
  cases RL.aw cl M b J with
  | some p=>rfl
  |none=>
   show(RL.bM cl M b J).bind _=(RL.bM cl M b J).bind _;congr 1;funext q;dsimp only;by_cases I:RL.fU q.1 c=true
   ·rw[if_pos I,if_pos I];rfl
   ·rw[if_neg I,if_neg I];rfl
end
section
variable{X:Cx}
def oX:bG X (.builtin "isinstance") (fun xs H Q=>∃ b o u C vs t k f,xs=[.ref b,t]/\H b=some (.frz o u)/\(o.cls=.ref C/\gB H f o.dict)/\o.data=.fields vs/\kj X.K C/\((∃ D,t=.ref D/\W.kitOne X.K (.ref C) (.ref D)=some k)\/∃ T,t=.ty T/\W.kitOne X.K (.ref C) (.type T)=some k)/\Q (.bl k) H):=by
 k_asm;obtain⟨b,o,u,C,vs,t,k,f,rfl,hb,O,hd,F,hk,q⟩:=h
 cases r with
 |cons r1 Y=>
  cases Y with
  |cons Y a=>
   cases a;cases r1
   obtain⟨od,Qa⟩:∃ od,W.InstAt s.heap b o C od:=by
    cases f with
    | none=>exact#[none,(I.hok _ _ hb).1,O.1,by unfold W.notCls;rw[hd],by rw[show o.dict=none from O.2];trivial]
    |some m=>
     obtain⟨n,g,i,U,Z,d,c⟩:=O.2;exact#[some _,(I.hok _ _ hb).1,O.1,by unfold W.notCls;rw[hd],by rw[d];exact(I.hok _ _ c).1]
   rcases hk with⟨D,rfl,e⟩ | ⟨T,rfl,e⟩
   ·cases Y
    exact W.kia_one (nO F) I.kIn Qa e (fun z=>nomatch z) fun U=>#[.bl k,H,I.tok U,rfl,q]
   ·cases Y
    exact W.kia_one (nO F) I.kIn Qa e (fun z=>nomatch z) fun U=>#[.bl k,H,I.tok U,rfl,q]
def vD(Z:∀ x C,Cls X.K x C->(∃ D,t=.ref D/\W.kitOne X.K (.ref C) (.ref D)=some (RL.cV x c))\/∃ T,t=.ty T/\W.kitOne X.K (.ref C) (.type T)=some (RL.cV x c))(h:tE X.K cl (.isx a' c) J H Q) :
  tCB (fun xs H Q=>∃ b o u C vs t k f,xs=[.ref b,t]/\H b=some (.frz o u)/\(o.cls=.ref C/\gB H f o.dict)/\o.data=.fields vs/\kj X.K C/\((∃ D,t=.ref D/\W.kitOne X.K (.ref C) (.ref D)=some k)\/∃ T,t=.ty T/\W.kitOne X.K (.ref C) (.type T)=some k)/\Q (.bl k) H) (eL (tE X.K cl a') (eL (tC t) iH)) J H Q:=by
 obtain⟨I,d,U,e,k⟩:=h;obtain⟨x,j,e⟩:=bind_some e
 cases x with
 |exc n=>
  cases e;refine#[I,_,U,j,fun v m r1=>?_];have Y:=r1.rep;obtain⟨b,o,u,C,vs,rfl,i,g,a,l,O⟩:=Y;exact#[b,o,u,C,vs,t,_,_,rfl,i,g,a,O.kin,Z _ C O,k _ _ (dz r1.same)]
 | _=>cases e
def Bj(b:Gl X "isinstance")(hm:X.mg "isinstance" = none)(U:Gl X c)(O:X.mg c=some (.ref D))(I:W.nsIn X.K mainGlobals c=some (some (.ref D)))(Z:c∈cP)(Y:(c == ("__debug__" : Str))=false)(ha:SE X cl a a')(hn:noStar a=true) :
  SE X cl (.Call (.Name "isinstance" p) [a,.Name c p2] [] pos) (.isx a' c) :=
 PE.weak (fk oX b hm (by decide +kernel) (aO ha (aO (r9 (v:=.ref D) U O rfl Y) bE rfl) (aA _ hn)) ∅ ∅ (aA _ hn) rfl) fun J H Q h=>vD (fun x C d=>.inl #[D,rfl,(d.ref Z I).1]) h
def CB(U:Gl X "isinstance")(hm:X.mg "isinstance" = none)(O:Gl X "ValueError")(I:X.mg "ValueError" = none)(ha:SE X cl a a')(hn:noStar a=true):SE X cl (.Call (.Name "isinstance" p) [a,.Name "ValueError" p2] [] pos) (.isx a' "ValueError") :=
 PE.weak (fk oX U hm (by decide +kernel) (aO ha (aO (rh (v:=.ty "ValueError") O I PyProof.Rows.Boot.«ValueError» rfl ∅ ∅) bE rfl) (aA _ hn)) ∅ ∅ (aA _ hn) rfl) fun J H Q h=>vD (fun x C Y=>.inr #[_,rfl,by rw[Y.val];simp[RL.cV]]) h
def Ak{K:W.Frag}(ha:W.findIn K (.ref C) "at" = some none)(hd:W.hasDictIn K C=true):W.findObj K C (some { cls:=.type "dict",data:=.dict (List.toArray [⟨hh,.str "at" tk,v⟩]) 1 }) "at" = some (.value v):=by
 unfold W.hasDictIn at hd;obtain⟨cd,O,I⟩:=W.any_some hd;unfold W.findObj;rw[O,Option.bind_some,ha,Option.bind_some];dsimp only[Option.bind_some];unfold W.ownOf;rw[if_pos I];rfl
def zT{p:Pos}(e:PE X (.Name y p) ta):PE X (.Attribute (.Name y p) "at" pos) (fun J H Q=>ta J H fun x U=>∃ b o u C vs n Z c a i O,x=.ref b/\U b=some (.frz o u)/\o.cls=.ref C/\o.dict=some n/\o.data=.fields vs/\U n=some (.frz { cls:=.type "dict",data:=.dict (List.toArray [⟨c,.str "at" a,.int i O⟩]) 1 } Z)/\kj X.K C/\W.findIn X.K (.ref C) "at" = some none/\W.hasDictIn X.K C=true/\Q (.int i) U):=by
 fin2;refine yK rfl (thn (e pins s J H _ I h) fun u s1 ⟨x,U,Y,d,b,o,m,C,vs,n,Z,c,a,i,O,ex,l,k,j,g,f,F,f1,f2,q⟩=>?_);subst ex;obtain rfl:u=Value.ref b:=d;exact vO F Y.kIn ⟨(Y.hok _ _ l).1,k,by unfold W.notCls;rw[g],by rw[j];exact(Y.hok _ _ f).1⟩ (Ak f1 f2) rfl ⟨.int i,U,Y.tok _,⟨_,rfl⟩,q⟩
def CW{p:Pos}(ha:SE X cl (.Name y p) a'):SE X cl (.Attribute (.Name y p) "at" pos) (.fld a'):=by
 refine PE.weak (zT ha) fun J H Q h=>?_;obtain⟨U,d,i,e,k⟩:=h;obtain⟨x,s,e⟩:=bind_some e
 cases x with
 |exc n=>
  obtain⟨j,w,t⟩:=bind_some e;cases t;refine#[U,_,i,s,fun v A r1=>?_];have Z:=r1.rep;rw[Rep]at Z;obtain⟨b,o,u,C,vs,rfl,r,c,q,z,a⟩:=Z;have I:=c.2;rw[w]at I;obtain⟨m,f,l,g,Y,g1,g2⟩:=I;have O:=a.exc;unfold nR at O;simp only[and_eq_true,beq_iff_eq]at O;exact#[b,o,u,C,vs,m,f,l,g,j,Y,rfl,r,c.1,g1,q,g2,a.kin,O.2.1,O.2.2,k _ _ (ck r1.same bb rfl)]
 | _=>cases e
end
def mM:∀ ys:List Str,Str.join ⟨(List.toArray [])⟩ ys=⟨(ys.flatMap fun s=>s.cps.toList).toArray⟩
 | []=>rfl
 | [x]=>by simp[Str.join]
 | x::y::r=>by
  have I:=mM (y::r);show x++(⟨(List.toArray [])⟩:Str)++Str.join ⟨(List.toArray [])⟩ (y::r)=_;rw[I];show(⟨(x.cps ++ (List.toArray []))++(List.flatMap (fun s=>s.cps.toList) (y::r)).toArray⟩:Str)=_;simp
def qK:∀ {ys:List Str} {us:List Value},Vals (ys.map V.str) us->StrsAre us ys
 | [],_,r=>by cases r;exact .nil
 | y::ys,_,r=>by
  cases r with
  |cons a b=>
   obtain⟨t,rfl⟩:=a;exact .cons y t (qK b)
def nH{P:Addr->Prop}{K:W.Frag}:∀ {ds:List RL.D} {I:List Str} {xs:List V},RL.strs? ds=some I->ai P K H ds xs->xs=I.map V.str
 | [],I,xs,h,r=>by
  cases h;exact r
 | d::ds,I,xs,h,r=>by
  obtain⟨x,t,rfl,r1,O⟩:=r
  cases d with
  |str y=>
   obtain⟨q,Y,U⟩:=map_some h;subst U;rw[aP r1,nH Y O];rfl
  | _=>cases h
section
def zt:MtR X "str.join" (fun x xs H Q=>∃ b ys,x=.str ⟨(List.toArray [])⟩/\xs=[.ref b]/\H b=some (.lst (ys.map V.str))/\(ys.map (·.length)).sum<=16777216/\Q (.str (Str.join ⟨(List.toArray [])⟩ ys)) H):=by
 intro pins s J H x xs v us Q I U r h;obtain⟨b,ys,rfl,rfl,hb,a,q⟩:=h;obtain⟨t,rfl⟩:=U;obtain⟨u,rfl,Z⟩:=vals1 r;cases Z;obtain⟨its,Y,c,_⟩:=I.list (SqL.of hb)
 refine join_list c.isList (by simpa using qK Y) (by show _+_*0<=_;rw[Nat.mul_zero];exact a) fun O k=>#[.str (Str.join #[(List.toArray [])] ys),H,I.tok _,#[O,?_],q]
 show Value.str (Builtin.Str.glued ⟨(List.toArray [])⟩ ys) O=_;rw[PySem.StrLaws.glued_eq_join]
def uS:∀ {I:List Str},I.all (fun s=>decide (s.length<=100))=true->(I.map (·.length)).sum<=100*I.length
 | [],_=>Je _
 | x::r,h=>by
  rw[Jx,and_eq_true,decide_eq_true_eq]at h;have:=uS h.2;rw[map_cons,List.sum_cons,length_cons];omega
def yV(ha:SE X cl a a')(hn:noStar a=true)(I:(apos.endLine == pos.line)=true):SE X cl (.Call (.Attribute (.Constant (.str ⟨(List.toArray [])⟩) j p) "join" apos) [a] [] pos) (.join a'):=by
 refine PE.weak (sP PySem.F.plainAttrs_str PySem.F.slot_str_join PySem.F.type_str_join zt oa (aO ha bE (aA [] hn)) rfl ?_ I (aA [] hn) rfl) fun J H Q h=>?_
 ·rw[aA [] hn];rfl
 obtain⟨O,d,Z,e,k⟩:=h;obtain⟨x,f,e⟩:=bind_some e
 cases x with
 |lst ds=>
  obtain⟨Y,g,U⟩:=bind_some e;split at U
  ·rename_i c;cases U;refine#[rfl,O,_,Z,f,fun v l r1=>?_];obtain⟨b,xs,rfl,_,f2,f3⟩:=bc r1.rep;rw[nH g f3]at f2;have i:=uS c.2;have hm:RL.most=100000:=rfl;refine#[b,Y,rfl,rfl,f2,by omega,?_];rw[mM];exact k _ _ (ck r1.same gh rfl)
  ·cases U
 | _=>cases e
end
end RS
namespace L2
open PySem PySem.Spec PyProof.Rows
structure f9(k:Nat)(A:Around):Prop where
 dp:A.depth+3*k+5<recursionLimit
 un:A.units+16*k+200<cLine
def bq.h(r:bq k A):f9 k A:=#[r.dp,r.un]
def f9.mono(r:f9 k A)(h:j<=k):f9 j A:=⟨by have:=r.dp;omega,by have:=r.un;omega⟩
abbrev HXH(A:Around)(H:Hp):Prop:=A.handled=none\/∃ h o u vs,A.handled=some (.ref h)/\H h=some (.frz o u)/\o.data=.fields vs/\vs[2]?=some .none
structure kZ(P:Program)(w:World)(K:W.Frag)(mg:Str->Option Value)(base:Heap)(k:Nat)(f:Addr)(fd:FuncData)(ps:List Str)(sp:Sp):Prop where
 len:∀ vs H Q,sp vs H Q E0->vs.length=ps.length
 run:∀ (A:Around) (outer:List Env) (s:Shared) (H:Hp) (us:List Value) (vs:List V) (Q:VK),f9 k A->HXH A H->iE P w K mg base A outer s H->BindsTo s fd ⟨us,[]⟩ (ps.zip us)->Vals vs us->sp vs H Q E0->codeAny (model P w) A (.call (.ref f) ⟨us,[]⟩) (CR CX0 outer P w H s Q E0) s
@[reducible]noncomputable def cxH(P:Program)(w:World)(K:W.Frag)(mg:Str->Option Value)(base:Heap)(N:List Str)(qual:Str)(scope:Scope)(f:Addr)(cd:Value)(A:Around)(outer:List Env)(s:Shared)(H:Hp):Cx:={ (d7 CX0 P w K mg base N qual scope f cd A outer s H E0).nox with calm:=false }
section
variable{K:W.Frag}{st:Stmt}
def Fun.okH(F:Fun K x qual st f fd)(S:cU N ps (az st))(len:∀ vs H Q,sp vs H Q E0->vs.length=ps.length)
 (Y:∀ (cdv:Value) (A:Around) (outer:List Env) (s:Shared) (H:Hp) (vs:List V) (Q:VK),f9 k (A.deeper (envOfC qual (az st) s.heap.objs.size f cdv))->sp vs H Q E0->∃ t,PSs (cxH P w K mg base N qual (az st) f cdv A outer s H) (br st) t/\t { nx:=fun _ H'=>Q .non H',rt:=Q } (start N vs) H):kZ P w K mg base (k+1) f fd ps sp:=by
 obtain⟨oc,od,kV,doc,pm,an,cdv,ct,osl,rfl,l,h⟩:=F.ex;refine#[len,fun A outer s H us vs Q g p U hb r a=>?_];have D:=len _ _ _ a;have i:=U.mod.kin.keeps fun b o e=>(U.bs b o e).1
 have kinds:∀ y∈ps.zip us,(az st).names.lookup y.1=some .local\/((az st).names.lookup y.1=some .cell/\((cellsFrom (s.heap.objs.size+1) (az st).names []).lookup y.1).isSome=true):=fun⟨n,v⟩ m=>(S.par n (of_mem_zip m).1).imp (fun q=>q) fun q=>#[q,W.cellsFrom_some _ _ _ (.inl q)]
 refine codeAny_call_function (by have:=g.dp;omega) (i _ _ l) rfl S.co S.gen rfl (W.codeRec_of i h) (hb _ _ _ _ ?_);refine wpAny_newFunctionEnv_cells S.kind kinds fun env E s1 y=>?_;subst E;refine#[(U.mod.nolimit.keeps fun b o e=>(U.bs b o e).1).keeps y.toInCall.keep,codeAny_func ?_]
 have d:f9 k (A.deeper (envOfC qual (az st) s.heap.objs.size f cdv)):=⟨by have:=g.dp;show A.depth+1+3*k+5<_;omega,by have:=g.un;show A.units+3+16*k+200<_;omega⟩
 obtain⟨t,B,C⟩:=Y cdv A outer s H vs Q d a;have O:Inv (d7 CX0 P w K mg base N qual (az st) f cdv { A with handled:=none } outer s H E0) [] (start N vs) H s1:=my S rfl ⟨U.frames,U.mod,U.bs,U.bsz,U.dh,U.frf,U.hok,U.bare⟩ D r y
 have I:Inv (cxH P w K mg base N qual (az st) f cdv A outer s H) [] (start N vs) H s1:=#[#[O.ok.mod,O.ok.kind,O.ok.glob,O.ok.blt,O.ok.above,O.ok.inj,O.ok.has,O.ok.cab,#[fun z=>(nomatch z),p],Around.frames_deeper U.frames,O.ok.stk,O.ok.exf,O.ok.bs,O.ok.bsz,O.ok.iD,O.ok.jc,O.ok.dh,O.ok.frf],O.os,O.bare,O.base,O.loc,O.cell,O.free,O.cC,O.pin,O.hok,O.len]
 refine wpAny_mono (B [] s1 (start N vs) H _ I C) (fun G s' Z=>?_) fun e s' Z=>Z.elim
 cases G with
 |ret u=>
  obtain⟨v,c,H',Qa,j,q⟩:=Z;exact#[v,H',Qa.os,Qa.bare,Qa.base,Qa.hok,j,q]
 |next=>
  obtain⟨c,H',Qa,q⟩:=Z;exact#[.non,H',Qa.os,Qa.bare,Qa.base,Qa.hok,rfl,q]
 |brk=>
  obtain⟨_,_,_,q⟩:=Z;exact q.elim
 |cont=>
  obtain⟨_,_,_,q⟩:=Z;exact q.elim
def Fun.okX(F:Fun K x qual st f fd)(S:cU N ps (az st))(len:∀ vs H Q E,sp vs H Q E->vs.length=ps.length)
 (I:∀ (cdv:Value) (A:Around) (outer:List Env) (s:Shared) (H:Hp) (vs:List V) (Q:VK) (E:XK),bq k (A.deeper (envOfC qual (az st) s.heap.objs.size f cdv))->sp vs H Q E->∃ t,PSs (d7 (CXE P w) P w K mg base N qual (az st) f cdv A outer s H E) (br st) t/\t { nx:=fun _ H'=>Q .non H',rt:=Q } (start N vs) H):aY P w K mg base (CXE P w) (k+1) f fd ps sp:=by
 obtain⟨oc,od,kV,doc,pm,an,cdv,ct,osl,rfl,Y,U⟩:=F.ex;exact yk Y U S len fun A outer s H vs Q E Z O=>I cdv A outer s H vs Q E Z O
end
def wW(F:kZ X.prog X.w X.K X.mg X.base k f fd ps sp)(c:f9 k X.A)(g:Gl X x)(hm:X.mg x=some (.ref f))(hk:W.keepIn X.K (.ref f)=true)
 (hb:Binds X.K fd ps [])(ha:PA X (e::es) t)(a:(x == ("__debug__" : Str))=false)(i:starEach (e::es) X.env=(false,eval e X.env)::starEach es X.env)(hpl:(backTo pos (starEach es X.env)).any (·.1)=false) :
  PE X (.Call (.Name x p) (e::es) [] pos) (fun J H Q=>t J H fun vs Z=>sp vs Z Q E0):=by
 fin2;refine wpAny_Call_Name_kw (cW I g hm ?_ a);refine W.callWith_K I.ok.mod.kin hk (thn (ha pos pins s J H _ I h) fun us s1 ⟨vs,Z,O,r,q⟩=>#[O.kIn,?_]) i hpl
 have d:us.length=ps.length:=by rw[<-r.length];exact F.len _ _ _ q
 have Y:=hb s1 us O.kIn (by rw[Ju];exact d);rw[Ju]at Y
 have b:HXH X.A Z:=by
  rcases O.ok.hd.2 with z | ⟨h,o,u,vs,m,l,j⟩
  ·exact .inl z
  ·exact .inr #[h,o,u,vs,m,O.base.c8 _ _ _ l,j]
 refine wpAny_call (codeAny_mono (F.run X.A X.stack s1 Z us vs Q c b O.pL Y r q) fun r s' U=>?_)
 cases r with
 | error e=>exact U.elim
 |ok n=>
  cases n with
  | ret u=>exact O.after U
  | next=>exact False.elim U
  | brk=>exact False.elim U
  | cont=>exact False.elim U
end L2
namespace RS
open PySem PySem.Spec PyProof.Rows L2
abbrev xY:Expr->Option (List Expr)
 | .JoinedStr vs _=>some vs
 | _=>none
def xN{e:Expr}{vs:List Expr}(h:xY e=some vs):∃ p,e=.JoinedStr vs p:=by
 cases e
 case JoinedStr=>cases h;exact#[_,rfl]
 all_goals exact nos h
abbrev AM:Expr->Option (Expr × Int × Option Expr)
 | .FormattedValue e c s _=>some (e,c,s)
 | _=>none
def A1{e x:Expr}{c:Int}{s:Option Expr}(h:AM e=some (x,c,s)):∃ p,e=.FormattedValue x c s p:=by
 cases e
 case FormattedValue=>cases h;exact#[_,rfl]
 all_goals exact nos h
abbrev pX:Stmt->Option (Option Expr × Option Expr)
 | .Raise e c _=>some (e,c)
 | _=>none
def mC{st:Stmt}{e c:Option Expr}(h:pX st=some (e,c)):∃ p,st=.Raise e c p:=by
 cases st
 case Raise=>cases h;exact#[_,rfl]
 all_goals exact nos h
abbrev BV:Stmt->Option (List Stmt × List ExceptHandler × List Stmt × List Stmt)
 | .Try b h o f _=>some (b,h,o,f)
 | _=>none
def zv{st:Stmt}{b o f:List Stmt}{h:List ExceptHandler}(z:BV st=some (b,h,o,f)):∃ p,st=.Try b h o f p:=by
 cases st
 case Try=>cases z;exact#[_,rfl]
 all_goals exact nos z
abbrev nk:ExceptHandler->Option Expr × Option Str × List Stmt
 | .ExceptHandler t n b _=>(t,n,b)
end RS
namespace L2
open PySem PySem.Spec PyProof.Rows
open RS (CO spX nP Rep ai spF)
abbrev cz(x:Addr)(H H2:Hp):Prop:=∀ b o,b≠x->H b=some o->H2 b=some o
def cz.refl:cz x H H:=fun _ _ _ q=>q
def cz.same(k:cz x H H1)(s:aD H1 H2):cz x H H2:=fun b o n q=>s b o (k b o n q)
def cz.self(k:cz x H H1):cz x H (upd H1 x o):=fun b u n q=>by rw[ax n];exact k b u n q
def cz.new(k:cz x H H1)(h:H1 a=none):cz x H (upd H1 a o):=fun b u n q=>by
 have I:=k b u n q;rw[ax fun z=>by rw[z,h]at I;cases I];exact I
def lL{H:Hp}:upd (upd H x a) x b=upd H x b:=by
 funext y;by_cases I:y=x
 ·subst I;rw[aG,aG]
 ·rw[ax I,ax I,ax I]
abbrev spN(C:Addr):Sp:=fun vs H Q _=>∃ x dx a b c,vs=[.ref x,a,b,c]/\H x=some (.ins C dx [])/\∀ fs,Q .non (upd H x (.ins C dx fs))
structure yo(f1 f2 f3:Str)(st:Stmt):Prop where
 body:∃ (p1 p2 p3 p4 p5 p6 p7 p8 p9 p10 p11 p12:Pos),br st=[.Assign [.Attribute (.Name "self" p1) f1 p2] (.Name f1 p3) p4,.Assign [.Attribute (.Name "self" p5) f2 p6] (.Name f2 p7) p8,.Assign [.Attribute (.Name "self" p9) f3 p10] (.Name f3 p11) p12]
 sc:cU ["self",f1,f2,f3] ["self",f1,f2,f3] (az st)
 v0:(az st).names.lookup ("self" : Str)=some .local
 v1:(az st).names.lookup f1=some .local
 v2:(az st).names.lookup f2=some .local
 v3:(az st).names.lookup f3=some .local
 d:((f1 == ("__debug__" : Str))=false/\(f1 == ("__classdict__" : Str))=false)/\((f2 == ("__debug__" : Str))=false/\(f2 == ("__classdict__" : Str))=false)/\((f3 == ("__debug__" : Str))=false/\(f3 == ("__classdict__" : Str))=false)
section
variable{K:W.Frag}{st:Stmt}
def er:∀ {fs:List (Str × V)},(cE f v fs).length<=fs.length+1
 | []=>Je _
 | (g,x)::r=>by
  unfold cE;split
  ·exact le_succ _
  ·exact Nat.succ_le_succ er
def yX(c:Cls K C)(j:bT K C f1)(i:bT K C f2)(g:bT K C f3)(T:yo f1 f2 f3 st)(F:Fun K "__init__" qual st fI fd):aY P w K mg base CX0 1 fI fd ["self",f1,f2,f3] (spN C):=by
 obtain⟨p1,p2,p3,p4,p5,p6,p7,p8,p9,p10,p11,p12,hb⟩:=T.body;refine Fun.ok F T.sc (fun vs H Q E h=>?_) fun cdv A outer s H vs Q E m h=>?_
 ·obtain⟨x,dx,a,b,c,rfl,_⟩:=h;rfl
 ·rw[hb];obtain⟨x,dx,a,b,e,rfl,k,q⟩:=h;generalize hX:(d7 CX0 P w K mg base ["self",f1,f2,f3] qual (az st) fI cdv A outer s H E).nox=X
  have U:X.N=(["self",f1,f2,f3]:List Str):=by rw[<-hX];rfl
  have l:X.K=K:=by rw[<-hX];rfl
  have O:X.env.scope=az st:=by rw[<-hX];rfl
  have I:∀ p,PE X (.Name "self" p) (eZ 0):=fun p=>c9 (by rw[U];rfl) (by rw[O];exact .inl T.v0) ∅ ∅;have f:∀ p,PE X (.Name f1 p) (eZ 1):=fun p=>c9 (by rw[U];rfl) (by rw[O];exact .inl T.v1) T.d.1.1 T.d.1.2;have Z:∀ p,PE X (.Name f2 p) (eZ 2):=fun p=>c9 (by rw[U];rfl) (by rw[O];exact .inl T.v2) T.d.2.1.1 T.d.2.1.2;have Y:∀ p,PE X (.Name f3 p) (eZ 3):=fun p=>c9 (by rw[U];rfl) (by rw[O];exact .inl T.v3) T.d.2.2.1 T.d.2.2.2;rw[<-l]at c j i g;refine#[_,bg (gF (pos':=p2) (pos:=p4) (I p1) (f p3) rfl) (bg (gF (pos':=p6) (pos:=p8) (I p5) (Z p7) rfl) (bg (gF (pos':=p10) (pos:=p12) (I p9) (Y p11) rfl) eC)),?_];refine#[a,rfl,.ref x,rfl,x,C,dx,[],rfl,k,c,j,by decide,?_];refine#[b,rfl,.ref x,rfl,x,C,dx,_,rfl,aG,c,i,Jv er ∅,?_];refine#[e,rfl,.ref x,rfl,x,C,dx,_,rfl,aG,c,g,Jv er (Jv (Nat.succ_le_succ er) ∅),?_];rw[lL,lL];exact q _
end
abbrev jZ(K:W.Frag)(cl:RL.Cl)(f:Nat)(C:Addr):Sp:=fun vs H Q E=>∃ x dx v d,vs=[.ref x,v]/\H x=some (.ins C dx [])/\Rep nP K H d v /\
 (((∃ r,cl f [d]=some r)/\∀ H2,cz x H H2->Q .non H2)\/∃ y,RL.clX cl f [d]=some y/\∀ I od H2,CO K y I od H2->cz x H H2->E (.ref I) od H2)
structure ye(cp hd f1 f2 f3:Str)(st:Stmt):Prop where
 body:∃ (p1 p2 p3 p4 p5 p6 p7 p8 p9 p10 p11 p12 p13 p14 p15 p16 p17 p18 p19 p20:Pos),br st=[.Expr (.Call (.Name cp p1) [.Name "pegs" p2] [] p3) p4,
  .Assign [.Attribute (.Name "self" p5) f1 p6] (.Call (.Name hd p7) [.Name "pegs" p8,.Dict [] [] p9,.Dict [] [] p10] [] p11) p12,.Assign [.Attribute (.Name "self" p13) f2 p14] (.List [] p15) p16,.Assign [.Attribute (.Name "self" p17) f3 p18] (.List [] p19) p20]
 sc:cU ["self", "pegs"] ["self", "pegs"] (az st)
 v0:(az st).names.lookup ("self" : Str)=some .local
 v1:(az st).names.lookup ("pegs" : Str)=some .local
 g1:(az st).names.lookup cp=some .globalImplicit
 g2:(az st).names.lookup hd=some .globalImplicit
 d:(cp == ("__debug__" : Str))=false/\(hd == ("__debug__" : Str))=false
structure nB(P:Program)(w:World)(K:W.Frag)(mg:Str->Option Value)(base:Heap)(cl:RL.Cl)(k f:Nat)(x:Str)(fa:Addr)(fd:FuncData)(ps:List Str):Prop where
 nor:aY P w K mg base CX0 k fa fd ps (spF K cl f)
 ref:aY P w K mg base (CXE P w) k fa fd ps (spX K cl f)
 hm:mg x=some (.ref fa)
 hk:W.keepIn K (.ref fa)=true
 hb:Binds K fd ps []
section
variable{K:W.Frag}{st:Stmt}
def uY{E:XK}{pins:List (Addr × Obj)}{J:St}{H1:Hp}{s1:Shared}{e:Value}{s':Shared}(I:Inv (d7 (CXE P w) P w K mg base N qual sc fI cdv A outer s H E) pins J H1 s1)(z:CXE P w (d7 (CXE P w) P w K mg base N qual sc fI cdv A outer s H E).stack H1 s1 E e s'):(d7 (CXE P w) P w K mg base N qual sc fI cdv A outer s H E).xe e s':=by
 obtain⟨x,C,od,H',rfl,U,O,ex,_⟩:=I.refused rfl z;exact iP O rfl rfl rfl ex U O.ok.frames
def Av{k:Nat}(c:Cls K C)(n1:bT K C f1)(n2:bT K C f2)(n3:bT K C f3)(T:ye cp hd f1 f2 f3 st)(F:Fun K "__init__" qual st fI fd)(a:nB P w K mg base cl (k+2) f cp fa fda psa)
 (m:Mk K CH fH)(FH:aY P w K mg base CX0 1 fH fdH psH (spN CH))(l:mg hd=some (.ref CH))(n:Binds K fdH psH []):aY P w K mg base (CXE P w) (k+3) fI fd ["self", "pegs"] (jZ K cl f C):=by
 obtain⟨p1,p2,p3,p4,p5,p6,p7,p8,p9,p10,p11,p12,p13,p14,p15,p16,p17,p18,p19,p20,hb⟩:=T.body;refine Fun.okX F T.sc (fun vs H Q E h=>?_) fun cdv A outer s H vs Q E g h=>?_
 ·obtain⟨x,dx,v,d,rfl,_⟩:=h;rfl
 ·rw[hb];obtain⟨x,dx,v,d,rfl,hx,R,q⟩:=h;have b:=fun(pins:List (Addr × Obj)) (J:St) (H1:Hp) (s1:Shared) (e:Value) (s':Shared)=>uY (P:=P) (w:=w) (K:=K) (mg:=mg) (base:=base) (N:=["self", "pegs"]) (qual:=qual) (sc:=az st) (fI:=fI) (cdv:=cdv) (A:=A) (outer:=outer) (s:=s) (H:=H) (E:=E) (pins:=pins) (J:=J) (H1:=H1) (s1:=s1) (e:=e) (s':=s');generalize hX:d7 (CXE P w) P w K mg base ["self", "pegs"] qual (az st) fI cdv A outer s H E=X at b ⊢
  have eN:X.N=(["self", "pegs"]:List Str):=by rw[<-hX];rfl
  have eP:X.prog=P:=by rw[<-hX];rfl
  have eW:X.w=w:=by rw[<-hX];rfl
  have eK:X.K=K:=by rw[<-hX];rfl
  have eM:X.mg=mg:=by rw[<-hX];rfl
  have eB:X.base=base:=by rw[<-hX];rfl
  have eS:X.env.scope=az st:=by rw[<-hX];rfl
  have g:bq (k+2) X.A:=by rw[<-hX];exact g
  have g1:Gl X cp:=by rw[<-hX];exact T.g1
  have g2:Gl X hd:=by rw[<-hX];exact T.g2
  subst eP eW eK eM eB;have Z:∀ p,PE X (.Name "self" p) (eZ 0):=fun p=>c9 (by rw[eN];rfl) (by rw[eS];exact .inl T.v0) ∅ ∅;have Y:∀ p,PE X (.Name "pegs" p) (eZ 1):=fun p=>c9 (by rw[eN];rfl) (by rw[eS];exact .inl T.v1) ∅ ∅;have mk:=qB (p:=p7) (pos:=p11) m FH (g.mono (by omega)) g2 l n .nil k9 (aO (Y p8) (aO (oS (pos:=p9)) (aO (oS (pos:=p10)) bE rfl) rfl) rfl) T.d.2 rfl rfl;have r2:=gF (f:=f1) (pos':=p6) (pos:=p12) (Z p5) mk rfl;have V:=gF (f:=f2) (pos':=p14) (pos:=p16) (Z p13) (oy (pos:=p15) (bE (X:=X))) rfl;have S:=gF (f:=f3) (pos':=p18) (pos:=p20) (Z p17) (oy (pos:=p19) (bE (X:=X))) rfl
  rcases q with⟨⟨r,j⟩,q⟩ | ⟨y,hy,q⟩
  ·have r1:=fh (X:=X) (pos:=p4) (lA (p:=p1) (pos:=p3) a.nor g g1 a.hm a.hk a.hb .nil k9 (aO (Y p2) bE rfl) T.d.1 rfl rfl) rfl;refine#[_,bg r1 (bg r2 (bg V (bg S eC))),?_];refine#[v,rfl,[d],r,?_,j,fun _ H1 sm _=>?_]
   ·rw[Ju];exact#[v,[],rfl,R,rfl]
   have k1:cz x H H1:=cz.refl.same sm;have M:=sm _ _ hx;refine#[v,rfl,fun a1 Qa a2 G U O h3 B h5=>#[U,O,v,.ref a1,.ref a2,rfl,aG,fun fs=>#[rfl,?_]]];rw[lL]
   have L:upd H1 a1 (.dK []) x=some (.ins C dx []):=by rw[ax fun z=>by rw[<-z,M]at Qa;cases Qa];exact M
   have i:upd (upd H1 a1 (.dK [])) a2 (.dK []) x=some (.ins C dx []):=by rw[ax fun z=>by rw[<-z,L]at G;cases G];exact L
   have k3:cz x H (upd (upd H1 a1 (.dK [])) a2 (.dK [])):=(k1.new Qa).new G
   have x4:upd (upd (upd H1 a1 (.dK [])) a2 (.dK [])) O (.own U) x=some (.ins C dx []):=by rw[ax fun z=>by rw[<-z,i]at B;cases B];exact i
   have D:upd (upd (upd H1 a1 (.dK [])) a2 (.dK [])) O (.own U) U=none:=by rw[ax (Ne.symm h5)];exact h3
   have k4:=k3.new (o:=.own U) B;have k5:=k4.new (o:=.ins CH O fs) D
   have x5:upd (upd (upd (upd H1 a1 (.dK [])) a2 (.dK [])) O (.own U)) U (.ins CH O fs) x=some (.ins C dx []):=by rw[ax fun z=>by have:=i;rw[z,h3]at this;cases this];exact x4
   refine#[.ref x,rfl,x,C,dx,[],rfl,x5,c,n1,by decide,?_];refine#[by decide,fun a3 u=>#[.ref x,rfl,x,C,dx,cE f1 (.ref U) [],rfl,?_,c,n2,Jv er ∅,?_]]
   ·rw[ax fun z=>by rw[<-z,aG]at u;cases u];exact aG
   have k6:=(k5.self (o:=.ins C dx (cE f1 (.ref U) []))).new (o:=.lst []) u;refine#[by decide,fun a4 t=>#[.ref x,rfl,x,C,dx,cE f2 (.ref a3) (cE f1 (.ref U) []),rfl,?_,c,n3,Jv er (Jv (Nat.succ_le_succ er) ∅),?_]]
   ·rw[ax fun z=>by rw[<-z,aG]at t;cases t];exact aG
   exact q _ ((k6.self.new t).self)
  ·have r1:=fh (X:=X) (pos:=p4) (kg (EX:=fun _=>E) (p:=p1) (pos:=p3) a.ref g g1 a.hm a.hk a.hb (fun pins J H1 s1 e s' I z=>b pins J H1 s1 e s' I z) (aO (Y p2) bE rfl) T.d.1 rfl rfl) rfl;refine#[_,bg r1 (bg r2 (bg V (bg S eC))),?_];refine#[v,rfl,[d],y,#[v,[],rfl,R,rfl],hy,fun C' od H2 co sm=>q C' od H2 co (cz.refl.same sm)]
structure yh(lf f1:Str)(st:Stmt):Prop where
 body:∃ (p1 p2 p3 p4 p5 p6:Pos),br st=[.Assign [.Attribute (.Name "self" p1) f1 p2] (.Call (.Name lf p3) [.Name "pegs" p4] [] p5) p6]
 sc:cU ["self", "pegs"] ["self", "pegs"] (az st)
 v0:(az st).names.lookup ("self" : Str)=some .local
 v1:(az st).names.lookup ("pegs" : Str)=some .local
 g1:(az st).names.lookup lf=some .globalImplicit
 d:(lf == ("__debug__" : Str))=false
def mi{H H2:Hp}(U:H x=some o)(Z:H x'=none)(Y:H dx'=none)(k2:cz x' (upd (upd H dx' (.own x')) x' u) H2):H2 x=some o/\cz x H H2:=by
 have key:∀ b q,H b=some q->H2 b=some q:=fun b q e=>by
  have I:b≠x':=fun z=>by rw[z,Z]at e;cases e
  have O:b≠dx':=fun z=>by rw[z,Y]at e;cases e
  exact k2 b q I (by rw[ax I,ax O];exact e)
 exact#[key _ _ U,fun b q _ e=>key b q e]
def vV{H:Hp}{d:RL.D}(a:H x'=none)(Z:H dx'=none)(Y:dx'≠x')(I:Rep nP K H d v):Rep nP K (upd (upd H dx' (.own x')) x' u) d v:=by
 refine I.same fun b q e=>?_
 have U:b≠x':=fun z=>by rw[z,a]at e;cases e
 have O:b≠dx':=fun z=>by rw[z,Z]at e;cases e
 rw[ax U,ax O];exact e
def yT{k:Nat}(c:Cls K C)(u:bT K C f1)(T:yh lf f1 st)(F:Fun K "__init__" qual st fI fd)(m:Mk K CL fL)(S:aY P w K mg base (CXE P w) k fL fdL ["self", "pegs"] (jZ K cl f CL))(a:mg lf=some (.ref CL))(b:Binds K fdL ["self", "pegs"] []) :
  aY P w K mg base (CXE P w) (k+2) fI fd ["self", "pegs"] (jZ K cl f C):=by
 obtain⟨p1,p2,p3,p4,p5,p6,hb⟩:=T.body;refine Fun.okX F T.sc (fun vs H Q E h=>?_) fun cdv A outer s H vs Q E Z h=>?_
 ·obtain⟨x,dx,v,d,rfl,_⟩:=h;rfl
 ·rw[hb];obtain⟨x,dx,v,d,rfl,l,t,q⟩:=h;have I:=fun(pins:List (Addr × Obj)) (J:St) (H1:Hp) (s1:Shared) (e:Value) (s':Shared)=>uY (P:=P) (w:=w) (K:=K) (mg:=mg) (base:=base) (N:=["self", "pegs"]) (qual:=qual) (sc:=az st) (fI:=fI) (cdv:=cdv) (A:=A) (outer:=outer) (s:=s) (H:=H) (E:=E) (pins:=pins) (J:=J) (H1:=H1) (s1:=s1) (e:=e) (s':=s');generalize hX:d7 (CXE P w) P w K mg base ["self", "pegs"] qual (az st) fI cdv A outer s H E=X at I ⊢
  have o:X.N=(["self", "pegs"]:List Str):=by rw[<-hX];rfl
  have Qa:X.prog=P:=by rw[<-hX];rfl
  have G:X.w=w:=by rw[<-hX];rfl
  have M:X.K=K:=by rw[<-hX];rfl
  have L:X.mg=mg:=by rw[<-hX];rfl
  have R:X.base=base:=by rw[<-hX];rfl
  have n:X.env.scope=az st:=by rw[<-hX];rfl
  have Z:bq (k+1) X.A:=by rw[<-hX];exact Z
  have g1:Gl X lf:=by rw[<-hX];exact T.g1
  subst Qa G M L R;have U:∀ p,PE X (.Name "self" p) (eZ 0):=fun p=>c9 (by rw[o];rfl) (by rw[n];exact .inl T.v0) ∅ ∅;have O:∀ p,PE X (.Name "pegs" p) (eZ 1):=fun p=>c9 (by rw[o];rfl) (by rw[n];exact .inl T.v1) ∅ ∅;have z:=qB (CX:=CXE X.prog X.w) (E:=E) (p:=p3) (pos:=p5) m S Z g1 a b .nil I (aO (O p4) bE rfl) T.d rfl rfl;refine#[_,bg (gF (f:=f1) (pos':=p2) (pos:=p6) (U p1) z rfl) eC,?_];refine#[v,rfl,fun r j i g D=>#[r,j,v,d,rfl,aG,vV i g D t,?_]]
  rcases q with⟨Y,q⟩ | ⟨y,B,q⟩
  ·refine .inl #[Y,fun H2 k2=>#[rfl,?_]];obtain⟨a1,a2⟩:=mi l i g k2;exact#[.ref x,rfl,x,C,dx,[],rfl,a1,c,u,by decide,q _ a2.self]
  ·exact .inr #[y,B,fun V od H2 co k2=>q V od H2 co (mi l i g k2).2]
end
structure nr(K:W.Frag)(mg:Str->Option Value)(cp c:Str)(C fI:Addr)(fd:FuncData):Prop where
 m:Mk K C fI
 cl:Cls K C
 ex:∃ f1 f2 f3 st qual,bT K C f1/\bT K C f2/\bT K C f3/\ye cp "Holding" f1 f2 f3 st/\Fun K "__init__" qual st fI fd
 hb:Binds K fd ["self", "pegs"] []
 hm:mg c=some (.ref C)
 ho:∃ CH fH fdH f1 f2 f3 st qual,Mk K CH fH/\Cls K CH/\bT K CH f1/\bT K CH f2/\bT K CH f3/\yo f1 f2 f3 st/\Fun K "__init__" qual st fH fdH/\mg "Holding" = some (.ref CH)/\Binds K fdH ["self",f1,f2,f3] []
structure tm(K:W.Frag)(mg:Str->Option Value)(cp c:Str)(C fI:Addr)(fd:FuncData):Prop where
 m:Mk K C fI
 cl:Cls K C
 ex:∃ lf f1 st qual CL fL fdL,bT K C f1/\yh lf f1 st/\Fun K "__init__" qual st fI fd/\nr K mg cp lf CL fL fdL
 hb:Binds K fd ["self", "pegs"] []
 hm:mg c=some (.ref C)
section
variable{K:W.Frag}
def nr.fn{k:Nat}{cl:RL.Cl}(h:nr K mg cp c C fI fd)(a:nB P w K mg base cl (k+2) f cp fa fda psa):aY P w K mg base (CXE P w) (k+3) fI fd ["self", "pegs"] (jZ K cl f C):=by
 obtain⟨f1,f2,f3,st,qual,b,Z,Y,T,F⟩:=h.ex;obtain⟨CH,fH,fdH,g1,g2,o,U,n,d,j,i,g,e,l,m,I,O⟩:=h.ho;exact Av h.cl b Z Y T F a d (yX j i g e l m) I O
def tm.fn{k:Nat}{cl:RL.Cl}(h:tm K mg cp c C fI fd)(a:nB P w K mg base cl (k+2) f cp fa fda psa):aY P w K mg base (CXE P w) (k+5) fI fd ["self", "pegs"] (jZ K cl f C):=by
 obtain⟨lf,f1,st,qual,CL,fL,fdL,I,T,F,L⟩:=h.ex;exact yT h.cl I T F L.m (L.fn a) L.hm L.hb
abbrev rZ(K:W.Frag)(mg:Str->Option Value)(cp c:Str):Prop:=∃ C fI fd,nr K mg cp c C fI fd\/tm K mg cp c C fI fd
def rZ.fn{k:Nat}{cl:RL.Cl}(h:rZ K mg cp c)(a:nB P w K mg base cl (k+2) f cp fa fda psa):∃ C fI fd,Mk K C fI/\aY P w K mg base (CXE P w) (k+5) fI fd ["self", "pegs"] (jZ K cl f C)/\mg c=some (.ref C)/\Binds K fd ["self", "pegs"] []:=by
 obtain⟨C,fI,fd,h | h⟩:=h
 ·exact#[C,fI,fd,h.m,(h.fn a).mono (by omega),h.hm,h.hb]
 ·exact#[C,fI,fd,h.m,h.fn a,h.hm,h.hb]
end
end L2
namespace RS
open PySem PySem.Spec PyProof.Rows L2
structure CC where
 N:List Str
 sc:Scope
 B:List Str
 G:List (Str × Int)
 F:List (Str × List Nat)
 calm:Bool
 hf:List Nat
 Xr:List Str
 Xs:List Str
 Xi:List Str
 Xo:List (Str × Nat)
 W:List (Str × List (Str × Nat))
abbrev BC(scope sc:Scope):Scope:={ scope with names:=scope.names.map fun(n,k)=>if(k == NameKind.free&&sc.kind == .function&&sc.names.lookup n == some .cell)then(n,NameKind.cell)else(n,k) }
abbrev CC.inner(C:CC)(scope:Scope):CC:={ C with sc:=BC scope C.sc }
abbrev ie(x:Str):Bool:=!(x == ("__debug__" : Str)) && !(x == ("__classdict__" : Str))
abbrev xG(C:CC)(x:Str):Bool:=C.sc.names.lookup x == some .local || C.sc.names.lookup x == some .cell
abbrev xC(C:CC)(x:Str):Bool:=C.sc.names.lookup x == some .local || C.sc.names.lookup x == some .cell || C.sc.names.lookup x == some .free
abbrev glB(C:CC)(x:Str):Bool:=C.sc.names.lookup x == some .globalImplicit&&ie x
abbrev km(C:CC)(x:Str):Bool:=glB C x&&C.B.contains x
abbrev nmB(C:CC)(i:Nat)(x:Str):Bool:=C.N[i]? == some x&&ie x
structure XOk(C:CC)(X:Cx)(cl:RL.Cl):Prop where
 scope:X.env.scope=C.sc
 names:X.N=C.N
 nd:C.N.Nodup
 calm:C.calm=true->X.calm=true
 xe:X.xe=fun _ _=>False
 hu:X.A.units+100<cLine
 blt:∀ x∈C.B,X.mg x=none
 glb:∀ x i,C.G.lookup x=some i->∃ u,X.mg x=some u/\RelV (.int i) u
 fns:∀ (f:Nat) (x:Str) (mp:List Nat),C.calm=true->C.F[f]?=some (x,mp)->∃ k fa fd ps,aY X.prog X.w X.K X.mg X.base CX0 k fa fd ps (if mp=[]then spF X.K cl f else spM X.K cl mp f)/\bq k X.A/\X.mg x=some (.ref fa)/\W.keepIn X.K (.ref fa)=true/\Binds X.K fd ps []
 gds:∀ x tbl,C.W.lookup x=some tbl->∃ d kvs,X.mg x=some (.ref d)/\GDc X d kvs/\kvs.map (·.1)=tbl.map (·.1)/\∀ y m,RL.gw tbl (.str y)=some m->∃ q nm,(kvs.find? fun q=>decide (q.1=y))=some q/\C.F[m]?=some (nm,[])/\X.mg nm=some (.ref q.2)
 hfn:∀ (f:Nat) (x:Str),C.hf.contains f=true->C.F[f]?=some (x,[])->∃ k fa fd ps,kZ X.prog X.w X.K X.mg X.base k fa fd ps (spF X.K cl f)/\f9 k X.A/\X.mg x=some (.ref fa)/\W.keepIn X.K (.ref fa)=true/\Binds X.K fd ps []
 cls:∀ c,C.Xr.contains c=true->∃ D,X.mg c=some (.ref D)/\Cls X.K c D/\W.excIn X.K D VE "ValueError.__new__" = true
 cli:∀ c,C.Xi.contains c=true->∃ D R fI fd,X.mg c=some (.ref D)/\Cls X.K c D/\dY X.K R D fI/\aY X.prog X.w X.K X.mg X.base CX0 1 fI fd ["self", "at"] (spI D)/\(C.calm=true->bq 2 X.A)/\Binds X.K fd ["self", "at"] []
 mko:∀ c f,C.Xo.contains (c,f)=true->C.calm=true->∃ k D fI fd,Mk X.K D fI/\aY X.prog X.w X.K X.mg X.base (CXE X.prog X.w) k fI fd ["self", "pegs"] (jZ X.K cl f D)/\bq (k+1) X.A/\X.mg c=some (.ref D)/\Binds X.K fd ["self", "pegs"] []
 ref:∀ c,C.Xs.contains c=true->∃ D,X.mg c=some (.ref D)/\W.nsIn X.K mainGlobals c=some (some (.ref D))
section
variable{C:CC}{X:Cx}{cl:RL.Cl}{e:Expr}
def XOk.vis(h:XOk C X cl){x:Str}(v:xC C x=true):Vis X.env.scope x:=by
 unfold xC at v;rw[<-h.scope,or_eq_true,or_eq_true,beq_iff_eq,beq_iff_eq,beq_iff_eq]at v;rcases v with(v | v) | v
 ·exact .inl v
 ·exact .inr (.inl v)
 ·exact .inr (.inr v)
def XOk.loc(h:XOk C X cl){x:Str}(v:xG C x=true):Loc X.env.scope x:=by
 unfold xG at v;rw[<-h.scope,or_eq_true,beq_iff_eq,beq_iff_eq]at v;exact v
def bA{x:Str}(h:ie x=true):(x == ("__debug__" : Str))=false/\(x == ("__classdict__" : Str))=false:=by
 unfold ie at h;rw[and_eq_true,not_eq_true',not_eq_true']at h;exact h
def XOk.gl(h:XOk C X cl){x:Str}(v:glB C x=true):Gl X x/\ie x=true:=by
 unfold glB at v;rw[<-h.scope,and_eq_true,beq_iff_eq]at v;exact v
def XOk.bl(h:XOk C X cl){x:Str}(v:km C x=true):Gl X x/\X.mg x=none:=by
 unfold km at v;rw[and_eq_true]at v;exact#[(h.gl v.1).1,h.blt x (by simpa using v.2)]
def XOk.nm(h:XOk C X cl){i:Nat}{x:Str}(v:nmB C i x=true):X.N[i]?=some x/\ie x=true:=by
 unfold nmB at v;rw[<-h.names,and_eq_true,beq_iff_eq]at v;exact v
def XOk.ndX(h:XOk C X cl):X.N.Nodup:=by rw[h.names];exact h.nd
def XOk.blk(h:XOk C X cl){scope:Scope}(cls:List (Str × Addr))(I:Addr)(fp:List Addr)(s:Shared)(H:Hp):XOk (C.inner scope) (L2.blk X scope cls I fp s H) cl where
 scope:=by
  show relabel scope X.env=BC scope C.sc;rw[<-h.scope];rfl
 names:=h.names
 nd:=h.nd
 calm:=h.calm
 xe:=rfl
 hu:=h.hu
 blt:=h.blt
 glb:=h.glb
 fns:=h.fns
 hfn:=h.hfn
 cls:=h.cls
 cli:=h.cli
 mko:=h.mko
 ref:=h.ref
 gds:=h.gds
abbrev gG:RL.D->Const->Bool
 | .int i,.int j=>i == j
 | .bl i,.bool j=>i == j
 | .non,.none=>true
 | .str x,.str y=>x == y
 | _,_=>false
abbrev plainT:Expr->Bool
 | .UnaryOp .Not _ _=>false
 | .BoolOp _ _ _=>false
 | .IfExp _ _ _ _=>false
 | .Compare _ _ _ _=>false
 | _=>true
abbrev oW:Expr->Bool
 | .BoolOp _ _ _=>true
 | _=>false
abbrev kR:Expr->Bool
 | .Set _ _ _=>false
 | _=>true
abbrev sx:RL.Bi->Option Str
 | .len=>some "len"
 | .list=>some "list"
 | .int=>some "int"
 | .abs=>some "abs"
 | .all=>some "all"
 | _=>none
abbrev nJ:RL.Ty->Str
 | .int => "int"
 | .bool => "bool"
 | .list => "list"
 | .tuple => "tuple"
 | .str => "str"
abbrev Ey(neg:Bool):CmpOp:=if neg then .IsNot else .Is
abbrev En(neg:Bool):CmpOp:=if neg then .NotIn else .In
abbrev j5(C:CC)(i:Nat)(e:Expr):Bool:=(cK e).any fun x=>nmB C i x&&xC C x
abbrev dU(C:CC)(i:Nat)(e:Expr):Bool:=(cK e).any fun x=>nmB C i x&&xG C x
abbrev jN(C:CC):List Nat->List Expr->Bool
 | [],es=>es.isEmpty
 | i::is,es=>match es with
  | e::es=>dU C i e&&jN C is es
  | []=>false
abbrev lU(C:CC)(tg:List Nat)(e:Expr):Bool :=
 match tg with
 | [i]=>dU C i e
 | tg=>(eT e).any fun es=>jN C tg es
abbrev k8(C:CC)(scope:Scope)(tg:List Nat):Bool:=tg.all fun i=>match C.N[i]? with
 | some x=>scope.names.lookup x == some .local || scope.names.lookup x == some .cell
 | none=>false
abbrev kY(C:CC)(scope:Scope)(tg:List Nat):Bool:=(List.range C.N.length).all fun i=>match C.N[i]? with
 | some x=>!(scope.names.lookup x == some .local || scope.names.lookup x == some .cell) || tg.contains i
 | none=>true
abbrev scB(scope sc:Scope):Bool:=scope.kind == .function&&scope.names.all (fun x=>(!(x.2 == .cell) || scope.names.lookup x.1 == some .cell)&&(!(x.2 == .local) || scope.names.lookup x.1 == some .local)&&(!(x.2 == .free) || sc.names.lookup x.1 == some .cell || sc.names.lookup x.1 == some .free))
abbrev cu(C:CC)(e:Expr)(nm:Str)(f:List Expr->Bool):Bool:=(fb e).any fun q=>(cK q.1).any (fun x=>x == nm&&km C x)&&q.2.2.1.isEmpty&&q.2.1.all noStar&&f q.2.1
def bS{nm:Str}{f:List Expr->Bool}(h:XOk C X cl)(z:cu C e nm f=true):∃ p O I,e=.Call (.Name nm p) O [] I/\Gl X nm/\X.mg nm=none/\O.all noStar=true/\f O=true:=by
 unfold cu at z;obtain⟨⟨g,O,ks,I⟩,Z,z⟩:=aj z;have b:=cO Z;subst b;obtain⟨z,U⟩:=ag z;obtain⟨z,Y⟩:=ag z;cbv;obtain⟨x,a,z1⟩:=aj z1;obtain⟨p,rfl⟩:=bK a;obtain⟨y1,y2⟩:=ag z1;rw[beq_iff_eq]at y1;subst y1;obtain⟨b1,b2⟩:=h.bl y2;rw[Jp]at z2;subst z2;exact#[p,O,I,rfl,b1,b2,Y,U]
def all1{a:Expr}(h:[a].all noStar=true):noStar a=true:=by simpa using h
def all2{a b:Expr}(h:[a,b].all noStar=true):noStar a=true/\noStar b=true:=by simpa using h
def lg{a b c:Expr}(h:[a,b,c].all noStar=true):noStar a=true/\noStar b=true/\noStar c=true:=by simpa using h
end
abbrev sQ:RL.It->Bool
 | .zip _ _=>true
 | _=>false
mutual
noncomputable def chk(C:CC)(t:Bool):RL.E->Expr->Bool
 | .var i=>fun e=>j5 C i e
 | .cst d=>fun e=>(lb e).any fun k=>gG d k
 | .glb y i=>fun e=>(cK e).any fun x=>x == y&&glB C x&&C.G.lookup x == some i
 | .bin o a b=>fun e=>(wg e).any fun q=>q.2.1 == pz o&&chk C false a q.1&&chk C false b q.2.2
 | .neg a=>fun e=>(vUn e).any fun q=>q.1 == .USub&&chk C false a q.2
 | .cmp c a b=>fun e=>(ll e).any fun q=>of1 q.2.1 fun I=>of1 q.2.2 fun r=>I == dM c&&chk C false a q.1&&chk C false b r
 | .chain c c' a b d=>fun e=>(ll e).any fun q=>of2 q.2.1 fun I U=>of2 q.2.2 fun r s=>I == dM c&&U == dM c'&&chk C false a q.1&&chk C false b r&&chk C false d s
 | .isN neg a=>fun e=>(ll e).any fun q=>of1 q.2.1 fun I=>of1 q.2.2 fun r=>I == Ey neg&&(lb r).any (fun k=>gG .non k)&&chk C false a q.1
 | .inn neg a b=>fun e=>(ll e).any fun q=>of1 q.2.1 fun I=>of1 q.2.2 fun r=>I == En neg&&rW r&&chk C false a q.1&&chk C false b r
 | .and a b=>fun e=>(vBool e).any fun q=>ofM q.2.1 fun l r rest=>q.1 == .And&&chk C t a l&&(if rest.isEmpty then chk C t b r else chk C t b (.BoolOp .And (r::rest) q.2.2))
 | .or a b=>fun e=>(vBool e).any fun q=>ofM q.2.1 fun l r rest=>q.1 == .Or&&chk C t a l&&(if rest.isEmpty then chk C t b r else chk C t b (.BoolOp .Or (r::rest) q.2.2))
 | .not a=>fun e=>(vUn e).any fun q=>q.1 == .Not&&chk C t a q.2
 | .tup es=>fun e=>(eT e).any fun xs=>gJ C es xs&&decide (ee es<=1000)
 | .lst es=>fun e=>(wq e).any fun xs=>gJ C es xs&&decide (ee es<=1000)
 | .ix a b=>fun e=>(ly e).any fun q=>lR q.2&&chk C false a q.1&&chk C false b q.2
 | .slT a b=>fun e=>(ly e).any fun q=>chk C false a q.1&&(vSl q.2).any fun s=>s.1.isNone&&s.2.2.isNone&&s.2.1.any fun r=>chk C false b r
 | .slF a b=>fun e=>(ly e).any fun q=>chk C false a q.1&&(vSl q.2).any fun s=>s.2.1.isNone&&s.2.2.isNone&&s.1.any fun r=>chk C false b r
 | .call f es=>fun e=>(C.calm || C.hf.contains f)&&(fb e).any fun q=>(cK q.1).any (fun x=>glB C x&&C.F[f]? == some (x,[]))&&q.2.2.1.isEmpty && !q.2.1.isEmpty&&gJ C es q.2.1
 | .bi b a=>fun e=>C.calm&&match b with
  | .lenSet=>false
  | b=>(sx b).any fun x=>cu C e x fun ys=>of1 ys fun y=>chk C false a y
 | .max a b=>fun e=>C.calm&&cu C e "max" fun ys=>of2 ys fun y z=>chk C false a y&&chk C false b z
 | .min a b=>fun e=>C.calm&&cu C e "min" fun ys=>of2 ys fun y z=>chk C false a y&&chk C false b z
 | .isi a ty=>fun e=>cu C e "isinstance" fun ys=>of2 ys fun y z=>(cK z).any (fun x=>x == nJ ty&&km C x)&&chk C false a y
 | .rng1 a=>fun e=>C.calm&&cu C e "list" fun ys=>of1 ys fun y=>cu C y "range" fun O=>of1 O fun z=>chk C false a z
 | .rng3 c a b=>fun e=>C.calm&&cu C e "list" fun ys=>of1 ys fun y=>cu C y "range" fun O=>of3 O fun z u q=>gW c q&&chk C false a z&&chk C false b u
 | .comp d tg it c=>fun e=>(sD e).any fun q=>of1 q.2.1 fun g=>of1 g.ifs fun w=>g.is_async == 0&&scB q.2.2.1 C.sc&&kY C q.2.2.1 tg&&kR g.iter&&lU (C.inner q.2.2.1) tg g.target&&k8 C q.2.2.1 tg&&qa C it g.target g.iter&&chk (C.inner q.2.2.1) false d q.1&&chk (C.inner q.2.2.1) true c w&&(C.calm || sQ it)
 | .compA d tg it=>fun e=>(sD e).any fun q=>of1 q.2.1 fun g=>g.ifs.isEmpty&&g.is_async == 0&&scB q.2.2.1 C.sc&&kY C q.2.2.1 tg&&kR g.iter&&lU (C.inner q.2.2.1) tg g.target&&k8 C q.2.2.1 tg&&qa C it g.target g.iter&&chk (C.inner q.2.2.1) false d q.1&&C.calm
 | .frz a=>fun e=>((wq e).isSome || (wg e).isSome || (fb e).isSome)&&chk C false a e
 | .inG g ks a=>fun e=>(ll e).any fun q=>of1 q.2.1 fun I=>of1 q.2.2 fun r=>I == .In&&(cK r).any (fun x=>x == g&&glB C x&&(C.W.lookup x).any fun tbl=>tbl.map (·.1) == ks)&&chk C false a q.1
 | .join a=>fun e=>(fb e).any fun q=>(kv q.1).any (fun u=>u.2.1 == ("join" : Str)&&u.2.2.endLine == q.2.2.2.line&&(lb u.1).any fun k=>gG (.str ⟨(List.toArray [])⟩) k)&&q.2.2.1.isEmpty&&of1 q.2.1 fun y=>noStar y&&chk C false a y
 | .isx a c=>fun e=>cu C e "isinstance" fun ys=>of2 ys fun y z=>(cK z).any (fun x=>x == c&&(if c == ("ValueError" : Str)then km C x else glB C x&&C.Xs.contains x&&cP.contains x))&&chk C false a y
 | .fld a=>fun e=>(kv e).any fun u=>u.2.1 == ("at" : Str)&&(cK u.1).isSome&&chk C false a u.1
noncomputable def gJ(C:CC):RL.Es->List Expr->Bool
 | .nil=>fun xs=>xs.isEmpty
 | .cons e es=>fun xs=>match xs with
  | x::xs=>noStar x&&chk C false e x&&gJ C es xs
  | []=>false
noncomputable def qa(C:CC):RL.It->Expr->Expr->Bool
 | .seq a=>fun _ e=>chk C false a e
 | .rng1 a=>fun _ e=>cu C e "range" fun ys=>of1 ys fun y=>chk C false a y
 | .rng3 c a b=>fun _ e=>cu C e "range" fun ys=>of3 ys fun y z q=>gW c q&&chk C false a y&&chk C false b z
 | .enm a=>fun tg e=>(eT tg).isSome&&cu C e "enumerate" fun ys=>of1 ys fun y=>chk C false a y
 | .zip a b=>fun tg e=>(eT tg).isSome&&cu C e "zip" fun ys=>of2 ys fun y z=>chk C false a y&&chk C false b z
end
abbrev pk(X:Cx)(cl:RL.Cl)(e:Expr)(e':RL.E)(b I:Bool):Prop:=(b=true->SE X cl e e')/\(I=true->ST X cl e e'/\(oW e=true->SW X cl e e'))
section
variable{C:CC}{X:Cx}{cl:RL.Cl}{e:Expr}{e':RL.E}{b:Bool}
def sy{env:Env}(h:plainT e=true)(whole:Sem Value):isTrue e env whole=(do let v <- whole;standAt e.pos;holding [v] (truthy v)):=by
 cases e<;>first
  | rfl
  | (cases h;done)
  | (rename_i I _ _;cases I<;>first | rfl | (cases h;done))
def aQ(h:b=true->SE X cl e e'/\plainT e=true):pk X cl e e' b b :=
 ⟨fun z=>(h z).1,fun z=>⟨xr (h z).1 (sy (h z).2),fun q=>by
  have:=(h z).2
  cases e<;>first | (cases q;done) | (cases this;done)⟩⟩
def gx(h:b=true->SE X cl e e'/\ST X cl e e'/\oW e=false):pk X cl e e' b b :=
 ⟨fun z=>(h z).1,fun z=>⟨(h z).2.1,fun q=>by rw[(h z).2.2]at q;cases q⟩⟩
def DU(h:b=false){I:Bool}(h':I=false):pk X cl e e' b I:=⟨fun z=>(by rw[h]at z;cases z),fun z=>(by rw[h']at z;cases z)⟩
def Cq{d:RL.D}{k:Const}{j:Nat}{I:Pos}(h:gG d k=true):SE X cl (.Constant k j I) (.cst d):=by
 cases d<;>cases k<;>simp only[gG]at h<;>first | (cases h;done) | skip
 case non.none=>exact kH oV (fun P H=>by rw[Rep]) rfl
 case bl.bool i j=>rw[beq_iff_eq]at h;subst h;exact kH D9 (fun P H=>oH) rfl
 case int.int i j=>rw[beq_iff_eq]at h;subst h;exact kH oP (fun P H=>bb) rfl
 case str.str i j=>rw[beq_iff_eq]at h;subst h;exact kH oa (fun P H=>gh) rfl
def Ap{k:Const}(h:gG .non k=true):k=.none:=by
 cases k<;>simp only[gG]at h<;>first | (cases h;done) | rfl
def vh(t:RL.Ty):bootBuiltins (nJ t)=some (.type (tyN t))/\nJ t ≠ "__name__" /\ (nJ t == ("__debug__" : Str))=false:=by
 cases t<;>exact#[by decide +kernel,by decide +kernel,by decide +kernel]
def dD(h:kR e=true)(env:Env)(x:Value):foldedSetIterable e env x=pure x:=by
 cases e<;>first | rfl | (cases h;done)
def Dq(U:X.calm=true){o:RL.Bi}{x:Str}{p Y:Pos}{y:Expr}{Z:RL.E}(O:sx o=some x)(hb:Gl X x)(I:X.mg x=none)(ha:SE X cl y Z)(hn:noStar y=true):SE X cl (.Call (.Name x p) [y] [] Y) (.bi o Z):=by
 cases o<;>simp only[sx]at O<;>first | (cases O;done) | skip
 case len=>cases O;exact Be hb I ha hn
 case list=>cases O;exact zh hb I ha hn
 case int=>cases O;exact A9 hb I ha hn
 case abs=>cases O;exact B0 hb I ha hn
 case all=>cases O;exact Ba U hb I ha hn
def vy{r:Expr}(h:lR r=true):sJ r:=by
 cases r<;>first | (cases h;done) | (intro a b;rfl) | skip
def gc{i:Nat}(h:XOk C X cl)(z:j5 C i e=true):∃ x p,e=.Name x p/\X.N[i]?=some x/\Vis X.env.scope x/\(x == ("__debug__" : Str))=false/\(x == ("__classdict__" : Str))=false:=by
 obtain⟨x,I,z⟩:=aj z;obtain⟨p,rfl⟩:=bK I;cbv;obtain⟨g1,g2⟩:=h.nm z1;exact#[x,p,rfl,g1,h.vis z2,(bA g2).1,(bA g2).2]
def cY{i:Nat}(h:XOk C X cl)(z:dU C i e=true):∃ x p,e=.Name x p/\X.N[i]?=some x/\Loc X.env.scope x:=by
 obtain⟨x,I,z⟩:=aj z;obtain⟨p,rfl⟩:=bK I;cbv;exact#[x,p,rfl,(h.nm z1).1,h.loc z2]
def jE(h:XOk C X cl){T:List Nat}(hf:∀ i x,i∈T->X.N[i]?=some x->X.fn x=true\/X.env.scope.names.lookup x=some .local):∀ {is:List Nat} {es:List Expr},(∀ i∈is,i∈T)->jN C is es=true->PGs X es (gs is)/\(assignEach es X.env).length=is.length/\(assignEach es X.env).findIdx? (·.1)=none
 | [],es,_,z=>by
  rw[jN,Jp]at z;subst z;exact#[yN,rfl,rfl]
 | i::is,[],_,z=>by cases z
 | i::is,e::es,hs,z=>by
  rw[jN]at z;cbv;obtain⟨x,p,rfl,g1,g2⟩:=cY h z1;obtain⟨Y,U,O⟩:=jE h hf (fun j I=>hs j (Jm _ I)) z2;refine#[xu (j7 h.ndX g1 g2 (hf i x (hs i JA) g1)) Y rfl,?_,?_]
  ·show(assignEach es X.env).length+1=is.length+1;rw[U]
  ·show List.findIdx? (·.1) ((false,assign (.Name x p) X.env)::assignEach es X.env)=none;rw[List.findIdx?_cons];simp only[false_eq_true,if_false,O,Option.map_none]
def nG{tg:List Nat}{tgE:Expr}(h:XOk C X cl)(hf:∀ i x,i∈tg->X.N[i]?=some x->X.fn x=true\/X.env.scope.names.lookup x=some .local)(I:lU C tg tgE=true):PG X tgE (gT X.K tg):=by
 unfold lU at I;split at I
 ·obtain⟨x,p,rfl,g1,g2⟩:=cY h I;exact j7 h.ndX g1 g2 (hf _ x (by simp) g1)
 ·rename_i O;obtain⟨es,a,z⟩:=aj I;obtain⟨k,p,rfl⟩:=bX a;obtain⟨Z,Y,U⟩:=jE h hf (fun i hi=>hi) z
  have e:gT X.K tg=fun v J H Q=>l9 X.K tg.length (gs tg) v J H Q\/lH X.K tg.length (gs tg) v J H Q:=by
   unfold gT;split
   ·rename_i i;exact absurd rfl (O i)
   ·rfl
  rw[e];exact qb (lI Z Y U) (lK Z Y U)
section rulesH
variable{pos:Pos}
def xA(F:kZ X.prog X.w X.K X.mg X.base k fa fd ps (spF X.K cl f))(g:f9 k X.A)(j:Gl X x)
 (hm:X.mg x=some (.ref fa))(hk:W.keepIn X.K (.ref fa)=true)(hb:Binds X.K fd ps [])(l:SEs X cl (e::es) (.cons e' es'))(b:(x == ("__debug__" : Str))=false)(hn:noStar e=true)(Z:es.all noStar=true) :
  SE X cl (.Call (.Name x p) (e::es) [] pos) (.call f (.cons e' es')):=by
 refine PE.weak (wW F g j hm hk hb l b (aA es hn) (cA Z)) fun J H Q h=>?_;obtain⟨Y,d,c,ev,q⟩:=h;obtain⟨ds,U,O⟩:=bind_some ev;refine#[Y,ds,c,U,fun vs r s1 r1=>?_];refine#[ds,d,r1,O,fun v H2 s2 I=>q v H2 #[s1.trans s2,I.none,fun _ m a z=>?_,fun M _ P n _=>?_]]
 ·subst z
  have i:r a=none:=by
   cases d with
   | lst ds=>obtain⟨p,xs,U,O,_⟩:=bc I;cases U;exact Classical.byContradiction O
   | dK ks ds=>rw[Rep]at I;obtain⟨p,xs,U,O,_⟩:=I;cases U;exact Classical.byContradiction O
   | dT ks ds=>rw[Rep]at I;obtain⟨p,xs,U,O,_⟩:=I;cases U;exact Classical.byContradiction O
   | _=>cases m
  exact s1.free i
 ·refine I.weak fun a z=>?_;obtain⟨o,ho⟩:=Option.ne_none_iff_exists'.mp (n a z);rw[s1 _ _ ho]
  exact fun q=>nomatch q
end rulesH
def AY{x:Str}{i:Int}{I:Pos}(h:XOk C X cl)(U:glB C x=true)(O:C.G.lookup x=some i):SE X cl (.Name x I) (.glb x i):=by
 obtain⟨u,Z,Y⟩:=h.glb x i O;obtain⟨g1,g2⟩:=h.gl U;exact AR (u:=u) (r9 g1 Z Y (bA g2).1)
def zr{x:Str}{f:Nat}(O:(C.calm || C.hf.contains f)=true){p U:Pos}{y:Expr}{ys:List Expr}{es:RL.Es}(h:XOk C X cl)(e:glB C x=true)(hf:C.F[f]?=some (x,[]))(b:SEs X cl (y::ys) es)(a:ee es=ys.length+1)(hn:noStar y=true)(I:ys.all noStar=true) :
  SE X cl (.Call (.Name x p) (y::ys) [] U) (.call f es):=by
 obtain⟨g1,g2⟩:=h.gl e;by_cases c:C.calm=true
 ·obtain⟨k,fa,fd,ps,F,Y,hm,hk,hb⟩:=h.fns f x [] c hf;rw[if_pos rfl]at F
  cases es with
  | nil=>simp[ee]at a
  | cons e' Z=>exact Ac F Y g1 hm hk hb b (bA g2).1 hn I
 ·have d:C.hf.contains f=true:=by simpa[c]using O
  obtain⟨k,fa,fd,ps,F,Y,hm,hk,hb⟩:=h.hfn f x d hf
  cases es with
  | nil=>simp[ee]at a
  | cons e' Z=>exact xA F Y g1 hm hk hb b (bA g2).1 hn I
def kG{scope sc:Scope}(h:scB scope sc=true):lx scope sc:=by
 unfold scB at h;obtain⟨U,O⟩:=ag h;rw[Jz]at O;refine#[by simpa using U,fun x I z=>?_,fun x I z=>?_,fun x I z=>?_]
 ·have:=O x I;rw[z]at this;simpa using this
 ·have:=O x I;rw[z]at this;simpa using this
 ·have:=O x I;rw[z]at this;simpa using this
def je{scope:Scope}{tg:List Nat}(h:kY C scope tg=true)(i:Nat)(x:Str)(O:C.N[i]?=some x)(I:scope.names.lookup x=some .local\/scope.names.lookup x=some .cell):tg.contains i=true:=by
 unfold kY at h;rw[Jz]at h;have:=h i (List.mem_range.mpr (List.getElem?_eq_some_iff.mp O).1);rw[O]at this;rcases I with I | I
 ·simp only[I,beq_self_eq_true,Bool.true_or,Bool.not_true,Bool.false_or]at this;exact this
 ·simp only[I,beq_self_eq_true,Bool.or_true,Bool.not_true,Bool.false_or]at this;exact this
def mm{X:Cx}{cls:List (Str × Addr)}{scope:Scope}{O:Addr}{fp:List Addr}{s:Shared}{H:Hp}{pins:List (Addr × Obj)}{s':Shared}{J:L2.St}{H':Hp}{Q:Bool->Hp->Prop}(I:Inv (L2.blk X scope cls O fp s H) pins J H' s')(q:la J H' Q) :
  wpAny (model X.prog X.w) X.A (gu [] (compEnvC scope cls O X.env)) (TP (L2.blk X scope cls O fp s H) pins J Q) (fun _ _=>False) s':=by
 unfold gu;exact Jc ⟨H',I,q⟩
def mf{X:Cx}{cls:List (Str × Addr)}{scope:Scope}{O:Addr}{fp:List Addr}{s:Shared}{H:Hp}{pins:List (Addr × Obj)}{s':Shared}{J:L2.St}{H':Hp}{Q:Bool->Hp->Prop}{c:Expr}{t:TT}(U:PT (L2.blk X scope cls O fp s H) c t)(I:Inv (L2.blk X scope cls O fp s H) pins J H' s')(q:t J H' Q) :
  wpAny (model X.prog X.w) X.A (gu [c] (compEnvC scope cls O X.env)) (TP (L2.blk X scope cls O fp s H) pins J Q) (fun _ _=>False) s':=by
 have h:=U pins s' J H' Q I q;unfold gu;simp only[List.forIn_cons,List.forIn_nil,if_true];refine Ja (Ja (thn h fun b s1 hb=>Jc ?_));exact Jc hb
def kN(h:XOk C X cl){scope:Scope}{cls:List (Str × Addr)}{O:Addr}{fp:List Addr}{s:Shared}{H:Hp}{tg:List Nat}(ha:k8 C scope tg=true){tgE:Expr}(U:lU (C.inner scope) tg tgE=true):PG (L2.blk X scope cls O fp s H) tgE (gT X.K tg):=by
 have hb:=h.blk (scope:=scope) cls O fp s H;unfold k8 at ha;rw[Jz]at ha;refine nG hb (fun i x hi I=>?_) U;have:=ha i hi;have I:X.N[i]?=some x:=I;rw[h.names]at I;rw[I]at this;simp only[or_eq_true,beq_iff_eq]at this;rcases this with z | z
 ·exact .inr (lookup_relabel_local z)
 ·exact .inl (by show(scope.names.lookup x == some .cell)=true;rw[z];rfl)
def fv{α:Type}{o:Option α}(h:o.isNone=true):o=none:=by
 cases o with
 | none=>rfl
 | some _=>cases h
end
mutual
theorem au{cl:RL.Cl}:∀ (e':RL.E) {C:CC} {X:Cx} (h:XOk C X cl) (e:Expr),pk X cl e e' (chk C false e' e) (chk C true e' e)
 | .var i,C,X,h,e=>aQ (b:=chk C false (.var i) e) fun z=>by
  obtain⟨x,p,rfl,g1,g2,g3,g4⟩:=gc h z;exact#[Cj g1 g2 g3 g4,rfl]
 | .cst d,C,X,h,e=>aQ (b:=chk C false (.cst d) e) fun z=>by
  obtain⟨k,U,z⟩:=aj z;obtain⟨j,p,rfl⟩:=ic U;exact#[Cq z,rfl]
 | .glb y i,C,X,h,e=>aQ (b:=chk C false (.glb y i) e) fun z=>by
  obtain⟨x,U,z⟩:=aj z;obtain⟨p,rfl⟩:=bK U;k_go;cbv;rw[beq_iff_eq]at z1 O;subst z1;exact#[AY h z2 O,rfl]
 | .bin o a b,C,X,h,e=>aQ (b:=chk C false (.bin o a b) e) fun z=>by
  obtain⟨⟨l,Z,r⟩,U,z⟩:=aj z;obtain⟨p,rfl⟩:=zA U;k_go;cbv;rw[beq_iff_eq]at z1;have z1:Z=pz o:=z1;subst z1;exact#[Br ((au a h l).1 z2) ((au b h r).1 O),rfl]
 | .neg a,C,X,h,e=>aQ (b:=chk C false (.neg a) e) fun z=>by
  obtain⟨⟨Z,x⟩,U,z⟩:=aj z;obtain⟨p,rfl⟩:=oC U;cbv;rw[beq_iff_eq]at z1;have z1:Z=.USub:=z1;subst z1;exact#[C0 ((au a h x).1 z2),rfl]
 | .cmp c a b,C,X,h,e=>gx (b:=chk C false (.cmp c a b) e) fun z=>by
  obtain⟨⟨l,os,T⟩,U,z⟩:=aj z;obtain⟨p,rfl⟩:=iA U;obtain⟨Z,y1,z⟩:=aM z;obtain⟨r,y2,z⟩:=aM z;have y1:os=[Z]:=y1;have y2:T=[r]:=y2;subst y1 y2;k_go;cbv;rw[beq_iff_eq]at z1;subst z1;exact#[Bn h.hu ((au a h l).1 z2) ((au b h r).1 O),C1 h.hu ((au a h l).1 z2) ((au b h r).1 O),rfl]
 | .chain c c' a b d,C,X,h,e=>gx (b:=chk C false (.chain c c' a b d) e) fun z=>by
  obtain⟨⟨l,os,T⟩,U,z⟩:=aj z;obtain⟨p,rfl⟩:=iA U;obtain⟨Z,op',y1,z⟩:=cj z;obtain⟨r,s,y2,z⟩:=cj z;have y1:os=[Z,op']:=y1;have y2:T=[r,s]:=y2;subst y1 y2;obtain⟨z,v⟩:=ag z;obtain⟨z,Y⟩:=ag z;k_go;cbv;rw[beq_iff_eq]at z1 z2;subst z1 z2;exact#[wc h.hu ((au a h l).1 O) ((au b h r).1 Y) ((au d h s).1 v),wH h.hu ((au a h l).1 O) ((au b h r).1 Y) ((au d h s).1 v),rfl]
 | .isN neg a,C,X,h,e=>gx (b:=chk C false (.isN neg a) e) fun z=>by
  obtain⟨⟨l,os,T⟩,U,z⟩:=aj z;obtain⟨p,rfl⟩:=iA U;obtain⟨Z,y1,z⟩:=aM z;obtain⟨r,y2,z⟩:=aM z;have y1:os=[Z]:=y1;have y2:T=[r]:=y2;subst y1 y2;k_go;cbv;rw[beq_iff_eq]at z1;subst z1;obtain⟨k,G,w⟩:=aj z2;obtain⟨j,q,rfl⟩:=ic G;have w:=Ap w;subst w;exact#[AZ ((au a h l).1 O),CP ((au a h l).1 O),rfl]
 | .inn neg a b,C,X,h,e=>gx (b:=chk C false (.inn neg a b) e) fun z=>by
  obtain⟨⟨l,os,T⟩,U,z⟩:=aj z;obtain⟨p,rfl⟩:=iA U;obtain⟨Z,y1,z⟩:=aM z;obtain⟨r,y2,z⟩:=aM z;have y1:os=[Z]:=y1;have y2:T=[r]:=y2;subst y1 y2;obtain⟨z,Y⟩:=ag z;k_go;cbv;rw[beq_iff_eq]at z1;subst z1;exact#[Cf ((au a h l).1 O) ((au b h r).1 Y) z2,AH ((au a h l).1 O) ((au b h r).1 Y) z2,rfl]
 | .inG g ks a,C,X,h,e=>gx (b:=chk C false (.inG g ks a) e) fun z=>by
  obtain⟨⟨l,os,T⟩,U,z⟩:=aj z;obtain⟨p,rfl⟩:=iA U;obtain⟨Z,y1,z⟩:=aM z;obtain⟨r,y2,z⟩:=aM z;have y1:os=[Z]:=y1;have y2:T=[r]:=y2;subst y1 y2;k_go;cbv;rw[beq_iff_eq]at z1;obtain⟨x,G,w⟩:=aj z2;obtain⟨q,rfl⟩:=bK G;obtain⟨w,w3⟩:=ag w;obtain⟨V,m⟩:=ag w;obtain⟨tbl,w4,w5⟩:=aj w3;rw[beq_iff_eq]at V w5;subst z1 V;obtain⟨d,kvs,d1,d2,d3,_⟩:=h.gds x tbl w4;obtain⟨g1,g2⟩:=h.gl m;rw[<-w5];exact#[AI ((au a h l).1 O) g1 d1 (bA g2).1 d2 d3,CS ((au a h l).1 O) g1 d1 (bA g2).1 d2 d3,rfl]
 | .and a b,C,X,h,e=>⟨(fun z=>by
   obtain⟨⟨Z,es,p⟩,U,z⟩:=aj z;obtain⟨l,r,rest,y1,z⟩:=ku z;have n:=iI U;have y1:es=l::r::rest:=y1;k_go;cbv;rw[beq_iff_eq]at z1;have z1:Z=.And:=z1;subst y1 z1 n;refine B3 ((au a h l).1 z2) ?_;split at O
   ·rename_i M;rw[Jp]at M;subst M;exact v7 ((au b h r).1 O)
   ·exact(au b h _).1 O),(fun z=>by
   obtain⟨⟨Z,es,p⟩,U,z⟩:=aj z;obtain⟨l,r,rest,y1,z⟩:=ku z;have n:=iI U;have y1:es=l::r::rest:=y1;k_go;cbv;rw[beq_iff_eq]at z1;have z1:Z=.And:=z1;subst y1 z1 n
   have w:SW X cl (.BoolOp .And (l::r::rest) p) (.and a b):=by
    refine Bh ((au a h l).2 z2).1 ?_;split at O
    ·rename_i M;rw[Jp]at M;subst M;exact uw ((au b h r).2 O).1
    ·exact((au b h _).2 O).2 rfl
   exact#[w.pt,fun _=>w])⟩
 | .or a b,C,X,h,e=>⟨(fun z=>by
   obtain⟨⟨Z,es,p⟩,U,z⟩:=aj z;obtain⟨l,r,rest,y1,z⟩:=ku z;have n:=iI U;have y1:es=l::r::rest:=y1;k_go;cbv;rw[beq_iff_eq]at z1;have z1:Z=.Or:=z1;subst y1 z1 n;refine DR ((au a h l).1 z2) ?_;split at O
   ·rename_i M;rw[Jp]at M;subst M;exact v7 ((au b h r).1 O)
   ·exact(au b h _).1 O),(fun z=>by
   obtain⟨⟨Z,es,p⟩,U,z⟩:=aj z;obtain⟨l,r,rest,y1,z⟩:=ku z;have n:=iI U;have y1:es=l::r::rest:=y1;k_go;cbv;rw[beq_iff_eq]at z1;have z1:Z=.Or:=z1;subst y1 z1 n
   have w:SW X cl (.BoolOp .Or (l::r::rest) p) (.or a b):=by
    refine DT ((au a h l).2 z2).1 ?_;split at O
    ·rename_i M;rw[Jp]at M;subst M;exact uw ((au b h r).2 O).1
    ·exact((au b h _).2 O).2 rfl
   exact#[w.pt,fun _=>w])⟩
 | .not a,C,X,h,e=>⟨(fun z=>by
   obtain⟨⟨Z,x⟩,U,z⟩:=aj z;obtain⟨p,rfl⟩:=oC U;cbv;rw[beq_iff_eq]at z1;have z1:Z=.Not:=z1;subst z1
   exact By ((au a h x).1 z2)),(fun z=>by
   obtain⟨⟨Z,x⟩,U,z⟩:=aj z;obtain⟨p,rfl⟩:=oC U;cbv;rw[beq_iff_eq]at z1;have z1:Z=.Not:=z1;subst z1
   exact⟨CJ ((au a h x).2 z2).1,fun q=>by cases q⟩)⟩
 | .tup es,C,X,h,e=>aQ (b:=chk C false (.tup es) e) fun z=>by
  obtain⟨xs,U,z⟩:=aj z;obtain⟨k,p,rfl⟩:=bX U;cbv;exact#[Cp (dC es h _ z1).1 (by simpa using z2),rfl]
 | .lst es,C,X,h,e=>aQ (b:=chk C false (.lst es) e) fun z=>by
  obtain⟨xs,U,z⟩:=aj z;obtain⟨p,rfl⟩:=yI U;cbv;exact#[AB (dC es h _ z1).1 (by simpa using z2),rfl]
 | .ix a b,C,X,h,e=>aQ (b:=chk C false (.ix a b) e) fun z=>by
  obtain⟨⟨l,r⟩,U,z⟩:=aj z;obtain⟨p,rfl⟩:=fY U;k_go;cbv;exact#[Dt ((au a h l).1 z2) ((au b h r).1 O) z1,rfl]
 | .slT a b,C,X,h,e=>aQ (b:=chk C false (.slT a b) e) fun z=>by
  obtain⟨⟨l,s⟩,U,z⟩:=aj z;obtain⟨p,rfl⟩:=fY U;obtain⟨z1,z⟩:=ag z;obtain⟨⟨s1,s2,s3⟩,U,z⟩:=aj z;obtain⟨q,n⟩:=vH U;have n:s=.Slice s1 s2 s3 q:=n;obtain⟨z,Y⟩:=ag z;obtain⟨z2,O⟩:=ag z;have m:s1=none:=fv z2;have w3:s3=none:=fv O;obtain⟨r,S,Y⟩:=aj Y;have y1:s2=some r:=S;rw[m,w3,y1]at n;subst n;exact#[BR ((au a h l).1 z1) ((au b h r).1 Y),rfl]
 | .slF a b,C,X,h,e=>aQ (b:=chk C false (.slF a b) e) fun z=>by
  obtain⟨⟨l,s⟩,U,z⟩:=aj z;obtain⟨p,rfl⟩:=fY U;obtain⟨z1,z⟩:=ag z;obtain⟨⟨s1,s2,s3⟩,U,z⟩:=aj z;obtain⟨q,n⟩:=vH U;have n:s=.Slice s1 s2 s3 q:=n;obtain⟨z,Y⟩:=ag z;obtain⟨z2,O⟩:=ag z;have m:s2=none:=fv z2;have w3:s3=none:=fv O;obtain⟨r,S,Y⟩:=aj Y;have y1:s1=some r:=S;rw[m,w3,y1]at n;subst n;exact#[Bx ((au a h l).1 z1) ((au b h r).1 Y),rfl]
 | .call f es,C,X,h,e=>aQ (b:=chk C false (.call f es) e) fun z=>by
  obtain⟨A,z⟩:=ag z;obtain⟨⟨g,P,ks,p⟩,U,z⟩:=aj z;have U:=cO U;subst U;obtain⟨z,Y⟩:=ag z;k_go;cbv;obtain⟨x,S,z1⟩:=aj z1;obtain⟨q,n⟩:=bK S;have n:g=.Name x q:=n;obtain⟨y1,y2⟩:=ag z1;rw[beq_iff_eq]at y2
  have m:ks=[]:=by rw[Jp]at z2;exact z2
  subst n m;obtain⟨q1,q2,q3⟩:=dC es h _ Y;dsimp only at O q1 q2 q3
  cases P with
  | nil=>cases O
  |cons y ys=>
   rw[Jx]at q3;exact#[zr A h y1 y2 q1 q2 (ag q3).1 (ag q3).2,rfl]
 | .bi o a,C,X,h,e=>by
  have gen:(∀ t,chk C t (.bi o a) e=(C.calm&&(sx o).any fun x=>cu C e x fun ys=>of1 ys fun y=>chk C false a y))->pk X cl e (.bi o a) (chk C false (.bi o a) e) (chk C true (.bi o a) e):=fun heq=>by
   rw[heq,heq];refine aQ fun z=>?_;obtain⟨A,z⟩:=ag z;obtain⟨x,S,z⟩:=aj z;obtain⟨p,P,Qa,rfl,b1,b2,O,Y⟩:=bS h z;obtain⟨y,rfl,Y⟩:=aM Y;exact#[Dq (h.calm A) S b1 b2 ((au a h y).1 Y) (all1 O),rfl]
  cases o
  case lenSet=>exact DU (Bool.and_false _) (Bool.and_false _)
  all_goals exact gen fun t=>rfl
 | .max a b,C,X,h,e=>aQ (b:=chk C false (.max a b) e) fun z=>by
  obtain⟨A,z⟩:=ag z;obtain⟨p,P,Qa,rfl,b1,b2,O,Y⟩:=bS h z;obtain⟨y,u,rfl,Y⟩:=cj Y;exact#[AK (h.calm A) b1 b2 ((au a h y).1 (ag Y).1) ((au b h u).1 (ag Y).2) (all2 O).1 (all2 O).2,rfl]
 | .min a b,C,X,h,e=>aQ (b:=chk C false (.min a b) e) fun z=>by
  obtain⟨A,z⟩:=ag z;obtain⟨p,P,Qa,rfl,b1,b2,O,Y⟩:=bS h z;obtain⟨y,u,rfl,Y⟩:=cj Y;exact#[BE (h.calm A) b1 b2 ((au a h y).1 (ag Y).1) ((au b h u).1 (ag Y).2) (all2 O).1 (all2 O).2,rfl]
 | .isi a ty,C,X,h,e=>aQ (b:=chk C false (.isi a ty) e) fun z=>by
  have z:(cu C e "isinstance" fun ys=>of2 ys fun y z=>(cK z).any (fun x=>x == nJ ty&&km C x)&&chk C false a y)=true:=z;obtain⟨p,P,Qa,rfl,b1,b2,O,Y⟩:=bS h z;obtain⟨y,u,rfl,Y⟩:=cj Y;obtain⟨v,F⟩:=ag Y;obtain⟨x,G,w⟩:=aj v;obtain⟨q,rfl⟩:=bK G;obtain⟨V,m⟩:=ag w;rw[beq_iff_eq]at V;subst V;obtain⟨t1,t2,t3⟩:=vh ty;exact#[B7 b1 b2 (h.bl m).1 (h.bl m).2 t1 t2 t3 ((au a h y).1 F) (all2 O).1,rfl]
 | .rng1 a,C,X,h,e=>aQ (b:=chk C false (.rng1 a) e) fun z=>by
  obtain⟨A,z⟩:=ag z;obtain⟨p,P,Qa,rfl,b1,b2,O,Y⟩:=bS h z;obtain⟨y,rfl,v⟩:=aM Y;obtain⟨p',as',pos',rfl,b1',b2',R,F⟩:=bS h v;obtain⟨y,rfl,L⟩:=aM F;exact#[zV (h.calm A) b1 b2 b1' b2' ((au a h y).1 L) (all1 R),rfl]
 | .rng3 c a b,C,X,h,e=>aQ (b:=chk C false (.rng3 c a b) e) fun z=>by
  obtain⟨A,z⟩:=ag z;obtain⟨p,P,Qa,rfl,b1,b2,O,Y⟩:=bS h z;obtain⟨y,rfl,v⟩:=aM Y;obtain⟨p',as',pos',rfl,b1',b2',R,F⟩:=bS h v;obtain⟨y,u,q,rfl,L⟩:=uK F;obtain⟨L,z9⟩:=ag L;obtain⟨L,z8⟩:=ag L;exact#[yY (h.calm A) b1 b2 b1' b2' ((au a h y).1 z8) ((au b h u).1 z9) (lg R).1 (lg R).2.1 L,rfl]
 | .comp d tg it c,C,X,h,e=>aQ (b:=chk C false (.comp d tg it c) e) fun z=>by
  obtain⟨⟨elt,gens,scope,p⟩,U,z⟩:=aj z;have U:=nI U;subst U;obtain⟨⟨tgE,iter,ifs,N⟩,y1,z⟩:=aM z;have y1:gens=[⟨tgE,iter,ifs,N⟩]:=y1;obtain⟨w,y2,z⟩:=aM z;have y2:ifs=[w]:=y2;obtain⟨z,A⟩:=ag z;obtain⟨z,z8⟩:=ag z;obtain⟨z,L⟩:=ag z;obtain⟨z,F⟩:=ag z;obtain⟨z,v⟩:=ag z;obtain⟨z,Y⟩:=ag z;k_go;obtain⟨z,z2⟩:=ag z;obtain⟨U,z1⟩:=ag z;rw[beq_iff_eq]at U;have G:N=0:=U;subst y1 G;subst y2
  have B:iB X cl scope tgE tg elt d (tT X.K cl c) [w]:=#[fun cls Ca fp s H=>kN h v Y,fun cls Ca fp s H pins s' J H' Q I q=>mf ((au c (h.blk cls Ca fp s H) _).2 z8).1 I q,fun cls Ca fp s H=>(au d (h.blk cls Ca fp s H) _).1 L,fun i x hx hl=>je z2 i x (by rw[<-h.names];exact hx) hl]
  by_cases hc:C.calm=true
  ·exact#[oq (fun _ _ _ _=>h.calm hc) (by rw[h.scope];exact kG z1) (gj it h _ _ F) B (dD O _),rfl]
  ·have hz:sQ it=true:=by simpa[hc]using A
   exact#[oq (CM:=fun _=>True) (fun _ _ _ _=>trivial) (by rw[h.scope];exact kG z1) (Au it h _ _ F hz) B (dD O _),rfl]
 | .compA d tg it,C,X,h,e=>aQ (b:=chk C false (.compA d tg it) e) fun z=>by
  obtain⟨⟨elt,gens,scope,p⟩,U,z⟩:=aj z;have U:=nI U;subst U;obtain⟨⟨tgE,iter,ifs,N⟩,y1,z⟩:=aM z;have y1:gens=[⟨tgE,iter,ifs,N⟩]:=y1;obtain⟨z,A⟩:=ag z;obtain⟨z,L⟩:=ag z;obtain⟨z,F⟩:=ag z;obtain⟨z,v⟩:=ag z;obtain⟨z,Y⟩:=ag z;k_go;obtain⟨z,z2⟩:=ag z;obtain⟨z,z1⟩:=ag z;obtain⟨y2,U⟩:=ag z;rw[beq_iff_eq]at U;have G:N=0:=U
  have m:ifs=[]:=by rw[Jp]at y2;exact y2
  subst y1 G;subst m;refine#[wk (h.calm A) (by rw[h.scope];exact kG z1) (gj it h _ _ F) ?_ (dD O _),rfl];exact#[fun cls Ca fp s H=>kN h v Y,fun cls Ca fp s H pins s' J H' Q I q=>mm I q,fun cls Ca fp s H=>(au d (h.blk cls Ca fp s H) _).1 L,fun i x hx hl=>je z2 i x (by rw[<-h.names];exact hx) hl]
 | .frz a,C,X,h,e=>aQ (b:=chk C false (.frz a) e) fun z=>by
  cbv;exact⟨Bm ((au a h e).1 z2),by cases e<;>first | rfl | exact noConfusion z1⟩
 | .join a,C,X,h,e=>aQ (b:=chk C false (.join a) e) fun z=>by
  obtain⟨⟨g,P,ks,p⟩,U,z⟩:=aj z;have U:=cO U;k_go;cbv;obtain⟨⟨o,nm,apos⟩,S,z1⟩:=aj z1;have e1:=iJ S;have e1:g=.Attribute o nm apos:=e1;obtain⟨z1,y3⟩:=ag z1;obtain⟨y1,y2⟩:=ag z1;rw[beq_iff_eq]at y1;have y1:nm = "join" := y1;obtain⟨kk,G,w⟩:=aj y3;obtain⟨j,q,e2⟩:=ic G;have e2:o=.Constant kk j q:=e2
  have e4:kk=.str ⟨(List.toArray [])⟩:=by
   cases kk<;>simp only[gG]at w<;>first | (cases w;done) | skip
   rw[beq_iff_eq]at w;rw[<-w]
  have m:ks=[]:=by rw[Jp]at z2;exact z2
  obtain⟨y,e3,O⟩:=aM O;have e3:P=[y]:=e3;obtain⟨O,v⟩:=ag O;rw[e1,y1,e2,e4,m,e3]at U;subst U;exact#[yV ((au a h y).1 v) O y2,rfl]
 | .isx a c,C,X,h,e=>aQ (b:=chk C false (.isx a c) e) fun z=>by
  have z:(cu C e "isinstance" fun ys=>of2 ys fun y z=>(cK z).any (fun x=>x == c&&(if c == ("ValueError" : Str)then km C x else glB C x&&C.Xs.contains x&&cP.contains x))&&chk C false a y)=true:=z;obtain⟨p,P,Qa,rfl,b1,b2,O,Y⟩:=bS h z;obtain⟨y,u,rfl,Y⟩:=cj Y;obtain⟨v,F⟩:=ag Y;obtain⟨x,G,w⟩:=aj v;obtain⟨q,rfl⟩:=bK G;obtain⟨V,m⟩:=ag w;rw[beq_iff_eq]at V;subst V;split at m
  ·rename_i hv;rw[beq_iff_eq]at hv;subst hv;exact#[CB b1 b2 (h.bl m).1 (h.bl m).2 ((au a h y).1 F) (all2 O).1,rfl]
  ·obtain⟨m,w4⟩:=ag m;obtain⟨m,w3⟩:=ag m;obtain⟨D,d1,d2⟩:=h.ref x w3;exact#[Bj b1 b2 (h.gl m).1 d1 d2 (by simpa using w4) (bA (h.gl m).2).1 ((au a h y).1 F) (all2 O).1,rfl]
 | .fld a,C,X,h,e=>aQ (b:=chk C false (.fld a) e) fun z=>by
  obtain⟨⟨o,nm,apos⟩,U,z⟩:=aj z;have U:=iJ U;k_go;cbv;rw[beq_iff_eq]at z1;have z1:nm = "at" := z1;obtain⟨x,z2⟩:=Option.isSome_iff_exists.mp z2;obtain⟨p,z2⟩:=bK z2;have z2:o=.Name x p:=z2;subst U z1 z2;exact#[CW ((au a h _).1 O),rfl]
theorem dC{cl:RL.Cl}:∀ (I:RL.Es) {C:CC} {X:Cx} (h:XOk C X cl) (es:List Expr),gJ C I es=true->SEs X cl es I/\ee I=es.length/\es.all noStar=true
 | .nil,C,X,h,es,z=>by
  have z:es=[]:=Jp.mp z;subst z;exact#[dn,rfl,rfl]
 | .cons e' I,C,X,h,es,z=>by
  cases es with
  | nil=>cases z
  |cons e es=>
   k_go;cbv;obtain⟨Z,Y,U⟩:=dC I h es O;exact#[bV ((au e' h e).1 z2) Z z1,by rw[ee,Y,length_cons],by rw[Jx,z1,U];rfl]
theorem gj{cl:RL.Cl}:∀ (it:RL.It) {C:CC} {X:Cx} (h:XOk C X cl) (tg e:Expr),qa C it tg e=true->SI X cl tg e it
 | .seq a,C,X,h,tg,e,z=>zE ((au a h e).1 z)
 | .rng1 a,C,X,h,tg,e,z=>by
  have z:(cu C e "range" fun ys=>of1 ys fun y=>chk C false a y)=true:=z;obtain⟨p,d,Y,rfl,b1,b2,O,I⟩:=bS h z;obtain⟨y,rfl,I⟩:=aM I;exact zY b1 b2 ((au a h y).1 I) (all1 O)
 | .rng3 c a b,C,X,h,tg,e,z=>by
  have z:(cu C e "range" fun ys=>of3 ys fun y z q=>gW c q&&chk C false a y&&chk C false b z)=true:=z;obtain⟨p,d,Y,rfl,b1,b2,O,I⟩:=bS h z;obtain⟨y,u,q,rfl,I⟩:=uK I;obtain⟨I,f⟩:=ag I;obtain⟨I,g⟩:=ag I;exact zN b1 b2 ((au a h y).1 g) ((au b h u).1 f) (lg O).1 (lg O).2.1 I
 | .enm a,C,X,h,tg,e,z=>by
  obtain⟨U,Z⟩:=ag z;obtain⟨ts,U⟩:=Option.isSome_iff_exists.mp U;obtain⟨k,tp,rfl⟩:=bX U;obtain⟨p,d,Y,rfl,b1,b2,O,I⟩:=bS h Z;obtain⟨y,rfl,I⟩:=aM I;exact As b1 b2 ((au a h y).1 I) (all1 O)
 | .zip a b,C,X,h,tg,e,z=>by
  obtain⟨U,Z⟩:=ag z;obtain⟨ts,U⟩:=Option.isSome_iff_exists.mp U;obtain⟨k,tp,rfl⟩:=bX U;obtain⟨p,d,Y,rfl,b1,b2,O,I⟩:=bS h Z;obtain⟨y,u,rfl,I⟩:=cj I;exact PI'.calm (vF b1 b2 ((au a h y).1 (ag I).1) ((au b h u).1 (ag I).2) (all2 O).1 (all2 O).2)
theorem Au{cl:RL.Cl}:∀ (it:RL.It) {C:CC} {X:Cx} (h:XOk C X cl) (tg e:Expr),qa C it tg e=true->sQ it=true->PI' (fun _=>True) X tg e (tI X.K cl it)
 | .zip a b,C,X,h,tg,e,z,_=>by
  obtain⟨O,Y⟩:=ag z;obtain⟨ts,O⟩:=Option.isSome_iff_exists.mp O;obtain⟨k,tp,rfl⟩:=bX O;obtain⟨p,c,Z,rfl,b1,b2,U,I⟩:=bS h Y;obtain⟨y,u,rfl,I⟩:=cj I;exact vF b1 b2 ((au a h y).1 (ag I).1) ((au b h u).1 (ag I).2) (all2 U).1 (all2 U).2
 | .seq _,C,X,h,tg,e,z,w=>by cases w
 | .rng1 _,C,X,h,tg,e,z,w=>by cases w
 | .rng3 _ _ _,C,X,h,tg,e,z,w=>by cases w
 | .enm _,C,X,h,tg,e,z,w=>by cases w
end
end RS
namespace L2
open PySem PySem.Spec PyProof.Rows
abbrev IsF(H:Hp)(b:Addr):Prop:=∃ o xs,H b=some (.frz o (.lst xs))
open Classical in
abbrev cX(H:Hp):Hp:=fun b=>if IsF H b then none else H b
open Classical in
abbrev fat(H H':Hp):Hp:=fun b=>if IsF H b then H b else H' b
def pT(h:IsF H b):cX H b=none:=if_pos h
def i8(h:¬ IsF H b):cX H b=H b:=if_neg h
def sU(h:IsF H b):fat H H' b=H b:=if_pos h
def jK(h:¬ IsF H b):fat H H' b=H' b:=if_neg h
def jw(h:H b=none):cX H b=none:=by
 rw[i8 fun⟨_,_,e⟩=>by rw[h]at e;cases e];exact h
def ib(h:H b=some o)(n:∀ x xs,o≠.frz x (.lst xs)):cX H b=some o:=by
 rw[i8 fun⟨x,xs,e⟩=>n x xs (by rw[h]at e;exact Option.some.inj e)];exact h
def B5(h:cX H b=some o):H b=some o:=by
 by_cases f:IsF H b
 ·rw[pT f]at h;cases h
 ·rw[i8 f]at h;exact h
def aY.cX{P:Program}{w:World}{K:W.Frag}{mg:Str->Option Value}{base:Heap}{k:Nat}{f:Addr}{fd:FuncData}{ps:List Str}{sp:Sp}(F:aY P w K mg base CX0 k f fd ps sp) :
  aY P w K mg base CX0 k f fd ps (fun vs H Q E=>sp vs (cX H) (fun v H'=>(∀ b,IsF H b->H' b=none)->Q v (fat H H')) E) where
 len:=fun vs H Q E h=>F.len _ _ _ _ h
 run:=fun A outer s H args us vs Q E i I hb c d=>by
  have p:iE P w K mg base A outer s (L2.cX H):=⟨I.frames,I.mod,fun b o q=>#[(I.bs b o q).1,jw (I.bs b o q).2],I.bsz,I.dh,fun b hb=>jw (I.frf b hb),
   fun a o q=>(I.hok a o (B5 q)).fj (fun b u _ q=>q) (fun b q=>ib q fun _ _ z=>(nomatch z)) fun b xs q=>ib q fun _ _ z=>(nomatch z),I.bare⟩
  refine codeAny_mono (F.run A outer s (L2.cX H) args us vs _ E i p hb c d) fun r s' q=>?_
  cases r with
  | error e=>exact False.elim q
  |ok l=>
   cases l with
   |ret u=>
    obtain⟨v,H',os,bare,un,hk,Y,q⟩:=q;have O:∀ b,IsF H b->H' b=none:=fun b ⟨o,xs,g⟩=>un.free b o (I.hok b _ g).1 (pT ⟨o,xs,g⟩) not_mem_nil
    have sm:∀ b x,H' b=some x->fat H H' b=some x:=fun b x g=>by
     by_cases f:IsF H b
     ·rw[O b f]at g;cases g
     ·rw[jK f];exact g
    refine#[v,fat H H',os,bare,#[fun b o g n=>un.keep b o g (jw n),fun b o g n=>un.slot b o g (jw n),fun b o g n Z=>?_,un.there,fun b xs g=>?_,fun b o u g=>?_,fun b ps g=>?_],fun a o g=>?_,Y,q O]
    ·rw[jK fun⟨_,_,e⟩=>by rw[n]at e;cases e];exact un.free b o g (jw n) Z
    ·exact sm _ _ (un.dB b xs (ib g fun _ _ z=>nomatch z))
    ·by_cases f:IsF H b
     ·rw[sU f];exact g
     ·rw[jK f];exact un.c8 b o u ((i8 f).trans g)
    ·obtain⟨m,e⟩:=un.dH b ps (ib g fun _ _ z=>nomatch z);exact#[m,sm _ _ e]
    ·by_cases f:IsF H a
     ·rw[sU f]at g;obtain⟨ob,xs,e⟩:=f;rw[e]at g;cases g;obtain⟨g1,g2⟩:=I.hok a _ e;have U:=un.keep a ob g1 (pT ⟨ob,xs,e⟩) (fun z=>by rw[I.frf a z]at e;cases e) not_mem_nil;obtain⟨z,its,n,r,j⟩:=g2;exact#[U,z,its,n,r,by rw[U,<-g1];exact j]
     ·rw[jK f]at g;exact(hk a o g).fj (fun b u _ q=>q) (fun b q=>sm _ _ q) fun b xs q=>sm _ _ q
   | next=>exact False.elim q
   | brk=>exact False.elim q
   | cont=>exact False.elim q
section
variable{X:Cx}
def Inv.EI(I:Inv X pins J H s)(h:H a=some (.frz o (.lst xs)))(n:∀ o u,X.H₀ a≠some (.frz o u)):Inv X pins J (upd H a (.lst xs)) s:=by
 have nn:∀ b,H b=none->upd H a (.lst xs) b=none:=fun b e=>by
  rw[ax fun z=>by subst z;rw[h]at e;cases e];exact e
 have kp:∀ b x,H b=some x->(∀ o u,x≠.frz o u)->upd H a (.lst xs) b=some x:=fun b x e q=>by
  rw[ax fun z=>by subst z;rw[h]at e;exact q _ _ (Option.some.inj e).symm];exact e
 have O:=I.base;refine#[I.ok,I.os,I.bare,#[O.keep,O.slot,fun b ob g e U=>nn b (O.free b ob g e U),O.there,fun b ys e=>kp _ _ (O.dB b ys e) fun _ _ z=>(nomatch z),fun b ob u e=>?_,fun b ps e=>?_],I.loc,I.cell,nn _ I.free,fun x c e=>nn _ (I.cC x c e),fun p Y=>?_,fun b u e=>?_,I.len]
 ·rw[ax fun z=>by subst z;exact n _ _ e];exact O.c8 b ob u e
 ·obtain⟨m,g⟩:=O.dH b ps e;exact#[m,kp _ _ g fun _ _ z=>(nomatch z)]
 ·obtain⟨f,d,Z⟩:=I.pin p Y;exact#[f,nn _ d,Z]
 ·by_cases hb:b=a
  ·subst hb;rw[aG]at e;cases e;exact(I.hok b _ h).2
  ·rw[ax hb]at e
   exact(I.hok b u e).fj (fun _ _ _ q=>q) (fun c q=>kp _ _ q fun _ _ z=>(nomatch z)) fun c ys q=>kp _ _ q fun _ _ z=>(nomatch z)
abbrev se(X:Cx)(te:TE):TE:=fun J H Q=>te J H fun v I=>∃ a o xs,v=.ref a/\I a=some (.frz o (.lst xs))/\(∀ o u,X.H₀ a≠some (.frz o u))/\Q (.ref a) (upd I a (.lst xs))
def Aw{e:Expr}{te:TE}(h:PE X e te):PE X e (se X te):=by
 intro pins s J H Q I q;refine thn (h pins s J H _ I q) fun v s1 ⟨x,Y,U,r1,a,o,xs,O,g,n,k⟩=>?_;subst O;exact#[.ref a,_,U.EI g n,r1,k]
end
end L2
namespace RS
open PySem PySem.Spec PyProof.Rows L2
section
variable{K:W.Frag}{P:Addr->Prop}
mutual
theorem Rep.cX:∀ {d:RL.D} {v:V},d.noF=true->Rep P K H d v->Rep P K (L2.cX H) d v
 | .non,v,_,h=>by rw[Rep]at h ⊢;exact h
 | .bl _,v,_,h=>by rw[Rep]at h ⊢;exact h
 | .int _,v,_,h=>by rw[Rep]at h ⊢;exact h
 | .str _,v,_,h=>by rw[Rep]at h ⊢;exact h
 | .obj,v,_,h=>by rw[Rep]at h ⊢;exact h
 | .tup ds,v,n,h=>by
  k_ne;obtain⟨a,xs,U,O,I⟩:=h;exact#[a,xs,U,ib O fun _ _ z=>(nomatch z),ai.cX n I]
 | .lst ds,v,n,h=>by
  k_ne;obtain⟨a,xs,U,Y,O,I⟩:=h;exact#[a,xs,U,Y,ib O fun _ _ z=>(nomatch z),ai.cX n I]
 | .dK _ _,v,n,h=>by cases n
 | .dT _ _,v,n,h=>by cases n
 | .scr _,v,n,h=>by cases n
 | .exc _,v,n,h=>by cases n
 | .fT _ _,v,n,h=>by cases n
 | .fL _,v,n,h=>by cases n
theorem ai.cX:∀ {ds:List RL.D} {vs:List V},RL.dR ds=true->ai P K H ds vs->ai P K (L2.cX H) ds vs
 | [],vs,_,h=>by rw[ai]at h ⊢;exact h
 | d::r,vs,n,h=>by
  rw[ai]at h ⊢;obtain⟨x,t,e,Y,U⟩:=h;obtain⟨O,I⟩:=Bool.and_eq_true_iff.mp (show(d.noF&&RL.dR r)=true from n);exact#[x,t,e,Rep.cX O Y,ai.cX I U]
end
abbrev spT(K:W.Frag)(cl:RL.Cl)(f:Nat):Sp:=fun vs H Q _=>∃ ds d,ai nP K H ds vs/\RL.dR ds=true/\cl f ds=some d/\∀ v H' I,aD H H'->aD I H'->Rep nP K I d v->(∀ a,IsF I a->H a=none)->Q v H'
def ER{P:Program}{w:World}{mg:Str->Option Value}{base:Heap}{k:Nat}{fa:Addr}{fd:FuncData}{ps:List Str}{cl:RL.Cl}{f:Nat}(F:aY P w K mg base CX0 k fa fd ps (spF K cl f)):aY P w K mg base CX0 k fa fd ps (spT K cl f) :=
 F.cX.imp fun vs H Q E ⟨ds,d,r,I,e,q⟩=>⟨ds,d,r.cX I,e,fun v O s1 r1 hn=>q v _ O (fun b o g=>by
   by_cases f:IsF H b
   ·rw[sU f];exact g
   ·rw[jK f];exact s1 _ _ ((i8 f).trans g))
  (fun b o g=>by
   by_cases f:IsF H b
   ·rw[hn b f]at g;cases g
   ·rw[jK f];exact g) r1.none fun a ha=>by
    cases g:H a with
    | none=>rfl
    |some x=>
     by_cases f:IsF H a
     ·obtain⟨o,xs,e⟩:=ha;rw[hn a f]at e;cases e
     ·obtain⟨o,xs,e⟩:=ha;have:=s1 _ _ ((i8 f).trans g);rw[e]at this
      exact absurd ⟨o,xs,g.trans this.symm⟩ f⟩
end
def oM{α:Type}{y:α}{c:Prop} [Decidable c]{x:Option α}(h:(if c then x else none)=some y):c/\x=some y:=by
 split at h
 ·exact#[‹_›,h]
 ·cases h
section
variable{X:Cx}{cl:RL.Cl}{a' b':RL.E}{M:List Nat}{st:Stmt}{i j:Nat}
def A4(h:PS X st (sr i j (eL (tE X.K cl a') (eL (tE X.K cl b') iH))))(hi:M.contains i=true)(Z:M.count i<2)(g:M.contains j=false):SS X cl M st (.parR i j a' b'):=by
 refine PS.weak h fun D J H h=>?_;obtain⟨I,o,b,U,e,k⟩:=h;obtain⟨x,r,e⟩:=bind_some e;obtain⟨y,q,e⟩:=bind_some e;obtain⟨O,e⟩:=bx e;cases e;rw[and_eq_true,and_eq_true]at O;obtain⟨p,c,n⟩:=O;refine#[I,x,U.rv0,r,fun v s r1=>#[I,y,U.rv0.same r1.same,q,fun u H2 Y=>#[v,u,rfl,?_]]]
 have f:iY x=true:=by cases x<;>first | rfl | cases c
 have d:Own X.K H2 x v:=#[f,c,r1.rep.same Y.same]
 obtain⟨a,ob,rfl,_,_⟩:=d.ref;obtain⟨m,l⟩:=U.own (r1.same.trans Y.same) hi Z (r1.fresh n f a rfl) d;exact k _ _ (m.bind g (Y.rep.imm p)) (l.trans (Fr'.bind g (aD.refl _)))
def zm(h:PS X st (ko (Ce (eL (tE X.K cl a') (eL (tE X.K cl b') iH))) (fR i)))(hi:M.contains i=false):SS X cl M st (.asgT i a' b'):=by
 refine PS.weak h fun D J H h=>?_;obtain⟨U,o,t,j,e,k⟩:=h;obtain⟨x,I,e⟩:=bind_some e;obtain⟨y,O,e⟩:=bind_some e;obtain⟨c,e⟩:=bx e;cases e;rw[and_eq_true,and_eq_true]at c;obtain⟨C,l,B⟩:=c;refine#[U,x,j.rv0,I,fun v E r1=>#[U,y,j.rv0.same r1.same,O,fun u H2 Z=>#[by show 2<=sizeLine;decide,fun p w=>k _ _ ?_ ?_]]]
 ·have n:aD H2 (upd H2 p (.tup [v,u])):=fun b ob d=>by rw[ax (aJ d w)];exact d
  refine(j.same ((r1.same.trans Z.same).trans n)).bind hi ?_;have Y:=Z.rep.same n
  have r:iY y=true->∀ a,u=.ref a->¬ bI M J a:=fun m a z p=>j.oJ a p (by
   have:=Z.fresh B m a z
   cases g:H a with
   | none=>rfl
   | some o=>rw[r1.same _ _ g]at this;cases this)
  have q:Rep (bI M J) X.K (upd H2 p (.tup [v,u])) y u:=by
   cases y with
   | lst ds=>obtain⟨a,xs,I,A,O,f⟩:=bc Y;rw[Rep];exact#[a,xs,I,r rfl a I,O,f.imm l]
   | dK ks ds=>rw[Rep]at Y ⊢;obtain⟨a,xs,I,A,O,s,f⟩:=Y;exact#[a,xs,I,r rfl a I,O,s,f.imm l]
   | dT ks ds=>rw[Rep]at Y ⊢;obtain⟨a,xs,I,A,O,s,f⟩:=Y;exact#[a,xs,I,r rfl a I,O,s,f.imm l]
   | _=>cases l
  rw[Rep];refine#[p,[v,u],rfl,aG,ai.cons ((r1.rep.same (Z.same.trans n)).imm C) (ai.cons q ai.nil)]
 ·exact Fr'.bind hi ((r1.same.trans Z.same).trans fun b ob d=>by rw[ax (aJ d w)];exact d)
def xB{f:Nat}{e:RL.Es}{S:RL.E}{G r':RL.Ss}{s1:Stmt}{c2 c3:Expr}{b2 b3 rest:List Stmt}{p2 p3:Pos}(hl:i<X.N.length)
 (h1:PS X s1 (ko (nC (spT X.K cl f) [] E0 (tEs X.K cl e)) (fR i)))(h2:ST X cl c2 S)(L:SSs X cl M b2 G)(h3:ST X cl c3 (RL.lZ i))
 (Qa:PSs X b3 (kQ (tBM X.K "list" jM (se X (tOp (rIx X.K) (eZ i) (tE X.K cl 1#1))) (tEs X.K cl %[0#1|_]))))(hr:SSs X cl M rest r')(hi:M.contains i=false) :
  SSs X cl M (s1 :: .If c2 b2 [] p2 :: .If c3 b3 [] p3::rest) (.tell i f e S G r'):=by
 k_mem;refine bg h1 (bg (nv h2 L eC) (bg (nv h3 Qa eC) hr)) pins s J H D I ?_;obtain⟨U,o,Q,F,ev,post⟩:=h;obtain⟨ds,e1,ev⟩:=bind_some (show(RL.evs cl U e).bind _=_ from ev);obtain⟨nf,ev⟩:=oM ev;obtain⟨d,e2,ev⟩:=bind_some ev;obtain⟨im,ev⟩:=oM ev;obtain⟨k,e3,ev⟩:=bind_some ev;refine#[U,ds,F.rv0,e1,fun vs H1 r r1=>?_];show spT X.K cl f (vs++[]) H1 _ E0;rw[Ju];refine#[ds,d,r1,nf,e2,fun v H2 H3 C q r3 fr=>?_];have sm:aD H H2:=r.trans C;have Z:RVm X.K M (U.set i (some d)) (J.set i (some v)) H2:=(F.same sm).bind hi ((r3.same q).imm im);refine#[_,k,Z.rv0,e3,fun H4 O=>?_]
 cases k with
 |true=>
  obtain⟨p,e4,ev⟩:=bind_some (show(RL.aw cl M G (U.set i (some d))).bind RL.back=_ from ev);obtain⟨p1,p2⟩:=p
  cases p1 with
  | nx=>cases ev
  |rt d'=>
   cases ev;exact#[_,_,_,Z.same O,e4,kn.from (D:=D) post ((Fr'.bind hi sm).trans (Fr'.same O))]
 |false=>
  obtain⟨k2,e5,ev⟩:=bind_some (show((RL.ev cl (U.set i (some d)) (RL.lZ i)).bind RL.truth).bind _=_ from ev);refine#[_,k2,(Z.same O).rv0,e5,fun H5 Y=>?_]
  cases k2 with
  | false=>exact#[_,_,_,(Z.same O).same Y,ev,kn.from post ((Fr'.bind hi sm).trans (Fr'.same (O.trans Y)))]
  |true=>
   obtain⟨l,P⟩:=oM (show(if RL.told d=true then RL.aw cl M r' (U.set i (some .obj))else none)=_ from ev)
   have hd:∃ x xs,d=.tup [x,.fL xs]/\xs.length<RL.most:=by
    unfold RL.told at l;split at l
    ·exact#[_,_,rfl,of_decide_eq_true l]
    ·cases l
   obtain⟨x,xs,rfl,hx⟩:=hd;obtain⟨t,R,rfl,g2,c⟩:=bu r3;rw[ai]at c;obtain⟨u,R,rfl,_,c⟩:=c;rw[ai]at c;obtain⟨w,R,rfl,g4,c⟩:=c;rw[ai]at c;subst c;rw[Rep]at g4;obtain⟨a,ob,j,rfl,g5,g6⟩:=g4;have T:aD H3 H5:=(q.trans O).trans Y
   have ha:H a=none:=by
    have:=fr a ⟨ob,j,g5⟩
    cases g:H a with
    | none=>rfl
    | some o=>rw[r _ _ g]at this;cases this
   have iv:(J.set i (some (V.ref t)))[i]?=some (some (.ref t)):=Jk (by rw[I.len];exact hl);refine#[.ref t,iv,[],.int 1,#[zero_le _,fun i d z=>by simp at z],rfl,fun w1 H6 B=>?_]
   have hw:w1=.int 1:=by have:=B.rep;rw[Rep]at this;exact this
   subst hw;refine .inr (.inl #[t,[u,.ref a],1,.ref a,rfl,rfl,SqT.of (B.same _ _ (T _ _ g2)),rfl,a,ob,j,rfl,B.same _ _ (T _ _ g5),fun o' u' z=>?_,?_])
   ·rw[I.base.c8 a o' u' z]at ha;cases ha
   refine#[.inl #[rfl,j,SqL.of aG],[],[.int 0],#[zero_le _,fun i d z=>by simp at z],rfl,fun vs H7 m A=>?_];rw[ai]at A;obtain⟨y,l,rfl,_,A⟩:=A;rw[ai]at A;subst A
   have sa:aD H (upd H7 a (.lst (j++[y]))):=fun b o g=>by
    have n:=aJ g ha;rw[ax n];refine m _ _ ?_;rw[ax n];exact B.same _ _ (Y _ _ (O _ _ (sm _ _ g)))
   refine#[a,j,y,rfl,rfl,m _ _ aG,by rw[<-g6.length];exact Ji hx cL,_,_,_,(F.same sa).bind hi (by rw[Rep];exact#[t,rfl]),P,post.from (Fr'.bind hi sa)]
end
abbrev eG:Expr->Bool
 | .ListComp _ _ _ _=>false
 | .SetComp _ _ _ _=>false
 | .DictComp _ _ _ _ _=>false
 | _=>true
abbrev pV:Expr->Bool
 | .Tuple vs _ _=>vs.all (foldedForSure 8)
 | _=>true
abbrev oA(e:Expr):Bool:=match e with
 | .SetComp _ _ _ _=>false
 | .DictComp _ _ _ _ _=>false
 | _=>true
abbrev oQ(C:CC)(x y:Str)(O I:Pos)(a b:Expr):Bool :=
 C.sc.kind == .function&&C.sc.names.lookup x == some .local&&C.sc.names.lookup y == some .local&&O.line == I.line && !(x == y)&&noStar a&&noStar b && !(foldedForSure 8 a&&foldedForSure 8 b) && !(constantsAlone 8 a&&constantsAlone 8 b)
abbrev qL(M:List Nat):RL.E->Bool
 | .var i=>M.contains i
 | _=>false
abbrev gC:Expr->Option (Str × Pos)
 | .Name x p=>some (x,p)
 | _=>none
def et{e:Expr}{x:Str}{p:Pos}(h:gC e=some (x,p)):e=.Name x p:=by
 cases e
 case Name=>cases h;rfl
 all_goals exact nos h
abbrev rO(C:CC)(i:Nat)(nm:Str)(e:Expr)(f:List Expr->Bool):Bool:=(fb e).any fun q=>(kv q.1).any (fun a=>j5 C i a.1&&a.2.1 == nm&&a.2.2.endLine == q.2.2.2.line)&&q.2.2.1.isEmpty&&f q.2.1
abbrev y9(C:CC)(i f:Nat)(st:Stmt)(k:List Expr->Bool):Bool:=(gA st).any fun q=>of1 q.1 (fun t=>dU C i t)&&(fb q.2).any fun c=>(cK c.1).any (fun x=>glB C x&&C.F[f]? == some (x,[]))&&c.2.2.1.isEmpty && !c.2.1.isEmpty&&k c.2.1
abbrev yt(C:CC)(i:Nat)(I:List Stmt):Bool:=of1 I fun b=>(sL b).any fun e=>(fb e).any fun c=>(kv c.1).any (fun u=>u.2.1 == ("append" : Str)&&u.2.2.endLine == c.2.2.2.line&&(ly u.1).any fun v=>j5 C i v.1&&lR v.2&&chk C false 1#1 v.2)&&c.2.2.1.isEmpty&&of1 c.2.1 fun y=>noStar y&&chk C false 0#1 y
abbrev pq(C:CC):List Expr->RL.Es->Bool
 | [],ps=>match ps with
  | .nil=>true
  | _=>false
 | v::vs,ps=>match lb v with
  | some (.str y)=>decide (y.length<=3000)&&pq C vs ps
  | some _=>false
  | none=>(AM v).any fun q=>q.2.1 == -1&&q.2.2.isNone&&match ps with
   | .cons e es=>chk C false e q.1&&pq C vs es
   | .nil=>false
abbrev BU:Const->Bool
 | .str _=>true
 | _=>false
abbrev isNil:RL.Es->Bool
 | .nil=>true
 | _=>false
abbrev wx(C:CC)(ps:RL.Es)(a:Expr):Bool:=((lb a).any BU&&isNil ps) || (xY a).any fun vs=>decide (2<=vs.length)&&decide (vs.length<=100)&&pq C vs ps
abbrev wm(C:CC)(c:Str):Bool:=C.Xr.contains c || C.Xi.contains c
mutual
noncomputable def wZ(C:CC)(M:List Nat):RL.S->Stmt->Bool
 | .asg i e'=>fun st=>(gA st).any fun q=>of1 q.1 fun t=>dU C i t && !M.contains i&&oA q.2&&chk C false e' q.2&&(C.calm || eG q.2)
 | .own i e'=>fun st=>(gA st).any fun q=>of1 q.1 fun t=>dU C i t&&M.contains i&&decide (M.count i<2)&&oA q.2&&chk C false e' q.2&&(C.calm || eG q.2)
 | .unp is e'=>fun st=>(gA st).any fun q=>of1 q.1 fun t=>(eT t).any fun ts=>jN C is ts&&is.all (fun i=>!M.contains i)&&pV q.2&&chk C false e' q.2
 | .par i j O I=>fun st=>(gA st).any fun q=>of1 q.1 fun t=>(eT t).any fun ts=>of2 ts fun s u=>(gC s).any fun x=>(gC u).any fun y=>(eT q.2).any fun vs=>of2 vs fun a b=>nmB C i x.1&&nmB C j y.1 && !(i == j) && !M.contains i && !M.contains j&&oQ C x.1 y.1 x.2 y.2 a b&&chk C false O a&&chk C false I b&&C.calm
 | .parL i j O I=>fun st=>C.calm&&((gA st).any fun q=>of1 q.1 fun t=>(eT t).any fun ts=>of2 ts fun s u=>(gC s).any fun x=>(gC u).any fun y=>(eT q.2).any fun vs=>of2 vs fun a b=>nmB C i x.1&&nmB C j y.1 && !(i == j) && !M.contains i && !M.contains j&&oQ C x.1 y.1 x.2 y.2 a b&&chk C false O a&&chk C false I b)
 | .parR i j O I=>fun st=>C.calm&&((gA st).any fun q=>of1 q.1 fun t=>(eT t).any fun ts=>of2 ts fun s u=>(gC s).any fun x=>(gC u).any fun y=>(eT q.2).any fun vs=>of2 vs fun a b=>nmB C i x.1&&nmB C j y.1 && !(i == j)&&M.contains i&&decide (M.count i<2) && !M.contains j&&oQ C x.1 y.1 x.2 y.2 a b&&chk C false O a&&chk C false I b)
 | .asgT i O I=>fun st=>(gA st).any fun q=>of1 q.1 fun t=>dU C i t&&(eT q.2).any fun vs=>of2 vs fun a b=>!M.contains i&&noStar a&&noStar b&&chk C false O a&&chk C false I b
 | .star i j e'=>fun st=>C.calm&&((gA st).any fun q=>of1 q.1 fun t=>(eT t).any fun ts=>of2 ts fun s u=>(yy u).any fun y=>dU C i s&&dU C j y && !M.contains i && !M.contains j&&pV q.2&&chk C false e' q.2)
 | .app i e'=>fun st=>(sL st).any fun e=>rO C i "append" e fun Y=>of1 Y fun y=>M.contains i&&noStar y&&chk C false e' y
 | .ife c' O I=>fun st=>(wIf st).any fun q=>chk C true c' q.1&&cS C M O q.2.1&&cS C M I q.2.2
 | .forr tg it I=>fun st=>(AD st).any fun q=>q.2.2.2.isEmpty&&qa C it q.1 q.2.1&&lU C tg q.1&&kR q.2.1&&RL.ot M it&&tg.all (fun i=>!M.contains i)&&cS C M I q.2.2.1&&C.calm
 | .ret e'=>fun st=>(xF st).any fun o=>o.any fun e=>chk C false e' e
 | .exc e'=>fun st=>(sL st).any fun e=>eG e&&chk C false e' e
 | .rais c ps=>fun st=>(pX st).any fun q=>C.calm&&C.Xr.contains c&&(glB C c&&(RL.dN c).isNone)&&q.2.isNone&&q.1.any fun e=>(fb e).any fun u=>(cK u.1).any (fun x=>x == c)&&u.2.2.1.isEmpty&&of1 u.2.1 fun a=>noStar a&&wx C ps a
 | .tryc b c i U=>fun st=>(BV st).any fun q=>C.calm&&q.2.2.1.isEmpty&&q.2.2.2.isEmpty&&wm C c&&cP.contains c&&glB C c && !M.contains i&&of1 q.2.1 (fun hd=>(nk hd).1.any (fun t=>(cK t).any fun x=>x == c)&&(nk hd).2.1.any (fun n=>nmB C i n&&C.sc.names.lookup n == some .local) && !(nk hd).2.2.isEmpty&&cS { C with calm:=false } M U (nk hd).2.2)&&cS C M b q.1
 | .raiI c e'=>fun st=>(pX st).any fun q=>C.calm&&C.Xi.contains c&&(glB C c&&(RL.dN c).isNone)&&q.2.isNone&&q.1.any fun e=>(fb e).any fun u=>(cK u.1).any (fun x=>x == c)&&u.2.2.1.isEmpty&&of1 u.2.1 fun a=>noStar a&&chk C false e' a
noncomputable def cS(C:CC)(M:List Nat):RL.Ss->List Stmt->Bool
 | .nil=>fun xs=>xs.isEmpty
 | .cons s r=>fun xs=>match xs with
  | x::xs=>wZ C M s x&&cS C M r xs
  | []=>false
 | .act i g tbl I es=>fun xs=>C.calm&&(of2 xs fun s1 s2=>(gA s1).any fun q=>of1 q.1 (fun t=>dU C i t&&j5 C i t)&&(ly q.2).any (fun u=>(cK u.1).any (fun x=>x == g&&glB C x&&C.W.lookup x == some tbl)&&lR u.2&&chk C false I u.2)&&(xF s2).any fun o=>o.any fun e=>(fb e).any fun c=>j5 C i c.1&&c.2.2.1.isEmpty && !c.2.1.isEmpty&&gJ C es c.2.1)
 | .tell i f es t a r=>fun xs=>match xs with
  | s1::s2::s3::xs=>C.calm&&y9 C i f s1 (gJ C es)&&(wIf s2).any (fun q=>chk C true t q.1&&cS C M a q.2.1&&q.2.2.isEmpty)&&(wIf s3).any (fun q=>chk C true (RL.lZ i) q.1&&yt C i q.2.1&&q.2.2.isEmpty) && !M.contains i&&cS C M r xs
  | _=>false
 | .opn _ _ _=>fun _=>false
end
structure YOk(C:CC)(X:Cx)(cl:RL.Cl):Prop extends XOk C X cl where
 fn:∀ x,X.fn x=true
 st:X.stack=X.env::X.outer/\X.env.frame=some X.env.locals/\X.ex=[]
 fnx:∀ (f:Nat) (x:Str),C.calm=true->C.F[f]?=some (x,[])->∃ k fa fd ps,aY X.prog X.w X.K X.mg X.base (CXE X.prog X.w) k fa fd ps (spX X.K cl f)/\bq k X.A/\X.mg x=some (.ref fa)/\W.keepIn X.K (.ref fa)=true/\Binds X.K fd ps []
structure ROk(C:CC)(X:Cx)(cl:RL.Cl)(EX:L2.St->XK):Prop where
 y:YOk C X.nox cl
 cal:C.calm=true
 pass:∀ pins J H s e s',Inv X pins J H s->CXE X.prog X.w X.stack H s (EX J) e s'->X.xe e s'
 made:∀ pins J H s h' e C vs,Inv X pins J H s->Heap.MadeExcOf s.heap h' e (.ref C) vs->EX J (.ref C) none H->X.xe (.ref e) { s with heap:=h' }
 wD:∀ pins J H s C i e od H' s',Inv X pins J H s->nK X H s C (some i) e od H' s'->EX J (.ref C) od H'->X.xe (.ref e) s'
 own:PassesOwn (model X.prog X.w) X.A X.env X.xe
section
variable{C:CC}{X:Cx}{cl:RL.Cl}{M:List Nat}{st:Stmt}{e:Expr}{e' k':RL.E}{i:Nat}
def eh{t:Option Expr}{l:Nat}{env:Env}(h:eG e=true):swapsWith e t l env=pure false:=by
 cases e<;>first | rfl | (cases h;done)
def yg{e:Expr}(h:¬ eG e=true)(ha:oA e=true):∃ elt gens scope p,e=.ListComp elt gens scope p:=by
 cases e<;>first | exact absurd rfl h | exact noConfusion ha | exact#[_,_,_,_,rfl]
def DG{elt:Expr}{gens:List Comprehension}{scope:Scope}{p:Pos}(I:chk C false e' (.ListComp elt gens scope p)=true):(∃ d tg it c,e'=.comp d tg it c)\/∃ d tg it,e'=.compA d tg it:=by
 cases e'<;>first | exact noConfusion I | exact .inl #[_,_,_,_,rfl] | exact .inr #[_,_,_,rfl] | (obtain⟨_,I⟩:=ag I;exact noConfusion I) | (rename_i b a;cases b<;>(obtain⟨_,I⟩:=ag I;exact noConfusion I))
def xZ{t:Expr}{U:Pos}(l:(C.calm || eG e)=true)(h:YOk C X cl)(hn:dU C i t=true)(ha:oA e=true)(m:chk C false e' e=true):SA X cl (.Assign [t] e U) i e':=by
 obtain⟨y,f,rfl,F,g⟩:=cY h.toXOk hn
 have plain:swapsWith e (some (.Name y f)) U.line X.env=pure false->SA X cl (.Assign [.Name y f] e U) i e':=fun z =>
  wa h.ndX F g ((au e' h.toXOk e).1 m) (.inl (h.fn y)) z trivial
 by_cases O:eG e=true
 ·exact plain (eh O)
 ·have j:X.calm=true:=h.calm (by simpa[O]using l);obtain⟨elt,gens,scope,p,rfl⟩:=yg O ha;have Y:swapsWith (.ListComp elt gens scope p) (some (.Name y f)) U.line X.env=pure (X.env.blockKind == .function&&X.env.kindOf y == some .local&&f.line == p.line && !(scope.names.any fun(n,k)=>n == y&&(k == .local || k == .cell))):=rfl;by_cases hb:(X.env.blockKind == .function&&X.env.kindOf y == some .local&&f.line == p.line && !(scope.names.any fun(n,k)=>n == y&&(k == .local || k == .cell)))=true
  ·have Qa:X.env.scope.names.lookup y=some .local:=by
    obtain⟨q,_⟩:=ag (ag hb).1;have G:=(ag q).2;rw[beq_iff_eq]at G;exact G
   rw[hb]at Y
   rcases DG m with⟨d,tg,it,c,rfl⟩ | ⟨d,tg,it,rfl⟩
   ·obtain⟨⟨tgE,iter,ifs,Z⟩,y1,z⟩:=aM m;have y1:gens=[⟨tgE,iter,ifs,Z⟩]:=y1;obtain⟨w,y2,z⟩:=aM z;have y2:ifs=[w]:=y2;obtain⟨z,K⟩:=ag z;obtain⟨z,L⟩:=ag z;obtain⟨z,o⟩:=ag z;obtain⟨z,r⟩:=ag z;obtain⟨z,u⟩:=ag z;obtain⟨z,v⟩:=ag z;obtain⟨z,A⟩:=ag z;obtain⟨z,z2⟩:=ag z;obtain⟨b,z1⟩:=ag z;rw[beq_iff_eq]at b;have B:Z=0:=b;subst y1 B;subst y2;refine wU j h.ndX F Qa (by rw[h.scope];exact kG z1) (gj it h.toXOk _ _ r) ?_ (dD A _) Y;exact#[fun cls a fp s H=>kN h.toXOk u v,fun cls a fp s H pins s' J H' Q I q=>mf ((au c (h.toXOk.blk cls a fp s H) _).2 L).1 I q,fun cls a fp s H=>(au d (h.toXOk.blk cls a fp s H) _).1 o,fun i x D g=>je z2 i x (by rw[<-h.names];exact D) g]
   ·obtain⟨⟨tgE,iter,ifs,Z⟩,y1,z⟩:=aM m;have y1:gens=[⟨tgE,iter,ifs,Z⟩]:=y1;obtain⟨z,K⟩:=ag z;obtain⟨z,o⟩:=ag z;obtain⟨z,r⟩:=ag z;obtain⟨z,u⟩:=ag z;obtain⟨z,v⟩:=ag z;obtain⟨z,A⟩:=ag z;obtain⟨z,z2⟩:=ag z;obtain⟨z,z1⟩:=ag z;obtain⟨y2,b⟩:=ag z;rw[beq_iff_eq]at b;have B:Z=0:=b
    have M:ifs=[]:=by rw[Jp]at y2;exact y2
    subst y1 B;subst M;refine wC j h.ndX F Qa (by rw[h.scope];exact kG z1) (gj it h.toXOk _ _ r) ?_ (dD A _) Y;exact#[fun cls a fp s H=>kN h.toXOk u v,fun cls a fp s H pins s' J H' Q I q=>mm I q,fun cls a fp s H=>(au d (h.toXOk.blk cls a fp s H) _).1 o,fun i x D g=>je z2 i x (by rw[<-h.names];exact D) g]
  ·have E:=not_eq_true _▸hb;rw[E]at Y;exact plain Y
def lr{is:List Nat}(h:is.all (fun i=>!M.contains i)=true):∀ i∈is,M.contains i=false:=fun i hi=>by
 rw[Jz]at h;simpa using h i hi
def dG{b:Bool}(h:(!b)=true):b=false:=by simpa using h
def zd{nm:Str}{f:List Expr->Bool}(h:XOk C X cl)(z:rO C i nm e f=true):∃ x p apos O I,e=.Call (.Attribute (.Name x p) nm apos) O [] I/\X.N[i]?=some x/\Vis X.env.scope x/\(x == ("__debug__" : Str))=false/\(x == ("__classdict__" : Str))=false/\(apos.endLine == I.line)=true/\f O=true:=by
 unfold rO at z;obtain⟨⟨g,O,ks,I⟩,c,z⟩:=aj z;have Z:=cO c;obtain⟨z,b⟩:=ag z;cbv;obtain⟨⟨o,a,apos⟩,j,z1⟩:=aj z1;have Y:=iJ j;have Y:g=.Attribute o a apos:=Y;obtain⟨z1,d⟩:=ag z1;obtain⟨y1,y2⟩:=ag z1;rw[beq_iff_eq]at y2;have y2:a=nm:=y2
 have k:ks=[]:=by rw[Jp]at z2;exact z2
 obtain⟨x,p,U,g1,g2,m,l⟩:=gc h y1;have U:o=.Name x p:=U;rw[Y,k,y2,U]at Z;exact#[x,p,apos,O,I,Z,g1,g2,m,l,d,b]
def Ag{f:Nat}{I:RL.Es}{k:List Expr->Bool}(h:YOk C X cl)(j:C.calm=true)(z:y9 C i f st k=true)(hk:∀ es,k es=true->SEs X cl es I/\es.all noStar=true):i<X.N.length/\PS X st (ko (nC (spT X.K cl f) [] E0 (tEs X.K cl I)) (fR i)):=by
 obtain⟨⟨ts,e⟩,U,z⟩:=aj z;obtain⟨p,rfl⟩:=c6 U;obtain⟨z1,z⟩:=ag z;obtain⟨t,y1,z1⟩:=aM z1;have y1:ts=[t]:=y1;obtain⟨n,np,y,d,v⟩:=cY h.toXOk z1;obtain⟨⟨g,c,ks,Z⟩,U,z⟩:=aj z;have O:=cO U;have O:e=.Call g c ks Z:=O;obtain⟨z,l⟩:=ag z;obtain⟨z,m⟩:=ag z;cbv;obtain⟨x,r,z1⟩:=aj z1;obtain⟨q,b⟩:=bK r;have b:g=.Name x q:=b;obtain⟨o,y2⟩:=ag z1;rw[beq_iff_eq]at y2
 have s:ks=[]:=by rw[Jp]at z2;exact z2
 rw[y]at y1;subst b s y1;subst O;obtain⟨u,Y⟩:=hk c l;refine#[(List.getElem?_eq_some_iff.mp d).1,?_]
 cases c with
 | nil=>cases m
 |cons O a=>
  rw[Jx]at Y;obtain⟨k,fa,fd,pn,F,w,hm,hk,hb⟩:=h.toXOk.fns f x [] j y2;rw[if_pos rfl]at F;obtain⟨g1,g2⟩:=h.toXOk.gl o;exact j1 h.ndX d v (lA (ER F) w g1 hm hk hb .nil k9 u (bA g2).1 (aA a (ag Y).1) (cA (ag Y).2)) (eh rfl) (.inl (h.fn _))
def Al{f:List Stmt}(h:YOk C X cl)(z:yt C i f=true):PSs X f (kQ (tBM X.K "list" jM (se X (tOp (rIx X.K) (eZ i) (tE X.K cl 1#1))) (tEs X.K cl %[0#1|_]))):=by
 obtain⟨b,rfl,z⟩:=aM z;obtain⟨e,U,z⟩:=aj z;obtain⟨G,rfl⟩:=jF U;obtain⟨⟨g,E,ks,A⟩,U,z⟩:=aj z;have j:=cO U;obtain⟨z,r⟩:=ag z;cbv;obtain⟨⟨o,a,apos⟩,u,z1⟩:=aj z1;have d:=iJ u;have d:g=.Attribute o a apos:=d;obtain⟨z1,I⟩:=ag z1;obtain⟨y2,t⟩:=ag z1;rw[beq_iff_eq]at y2;have y2:a=("append" : Str):=y2
 have w:ks=[]:=by rw[Jp]at z2;exact z2
 obtain⟨⟨v,k⟩,s,I⟩:=aj I;obtain⟨sp,Y⟩:=fY s;have Y:o=.Subscript v k sp:=Y;obtain⟨I,n⟩:=ag I;obtain⟨I,q⟩:=ag I;obtain⟨x,p,c,g1,g2,D,B⟩:=gc h.toXOk I;have c:v=.Name x p:=c;obtain⟨y,Z,l⟩:=aM r;have Z:E=[y]:=Z;obtain⟨O,m⟩:=ag l;rw[d,w,y2,Y,c,Z]at j;subst j;refine qU (fh (sP PySem.F.plainAttrs_list PySem.F.slot_list_append PySem.F.type_list_append jk (Aw (rY nN (c9 g1 g2 D B) ((au 1#1 h.toXOk k).1 n) (lV q))) (bV (cl:=cl) ((au 0#1 h.toXOk y).1 m) dn O) rfl ?_ t (aA [] O) rfl) rfl);rw[aA [] O];rfl
def jz{us:List Expr}{I:Nat}{tp:Pos}{env:Env}(h:pV e=true):swappedStores [.Tuple us I tp] e env=pure none:=by
 cases e with
 |Tuple vs k p=>
  have h:vs.all (foldedForSure 8)=true:=h;unfold swappedStores;dsimp only;split
  ·rfl
  ·split
   ·rfl
   ·split
    ·rfl
    ·first | rfl | (rw[if_pos h];rfl)
 | _=>rfl
def pO{x y:Str}{k j pt d:Pos}{o k2:Nat}{a b:Expr}(h:XOk C X cl)(I:oQ C x y k j a b=true):swappedStores [.Tuple [.Name x k,.Name y j] o pt] (.Tuple [a,b] k2 d) X.env=pure (some [x,y]) /\
  X.env.scope.names.lookup x=some .local/\X.env.scope.names.lookup y=some .local/\noStar a=true/\noStar b=true:=by
 unfold oQ at I;obtain⟨I,f⟩:=ag I;obtain⟨I,g⟩:=ag I;obtain⟨I,l⟩:=ag I;obtain⟨I,m⟩:=ag I;obtain⟨I,q⟩:=ag I;obtain⟨I,n⟩:=ag I;obtain⟨I,Z⟩:=ag I;obtain⟨i,c⟩:=ag I;rw[beq_iff_eq]at i c Z n;rw[<-h.scope]at i c Z;refine#[?_,c,Z,m,l]
 have bk:X.env.blockKind=.function:=by
  unfold Env.blockKind;rw[i];rfl
 have k1:X.env.kindOf x=some .local:=c;have k2:X.env.kindOf y=some .local:=Z
 have e:x≠y:=by simpa using q
 have U:foldedForSure 8 a=true->foldedForSure 8 b=false:=fun z=>by simpa[z]using g
 have Y:constantsAlone 8 a=true->constantsAlone 8 b=false:=fun z=>by simpa[z]using f
 have r:[x,y].eraseDups=[x,y]:=by
  rw[List.eraseDups_cons];simp[Ne.symm e];rfl
 unfold swappedStores;simp only[bk];simp[show ∀ (x:Str) (p:Pos),(Expr.Name x p).pos=p from fun _ _=>rfl,k1,k2,n,r];refine(if_neg ?_).trans ((if_neg ?_).trans (if_neg ?_))
 ·intro O;rcases O with O | O
  ·clear U Y g f;cases a<;>first | exact noConfusion (show false=true from O) | exact noConfusion (show false=true from m)
  ·clear U Y g f;cases b<;>first | exact noConfusion (show false=true from O) | exact noConfusion (show false=true from l)
 ·intro O;have:=U O.1;rw[O.2]at this;cases this
 ·intro O;have:=Y O.1;rw[O.2]at this;cases this
end
section
variable{cl:RL.Cl}
def zQ{X:Cx}{C:CC}{EX:L2.St->XK}{x:Str}{f:Nat}{p I:Pos}{y:Expr}{ys:List Expr}{es:RL.Es}(h:ROk C X cl EX)(Y:glB C x=true)(hf:C.F[f]?=some (x,[]))(Z:SEs X.nox cl (y::ys) es)(ha:RA X EX cl (y::ys) es)(hn:noStar y=true)(O:ys.all noStar=true) :
  RE X EX cl (.Call (.Name x p) (y::ys) [] I) (.call f es):=by
 obtain⟨k,fa,fd,ps,F,U,hm,hk,hb⟩:=h.y.fnx f x h.cal hf;obtain⟨g1,g2⟩:=h.y.gl Y;exact Ao F U g1 hm hk hb h.pass (PA.nox Z) ha (bA g2).1 hn O
mutual
theorem fZ:∀ (e':RL.E) {X:Cx} {C:CC} {EX:L2.St->XK} (h:ROk C X cl EX) (e:Expr),chk C false e' e=true->RE X EX cl e e'
 | .call f es,X,C,EX,h,e,z=>by
  obtain⟨m,z⟩:=ag z;obtain⟨⟨g,k,ks,p⟩,I,z⟩:=aj z;have I:=cO I;subst I;obtain⟨z,Z⟩:=ag z;k_go;cbv;obtain⟨x,d,z1⟩:=aj z1;obtain⟨q,Y⟩:=bK d;have Y:g=.Name x q:=Y;obtain⟨y1,y2⟩:=ag z1;rw[beq_iff_eq]at y2
  have i:ks=[]:=by rw[Jp]at z2;exact z2
  subst Y i;obtain⟨c,j,U⟩:=dC es h.y.toXOk _ Z;have ha:=mT es h _ Z;dsimp only at O c j U ha
  cases k with
  | nil=>cases O
  |cons y ys=>
   rw[Jx]at U;exact zQ h y1 y2 c ha (ag U).1 (ag U).2
 | .ix a b,X,C,EX,h,e,z=>by
  obtain⟨⟨l,r⟩,I,z⟩:=aj z;obtain⟨p,rfl⟩:=fY I;k_go;cbv;exact PE.weak (rY nN (fZ a h l z2) (PE.nox ((au b h.y.toXOk r).1 O)) (lV z1)) fun J H Q q=>q
 | .var _,X,C,EX,h,e,z=>bB fun _=>rfl
 | .cst _,X,C,EX,h,e,z=>bB fun _=>rfl
 | .glb _ _,X,C,EX,h,e,z=>bB fun _=>rfl
 | .bin _ _ _,X,C,EX,h,e,z=>bB fun _=>rfl
 | .cmp _ _ _,X,C,EX,h,e,z=>bB fun _=>rfl
 | .chain _ _ _ _ _,X,C,EX,h,e,z=>bB fun _=>rfl
 | .isN _ _,X,C,EX,h,e,z=>bB fun _=>rfl
 | .inn _ _ _,X,C,EX,h,e,z=>bB fun _=>rfl
 | .and _ _,X,C,EX,h,e,z=>bB fun _=>rfl
 | .or _ _,X,C,EX,h,e,z=>bB fun _=>rfl
 | .not _,X,C,EX,h,e,z=>bB fun _=>rfl
 | .tup _,X,C,EX,h,e,z=>bB fun _=>rfl
 | .lst _,X,C,EX,h,e,z=>bB fun _=>rfl
 | .slT _ _,X,C,EX,h,e,z=>bB fun _=>rfl
 | .slF _ _,X,C,EX,h,e,z=>bB fun _=>rfl
 | .bi _ _,X,C,EX,h,e,z=>bB fun _=>rfl
 | .max _ _,X,C,EX,h,e,z=>bB fun _=>rfl
 | .min _ _,X,C,EX,h,e,z=>bB fun _=>rfl
 | .isi _ _,X,C,EX,h,e,z=>bB fun _=>rfl
 | .rng1 _,X,C,EX,h,e,z=>bB fun _=>rfl
 | .rng3 _ _ _,X,C,EX,h,e,z=>bB fun _=>rfl
 | .neg _,X,C,EX,h,e,z=>bB fun _=>rfl
 | .comp _ _ _ _,X,C,EX,h,e,z=>bB fun _=>rfl
 | .compA _ _ _,X,C,EX,h,e,z=>bB fun _=>rfl
 | .join _,X,C,EX,h,e,z=>bB fun _=>rfl
 | .isx _ _,X,C,EX,h,e,z=>bB fun _=>rfl
 | .fld _,X,C,EX,h,e,z=>bB fun _=>rfl
 | .frz _,X,C,EX,h,e,z=>bB fun _=>rfl
 | .inG _ _ _,X,C,EX,h,e,z=>bB fun _=>rfl
theorem mT:∀ (I:RL.Es) {X:Cx} {C:CC} {EX:L2.St->XK} (h:ROk C X cl EX) (es:List Expr),gJ C I es=true->RA X EX cl es I
 | .nil,X,C,EX,h,es,z=>Dc
 | .cons e' I,X,C,EX,h,es,z=>by
  cases es with
  | nil=>cases z
  |cons e es=>
   k_go;cbv;exact zM (PE.nox ((au e' h.y.toXOk e).1 z2)) (fZ e' h e z2) (mT I h es O) (aA es z1)
end
section
variable{X:Cx}{C:CC}{EX:L2.St->XK}{M:List Nat}
def zj{X:Cx}{st:Stmt}{c:Str}{ps:RL.Es}:SS X cl M st (.rais c ps):=fun pins s J H D I ⟨U,r,O,_,e,_⟩=>by
 cases e
def uP{t e:Expr}{U:Pos}{i:Nat}{e':RL.E}{s:RL.S}(h:ROk C X cl EX)(hn:dU C i t=true)(ha:oA e=true)(Y:chk C false e' e=true)(Z:∀ O,RL.l6 cl M s O=(RL.evX cl O e').map fun x=>(x,O)):RZ X EX cl M (.Assign [t] e U) s:=by
 obtain⟨y,g,rfl,d,c⟩:=cY h.y.toXOk hn;by_cases I:eG e=true
 ·exact nz (j1 (X:=X) h.y.ndX d c (fZ e' h e Y) (eh I) (.inl (h.y.fn y))) Z
 ·refine gX fun O=>?_;rw[Z];obtain⟨elt,gens,scope,p,rfl⟩:=yg I ha
  cases e' with
  |call f es=>
   obtain⟨_,z⟩:=ag Y;exact noConfusion z
  | ix a b=>exact noConfusion Y
  | _=>rfl
abbrev tW(K:W.Frag)(cl:RL.Cl):RL.Es->TA
 | .nil=>iH
 | .cons e es=>vv (tE K cl e) (tW K cl es)
def yc{K:W.Frag}{I:RL.St}{J:L2.St}:∀ {ps:RL.Es} {ds:List RL.D} {H:Hp} {Q:List V->Hp->Prop},RV0 K I J H->RL.evs cl I ps=some ds->ds.all RL.written=true->(∀ vs U,aD H U->Q vs U)->tW K cl ps J H Q
 | .nil,ds,H,Q,O,e,w,k=>k [] H (aD.refl _)
 | .cons p ps,ds,H,Q,O,e,w,k=>by
  rw[RL.evs]at e;obtain⟨d,a,e⟩:=bind_some e;obtain⟨b,Z,Y⟩:=map_some e;subst Y;rw[Jx,and_eq_true]at w
  cases d with
  |int i=>
   refine#[I,.int i,O,a,fun v U r1=>#[i,ar r1.rep,by simpa[RL.written]using w.1,yc (O.same r1.same) Z w.2 fun vs H2 sm=>k vs H2 (r1.same.trans sm)]]
  | _=>cases w.1
def l5{X:Cx}(h:XOk C X cl):∀ {vs:List Expr} {ps:RL.Es},pq C vs ps=true->PJ X vs (tW X.K cl ps)
 | [],.nil,z=>uR
 | [],.cons _ _,z=>by cases z
 | v::vs,ps,z=>by
  rw[pq]at z;split at z
  ·rename_i y Z;obtain⟨j,p,rfl⟩:=ic Z;cbv;exact lY (l5 h z2) (by simpa using z1)
  ·cases z
  ·obtain⟨⟨e,a,sp⟩,O,z⟩:=aj z;obtain⟨p,rfl⟩:=A1 O;obtain⟨z,I⟩:=ag z;cbv;rw[beq_iff_eq]at z1;have y1:a=-1:=z1;have y2:sp=none:=fv z2;clear z1 z2 z O;subst y1 y2
   cases ps with
   | nil=>cases I
   |cons q b=>
    obtain⟨Y,U⟩:=ag I;exact ui ((au q h e).1 Y) (l5 h U)
def vT{c:Str}{ps:RL.Es}{a:Expr}{np cpos pos:Pos}(h:ROk C X cl EX)(z1:C.calm=true)(z2:C.Xr.contains c=true)(f:(glB C c&&(RL.dN c).isNone)=true)(hn:noStar a=true)(r:wx C ps a=true):RZ X EX cl M (.Raise (some (.Call (.Name c np) [a] [] cpos)) none pos) (.rais c ps):=by
 obtain⟨D,Qa,G,F⟩:=h.y.cls c z2;obtain⟨f,b⟩:=Bool.and_eq_true_iff.mp f;have b:RL.dN c=none:=Option.isNone_iff_eq_none.mp b;obtain⟨g1,g2⟩:=h.y.gl f
 have key:∀ {i:TE},PE X a i->(∀ O J H ds (Q:VK),RV0 X.K O J H->RL.evs cl O ps=some ds->ds.all RL.written=true->(∀ v U,aD H U->Q v U)->i J H Q)->RZ X EX cl M (.Raise (some (.Call (.Name c np) [a] [] cpos)) none pos) (.rais c ps):=fun {i} u rd=>by
  intro pins s J H t I q;refine PS.weak (wR (np:=np) (cpos:=cpos) (pos:=pos) (I.ok.hd.1 (h.y.calm z1)) g1 Qa (bA g2).1 F (fun pins J H s h' e vs I m q=>h.made pins J H s h' e D vs I m q) (aO u bE (aA [] hn)) (aA [] hn)) (fun t J H q=>?_) pins s J H t I q;obtain⟨O,x,o,Z,e,k⟩:=q;obtain⟨ds,E,n⟩:=bind_some e;obtain⟨B,n⟩:=bx n;cases n
  exact rd O J H ds _ Z.rv0 E B fun v U sm=>#[by show 1<=sizeLine;decide,k J U D none #[by rw[RL.Ax b];exact G,by rw[b];rfl] (Z.same sm) (Fr'.same sm)]
 unfold wx at r;rcases Bool.or_eq_true_iff.mp r with z | z
 ·obtain⟨d,Y⟩:=ag z;obtain⟨A,l,q⟩:=aj d;obtain⟨j,p,rfl⟩:=ic l
  cases A with
  | str y=>exact key oa fun O J H ds Q Z e w k=>k _ H (aD.refl _)
  | _=>cases q
 ·obtain⟨vs,l,z⟩:=aj z;obtain⟨p,rfl⟩:=xN l;obtain⟨z,g⟩:=ag z;obtain⟨d,Y⟩:=ag z;rw[decide_eq_true_eq]at d Y
  match vs,d,Y,g with
  |v::v2::vs,_,Y,g=>
   exact key (PE.nox (mz (l5 h.y.toXOk g) (by simp at Y;omega))) fun O J H ds Q Z e w k=>yc Z e w fun vs U sm x=>k _ U sm
def ze{X:Cx}{st:Stmt}{c:Str}{e':RL.E}:SS X cl M st (.raiI c e'):=fun pins s J H D I ⟨U,r,O,_,e,_⟩=>by
 cases e
def zi{c:Str}{e':RL.E}{a:Expr}{np cpos pos:Pos}(h:ROk C X cl EX)(z1:C.calm=true)(z2:C.Xi.contains c=true)(Y:(glB C c&&(RL.dN c).isNone)=true)(hn:noStar a=true)(f:chk C false e' a=true):RZ X EX cl M (.Raise (some (.Call (.Name c np) [a] [] cpos)) none pos) (.raiI c e'):=by
 obtain⟨D,R,fI,fd,u,t,r,p,o,n⟩:=h.y.cli c z2;obtain⟨Y,w⟩:=Bool.and_eq_true_iff.mp Y;obtain⟨g1,g2⟩:=h.y.gl Y;refine PS.weak (vJ (EX:=EX) (np:=np) (cpos:=cpos) (pos:=pos) r p (o z1) n g1 u (bA g2).1 (fun pins J H s i e od H' s' I nx q=>h.wD pins J H s D i e od H' s' I nx q) (aO (PE.nox ((au e' h.y.toXOk a).1 f)) bE (aA [] hn)) (aA [] hn)) fun A J H q=>?_;obtain⟨O,x,U,Z,e,k⟩:=q;obtain⟨y,m,l⟩:=map_some (show((RL.ev cl O e').bind (RL.xJ c)).map (fun x=>(x,O))=some (x,U)from e);cases l;obtain⟨d,j,b⟩:=bind_some m
 cases d with
 |int i=>
  obtain⟨⟨hi,g⟩,rfl⟩:=bx (show(if 0<=i/\RL.written (.int i)=true then some (RL.mkR c i.toNat)else none)=some x from b);refine#[O,.int i,Z.rv0,j,fun v z r1=>#[i.toNat,?_,?_,fun od H' hf sm=>k J H' D od #[by rw[RL.rH];exact t,by rw[RL.pA];exact hf] (Z.same (r1.same.trans sm)) (Fr'.same (r1.same.trans sm))]]
  ·rw[ar r1.rep,Int.toNat_of_nonneg hi]
  ·have:=of_decide_eq_true g;lia
 | _=>cases b
end
def YOk.E5{C:CC}{X:Cx}(h:YOk C X cl){c:Str}(z:wm C c=true):∃ D,X.mg c=some (.ref D)/\Cls X.K c D:=by
 unfold wm at z;rcases Bool.or_eq_true_iff.mp z with z | z
 ·obtain⟨D,O,I,_⟩:=h.cls c z;exact#[D,O,I]
 ·obtain⟨D,R,fI,fd,O,I,_⟩:=h.cli c z;exact#[D,O,I]
def YOk.rok{C:CC}{X:Cx}(h:YOk C X cl)(pn:List (Addr × Obj))(E:Value->Shared->Prop)(EX:L2.St->XK)(U:C.calm=true)(I:xk (CxX X pn E) EX)(O:PassesOwn (model X.prog X.w) X.A X.env E):ROk C (CxX X pn E) cl EX where
 y:={ scope:=h.scope,names:=h.names,nd:=h.nd,calm:=h.calm,xe:=rfl,hu:=h.hu,blt:=h.blt,glb:=h.glb,fns:=h.fns,gds:=h.gds,hfn:=h.hfn,cls:=h.cls,cli:=h.cli,mko:=h.mko,ref:=h.ref,fn:=h.fn,st:=h.st,fnx:=h.fnx }
 cal:=U
 pass:=I.1
 made:=I.2.1
 wD:=I.2.2
 own:=O
def YOk.bC{C:CC}{X:Cx}(h:YOk C X cl)(e:Addr)(O:Obj):YOk { C with calm:=false } (X.bC e O) cl where
 scope:=h.scope
 names:=h.names
 nd:=h.nd
 calm:=fun z=>nomatch z
 xe:=h.xe
 hu:=h.hu
 blt:=h.blt
 glb:=h.glb
 fns:=fun _ _ _ z=>nomatch z
 gds:=h.gds
 hfn:=fun f x a b=>by
  obtain⟨k,fa,fd,ps,F,I,r⟩:=h.hfn f x a b;exact#[k,fa,fd,ps,F,#[I.dp,I.un],r]
 cls:=h.cls
 cli:=fun c U=>let ⟨D,R,fI,fd,i,g,d,Z,j,Y⟩:=h.cli c U;⟨D,R,fI,fd,i,g,d,Z,(fun z=>nomatch z),Y⟩
 mko:=fun _ _ _ z=>nomatch z
 ref:=h.ref
 fn:=h.fn
 st:=h.st
 fnx:=fun _ _ z=>nomatch z
end
section
variable{cl:RL.Cl}
mutual
theorem qV:∀ (s:RL.S) {X:Cx} {C:CC} {M:List Nat} (h:YOk C X cl) (st:Stmt),wZ C M s st=true->SS X cl M st s
 | .asg i e',X,C,M,h,st,z=>by
  obtain⟨⟨ts,e⟩,I,z⟩:=aj z;obtain⟨p,rfl⟩:=c6 I;obtain⟨t,y1,z⟩:=aM z;have y1:ts=[t]:=y1;obtain⟨z,l⟩:=ag z;obtain⟨z,U⟩:=ag z;obtain⟨z,Y⟩:=ag z;cbv;subst y1;exact Cm (xZ l h z1 Y U) (dG z2)
 | .own i e',X,C,M,h,st,z=>by
  obtain⟨⟨ts,e⟩,I,z⟩:=aj z;obtain⟨p,rfl⟩:=c6 I;obtain⟨t,y1,z⟩:=aM z;have y1:ts=[t]:=y1;obtain⟨z,l⟩:=ag z;obtain⟨z,Z⟩:=ag z;obtain⟨z,U⟩:=ag z;obtain⟨z,Y⟩:=ag z;cbv;subst y1;exact BW (xZ l h z1 U Z) z2 (by simpa using Y)
 | .unp is e',X,C,M,h,st,z=>by
  obtain⟨⟨ts,e⟩,I,z⟩:=aj z;obtain⟨p,rfl⟩:=c6 I;obtain⟨t,y1,z⟩:=aM z;have y1:ts=[t]:=y1;obtain⟨us,y2,z⟩:=aj z;obtain⟨k,tp,rfl⟩:=bX y2;obtain⟨z,U⟩:=ag z;obtain⟨z,Y⟩:=ag z;cbv;subst y1;obtain⟨g1,g2,r⟩:=jE h.toXOk (T:=is) (fun i x _ _=>.inl (h.fn x)) (fun _ h=>h) z1;refine Am (pJ ((au e' h.toXOk e).1 U) (qb (lI g1 g2 r) (lK g1 g2 r)) ?_ (jz Y) rfl) (lr z2);cases e<;>rfl
 | .par i j Qa D,X,C,M,h,st,z=>by
  obtain⟨⟨ts,e⟩,I,z⟩:=aj z;obtain⟨p,rfl⟩:=c6 I;obtain⟨t,y1,z⟩:=aM z;have y1:ts=[t]:=y1;obtain⟨us,y2,z⟩:=aj z;obtain⟨k,tp,B⟩:=bX y2;obtain⟨s1,s2,v,z⟩:=cj z;obtain⟨⟨x,px⟩,N,z⟩:=aj z;obtain⟨⟨y,py⟩,Q,z⟩:=aj z;obtain⟨vs,L,z⟩:=aj z;obtain⟨A,O,d⟩:=bX L;have d:e=.Tuple vs A O:=d;obtain⟨a,b,K,w⟩:=cj z;rw[et N,et Q]at v;rw[v]at B
  have P:e=.Tuple [a,b] A O:=by rw[<-K];exact d
  rw[B]at y1;subst y1 P;obtain⟨w,l⟩:=ag w;obtain⟨w,m⟩:=ag w;obtain⟨w,g⟩:=ag w;obtain⟨w,f⟩:=ag w;obtain⟨w,Z⟩:=ag w;obtain⟨w,U⟩:=ag w;obtain⟨w,Y⟩:=ag w;obtain⟨z1,z2⟩:=ag w;obtain⟨g1,g2,r,H,g5⟩:=pO h.toXOk f;exact AN (oY (h.calm l) h.ndX (h.nm z1).1 (h.nm z2).1 (by simpa using Y) g2 r (bV (cl:=cl) ((au Qa h.toXOk a).1 g) (bV ((au D h.toXOk b).1 m) dn g5) H) g1 rfl) (dG U) (dG Z)
 | .parL i j Qa D,X,C,M,h,st,z=>by
  obtain⟨l,z⟩:=ag z;obtain⟨⟨ts,e⟩,I,z⟩:=aj z;obtain⟨p,rfl⟩:=c6 I;obtain⟨t,y1,z⟩:=aM z;have y1:ts=[t]:=y1;obtain⟨us,y2,z⟩:=aj z;obtain⟨k,tp,B⟩:=bX y2;obtain⟨s1,s2,v,z⟩:=cj z;obtain⟨⟨x,px⟩,N,z⟩:=aj z;obtain⟨⟨y,py⟩,Q,z⟩:=aj z;obtain⟨vs,L,z⟩:=aj z;obtain⟨A,O,d⟩:=bX L;have d:e=.Tuple vs A O:=d;obtain⟨a,b,K,w⟩:=cj z;rw[et N,et Q]at v;rw[v]at B
  have P:e=.Tuple [a,b] A O:=by rw[<-K];exact d
  rw[B]at y1;subst y1 P;obtain⟨w,m⟩:=ag w;obtain⟨w,g⟩:=ag w;obtain⟨w,f⟩:=ag w;obtain⟨w,Z⟩:=ag w;obtain⟨w,U⟩:=ag w;obtain⟨w,Y⟩:=ag w;obtain⟨z1,z2⟩:=ag w;obtain⟨g1,g2,r,H,g5⟩:=pO h.toXOk f;exact zS (oY (h.calm l) h.ndX (h.nm z1).1 (h.nm z2).1 (by simpa using Y) g2 r (aO ((au Qa h.toXOk a).1 g) (aO ((au D h.toXOk b).1 m) bE (aA [] g5)) (aA [b] H)) g1 rfl) (dG U) (dG Z)
 | .parR i j Qa D,X,C,M,h,st,z=>by
  obtain⟨l,z⟩:=ag z;obtain⟨⟨ts,e⟩,I,z⟩:=aj z;obtain⟨p,rfl⟩:=c6 I;obtain⟨t,y1,z⟩:=aM z;have y1:ts=[t]:=y1;obtain⟨us,y2,z⟩:=aj z;obtain⟨k,tp,B⟩:=bX y2;obtain⟨s1,s2,v,z⟩:=cj z;obtain⟨⟨x,px⟩,N,z⟩:=aj z;obtain⟨⟨y,py⟩,Q,z⟩:=aj z;obtain⟨vs,L,z⟩:=aj z;obtain⟨A,O,d⟩:=bX L;have d:e=.Tuple vs A O:=d;obtain⟨a,b,K,w⟩:=cj z;rw[et N,et Q]at v;rw[v]at B
  have P:e=.Tuple [a,b] A O:=by rw[<-K];exact d
  rw[B]at y1;subst y1 P;obtain⟨w,m⟩:=ag w;obtain⟨w,g⟩:=ag w;obtain⟨w,f⟩:=ag w;obtain⟨w,Z⟩:=ag w;obtain⟨w,G⟩:=ag w;obtain⟨w,U⟩:=ag w;obtain⟨w,Y⟩:=ag w;obtain⟨z1,z2⟩:=ag w;obtain⟨g1,g2,r,H,g5⟩:=pO h.toXOk f;exact A4 (oY (h.calm l) h.ndX (h.nm z1).1 (h.nm z2).1 (by simpa using Y) g2 r (aO ((au Qa h.toXOk a).1 g) (aO ((au D h.toXOk b).1 m) bE (aA [] g5)) (aA [b] H)) g1 rfl) U (by simpa using G) (dG Z)
 | .asgT i Qa D,X,C,M,h,st,z=>by
  obtain⟨⟨ts,e⟩,I,z⟩:=aj z;obtain⟨p,rfl⟩:=c6 I;obtain⟨t,y1,z⟩:=aM z;have y1:ts=[t]:=y1;obtain⟨z1,z⟩:=ag z;obtain⟨n,np,e1,V,l1⟩:=cY h.toXOk z1;obtain⟨vs,L,z⟩:=aj z;obtain⟨A,O,d⟩:=bX L;have d:e=.Tuple vs A O:=d;obtain⟨a,b,K,w⟩:=cj z
  have P:e=.Tuple [a,b] A O:=by rw[<-K];exact d
  rw[e1]at y1;subst y1 P;obtain⟨w,m⟩:=ag w;obtain⟨w,g⟩:=ag w;obtain⟨w,f⟩:=ag w;obtain⟨U,Z⟩:=ag w;exact zm (j1 h.ndX V l1 (uX (aO ((au Qa h.toXOk a).1 g) (aO ((au D h.toXOk b).1 m) bE (aA [] f)) (aA [b] Z))) (eh rfl) (.inl (h.fn _))) (dG U)
 | .star i j e',X,C,M,h,st,z=>by
  obtain⟨l,z⟩:=ag z;obtain⟨⟨ts,e⟩,I,z⟩:=aj z;obtain⟨p,rfl⟩:=c6 I;obtain⟨t,y1,z⟩:=aM z;have y1:ts=[t]:=y1;obtain⟨us,y2,z⟩:=aj z;obtain⟨k,tp,B⟩:=bX y2;obtain⟨s,u,v,z⟩:=cj z;obtain⟨y,N,z⟩:=aj z;obtain⟨sp,e4⟩:=wL N;obtain⟨z,f⟩:=ag z;obtain⟨z,Z⟩:=ag z;obtain⟨z,U⟩:=ag z;obtain⟨z,Y⟩:=ag z;cbv;obtain⟨x1,p1,e5,V,l1⟩:=cY h.toXOk z1;obtain⟨x2,p2,d,n2,l2⟩:=cY h.toXOk z2;rw[e4,e5,d]at v;rw[v]at B;rw[B]at y1;subst y1;refine yQ (pJ ((au e' h.toXOk e).1 f) (yS (h.calm l) (j7 h.ndX V l1 (.inl (h.fn x1))) (j7 h.ndX n2 l2 (.inl (h.fn x2)))) ?_ (jz Z) rfl) (dG Y) (dG U);cases e<;>rfl
 | .app i e',X,C,M,h,st,z=>by
  obtain⟨e,I,m⟩:=aj z;obtain⟨p0,rfl⟩:=jF I;obtain⟨x,p,apos,as,pos,rfl,g1,g2,r,H,f,g⟩:=zd h.toXOk m;obtain⟨y,rfl,G⟩:=aM g;obtain⟨G,g⟩:=ag G;obtain⟨U,Z⟩:=ag G;refine Cc (fh (sP PySem.F.plainAttrs_list PySem.F.slot_list_append PySem.F.type_list_append jk (c9 g1 g2 r H) (bV (cl:=cl) ((au e' h.toXOk y).1 g) dn Z) rfl ?_ f (aA [] Z) rfl) rfl) U;rw[aA [] Z];rfl
 | .ife c' Qa D,X,C,M,h,st,z=>by
  obtain⟨⟨c,a,b⟩,I,z⟩:=aj z;obtain⟨p,rfl⟩:=kD I;obtain⟨z,Y⟩:=ag z;cbv;exact Dm ((au c' h.toXOk c).2 z1).1 (c7 Qa h a z2) (c7 D h b Y)
 | .forr tg it D,X,C,M,h,st,z=>by
  obtain⟨⟨t,it',b,o⟩,I,z⟩:=aj z;obtain⟨p,rfl⟩:=qQ I;obtain⟨z,l⟩:=ag z;obtain⟨z,g⟩:=ag z;obtain⟨z,f⟩:=ag z;obtain⟨z,Z⟩:=ag z;obtain⟨z,U⟩:=ag z;obtain⟨z,Y⟩:=ag z;cbv;have z1:o=[]:=Jp.mp z1;subst z1;exact BK h.xe (h.calm l) (gj it h.toXOk t it' z2) (nG h.toXOk (fun i x _ _=>.inl (h.fn x)) Y) (c7 D h b g) (dD U _) Z (lr f)
 | .ret e',X,C,M,h,st,z=>by
  obtain⟨o,I,z⟩:=aj z;obtain⟨p,rfl⟩:=lD I;obtain⟨e,rfl,zz⟩:=aj z;by_cases hv:qL M e'=true
  ·have:∃ i,e'=.var i:=by
    cases e'<;>first | exact#[_,rfl] | exact noConfusion hv
   obtain⟨i,rfl⟩:=this;obtain⟨x,q,rfl,g1,g2,r,H⟩:=gc h.toXOk zz;exact zk g1 g2 r H hv
  ·exact AJ ((au e' h.toXOk e).1 zz) fun i hi=>by
    subst hi;simpa[qL]using hv
 | .exc e',X,C,M,h,st,z=>by
  obtain⟨e,I,z⟩:=aj z;obtain⟨p0,rfl⟩:=jF I;cbv;exact AS (fh ((au e' h.toXOk e).1 z2) (eh z1))
 | .rais _ _,X,C,M,h,st,z=>zj
 | .tryc b c i hh,X,C,M,h,st,z=>by
  obtain⟨⟨bd,hs,oe,fi⟩,I,z⟩:=aj z;obtain⟨p,rfl⟩:=zv I;obtain⟨z,G⟩:=ag z;obtain⟨z,m⟩:=ag z;obtain⟨z,g⟩:=ag z;obtain⟨z,f⟩:=ag z;obtain⟨z,Z⟩:=ag z;obtain⟨z,U⟩:=ag z;obtain⟨z,Y⟩:=ag z;cbv;have v2:oe=[]:=Jp.mp z2;have v3:fi=[]:=Jp.mp Y;obtain⟨hd,y1,m⟩:=aM m;have v1:hs=[hd]:=y1;obtain⟨ht,hn,hb,hp⟩:=hd;obtain⟨w,w4⟩:=ag m;obtain⟨w,w3⟩:=ag w;obtain⟨w1,w2⟩:=ag w;obtain⟨te,q1,w5⟩:=aj w1;have u1:ht=some te:=q1;obtain⟨x,q2,w6⟩:=aj w5;obtain⟨np,q4⟩:=bK q2;rw[beq_iff_eq]at w6;clear w1 w5 q2;subst q4 w6;obtain⟨n,q3,w7⟩:=aj w2;have u3:hn=some n:=q3;obtain⟨V,n2⟩:=ag w7;rw[beq_iff_eq]at n2;have G:cS C M b bd=true:=G;have w4:cS { C with calm:=false } M hh hb=true:=w4;have w3:(!hb.isEmpty)=true:=w3;clear z2 Y y1 q1 q3 I z;subst v2 v3 u1 u3
  cases hb with
  | nil=>cases w3
  |cons b0 bC=>
   subst v1;obtain⟨R,r1,r2⟩:=h.E5 U;refine Dh h.xe h.st.1 h.st.2.1 h.st.2.2 (c7 b h bd G) (fun pn E EX ou ow=>eE b (h.rok pn E EX z1 ou ow) bd G) (fun e oe=>c7 hh (h.bC e oe) (b0::bC) w4) r2 (by simpa using Z) (h.gl f).1 r1 (bA (h.gl f).2).1 h.ndX (h.nm V).1 (by rw[h.scope];exact n2) (dG g)
 | .raiI _ _,X,C,M,h,st,z=>ze
theorem c7:∀ (s:RL.Ss) {X:Cx} {C:CC} {M:List Nat} (h:YOk C X cl) (st:List Stmt),cS C M s st=true->SSs X cl M st s
 | .nil,X,C,M,h,st,z=>by
  have z:st=[]:=Jp.mp z;subst z;exact zU
 | .cons s r,X,C,M,h,st,z=>by
  cases st with
  | nil=>cases z
  |cons x xs=>
   cbv;exact wO (qV s h x z1) (c7 r h xs z2)
 | .act i g tbl a' es,X,C,M,h,st,z=>by
  obtain⟨b,z⟩:=ag z;obtain⟨s1,s2,rfl,z⟩:=cj z;obtain⟨⟨ts,v⟩,R,z⟩:=aj z;obtain⟨p,rfl⟩:=c6 R;k_go;cbv;obtain⟨t,y1,z1⟩:=aM z1;have y1:ts=[t]:=y1;subst y1;obtain⟨z1,l⟩:=ag z1;obtain⟨n,np,rfl,H,l1⟩:=cY h.toXOk z1;obtain⟨n',np',e1,m1,m2,m3,m4⟩:=gc h.toXOk l;cases e1;obtain⟨⟨o,k⟩,y2,z2⟩:=aj z2;obtain⟨sp,A⟩:=fY y2;have A:v=.Subscript o k sp:=A;subst A;obtain⟨z2,w3⟩:=ag z2;obtain⟨Y,w2⟩:=ag z2;obtain⟨x,V,Y⟩:=aj Y;obtain⟨gp,rfl⟩:=bK V;obtain⟨Y,B⟩:=ag Y;obtain⟨D,w5⟩:=ag Y;rw[beq_iff_eq]at D B;subst D;obtain⟨ro,T,b1⟩:=aj O;obtain⟨rp,rfl⟩:=lD T;obtain⟨ce,rfl,b2⟩:=aj b1;obtain⟨⟨f,as,ks,Qa⟩,S,b3⟩:=aj b2;have e5:=cO S;subst e5;obtain⟨b3,u4⟩:=ag b3;obtain⟨b3,u3⟩:=ag b3;obtain⟨u1,E⟩:=ag b3;obtain⟨G,cp,w,k1,k2,k3,k4⟩:=gc h.toXOk u1;have w:f=.Name G cp:=w;subst w
  have en:G=n:=by
   have q:=k1;rw[H]at q;exact(Option.some.inj q).symm
  subst en
  have e7:ks=[]:=by rw[Jp]at E;exact E
  subst e7
  cases as with
  | nil=>cases u3
  |cons e0 I=>
   obtain⟨q1,_,Z⟩:=dC es h.toXOk (e0::I) u4;rw[Jx]at Z;obtain⟨q2,Z⟩:=ag Z;obtain⟨d,kvs,d1,d2,d3,d4⟩:=h.gds x tbl B;obtain⟨g1,g2⟩:=h.gl w5;refine zL h.ndX H l1 k2 k3 k4 (.inl (h.fn _)) ((au a' h.toXOk k).1 w3) (vy w2) g1 d1 (bA g2).1 d2 (fun y m e=>?_) q1 q2 Z (eh rfl);obtain⟨q,nm,f1,f2,f3⟩:=d4 y m e;obtain⟨kk,fa,fd,ps,F,hr,hm,hk,hb⟩:=h.fns m nm [] b f2;rw[if_pos rfl]at F;rw[f3]at hm;cases hm;exact#[q,kk,fd,ps,f1,F,hr,hk,hb]
 | .tell i f es t a r,X,C,M,h,st,z=>by
  cases st with
  | nil=>cases z
  |cons s1 st=>
   cases st with
   | nil=>cases z
   |cons s2 st=>
    cases st with
    | nil=>cases z
    |cons s3 xs=>
     obtain⟨z,P⟩:=ag z;obtain⟨z,Q⟩:=ag z;k_go;obtain⟨z,z2⟩:=ag z;obtain⟨b,z1⟩:=ag z;obtain⟨⟨c2,b2,o2⟩,u,z2⟩:=aj z2;obtain⟨p2,rfl⟩:=kD u;obtain⟨⟨c3,b3,o3⟩,u,O⟩:=aj O;obtain⟨p3,rfl⟩:=kD u;obtain⟨z2,c⟩:=ag z2;obtain⟨N,L⟩:=ag z2;obtain⟨O,U⟩:=ag O;obtain⟨K,j⟩:=ag O;have c:o2=[]:=Jp.mp c;have U:o3=[]:=Jp.mp U;subst c U
     obtain⟨hl,h1⟩:=Ag h b z1 fun I q=>#[(dC es h.toXOk I q).1,(dC es h.toXOk I q).2.2]
     exact xB hl h1 ((au t h.toXOk c2).2 N).1 (c7 a h b2 L) ((au (RL.lZ i) h.toXOk c3).2 K).1 (Al h j) (c7 r h xs P) (dG Q)
 | .opn _ _ _,X,C,M,h,st,z=>by cases z
theorem wA:∀ (s:RL.S) {X:Cx} {C:CC} {M:List Nat} {EX:L2.St->XK} (h:ROk C X cl EX) (st:Stmt),wZ C M s st=true->RZ X EX cl M st s
 | .asg i e',X,C,M,EX,h,st,z=>by
  obtain⟨⟨ts,e⟩,I,z⟩:=aj z;obtain⟨p,rfl⟩:=c6 I;obtain⟨t,y1,z⟩:=aM z;have y1:ts=[t]:=y1;obtain⟨z,r⟩:=ag z;k_go;obtain⟨z,U⟩:=ag z;cbv;subst y1;exact uP h z1 U O (fun _=>rfl)
 | .own i e',X,C,M,EX,h,st,z=>by
  obtain⟨⟨ts,e⟩,I,z⟩:=aj z;obtain⟨p,rfl⟩:=c6 I;obtain⟨t,y1,z⟩:=aM z;have y1:ts=[t]:=y1;obtain⟨z,r⟩:=ag z;obtain⟨z,Y⟩:=ag z;k_go;obtain⟨z,U⟩:=ag z;cbv;subst y1;exact uP h z1 O Y (fun _=>rfl)
 | .unp is e',X,C,M,EX,h,st,z=>by
  obtain⟨⟨ts,e⟩,I,z⟩:=aj z;obtain⟨p,rfl⟩:=c6 I;obtain⟨t,y1,z⟩:=aM z;have y1:ts=[t]:=y1;obtain⟨us,y2,z⟩:=aj z;obtain⟨k,tp,rfl⟩:=bX y2;k_go;obtain⟨z,U⟩:=ag z;cbv;subst y1;obtain⟨g1,g2,G⟩:=jE h.y.toXOk (T:=is) (fun i x _ _=>.inl (h.y.fn x)) (fun _ h=>h) z1;refine nz (pJ (fZ e' h e O) (PG.nox (qb (lI g1 g2 G) (lK g1 g2 G))) ?_ (jz U) rfl) fun _=>rfl;cases e<;>rfl
 | .exc e',X,C,M,EX,h,st,z=>by
  obtain⟨e,I,z⟩:=aj z;obtain⟨L,rfl⟩:=jF I;cbv;exact nz (fh (fZ e' h e z2) (eh z1)) fun _=>rfl
 | .ret e',X,C,M,EX,h,st,z=>by
  obtain⟨o,I,z⟩:=aj z;obtain⟨p,rfl⟩:=lD I;obtain⟨e,rfl,H⟩:=aj z;exact nz (g:=fun D _=>D.rt) (ky (fZ e' h e H)) fun _=>rfl
 | .ife c' K q,X,C,M,EX,h,st,z=>by
  obtain⟨⟨c,a,b⟩,I,z⟩:=aj z;obtain⟨p,rfl⟩:=kD I;obtain⟨z,U⟩:=ag z;cbv;exact D3 (PT.nox ((au c' h.y.toXOk c).2 z1).1) (eE K h a z2) (eE q h b U)
 | .forr tg it q,X,C,M,EX,h,st,z=>by
  obtain⟨⟨t,A,b,o⟩,I,z⟩:=aj z;obtain⟨p,rfl⟩:=qQ I;obtain⟨z,r⟩:=ag z;obtain⟨z,F⟩:=ag z;obtain⟨z,Qa⟩:=ag z;obtain⟨z,Y⟩:=ag z;k_go;obtain⟨z,U⟩:=ag z;cbv;have z1:o=[]:=Jp.mp z1;subst z1;exact B6 h.own (h.y.calm r) (PI.nox (gj it h.y.toXOk t A z2)) (PG.nox (nG h.y.toXOk (fun i x _ _=>.inl (h.y.fn x)) U)) (PSs.nox (c7 q h.y b F)) (eE q h b F) (dD O _) Y (lr Qa)
 | .rais c ps,X,C,M,EX,h,st,z=>by
  obtain⟨⟨B,co⟩,I,z⟩:=aj z;obtain⟨p,rfl⟩:=mC I;obtain⟨z,Y⟩:=ag z;k_go;obtain⟨z,U⟩:=ag z;cbv;have O:co=none:=fv O;obtain⟨e,n,Y⟩:=aj Y;have n:B=some e:=n;obtain⟨⟨g,E,ks,cp⟩,f,w⟩:=aj Y;have f:=cO f;obtain⟨w,Z⟩:=ag w;obtain⟨d,j⟩:=ag w;obtain⟨x,v,d⟩:=aj d;obtain⟨np,m⟩:=bK v;have m:g=.Name x np:=m;rw[beq_iff_eq]at d;subst d;have j:ks=[]:=Jp.mp j;obtain⟨a,l,Z⟩:=aM Z;have l:E=[a]:=l;obtain⟨Z,u⟩:=ag Z;rw[m,j,l]at f;subst f O n;exact vT h z1 z2 U Z u
 | .raiI c e',X,C,M,EX,h,st,z=>by
  obtain⟨⟨B,co⟩,I,z⟩:=aj z;obtain⟨p,rfl⟩:=mC I;obtain⟨z,Y⟩:=ag z;k_go;obtain⟨z,U⟩:=ag z;cbv;have O:co=none:=fv O;obtain⟨e,n,Y⟩:=aj Y;have n:B=some e:=n;obtain⟨⟨g,E,ks,cp⟩,f,w⟩:=aj Y;have f:=cO f;obtain⟨w,Z⟩:=ag w;obtain⟨d,j⟩:=ag w;obtain⟨x,v,d⟩:=aj d;obtain⟨np,m⟩:=bK v;have m:g=.Name x np:=m;rw[beq_iff_eq]at d;subst d;have j:ks=[]:=Jp.mp j;obtain⟨a,l,Z⟩:=aM Z;have l:E=[a]:=l;obtain⟨Z,u⟩:=ag Z;rw[m,j,l]at f;subst f O n;exact zi h z1 z2 U Z u
 | .par _ _ _ _,X,C,M,EX,h,st,z=>gX fun _=>rfl
 | .parL _ _ _ _,X,C,M,EX,h,st,z=>gX fun _=>rfl
 | .parR _ _ _ _,X,C,M,EX,h,st,z=>gX fun _=>rfl
 | .asgT _ _ _,X,C,M,EX,h,st,z=>gX fun _=>rfl
 | .star _ _ _,X,C,M,EX,h,st,z=>gX fun _=>rfl
 | .app _ _,X,C,M,EX,h,st,z=>gX fun _=>rfl
 | .tryc _ _ _ _,X,C,M,EX,h,st,z=>gX fun _=>rfl
theorem eE:∀ (s:RL.Ss) {X:Cx} {C:CC} {M:List Nat} {EX:L2.St->XK} (h:ROk C X cl EX) (st:List Stmt),cS C M s st=true->RZs X EX cl M st s
 | .nil,X,C,M,EX,h,st,z=>zK
 | .opn j e' r,X,C,M,EX,h,st,z=>Aj
 | .act _ _ _ _ _,X,C,M,EX,h,st,z=>zb
 | .tell _ _ _ _ _ _,X,C,M,EX,h,st,z=>xO
 | .cons s r,X,C,M,EX,h,st,z=>by
  cases st with
  | nil=>cases z
  |cons x xs=>
   cbv;exact wo (PS.nox (qV s h.y x z1)) (wA s h x z1) (eE r h xs z2)
end
end
structure dO where
 name:Str
 st:Stmt
 ps:List Str
 N:List Str
 h:Bool
structure PT' where
 B:List Str
 G:List (Str × Int)
 Ds:List dO
 T:List RL.Fn
 Xr:List Str
 Xs:List Str
 Xi:List Str
 Xo:List (Str × Nat)
 W:List (Str × List (Str × Nat)):=[]
abbrev PT'.F(p:PT'):List (Str × List Nat):=(p.Ds.zip p.T).map fun q=>(q.1.name,q.2.mp)
abbrev PT'.hf(p:PT'):List Nat:=(List.range p.Ds.length).filter fun f=>(p.Ds[f]?).any (·.h)
abbrev PT'.cc(p:PT')(d:dO):CC:=#[d.N,az d.st,p.B,p.G,p.F,true,p.hf,p.Xr,p.Xs,p.Xi,p.Xo,p.W]
abbrev pW(N ps:List Str)(sc:Scope):Bool :=
 sc.kind == .function && !sc.isCoroutine && !sc.isGenerator&&decide N.Nodup&&N.take ps.length == ps&&ps.all (fun x=>sc.names.lookup x == some .local || sc.names.lookup x == some .cell)&&sc.names.all (fun y=>!(y.2 == .free))
abbrev fnB(p:PT')(d:dO)(fn:RL.Fn):Bool :=
 pW d.N d.ps (az d.st)&&fn.ps == d.ps.length&&fn.nn == d.N.length&&decide (d.ps.length<=d.N.length)&&(List.range fn.ps).all (fun i=>!fn.M.contains i || fn.mp.contains i)&&fn.mp.all (fun i=>decide (i<fn.ps)&&decide (2<=fn.M.count i))&&cS (p.cc d) fn.M fn.body (br d.st)&&(!d.h || cS { p.cc d with calm:=false } fn.M fn.body (br d.st))
abbrev PT'.ok(p:PT'):Bool:=decide (p.T.length<=1000)&&p.Ds.length == p.T.length&&(p.Ds.zip p.T).all fun q=>fnB p q.1 q.2
def oh{N ps:List Str}{sc:Scope}(h:pW N ps sc=true):cU N ps sc:=by
 unfold pW at h;obtain⟨h,I⟩:=ag h;obtain⟨h,O⟩:=ag h;obtain⟨h,Z⟩:=ag h;obtain⟨h,a⟩:=ag h;obtain⟨h,b⟩:=ag h;obtain⟨d,c⟩:=ag h;refine#[by simpa using d,by simpa using c,by simpa using b,by simpa using a,by simpa using Z,fun x Y=>?_,fun y U=>?_]
 ·rw[Jz]at O;have:=O x Y;rw[or_eq_true,beq_iff_eq,beq_iff_eq]at this;exact this
 ·rw[Jz]at I;have:=I y U;intro z;rw[z]at this;simp at this
structure sj(p:PT')(w:World)(K:W.Frag)(mg:Str->Option Value):Prop where
 defs:∀ (f:Nat) (d:dO),p.Ds[f]?=some d->∃ fa fd,mg d.name=some (.ref fa)/\Fun K d.name d.name d.st fa fd/\W.keepIn K (.ref fa)=true/\Binds K fd d.ps []
 blt:∀ x∈p.B,mg x=none
 glb:∀ x i,p.G.lookup x=some i->∃ u,mg x=some u/\RelV (.int i) u
 cls:∀ c,p.Xr.contains c=true->∃ D,mg c=some (.ref D)/\Cls K c D/\W.excIn K D VE "ValueError.__new__" = true
 cli:∀ c,p.Xi.contains c=true->∃ D R fI fd st qual,mg c=some (.ref D)/\Cls K c D/\dY K R D fI/\rR st/\Fun K "__init__" qual st fI fd/\mg "RibbonError" = some (.ref R)/\Binds K fd ["self", "at"] []
 mko:∀ c f,p.Xo.contains (c,f)=true->∃ d,p.Ds[f]?=some d/\((p.T[f]?).map (·.mp))=some []/\rZ K mg d.name c
 ref:∀ c,p.Xs.contains c=true->∃ D,mg c=some (.ref D)/\W.nsIn K mainGlobals c=some (some (.ref D))
 gds:∀ x tbl,p.W.lookup x=some tbl->∃ (d:Addr) (kvs:List (Str × Addr)),mg x=some (.ref d)/\((d == sysModules)=false/\∀ (P:Program) (h:Heap),K.In h->h.DictOf (bw P w) d (kvs.map fun q=>((Sum.inr q.1:Key),Value.ref q.2)))/\kvs.map (·.1)=tbl.map (·.1)/\∀ y m,RL.gw tbl (.str y)=some m->∃ q nm,(kvs.find? fun q=>decide (q.1=y))=some q/\p.F[m]?=some (nm,[])/\mg nm=some (.ref q.2)
section
variable{p:PT'}{K:W.Frag}{mg:Str->Option Value}{base:Heap}{P:Program}{w:World}
abbrev lW(K:W.Frag)(cl:RL.Cl)(mp:List Nat)(f:Nat):Sp:=if mp=[]then spF K cl f else spM K cl mp f
def bp{α:Type}(vs:List α)(k:Nat)(i:Nat)(v:α):(vs.map some++replicate k none)[i]?=some (some v)↔vs[i]?=some v:=by
 by_cases h:i<vs.length
 ·rw[List.getElem?_append_left (by simpa using h)];simp[h]
 ·rw[List.getElem?_append_right (by simpa using h)];constructor
  ·intro e;rw[List.getElem?_replicate]at e;split at e<;>cases e
  ·intro e;have:=(List.getElem?_eq_some_iff.mp e).1;lia
def qY{ds:List RL.D}{vs:List V}{H:Hp}{M:List Nat}{k n:Nat}(r:ai nP K H ds vs)(hM:∀ i,i<n->M.contains i=false)(hn:ds.length=n):RVm K M (ds.map some++replicate k none) (vs.map some++replicate k none) H:=by
 have I:∀ a,¬ bI M (vs.map some++replicate k none) a:=fun a ⟨i,hi,e⟩=>by
  rw[bp]at e;have:=(List.getElem?_eq_some_iff.mp e).1;rw[hM i (by rw[<-hn,r.length];exact this)]at hi;cases hi
 refine#[by simp[r.length],fun i d e=>?_,fun i v e=>?_,fun i j a hi b Z c=>(I a #[i,hi,Z]).elim]
 ·rw[bp]at e;obtain⟨v,Y,U⟩:=r.get e;have O:=(List.getElem?_eq_some_iff.mp e).1;refine#[v,(bp _ _ _ _).mpr Y,?_];rw[if_neg (by rw[hM i ⋯];decide)];exact U.weak fun a ha=>I a ha
 ·rw[bp]at e;have O:=(List.getElem?_eq_some_iff.mp e).1;exact#[ds[i]'(by rw[r.length];exact O),(bp _ _ _ _).mpr (by simp)]
def zG{ds:List RL.D}{vs:List V}{H:Hp}{M mp:List Nat}{k n:Nat}(a:BS K mp ds vs H)(hM:∀ i,i<n->M.contains i=true->i∈mp)(h:∀ i∈mp,M.contains i=true)(hn:ds.length=n):RVm K M (ds.map some++replicate k none) (vs.map some++replicate k none) H:=by
 have r:=a.xc
 have I:∀ i v,(vs.map some++replicate k none)[i]?=some (some v)->M.contains i=true->i∈mp/\vs[i]?=some v:=fun i v e hi=>by
  rw[bp]at e;have:=(List.getElem?_eq_some_iff.mp e).1;exact#[hM i (by rw[<-hn,r.length];exact this) hi,e]
 refine#[by simp[r.length],fun i d e=>?_,fun i v e=>?_,fun i j b hi Y p o=>?_]
 ·rw[bp]at e;obtain⟨v,Z,q⟩:=r.get e;have c:=(List.getElem?_eq_some_iff.mp e).1;refine#[v,(bp _ _ _ _).mpr Z,?_];by_cases hm:M.contains i=true
  ·rw[if_pos hm];obtain⟨s,b,g1,g2,l⟩:=a.own i (hM i ⋯ hm);rw[e]at g1;cases g1;rw[Z]at g2;cases g2;exact l
  ·rw[if_neg hm];refine(a.oth i d v (fun z=>hm (h i z)) e Z).weak fun b ⟨j,Y,m⟩=>?_;obtain⟨U,O⟩:=I j _ m Y;exact#[j,U,O]
 ·rw[bp]at e;have c:=(List.getElem?_eq_some_iff.mp e).1;exact#[ds[i]'(by rw[r.length];exact c),(bp _ _ _ _).mpr (by simp)]
 ·obtain⟨U,O⟩:=I i _ p hi;obtain⟨g,f⟩:=I j _ o Y;exact a.sep i U j g b O f
def pE{J:RL.St}:∀ {mp:List Nat} {outs:List RL.D},RL.ij J mp=some outs->outs.length=mp.length/\∀ (k i:Nat) o,mp[k]?=some i->outs[k]?=some o->J[i]?=some (some o)
 | [],outs,h=>by
  rw[RL.ij]at h;cases h;exact#[rfl,fun k i o e=>by simp at e]
 | m::mp,outs,h=>by
  rw[RL.ij]at h;obtain⟨d,Z,h⟩:=bind_some h;obtain⟨os,Y,U⟩:=map_some h;subst U;obtain⟨g1,g2⟩:=pE Y;refine#[by simp[g1],fun k i o O I=>?_]
  cases k with
  |zero=>
   simp at O I;subst O I;exact slot_get Z
  | succ k=>exact g2 k i o (by simpa using O) (by simpa using I)
def ur{fn:RL.Fn}{d r:RL.D}{J:RL.St}(h:RL.bY fn d J=some r)(hm:fn.mp=[]):r=d:=by
 unfold RL.bY at h;rw[hm]at h;simpa using h.symm
def Cw{fn:RL.Fn}{d r:RL.D}{J:RL.St}(h:RL.bY fn d J=some r)(hm:fn.mp≠[]):d.imm=true/\∃ outs,RL.ij J fn.mp=some outs/\r=.tup (d::outs):=by
 unfold RL.bY at h;rw[if_neg (by simpa using hm)]at h;split at h
 ·rename_i I;obtain⟨os,U,O⟩:=map_some h;exact#[I,os,U,O.symm]
 ·cases h
structure FnB(p:PT')(d:dO)(fn:RL.Fn):Prop where
 sc:cU d.N d.ps (az d.st)
 ps:fn.ps=d.ps.length
 nn:fn.nn=d.N.length
 hM:∀ i,i<fn.ps->fn.M.contains i=true->i∈fn.mp
 mp:∀ i∈fn.mp,i<fn.ps/\2<=fn.M.count i
 body:cS (p.cc d) fn.M fn.body (br d.st)=true
 hb:d.h=true->cS { p.cc d with calm:=false } fn.M fn.body (br d.st)=true
def BM{d:dO}{fn:RL.Fn}(I:fnB p d fn=true):FnB p d fn:=by
 unfold fnB at I;obtain⟨I,b8⟩:=ag I;obtain⟨I,b7⟩:=ag I;obtain⟨I,b6⟩:=ag I;obtain⟨I,b5⟩:=ag I;obtain⟨I,b4⟩:=ag I;obtain⟨I,b3⟩:=ag I;obtain⟨b1,b2⟩:=ag I;rw[beq_iff_eq]at b2 b3;rw[Jz]at b5 b6;refine#[oh b1,b2,b3,fun i hi hm=>?_,fun i hi=>by simpa using b6 i hi,b7,fun O=>by simpa[O]using b8];have:=b5 i (List.mem_range.mpr hi);rw[hm]at this;simpa using this
def u5{f:Nat}(h:p.hf.contains f=true):∃ d,p.Ds[f]?=some d/\d.h=true:=by
 unfold PT'.hf at h;rw[List.contains_iff_mem,List.mem_filter]at h;exact aj h.2
def vx{cl:RL.Cl}{f:Nat}{d:dO}{fn:RL.Fn}{vs:List V}{H:Hp}{Q:VK}{ds:List RL.D}{r:RL.D}{o:RL.Out}{I:RL.St}(B:FnB p d fn)(O:fn.mp=[])(r1:ai nP K H ds vs)(hlen:ds.length=fn.ps)(m:(match o with | .nx=>RL.bY fn .non I | .rt d=>RL.bY fn d I)=some r)(w:RL.aw cl fn.M fn.body (ds.map some++replicate (fn.nn-fn.ps) none)=some (o,I))
 (k:∀ v H',aD H H'->Rep (fun p=>H p≠none) K H' r v->Q v H'):tS K fn.M (RL.aw cl fn.M fn.body) { nx:=fun _ H'=>Q .non H',rt:=Q } (start d.N vs) H:=by
 have c:start d.N vs=vs.map some++replicate (d.N.length-vs.length) none:=rfl
 have h:vs.length=fn.ps:=by rw[<-r1.length];exact hlen
 refine#[_,o,I,?_,w,?_]
 ·rw[c,h,<-B.nn]
  exact qY r1 (fun i hi=>by
   cases hc:fn.M.contains i with
   | false=>rfl
   |true=>
    have:=B.hM i hi hc;rw[O]at this
    cases this) hlen
 ·have Y:∀ a,¬ bI fn.M (start d.N vs) a:=fun a ⟨i,hi,l⟩=>by
   rw[c,bp]at l;have y:=(List.getElem?_eq_some_iff.mp l).1;have:=B.hM i ⋯ hi;rw[O]at this;cases this
  cases o with
  |nx=>
   have Z:=ur (d:=.non) m O;subst Z;intro e n g U;refine k .non n (fun b u j=>(U.1 b u j (Y b)).1) (by rw[Rep])
  |rt x=>
   have Z:=ur (d:=x) m O;subst Z;intro e n v H' g U sm s;refine k v H' (fun b u j=>sm _ _ (U.1 b u j (Y b)).1) (s _ fun q t=>?_);obtain⟨u,hu⟩:=Option.ne_none_iff_exists'.mp t;have:=U.1 q u hu (Y q);exact#[(by rw[this.1];exact fun z=>nomatch z),this.2]
def BH{cl:RL.Cl}{d:dO}{fn:RL.Fn}{vs:List V}{H:Hp}{E:XK}{ds:List RL.D}{x:Str}{I:RL.St}{D:Ends}(B:FnB p d fn)(U:fn.mp=[])(r1:ai nP K H ds vs)(hlen:ds.length=fn.ps)(h:RL.bM cl fn.M fn.body (ds.map some++replicate (fn.nn-fn.ps) none)=some (x,I))
 (k:∀ C od H',CO K x C od H'->aD H H'->E (.ref C) od H'):tXS K fn.M (fun _=>E) (RL.bM cl fn.M fn.body) D (start d.N vs) H:=by
 have O:start d.N vs=vs.map some++replicate (d.N.length-vs.length) none:=rfl
 have Y:vs.length=fn.ps:=by rw[<-r1.length];exact hlen
 refine#[_,x,I,?_,h,fun e j C od Z f a=>k C od j Z fun b u g=>(a.1 b u g fun#[i,hi,c]=>?_).1]
 ·rw[O,Y,<-B.nn]
  exact qY r1 (fun i hi=>by
   cases Z:fn.M.contains i with
   | false=>rfl
   |true=>
    have:=B.hM i hi Z;rw[U]at this
    cases this) hlen
 ·rw[O,bp]at c;have l:=(List.getElem?_eq_some_iff.mp c).1;have:=B.hM i ⋯ hi;rw[U]at this;cases this
structure Di(P:Program)(w:World)(K:W.Frag)(mg:Str->Option Value)(base:Heap)(p:PT')(n f:Nat)(d:dO)(fn:RL.Fn)(fa:Addr)(fd:FuncData):Prop where
 nor:aY P w K mg base CX0 (6*n+9) fa fd d.ps (lW K (RL.aq p.T n) fn.mp f)
 ref:fn.mp=[]->aY P w K mg base (CXE P w) (6*n+9) fa fd d.ps (spX K (RL.aq p.T n) f)
 sui:d.h=true->fn.mp=[]->kZ P w K mg base (6*n+9) fa fd d.ps (spF K (RL.aq p.T n) f)
def gg(hok:p.ok=true)(tp:sj p w K mg):∀ (n f:Nat) (d:dO) (fn:RL.Fn),p.Ds[f]?=some d->p.T[f]?=some fn->∀ fa fd,Fun K d.name d.name d.st fa fd->Di P w K mg base p n f d fn fa fd
 | 0,f,d,fn,hd,hf,fa,fd,F=>by
  have no:∀ vs H Q E,¬ lW K (RL.aq p.T 0) fn.mp f vs H Q E:=fun vs H Q E h=>by
   unfold lW at h;split at h
   ·obtain⟨ds,r,_,e,_⟩:=h;cases e
   ·obtain⟨ds,r,o,e,_⟩:=h;cases e
  have noF:∀ vs H Q E,¬ spF K (RL.aq p.T 0) f vs H Q E:=fun vs H Q E h=>by
   obtain⟨ds,r,_,e,_⟩:=h;cases e
  have noX:∀ vs H Q E,¬ spX K (RL.aq p.T 0) f vs H Q E:=fun vs H Q E h=>by
   obtain⟨ds,r,_,e,_⟩:=h;cases e
  exact#[#[fun vs H Q E h=>(no vs H Q E h).elim,fun A outer s H args us vs Q E _ _ _ _ h=>(no vs H Q E h).elim],fun _=>#[fun vs H Q E h=>(noX vs H Q E h).elim,fun A outer s H args us vs Q E _ _ _ _ h=>(noX vs H Q E h).elim],fun _ _=>#[fun vs H Q h=>(noF vs H Q E0 h).elim,fun A outer s H us vs Q _ _ _ _ _ h=>(noF vs H Q E0 h).elim]]
 | n+1,f,d,fn,hd,hf,fa,fd,F=>by
  have S:=hok;unfold PT'.ok at S;obtain⟨S,hall⟩:=ag S;obtain⟨hT,hl⟩:=ag S;rw[beq_iff_eq]at hl;rw[decide_eq_true_eq]at hT;rw[Jz]at hall
  have hz:(p.Ds.zip p.T)[f]?=some (d,fn):=by
   rw[List.getElem?_zip_eq_some];exact#[hd,hf]
  have B:=BM (hall (d,fn) (mem_of_getElem? hz))
  have X:∀ ds r,RL.aq p.T (n+1) f ds=some r->ds.length=fn.ps/\∃ o O,RL.aw (RL.aq p.T n) fn.M fn.body (ds.map some++replicate (fn.nn-fn.ps) none)=some (o,O)/\(match o with | .nx=>RL.bY fn .non O | .rt d=>RL.bY fn d O)=some r:=by
   intro ds r h;rw[RL.aq,hf]at h;dsimp only at h;split at h
   ·rename_i hlen;obtain⟨⟨o,O⟩,h1,h2⟩:=bind_some h;exact#[hlen,o,O,h1,h2]
   ·cases h
  have unx:∀ ds x,RL.clX (RL.aq p.T (n+1)) f ds=some x->ds.length=fn.ps/\fn.mp=[]/\∃ O,RL.bM (RL.aq p.T n) fn.M fn.body (ds.map some++replicate (fn.nn-fn.ps) none)=some (x,O):=by
   intro ds x h;unfold RL.clX at h;obtain⟨r,h1,h2⟩:=bind_some h;have hT2:p.T[f+1000]?=none:=List.getElem?_eq_none_iff.mpr ⋯;rw[RL.aq,hT2]at h1;dsimp only at h1;rw[Nat.add_sub_cancel,hf]at h1;dsimp only[Option.bind_some]at h1;split at h1
   ·rename_i hlen;obtain⟨⟨y,O⟩,h3,h4⟩:=map_some h1;subst h4;cases h2;exact#[hlen.1,hlen.2,O,h3]
   ·cases h1
  have look:∀ {g:Nat} {x:Str} {mp:List Nat},p.F[g]?=some (x,mp)->∃ t U,p.Ds[g]?=some t/\p.T[g]?=some U/\t.name=x/\U.mp=mp:=fun {g x mp} hg=>by
   unfold PT'.F at hg;rw[getElem?_map]at hg;obtain⟨⟨t,U⟩,G,q2⟩:=map_some hg;cases q2;rw[List.getElem?_zip_eq_some]at G;exact#[t,U,G.1,G.2,rfl,rfl]
  have Y:∀ (CX:CXT) (E:XK) (cdv:Value) (A:Around) (outer:List Env) (s:Shared) (H:Hp),bq (6*n+14) (A.deeper (envOfC d.name (az d.st) s.heap.objs.size fa cdv))->YOk (p.cc d) (d7 CX P w K mg base d.N d.name (az d.st) fa cdv A outer s H E).nox (RL.aq p.T n):=fun CX E cdv A outer s H hr=>{
   scope:=rfl
   names:=rfl
   nd:=B.sc.nd
   calm:=fun _=>rfl
   xe:=rfl
   hu:=by
    have:=hr.un;show(A.deeper _).units+100<cLine;lia
   blt:=tp.blt
   glb:=tp.glb
   gds:=fun x tbl hx=>let ⟨d,kvs,a,b,c⟩:=tp.gds x tbl hx;⟨d,kvs,a,⟨b.1,fun h q=>b.2 _ h q⟩,c⟩
   fns:=fun g x mp _ hg=>by
    obtain⟨t,U,G,q2,rfl,rfl⟩:=look hg;obtain⟨l,j,t1,t2,t3,t4⟩:=tp.defs g t G;exact#[6*n+9,l,j,t.ps,(gg hok tp n g t U G q2 l j t2).nor,hr.mono ⋯,t1,t3,t4]
   hfn:=fun g x hh hg=>by
    obtain⟨t,U,G,q2,rfl,q3⟩:=look hg;obtain⟨d2,q4,q5⟩:=u5 hh;rw[G]at q4;cases q4;obtain⟨l,j,t1,t2,t3,t4⟩:=tp.defs g t G;exact#[6*n+9,l,j,t.ps,(gg hok tp n g t U G q2 l j t2).sui q5 q3,(hr.mono ⋯).h,t1,t3,t4]
   cls:=tp.cls
   cli:=fun c hc=>let ⟨D,R,fI,fd,st,qual,a1,a2,a3,a4,a5,a6,a7⟩:=tp.cli c hc;⟨D,R,fI,fd,a1,a2,a3,qS a3 a4 a5 a6,fun _=>hr.mono ⋯,a7⟩
   mko:=fun c g hc _=>by
    obtain⟨t,G,q2,mt⟩:=tp.mko c g hc;obtain⟨U,q3,q4⟩:=map_some q2;obtain⟨l,j,t1,t2,t3,t4⟩:=tp.defs g t G;have pr:Di P w K mg base p n g t U l j:=gg hok tp n g t U G q3 l j t2;have nor:=pr.nor;rw[q4]at nor;have nor:aY P w K mg base CX0 (6*n+9) l j t.ps (spF K (RL.aq p.T n) g):=nor;obtain⟨D,fI,fdI,m1,m2,m3,m4⟩:=mt.fn (k:=6*n+7) ⟨nor,pr.ref q4,t1,t3,t4⟩;exact#[_,D,fI,fdI,m1,m2,hr.mono ⋯,m3,m4]
   ref:=tp.ref
   fn:=fun _=>rfl
   st:=#[rfl,rfl,rfl]
   fnx:=fun g x _ hg=>by
    obtain⟨t,U,G,q2,rfl,q3⟩:=look hg;obtain⟨l,j,t1,t2,t3,t4⟩:=tp.defs g t G
    exact#[6*n+9,l,j,t.ps,(gg hok tp n g t U G q2 l j t2).ref q3,hr.mono ⋯,t1,t3,t4] }
  refine#[?_,fun L=>?_,fun hh L=>?_]
  ·refine Fun.ok F B.sc (fun vs H Q E h=>?_) fun cdv A outer s H vs Q E hr h=>?_
   ·unfold lW at h;split at h
    ·obtain⟨ds,r,r1,e,_⟩:=h;rw[<-r1.length,(X ds r e).1,B.ps]
    ·obtain⟨ds,r,o,e,a,_⟩:=h;rw[<-a.xc.length,(X ds _ e).1,B.ps]
   ·refine#[_,c7 fn.body (Y CX0 E cdv A outer s H hr) (M:=fn.M) _ B.body,?_];have hst:start d.N vs=vs.map some++replicate (d.N.length-vs.length) none:=rfl;unfold lW at h;split at h
    ·rename_i L;obtain⟨ds,r,r1,e,k⟩:=h;obtain⟨hlen,o,O,e1,e2⟩:=X ds r e;exact vx (f:=f) B L r1 hlen e2 e1 k
    ·rename_i L;obtain⟨ds,r,outs,e,a,k⟩:=h;obtain⟨hlen,o,O,e1,e2⟩:=X ds _ e
     have hvl:vs.length=fn.ps:=by rw[<-a.xc.length];exact hlen
     refine#[_,o,O,?_,e1,?_]
     ·rw[hst,hvl,<-B.nn];exact zG a B.hM (fun i hi=>i4 (B.mp i hi).2) hlen
     ·-- the lists behind it
      have fin:∀ (d0:RL.D) (Qa:L2.St) (H1 H':Hp) (v:V),RL.bY fn d0 O=some (.tup (r::outs))->RVm K fn.M O Qa H1->Fr' fn.M (start d.N vs) H Qa H1->aD H1 H'->(d0.imm=true->Rep nP K H' d0 v)->Q v H':=by
       intro d0 Qa H1 H' v ht rv1 fr1 sm rp;obtain⟨im,os,g1,g2⟩:=Cw ht L;cases g2;obtain⟨l1,l2⟩:=pE g1;refine k v H' (fun b u nb eb=>sm _ _ (fr1.1 b u eb fun⟨i,hi,ei⟩=>?_).1) (rp im) im ⟨l1,fun kk pp oo hk ho=>?_⟩
       ·rw[hst,bp]at ei;have h3:=(List.getElem?_eq_some_iff.mp ei).1;exact nb ⟨i,B.hM i ⋯ hi,ei⟩
       ·have hpm:=mem_of_getElem? hk;obtain⟨dp,ap,g3,g4,g5⟩:=a.own pp hpm;have g6:=fr1.2 pp (B.mp pp hpm).2
        have g7:(start d.N vs)[pp]?=some (some (.ref ap)):=by rw[hst,bp];exact g4
        rw[g7]at g6;obtain⟨v',g8,g9⟩:=rv1.val pp oo (l2 kk pp oo hk ho);rw[g6]at g8;cases g8;rw[if_pos (i4 (B.mp pp hpm).2)]at g9;exact#[ap,g4,g9.same sm]
      cases o with
      |nx=>
       intro Qa H1 rv1 fr1
       exact fin .non Qa H1 H1 .non e2 rv1 fr1 (aD.refl _) fun _=>by rw[Rep]
      |rt d0=>
       intro Qa H1 v H' rv1 fr1 sm rp;exact fin d0 Qa H1 H' v e2 rv1 fr1 sm fun im=>rp nP fun _ z=>z.elim
  ·refine Fun.okX F B.sc (fun vs H Q E h=>?_) fun cdv A outer s H vs Q E hr h=>?_
   ·obtain⟨ds,x,r1,e,_⟩:=h;rw[<-r1.length,(unx ds x e).1,B.ps]
   ·have R:ROk (p.cc d) (d7 (CXE P w) P w K mg base d.N d.name (az d.st) fa cdv A outer s H E) (RL.aq p.T n) (fun _=>E):={
     y:=Y (CXE P w) E cdv A outer s H hr
     cal:=rfl
     pass:=fun pins J H1 s1 e s' I z=>by
      obtain⟨x,C,od,H',rfl,hE,I',ex,_⟩:=I.refused rfl z;exact iP I' rfl rfl rfl ex hE I'.ok.frames
     made:=fun pins J H1 s1 h' e C vs I m z=>by
      obtain⟨I',ex⟩:=I.newExc rfl m;exact iP I' rfl rfl rfl ex z I'.ok.frames
     wD:=fun pins J H1 s1 C i e od H' s' I nx z=>by
      obtain⟨I',ex⟩:=I.newX rfl nx;exact iP I' rfl rfl rfl ex z I'.ok.frames
     own:=PassesOwn.leaving }
    obtain⟨ds,x,r1,e,k⟩:=h;obtain⟨hlen,_,O,e1⟩:=unx ds x e;exact#[_,eE fn.body R (M:=fn.M) _ B.body,BH B L r1 hlen e1 k]
  ·refine Fun.okH F B.sc (fun vs H Q h=>?_) fun cdv A outer s H vs Q hr h=>?_
   ·obtain⟨ds,r,r1,e,_⟩:=h;rw[<-r1.length,(X ds r e).1,B.ps]
   ·have Z:YOk { p.cc d with calm:=false } (cxH P w K mg base d.N d.name (az d.st) fa cdv A outer s H) (RL.aq p.T n):={
     scope:=rfl
     names:=rfl
     nd:=B.sc.nd
     calm:=fun z=>(nomatch z)
     xe:=rfl
     hu:=by
      have:=hr.un;show(A.deeper _).units+100<cLine;lia
     blt:=tp.blt
     glb:=tp.glb
     gds:=fun x tbl hx=>let ⟨d,kvs,a,b,c⟩:=tp.gds x tbl hx;⟨d,kvs,a,⟨b.1,fun h q=>b.2 _ h q⟩,c⟩
     fns:=fun _ _ _ z=>(nomatch z)
     hfn:=fun g x hh hg=>by
      obtain⟨t,U,G,q2,rfl,q3⟩:=look hg;obtain⟨d2,q4,q5⟩:=u5 hh;rw[G]at q4;cases q4;obtain⟨l,j,t1,t2,t3,t4⟩:=tp.defs g t G;exact#[6*n+9,l,j,t.ps,(gg hok tp n g t U G q2 l j t2).sui q5 q3,hr.mono ⋯,t1,t3,t4]
     cls:=tp.cls
     cli:=fun c hc=>let ⟨D,R,fI,fd,st,qual,a1,a2,a3,a4,a5,a6,a7⟩:=tp.cli c hc;⟨D,R,fI,fd,a1,a2,a3,qS a3 a4 a5 a6,(fun z=>nomatch z),a7⟩
     mko:=fun _ _ _ z=>nomatch z
     ref:=tp.ref
     fn:=fun _=>rfl
     st:=#[rfl,rfl,rfl]
     fnx:=fun _ _ z=>(nomatch z) }
    obtain⟨ds,r,r1,e,k⟩:=h;obtain⟨hlen,o,O,e1,e2⟩:=X ds r e;exact#[_,c7 fn.body Z (M:=fn.M) _ (B.hb hh),vx (f:=f) B L r1 hlen e2 e1 k]
def Bw(hok:p.ok=true)(tp:sj p w K mg):∀ (n f:Nat) (d:dO) (fn:RL.Fn),p.Ds[f]?=some d->p.T[f]?=some fn->∀ fa fd,Fun K d.name d.name d.st fa fd->aY P w K mg base CX0 (6*n+9) fa fd d.ps (lW K (RL.aq p.T n) fn.mp f):=fun n f d fn a b fa fd F=>(gg hok tp n f d fn a b fa fd F).nor
end
abbrev spL(n:Nat)(p:PT')(f:Nat)(K:W.Frag):Sp:=spF K (RL.aq p.T n) f
def Ci{n:Nat}{p:PT'}{f:Nat}{K:W.Frag}{H:Hp}{a:Addr}{ns:List Int}(U:nS H)(I:SqL K H a (ns.map V.int))(h:RL.aq p.T n f [.scr (ns.map RL.D.int)]=some (.bl true)):spL n p f K [.ref a] H (fun v _=>v=.bl true) fun _ _ _=>False:=by
 refine#[_,_,?_,h,fun v H' _ r=>bj r];refine ai.cons ?_ ai.nil;rw[Rep];refine#[a,ns.map V.int,rfl,?_,?_]
 ·rcases I with(z | ⟨o,z⟩) | z
  ·rcases U a with q | ⟨o,xs,q⟩
   ·rw[q]at z;cases z
   ·rw[q]at z;cases z
  ·exact .inl #[o,z]
  ·exact .inr (.inr z)
 ·clear I h
  induction ns with
  | nil=>exact ai.nil
  | cons i r O=>exact ai.cons bb O
end RS
namespace K31
open PySem PySem.Spec PyProof.Rows L2
abbrev top(i:Nat):Stmt:=PySem.Challenge.pw_ribbonloft_k31_trades_one_behind_the_oth.main.body.getD i (.Pass ⟨0,0,0,0⟩)
abbrev mkD(x:Str)(i n:Nat)(N:List Str)(b:Bool:=false):RS.dO:=#[x,top i,N.take n,N,b]
abbrev Ds:List RS.dO:=[
 mkD "is_number" 19 1 ["value"],
 mkD "is_peg_count" 20 1 ["value"],
 mkD "check_pegs" 21 1 ["pegs"],
 mkD "is_hook" 23 2 ["pegs", "number"],
 mkD "check_row" 24 2 ["pegs", "row", "number"],
 mkD "walked" 26 4 ["pegs", "rings", "row", "trades", "pair", "at", "trade"],
 mkD "swapped" 27 3 ["rings", "row", "at"],
 mkD "dropped" 28 3 ["rings", "row", "at"],
 mkD "doubled" 29 3 ["rings", "row", "at"],
 mkD "shortened" 30 3 ["rings", "row", "at"],
 mkD "grown" 31 5 ["pegs", "rings", "row", "at", "number"],
 mkD "pair_behind" 33 3 ["pegs", "pair", "trade", "rings", "row", "word", "action", "numbers"],
 mkD "has_places" 34 3 ["row", "at", "many"],
 mkD "_law_kin" 36 1 ["_law_e", "_law_found", "_law_words", "_law_word_here", "_law_kin_here"] true,
 mkD "_law_mix" 37 1 ["_law_seed", "_law_one", "_law_two"],
 mkD "_law_raw" 38 2 ["_law_script", "_law_k", "_law_cell", "_law_found", "_law_turn"],
 mkD "_law_digits" 39 3 ["_law_script", "_law_k", "_law_sizes", "_law_rest", "_law_found", "_law_size"],
 mkD "_law_hooks" 40 4 ["_law_script", "_law_k", "_law_pegs", "_law_size", "_law_found", "_law_start", "_law_steps", "_law_step", "_law_number"],
 mkD "_law_after" 41 3 ["_law_pegs", "_law_pair", "_law_trade", "_law_rings", "_law_line", "_law_word_here", "_law_at", "_law_here", "_law_rest"],
 mkD "_law_some_trade" 42 4 ["_law_script", "_law_k", "_law_pegs", "_law_pair", "_law_at", "_law_good", "_law_place", "_law_way", "_law_number", "_law_far", "_law_odd", "_law_trade", "_law_word_here", "_law_step"],
 mkD "_law_same" 43 2 ["_law_told", "_law_due", "_law_one", "_law_other"],
 mkD "_law_word" 44 3 ["_law_pegs", "_law_pair", "_law_trades", "_law_found", "_law_e"],
 mkD "law" 45 1 ["_law_script", "_law_k", "_law_pegs", "_law_pair", "_law_handed", "_law_step", "_law_kept", "_law_found", "_law_bare", "_law_rings", "_law_size", "_law_steps", "_law_bad", "_law_trades", "_law_due", "_law_trade", "_law_later"]]
abbrev p:RS.PT':=#[["ValueError", "abs", "all", "bool", "enumerate", "int", "isinstance", "len", "list", "max", "min", "range", "str", "tuple", "zip"],[("MOST_PEGS",10)],Ds,T,["BadHook", "BadPegs"],["BadFrame", "BadHalf", "BadHook", "BadName", "BadPage", "BadPegs", "BadTrade", "Full", "Hangs", "NoFrame", "NoNumber", "NoPlace", "NoStack", "NothingThere", "Taken"],["BadTrade"],[],[("TRADES_AT_A_PLACE",[("swap",6),("drop",7),("double",8),("cut",9)])]]
def Ef:p.ok=true:=by decide +kernel
def ef{P:List Value->Prop}{n:Nat}(h:∀ a t,t.length=n->P (a::t))(us:List Value)(I:us.length=n+1):P us:=by
 cases us with
 | nil=>cases I
 | cons a t=>exact h a t (Nat.succ.inj I)
def og{P:List Value->Prop}(h:P [])(us:List Value)(I:us.length=0):P us:=by
 rw[List.eq_nil_of_length_eq_zero I];exact h
def all1{P:List Value->Prop}(h:∀ a0,P [a0]):∀ us:List Value,us.length=1->P us :=
 ef fun a0=>og (h a0)
def all2{P:List Value->Prop}(h:∀ a0 a1,P [a0,a1]):∀ us:List Value,us.length=2->P us :=
 ef fun a0=>ef fun a1=>og (h a0 a1)
def lg{P:List Value->Prop}(h:∀ a0 a1 a2,P [a0,a1,a2]):∀ us:List Value,us.length=3->P us :=
 ef fun a0=>ef fun a1=>ef fun a2=>og (h a0 a1 a2)
def EJ{P:List Value->Prop}(h:∀ a0 a1 a2 a3,P [a0,a1,a2,a3]):∀ us:List Value,us.length=4->P us :=
 ef fun a0=>ef fun a1=>ef fun a2=>ef fun a3=>og (h a0 a1 a2 a3)
def Ex{P:List Value->Prop}(h:∀ a0 a1 a2 a3 a4,P [a0,a1,a2,a3,a4]):∀ us:List Value,us.length=5->P us :=
 ef fun a0=>ef fun a1=>ef fun a2=>ef fun a3=>ef fun a4=>og (h a0 a1 a2 a3 a4)
section
variable{K:W.Frag}{h:Heap}{mg:Str->Option Value}{x:Str}{st:Stmt}{f:Addr}{oc kV dc pm cd ct:Value}{od an:Option Addr}{sl:Array (Option Value)}{ps:List Str}
abbrev At(K:W.Frag)(mg:Str->Option Value)(x:Str)(st:Stmt)(ps:List Str):Prop:=∃ f fd,mg x=some (.ref f)/\Fun K x x st f fd/\W.keepIn K (.ref f)=true/\Binds K fd ps []
def Cu(X:K.In h)(G:h.Ns mainGlobals mg)(a:W.nsIn K mainGlobals x=some (some (.ref f)))(l:K.lookup f=some ⟨oc,od,.func (W.fnOf x x (du st) (br st) (az st) .none kV dc pm an cd ct),sl⟩)(c:W.codeIn K cd x=true)(k:W.keepIn K (.ref f)=true)
 (b:∀ (kV doc pm:Value) (an:Option Addr) (cdv ct:Value) (us:List Value),us.length=ps.length->bindArgs (W.fnOf x x (du st) (br st) (az st) .none kV doc pm an cdv ct) ⟨us,[]⟩=pure (ps.zip us)):At K mg x st ps :=
 ⟨f,_,W.mg_of X G a,kU (st:=st) l c k,k,(kU (st:=st) l c k).binds b⟩
abbrev lE(K:W.Frag)(mg:Str->Option Value):List RS.dO->Prop
 | []=>True
 | d::r=>At K mg d.name d.st d.ps/\lE K mg r
def lE.get:∀ {l:List RS.dO} {f:Nat} {d:RS.dO},lE K mg l->l[f]?=some d->At K mg d.name d.st d.ps
 | [],_,_,_,e=>by cases e
 | _::_,0,_,h,e=>by cases e;exact h.1
 | _::_,f+1,_,h,e=>lE.get (f:=f) h.2 e
abbrev AllP(P:Str->Prop):List Str->Prop
 | []=>True
 | x::r=>P x/\AllP P r
def AllP.get{P:Str->Prop}:∀ {l:List Str},AllP P l->x∈l->P x
 | _::_,h,e=>(List.mem_cons.mp e).elim (fun z=>z▸h.1) fun z=>AllP.get h.2 z
abbrev l7(K:W.Frag):List (Str × Int)->Prop
 | []=>True
 | q::r=>(∃ t,W.nsIn K mainGlobals q.1=some (some (.int q.2 t)))/\l7 K r
def l7.get{i:Int}:∀ {l:List (Str × Int)},l7 K l->l.lookup x=some i->∃ t,W.nsIn K mainGlobals x=some (some (.int i t))
 | [],_,e=>by cases e
 | q::_,h,e=>by
  rw[Jn]at e
  cases hb:x == q.1 with
  | true=>rw[hb]at e;cases e;rw[eq_of_beq hb];exact h.1
  | false=>rw[hb]at e;exact l7.get h.2 e
abbrev ini:Stmt:=match top 14 with
 | .ClassDef _ _ _ b ..=>b.getD 0 (.Pass ⟨0,0,0,0⟩)
 | s=>s
def DS:L2.rR ini where
 body:=#[_,_,_,_,_,_,_,_,_,_,_,_,_,_,_,_,_,_,rfl,by decide +kernel,by decide +kernel,by decide +kernel]
 sc:=RS.oh (by decide +kernel)
 g:=by decide +kernel
 v1:=by decide +kernel
 v2:=by decide +kernel
def zX{P:List Value->Prop}(h:∀ a b,P [a,b]):∀ us:List Value,us.length=2->P us
 | [a,b],_=>h a b
def vC(l:K.lookup f=some ⟨oc,od,.func (W.fnOf "__init__" "BadTrade.__init__" (du ini) (br ini) (az ini) .none kV dc pm an cd ct),sl⟩)(c:W.codeIn K cd "BadTrade.__init__" = true)(k:W.keepIn K (.ref f)=true):Fun K "__init__" "BadTrade.__init__" ini f (W.fnOf "__init__" "BadTrade.__init__" (du ini) (br ini) (az ini) .none kV dc pm an cd ct)/\Binds K (W.fnOf "__init__" "BadTrade.__init__" (du ini) (br ini) (az ini) .none kV dc pm an cd ct) ["self", "at"] [] :=
 ⟨kU (st:=ini) l c k,(kU (st:=ini) l c k).binds fun _ _ _ _ _ _=>zX fun _ _=>rfl⟩
def D4{D R N fI:Addr}{nm qn:Str}{bs sub:List Value}{sn:List Str}{ab:Bool}{col:Option Bool}{dd U Y:Option Addr}{k0 k1 k2 k3 k5:Option Value}{Z:Value}{es:Array DictEntry}{ep:Nat}{I slF:Array (Option Value)}(i:W.nsIn K mainGlobals "BadTrade" = some (some (.ref D)))(h:W.nsIn K mainGlobals "RibbonError" = some (some (.ref R)))
 (c:K.lookup D=some (excClassObj nm qn D N bs (.ref R::RS.VE) true sn sub ab col dd k0 k1 k2 k3 k5 "ValueError.__new__"))(f:W.excIn K R RS.VE "ValueError.__new__" = true)(j:K.lookup N=some ⟨Z,U,.dict es ep,I⟩)(O:(es.toList.all fun e=>match e.key with | .str _ _=>true | _=>false)=true)(k:W.nsIn K N "__init__" = some (some (.ref fI)))
 (rd:W.readsIn K R (.type "type")=true)(fc:W.findCls K (.ref R) (.type "type") "__init__" = some (.val (.builtin "ValueError.__init__")))(sp:W.specialIn K (.ref R) "__getattribute__" = some (some (.builtin "type.__getattribute__")))(sa:W.findIn K (.ref D) "__setattr__" = some (some (.builtin "object.__setattr__")))(mo:W.mroIn K D (.type "object")=some true)(na:W.findIn K (.ref D) "at" = some none)(kp:W.keepIn K (.ref D)=true)
 (a:K.lookup fI=some ⟨.type "function",Y,.func (W.fnOf "__init__" "BadTrade.__init__" (du ini) (br ini) (az ini) .none kV dc pm an cd ct),slF⟩)(g:W.codeIn K cd "BadTrade.__init__" = true)(d:W.keepIn K (.ref fI)=true)(b:RS.gR K D=true->RS.tV K "BadTrade" D) :
  ∃ D R fI fd,W.nsIn K mainGlobals "BadTrade" = some (some (.ref D))/\RS.f7 K "BadTrade" D=true/\L2.dY K R D fI/\Fun K "__init__" "BadTrade.__init__" ini fI fd/\W.nsIn K mainGlobals "RibbonError" = some (some (.ref R))/\Binds K fd ["self", "at"] [] :=
 ⟨D,R,fI,_,i,RS.vf (b (RS.qE c f).2),L2.xm c f j O k rd fc sp sa mo na kp a,(vC a g d).1,h,(vC a g d).2⟩
structure Tp(w:World)(K:W.Frag)(mg:Str->Option Value):Prop where
 t1:lE K mg Ds
 t2:AllP (fun x=>W.nsIn K mainGlobals x=some none) p.B
 t3:l7 K p.G
 t6:∃ (d a0 a1 a2 a3:Addr) (es:List DictEntry) (ep:Nat),W.nsIn K mainGlobals "TRADES_AT_A_PLACE" = some (some (.ref d))/\(d == sysModules)=false/\K.lookup d=some ⟨.type "dict",none,.dict es.toArray ep,(List.toArray [])⟩/\W.nsIn K mainGlobals "swapped" = some (some (.ref a0))/\W.nsIn K mainGlobals "dropped" = some (some (.ref a1))/\W.nsIn K mainGlobals "doubled" = some (some (.ref a2))/\W.nsIn K mainGlobals "shortened" = some (some (.ref a3))/\RS.Ent w es [("swap",a0),("drop",a1),("double",a2),("cut",a3)]
 t4:AllP (fun c=>∃ D,W.nsIn K mainGlobals c=some (some (.ref D))/\RS.f7 K c D=true/\W.excIn K D RS.VE "ValueError.__new__" = true) p.Xr
 t5:AllP (fun c=>∃ D,W.nsIn K mainGlobals c=some (some (.ref D))) p.Xs
 t7:∃ D R fI fd,W.nsIn K mainGlobals "BadTrade" = some (some (.ref D))/\RS.f7 K "BadTrade" D=true/\L2.dY K R D fI/\Fun K "__init__" "BadTrade.__init__" ini fI fd/\W.nsIn K mainGlobals "RibbonError" = some (some (.ref R))/\Binds K fd ["self", "at"] []
def A7{w:World}(X:K.In h)(G:h.Ns mainGlobals mg)(A:Tp w K mg):RS.sj p w K mg where
 gds:=by
  obtain⟨d,a0,a1,a2,a3,es,ep,Y,U,l,g,b1,b2,b3,E⟩:=A.t6;exact RS.zl (W.mg_of X G Y) U (RS.Dx l E (show(["swap", "drop", "double", "cut"]:List Str).Nodup by decide +kernel)) (.cons rfl (W.mg_of X G g) (.cons rfl (W.mg_of X G b1) (.cons rfl (W.mg_of X G b2) (.cons rfl (W.mg_of X G b3) .nil))))
 defs:=fun f d e=>A.t1.get e
 blt:=fun x O=>W.mg_none_of X G (A.t2.get O)
 glb:=fun x i O=>let ⟨t,Z⟩:=A.t3.get O;⟨_,W.mg_of X G Z,t,rfl⟩
 cls:=fun c I=>let ⟨D,a,b,e⟩:=A.t4.get (by simpa using I);⟨D,W.mg_of X G a,⟨a,b⟩,e⟩
 cli:=fun c I=>by
  have e:c = "BadTrade" := by simpa[p]using I
  subst e;obtain⟨D,R,fI,fd,a1,a2,a3,a4,a5,a6⟩:=A.t7;exact#[D,R,fI,fd,ini,_,W.mg_of X G a1,#[a1,a2],a3,DS,a4,W.mg_of X G a5,a6]
 mko:=fun c f I=>by cases I
 ref:=fun c I=>let ⟨D,a⟩:=A.t5.get (by simpa using I);⟨D,W.mg_of X G a,a⟩
end
end K31
end
open PySem PySem.W PyProof.Rows
set_option maxRecDepth 100000 in
set_option maxHeartbeats 0 in
theorem PySem.Challenge.cw_ribbonloft_k31_trades_one_behind_the_oth_holds : PySem.Challenge.rw_ribbonloft_k31_trades_one_behind_the_oth.Holds := by
 refine hdTop ?_
 k_fill
 refine L2.xK (l:=PySem.Challenge.rw_ribbonloft_k31_trades_one_behind_the_oth) (n:=63) (k:=189) (x := "_law_script") (CX:=L2.CX0) (sp:=RS.spL 30 K31.p 22) rfl (by decide) rfl ⟨rfl,by decide,by decide⟩ (fun w h Y=>HK.in_of Y) ?F ?S ?C
 case F =>
  intro w mg fa h KX G hmg
  have T:K31.Tp w (L2.KOf KX) mg:=by
   dsimp only[L2.KOf];constructor
   ·dsimp only[K31.lE,K31.Ds,K31.mkD,List.take]
    iterate 23 (refine' ⟨K31.Cu KX G ?a ?l ?c ?k ?b,?_⟩;(case a=>k_is);(case l=>k_is);(case c=>k_is);(case k=>k_is);(case b=>first | exact fun _ _ _ _ _ _=>K31.all1 fun _=>rfl | exact fun _ _ _ _ _ _=>K31.all2 fun _ _=>rfl | exact fun _ _ _ _ _ _=>K31.lg fun _ _ _=>rfl | exact fun _ _ _ _ _ _=>K31.EJ fun _ _ _ _=>rfl | exact fun _ _ _ _ _ _=>K31.Ex fun _ _ _ _ _=>rfl))
    exact True.intro
   ·dsimp only[K31.AllP,K31.p]
    iterate 15 (refine' ⟨?a,?_⟩;(case a=>k_is))
    exact True.intro
   ·dsimp only[K31.l7,K31.p]
    iterate 1 (refine⟨⟨_,by k_is⟩,?_⟩)
    exact True.intro
   ·refine⟨_,_,_,_,_,_,_,by k_is,?d,by k_is,by k_is,by k_is,by k_is,by k_is,?e⟩
    case d=>rfl
    case e=>exact .cons rfl rfl rfl (.cons rfl rfl rfl (.cons rfl rfl rfl (.cons rfl rfl rfl .nil)))
   ·dsimp only[K31.AllP,K31.p]
    iterate 2 (refine' ⟨⟨_,?n,RS.vf ?c,?exc1⟩,?_⟩;(case n=>k_is);(case exc1=>k_exc);(case c=>constructor;(refine RS.Ad ?_;k_exc);(iterate 9 k_is);kit_is;(iterate 16 (refine' RS.uo ?n ?k ?s ?e;(case n=>k_is);(case k=>kit_is);(case s=>k_is);(case e=>decide +kernel)))))
    exact True.intro
   ·dsimp only[K31.AllP,K31.p]
    iterate 15 (refine⟨⟨_,by k_is⟩,?_⟩)
    exact True.intro
   ·refine' K31.D4 ?n1 ?n2 ?lC ?eR ?lN ?okN ?iN ?rd ?fc ?sp ?sa ?mo ?na ?kp ?lF ?cF ?kF ?an
    case n1=>k_is
    case n2=>k_is
    case lC=>k_is
    case eR=>k_exc
    case lN=>k_is
    case okN=>rfl
    case iN=>k_is
    case rd=>k_is
    case fc=>k_is
    case sp=>k_is
    case sa=>k_is
    case mo=>k_is
    case na=>k_is
    case kp=>k_is
    case lF=>k_is
    case cF=>k_is
    case kF=>k_is
    case an=>intro j;constructor;exact j;(iterate 9 k_is);kit_is;(iterate 16 (refine' RS.uo ?n ?k ?s ?e;(case n=>k_is);(case k=>kit_is);(case s=>k_is);(case e=>decide +kernel)))
  have tp:=K31.A7 KX G T;obtain⟨fa',fd,h1,h2,h3,h4⟩:=tp.defs 22 _ rfl;have e0:=hmg.symm.trans h1;cases e0;refine⟨fd,fun s u=>?_,fun base kb nb=>RS.Bw K31.Ef tp 30 22 _ _ rfl rfl _ _ h2⟩;obtain⟨oc,od,kV,doc,pm,an,cdv,ct,osl,e9,_,_⟩:=h2.ex;subst e9;exact .of_eq rfl
 case S=>exact fun K H a ns hl hO hS=>RS.Ci hO hS (K31.main ns hl)
 case C=>exact fun _ _ _ _ h=>h
