import PyProof.Rows.All
import OpenK.KLine
import Wide.FinOn
import OpenK.KOwn
import KE.RegKIsAll
import KE.KItem
import KE.KUnpack
import KE.KDictOf
import PyProof.EqAt
import PyProof.EqKinds
import PyProof.TupleCall
import PySem.Str
import PyProof.Rows.SortRuns
import KE.KSortAsk
import PyProof.NeKinds
import PyProof.CompMap
import PyProof.CompFree
import PyProof.EnumMake
import PyProof.Draws
import PyProof.ListRange
import PyProof.ConsumeWalk
import PyProof.Rows.SetFrom
import PyProof.SetRoads
import PyProof.ZipIter
import PyProof.Rows.SumAny
import PyProof.Rows.SortWalk
import PyProof.Rows.SeqMore2
import PyProof.ExcAttrAll.ValueError
import PyProof.ExcBaseAll.ValueError
import PyProof.Rows.FStr
import OpenK.KMake
import PyProof.InstStoreFacts
import PyProof.ExcClass3
import PyProof.Rows.SeqMore
import PyProof.StrWalks
import PyProof.SliceStr2
import PyProof.StrBlockI
import PyProof.StrOps2
import KE.KSortTup
import PyProof.PureInt
import PySem.SetOps
import PyProof.SetScanFacts
import KE.KDictSum
import PyProof.DictWalks
import PyProof.DictRoadsH
import PyProof.MeetsSeq3
import PyProof.MinMaxWalk
import PyProof.WalkInts
import PyProof.MeetsIn
import PyProof.Rows.TupDisplay
import PyProof.Rows.TupIter
import PyProof.CollectIter
import PyProof.WalksS
import PyProof.WalksMore
import PyProof.Rows.StrJoin2
import PyProof.TableCode
import PySem.Challenge.RW_ribbonloft_k19_halves_numbered
set_option Elab.async false
set_option linter.all false
set_option maxRecDepth 100000
set_option maxHeartbeats 4000000
set_option autoImplicit true
set_option relaxedAutoImplicit true
set_option genSizeOf false
set_option genSizeOfSpec false
set_option genInjectivity false
namespace HK
open PySem PySem.W
noncomputable def live : Obj → Bool
  | ⟨_, _, .freed, _⟩ => false
  | _ => true
noncomputable def pick : List Nat → Nat → List Obj → List (Nat × Obj)
  | a :: as, i, o :: os => cond (Nat.beq a i) (cond (live o) ((a, o) :: pick as (i + 1) os) []) (pick (a :: as) (i + 1) os)
  | _, _, _ => []
theorem sub_step {a i : Nat} (h : i + 1 ≤ a) : a - i = (a - (i + 1)) + 1 := by omega
theorem pick_in : ∀ {as : List Nat} {i : Nat} {os : List Obj} {a : Nat} {o : Obj}, (pick as i os).lookup a = some o → i ≤ a ∧ os[a - i]? = some o ∧ live o = true
  | [], _, [], _, _, h => nomatch h
  | [], _, _ :: _, _, _, h => nomatch h
  | _ :: _, _, [], _, _, h => nomatch h
  | b :: as, i, u :: os, a, o, h => by
    rw [pick] at h
    have go : ∀ {l : List Nat}, (pick l (i + 1) os).lookup a = some o → i ≤ a ∧ (u :: os)[a - i]? = some o ∧ live o = true := fun h => by
      obtain ⟨h1, h2, h3⟩ := pick_in h
      refine ⟨Nat.le_of_succ_le h1, ?_, h3⟩
      rw [sub_step h1, List.getElem?_cons_succ]
      exact h2
    cases hb : Nat.beq b i with
    | true =>
      rw [hb] at h
      have e := Nat.eq_of_beq_eq_true hb
      subst e
      cases hl : live u with
      | false => rw [hl] at h; cases h
      | true =>
        rw [hl] at h
        have h : ((b, u) :: pick as (b + 1) os).lookup a = some o := h
        rw [List.lookup_cons] at h
        cases hc : a == b with
        | true =>
          rw [hc] at h
          cases h
          have e := eq_of_beq hc
          subst e
          exact ⟨Nat.le_refl _, by rw [Nat.sub_self]; rfl, hl⟩
        | false =>
          rw [hc] at h
          exact go h
    | false =>
      rw [hb] at h
      exact go h
noncomputable def hook (K : Params → Frag) (as : List Nat) : Hook :=
  ⟨List (Nat × Obj), fun s => pick as 0 s.heap.objs.toList, fun w => K w.params, InK K, fun w s e a o l => by
    rw [← show pick as 0 s.heap.objs.toList = K w.params from e] at l
    obtain ⟨_, h, v⟩ := pick_in l
    rw [Nat.sub_zero, Array.getElem?_toList] at h
    unfold Heap.get?
    rw [h]
    unfold live at v
    split at v
    · cases v
    · rename_i h'
      split
      · rename_i h1
        cases h1
        exact absurd rfl (h' _ _ _)
      · rfl, InK.keeps⟩
theorem in_of {K : Params → Frag} {as : List Nat} {w : World} {h : Heap} (Y : (hook K as).says w h) : (K w.params).In h := Y
end HK
namespace PySem.W.Fast
local macro_rules|`(universe $x*)=>do pure (Lean.mkNullNode (<-x.mapM fun x=>`(theorem $(Lean.mkIdent (.mkSimple s!"tw{x.getId.toString.foldl (fun a c=>52*a+c.toNat-if c.toNat<97 then 65 else 71) 0}")) :True:=trivial)))
universe FCQoQzqIwGI BykEVEFhwpyo rZobMsOjFwQ BoflJdPOyjfE KXwfPTnSkOI BfsqKtVtTmMw PwPtFKHHOZs ceomIfKptWY UgrptMpaXuY qPeSDibrkZM RhhtZefoCTk LKMrCdaKUCY CDfHzKdzYoA mnDgSToGxHk BakZlApGkehs ISFoXXXmBdM BODspoJfajKI BnfAjSjpphNM BUMwQAZYPogA ktIqXvpuagg fvSeXMYhgDE BKkRhDAcBKaZ CWAvttDMtuep BqoTegnPyRkB nAZGgaXNqcR BtJlbCmZVhFN BqQUDrQuJAmJ LTaqVFWriep taAxVCkbiYh BztXdmUOEOJ BnVXuTyQyGDl CNGhUibNWzRd BJaAXEpnmfEB onKnkJCRXYR JsoNltiolpd CCvMsXNQLVTV CFgqqQArGnaJ YYtfVBjLSsy imslCRxLCAi BYaVYBiMHSte CNbqLjXCbawC TDINJKmyHwS uDGeqhpzDUC CCuFTeIzBIDm BwkuetmKLwOK WitaxOrbyDm FdbRaUYekAC iaFKbkpNsAi CDmQvPzPtQJu CMOkrcNJTUMy BvpoXBYCrfki qipcqnOQvqq BSKpGRfMcCjG CVYQBowtrDtO CJrDfnquOmNe rIxaUooUxaK CLgHksTOWqib meQUbhmwFwz hjKDmWKIOGL CVcoulTYjCCb CXMSEDPwMgpv pZhwTHOqefX nSkEdypZhZf BpbiBJlUcWOr CBNbZFOObyMT zMSKXpmzsBP OSltNGqdcXX DjeZNLxPNdP BvwMLPSYngWr NiNoHATTMJP ZYFbCCzGuib IKvmyXphVlv vOjRNHGCoFA BpqFZDQaGVEE BdDXHQXriTKM bawVgqJCrgU NjzlbuBIgkU fiGezBrbExw BrheQGSmbLFw BOkZIIXeZFjY CNNwFdRvHfys BXMJoajqzsjI XScKzEiOAes FAgdBeWycdg BhKNnZpZnUcU wySsBpyjwNA oxEwbVbAtsk BlvHVrolEkIE hJItHxqJNHJ BELEWAbAJKkV keUKDoDjIGN bYyOWeEsKAF SZRqkvJgqAl BoejajAzTYWN BUqtcyRdkSrp BfcmXqBeCqZR jbupBssRpit CLeZbOcGBXQV BVxRHqmciMol QRZbTmnIQRx BugEAKRmEAid sVcrvZkGbud BDEbhAPhglMF taTIAoWkYdh BNcGmFqiiYWN BMeZLApDOrSt BAuLMGiazrhh jlIIaQqAFBB ORVBWnCjcIF cIPpUCDzTlx BcynjMpBbLBh UjxdQNoOVVx BiFHTwBRUNXq qhkquUSArTa BFdTswiMkiEW hJImGIVyNDa NtvzPvKvhoW wTxGfBCRseO WgYUBcpNtJC CBcAXgPoNAeu nMtzWHTEhKO BlcRukyvlhsm CSEomhfOBcAG hunfaasszxC yHmoiCRWlCO wMyIPMLhySf BaWMGLWbkImP CWsyAXLgdkWP dLtOgTesyWP ijZtWAqMkCf pZDYiPvNzTb BREcaoHBdtdT BoMTrytyjVRD nSJnhEwbKpz mShMSskXmeQ GZnqDUwlIKg BcpBbLehAnCQ BwSpRrjZByPc BiyBarkYhmiA uYRDUlMKnuA CEcJRfuhNxPs BIOJnfDBLoFE WDwLaRiJAaA BOPpEauVFTjc BdWNTEpuKIoI BQjmsuPjCZeA JESCDSwhIJU BrUpPeZQEUTt pdVESliyGYJ jPQyCfZasOR BUvEhlvDkIrt BZOaOrJEOJax CKCFkHmCMzft euZGPHHFrNV CRhHXWLNVUSh BSYnmAIlQWZV BOYEFvGoWGWx ZLiASAetdix CAbwUBvEvnZF CMGZdScUJyEa WOfvpaubhnO BCSCKAEpHYuS BxFoUYQyxigK dpTtmAfRIYK BoQrnPIdXFPu BMuDKbspsUgq CSWNimoTLGyi BuzUdwsqmulG KewCNwQfiai fXblvKqrwDO BLCkNxurmSiC IsKAfNfbgru bmADjyGOISi dmapjtsMByy CFkCZycEPSOy CKyYNbYHBJuD ZAXZSPizxbf CVMtHSIJuDOD jnhouUrVhQb gDFDBzwWjpn eXMuQAFOWiD BnYJVfuWVwgL ikwvpUthsjP BswdRPOFZvcr BCBytrrGDsoL hcGKnPdFSGT SkXcxUJTxWj CHhZyLvjYyIr BXmKzTVatMKD BTndywGgBQFH BVmKBfRNRhqT lQwbhiWlrZn COjyMAGcwAmT fjOPSWQkfRo BhTAStooqsjQ PaNZJGrADMM BBjCPpXrZOjQ JrekHqREHcM TNyOFUdziws kZzpqlQJwmU BugvzMImRWLw CQZHTQLQDQHA REloBVpemzQ CyzmcKREUYs rIBWDqUWefg CSExUkObQMGU UXFuqKMkpGE CKdNWMYuIJoc BvSrHXIoCNTA BTohDDxEyEPA COOShMNQZLqV tVwPhknuVJJ BOaceJHfyMBZ MDqTiNdRVDB gVHiyYiBeDx IBvsedjLwIN DefSQzjQtjh TpFtscZJGzR BZLIioVKjiaF BtBtYYHPBvHR TOGXpoPCVQd BaeACuHWgOEd zoZfhzeCkyl clqqKJiwTDh BVVBuJSlpzCV BHwsDhjGgCFK mlJDlZgyKVK QRzCtbsxBEO QlNcBTNWBHy CCXECfYcIzAe tCLtqWHABQe CUBCMonBZnXS qDRWGdkNqYu CLeCSHVzZFJq BzjjABbIkvTC BzuxpbDWRvbi xspzkNmeBPy BufjuZxwCmfi BgtGFUrxbVNa uFBOYVmchcu plefgUFqbri zvHHCytoSzS BIZHbmmaGmrS CBtZxUXDshGG CBrbskTBBRKW BHLlKboTLDRr BfwPvspmAUf CAKEZSOtJTTj BTSlflhOTOUf uOXIYkgtbGH cTNQKunKhMv CKAIMjwKegvj bQYRCbKBqrT BOdcobwLhEHk XXIHCdXFvLk oljuZLgCLuo BKMuDvdOYBxs FhxSDzfcpIg BxVoQxOtlvwA DvAZGtipISo CHlzmSUFxSGY BUOkuaHRtSkA BgxRJiFotanE RjrGOMniOao PhVJGyBBTUQ MJKVbhGopJs LyZNLNkWTiY BiKfMRlCiUAw BUAEssWIagvl rTGNKkWXWFN BriCBeuNeeXl BOnveCEQUoaJ PCEBgRMWKCJ BoOmWNORIoUh EnBHNvneffV fmklRBUfQgR BTdcidUvjWQR KfQjPlyrvMR YpyXNiKmGdN BlNodGxXaGBd qxHeFQySOZ CQWePYULzdjG CQxJPXclJiFO BfmEHXswhszW qGHfvdzANUy CPDLyoowEPte BKcNHhXkodrm bmMIkaoCVYi BtaWCKXxJSPG CQxYVdfXvzaa rKuMysNFsKK BLijnrBXGKdu BlSLsubDzasC CRyypQPxBFmK BekNNfhfHrEy BBOMCDLJvfTm CQfsQQvuktYi BSCGHlTiBMvG PiLnZNzcJMy mFmBcWuGTcS BljomlIcEqRf BUxPTsfLTQCL xJNiPWTVvzn CTPXBHxSXoir CRgukFDgPKoz fyLzRBRfQj BvZjaLXEPZLH BhNYBOJJwMwT NhnOslvcDBP BSFUBzZMtZIj QzAJtveifxv BLTiVRfLSMwz oqftzVNUPJP hYqTSRjiArX CSQPGEmCoZLH BRaGxWDdWuAT CyIFccWISoz BiEHHrJGpUJf BmNMkGqWOIgz jrHagdeMlOL CAdflnBClRib ziLyDKZvur CAzlOwxUglWL jpjQYzKamSL BoSRZcjWKvDH buOzWQkHFeL BxxrHVToZgfn BUWmMrfFxDcT CJOCmObmsPWL BazPHyLepmbY ZewdxeMdYhA CRbaCamVHtSc mOgrMEhILzo vxCpoFiZbQk zOsMBIslHcU BQtPdfwbBCqs BZDEWaejkNZQ slExnIXFZuM BkLDvCJVsoDY CKnfdRLffsbZ LXyuMMXeZlh BRnhlmurumMl BogJytERqnPZ aGqRrhQNMHp CROmAQtZjgxh CAVVmFNHxmlR BzjudHiLIEdx mQhXmNdyZxx BuYtHrFEqUdx BACsNfbdmOHp XHNjeXfAaCN BCtYfaVMIRrp XGBYMkYCJZR CKdxaNPeDlOt BvnaelKoxRSe BxjhsqwjrNgm BonzgGvfdDdC BOLmOZeTQgBi BqUdtBHQFVuu CKFeoTgoVvOu oAOjRXqFmoW BcvYQHjWZqIW CRZyDvcaowlS vRTpmwYnHUW BllvyvACIopi LkqkXXgWXCe CSGBmfPnorWu sxGGlJBtfjq BoEPSVQAvFCf jouVkyElOdz CSjCqKdXwOyP CJvPfHwXDbtD SSREnfNZspD BRpxtDnoFDkX qqUthdredhT eSzpFYgBFUX BzJogHcaqeBj KhyrtENrmRj BLZTmVwkQAmf CNsEJcAPzvEY BRgEeNZJzwrc CRbcZyYefWRk HamyzvVQztE IUfhqNmExrs CVolXgAwaXyg CQDiMUCGPKSw CUmYCNdeoco qJUTuTSQzLM BujQCqhJwsxE CVaMqMXFeGKQ CABmzkGvujIo LqjFTdCLBcZ WKaDsaBikrd ZQRYHmtXqjd BYBUwpsQYxFl kkIRHZbkctV sbnidirnzTt VihnIkmmAFV BAeteoosTmIZ PBdGVreqMJl BfxLJvgdbex BpRhCfHqtKnt ChyuuIQoHVG iHQNGkPXxii BcmjfRqWqzka CKXUGXHwPdSC wTsJidBPVG BGaRQGFCFfai CBwmVXCNLoUK CGcBhblqhqhm CWtxhCaYQZxW tdIcncNHfFG BWivcEYvNyC sUlQsFPxyKS BoZprVNdLrbu BDlqOuIINLLu CUvPdQwxHukK BSWDMNyTIxYq CPCTogiRjsxm BglGBCdLXwwb BbfeNkfuXhaj CGPOioxctVhX VGgdllwEHKD PjmhUBxSNVH qOnpwdxMxlH BjEoPXQKgKbf CAHmGOOrtKWj KLdBPmRzXyD CPojyiRzQHrv pTyizfrIOZH BCSZvokbxtLv xPtzKNtSKGj BGUWFlYcAZgL tQvBeadNJOz CWlTUfDTXuwb CMkvXJCKLaGj CFEzYVkWRXKE BXXiNoeMJSho CFfnfRMfwXfA CABUBNZcVWyU BsnqENxHvYJo FTkkakMHzwM fRNGHmwtMek SYVJwTFKfrQ BkYsIAkHMWRI cZpAyalTZHA ejdfopOfhsc qKTweWpgmZI BTyxfrMiZUjg hIjGjsQFuRo BkpEysdxBXgs DxMksEmoYLg BjHmSuyCPsgd keYderwtuLh jjlhJKDNkst lzfatbkfOzB BaYFEQTNPHkd BUqFLOrFKufR BUJSDLdZUQNZ MxpEmduQuOF BtragjjgDxbR ZROjIFQJITB OmgNqtrgRFp BFWMHzSLkYzh WWGmRXzSgqW BkkUmvTOtsta RkKhtJkJFou ByyscqvVynse BJoYHDiIfCXS BhChBIxEGGwe SHRgqDBCdiG BziuAmVSOObC zTNIIWOQTgO oaPHHSTFWTC BbxsIVRuZdxa PavcqJQMtmW CCzRCyNAxsUO BjZoAQyRGBPi YCSexAQJPEe VkmShKhVfni cTdNTlBmOLi BmIwWRyPxSEu BxzdmwZmWLce BzPSkXCdfWRK CROQenVsxYsu BidVXOvjQOFa CNEmoCqYGIBr CGggwxsoljCH CXYKyLhGIcXz BfxrlxediTD DlEQxAzyUrD bynKEQVenjT BheYvVbRvGMP hQNZqxXNsIf BBOJBnKSElUf bzWKaKnMrdL CBCLnwsmbQGn wyeRjvFbIhr yQAFGLqwCkP CWglCxiEvxfD ZvYIdLdFABL FFWXLFFunFr NMWwuMXXjKn pbSqvAOdMgf CKelEFqDEmfT KdRelwgzYv BifmdrQeKRIv NYWqHporCIH BVblxkvOhWCn
end PySem.W.Fast
section
open PySem PySem.W PyProof.Rows
local macro_rules | `(tactic| o_head (kHook $k $a $e)) => `(tactic| o_head (HK.hook $k $a))
set_option maxHeartbeats 0 in
open_top hdTop for PySem.Challenge.rw_ribbonloft_k19_halves_numbered
end
section
local macro_rules
|`(def $d $s:optDeclSig $v:declVal)=>`(theorem $d $(Lean.TSyntax.mk (Lean.mkNode ``Lean.Parser.Command.declSig #[s.raw[0],s.raw[1][0]])):declSig $v:declVal)
|`(abbrev $d $s:optDeclSig $v:declVal)=>`(noncomputable def $d $s:optDeclSig $v:declVal)
namespace RL
open PySem
abbrev mkR(c:Str)(k:Nat):Str:=⟨c.cps.push (1114112+k)⟩
abbrev fR(x:Str):Option Nat:=match x.cps.back? with
 | some n=>if 1114112<=n then some (n-1114112)else none
 | none=>none
abbrev baseOf(x:Str):Str:=if(fR x).isSome then⟨x.cps.pop⟩else x
def yp(h:fR x=none):baseOf x=x:=by
 unfold baseOf;rw[h];rfl
end RL
namespace TM
open PySem PySem.W PyProof.Rows
abbrev iter(f:γ->Option (Bool × γ)):Nat->γ->Option γ
 | 0,c=>some c
 | n+1,c=>match f c with
  | some (true,d)=>iter f n d
  | some (false,d)=>some d
  | none=>none
abbrev bey(cm:Nat->Nat->Option Bool)(left:Bool)(k:Nat)(q:Array Nat)(base i:Nat):Option Bool:=(q[base+i]?).bind fun x=>if left then cm x k else(cm k x).map not
abbrev gF1(b:Nat->Option Bool)(mx:Nat)(c:Nat × Nat):Option (Bool × (Nat × Nat)):=if c.2≥mx then some (false,c)else(b c.2).map fun t=>if t then(true,(c.2,2*c.2+1))else(false,c)
abbrev gF2(b:Nat->Option Bool)(c:Nat × Nat):Option (Bool × (Nat × Nat)):=if c.1≥c.2 then some (false,c)else(b (c.1+(c.2-c.1) / 2)).map fun t=>(true,if t then(c.1+(c.2-c.1) / 2+1,c.2)else(c.1,c.1+(c.2-c.1) / 2))
abbrev gal(cm:Nat->Nat->Option Bool)(left:Bool)(k:Nat)(q:Array Nat)(base n hint:Nat):Option Nat :=
 (bey cm left k q base hint).bind fun t=>(if t then(iter (gF1 (fun o=>bey cm left k q base (hint+o)) (n-hint)) n (0,1)).map fun c=>(hint+c.1+1,hint+min c.2 (n-hint))
  else(iter (gF1 (fun o=>(bey cm left k q base (hint-o)).map not) (hint+1)) n (0,1)).map fun c=>(hint+1-min c.2 (hint+1),hint-c.1)).bind fun c=>(iter (gF2 (bey cm left k q base)) n c).map (·.2)
@[reducible]noncomputable def C1:=Option (Array Nat) × Array Nat × Nat × Nat × Nat × Nat
@[reducible]noncomputable def C2:=(Option (Array Nat) × Array Nat × Nat × Nat × Nat × Nat × Nat) × Nat
@[reducible]noncomputable def C0:=(Option (Array Nat) × Array Nat × Nat × Nat × Nat) × Nat
abbrev mF1(cm:Nat->Nat->Option Bool)(x y:Array Nat)(g:Nat):C1->Option (Bool × C1)
 | (_,out,ia,ib,ac,bc)=>(y[ib]?).bind fun u=>(x[ia]?).bind fun v=>(cm u v).map fun t =>
  if t then(if(ib+1 == y.size)=true then(false,(some (out.push u++x.extract ia++y.extract (ib+1)),out.push u,ia,ib+1,0,bc+1))else if bc+1≥g then(false,(none,out.push u,ia,ib+1,0,bc+1))else(true,(none,out.push u,ia,ib+1,0,bc+1)))
  else(if(ia+1+1 == x.size)=true then(false,(some (out.push v++y.extract ib++x.extract (ia+1)),out.push v,ia+1,ib,ac+1,0))else if ac+1≥g then(false,(none,out.push v,ia+1,ib,ac+1,0))else(true,(none,out.push v,ia+1,ib,ac+1,0)))
abbrev mT2(cm:Nat->Nat->Option Bool)(x y:Array Nat)(u ib mg bc k:Nat)(out:Array Nat)(ia:Nat):Option (Bool × C2) :=
 if(ib+1 == y.size)=true then some (false,((some (out.push u++x.extract ia++y.extract (ib+1)),out.push u,ia,ib+1,mg,k,bc),mg))
 else(x[ia]?).bind fun v=>(gal cm true v y (ib+1) (y.size-(ib+1)) 0).bind fun l =>
  if l > 0 then(if(ib+1+l == y.size)=true then none else mE2 x mg k l v (out.push u++y.extract (ib+1) (ib+1+l)) ia (ib+1+l))else mE2 x mg k l v (out.push u) ia (ib+1)
where mE2 (x:Array Nat) (mg k l v:Nat) (out:Array Nat) (ia ib:Nat):Option (Bool × C2) :=
 if(ia+1+1 == x.size)=true then none else if(decide (k<7)&&decide (l<7))=true then some (false,((none,out.push v,ia+1,ib,mg,k,l),mg))else some (true,((none,out.push v,ia+1,ib,mg,k,l),mg))
abbrev mF2(cm:Nat->Nat->Option Bool)(x y:Array Nat):C2->Option (Bool × C2)
 | ((_,out,ia,ib,mg,ac,bc),_)=>(y[ib]?).bind fun u=>(gal cm false u x ia (x.size-ia) 0).bind fun k =>
  if k > 0 then(if(ia+k+1 == x.size)=true\/(ia+k == x.size)=true then none else mT2 cm x y u ib (if mg > 1 then mg-1 else mg) bc k (out++x.extract ia (ia+k)) (ia+k))else mT2 cm x y u ib (if mg > 1 then mg-1 else mg) bc k out ia
abbrev mF0(cm:Nat->Nat->Option Bool)(x y:Array Nat):C0->Option (Bool × C0)
 | ((_,out,ia,ib,mg),sg)=>(iter (mF1 cm x y mg) (x.size+y.size) (none,out,ia,ib,0,0)).bind fun c=>match c with
  | (some r,out,ia,ib,_,_)=>some (false,((some r,out,ia,ib,mg),sg))
  | (none,out,ia,ib,ac,bc)=>(iter (mF2 cm x y) (x.size+y.size) ((none,out,ia,ib,mg+1,ac,bc),sg)).map fun c=>match c with
   | ((some r,out,ia,ib,mg,_,_),sg)=>(false,((some r,out,ia,ib,mg),sg))
   | ((none,out,ia,ib,mg,_,_),_)=>(true,((none,out,ia,ib,mg+1),mg+1))
abbrev mlo(cm:Nat->Nat->Option Bool)(x y:Array Nat)(g:Nat):Option (Array Nat × Nat) :=
 (y[0]?).bind fun u=>if(1 == y.size)=true\/(0+1 == x.size)=true then none else(iter (mF0 cm x y) (x.size+y.size) ((none,#[u],0,1,g),g)).bind fun c=>c.1.1.map fun r=>(r,c.2)
abbrev ltp(cm:Nat->Nat->Option Bool)(p:Array Nat)(i j:Nat):Option Bool:=(p[i]?).bind fun u=>(p[j]?).bind fun v=>cm u v
abbrev cF1(cm:Nat->Nat->Option Bool)(lo:Nat)(p:Array Nat)(n:Nat):Option (Bool × Nat):=(ltp cm p (lo+n) (lo+n-1)).map fun t=>if t then(false,n)else(true,n+1)
abbrev cF2(cm:Nat->Nat->Option Bool)(lo:Nat)(p:Array Nat)(n:Nat):Option (Bool × Nat):=(ltp cm p (lo+n) (lo+n-1)).bind fun t=>if t then some (true,n+1)else(ltp cm p (lo+n-1) (lo+n)).bind fun t=>if t then some (false,n)else none
abbrev By(cm:Nat->Nat->Option Bool)(lo nrem:Nat)(p:Array Nat):Option (Nat × Array Nat) :=
 (iter (cF1 cm lo p) (nrem-1) 1).bind fun n=>if(n == nrem)=true then some (n,p)else if n > 1 then(ltp cm p lo (lo+n-1)).bind fun t=>if t then some (n,p)else none
  else(iter (cF2 cm lo p) (nrem-(n+1)) (n+1)).bind fun m=>(iter (cF1 cm lo (kas_rev p lo (lo+m))) (nrem-m) m).map fun r=>(r,kas_rev p lo (lo+m))
abbrev bF1(cm:Nat->Nat->Option Bool)(lo k:Nat)(p:Array Nat)(c:Nat × Nat):Option (Bool × (Nat × Nat)):=if c.1≥c.2 then some (false,c)else(ltp cm p (lo+k) (lo+(c.1+c.2) / 2)).map fun t=>(true,if t then(c.1,(c.1+c.2) / 2)else((c.1+c.2) / 2+1,c.2))
abbrev qV(cm:Nat->Nat->Option Bool)(lo:Nat):List Nat->Array Nat->Option (Array Nat)
 | [],p=>some p
 | k::l,p=>(iter (bF1 cm lo k p) k (0,k)).bind fun c=>qV cm lo l (bubble p (lo+k) (lo+k-(lo+c.1)))
abbrev zs(sa:Nat)(l:List (Nat × Nat))(p:Array Nat):Array Nat:=l.foldl (fun a q=>a.setIfInBounds (sa+q.2) q.1) p
abbrev mat(cm:Nat->Nat->Option Bool)(p:Array Nat)(g sa na sb nb:Nat):Option (Array Nat × Nat) :=
 (p[sb]?).bind fun u=>(gal cm false u p sa na 0).bind fun k=>if(na-k == 0)=true then none else(p[sa+k+(na-k)-1]?).bind fun v=>(gal cm true v p sb nb (nb-1)).bind fun l=>if(l == 0)=true then none
  else if na-k<=l then(mlo cm (p.extract (sa+k) sb) (p.extract sb (sb+l)) g).map fun r=>(zs (sa+k) (r.1.toList.zipIdx 0) p,r.2)else none
@[reducible]noncomputable def Pd:=Array (Nat × Nat × Nat)
abbrev sP(size lo n:Nat)(pd:Pd):Option Pd:=match pd.back? with
 | none=>some (pd.push (lo,n,0))
 | some (s1,n1,_)=>if pd.size > 1 then none else some ((pd.modify (pd.size-1) fun x=>(x.1,x.2.1,power' size (2*s1+n1) (2*s1+n1+n1+n) size)).push (lo,n,0))
abbrev sF(cm:Nat->Nat->Option Bool)(size mr:Nat):Nat × Array Nat × Pd->Option (Bool × (Nat × Array Nat × Pd))
 | (lo,p,pd)=>if lo≥size then some (false,(lo,p,pd))else(By cm lo (size-lo) p).bind fun c =>
  if c.1<mr then(qV cm lo (List.range' (max c.1 1) (min (size-lo) mr-max c.1 1)) c.2).bind fun p=>(sP size lo (min (size-lo) mr) pd).map fun pd=>(true,(lo+min (size-lo) mr,p,pd))else(sP size lo c.1 pd).map fun pd=>(true,(lo+c.1,c.2,pd))
abbrev sM(cm:Nat->Nat->Option Bool)(p:Array Nat)(g:Nat):Pd->Option (Bool × (Array Nat × Pd × Nat))
 | ⟨[(sa,na,pw),(sb,nb,_)]⟩=>(mat cm p g sa na sb nb).map fun r=>(true,(r.1,#[(sa,na+nb,pw)],r.2))
 | _=>none
abbrev sG(cm:Nat->Nat->Option Bool)(c:Array Nat × Pd × Nat):Option (Bool × (Array Nat × Pd × Nat)):=if c.2.1.size<=1 then some (false,c)else sM cm c.1 c.2.2 c.2.1
abbrev srt(cm:Nat->Nat->Option Bool)(p:Array Nat):Option (Array Nat):=(iter (sF cm p.size (minRun' p.size p.size 0)) p.size (0,p,#[])).bind fun c=>(iter (sG cm) p.size (c.2.1,c.2.2,7)).map fun c=>c.1
abbrev qZ(fin:Bool):List (Int × Int)->Bool
 | []=>fin
 | (a,b)::r=>if a == b then qZ fin r else decide (a<b)
abbrev AS(a b:List Int):Bool:=qZ (decide (a.length<b.length)) (a.zip b)
abbrev cmT(ts:List (List Int))(i j:Nat):Option Bool:=(ts[i]?).bind fun a=>(ts[j]?).map fun b=>AS a b
abbrev eN(ts:List (List Int)):Option (List Nat):=if ts.length<2 then some (List.range ts.length)else(srt (cmT ts) (List.range ts.length).toArray).bind fun p=>if p.size == ts.length&&p.toList.all (fun i=>decide (i<ts.length))then some p.toList else none
end TM
namespace RL
open PySem (Str)
@[reducible]noncomputable def Ky:=Sum Int Str
set_option genInjectivity true in
inductive D where
 | non
 | bl (b:Bool)
 | int (i:Int)
 | str (x:Str)
 | tup (xs:List D)
 | lst (xs:List D)
 | dK (ks:List Ky) (vs:List D)
 | dT (ks:List (List Ky)) (vs:List D)
 | scr (xs:List D)
 | exc (c:Str)
 | fT (ks:List (List Ky)) (vs:List D)
 | fL (xs:List D)
 | obj
 deriving Inhabited
mutual
noncomputable def D.imm:D->Bool
 | .tup xs=>az xs
 | .lst _=>false
 | .dK _ _=>false
 | .dT _ _=>false
 | .scr xs=>az xs
 | .fT _ vs=>az vs
 | .fL xs=>az xs
 | _=>true
noncomputable def az:List D->Bool
 | []=>true
 | d::r=>d.imm&&az r
end
mutual
noncomputable def D.noF:D->Bool
 | .tup xs=>qE xs
 | .lst xs=>qE xs
 | .dK _ _=>false
 | .dT _ _=>false
 | .scr _=>false
 | .exc _=>false
 | .fT _ _=>false
 | .fL _=>false
 | _=>true
noncomputable def qE:List D->Bool
 | []=>true
 | d::r=>d.noF&&qE r
end
inductive Bop where | add | sub | mul | fdiv | mod | pow
 deriving DecidableEq
inductive Cop where | lt | le | gt | ge | eq | ne
 deriving DecidableEq
inductive Bi where | len | list | tuple | int | all | any | lenSet | sorted | sortedSet | abs | sum | sortedS | sortedT
 deriving DecidableEq
inductive Ty where | int | bool | list | tuple | str
 deriving DecidableEq
mutual
inductive E where
 | var (i:Nat)
 | cst (d:D)
 | glb (x:Str) (i:Int)
 | bin (o:Bop) (a b:E)
 | cmp (c:Cop) (a b:E)
 | chain (c c':Cop) (a b e:E)
 | isN (neg:Bool) (a:E)
 | and (a b:E)
 | or (a b:E)
 | not (a:E)
 | ifx (t a b:E)
 | tup (es:Es)
 | lst (es:Es)
 | ix (a b:E)
 | slT (a b:E)
 | slF (a b:E)
 | call (f:Nat) (es:Es)
 | bi (b:Bi) (a:E)
 | max (a b:E)
 | dvm (a b:E)
 | isi (a:E) (t:Ty)
 | rng1 (a:E)
 | rngT (a:E)
 | rng2 (a b:E)
 | rng3 (c:Int) (a b:E)
 | neg (a:E)
 | comp (e:E) (tg:List Nat) (it:It) (c:E)
 | compA (e:E) (tg:List Nat) (it:It)
 | join (a:E)
 | isx (a:E) (c:Str)
inductive Es where
 | nil
 | cons (e:E) (es:Es)
inductive It where
 | seq (e:E)
 | rng1 (a:E)
 | rng2 (a b:E)
 | rng3 (c:Int) (a b:E)
 | enm (e:E)
 | zip (a b:E)
end
mutual
inductive S where
 | asg (i:Nat) (e:E)
 | own (i:Nat) (e:E)
 | unp (is:List Nat) (e:E)
 | app (i:Nat) (e:E)
 | aug (i:Nat) (o:Bop) (e:E)
 | ife (t:E) (a b:Ss)
 | ifp (i:Nat) (e:E) (a b:Ss)
 | forr (tg:List Nat) (it:It) (b:Ss)
 | whil (t:E) (b:Ss)
 | ret (e:E)
 | exc (e:E)
 | rais (c:Str) (ps:Es)
 | tryc (b:Ss) (c:Str) (i:Nat) (h:Ss)
inductive Ss where
 | nil
 | cons (s:S) (r:Ss)
 | act (i:Nat) (g:Str) (tbl:List (Str × Nat)) (a:E) (es:Es)
 | opn (j:Nat) (e:E) (r:Sq)
 | tell (i f:Nat) (es:Es) (t:E) (a r:Ss)
inductive Sq where
 | cls (r:Ss)
 | cons (s:S) (r:Sq)
 | opn (j:Nat) (e:E) (r:Sq)
 | frz (j:Nat) (r:Ss)
 | fz (j:Nat) (r:Sq)
end
@[reducible]noncomputable def St:=List (Option D)
@[reducible]noncomputable def Cl:=Nat->List D->Option D
abbrev most:Nat:=100000
abbrev bR{α:Type}(xs:List α)(i:Int):Option α :=
 if 0<=i then xs[i.toNat]? else if -(xs.length:Int)<=i then xs[(i+xs.length).toNat]? else none
abbrev DM(n:Nat)(i:Int):Option Nat :=
 if 0<=i then(if i<n then some i.toNat else none)else if -(n:Int)<=i then some (i+n).toNat else none
abbrev cutAt(n:Nat)(i:Int):Nat:=if 0<=i then min i.toNat n else(i+n).toNat
abbrev aQ:Bop->D->D->Option D
 | .add,.int a,.int b=>some (.int (a+b))
 | .add,.str a,.str b=>if a.length+b.length<=most then some (.str (a++b))else none
 | .add,.lst a,.lst b=>if a.length+b.length<=most then some (.lst (a++b))else none
 | .add,.tup a,.tup b=>if a.length+b.length<=most/\0<a.length then some (.tup (a++b))else if a.length=0 then some (.tup b)else none
 | .sub,.int a,.int b=>some (.int (a-b))
 | .mul,.int a,.int b=>if(-(2 ^ 64)<a/\a<2 ^ 64)\/(-(2 ^ 64)<b/\b<2 ^ 64)then some (.int (a*b))else none
 | .mul,.lst a,.int b=>if 0<=b/\b<=most/\a.length*b.toNat<=most then some (.lst (List.replicate b.toNat a).flatten)else none
 | .fdiv,.int a,.int b=>if 0<b/\b<2 ^ 200 then some (.int (a / b))else none
 | .mod,.int a,.int b=>if 0<b then some (.int (a%b))else none
 | .pow,.int a,.int b=>if 0<=b/\b<=1000/\a.natAbs<2 ^ 64 then some (.int (a ^ b.toNat))else none
 | _,_,_=>none
abbrev eqs(f:D->D->Option Bool):List D->List D->Option Bool
 | a::r,b::s=>(f a b).bind fun e=>(eqs f r s).map fun k=>e&&k
 | _,_=>some true
abbrev eqD:Nat->D->D->Option Bool
 | _,.int a,.int b=>some (a == b)
 | _,.str a,.str b=>some (a == b)
 | _,.bl a,.bl b=>some (a == b)
 | n+1,.tup a,.tup b=>(eqs (eqD n) a b).map fun k=>k&&a.length == b.length
 | n+1,.lst a,.lst b=>(eqs (eqD n) a b).map fun k=>k&&a.length == b.length
 | n+1,.fL a,.fL b=>(eqs (eqD n) a b).map fun k=>k&&a.length == b.length
 | n+1,.lst a,.fL b=>(eqs (eqD n) a b).map fun k=>k&&a.length == b.length
 | n+1,.fL a,.lst b=>(eqs (eqD n) a b).map fun k=>k&&a.length == b.length
 | _,_,_=>none
abbrev bw:Cop->D->D->Option Bool
 | .lt,.int a,.int b=>some (decide (a<b))
 | .le,.int a,.int b=>some (decide (a<=b))
 | .gt,.int a,.int b=>some (decide (b<a))
 | .ge,.int a,.int b=>some (decide (b<=a))
 | .eq,a,b=>eqD 8 a b
 | .ne,a,b=>(eqD 8 a b).map not
 | _,_,_=>none
abbrev truth:D->Option Bool
 | .bl b=>some b
 | .lst xs=>some (!xs.isEmpty)
 | .tup xs=>some (!xs.isEmpty)
 | .int i=>some (i != 0)
 | _=>none
abbrev cE:List D->Option (List Int)
 | []=>some []
 | .int i::r=>(cE r).map (i :: ·)
 | _=>none
abbrev cR:List D->Option (List Bool)
 | []=>some []
 | .bl i::r=>(cR r).map (i :: ·)
 | _=>none
abbrev jJ:List D->Option (List (List Int))
 | []=>some []
 | .tup (d::ds)::r=>(cE (d::ds)).bind fun t=>(jJ r).map (t :: ·)
 | _=>none
abbrev strs?:List D->Option (List Str)
 | []=>some []
 | .str i::r=>(strs? r).map (i :: ·)
 | _=>none
abbrev qu(a:Int):List Int->List Int
 | []=>[a]
 | b::r=>if a<=b then a::b::r else b::qu a r
abbrev sortI:List Int->List Int
 | []=>[]
 | a::r=>qu a (sortI r)
abbrev k6(xs:List Int):List Int:=xs.foldl (fun m k=>if m.any (· == k)then m else m++[k]) []
abbrev items:D->Option (List D)
 | .lst xs=>some xs
 | .tup xs=>some xs
 | .fL xs=>some xs
 | _=>none
abbrev iw:D->Option (List D)
 | .fL xs=>some xs
 | .lst xs=>some xs
 | .tup xs=>some xs
 | _=>none
@[simp] theorem itemsS_lst:iw (.lst xs)=some xs:=rfl
@[simp] theorem itemsS_tup:iw (.tup xs)=some xs:=rfl
abbrev jS:D->Option (List D)
 | .lst xs=>some xs
 | .tup xs=>some xs
 | .str x=>some (x.cps.toList.map fun c=>.str ⟨#[c]⟩)
 | _=>none
abbrev Cu:List Str->Bool
 | a::b::r=>!decide (b.cps.toList<a.cps.toList)&&Cu (b::r)
 | _=>true
abbrev biV:Bi->D->Option D
 | .len,.str x=>if x.length<=most then some (.int x.length)else none
 | .len,.dK ks _=>some (.int ks.length)
 | .len,.dT ks _=>some (.int ks.length)
 | .len,.fT ks _=>some (.int ks.length)
 | .len,d=>(items d).map fun xs=>.int xs.length
 | .list,d=>(items d).map .lst
 | .tuple,d=>(items d).map .tup
 | .int,.bl b=>some (.int (if b then 1 else 0))
 | .int,.int i=>some (.int i)
 | .int,_=>none
 | .all,.lst xs=>(cR xs).map fun bs=>.bl (bs.all id)
 | .any,.lst xs=>(cR xs).map fun bs=>.bl (bs.any id)
 | .all,_=>none
 | .any,_=>none
 | .lenSet,.lst xs=>if xs.length<=1000 then(cE xs).map fun is=>.int (k6 is).length else none
 | .lenSet,_=>none
 | .sorted,.lst xs=>if xs.length<64 then(cE xs).map fun is=>.lst ((sortI is).map .int)else none
 | .sorted,_=>none
 | .sortedSet,.lst xs=>if xs.length<=5 then(cE xs).map fun is=>.lst ((sortI (k6 is)).map .int)else(cE xs).bind fun is=>if(k6 is).length<=4 then some (.lst ((sortI (k6 is)).map .int))else none
 | .sortedSet,_=>none
 | .abs,.int i=>some (.int (if i<0 then -i else i))
 | .abs,_=>none
 | .sortedS,.lst xs=>(strs? xs).bind fun ss=>if Cu ss then some (.lst xs)else none
 | .sortedS,_=>none
 | .sortedT,.lst xs=>(jJ xs).bind fun ts=>(TM.eN ts).map fun p=>.lst (p.map fun i=>xs.getD i .non)
 | .sortedT,_=>none
 | .sum,.lst xs=>(cE xs).map fun is=>.int is.sum
 | .sum,_=>none
abbrev et:Ty->D->Option Bool
 | .int,.int _=>some true
 | .int,.bl _=>some true
 | .bool,.bl _=>some true
 | .list,.lst _=>some true
 | .list,.fL _=>some true
 | .tuple,.tup _=>some true
 | .str,.str _=>some true
 | _,.non=>some false
 | _,.bl _=>some false
 | _,.int _=>some false
 | _,.str _=>some false
 | _,.tup _=>some false
 | _,.lst _=>some false
 | _,.fL _=>some false
 | _,_=>none
abbrev keyOf:D->Option Ky
 | .int i=>some (.inl i)
 | .str x=>some (.inr x)
 | _=>none
abbrev keysOf:List D->Option (List Ky)
 | []=>some []
 | d::r=>(keyOf d).bind fun k=>(keysOf r).map (k :: ·)
abbrev fV{κ:Type} [DecidableEq κ]:List κ->List D->κ->Option D
 | k::ks,v::vs,x=>if k=x then some v else fV ks vs x
 | _,_,_=>none
abbrev putD{κ:Type} [DecidableEq κ](ks:List κ)(vs:List D)(x:κ)(d:D):List κ × List D :=
 if x∈ks then(ks,List.zipWith (fun k v=>if k=x then d else v) ks vs)else(ks++[x],vs++[d])
abbrev ixV:D->D->Option D
 | .lst xs,.int i=>bR xs i
 | .tup xs,.int i=>bR xs i
 | .str x,.int i=>if x.length<=most then(bR x.cps.toList i).map fun c=>.str ⟨#[c]⟩else none
 | .fL xs,.int i=>if az xs then bR xs i else none
 | _,_=>none
abbrev EZ:D->D->Option D
 | .dK ks vs,k=>(keyOf k).bind (fV ks vs)
 | .dT ks vs,.tup k=>(keysOf k).bind (fV ks vs)
 | .fT ks vs,.tup k=>(keysOf k).bind (fV ks vs)
 | _,_=>none
abbrev EW:D->D->D->Option D
 | .dK ks vs,k,z=>(keyOf k).map fun q=>(fV ks vs q).getD z
 | .dT ks vs,.tup k,z=>(keysOf k).map fun q=>(fV ks vs q).getD z
 | _,_,_=>none
abbrev Fh:D->D->Option Bool
 | .dK ks vs,k=>(keyOf k).map fun k=>(fV ks vs k).isSome
 | .dT ks vs,.tup k=>(keysOf k).map fun k=>(fV ks vs k).isSome
 | .fT ks _,.tup k=>(keysOf k).map fun k=>ks.any fun x=>decide (x=k)
 | _,_=>none
abbrev flat:D->Bool
 | .int _=>true
 | .str _=>true
 | _=>false
abbrev eqF:D->D->Bool
 | .int a,.int b=>a == b
 | .str a,.str b=>a == b
 | _,_=>false
abbrev inV(a b:D):Option Bool :=
 (items b).bind fun xs=>if flat a&&xs.all flat then some (xs.any fun x=>eqF x a)else none
abbrev iL:D->D->Option D
 | .fL xs,.int k=>some (.lst (xs.take (cutAt xs.length k)))
 | .scr xs,.int k=>some (.lst (xs.take (cutAt xs.length k)))
 | .lst xs,.int k=>some (.lst (xs.take (cutAt xs.length k)))
 | .tup xs,.int k=>if cutAt xs.length k<xs.length then some (.tup (xs.take (cutAt xs.length k)))else none
 | _,_=>none
abbrev kE:D->D->Option D
 | .fL xs,.int k=>some (.lst (xs.drop (cutAt xs.length k)))
 | .lst xs,.int k=>some (.lst (xs.drop (cutAt xs.length k)))
 | .tup xs,.int k=>if 0<cutAt xs.length k then some (.tup (xs.drop (cutAt xs.length k)))else none
 | _,_=>none
abbrev bM(lo:Int):Nat->List D
 | 0=>[]
 | n+1=>.int lo::bM (lo+1) n
abbrev bS(c lo:Int):Nat->List D
 | 0=>[]
 | n+1=>.int lo::bS c (lo+c) n
abbrev bq(c a b:Int):Nat:=(if c > 0 then(if a<b then(b-a-1) / c+1 else 0)else(if a > b then(a-b-1) / (-c)+1 else 0)).toNat
abbrev cz:D->D->Option (List D)
 | .int a,.int b=>if(b-a).toNat<=most/\-(2 ^ 60)<=a/\a<2 ^ 60/\-(2 ^ 60)<=b/\b<2 ^ 60 then some (bM a (b-a).toNat)else none
 | _,_=>none
abbrev gL(c:Int):D->D->Option (List D)
 | .int a,.int b=>if c≠0/\-(2 ^ 60)<c/\c<2 ^ 60/\bq c a b<=most/\-(2 ^ 60)<=a/\a<2 ^ 60/\-(2 ^ 60)<=b/\b<2 ^ 60 then some (bS c a (bq c a b))else none
 | _,_=>none
abbrev cP(i:Int):List D->List D
 | []=>[]
 | d::r=>.tup [.int i,d]::cP (i+1) r
abbrev eh:List D->List D->List D
 | a::r,b::s=>.tup [a,b]::eh r s
 | _,_=>[]
abbrev cj:List Nat->List D->St->Option St
 | [],[],σ=>some σ
 | i::is,d::ds,σ=>cj is ds (σ.set i (some d))
 | _,_,_=>none
abbrev aW(tg:List Nat)(d:D)(σ:St):Option St :=
 match tg with
 | [i]=>some (σ.set i (some d))
 | tg=>match d with
  | .tup ds=>cj tg ds σ
  | .lst ds=>cj tg ds σ
  | _=>none
abbrev jC(y:Option D)(ys:List D):Option (List D) :=
 match y with
 | some e=>if e.imm then some (e::ys)else none
 | none=>some ys
abbrev cW(f:St->Option (Option D))(tg:List Nat)(σ:St):List D->Option (List D)
 | []=>some []
 | d::r=>(aW tg d σ).bind fun σ1=>(f σ1).bind fun y=>(cW f tg σ r).bind (jC y)
abbrev aS:D->Bool
 | .lst xs=>az xs
 | .dK _ vs=>az vs
 | .dT _ vs=>az vs
 | _=>false
abbrev E7(f:St->Option D)(fr:Bool)(tg:List Nat)(σ:St):List D->Option (List D)
 | []=>some []
 | d::r=>(aW tg d σ).bind fun σ1=>(f σ1).bind fun y=>if aS y&&fr then(E7 f fr tg σ r).map (y :: ·)else none
abbrev fits(xs:List D):Option (List D):=if xs.length<=most then some xs else none
abbrev aD:E->Bool
 | .lst _=>true
 | .tup _=>true
 | .comp _ _ _ _=>true
 | .compA _ _ _=>true
 | .bin _ _ _=>true
 | .slT _ _=>true
 | .slF _ _=>true
 | .call _ _=>true
 | .bi _ _=>true
 | .rng1 _=>true
 | .rngT _=>true
 | .rng2 _ _=>true
 | .rng3 _ _ _=>true
 | _=>false
abbrev cJ(n c:Str):Bool:=n == c || c == "RibbonError" || c == "ValueError"
abbrev fM(n c:Str):Bool:=cJ (baseOf n) c
abbrev Bk(neg:Bool):D->Option D
 | .non=>some (.bl (!neg))
 | .dK _ _=>none
 | .dT _ _=>none
 | .fT _ _=>none
 | _=>some (.bl neg)
abbrev qD(y:Option D):D->Option D
 | .bl true=>y
 | .bl false=>some (.bl false)
 | _=>none
abbrev orV(y:Option D):D->Option D
 | .bl false=>y
 | .bl true=>some (.bl true)
 | _=>none
abbrev vM:D->Option D
 | .int i=>some (.int (-i))
 | _=>none
abbrev vT:D->D->Option D
 | .int i,.int j=>some (.int (if j > i then j else i))
 | _,_=>none
abbrev AO:D->D->Option D
 | .int i,.int j=>if 0<j/\j<1073741824 then some (.tup [.int (i / j),.int (i%j)])else none
 | _,_=>none
abbrev EG:D->D->D->Option D
 | .lst xs,.int i,.int j=>(cE xs).bind fun is=>if 0<=j/\i∈is.drop j.toNat then some (.int (j.toNat+(is.drop j.toNat).idxOf i:Nat))else none
 | _,_,_=>none
abbrev EH:D->D->Option D
 | .str x,.str y=>match y.cps.toList with
  | [c]=>some (.int (x.cps.toList.count c:Nat))
  | _=>none
 | _,_=>none
abbrev Fd:D->D->Option D
 | .str x,.int k=>if 0<=k/\x.length<=most then some (.str ⟨(x.cps.toList.take k.toNat).toArray⟩)else none
 | _,_=>none
abbrev EV:D->D->Option D
 | .str x,.int k=>if 0<=k/\x.length<=most then some (.str ⟨(x.cps.toList.drop k.toNat).toArray⟩)else none
 | _,_=>none
abbrev ES:D->D->D->D->Option D
 | .str x,y,.str z,w=>if x≠z/\y.imm=true/\w.imm=true then some (.dK [.inr x,.inr z] [y,w])else none
 | _,_,_,_=>none
abbrev ED:D->D->Option D
 | .str x,.int n=>if 1<n/\n<=1000/\0<x.length/\x.length<=100 then some (.str ⟨(List.replicate n.toNat x.cps.toList).flatten.toArray⟩)else none
 | _,_=>none
abbrev CS:D->Option D
 | .lst xs=>(strs? xs).bind fun ss=>if ss.length<=most/\ss.all (fun s=>s.length<=100)then some (.str ⟨(ss.flatMap fun s=>s.cps.toList).toArray⟩)else none
 | _=>none
abbrev Ea(c:Str):D->Option D
 | .exc n=>some (.bl (fM n c))
 | _=>none
abbrev Fc:D->Option D
 | .exc n=>(fR n).bind fun k=>some (.int (Int.ofNat k))
 | _=>none
abbrev kyD:Ky->D
 | .inl i=>.int i
 | .inr x=>.str x
abbrev Ff:D->Option (List D)
 | .fT ks _=>some (ks.map fun k=>.tup (k.map kyD))
 | _=>none
abbrev ER:D->Option D
 | .lst xs=>if az xs then some (.fL xs)else none
 | _=>none
abbrev EN:D->D->Option D
 | .fL a,.lst b=>if a.length+b.length<=most then some (.lst (a++b))else none
 | .lst a,.fL b=>if a.length+b.length<=most then some (.lst (a++b))else none
 | _,_=>none
abbrev EM:D->D->Option D
 | .tup k,v=>(keysOf k).bind fun q=>if v.imm then some (.dT [q] [v])else none
 | _,_=>none
abbrev wZ:List D->Option (List (List Int))
 | []=>some []
 | .fL ds::r=>(cE ds).bind fun is=>(wZ r).map (is :: ·)
 | _=>none
abbrev ltL:List Int->List Int->Bool
 | [],[]=>false
 | [],_::_=>true
 | _::_,[]=>false
 | a::r,b::s=>if a=b then ltL r s else decide (a<b)
abbrev BJ:List Int->List (List Int)->List Int
 | b,[]=>b
 | b,x::r=>BJ (if ltL x b then x else b) r
abbrev EJ:D->Option D
 | .lst xs=>(wZ xs).bind fun rs=>match rs with
  | []=>none
  | x::r=>some (.fL ((BJ x r).map .int))
 | _=>none
abbrev EY(ks:List Str):D->Option D
 | .str w=>some (.bl (ks.any fun k=>decide (k=w)))
 | _=>none
abbrev v7(tbl:List (Str × Nat)):D->Option Nat
 | .str w=>(tbl.find? fun q=>decide (q.1=w)).map (·.2)
 | _=>none
abbrev EF:D->Option (D × D)
 | .tup (d::r)=>if d.imm&&az r then some (d,.fL r)else none
 | _=>none
abbrev Aw:D->Option D
 | .dT ks vs=>some (.fT ks vs)
 | _=>none
@[simp] theorem sv_andt {y:Option D}:qD y (.bl true)=y:=rfl
@[simp] theorem sv_andf {y:Option D}:qD y (.bl false)=some (.bl false):=rfl
@[simp] theorem sv_ort {y:Option D}:orV y (.bl true)=some (.bl true):=rfl
@[simp] theorem sv_orf {y:Option D}:orV y (.bl false)=y:=rfl
@[simp] theorem sv_max {i j:Int}:vT (.int i) (.int j)=some (.int (if j > i then j else i)):=rfl
@[simp] theorem sv_neg {i:Int}:vM (.int i)=some (.int (-i)):=rfl
mutual
noncomputable def ev(cl:Cl)(σ:St):E->Option D
 | .var i=>(σ[i]?).bind id
 | .cst d=>some d
 | .glb _ i=>some (.int i)
 | .bin o a b=>(ev cl σ a).bind fun x=>(ev cl σ b).bind fun y=>aQ o x y
 | .cmp c a b=>(ev cl σ a).bind fun x=>(ev cl σ b).bind fun y=>(bw c x y).map .bl
 | .chain c c' a b e=>(ev cl σ a).bind fun x=>(ev cl σ b).bind fun y=>(bw c x y).bind fun k=>if k then(ev cl σ e).bind fun z=>(bw c' y z).map .bl else some (.bl false)
 | .isN neg a=>(ev cl σ a).bind (Bk neg)
 | .and a b=>(ev cl σ a).bind (qD (ev cl σ b))
 | .or a b=>(ev cl σ a).bind (orV (ev cl σ b))
 | .not a=>((ev cl σ a).bind truth).map fun k=>.bl (!k)
 | .ifx t a b=>((ev cl σ t).bind truth).bind fun k=>if k then ev cl σ a else ev cl σ b
 | .tup es=>(evs cl σ es).map .tup
 | .lst es=>(evs cl σ es).map .lst
 | .ix a b=>(ev cl σ a).bind fun x=>(ev cl σ b).bind fun y=>ixV x y
 | .slT a b=>(ev cl σ a).bind fun x=>(ev cl σ b).bind fun y=>iL x y
 | .slF a b=>(ev cl σ a).bind fun x=>(ev cl σ b).bind fun y=>kE x y
 | .call f es=>(evs cl σ es).bind fun ds=>cl f ds
 | .bi b a=>(ev cl σ a).bind fun x=>biV b x
 | .max a b=>(ev cl σ a).bind fun x=>(ev cl σ b).bind fun y=>vT x y
 | .dvm a b=>(ev cl σ a).bind fun x=>(ev cl σ b).bind fun y=>AO x y
 | .isi a t=>(ev cl σ a).bind fun x=>(et t x).map .bl
 | .rng1 a=>(ev cl σ a).bind fun x=>(cz (.int 0) x).map .lst
 | .rngT a=>(ev cl σ a).bind fun x=>(cz (.int 0) x).map .tup
 | .rng2 a b=>(ev cl σ a).bind fun x=>(ev cl σ b).bind fun y=>(cz x y).map .lst
 | .rng3 c a b=>(ev cl σ a).bind fun x=>(ev cl σ b).bind fun y=>(gL c x y).map .lst
 | .neg a=>(ev cl σ a).bind vM
 | .comp e tg it c=>(bA cl σ it).bind fun ds=>(fits ds).bind fun ds=>(cW (fun σ1=>((ev cl σ1 c).bind truth).bind fun k=>if k then(ev cl σ1 e).map some else some none) tg σ ds).map .lst
 | .compA e tg it=>(bA cl σ it).bind fun ds=>(fits ds).bind fun ds=>(cW (fun σ1=>(ev cl σ1 e).map some) tg σ ds).map .lst
 | .join a=>(ev cl σ a).bind CS
 | .isx a c=>(ev cl σ a).bind (Ea c)
noncomputable def evs(cl:Cl)(σ:St):Es->Option (List D)
 | .nil=>some []
 | .cons e es=>(ev cl σ e).bind fun d=>(evs cl σ es).map (d :: ·)
noncomputable def bA(cl:Cl)(σ:St):It->Option (List D)
 | .seq e=>(ev cl σ e).bind iw
 | .rng1 a=>(ev cl σ a).bind fun x=>cz (.int 0) x
 | .rng2 a b=>(ev cl σ a).bind fun x=>(ev cl σ b).bind fun y=>cz x y
 | .rng3 c a b=>(ev cl σ a).bind fun x=>(ev cl σ b).bind fun y=>gL c x y
 | .enm e=>(ev cl σ e).bind fun x=>(jS x).map (cP 0)
 | .zip a b=>(ev cl σ a).bind fun x=>(ev cl σ b).bind fun y=>(items x).bind fun xs=>(items y).bind fun ys=>if xs.length=ys.length then some (eh xs ys)else none
end
abbrev clX(cl:Cl)(f:Nat)(ds:List D):Option Str:=(cl (f+1000) ds).bind fun d=>match d with
 | .str x=>some x
 | _=>none
mutual
noncomputable def evX(cl:Cl)(σ:St):E->Option Str
 | .call f es=>match evs cl σ es with
  | some ds=>clX cl f ds
  | none=>iC cl σ es
 | .ix a _=>evX cl σ a
 | _=>none
noncomputable def iC(cl:Cl)(σ:St):Es->Option Str
 | .nil=>none
 | .cons e es=>match ev cl σ e with
  | some _=>iC cl σ es
  | none=>evX cl σ e
end
abbrev written:D->Bool
 | .int i=>decide (i.natAbs<2 ^ 1900)
 | _=>false
abbrev Fg(c:Str):D->Option Str
 | .int i=>if 0<=i/\written (.int i)then some (mkR c i.toNat)else none
 | _=>none
inductive Out where
 | nx
 | rt (d:D)
abbrev avE(M:List Nat):E->Bool
 | .var j=>!M.contains j
 | .ix a _=>avE M a
 | .call _ _=>true
 | .ifx _ a b=>avE M a&&avE M b
 | _=>false
abbrev oO(M:List Nat):It->Bool
 | .seq e=>avE M e || aD e
 | .enm e=>avE M e || aD e
 | .zip a b=>(avE M a || aD a)&&(avE M b || aD b)
 | _=>true
abbrev dC(M:List Nat)(e:E)(d:D):Bool :=
 d.imm || (aS d&&(aD e || match e with | .var i=>M.contains i | _=>false))
abbrev cD(M:List Nat)(e:E)(d:D):Bool:=d.imm || (aS d&&aD e) || avE M e
abbrev isVar:E->Bool
 | .var _=>true
 | _=>false
abbrev zA(M ps:List Nat):Nat->Es->List D->Bool
 | _,.nil,[]=>true
 | q,.cons e es,d::ds=>(if ps.contains q then isVar e else cD M e d)&&zA M ps (q+1) es ds
 | _,_,_=>false
abbrev EU:D->D->D->Option D
 | .lst xs,.int k,d=>(DM xs.length k).map fun j=>.lst (xs.set j d)
 | .dK ks vs,k,d=>(keyOf k).bind fun k=>if ks.length<most then some (.dK (putD ks vs k d).1 (putD ks vs k d).2)else none
 | .dT ks vs,.tup k,d=>(keysOf k).bind fun k=>if ks.length<most then some (.dT (putD ks vs k d).1 (putD ks vs k d).2)else none
 | _,_,_=>none
abbrev aZ(f:St->Option (Out × St))(tg:List Nat):List D->St->Option (Out × St)
 | [],σ=>some (.nx,σ)
 | d::r,σ=>if d.imm then(aW tg d σ).bind fun σ1=>(f σ1).bind fun p=>match p.1 with
   | .nx=>aZ f tg r p.2
   | .rt d=>some (.rt d,p.2)
  else none
abbrev whF(t:St->Option Bool)(f:St->Option (Out × St)):Nat->St->Option (Out × St)
 | 0,_=>none
 | n+1,σ=>(t σ).bind fun k=>if k then(f σ).bind fun p=>match p.1 with
   | .nx=>whF t f n p.2
   | .rt d=>some (.rt d,p.2)
  else some (.nx,σ)
abbrev fX(f:St->Option (Out × St))(fx:St->Option (Str × St))(tg:List Nat):List D->St->Option (Str × St)
 | [],_=>none
 | d::r,σ=>if d.imm then(aW tg d σ).bind fun σ1=>match f σ1 with
   | some p=>match p.1 with
    | .nx=>fX f fx tg r p.2
    | .rt _=>none
   | none=>fx σ1
  else none
abbrev Fb:D->Option (D × D)
 | .lst xs=>(xs[xs.length-1]?).map fun d=>(d,.lst xs.dropLast)
 | _=>none
abbrev Fe:D->D->Option D
 | .lst xs,.int k=>if 0<=k/\k<xs.length then some (.lst (xs.eraseIdx k.toNat))else none
 | _,_=>none
abbrev EL:D->D->D->Option D
 | .lst xs,.int a,.int b=>if 0<=a/\a<=b/\b<=xs.length then some (.lst (xs.take a.toNat++xs.drop b.toNat))else none
 | _,_,_=>none
abbrev ET:D->Option D
 | .lst xs=>some (.lst xs.reverse)
 | _=>none
abbrev EI(σ:St)(r w:Nat)(l:D):D->Option (Out × St)
 | .tup [_,R]=>some (.nx,(σ.set w (some l)).set r (some R))
 | _=>none
abbrev EK:D->D->Option D
 | .str a,.str b=>if a.length+b.length<=most then some (.str (a++b))else none
 | _,_=>none
abbrev back:Out × St->Option (Out × St)
 | (.nx,_)=>none
 | p=>some p
abbrev DQ(i:Nat):E:=.isi (.ix (.var i) (.cst (.int 1))) .list
abbrev told:D->Bool
 | .tup [_,.fL xs]=>decide (xs.length<most)
 | _=>false
mutual
noncomputable def evS(cl:Cl)(M:List Nat):S->St->Option (Out × St)
 | .asg i e,σ=>(ev cl σ e).bind fun d=>if cD M e d then some (.nx,σ.set i (some d))else none
 | .own i e,σ=>(ev cl σ e).bind fun d=>if aS d&&aD e then some (.nx,σ.set i (some d))else none
 | .unp is e,σ=>(ev cl σ e).bind fun d=>(items d).bind fun ds=>if az ds then(cj is ds σ).map fun σ1=>(.nx,σ1)else none
 | .app i e,σ=>(ev cl σ e).bind fun d=>((σ[i]?).bind id).bind fun l=>match l with
  | .lst xs=>if d.imm&&decide (xs.length<most)then some (.nx,σ.set i (some (.lst (xs++[d]))))else none
  | _=>none
 | .aug i o e,σ=>((σ[i]?).bind id).bind fun x=>(ev cl σ e).bind fun y=>match x,y with
  | .int a,.int b=>(aQ o (.int a) (.int b)).map fun z=>(.nx,σ.set i (some z))
  | _,_=>none
 | .ife t a b,σ=>((ev cl σ t).bind truth).bind fun k=>if k then ai cl M a σ else ai cl M b σ
 | .ifp i e a b,σ=>((σ[i]?).bind id).bind fun l=>match l with
  | .lst xs=>(xs[xs.length-1]?).bind fun d=>(ev cl (σ.set i (some (.lst xs.dropLast))) e).bind fun y=>match d,y with
   | .int p,.int q=>if decide (p=q)then ai cl M b (σ.set i (some (.lst xs.dropLast)))else ai cl M a (σ.set i (some (.lst xs.dropLast)))
   | _,_=>none
  | _=>none
 | .forr tg it b,σ=>(bA cl σ it).bind fun ds=>aZ (ai cl M b) tg ds σ
 | .whil t b,σ=>whF (fun σ=>(ev cl σ t).bind truth) (ai cl M b) most σ
 | .ret e,σ=>(ev cl σ e).bind fun d=>if dC M e d then some (.rt d,σ)else none
 | .exc e,σ=>(ev cl σ e).map fun _=>(.nx,σ)
 | .rais _ _,_=>none
 | .tryc b c i h,σ=>match ai cl M b σ with
  | some p=>some p
  | none=>(bI cl M b σ).bind fun q=>if fM q.1 c then(ai cl M h (q.2.set i (some (.exc q.1)))).map fun r=>(r.1,r.2.set i none)else none
noncomputable def ai(cl:Cl)(M:List Nat):Ss->St->Option (Out × St)
 | .nil,σ=>some (.nx,σ)
 | .cons s r,σ=>(evS cl M s σ).bind fun p=>match p.1 with
  | .nx=>ai cl M r p.2
  | .rt d=>some (.rt d,p.2)
 | .opn j e r,σ=>(ev cl σ e).bind fun d=>if aS d&&aD e then iM cl M (j::M) r (σ.set j (some d))else none
 | .tell i f es t a r,σ=>(evs cl σ es).bind fun ds=>if qE ds then(cl f ds).bind fun d=>if d.imm then((ev cl (σ.set i (some d)) t).bind truth).bind fun k=>if k then(ai cl M a (σ.set i (some d))).bind back else((ev cl (σ.set i (some d)) (DQ i)).bind truth).bind fun k=>if k then(if told d then ai cl M r (σ.set i (some .obj))else none)else ai cl M r (σ.set i (some d))
  else none else none
 | .act i _ tbl a es,σ=>((ev cl σ a).bind (v7 tbl)).bind fun f=>(evs cl (σ.set i none) es).bind fun ds=>(cl f ds).bind fun d=>if d.imm then some (.rt d,σ)else none
noncomputable def iM(cl:Cl)(M:List Nat):List Nat->Sq->St->Option (Out × St)
 | _,.cls r,σ=>ai cl M r σ
 | M1,.cons s r,σ=>(evS cl M1 s σ).bind fun p=>match p.1 with
  | .nx=>iM cl M M1 r p.2
  | .rt _=>none
 | M1,.opn j e r,σ=>(ev cl σ e).bind fun d=>if aS d&&aD e then iM cl M (j::M1) r (σ.set j (some d))else none
 | _,.frz j r,σ=>(((σ[j]?).bind id).bind Aw).bind fun d=>ai cl M r (σ.set j (some d))
 | M1,.fz j r,σ=>(((σ[j]?).bind id).bind Aw).bind fun d=>iM cl M M1.tail r (σ.set j (some d))
noncomputable def la(cl:Cl)(M:List Nat):S->St->Option (Str × St)
 | .asg _ e,σ=>(evX cl σ e).map fun x=>(x,σ)
 | .own _ e,σ=>(evX cl σ e).map fun x=>(x,σ)
 | .unp _ e,σ=>(evX cl σ e).map fun x=>(x,σ)
 | .exc e,σ=>(evX cl σ e).map fun x=>(x,σ)
 | .ret e,σ=>(evX cl σ e).map fun x=>(x,σ)
 | .ife t a b,σ=>((ev cl σ t).bind truth).bind fun k=>if k then bI cl M a σ else bI cl M b σ
 | .forr tg it b,σ=>(bA cl σ it).bind fun ds=>fX (ai cl M b) (bI cl M b) tg ds σ
 | .rais c ps,σ=>(evs cl σ ps).bind fun ds=>if ds.all written then some (c,σ)else none
 | _,_=>none
noncomputable def bI(cl:Cl)(M:List Nat):Ss->St->Option (Str × St)
 | .nil,_=>none
 | .cons s r,σ=>match evS cl M s σ with
  | some p=>match p.1 with
   | .nx=>bI cl M r p.2
   | .rt _=>none
  | none=>la cl M s σ
 | .opn _ _ _,_=>none
 | .tell _ _ _ _ _ _,_=>none
 | .act _ _ _ _ _,_=>none
end
def jQ:ev cl σ (.var i)=((σ[i]?).bind id):=rfl
def wW:ev cl σ (.cst d)=(some d):=rfl
def CB:ev cl σ (.glb y1 i)=(some (.int i)):=rfl
def xp:ev cl σ (.bin o a b)=((ev cl σ a).bind fun x=>(ev cl σ b).bind fun y=>aQ o x y):=rfl
def D9:ev cl σ (.cmp c a b)=((ev cl σ a).bind fun x=>(ev cl σ b).bind fun y=>(bw c x y).map .bl):=rfl
def kO:ev cl σ (.chain c c' a b e)=((ev cl σ a).bind fun x=>(ev cl σ b).bind fun y=>(bw c x y).bind fun k=>if k then(ev cl σ e).bind fun z=>(bw c' y z).map .bl else some (.bl false)):=rfl
def CY:ev cl σ (.isN neg a)=((ev cl σ a).bind (Bk neg)):=rfl
def mi:ev cl σ (.and a b)=((ev cl σ a).bind (qD (ev cl σ b))):=rfl
def vS:ev cl σ (.or a b)=((ev cl σ a).bind (orV (ev cl σ b))):=rfl
def wL:ev cl σ (.not a)=(((ev cl σ a).bind truth).map fun k=>.bl (!k)):=rfl
def D0:ev cl σ (.ifx t a b)=(((ev cl σ t).bind truth).bind fun k=>if k then ev cl σ a else ev cl σ b):=rfl
def C7:ev cl σ (.tup es)=((evs cl σ es).map .tup):=rfl
def wO:ev cl σ (.lst es)=((evs cl σ es).map .lst):=rfl
def DX:ev cl σ (.ix a b)=((ev cl σ a).bind fun x=>(ev cl σ b).bind fun y=>ixV x y):=rfl
def CA:ev cl σ (.slT a b)=((ev cl σ a).bind fun x=>(ev cl σ b).bind fun y=>iL x y):=rfl
def CV:ev cl σ (.slF a b)=((ev cl σ a).bind fun x=>(ev cl σ b).bind fun y=>kE x y):=rfl
def gD:ev cl σ (.call f es)=((evs cl σ es).bind fun ds=>cl f ds):=rfl
def DT:ev cl σ (.bi b a)=((ev cl σ a).bind fun x=>biV b x):=rfl
def CT:ev cl σ (.max a b)=((ev cl σ a).bind fun x=>(ev cl σ b).bind fun y=>vT x y):=rfl
def CF:ev cl σ (.dvm a b)=((ev cl σ a).bind fun x=>(ev cl σ b).bind fun y=>AO x y):=rfl
def CG:ev cl σ (.isi a t)=((ev cl σ a).bind fun x=>(et t x).map .bl):=rfl
def Dv:ev cl σ (.neg a)=((ev cl σ a).bind vM):=rfl
def BH:ev cl σ (.comp e tg it c)=((bA cl σ it).bind fun ds=>(fits ds).bind fun ds=>(cW (fun σ1=>((ev cl σ1 c).bind truth).bind fun k=>if k then(ev cl σ1 e).map some else some none) tg σ ds).map .lst):=rfl
def yw:ev cl σ (.compA e tg it)=((bA cl σ it).bind fun ds=>(fits ds).bind fun ds=>(cW (fun σ1=>(ev cl σ1 e).map some) tg σ ds).map .lst):=rfl
def rG:evS cl M (.asg i e) σ=((ev cl σ e).bind fun d=>if cD M e d then some (.nx,σ.set i (some d))else none):=rfl
def wI:evS cl M (.own i e) σ=((ev cl σ e).bind fun d=>if aS d&&aD e then some (.nx,σ.set i (some d))else none):=rfl
def CP:evS cl M (.unp is e) σ=((ev cl σ e).bind fun d=>(items d).bind fun ds=>if az ds then(cj is ds σ).map fun σ1=>(.nx,σ1)else none):=rfl
def wN:evS cl M (.app i e) σ=((ev cl σ e).bind fun d=>((σ[i]?).bind id).bind fun l=>match l with
  | .lst xs=>if d.imm&&decide (xs.length<most)then some (.nx,σ.set i (some (.lst (xs++[d]))))else none
  | _=>none):=rfl
def DA:evS cl M (.aug i o e) σ=(((σ[i]?).bind id).bind fun x=>(ev cl σ e).bind fun y=>match x,y with
  | .int a,.int b=>(aQ o (.int a) (.int b)).map fun z=>(.nx,σ.set i (some z))
  | _,_=>none):=rfl
def ji:evS cl M (.ife t a b) σ=(((ev cl σ t).bind truth).bind fun k=>if k then ai cl M a σ else ai cl M b σ):=rfl
def Dj:evS cl M (.ifp i e a b) σ=(((σ[i]?).bind id).bind fun l=>match l with
  | .lst xs=>(xs[xs.length-1]?).bind fun d=>(ev cl (σ.set i (some (.lst xs.dropLast))) e).bind fun y=>match d,y with
   | .int p,.int q=>if decide (p=q)then ai cl M b (σ.set i (some (.lst xs.dropLast)))else ai cl M a (σ.set i (some (.lst xs.dropLast)))
   | _,_=>none
  | _=>none):=rfl
def oi:evS cl M (.forr tg it b) σ=((bA cl σ it).bind fun ds=>aZ (ai cl M b) tg ds σ):=rfl
def B7:evS cl M (.whil t b) σ=(whF (fun σ=>(ev cl σ t).bind truth) (ai cl M b) most σ):=rfl
def my:evS cl M (.ret e) σ=((ev cl σ e).bind fun d=>if dC M e d then some (.rt d,σ)else none):=rfl
def wH:evS cl M (.exc e) σ=((ev cl σ e).map fun _=>(.nx,σ)):=rfl
def Bn:evS cl M (.rais y1 y2) σ=(none):=rfl
def sx:evS cl M (.tryc b c i h) σ=(match ai cl M b σ with
  | some p=>some p
  | none=>(bI cl M b σ).bind fun q=>if fM q.1 c then(ai cl M h (q.2.set i (some (.exc q.1)))).map fun r=>(r.1,r.2.set i none)else none):=rfl
def DW:aQ .add (.tup a) (.tup b)=(if a.length+b.length<=most/\0<a.length then some (.tup (a++b))else if a.length=0 then some (.tup b)else none):=rfl
def Bl:aQ .mul (.int a) (.int b)=(if(-(2 ^ 64)<a/\a<2 ^ 64)\/(-(2 ^ 64)<b/\b<2 ^ 64)then some (.int (a*b))else none):=rfl
def E4:aQ .fdiv (.int a) (.int b)=(if 0<b/\b<2 ^ 200 then some (.int (a / b))else none):=rfl
def DK:aQ .mod (.int a) (.int b)=(if 0<b then some (.int (a%b))else none):=rfl
def ot:aW [i] d σ=some (σ.set i (some d)):=rfl
def zw:eqD n (.int a) (.int b)=some (a == b):=by cases n<;>rfl
def zK:eqD n (.str a) (.str b)=some (a == b):=by cases n<;>rfl
def Be:eqD n (.bl a) (.bl b)=some (a == b):=by cases n<;>rfl
def E2:eqD (n+1) (.tup a) (.tup b)=(eqs (eqD n) a b).map fun k=>k&&a.length == b.length:=rfl
def DS:eqD (n+1) (.lst a) (.lst b)=(eqs (eqD n) a b).map fun k=>k&&a.length == b.length:=rfl
def DD:biV .len (.lst xs)=some (.int xs.length):=rfl
def Ez:biV .all (.lst xs)=(cR xs).map fun bs=>.bl (bs.all id):=rfl
def DF:biV .len (.str x)=if x.length<=most then some (.int x.length)else none:=rfl
def xa:biV .sortedT (.lst xs)=(jJ xs).bind fun ts=>(TM.eN ts).map fun p=>.lst (p.map fun i=>xs.getD i .non):=rfl
def EC:avE M (.var j)=!M.contains j:=rfl
set_option autoImplicit false
structure Fn where
 ps:Nat
 nn:Nat
 M:List Nat
 mp:List Nat
 body:Ss
abbrev gz(σ:St):List Nat->Option (List D)
 | []=>some []
 | i::is=>((σ[i]?).bind id).bind fun d=>(gz σ is).map (d :: ·)
abbrev bU(fn:Fn)(d:D)(σ:St):Option D :=
 if fn.mp.isEmpty then some d else if d.imm then(gz σ fn.mp).map fun os=>.tup (d::os)else none
abbrev aq(T:List Fn):Nat->Cl
 | 0,_,_=>none
 | n+1,f,ds=>match T[f]? with
  | some fn=>if ds.length=fn.ps then(ai (aq T n) fn.M fn.body (ds.map some++List.replicate (fn.nn-fn.ps) none)).bind fun p=>match p.1 with
   | .nx=>bU fn .non p.2
   | .rt d=>bU fn d p.2
   else none
  | none=>(T[f-1000]?).bind fun fn=>if ds.length=fn.ps/\fn.mp=[]then(bI (aq T n) fn.M fn.body (ds.map some++List.replicate (fn.nn-fn.ps) none)).map fun p=>.str p.1 else none
end RL
namespace RT
open RL
abbrev gj:Fn :=
 ⟨1,1,[],[],(.cons (.ret (.and (.isi (.var 0) .int) (.not (.isi (.var 0) .bool)))) .nil)⟩
abbrev dn(f_is_number:Nat):Fn :=
 ⟨1,1,[],[],(.cons (.ret (.and (.call f_is_number (.cons (.var 0) .nil)) (.chain .le .le (.cst (.int 1)) (.var 0) (.glb "MOST_PEGS" 10)))) .nil)⟩
abbrev dP(f_is_peg_count:Nat):Fn :=
 ⟨1,1,[],[],(.cons (.ife (.not (.call f_is_peg_count (.cons (.var 0) .nil))) (.cons (.rais "BadPegs" (.cons (.glb "MOST_PEGS" 10) .nil)) .nil) .nil) .nil)⟩
abbrev i5:Fn :=
 ⟨1,3,[],[],(.cons (.asg 1 (.bin .mod (.bin .add (.bin .mul (.var 0) (.cst (.int 48271))) (.cst (.int 11))) (.cst (.int 2147483647)))) (.cons (.asg 2 (.bin .mod (.bin .add (.bin .add (.bin .mul (.var 1) (.var 1)) (.bin .mul (.cst (.int 40692)) (.var 1))) (.var 0)) (.cst (.int 2147483399)))) (.cons (.ret (.bin .mod (.bin .add (.bin .add (.bin .mul (.var 2) (.var 2)) (.bin .mul (.cst (.int 69621)) (.var 2))) (.var 1)) (.cst (.int 2147483563)))) .nil)))⟩
abbrev gP(f_law_mix:Nat):Ss :=
 (.cons (.asg 3 (.bin .add (.bin .mul (.var 3) (.cst (.int 2147483563))) (.call f_law_mix (.cons (.bin .add (.bin .add (.var 2) (.bin .mul (.cst (.int 1009)) (.var 1))) (.bin .mul (.cst (.int 7919)) (.var 4))) .nil)))) .nil)
abbrev iD(f_law_mix:Nat):Fn :=
 ⟨2,5,[],[],(.cons (.asg 2 (.bin .add (.bin .mul (.cst (.int 7)) (.var 1)) (.cst (.int 3)))) (.cons (.ife (.cmp .gt (.bi .len (.var 0)) (.cst (.int 0))) (.cons (.asg 2 (.bin .add (.ix (.var 0) (.bin .mod (.var 1) (.bi .len (.var 0)))) (.bin .mul (.cst (.int 9973)) (.bin .fdiv (.var 1) (.bi .len (.var 0)))))) .nil) .nil) (.cons (.ife (.and (.cmp .lt (.var 1) (.bi .len (.var 0))) (.cmp .ge (.var 2) (.bin .pow (.cst (.int 10)) (.cst (.int 18))))) (.cons (.ret (.bin .sub (.var 2) (.bin .pow (.cst (.int 10)) (.cst (.int 18))))) .nil) .nil) (.cons (.asg 3 (.cst (.int 0))) (.cons (.forr [4] (.rng1 (.cst (.int 40))) (gP f_law_mix)) (.cons (.ret (.var 3)) .nil))))))⟩
abbrev eM(f_law_raw:Nat):Ss :=
 (.cons (.app 4 (.bin .mod (.var 3) (.var 5))) (.cons (.asg 3 (.bin .fdiv (.var 3) (.var 5))) .nil))
abbrev dR(f_law_raw:Nat):Fn :=
 ⟨3,6,[4],[],(.cons (.asg 3 (.call f_law_raw (.cons (.var 0) (.cons (.var 1) .nil)))) (.cons (.own 4 (.lst .nil)) (.cons (.forr [5] (.seq (.var 2)) (eM f_law_raw)) (.cons (.ret (.var 4)) .nil))))⟩
abbrev fH(f_names_back:Nat):Fn :=
 ⟨1,2,[],[],(.cons (.ret (.and (.isi (.var 0) .tuple) (.bi .all (.compA (.call f_names_back (.cons (.var 0) (.cons (.var 1) .nil))) [1] (.rng1 (.bi .len (.var 0))))))) .nil)⟩
abbrev fJ(f_is_number:Nat):Fn :=
 ⟨2,3,[],[],(.cons (.asg 2 (.ix (.var 0) (.var 1))) (.cons (.ret (.and (.call f_is_number (.cons (.var 2) .nil)) (.and (.chain .le .lt (.cst (.int 0)) (.var 2) (.bi .len (.var 0))) (.cmp .eq (.ix (.var 0) (.var 2)) (.var 1))))) .nil))⟩
abbrev bD:Ss :=
 (.cons (.ife (.cmp .gt (.var 3) (.var 2)) (.cons (.app 1 (.var 2)) .nil) (.cons (.ife (.cmp .eq (.var 3) (.var 2)) (.cons (.ife (.var 1) (.cons (.ret (.cst (.bl false))) .nil) .nil) .nil) (.cons (.ifp 1 (.var 3) (.cons (.ret (.cst (.bl false))) .nil) .nil) .nil)) .nil)) .nil)
abbrev eg:Fn :=
 ⟨1,4,[1],[],(.cons (.own 1 (.lst .nil)) (.cons (.forr [2,3] (.enm (.var 0)) (bD)) (.cons (.ret (.cst (.bl true))) .nil)))⟩
abbrev cO(f_law_same:Nat):Fn :=
 ⟨2,4,[],[],(.cons (.ife (.isN false (.var 1)) (.cons (.ret (.isN false (.var 0))) .nil) .nil) (.cons (.ife (.or (.cmp .ne (.isi (.var 0) .bool) (.isi (.var 1) .bool)) (.cmp .ne (.isi (.var 0) .int) (.isi (.var 1) .int))) (.cons (.ret (.cst (.bl false))) .nil) .nil) (.cons (.ife (.or (.cmp .ne (.isi (.var 0) .list) (.isi (.var 1) .list)) (.cmp .ne (.isi (.var 0) .tuple) (.isi (.var 1) .tuple))) (.cons (.ret (.cst (.bl false))) .nil) .nil) (.cons (.ife (.and (.not (.isi (.var 1) .list)) (.not (.isi (.var 1) .tuple))) (.cons (.ret (.and (.cmp .eq (.isi (.var 0) .str) (.isi (.var 1) .str)) (.cmp .eq (.var 0) (.var 1)))) .nil) .nil) (.cons (.ret (.and (.cmp .eq (.bi .len (.var 0)) (.bi .len (.var 1))) (.bi .all (.compA (.call f_law_same (.cons (.var 2) (.cons (.var 3) .nil))) [2,3] (.zip (.var 0) (.var 1)))))) .nil)))))⟩
abbrev iF(f_is_uncrossed f_is_pairing f_is_peg_count:Nat):Fn :=
 ⟨1,1,[],[],(.cons (.ret (.and (.call f_is_peg_count (.cons (.bi .len (.var 0)) .nil)) (.and (.call f_is_pairing (.cons (.var 0) .nil)) (.call f_is_uncrossed (.cons (.var 0) .nil))))) .nil)⟩
abbrev cH:Ss :=
 (.cons (.ife (.or (.not (.chain .lt .lt (.var 2) (.ix (.var 0) (.var 4)) (.var 3))) (.cmp .eq (.ix (.var 0) (.var 4)) (.var 4))) (.cons (.ret (.cst (.bl false))) .nil) .nil) .nil)
abbrev dh:Ss :=
 (.cons (.forr [4] (.rng2 (.bin .add (.var 2) (.cst (.int 1))) (.var 3)) (cH)) .nil)
abbrev cL:Ss :=
 (.cons (.ife (.or (.not (.chain .le .lt (.cst (.int 0)) (.var 3) (.var 1))) (.cmp .ne (.ix (.var 0) (.var 3)) (.var 2))) (.cons (.ret (.cst (.bl false))) .nil) .nil) .nil)
abbrev eT:Fn :=
 ⟨1,5,[],[],(.cons (.asg 1 (.bi .len (.var 0))) (.cons (.ife (.or (.cmp .lt (.var 1) (.cst (.int 1))) (.cmp .gt (.var 1) (.cst (.int 10)))) (.cons (.ret (.cst (.bl false))) .nil) .nil) (.cons (.forr [2,3] (.enm (.var 0)) (cL)) (.cons (.forr [2,3] (.enm (.var 0)) (dh)) (.cons (.ret (.cst (.bl true))) .nil)))))⟩
end RT
namespace M
section
end
end M
namespace RL
abbrev evF(cl:Cl)(fn:Fn)(ds:List D):Option D:=if ds.length=fn.ps then(ai cl fn.M fn.body (ds.map some++List.replicate (fn.nn-fn.ps) none)).bind fun p=>match p.1 with
  | .nx=>bU fn .non p.2
  | .rt d=>bU fn d p.2
  else none
def ay(h:T[f]?=some fn):aq T (n+1) f ds=evF (aq T n) fn ds:=by
 rw[aq,h];rfl
abbrev L(xs:List Nat):List D:=xs.map fun(i:Nat)=>.int (i:Int)
def pP(I:List D->St->Prop):∀ (ds done:List D) (σ:St),(∀ pre d post σ,done++ds=pre++d::post->I pre σ->d.imm=true/\∃ σ2,(aW tg d σ).bind f=some (.nx,σ2)/\I (pre++[d]) σ2)->I done σ->∃ σ',aZ f tg ds σ=some (.nx,σ')/\I (done++ds) σ'
 | [],done,σ,_,h=>⟨σ,rfl,by simpa using h⟩
 | d::ds,done,σ,hs,h=>by
  obtain⟨im,σ2,h1,h3⟩:=hs done d ds σ rfl h;obtain⟨σ',h4,h5⟩:=pP I ds (done++[d]) σ2 (fun pre e post σ he=>hs pre e post σ (by simpa using he)) h3;refine⟨σ',?_,by simpa using h5⟩;rw[aZ,if_pos im]
  cases hb:aW tg d σ with
  | none=>rw[hb]at h1;cases h1
  |some σ1=>
   rw[hb]at h1;simp only[Option.bind_some]at h1 ⊢;rw[h1];exact h4
def yg(I:List D->St->Prop)(h0:I [] σ)(hs:∀ pre d post σ,ds=pre++d::post->I pre σ->d.imm=true/\∃ σ2,(aW tg d σ).bind f=some (.nx,σ2)/\I (pre++[d]) σ2):∃ σ',aZ f tg ds σ=some (.nx,σ')/\I ds σ' :=
 pP I ds [] σ (by simpa using hs) h0
@[simp] theorem tf_lst:aD (.lst a)=true:=rfl
@[simp] theorem tf_tup:aD (.tup a)=true:=rfl
@[simp] theorem tf_comp:aD (.comp a b c d)=true:=rfl
@[simp] theorem tf_compA:aD (.compA a b c)=true:=rfl
@[simp] theorem tf_bin:aD (.bin a b c)=true:=rfl
@[simp] theorem tf_slT:aD (.slT a b)=true:=rfl
@[simp] theorem tf_slF:aD (.slF a b)=true:=rfl
@[simp] theorem tf_call:aD (.call a b)=true:=rfl
@[simp] theorem tf_bi:aD (.bi a b)=true:=rfl
@[simp] theorem tf_rng1:aD (.rng1 a)=true:=rfl
@[simp] theorem tf_rng2:aD (.rng2 a b)=true:=rfl
@[simp] theorem tf_rng3:aD (.rng3 a b c)=true:=rfl
end RL
namespace RM
open RL RT
section basics
def cw:bw .lt (.int a) (.int b)=some (decide (a<b)):=rfl
def gp:bw .le (.int a) (.int b)=some (decide (a<=b)):=rfl
def iG:bw .gt (.int a) (.int b)=some (decide (b<a)):=rfl
def qF:bw .ge (.int a) (.int b)=some (decide (b<=a)):=rfl
def d7:bw .eq (.int a) (.int b)=some (a == b):=rfl
def zP:bw .ne (.int a) (.int b)=some (!(a == b)):=rfl
def bj:aQ .add (.int a) (.int b)=some (.int (a+b)):=rfl
def bf:aQ .sub (.int a) (.int b)=some (.int (a-b)):=rfl
def fW(h:0<b):aQ .mod (.int a) (.int b)=some (.int (a%b)):=DK.trans (if_pos h)
def mD(h:0<b)(h':b<2 ^ 200):aQ .fdiv (.int a) (.int b)=some (.int (a / b)):=E4.trans (if_pos ⟨h,h'⟩)
def dA(h1:-(2 ^ 64)<a)(h2:a<2 ^ 64):aQ .mul (.int a) (.int b)=some (.int (a*b)):=Bl.trans (if_pos (.inl ⟨h1,h2⟩))
def oZ(h1:-(2 ^ 64)<b)(h2:b<2 ^ 64):aQ .mul (.int a) (.int b)=some (.int (a*b)):=Bl.trans (if_pos (.inr ⟨h1,h2⟩))
def EO(k:Bool):truth (.bl k)=some k:=rfl
end basics
def xR(h:L xs=pre++d::post):∃ p x q,xs=p++x::q/\pre=L p/\d=.int (x:Nat)/\post=L q:=by
 obtain⟨p,r,rfl,h1,h2⟩:=List.map_eq_append_iff.mp h;obtain⟨x,q,rfl,h3,h4⟩:=List.map_eq_cons_iff.mp h2;exact⟨p,x,q,rfl,h1.symm,h3.symm,h4.symm⟩
def mz:∀ {a b:List Nat},L a=L b->a=b
 | [],[],_=>rfl
 | [],_::_,h=>by simp[L]at h
 | _::_,[],h=>by simp[L]at h
 | x::a,y::b,h=>by
  unfold L at h;rw[List.map_cons,List.map_cons,List.cons.injEq]at h
  have h1:(x:Int)=y:=by injection h.1
  rw[mz h.2,Int.ofNat_inj.mp h1]
def kr(I:List Nat->St->Prop)(h0:I [] σ)(hs:∀ p x q σ,xs=p++x::q->I p σ->∃ σ2,(aW tg (.int (x:Nat)) σ).bind f=some (.nx,σ2)/\I (p++[x]) σ2):∃ σ',aZ f tg (L xs) σ=some (.nx,σ')/\I xs σ':=by
 obtain⟨σ',e,p,hp,hi⟩:=yg (ds:=L xs) (σ:=σ) (fun pre σ=>∃ p,pre=L p/\I p σ) ⟨[],rfl,h0⟩ (by
  rintro pre d post σ hd ⟨p',hp',hi⟩;obtain⟨p,x,q,rfl,rfl,rfl,rfl⟩:=xR hd;have:=mz hp';subst this;obtain⟨σ2,h1,h2⟩:=hs p x q σ rfl hi
  exact⟨rfl,σ2,h1,p++[x],by simp[L],h2⟩)
 have:=mz hp;subst this;exact⟨σ',e,hi⟩
def bN(xs:List Nat):(L xs).length=xs.length:=by simp[L]
def qU(xs:List Nat)(i:Nat):(L xs)[i]?=(xs[i]?).map fun(i:Nat)=>.int (i:Int):=by simp[L]
def gZ:∀ xs:List Nat,az (L xs)=true
 | []=>rfl
 | x::xs=>by
  show((D.int x).imm&&az (L xs))=true;rw[gZ xs];rfl
def gO(xs ys:List Nat):L (xs++ys)=L xs++L ys:=by simp[L]
def e8(xs:List α)(i:Nat):bR xs (i:Int)=xs[i]?:=by
 rfl
def js(a:Nat):∀ n:Nat,bM (a:Int) n=L (List.range' a n)
 | 0=>rfl
 | n+1=>by
  rw[bM,List.range'_succ];have:=js (a+1) n;rw[show((a+1:Nat):Int)=(a:Int)+1 by lia]at this;rw[this];rfl
def lX{a b:Nat}(h1:a<=1000)(h2:b<=1000):cz (.int a) (.int b)=some (L (List.range' a (b-a))):=by
 dsimp only[cz]
 have:((b:Int)-a).toNat=b-a:=by lia
 rw[if_pos ⟨by unfold most;lia,by lia,by lia,by lia,by lia⟩,this,js]
section
def ma(i:Int):evF cl gj [.int i]=some (.bl true):=rfl
def j8(h:∀ i:Int,cl f [.int i]=some (.bl true))(i:Int):evF cl (dn f) [.int i]=some (.bl (decide (1<=i/\i<=10))):=by
 simp[evF,dn,ai,my,mi,gD,kO,wW,CB,jQ,evs,h,gp,dC,D.imm,bU];by_cases h1:1<=i<;>simp[h1,D.imm,bU]
def kC(h:cl f [.int i]=some (.bl true)):evF cl (dP f) [.int i]=some .non:=by
 simp[evF,dP,ai,ji,gD,wL,jQ,evs,h,truth,bU]
abbrev at'(f:List Nat)(x:Nat):Nat:=(f[x]?).getD x
def fv(h:x<f.length):f[x]?=some (at' f x):=by simp[at',h]
def zW(h:f.length<=x):at' f x=x:=by simp[at',h]
end
section
end
end RM
namespace RL
section
def aU:ai cl M .nil σ=some (.nx,σ):=by rw[ai]
def dS(h:evS cl M s σ=some (.nx,σ'))(k:ai cl M r σ'=res):ai cl M (.cons s r) σ=res:=by
 rw[ai,h];exact k
def m7(h:evS cl M s σ=some (.rt d,σ')):ai cl M (.cons s r) σ=some (.rt d,σ'):=by
 rw[ai,h];rfl
def aK(h:ev cl σ e=some d)(ok:cD M e d=true)(k:ai cl M r (σ.set i (some d))=res):ai cl M (.cons (.asg i e) r) σ=res :=
 dS (by rw[rG,h];show(if cD M e d=true then _ else _)=_;rw[if_pos ok]) k
def tm(h:ev cl σ e=some d)(ok:(aS d&&aD e)=true)(k:ai cl M r (σ.set i (some d))=res):ai cl M (.cons (.own i e) r) σ=res :=
 dS (by rw[wI,h];show(if(aS d&&aD e)=true then _ else _)=_;rw[if_pos ok]) k
def oE(h:ev cl σ e=some d)(k:ai cl M r σ=res):ai cl M (.cons (.exc e) r) σ=res :=
 dS (by rw[wH,h];rfl) k
def aE(h:ev cl σ e=some d)(ok:dC M e d=true):ai cl M (.cons (.ret e) r) σ=some (.rt d,σ) :=
 m7 (by rw[my,h];show(if dC M e d=true then _ else _)=_;rw[if_pos ok])
def iN(h:(ev cl σ t).bind truth=some true)(h1:ai cl M a σ=some (.nx,σ'))(k:ai cl M r σ'=res):ai cl M (.cons (.ife t a b) r) σ=res :=
 dS (by rw[ji,h];exact h1) k
def bE(h:(ev cl σ t).bind truth=some true)(h1:ai cl M a σ=some (.rt d,σ')):ai cl M (.cons (.ife t a b) r) σ=some (.rt d,σ') :=
 m7 (by rw[ji,h];exact h1)
def km(h:(ev cl σ t).bind truth=some false)(h1:ai cl M b σ=some (.nx,σ'))(k:ai cl M r σ'=res):ai cl M (.cons (.ife t a b) r) σ=res :=
 dS (by rw[ji,h];exact h1) k
def iU(h:(ev cl σ t).bind truth=some false)(h1:ai cl M b σ=some (.rt d,σ')):ai cl M (.cons (.ife t a b) r) σ=some (.rt d,σ') :=
 m7 (by rw[ji,h];exact h1)
def bp(h:(ev cl σ t).bind truth=some false)(k:ai cl M r σ=res):ai cl M (.cons (.ife t a .nil) r) σ=res:=km h aU k
def nX(h:ev cl σ e=some d)(hd:items d=some ds)(im:az ds=true)(hs:cj is ds σ=some σ')(k:ai cl M r σ'=res):ai cl M (.cons (.unp is e) r) σ=res :=
 dS (by rw[CP,h,Option.bind_some,hd];show(if az ds=true then _ else _)=_;rw[if_pos im,hs];rfl) k
def nz(h:ev cl σ e=some d)(hi:(σ[i]?).bind id=some (.lst xs))(im:d.imm=true)(hl:xs.length<most)(k:ai cl M r (σ.set i (some (.lst (xs++[d]))))=res):ai cl M (.cons (.app i e) r) σ=res :=
 dS (by rw[wN,h,Option.bind_some,hi];show(if(d.imm&&decide (xs.length<most))=true then _ else _)=_;rw[if_pos (by rw[im,decide_eq_true hl];rfl)]) k
def jG(hi:(σ[i]?).bind id=some (.int x))(h:ev cl σ e=some (.int y))(hb:aQ o (.int x) (.int y)=some (.int z))(k:ai cl M r (σ.set i (some (.int z)))=res):ai cl M (.cons (.aug i o e) r) σ=res :=
 dS (by rw[DA,hi,Option.bind_some,h];show Option.map _ (aQ o (.int x) (.int y))=_;rw[hb];rfl) k
def d9(h:bA cl σ it=some ds)(h1:aZ (ai cl M b) tg ds σ=some (.nx,σ'))(k:ai cl M r σ'=res):ai cl M (.cons (.forr tg it b) r) σ=res :=
 dS (by rw[oi,h];exact h1) k
def iT(h:bA cl σ it=some ds)(h1:aZ (ai cl M b) tg ds σ=some (.rt d,σ')):ai cl M (.cons (.forr tg it b) r) σ=some (.rt d,σ') :=
 m7 (by rw[oi,h];exact h1)
def zD(h1:whF (fun σ=>(ev cl σ t).bind truth) (ai cl M b) most σ=some (.nx,σ'))(k:ai cl M r σ'=res):ai cl M (.cons (.whil t b) r) σ=res :=
 dS (by rw[B7];exact h1) k
def aa(h:(σ[i]?).bind id=some d):ev cl σ (.var i)=some d:=by rw[jQ];exact h
def ag:ev cl σ (.cst d)=some d:=by rw[wW]
def x_call(h:evs cl σ es=some ds)(hc:cl f ds=some d):ev cl σ (.call f es)=some d:=by rw[gD,h];exact hc
def aI:evs cl σ .nil=some []:=by rw[evs]
def ar(h:ev cl σ e=some d)(hr:evs cl σ es=some ds):evs cl σ (.cons e es)=some (d::ds):=by rw[evs,h,Option.bind_some,hr];rfl
def cN(h:ev cl σ e=some d)(hc:cl f [d]=some x):ev cl σ (.call f (.cons e .nil))=some x:=x_call (ar h aI) hc
def cq(h:ev cl σ e=some d)(h':ev cl σ e'=some d')(hc:cl f [d,d']=some x):ev cl σ (.call f (.cons e (.cons e' .nil)))=some x:=x_call (ar h (ar h' aI)) hc
def jD(h:ev cl σ e=some d)(h':ev cl σ e'=some d')(h'':ev cl σ e''=some d'')(hc:cl f [d,d',d'']=some x):ev cl σ (.call f (.cons e (.cons e' (.cons e'' .nil))))=some x:=x_call (ar h (ar h' (ar h'' aI))) hc
def ak(h:ev cl σ e=some x)(h':ev cl σ e'=some y)(hb:aQ o x y=some d):ev cl σ (.bin o e e')=some d:=by rw[xp,h,Option.bind_some,h'];exact hb
def aA(h:ev cl σ e=some x)(h':ev cl σ e'=some y)(hb:bw o x y=some k):ev cl σ (.cmp o e e')=some (.bl k):=by rw[D9,h,Option.bind_some,h',Option.bind_some,hb];rfl
def f9(h:ev cl σ e=some x)(h':ev cl σ e'=some y)(hb:ixV x y=some d):ev cl σ (.ix e e')=some d:=by rw[DX,h,Option.bind_some,h'];exact hb
def bz(h:ev cl σ e=some x)(hb:biV o x=some d):ev cl σ (.bi o e)=some d:=by rw[DT,h];exact hb
def qP(h:ev cl σ e=some x)(h':ev cl σ e'=some y)(hb:iL x y=some d):ev cl σ (.slT e e')=some d:=by rw[CA,h,Option.bind_some,h'];exact hb
def Du(h:ev cl σ e=some x)(h':ev cl σ e'=some y)(hb:kE x y=some d):ev cl σ (.slF e e')=some d:=by rw[CV,h,Option.bind_some,h'];exact hb
def cF{t:Ty}(h:ev cl σ e=some x)(hb:et t x=some k):ev cl σ (.isi e t)=some (.bl k):=by rw[CG,h,Option.bind_some,hb];rfl
def xc(h:ev cl σ e=some (.int k)):ev cl σ (.neg e)=some (.int (-k)):=by rw[Dv,h];rfl
def wX(h:ev cl σ e=some (.int x))(h':ev cl σ e'=some (.int y)):ev cl σ (.max e e')=some (.int (if y > x then y else x)):=by rw[CT,h,Option.bind_some,h'];rfl
def Dz(h:ev cl σ e=some (.int x))(h':ev cl σ e'=some (.int y))(h0:0<y)(h1:y<1073741824):ev cl σ (.dvm e e')=some (.tup [.int (x / y),.int (x%y)]):=by
 rw[CF,h,Option.bind_some,h',Option.bind_some];exact if_pos ⟨h0,h1⟩
def dO(h:ev cl σ e=some x)(h':ev cl σ e'=some y)(h'':ev cl σ e''=some z)(b1:bw c x y=some true)(b2:bw c' y z=some k):ev cl σ (.chain c c' e e' e'')=some (.bl k):=by rw[kO,h,Option.bind_some,h',Option.bind_some,b1,Option.bind_some,if_pos rfl,h'',Option.bind_some,b2];rfl
def gF(h:ev cl σ e=some x)(h':ev cl σ e'=some y)(b1:bw c x y=some false):ev cl σ (.chain c c' e e' e'')=some (.bl false):=by rw[kO,h,Option.bind_some,h',Option.bind_some,b1];rfl
def dE(h:evs cl σ es=some ds):ev cl σ (.lst es)=some (.lst ds):=by rw[wO,h];rfl
def bB(h:evs cl σ es=some ds):ev cl σ (.tup es)=some (.tup ds):=by rw[C7,h];rfl
def cX(h:ev cl σ e=some (.bl true))(h':ev cl σ e'=some d):ev cl σ (.and e e')=some d:=by rw[mi,h];exact h'
def iI(h:ev cl σ e=some (.bl false)):ev cl σ (.and e e')=some (.bl false):=by rw[mi,h];rfl
def dG(h:ev cl σ e=some (.bl false))(h':ev cl σ e'=some d):ev cl σ (.or e e')=some d:=by rw[vS,h];exact h'
def jj(h:ev cl σ e=some (.bl true)):ev cl σ (.or e e')=some (.bl true):=by rw[vS,h];rfl
def DE(h:(ev cl σ e).bind truth=some k):ev cl σ (.not e)=some (.bl (!k)):=by rw[wL,h];rfl
def bF(h:ev cl σ e=some (.bl k)):ev cl σ (.not e)=some (.bl (!k)):=DE (by rw[h];rfl)
def Dt(h:(ev cl σ t).bind truth=some k)(h':ev cl σ (if k then e else e')=some d):ev cl σ (.ifx t e e')=some d:=by
 rw[D0,h];cases k<;>exact h'
def aJ(h:ev cl σ e=some (.bl k)):(ev cl σ e).bind truth=some k:=by rw[h];rfl
def jc(h:bA cl σ it=some ds)(hf:ds.length<=most)(hm:cW (fun σ1=>(ev cl σ1 e).map some) tg σ ds=some ys):ev cl σ (.compA e tg it)=some (.lst ys):=by
 rw[yw,h,Option.bind_some,fits,if_pos hf,Option.bind_some,hm];rfl
def nZ(h:bA cl σ it=some ds)(hf:ds.length<=most)(hm:cW (fun σ1=>((ev cl σ1 t).bind truth).bind fun k=>if k then(ev cl σ1 e).map some else some none) tg σ ds=some ys):ev cl σ (.comp e tg it t)=some (.lst ys):=by
 rw[BH,h,Option.bind_some,fits,if_pos hf,Option.bind_some,hm];rfl
def jZ(h:ev cl σ e=some x)(hr:cz (.int 0) x=some ds):bA cl σ (.rng1 e)=some ds:=by rw[bA,h];exact hr
def zo(h:ev cl σ e=some x)(h':ev cl σ e'=some y)(hr:cz x y=some ds):bA cl σ (.rng2 e e')=some ds:=by rw[bA,h,Option.bind_some,h'];exact hr
def AM(h:ev cl σ e=some x)(h':ev cl σ e'=some y)(hr:gL c x y=some ds):bA cl σ (.rng3 c e e')=some ds:=by rw[bA,h,Option.bind_some,h'];exact hr
def zC(h:ev cl σ e=some x)(hr:iw x=some ds):bA cl σ (.seq e)=some ds:=by rw[bA,h];exact hr
def ja(h:ev cl σ e=some x)(hr:items x=some ds):bA cl σ (.seq e)=some ds:=zC h (by
 cases x with
 | lst _=>exact hr
 | tup _=>exact hr
 | fL _=>exact hr
 | _=>cases hr)
def Dp(h:ev cl σ e=some x)(h':ev cl σ e'=some y)(hx:items x=some xs)(hy:items y=some ys)(hl:xs.length=ys.length):bA cl σ (.zip e e')=some (eh xs ys):=by rw[bA,h,Option.bind_some,h',Option.bind_some,hx,Option.bind_some,hy,Option.bind_some,if_pos hl]
def Dw(hk:(match x with | .non=>some (D.bl (!n)) | .dK _ _=>none | .dT _ _=>none | .fT _ _=>none | _=>some (.bl n))=some (D.bl k))(h:ev cl σ e=some x):ev cl σ (.isN n e)=some (.bl k):=by rw[CY,h];exact hk
def fO(h:ev cl σ e=some x)(hr:jS x=some ds):bA cl σ (.enm e)=some (cP 0 ds):=by rw[bA,h,Option.bind_some,hr];rfl
end
def x8(im:d.imm=true)(hb:aW tg d σ=some σ1)(h:f σ1=some (.nx,σ2))(k:aZ f tg r σ2=res):aZ f tg (d::r) σ=res:=by
 rw[aZ,if_pos im,hb,Option.bind_some,h];exact k
def aC(hl:ds.length=fn.ps)(hm:fn.mp=[])(h:ai cl fn.M fn.body (ds.map some++List.replicate (fn.nn-fn.ps) none)=some (.rt d,σ')):evF cl fn ds=some d:=by
 unfold evF;rw[if_pos hl,h];unfold bU;rw[hm];rfl
def sH(hl:ds.length=fn.ps)(hm:fn.mp=[])(h:ai cl fn.M fn.body (ds.map some++List.replicate (fn.nn-fn.ps) none)=some (.nx,σ')):evF cl fn ds=some .non:=by
 unfold evF;rw[if_pos hl,h];unfold bU;rw[hm];rfl
end RL
namespace RM
open RL RT
abbrev LI(xs:List Int):List D:=xs.map D.int
def jN(xs:List Int):(LI xs).length=xs.length:=by simp[LI]
def sR:∀ xs:List Int,az (LI xs)=true
 | []=>rfl
 | x::xs=>by
  show((D.int x).imm&&az (LI xs))=true;rw[sR xs];rfl
section
def mod_lt{a b:Int}(h:0<b):0<=a%b/\a%b<b:=⟨Int.emod_nonneg _ (by lia),Int.emod_lt_of_pos _ h⟩
def yk(s:Int):∃ m:Int,evF cl i5 [.int s]=some (.int m):=by
 have a1:=mod_lt (a:=s*48271+11) (b:=2147483647) (by decide);generalize h1:(s*48271+11)%2147483647=one at a1;have a2:=mod_lt (a:=one*one+40692*one+s) (b:=2147483399) (by decide);generalize h2:(one*one+40692*one+s)%2147483399=two at a2
 exact⟨_,aC rfl rfl (aK (ak (ak (ak (aa rfl) ag (oZ (by decide) (by decide))) ag bj) ag (by rw[fW (by decide),h1])) rfl
  (aK (ak (ak (ak (ak (aa rfl) (aa rfl) (dA (by lia) (by lia))) (ak ag (aa rfl) (dA (by decide) (by decide))) bj) (aa rfl) bj) ag (by rw[fW (by decide),h2])) rfl
  (aE (ak (ak (ak (ak (aa rfl) (aa rfl) (dA (by omega) (by omega))) (ak ag (aa rfl) (dA (by decide) (by decide))) bj) (aa rfl) bj) ag (fW (by decide))) rfl)))⟩
def yA{f:Nat}(h:∀ s:Int,∃ m:Int,cl f [.int s]=some (.int m)){ns:List Int}(hl:ns.length<=63){k:Nat}(hk:k<=1000):∃ r:Int,evF cl (iD f) [.lst (LI ns),.int k]=some (.int r):=by
 have pw:aQ .pow (.int 10) (.int 18)=some (.int 1000000000000000000):=rfl
 have rest:∀ c:Int,∃ r σ',ai cl [] (.cons (.asg 3 (.cst (.int 0))) (.cons (.forr [4] (.rng1 (.cst (.int 40))) (gP f)) (.cons (.ret (.var 3)) .nil))) [some (.lst (LI ns)),some (.int k),some (.int c),none,none]=some (.rt (.int r),σ'):=by
  intro c;have hr:=congrArg some (js 0 40)
  obtain⟨σ',e,r,o,rfl⟩:=kr (f:=ai cl [] (gP f)) (tg:=[4]) (σ:=[some (.lst (LI ns)),some (.int k),some (.int c),some (.int 0),none])
   (fun p σ=>∃ (r:Int) (o:Option D),σ=[some (.lst (LI ns)),some (.int k),some (.int c),some (.int r),o]) ⟨0,none,rfl⟩ (by
    rintro p x q σ hx ⟨r,o,rfl⟩;obtain⟨m,hm⟩:=h (c+1009*k+7919*x)
    exact⟨_,aK (ak (ak (aa rfl) ag (oZ (by decide) (by decide))) (cN (ak (ak (aa rfl) (ak ag (aa rfl) (dA (by decide) (by decide))) bj) (ak ag (aa rfl) (dA (by decide) (by decide))) bj) hm) bj) rfl aU,_,_,rfl⟩)
  exact⟨r,_,aK ag rfl (d9 (jZ ag hr) e (aE (aa rfl) rfl))⟩
 have len:=congrArg (fun n:Nat=>some (D.int n)) (jN ns)
 have first:ev cl [some (.lst (LI ns)),some (.int k),none,none,none] (.bin .add (.bin .mul (.cst (.int 7)) (.var 1)) (.cst (.int 3)))=some (.int (7*k+3)):=ak (ak ag (aa rfl) (dA (by decide) (by decide))) ag bj
 by_cases h0:0<ns.length
 ·have hmod:=mod_lt (a:=(k:Int)) (b:=(ns.length:Int)) (by lia);obtain⟨j,hj⟩:=Int.eq_ofNat_of_zero_le hmod.1
  have hjl:j<ns.length:=by lia
  have ix:ixV (.lst (LI ns)) (.int ((k:Int)%ns.length))=some (.int ns[j]):=by
   show bR (LI ns) _=_;rw[hj,e8];simp[LI,hjl]
  obtain⟨r,σ',hr⟩:=rest (ns[j]+9973*((k:Int) / ns.length));generalize hc:ns[j]+9973*((k:Int) / ns.length)=cell at hr
  have cel:∀ {r':Ss} {res:Option (Out × St)},ai cl [] r' [some (.lst (LI ns)),some (.int k),some (.int cell),none,none]=res->ai cl [] (.cons (.asg 2 (.bin .add (.bin .mul (.cst (.int 7)) (.var 1)) (.cst (.int 3)))) (.cons (.ife (.cmp .gt (.bi .len (.var 0)) (.cst (.int 0))) (.cons (.asg 2 (.bin .add (.ix (.var 0) (.bin .mod (.var 1) (.bi .len (.var 0)))) (.bin .mul (.cst (.int 9973)) (.bin .fdiv (.var 1) (.bi .len (.var 0)))))) .nil) .nil) r')) [some (.lst (LI ns)),some (.int k),none,none,none]=res:=fun z =>
   aK first rfl (iN (aJ (aA (bz (aa rfl) len) ag (by rw[iG,decide_eq_true (by lia)]))) (aK (ak (f9 (aa rfl) (ak (aa rfl) (bz (aa rfl) len) (fW (by lia))) ix) (ak ag (ak (aa rfl) (bz (aa rfl) len) (mD (by lia) (by lia))) (dA (by decide) (by decide))) (by rw[bj,hc])) rfl aU) z)
  by_cases h1:k<ns.length
  ·have c1:bw .lt (.int (k:Nat)) (.int (ns.length:Nat))=some true:=by rw[cw,decide_eq_true (by lia)]
   by_cases h2:1000000000000000000<=cell
   ·exact⟨_,aC rfl rfl (cel (bE (aJ (cX (aA (aa rfl) (bz (aa rfl) len) c1) (aA (aa rfl) (ak ag ag pw) (by rw[qF,decide_eq_true h2])))) (aE (ak (aa rfl) (ak ag ag pw) bf) rfl)))⟩
   ·exact⟨r,aC rfl rfl (cel (bp (aJ (cX (aA (aa rfl) (bz (aa rfl) len) c1) (aA (aa rfl) (ak ag ag pw) (by rw[qF,decide_eq_false h2])))) hr))⟩
  ·exact⟨r,aC rfl rfl (cel (bp (aJ (iI (aA (aa rfl) (bz (aa rfl) len) (by rw[cw,decide_eq_false (by lia)])))) hr))⟩
 ·obtain⟨r,σ',hr⟩:=rest (7*k+3);exact⟨r,aC rfl rfl (aK first rfl (bp (aJ (aA (bz (aa rfl) len) ag (by rw[iG,decide_eq_false (by lia)]))) (bp (aJ (iI (aA (aa rfl) (bz (aa rfl) len) (by rw[cw,decide_eq_false (by lia)])))) hr)))⟩
end
section
abbrev j7(ds sizes:List Nat):Prop:=ds.length=sizes.length/\∀ (i d s:Nat),ds[i]?=some d->sizes[i]?=some s->d<s
def j7.snoc(h:j7 ds sizes)(hd:d<s):j7 (ds++[d]) (sizes++[s]):=by
 refine⟨by simp[h.1],fun i x y h1 h2=>?_⟩;by_cases hi:i<ds.length
 ·rw[List.getElem?_append_left hi]at h1;rw[List.getElem?_append_left (by rw[<-h.1];exact hi)]at h2;exact h.2 i x y h1 h2
 ·rw[List.getElem?_append_right (by lia)]at h1;rw[List.getElem?_append_right (by rw[<-h.1];lia)]at h2;rw[h.1]at h1
  cases hk:i-sizes.length with
  | zero=>rw[hk]at h1 h2;simp at h1 h2;lia
  | succ k=>rw[hk]at h1;simp at h1
def qG(h:cl f [scr,.int k]=some (.int r))(hp:∀ s∈sizes,0<s/\s<2 ^ 200)(hlen:sizes.length<=1000):∃ ds:List Nat,j7 ds sizes/\evF cl (dR f) [scr,.int k,.lst (L sizes)]=some (.lst (L ds)):=by
 obtain⟨σ',e,r',ds,o,hds,rfl⟩:=kr (f:=ai cl [4] (eM f)) (tg:=[5]) (xs:=sizes) (σ:=[some scr,some (.int k),some (.lst (L sizes)),some (.int r),some (.lst []),none])
  (fun p σ=>∃ (r:Int) (ds:List Nat) (o:Option D),j7 ds p/\σ=[some scr,some (.int k),some (.lst (L sizes)),some (.int r),some (.lst (L ds)),o]) ⟨r,[],none,⟨rfl,by simp⟩,rfl⟩ (by
   rintro p x q σ hx ⟨r,ds,o,hds,rfl⟩;have hx0:=hp x (by rw[hx];simp)
   have hpl:p.length<1000:=by
    have:=congrArg List.length hx;simp at this;lia
   have hx1:(0:Int)<x:=by lia
   have hx2:(x:Int)<2 ^ 200:=by
    lia
   obtain⟨d,hd⟩:=Int.eq_ofNat_of_zero_le (Int.emod_nonneg r (show(x:Int)≠0 by lia))
   have hdx:d<x:=by
    have:=Int.emod_lt_of_pos r hx1;lia
   refine⟨[some scr,some (.int k),some (.lst (L sizes)),some (.int (r / x)),some (.lst (L (ds++[d]))),some (.int x)],?_,_,_,_,hds.snoc hdx,rfl⟩
   have hl:(L ds).length<most:=by
    rw[bN,hds.1];unfold most;lia
   simp[ot,eM,ai,wN,rG,xp,jQ,fW hx1,mD hx1 hx2,hd,D.imm,hl,cD,gO]
   rfl)
 refine⟨ds,hds,?_⟩;simp[evF,dR,ai,rG,oi,wI,my,wO,jQ,gD,evs,bA,items,h,cD,D.imm,aS,az];simp[e,dC,aS,gZ,bU]
end
section
def B9(xs:List Nat)(n:Nat):(L xs).take n=L (xs.take n):=by simp[L]
end
section
end
def gk(h:(List.range k).map g=p++x::q):p.length<k/\x=g p.length:=by
 have l:((List.range k).map g).length=(p++x::q).length:=by rw[h]
 have e:((List.range k).map g)[p.length]?=(p++x::q)[p.length]?:=by rw[h]
 simp at l e;obtain⟨y,hy,e⟩:=e;refine⟨by lia,?_⟩;rw[List.getElem?_range (by lia)]at hy;cases hy;exact e.symm
def oM{n:Nat}(h:n<=1000):cz (.int 0) (.int n)=some (L (List.range n)):=by
 have e2:=lX (a:=0) (by lia) h;rw[Nat.sub_zero,<-List.range_eq_range']at e2;exact e2
set_option synthInstance.maxSize 10000 in
set_option synthInstance.maxHeartbeats 0 in
def mR(h:x<f.length):ixV (.tup (L f)) (.int (x:Nat))=some (.int (at' f x:Nat)):=by
 show bR _ _=_;rw[e8,qU,fv h];rfl
section dicts
variable [DecidableEq κ]
end dicts
section
end
section
end
section
end
def sU(im:∀ x,(g x).imm=true):∀ xs:List Nat,(∀ x∈xs,(aW tg (h x) σ).bind F=some (if c x then some (g x)else none))->cW F tg σ (xs.map h)=some ((xs.filter c).map g)
 | [],_=>rfl
 | x::r,hh=>by
  have a:=hh x (by simp);have b:=sU im r (fun y hy=>hh y (by simp[hy]));rw[List.map_cons,cW]
  cases hb:aW tg (h x) σ with
  | none=>rw[hb]at a;cases a
  |some σ1=>
   rw[hb]at a;simp only[Option.bind_some]at a ⊢;rw[a,b];cases hc:c x<;>simp[jC,im,hc]
abbrev pr(f:List Nat)(p:Nat):D:=.tup [.int (p:Nat),.int (at' f p:Nat)]
def qi:∀ (f:List Nat) (k:Nat),cP (k:Int) (L f)=(List.range f.length).map fun p=>.tup [.int ((k+p:Nat):Int),.int (at' f p:Nat)]
 | [],k=>rfl
 | x::r,k=>by
  rw[show L (x::r)=.int x::L r from rfl,cP,show(k:Int)+1=((k+1:Nat):Int) by lia,qi r (k+1),List.length_cons,List.range_succ_eq_map,List.map_cons,List.map_map];congr 1;apply List.map_congr_left;intro p hp;simp at hp
  have e:at' (x::r) (p+1)=at' r p:=by simp[at',hp]
  lia
def mY(h:f.length=m):cP 0 (L f)=(List.range m).map (pr f):=by
 have:=qi f 0;rw[h]at this;simp only[Nat.zero_add]at this;exact this
def oC(g:β->D)(im:∀ b,(g b).imm=true)(I:List β->St->Prop):∀ (w done:List β) (σ:St),(∀ u b v σ,done++w=u++b::v->I u σ->∃ σ2,(aW tg (g b) σ).bind f=some (.nx,σ2)/\I (u++[b]) σ2)->I done σ->∃ σ',aZ f tg (w.map g) σ=some (.nx,σ')/\I (done++w) σ'
 | [],done,σ,_,h=>⟨σ,rfl,by simpa using h⟩
 | b::w,done,σ,hs,h=>by
  obtain⟨σ2,h1,h3⟩:=hs done b w σ rfl h;obtain⟨σ',h4,h5⟩:=oC g im I w (done++[b]) σ2 (fun pre e post σ he=>hs pre e post σ (by simpa using he)) h3;refine⟨σ',?_,by simpa using h5⟩;rw[List.map_cons,aZ,if_pos (im b)]
  cases hb:aW tg (g b) σ with
  | none=>rw[hb]at h1;cases h1
  |some σ1=>
   rw[hb]at h1;simp only[Option.bind_some]at h1 ⊢;rw[h1];exact h4
section
variable{n:Nat}
end
structure Op(r:Nat->Nat)(k:Nat)(W:List Nat):Prop where
 up:W.Pairwise (·<·)
 mem:∀ p,p∈W↔p<k/\k<=r p
section
def Op.push(O:Op r k W)(inv:∀ q,q<m->r (r q)=q)(hk:k<m)(h:k<r k):Op r (k+1) (W++[k]):=by
 refine⟨?_,fun p=>?_⟩
 ·rw[List.pairwise_append];exact⟨O.up,by simp,fun a ha b hb=>by simp at hb;have:=(O.mem a).mp ha;lia⟩
 ·simp only[List.mem_append,List.mem_singleton,O.mem];constructor
  ·rintro(⟨a,b⟩ | rfl)
   ·refine⟨by lia,?_⟩;by_cases c:r p=k
    ·have:=inv p (by lia);lia
    ·lia
   ·lia
  ·rintro⟨a,b⟩;by_cases c:p=k
   ·exact .inr c
   ·exact .inl ⟨by lia,by lia⟩
end
section
end
def iJ{β:Type}{F:St->Option (Option D)}{tg:List Nat}{σ:St}{h g:β->D}(im:∀ x,(g x).imm=true):∀ xs:List β,(∀ x∈xs,(aW tg (h x) σ).bind F=some (some (g x)))->cW F tg σ (xs.map h)=some (xs.map g)
 | [],_=>rfl
 | x::r,hh=>by
  have a:=hh x (by simp);have b:=iJ im r (fun y hy=>hh y (by simp[hy]));rw[List.map_cons,cW]
  cases hb:aW tg (h x) σ with
  | none=>rw[hb]at a;cases a
  |some σ1=>
   rw[hb]at a;simp only[Option.bind_some]at a ⊢;rw[a,b];simp[jC,im]
def mC(x:Bool):bw .ne (.bl x) (.bl x)=some false:=by cases x<;>rfl
def xq(x:Bool):bw .eq (.bl x) (.bl x)=some true:=by cases x<;>rfl
section
def kA(hN:(match d with | .non=>some (D.bl (!false)) | .dK _ _=>none | .dT _ _=>none | .fT _ _=>none | _=>some (.bl false))=some (D.bl false))(hb:et .bool d=some kb)(hi:et .int d=some ki)(hl:et .list d=some kl)(ht:et .tuple d=some kt)
 (k:ai cl [] r [some d,some d,none,none]=res):ai cl [] (.cons (.ife (.isN false (.var 1)) (.cons (.ret (.isN false (.var 0))) .nil) .nil) (.cons (.ife (.or (.cmp .ne (.isi (.var 0) .bool) (.isi (.var 1) .bool)) (.cmp .ne (.isi (.var 0) .int) (.isi (.var 1) .int))) (.cons (.ret (.cst (.bl false))) .nil) .nil) (.cons (.ife (.or (.cmp .ne (.isi (.var 0) .list) (.isi (.var 1) .list)) (.cmp .ne (.isi (.var 0) .tuple) (.isi (.var 1) .tuple))) (.cons (.ret (.cst (.bl false))) .nil) .nil) r))) [some d,some d,none,none]=res :=
 bp (aJ (Dw hN (aa rfl))) (bp (aJ (dG (aA (cF (aa rfl) hb) (cF (aa rfl) hb) (mC _)) (aA (cF (aa rfl) hi) (cF (aa rfl) hi) (mC _)))) (bp (aJ (dG (aA (cF (aa rfl) hl) (cF (aa rfl) hl) (mC _)) (aA (cF (aa rfl) ht) (cF (aa rfl) ht) (mC _)))) k))
def i9(hN:(match d with | .non=>some (D.bl (!false)) | .dK _ _=>none | .dT _ _=>none | .fT _ _=>none | _=>some (.bl false))=some (D.bl false))(hb:et .bool d=some kb)(hi:et .int d=some ki)(hl:et .list d=some false)(ht:et .tuple d=some false)(hs:et .str d=some ks)(he:bw .eq d d=some true):evF cl (cO fs) [d,d]=some (.bl true) :=
 aC rfl rfl (kA hN hb hi hl ht (bE (aJ (cX (bF (cF (aa rfl) hl)) (bF (cF (aa rfl) ht)))) (aE (cX (aA (cF (aa rfl) hs) (cF (aa rfl) hs) (xq _)) (aA (aa rfl) (aa rfl) he)) rfl)))
end
def same_int(a:Int):evF cl (cO fs) [.int a,.int a]=some (.bl true):=i9 rfl rfl rfl rfl rfl rfl (by rw[d7,beq_self_eq_true])
def jx:∀ xs:List D,eh xs xs=xs.map fun x=>.tup [x,x]
 | []=>rfl
 | x::r=>by simp[eh,jx r]
def sW:∀ xs:List β,cR (xs.map fun _=>D.bl true)=some (xs.map fun _=>true)
 | []=>rfl
 | x::r=>by simp[cR,sW r]
def mX{fs:Nat}{d:D}{xs:List D}(hd:d=.tup xs\/d=.lst xs)(hl:xs.length<=1000)(h:∀ x∈xs,cl fs [x,x]=some (.bl true)):evF cl (cO fs) [d,d]=some (.bl true):=by
 have al:biV .all (.lst (xs.map fun _=>.bl true))=some (.bl true):=by
  simp only[Ez,sW];simp
 have mc:=iJ (F:=fun σ1=>(ev cl σ1 (.call fs (.cons (.var 2) (.cons (.var 3) .nil)))).map some) (tg:=[2,3]) (σ:=[some d,some d,none,none]) (h:=fun x=>.tup [x,x]) (fun _=>rfl) xs (by
  intro x hx;show(ev cl [some d,some d,some x,some x] (.call fs (.cons (.var 2) (.cons (.var 3) .nil)))).map some=_;rw[cq (aa rfl) (aa rfl) (h x hx)]
  rfl)
 have it:items d=some xs:=by rcases hd with rfl | rfl<;>rfl
 have ln:biV .len d=some (.int xs.length):=by rcases hd with rfl | rfl<;>rfl
 have lq:bw .eq (.int (xs.length:Int)) (.int (xs.length:Int))=some true:=by simp[d7]
 have lz:(eh xs xs).length<=most:=by rw[jx,List.length_map];unfold most;lia
 rw[<-jx]at mc;have tl:∀ {res:Option (Out × St)},some (Out.rt (.bl true),[some d,some d,none,none])=res->ai cl [] (.cons (.ret (.and (.cmp .eq (.bi .len (.var 0)) (.bi .len (.var 1))) (.bi .all (.compA (.call fs (.cons (.var 2) (.cons (.var 3) .nil))) [2,3] (.zip (.var 0) (.var 1)))))) .nil) [some d,some d,none,none]=res:=fun e=>(aE (cX (aA (bz (aa rfl) ln) (bz (aa rfl) ln) lq) (bz (jc (Dp (aa rfl) (aa rfl) it it rfl) lz mc) al)) rfl).trans e;rcases hd with rfl | rfl
 ·exact aC rfl rfl (kA rfl rfl rfl rfl rfl (bp (aJ (cX (bF (k:=false) (cF (aa rfl) rfl)) (bF (k:=true) (cF (aa rfl) rfl)))) (tl rfl)))
 ·exact aC rfl rfl (kA rfl rfl rfl rfl rfl (bp (aJ (iI (bF (k:=true) (cF (aa rfl) rfl)))) (tl rfl)))
end RM
set_option maxHeartbeats 1000000
namespace RM
open RL RT
def i7(g:β->D)(im:∀ b,(g b).imm=true)(I:List β->St->Prop):∀ (w done:List β) (σ:St),(∀ u b v σ,done++w=u++b::v->I u σ->(∃ σ2,(aW tg (g b) σ).bind f=some (.nx,σ2)/\I (u++[b]) σ2)\/(B/\∃ σ2,(aW tg (g b) σ).bind f=some (.rt d,σ2)))->I done σ->(∃ σ',aZ f tg (w.map g) σ=some (.nx,σ')/\I (done++w) σ')\/(B/\∃ σ',aZ f tg (w.map g) σ=some (.rt d,σ'))
 | [],done,σ,_,h=>.inl ⟨σ,rfl,by simpa using h⟩
 | b::w,done,σ,hs,h=>by
  rcases hs done b w σ rfl h with⟨σ2,h1,h3⟩ | ⟨hB,σ2,h1⟩
  ·have go:∀ {r:Option (Out × St)},aZ f tg (w.map g) σ2=r->aZ f tg ((b::w).map g) σ=r:=fun {r} e=>by
    rw[List.map_cons,aZ,if_pos (im b)]
    cases hb:aW tg (g b) σ with
    | none=>rw[hb]at h1;cases h1
    |some σ1=>
     rw[hb]at h1;simp only[Option.bind_some]at h1 ⊢;rw[h1];exact e
   rcases i7 (d:=d) (B:=B) g im I w (done++[b]) σ2 (fun pre e post σ he=>hs pre e post σ (by simpa using he)) h3 with⟨σ',h4,h5⟩ | ⟨hB,σ',h4⟩
   ·exact .inl ⟨σ',go h4,by simpa using h5⟩
   ·exact .inr ⟨hB,σ',go h4⟩
  ·refine .inr ⟨hB,σ2,?_⟩;rw[List.map_cons,aZ,if_pos (im b)]
   cases hb:aW tg (g b) σ with
   | none=>rw[hb]at h1;cases h1
   |some σ1=>
    rw[hb]at h1;simp only[Option.bind_some]at h1 ⊢;rw[h1];rfl
def u6(hi:(σ[i]?).bind id=some (.lst (xs++[.int p])))(h:ev cl (σ.set i (some (.lst xs))) e=some (.int q))(k:ai cl M (.cons (.ife (.cst (.bl (decide (p=q)))) b a) r) (σ.set i (some (.lst xs)))=res):ai cl M (.cons (.ifp i e a b) r) σ=res:=by
 have l:evS cl M (.ifp i e a b) σ=if decide (p=q)=true then ai cl M b (σ.set i (some (.lst xs)))else ai cl M a (σ.set i (some (.lst xs))):=by
  rw[Dj,hi,Option.bind_some];show((xs++[D.int p])[(xs++[D.int p]).length-1]?).bind _=_;rw[show(xs++[D.int p])[(xs++[D.int p]).length-1]?=some (.int p) by simp,Option.bind_some,List.dropLast_concat,h];rfl
 have r':evS cl M (.ife (.cst (.bl (decide (p=q)))) b a) (σ.set i (some (.lst xs)))=if decide (p=q)=true then ai cl M b (σ.set i (some (.lst xs)))else ai cl M a (σ.set i (some (.lst xs))):=by
  rfl
 rw[ai,r',<-l,<-ai]at k;exact k
abbrev Nx(r:Nat->Nat)(m:Nat):Prop:=∀ q q',q<q'->q'<r q->r q<m->¬ (r q<r q'\/r q'=q')
structure Oq(r:Nat->Nat)(k:Nat)(W:List Nat):Prop extends Op r k W where
 nx:Nx r k
 al:∀ q q',q<q'->q'<k->k<=r q->r q'≠q'
section
def Oq.push(O:Oq r k W)(inv:∀ q,q<m->r (r q)=q)(hk:k<m)(h:k<r k):Oq r (k+1) (W++[k]) where
 toOp:=O.toOp.push inv hk h
 nx:=fun q q' h1 h2 h3=>by
  by_cases c:r q=k
  ·exfalso;have:=inv q (by lia);lia
  ·exact O.nx q q' h1 h2 (by lia)
 al:=fun q q' h1 h2 h3=>by
  by_cases c:q'=k
  ·subst c;lia
  ·exact O.al q q' h1 (by lia) (by lia)
def Oq.alone(O:Oq r k [])(inv:∀ q,q<m->r (r q)=q)(hk:k<m)(h:r k=k):Oq r (k+1) []:=by
 have no:∀ q,q<k->k<=r q->False:=fun q h1 h2=>by
  have:=(O.mem q).mpr ⟨h1,h2⟩;cases this
 refine⟨⟨.nil,fun p=>⟨fun h=>(by cases h),fun⟨a,b⟩=>?_⟩⟩,fun q q' h1 h2 h3=>?_,fun q q' h1 h2 h3=>?_⟩
 ·by_cases c:p=k
  ·subst c;lia
  ·exact(no p (by lia) (by lia)).elim
 ·by_cases c:r q=k
  ·exfalso;have:=inv q (by lia);lia
  ·exact O.nx q q' h1 h2 (by lia)
 ·exact(no q (by lia) (by lia)).elim
def Oq.pop(O:Oq r k (W0++[r k]))(inv:∀ q,q<m->r (r q)=q)(hk:k<m)(h:r k<k):Oq r (k+1) W0:=by
 have up:=O.up;rw[List.pairwise_append]at up;refine⟨⟨up.1,fun p=>?_⟩,fun q q' h1 h2 h3=>?_,fun q q' h1 h2 h3=>?_⟩
 ·constructor
  ·intro hp;have lt:=up.2.2 p hp (r k) (by simp);have:=(O.mem p).mp (by simp[hp]);refine⟨by lia,?_⟩;by_cases c:r p=k
   ·have i:=inv p (by lia);lia
   ·lia
  ·rintro⟨a,b⟩
   have pk:p≠k:=by rintro rfl;lia
   have:=(O.mem p).mpr ⟨by lia,by lia⟩;simp at this;rcases this with h | h
   ·exact h
   ·rw[h,inv k hk]at b;lia
 ·by_cases c:r q=k
  ·have i:=inv q (by lia);rw[c]at i;subst i;rintro(z | z)
   ·have mq:=(O.mem q').mpr ⟨by lia,by lia⟩;simp at mq;rcases mq with mq | mq
    ·have:=up.2.2 q' mq (r k) (by simp);lia
    ·lia
   ·exact O.al (r k) q' h1 (by lia) (by lia) z
  ·exact O.nx q q' h1 h2 (by lia)
 ·by_cases c:q'=k
  ·subst c;lia
  ·exact O.al q q' h1 (by lia) (by lia)
end
def xA{cl:Cl}{m:Nat}{E:List Nat}(hm:m<=1000)(El:E.length=m)(inv:∀ q,q<m->at' E (at' E q)=q)(lt:∀ q,q<m->at' E q<m):∃ b:Bool,evF cl eg [.tup (L E)]=some (.bl b)/\(b=true->Nx (at' E) m)/\(Nx (at' E) m->b=true):=by
 have en:=mY El
 have st:=i7 (B:=¬ Nx (at' E) m) (f:=ai cl [1] bD) (tg:=[2,3]) (d:=.bl false) (pr E) (fun _=>rfl)
  (fun u σ=>∃ (W:List Nat) (o2 o3:Option D),σ=[some (.tup (L E)),some (.lst (L W)),o2,o3]/\Oq (at' E) u.length W/\W.length<=u.length)
  (List.range m) [] [some (.tup (L E)),some (.lst (L [])),none,none] (by
   rintro u p v σ hu ⟨W,o2,o3,rfl,O,Wl⟩;obtain⟨hk,hp⟩:=gk (g:=id) (by simpa using hu);subst hp
   have ml:(L W).length<most:=by rw[bN];unfold most;lia
   by_cases c:u.length<at' E u.length
   ·refine .inl ⟨_,show ai cl [1] bD [some (.tup (L E)),some (.lst (L W)),some (.int (u.length:Nat)),some (.int (at' E u.length:Nat))]=some (.nx,_)from iN (aJ (aA (k:=true) (aa rfl) (aa rfl) (by rw[iG,decide_eq_true (by lia)]))) (nz (aa rfl) rfl rfl ml aU) aU,W++[u.length],some (.int (u.length:Nat)),some (.int (at' E u.length:Nat)),?_,?_,?_⟩
    ·rw[gO];rfl
    ·rw[List.length_append];exact O.push inv hk c
    ·simp;lia
   ·have cg:(ev cl [some (.tup (L E)),some (.lst (L W)),some (.int (u.length:Nat)),some (.int (at' E u.length:Nat))] (.cmp .gt (.var 3) (.var 2))).bind truth=some false:=aJ (aA (k:=false) (aa rfl) (aa rfl) (by rw[iG,decide_eq_false (by lia)]));by_cases c2:at' E u.length=u.length
    ·have ce:(ev cl [some (.tup (L E)),some (.lst (L W)),some (.int (u.length:Nat)),some (.int (at' E u.length:Nat))] (.cmp .eq (.var 3) (.var 2))).bind truth=some true:=aJ (aA (k:=true) (aa rfl) (aa rfl) (by rw[d7,c2,beq_self_eq_true]))
     cases W with
     |nil=>
      exact .inl ⟨_,show ai cl [1] bD [some (.tup (L E)),some (.lst (L [])),some (.int (u.length:Nat)),some (.int (at' E u.length:Nat))]=some (.nx,_)from km cg (iN ce (bp (by rw[aa rfl];rfl) aU) aU) aU,[],_,_,rfl,by rw[List.length_append];exact O.alone inv hk c2,by simp⟩
     |cons w W=>
      exact .inr ⟨fun N=>by
       obtain⟨w1,w2⟩:=(O.mem w).mp (List.mem_cons_self ..)
       have wk:at' E w≠u.length:=fun z=>by
        have:=inv w (by lia);lia
       exact N w u.length w1 (by lia) (lt w (by lia)) (.inr c2),_,show ai cl [1] bD [some (.tup (L E)),some (.lst (L (w::W))),some (.int (u.length:Nat)),some (.int (at' E u.length:Nat))]=some (.rt (.bl false),_)from iU cg (bE ce (bE (by rw[aa rfl];rfl) (aE ag rfl)))⟩
    ·have ce:(ev cl [some (.tup (L E)),some (.lst (L W)),some (.int (u.length:Nat)),some (.int (at' E u.length:Nat))] (.cmp .eq (.var 3) (.var 2))).bind truth=some false:=aJ (aA (k:=false) (aa rfl) (aa rfl) (by rw[d7,beq_eq_false_iff_ne.mpr (by lia)]));have m1:at' E u.length∈W:=(O.mem _).mpr ⟨by lia,by rw[inv _ hk];exact Nat.le_refl _⟩;have ne:W≠[]:=List.ne_nil_of_mem m1;have dl:=List.dropLast_concat_getLast ne;generalize W.getLast ne=z at dl;generalize W.dropLast=W0 at dl;subst dl
     have hi:(([some (D.tup (L E)),some (.lst (L (W0++[z]))),some (.int (u.length:Nat)),some (.int (at' E u.length:Nat))]:St)[1]?).bind id=some (.lst (L W0++[.int (z:Nat)])):=by rw[gO];rfl
     by_cases c3:z=at' E u.length
     ·refine .inl ⟨_,show ai cl [1] bD [some (.tup (L E)),some (.lst (L (W0++[z]))),some (.int (u.length:Nat)),some (.int (at' E u.length:Nat))]=some (.nx,_)from km cg (km ce (u6 hi (aa rfl) (iN (by rw[ag,decide_eq_true (by lia)];rfl) aU aU)) aU) aU,W0,_,_,rfl,?_,?_⟩
      ·rw[List.length_append];subst c3;exact O.pop inv hk (by lia)
      ·simp at Wl ⊢;lia
     ·exact .inr ⟨fun N=>by
       have up:=O.up;rw[List.pairwise_append]at up
       have m0:at' E u.length∈W0:=by
        rcases List.mem_append.mp m1 with h | h
        ·exact h
        ·exact absurd (List.mem_singleton.mp h).symm c3
       have lz:=up.2.2 _ m0 z (by simp);have zz:=(O.mem z).mp (by simp)
       have zk:at' E z≠u.length:=fun q=>by
        have:=inv z (by lia);rw[q]at this;exact c3 this.symm
       have i:=inv u.length hk
       exact N (at' E u.length) z lz (by rw[i];exact zz.1) (by rw[i];exact hk) (.inl (by rw[i];lia)),_,show ai cl [1] bD [some (.tup (L E)),some (.lst (L (W0++[z]))),some (.int (u.length:Nat)),some (.int (at' E u.length:Nat))]=some (.rt (.bl false),_)from iU cg (iU ce (u6 hi (aa rfl) (iU (by rw[ag,decide_eq_false (by lia)];rfl) (aE ag rfl))))⟩)
  ⟨[],none,none,rfl,⟨⟨by simp,by simp⟩,fun q q' _ _ h=>absurd h (Nat.not_lt_zero _),fun q q' _ h=>absurd h (Nat.not_lt_zero _)⟩,by simp⟩
 rw[<-en]at st
 rcases st with⟨σ',e,W,o2,o3,rfl,O,_⟩ | ⟨nN,σ',e⟩
 ·refine⟨true,aC rfl rfl (tm (dE aI) rfl (d9 (fO (aa rfl) rfl) e (aE ag rfl))),fun _=>?_,fun _=>rfl⟩;have:=O.nx;rw[List.nil_append,List.length_range]at this;exact this
 ·exact⟨false,aC rfl rfl (tm (dE aI) rfl (iT (fO (aa rfl) rfl) e)),(fun h=>by cases h),fun N=>absurd N nN⟩
end RM
set_option maxHeartbeats 1000000
namespace RM
open RL RT
abbrev xi(xs:List Int)(p:Nat):Int:=(xs[p]?).getD 0
abbrev prI(xs:List Int)(p:Nat):D:=.tup [.int (p:Nat),.int (xi xs p)]
abbrev nb(xs:List Int)(p:Nat):Bool:=decide (0<=xi xs p/\xi xs p<xs.length)&&decide (xi xs (xi xs p).toNat=p)
def qO(h:p<xs.length):ixV (.tup (LI xs)) (.int (p:Nat))=some (.int (xi xs p)):=by
 show bR _ _=_;rw[e8];simp[LI,xi,h]
def oN:∀ (xs:List Int) (k:Nat),cP (k:Int) (LI xs)=(List.range xs.length).map fun p=>.tup [.int ((k+p:Nat):Int),.int (xi xs p)]
 | [],k=>rfl
 | x::r,k=>by
  rw[show LI (x::r)=.int x::LI r from rfl,cP,show(k:Int)+1=((k+1:Nat):Int) by lia,oN r (k+1),List.length_cons,List.range_succ_eq_map,List.map_cons,List.map_map];congr 1;apply List.map_congr_left;intro p hp
  have e:xi (x::r) (p+1)=xi r p:=by simp[xi]
  simp[e];lia
def xS(xs:List Int):cP 0 (LI xs)=(List.range xs.length).map (prI xs):=by
 have:=oN xs 0;simp only[Nat.zero_add]at this;exact this
def jY(xs:List Int):biV .len (.tup (LI xs))=some (.int (xs.length:Nat)):=congrArg (fun n:Nat=>some (D.int n)) (jN xs)
def bls(g:β->Bool):∀ xs:List β,cR (xs.map fun x=>D.bl (g x))=some (xs.map g)
 | []=>rfl
 | x::r=>by rw[List.map_cons,cR,bls g r];rfl
def yj(g:β->Bool)(xs:List β):biV .all (.lst (xs.map fun x=>D.bl (g x)))=some (.bl (xs.all g)):=by
 show(cR (xs.map fun x=>D.bl (g x))).map _=_;rw[bls,Option.map_some,List.all_map];rfl
section
def AN(wg:∀ i:Int,cl fn [.int i]=some (.bl true))(hp:p<xs.length):evF cl (fJ fn) [.tup (LI xs),.int (p:Nat)]=some (.bl (nb xs p)):=by
 unfold nb;have a1:ev cl [some (.tup (LI xs)),some (.int (p:Nat)),some (.int (xi xs p))] (.call fn (.cons (.var 2) .nil))=some (.bl true):=cN (aa rfl) (wg _);have as:∀ {res:Option (Out × St)} {r:Ss},ai cl [] r [some (.tup (LI xs)),some (.int (p:Nat)),some (.int (xi xs p))]=res->ai cl [] (.cons (.asg 2 (.ix (.var 0) (.var 1))) r) [some (.tup (LI xs)),some (.int (p:Nat)),none]=res:=fun h=>aK (f9 (aa rfl) (aa rfl) (qO hp)) rfl h;by_cases c:0<=xi xs p/\xi xs p<xs.length
 ·rw[decide_eq_true c,Bool.true_and];obtain⟨j,hj⟩:=Int.eq_ofNat_of_zero_le c.1;rw[hj]at c as a1 ⊢;have i2:=qO (xs:=xs) (p:=j) (by lia)
  exact aC rfl rfl (as (aE (cX a1 (cX (dO ag (aa rfl) (bz (aa rfl) (jY xs)) (by rw[gp,decide_eq_true c.1]) (by rw[cw,decide_eq_true c.2])) (aA (f9 (aa rfl) (aa rfl) i2) (aa rfl) (by
   congr 1)))) rfl))
 ·rw[decide_eq_false c,Bool.false_and];by_cases c1:0<=xi xs p
  ·exact aC rfl rfl (as (aE (cX a1 (iI (dO ag (aa rfl) (bz (aa rfl) (jY xs)) (by rw[gp,decide_eq_true c1]) (by rw[cw,decide_eq_false (fun z=>c ⟨c1,z⟩)])))) rfl))
  ·exact aC rfl rfl (as (aE (cX a1 (iI (gF ag (aa rfl) (by rw[gp,decide_eq_false c1])))) rfl))
def pf(hm:xs.length<=1000)(hb:∀ p:Nat,p<xs.length->cl fb [.tup (LI xs),.int (p:Nat)]=some (.bl (nb xs p))):evF cl (fH fb) [.tup (LI xs)]=some (.bl ((List.range xs.length).all (nb xs))):=by
 have mc:=iJ (F:=fun σ1=>(ev cl σ1 (.call fb (.cons (.var 0) (.cons (.var 1) .nil)))).map some) (tg:=[1]) (σ:=[some (.tup (LI xs)),none]) (fun _=>rfl) (List.range xs.length) (by
  intro p hp;show(ev cl [some (.tup (LI xs)),some (.int (p:Nat))] (.call fb (.cons (.var 0) (.cons (.var 1) .nil)))).map some=_;rw[cq (aa rfl) (aa rfl) (hb p (List.mem_range.mp hp))]
  rfl)
 exact aC rfl rfl (aE (cX (cF (aa rfl) rfl) (bz (jc (jZ (bz (aa rfl) (jY xs)) (oM hm)) (by rw[bN,List.length_range];unfold most;lia) mc) (yj _ _))) rfl)
def BV(f:List Nat):L f=LI (f.map Int.ofNat):=by unfold L LI;rw[List.map_map];rfl
def kf(len:h.length=m)(lt:∀ q,q<m->at' h q<m)(inv:∀ q,q<m->at' h (at' h q)=q):(List.range (h.map Int.ofNat).length).all (nb (h.map Int.ofNat))=true:=by
 have x1:∀ q,q<m->xi (h.map Int.ofNat) q=(at' h q:Nat):=fun q hq=>by simp[xi,at',show q<h.length by lia]
 rw[List.all_eq_true,List.length_map,len];intro q hq;have hq:=List.mem_range.mp hq;have l:=lt q hq;unfold nb;rw[x1 q hq,Int.toNat_natCast,x1 _ l,inv q hq,List.length_map,len];rw[decide_eq_true ⟨by lia,by lia⟩];simp
end
structure Dg(T:List Fn)(mx rw dg:Nat):Prop where
 E6:T[mx]?=some i5
 DU:T[rw]?=some (iD mx)
 Ee:T[dg]?=some (dR rw)
def Dg.digits{T:List Fn}{mx rw dg:Nat}(h:Dg T mx rw dg){ns:List Int}(hl:ns.length<=63)(n:Nat){k:Nat}{sizes:List Nat}(hk:k<=1000)(hp:∀ s∈sizes,0<s/\s<2 ^ 200)(hz:sizes.length<=1000) :
  ∃ ds:List Nat,j7 ds sizes/\aq T (n+3) dg [.lst (LI ns),.int k,.lst (L sizes)]=some (.lst (L ds)):=by
 obtain⟨r,hr⟩:=yA (fun s=>by
  obtain⟨m,hm⟩:=yk (cl:=aq T n) s
  exact⟨m,(ay h.E6).trans hm⟩) hl hk
 obtain⟨ds,h1,h2⟩:=qG ((ay h.DU).trans hr) hp hz;exact⟨ds,h1,(ay h.Ee).trans h2⟩
section
variable{T:List Fn}{mx rw dg pl hk ci ft tx rg hu ov fr:Nat}
end
section
variable{T:List Fn}{nu pc pa nb un if' cf po rp ir mv:Nat}
end
inductive Pl:Nat->D->Prop
 | int (n:Nat) (i:Int):Pl n (.int i)
 | bl (n:Nat) (b:Bool):Pl n (.bl b)
 | str (n:Nat) (x:PySem.Str):Pl n (.str x)
 | tup (n:Nat) (xs:List D) (hl:xs.length<=1000) (h:∀ x∈xs,Pl n x):Pl (n+1) (.tup xs)
 | lst (n:Nat) (xs:List D) (hl:xs.length<=1000) (h:∀ x∈xs,Pl n x):Pl (n+1) (.lst xs)
def pQ{cl:Cl}{fs:Nat}(a:Bool):evF cl (cO fs) [.bl a,.bl a]=some (.bl true):=i9 rfl rfl rfl rfl rfl rfl (xq a)
def same_str{cl:Cl}{fs:Nat}(x:PySem.Str):evF cl (cO fs) [.str x,.str x]=some (.bl true):=i9 rfl rfl rfl rfl rfl rfl (show some (x == x)=some true by rw[beq_self_eq_true])
def sameAll{T:List Fn}{sm:Nat}(h:T[sm]?=some (cO sm)):∀ (k n:Nat) (d:D),Pl k d->k<=n->aq T (n+1) sm [d,d]=some (.bl true):=by
 intro k
 induction k with
 |zero=>
  intro n d p _
  cases p with
  | int=>exact(ay h).trans (same_int _)
  | bl=>exact(ay h).trans (pQ _)
  | str=>exact(ay h).trans (same_str _)
 |succ k ih=>
  intro n d p hn
  cases p with
  | int=>exact(ay h).trans (same_int _)
  | bl=>exact(ay h).trans (pQ _)
  | str=>exact(ay h).trans (same_str _)
  |tup _ xs hl hx=>
   obtain⟨m,rfl⟩:∃ m,n=m+1:=⟨n-1,by lia⟩
   exact(ay h).trans (mX (.inl rfl) hl fun x hd=>ih m x (hx x hd) (by lia))
  |lst _ xs hl hx=>
   obtain⟨m,rfl⟩:∃ m,n=m+1:=⟨n-1,by lia⟩
   exact(ay h).trans (mX (.inr rfl) hl fun x hd=>ih m x (hx x hd) (by lia))
def Pl.L{n:Nat}{xs:List Nat}(h:xs.length<=1000):Pl (n+1) (.tup (L xs)):=.tup _ _ (by rw[bN];exact h) fun x hx=>by
 obtain⟨a,_,rfl⟩:=List.mem_map.mp hx;exact .int _ _
def jv:∀ xs:List D,(∀ x∈xs,f x x=some true)->eqs f xs xs=some true
 | [],_=>rfl
 | x::r,h=>by
  rw[eqs,h x List.mem_cons_self,Option.bind_some,jv r fun y hy=>h y (List.mem_cons_of_mem _ hy)];rfl
def CU:∀ (k n:Nat) (d:D),Pl k d->k<=n->eqD n d d=some true:=by
 intro k
 induction k with
 |zero=>
  intro n d p _
  cases p with
  | int i=>simp[zw]
  | bl i=>simp[Be]
  | str i=>simp[zK]
 |succ k ih=>
  intro n d p hn
  obtain⟨m,rfl⟩:∃ m,n=m+1:=⟨n-1,by lia⟩
  cases p with
  | int i=>simp[zw]
  | bl i=>simp[Be]
  | str i=>simp[zK]
  | tup _ xs hl h=>rw[E2,jv xs fun x hx=>ih m x (h x hx) (by lia)];simp
  | lst _ xs hl h=>rw[DS,jv xs fun x hx=>ih m x (h x hx) (by lia)];simp
def wY(p:Pl k d)(h:k<=8):bw .eq d d=some true:=CU k 8 d p h
def CQ(hl:ns.length<=63):iL (.scr (LI ns)) (.int 63)=some (.lst (LI ns)):=by
 show some (D.lst ((LI ns).take (cutAt (LI ns).length 63)))=_;rw[List.take_of_length_le]
 have:(LI ns).length=ns.length:=by simp[LI]
 rw[this];unfold cutAt;rw[if_pos (by decide)];have:(63:Int).toNat=63:=rfl;lia
section
end
section
variable{nu pc pa nb un if' cf po rp ir mv:Nat}
end
end RM
set_option maxHeartbeats 1000000
namespace RT
open RL
end RT
namespace RM
open RL RT
section
end
end RM
set_option maxHeartbeats 1000000
namespace RM
open RL RT
section
variable{cl:Cl}{xs:List Int}
def yx(h:(List.range xs.length).all (nb xs)=true):∃ f:List Nat,LI xs=L f/\f.length=xs.length/\∀ q,q<xs.length->at' f q<xs.length/\at' f (at' f q)=q:=by
 rw[List.all_eq_true]at h
 have key:∀ q,q<xs.length->(0<=xi xs q/\xi xs q<xs.length)/\xi xs (xi xs q).toNat=q:=fun q hq=>by
  have:=h q (List.mem_range.mpr hq);unfold nb at this;rw[Bool.and_eq_true,decide_eq_true_eq,decide_eq_true_eq]at this;exact this
 have at1:∀ q,q<xs.length->at' (xs.map Int.toNat) q=(xi xs q).toNat:=fun q hq=>by simp[at',xi,hq]
 refine⟨xs.map Int.toNat,?_,by simp,fun q hq=>?_⟩
 ·unfold LI L;rw[List.map_map];apply List.map_congr_left;intro x hx;obtain⟨q,hq,e⟩:=List.getElem_of_mem hx;have k:=(key q hq).1.1
  have:xi xs q=x:=by simp[xi,hq,e]
  rw[this]at k;show D.int x=D.int ((x.toNat:Nat):Int);rw[Int.toNat_of_nonneg k]
 ·obtain⟨⟨a,b⟩,c⟩:=key q hq;rw[at1 q hq];refine⟨by lia,?_⟩;rw[at1 _ (by lia),c];rfl
end
end RM
set_option maxHeartbeats 1000000
namespace RM
open RL RT
section
variable{cl:Cl}{n:Nat}{f:List Nat}
end
end RM
set_option maxHeartbeats 1000000
namespace RT
open RL
end RT
namespace RM
open RL RT
section
variable{cl:Cl}{xs:List Int}{s1 s2:D}
end
section
end
section
end
section
variable{cl:Cl}
end
section
end
section
end
section
end
section
end
section
variable{nu pc pa nb un if' cf po rp ir mv rn mk rg jb pu c2 hu:Nat}
end
section
variable{mx rw dg pl hk ci ft tx rg hu ov fr:Nat}
end
section
end
section
end
section
end
section
variable{mx rw dg pl hk ci ft tx rg hu ov fr:Nat}
end
section
end
section
end
section
end
section
end
end RM
set_option maxHeartbeats 1000000
namespace RM
open RL RT
section
end
end RM
set_option maxHeartbeats 1000000
namespace RT
open RL
end RT
namespace RM
open RL RT
section
variable{nu pc pa nb un if' cf po rp ir mv rn mk rg jb pu c2 hu:Nat}
end
section
end
end RM
set_option maxHeartbeats 1000000
namespace RT
open RL
end RT
namespace RM
open RL RT
section
end
section
variable{nu pc pa nb un if' cf po rp ir mv:Nat}
end
section
end
section
end
end RM
set_option maxHeartbeats 1000000
namespace RM
open RL RT
structure Hf(n:Nat)(h:List Nat):Prop where
 len:h.length=n
 lt:∀ q,q<n->at' h q<n
 inv:∀ q,q<n->at' h (at' h q)=q
 nx:Nx (at' h) n
abbrev fx(n:Nat)(h:List Nat):List Nat:=(List.range n).filter fun q=>decide (at' h q=q)
section
variable{n:Nat}{f h a b:List Nat}
end
end RM
set_option maxHeartbeats 1000000
namespace RM
open RL RT
section
end
end RM
set_option maxHeartbeats 1000000
namespace RM
open RL RT
section
variable{n:Nat}{f g A B:List Nat}
end
end RM
set_option maxHeartbeats 1000000
namespace RT
open RL
abbrev fC(f_is_half:Nat):Fn :=
 ⟨1,1,[],[],(.cons (.ife (.not (.call f_is_half (.cons (.var 0) .nil))) (.cons (.rais "BadHalf" .nil) .nil) .nil) .nil)⟩
abbrev lj:Fn :=
 ⟨1,3,[],[],(.cons (.ret (.comp (.var 1) [1,2] (.enm (.var 0)) (.cmp .eq (.var 1) (.var 2)))) .nil)⟩
end RT
namespace RM
open RL RT
section
variable{cl:Cl}{n:Nat}{h a b:List Nat}
def sk(hn:n<=10)(hl:h.length=n):evF cl lj [.tup (L h)]=some (.lst (L (fx n h))):=by
 have en:=mY hl
 have mc:=sU (F:=fun σ1=>((ev cl σ1 (.cmp .eq (.var 1) (.var 2))).bind truth).bind fun k=>if k then(ev cl σ1 (.var 1)).map some else some none) (tg:=[1,2]) (σ:=[some (.tup (L h)),none,none]) (h:=pr h) (c:=fun p=>decide (at' h p=p)) (fun _=>rfl) (List.range n) (by
  intro p hp;show((ev cl [some (.tup (L h)),some (.int (p:Nat)),some (.int (at' h p:Nat))] (.cmp .eq (.var 1) (.var 2))).bind truth).bind (fun k=>if k then(ev cl [some (.tup (L h)),some (.int (p:Nat)),some (.int (at' h p:Nat))] (.var 1)).map some else some none)=_
  have q:bw .eq (.int p) (.int (at' h p:Nat))=some (decide (at' h p=p)):=by
   rw[d7];congr 1;lia
  rw[aJ (aA (aa rfl) (aa rfl) q),Option.bind_some,aa rfl]
  split<;>rfl)
 rw[<-en]at mc;exact aC rfl rfl (aE (nZ (fO (aa rfl) rfl) (by rw[en,List.length_map,List.length_range];unfold most;lia) mc) (by unfold dC;rw[show aS (.lst (L (fx n h)))=true from gZ _];rfl))
def rl(H:Hf n h):(List.range (h.map Int.ofNat).length).all (nb (h.map Int.ofNat))=true:=kf H.len H.lt H.inv
def pz{fu fp fc:Nat}(h1:1<=n)(hn:n<=10)(H:Hf n h)(hc:∀ i:Int,cl fc [.int i]=some (.bl (decide (1<=i/\i<=10))))(hp:cl fp [.tup (L h)]=some (.bl true))(hu:cl fu [.tup (L h)]=some (.bl true)):evF cl (iF fu fp fc) [.tup (L h)]=some (.bl true):=by
 have ln:biV .len (.tup (L h))=some (.int n):=by
  show some (D.int ((L h).length:Nat))=_;rw[bN,H.len]
 have c:=hc n;rw[decide_eq_true (by lia)]at c;exact aC rfl rfl (aE (cX (cN (bz (aa rfl) ln) c) (cX (cN (aa rfl) hp) (cN (aa rfl) hu))) rfl)
end
end RM
set_option maxHeartbeats 1000000
namespace RM
open RL RT
abbrev Cb(m:Nat):Nat->Nat
 | 0=>1
 | i+1=>Cb m i*(m-i) / (i+1)
abbrev Wy(m g:Nat):Nat:=if g<=m/\(m-g)%2=0 then(if m=g then 1 else Cb m ((m-g) / 2)-Cb m ((m-g) / 2-1))else 0
abbrev Ah(m g:Nat):Nat:=match m,g with
 | m+1,g+1=>Wy m g
 | _,_=>0
abbrev Td(m g w:Nat):Nat:=Wy w 0*Wy (m-w-2) g
abbrev Sm(m g:Nat):Nat->Nat
 | 0=>0
 | j+1=>Sm m g j+Td m g (2*j)
def kQ:∀ m,m<=10->∀ g,g<=m->(1<=m->Ah m g+Sm m g (m / 2)=Wy m g)/\(m≠g->Cb m ((m-g) / 2-1)<=Cb m ((m-g) / 2))/\Wy m g<1000:=by decide +kernel
def iz{m g:Nat}(h:m<g):Wy m g=0:=by
 unfold Wy;rw[if_neg (by lia)]
def sq{m g:Nat}(h1:1<=m)(hm:m<=10):Ah m g+Sm m g (m / 2)=Wy m g:=by
 by_cases c:g<=m
 ·exact(kQ m hm g c).1 h1
 ·have a0:Ah m g=0:=by
   match m,g with
   | 0,_=>rfl
   | _+1,0=>rfl
   | m+1,g+1=>exact iz (by lia)
  have s0:∀ j,Sm m g j=0:=fun j=>by
   induction j with
   | zero=>rfl
   | succ j ih=>rw[Sm,ih,Td,iz (m:=m-2*j-2) (g:=g) (by lia),Nat.mul_zero]
  rw[a0,s0,iz (by lia)]
def pT(m g:Nat){i j:Nat}(h:i<=j):Sm m g i<=Sm m g j:=by
 induction h with
 | refl=>exact Nat.le_refl _
 | step h ih=>exact Nat.le_trans ih (by rw[Sm];lia)
def gM{m g:Nat}(hm:m<=10):Wy m g<1000:=by
 by_cases c:g<=m
 ·exact(kQ m hm g c).2.2
 ·rw[iz (by lia)];decide
def Az{j m g:Nat}(h:2*j+m+2<=10):Ah (2*j+m+2) g+Sm (2*j+m+2) g j+Wy (2*j) 0*Wy m g<=Wy (2*j+m+2) g:=by
 have r:=sq (m:=2*j+m+2) (g:=g) (by lia) h;have mo:=pT (2*j+m+2) g (i:=j+1) (j:=(2*j+m+2) / 2) (by lia);rw[Sm,Td,show 2*j+m+2-2*j-2=m by lia]at mo;lia
inductive Sg:Nat->Nat->Nat->List Nat->Nat->Prop
 | nil (a:Nat):Sg a 0 0 [] 0
 | fix {a m g k:Nat} {xs:List Nat}:Sg (a+1) m g xs k->Sg a (m+1) (g+1) (a::xs) k
 | tie {a j m g k l:Nat} {ys zs:List Nat}:Sg (a+1) (2*j) 0 ys k->Sg (a+2*j+2) m g zs l->Sg a (2*j+m+2) g ((a+2*j+1)::(ys++a::zs)) (Ah (2*j+m+2) g+Sm (2*j+m+2) g j+k*Wy m g+l)
def Sg.len{a m g k:Nat}{xs:List Nat}(s:Sg a m g xs k):xs.length=m:=by
 induction s with
 | nil=>rfl
 | fix _ ih=>rw[List.length_cons,ih]
 | tie _ _ ih1 ih2=>rw[List.length_cons,List.length_append,List.length_cons,ih1,ih2];lia
def Sg.bound{a m g k:Nat}{xs:List Nat}(s:Sg a m g xs k):m<=10->k<Wy m g:=by
 induction s with
 | nil=>intro _;decide
 |@fix a m g k xs _ ih=>
  intro h;have r:=sq (m:=m+1) (g:=g+1) (by lia) h;rw[Ah]at r;have:=ih (by lia);lia
 |@tie a j m g k l ys zs _ _ ih1 ih2=>
  intro h;have b1:=ih1 (by lia);have b2:=ih2 (by lia);have t:=Az (j:=j) (m:=m) (g:=g) h
  have:k*Wy m g+Wy m g<=Wy (2*j) 0*Wy m g:=by
   rw[<-Nat.succ_mul];exact Nat.mul_le_mul_right _ b1
  lia
abbrev bQ:Nat->List Nat->Nat
 | _,[]=>0
 | a,x::r=>(if x=a then 1 else 0)+bQ (a+1) r
def jo:∀ (a:Nat) (xs ys:List Nat),bQ a (xs++ys)=bQ a xs+bQ (a+xs.length) ys
 | a,[],ys=>by simp[bQ]
 | a,x::r,ys=>by
  rw[List.cons_append,bQ,bQ,jo (a+1) r ys,List.length_cons,show a+1+r.length=a+(r.length+1) by lia];lia
def Sg.bQ{a m g k:Nat}{xs:List Nat}(s:Sg a m g xs k):RM.bQ a xs=g:=by
 induction s with
 | nil=>rfl
 | fix _ ih=>rw[RM.bQ,ih,if_pos rfl];lia
 |@tie a j m g k l ys zs s1 s2 ih1 ih2=>
  rw[RM.bQ,if_neg (by lia),jo,ih1,RM.bQ,s1.len,if_neg (by lia),show a+1+2*j+1=a+2*j+2 by lia,ih2];lia
def pM:∀ (r:Nat->Nat) (m a:Nat),bQ a ((List.range' a m).map r)=((List.range' a m).filter fun q=>decide (r q=q)).length
 | r,0,a=>rfl
 | r,m+1,a=>by
  rw[List.range'_succ,List.map_cons,bQ,pM r m (a+1),List.filter_cons];by_cases c:r a=a
  ·rw[if_pos c,if_pos (decide_eq_true c),List.length_cons];lia
  ·rw[if_neg c,if_neg (by simpa using c)];lia
def Cy{n:Nat}{h:List Nat}(l:h.length=n):(List.range' 0 n).map (at' h)=h:=by
 apply List.ext_getElem?;intro i;by_cases hi:i<n
 ·rw[fv (f:=h) (by lia)];simp[hi]
 ·rw[List.getElem?_eq_none (by simp;lia),List.getElem?_eq_none (by lia)]
end RM
set_option maxHeartbeats 1000000
namespace RT
open RL
abbrev fD(f_going f_check_half:Nat):Fn :=
 ⟨1,1,[],[],(.cons (.exc (.call f_check_half (.cons (.var 0) .nil))) (.cons (.ret (.bi .len (.call f_going (.cons (.var 0) .nil)))) .nil))⟩
abbrev eU(f_is_number f_ways f_check_pegs:Nat):Fn :=
 ⟨2,2,[],[],(.cons (.exc (.call f_check_pegs (.cons (.var 0) .nil))) (.cons (.ret (.ifx (.call f_is_number (.cons (.var 1) .nil)) (.call f_ways (.cons (.var 0) (.cons (.var 1) .nil))) (.cst (.int 0)))) .nil))⟩
abbrev iK(f_half_from f_check_number f_how_many_halves:Nat):Fn :=
 ⟨3,3,[],[],(.cons (.exc (.call f_check_number (.cons (.var 2) (.cons (.call f_how_many_halves (.cons (.var 0) (.cons (.var 1) .nil))) .nil)))) (.cons (.ret (.call f_half_from (.cons (.cst (.int 0)) (.cons (.var 0) (.cons (.var 1) (.cons (.var 2) .nil)))))) .nil))⟩
abbrev eQ(f_number_from f_through_of:Nat):Fn :=
 ⟨1,1,[],[],(.cons (.ret (.call f_number_from (.cons (.var 0) (.cons (.cst (.int 0)) (.cons (.bi .len (.var 0)) (.cons (.call f_through_of (.cons (.var 0) .nil)) .nil)))))) .nil)⟩
abbrev fI(f_half_from f_ways f_tied_around:Nat):Ss :=
 (.cons (.aug 4 .add (.call f_tied_around (.cons (.var 1) (.cons (.var 2) (.cons (.var 5) .nil))))) (.cons (.aug 5 .add (.cst (.int 2))) .nil))
abbrev jn(f_half_from f_ways f_tied_around:Nat):Fn :=
 ⟨4,11,[],[],(.cons (.ife (.cmp .eq (.var 1) (.cst (.int 0))) (.cons (.ret (.tup .nil)) .nil) .nil) (.cons (.asg 4 (.call f_ways (.cons (.bin .sub (.var 1) (.cst (.int 1))) (.cons (.bin .sub (.var 2) (.cst (.int 1))) .nil)))) (.cons (.ife (.cmp .lt (.var 3) (.var 4)) (.cons (.ret (.bin .add (.tup (.cons (.var 0) .nil)) (.call f_half_from (.cons (.bin .add (.var 0) (.cst (.int 1))) (.cons (.bin .sub (.var 1) (.cst (.int 1))) (.cons (.bin .sub (.var 2) (.cst (.int 1))) (.cons (.var 3) .nil))))))) .nil) .nil) (.cons (.asg 5 (.cst (.int 0))) (.cons (.whil (.cmp .ge (.var 3) (.bin .add (.var 4) (.call f_tied_around (.cons (.var 1) (.cons (.var 2) (.cons (.var 5) .nil)))))) (fI f_half_from f_ways f_tied_around)) (.cons (.asg 6 (.bin .add (.bin .add (.var 0) (.var 5)) (.cst (.int 1)))) (.cons (.asg 7 (.bin .sub (.bin .sub (.var 1) (.var 5)) (.cst (.int 2)))) (.cons (.unp [9,10] (.dvm (.bin .sub (.var 3) (.var 4)) (.call f_ways (.cons (.var 7) (.cons (.var 2) .nil))))) (.cons (.asg 8 (.call f_half_from (.cons (.bin .add (.var 0) (.cst (.int 1))) (.cons (.var 5) (.cons (.cst (.int 0)) (.cons (.var 9) .nil)))))) (.cons (.ret (.bin .add (.bin .add (.bin .add (.tup (.cons (.var 6) .nil)) (.var 8)) (.tup (.cons (.var 0) .nil))) (.call f_half_from (.cons (.bin .add (.var 6) (.cst (.int 1))) (.cons (.var 7) (.cons (.var 2) (.cons (.var 10) .nil))))))) .nil))))))))))⟩
abbrev gx(f_number_from f_ways f_tied_around:Nat):Ss :=
 (.cons (.aug 6 .add (.call f_tied_around (.cons (.var 5) (.cons (.var 3) (.cons (.var 7) .nil))))) .nil)
abbrev il(f_number_from f_ways f_tied_around:Nat):Fn :=
 ⟨4,8,[],[],(.cons (.ife (.cmp .eq (.var 1) (.var 2)) (.cons (.ret (.cst (.int 0))) .nil) .nil) (.cons (.asg 4 (.ix (.var 0) (.var 1))) (.cons (.ife (.cmp .eq (.var 4) (.var 1)) (.cons (.ret (.call f_number_from (.cons (.var 0) (.cons (.bin .add (.var 1) (.cst (.int 1))) (.cons (.var 2) (.cons (.bin .sub (.var 3) (.cst (.int 1))) .nil)))))) .nil) .nil) (.cons (.asg 5 (.bin .sub (.var 2) (.var 1))) (.cons (.asg 6 (.call f_ways (.cons (.bin .sub (.var 5) (.cst (.int 1))) (.cons (.bin .sub (.var 3) (.cst (.int 1))) .nil)))) (.cons (.forr [7] (.rng3 (2) (.cst (.int 0)) (.bin .sub (.bin .sub (.var 4) (.var 1)) (.cst (.int 1)))) (gx f_number_from f_ways f_tied_around)) (.cons (.aug 6 .add (.bin .mul (.call f_number_from (.cons (.var 0) (.cons (.bin .add (.var 1) (.cst (.int 1))) (.cons (.var 4) (.cons (.cst (.int 0)) .nil))))) (.call f_ways (.cons (.bin .sub (.bin .sub (.var 2) (.var 4)) (.cst (.int 1))) (.cons (.var 3) .nil))))) (.cons (.ret (.bin .add (.var 6) (.call f_number_from (.cons (.var 0) (.cons (.bin .add (.var 4) (.cst (.int 1))) (.cons (.var 2) (.cons (.var 3) .nil))))))) .nil))))))))⟩
abbrev iu(f_ways:Nat):Fn :=
 ⟨3,3,[],[],(.cons (.ret (.bin .mul (.call f_ways (.cons (.var 2) (.cons (.cst (.int 0)) .nil))) (.call f_ways (.cons (.bin .sub (.bin .sub (.var 0) (.var 2)) (.cst (.int 2))) (.cons (.var 1) .nil))))) .nil)⟩
abbrev i6(f_choices:Nat):Fn :=
 ⟨2,3,[],[],(.cons (.ife (.or (.cmp .lt (.var 1) (.cst (.int 0))) (.or (.cmp .gt (.var 1) (.var 0)) (.cmp .eq (.bin .mod (.bin .sub (.var 0) (.var 1)) (.cst (.int 2))) (.cst (.int 1))))) (.cons (.ret (.cst (.int 0))) .nil) .nil) (.cons (.asg 2 (.bin .fdiv (.bin .sub (.var 0) (.var 1)) (.cst (.int 2)))) (.cons (.ret (.bin .sub (.call f_choices (.cons (.var 0) (.cons (.var 2) .nil))) (.call f_choices (.cons (.var 0) (.cons (.bin .sub (.var 2) (.cst (.int 1))) .nil))))) .nil)))⟩
abbrev kz:Ss :=
 (.cons (.asg 2 (.bin .fdiv (.bin .mul (.var 2) (.bin .sub (.var 0) (.var 3))) (.bin .add (.var 3) (.cst (.int 1))))) .nil)
abbrev fU:Fn :=
 ⟨2,4,[],[],(.cons (.ife (.cmp .lt (.var 1) (.cst (.int 0))) (.cons (.ret (.cst (.int 0))) .nil) .nil) (.cons (.asg 2 (.cst (.int 1))) (.cons (.forr [3] (.rng1 (.var 1)) (kz)) (.cons (.ret (.var 2)) .nil))))⟩
abbrev dY(f_is_number:Nat):Fn :=
 ⟨2,2,[],[],(.cons (.ife (.or (.not (.call f_is_number (.cons (.var 0) .nil))) (.not (.chain .le .lt (.cst (.int 0)) (.var 0) (.var 1)))) (.cons (.rais "NoNumber" (.cons (.var 1) .nil)) .nil) .nil) .nil)⟩
end RT
namespace RM
open RL RT
section
variable{cl:Cl}
def cT{M:List Nat}{e:E}(i:Int):cD M e (.int i)=true:=rfl
def eJ{M:List Nat}{e:E}(i:Int):dC M e (.int i)=true:=rfl
def pA{m c:Nat}(hm:m<=100)(hc:c<=m):evF cl fU [.int (m:Nat),.int (c:Nat)]=some (.int (Cb m c:Nat)):=by
 obtain⟨σ',e,o3,rfl⟩:=oC (f:=ai cl [] kz) (tg:=[3]) (fun p:Nat=>.int (p:Nat)) (fun _=>rfl)
  (fun u σ=>∃ o3:Option D,σ=[some (.int (m:Nat)),some (.int (c:Nat)),some (.int (Cb m u.length:Nat)),o3])
  (List.range c) [] [some (.int (m:Nat)),some (.int (c:Nat)),some (.int (Cb m 0:Nat)),none] (by
   rintro u p v σ hu ⟨o3,rfl⟩;obtain⟨hk,hp⟩:=gk (g:=id) (by simpa using hu);simp only[id]at hp;subst hp;have lt:((u.length:Nat):Int)+1<2 ^ 200:=Int.lt_of_lt_of_le (b:=1000) (by lia) (by decide);have ls:((m:Nat):Int)-(u.length:Nat)<2 ^ 64:=Int.lt_of_lt_of_le (b:=1000) (by lia) (by decide);have lg:-(2 ^ 64)<((m:Nat):Int)-(u.length:Nat):=Int.lt_of_lt_of_le (b:=0) (by decide) (by lia)
   have a1:ev cl [some (.int (m:Nat)),some (.int (c:Nat)),some (.int (Cb m u.length:Nat)),some (.int (u.length:Nat))] (.bin .fdiv (.bin .mul (.var 2) (.bin .sub (.var 0) (.var 3))) (.bin .add (.var 3) (.cst (.int 1))))=some (.int (Cb m (u.length+1):Nat)):=by
    refine ak (x:=.int ((Cb m u.length:Nat)*((m:Nat)-(u.length:Nat)))) (y:=.int ((u.length:Nat)+1)) (ak (aa rfl) (ak (aa rfl) (aa rfl) bf) (oZ lg ls)) (ak (aa rfl) ag bj) ?_;rw[mD (by lia) lt,Cb,Int.natCast_ediv,Int.natCast_mul,Int.natCast_sub (by lia)];rfl
   have b1:=aK (cl:=cl) (M:=[]) (i:=2) a1 (cT _) aU;refine⟨[some (.int (m:Nat)),some (.int (c:Nat)),some (.int (Cb m (u.length+1):Nat)),some (.int (u.length:Nat))],?_,some (.int (u.length:Nat)),?_⟩
   ·have bt:aW [3] (.int (u.length:Nat)) [some (.int (m:Nat)),some (.int (c:Nat)),some (.int (Cb m u.length:Nat)),o3]=some [some (.int (m:Nat)),some (.int (c:Nat)),some (.int (Cb m u.length:Nat)),some (.int (u.length:Nat))]:=rfl;rw[bt,Option.bind_some];exact b1
   rw[List.length_append,List.length_singleton]) ⟨none,rfl⟩
 rw[List.nil_append,List.length_range]at e;exact aC rfl rfl (bp (aJ (aA (k:=false) (aa rfl) ag (by rw[cw,decide_eq_false (by lia)]))) (aK (d:=.int (Cb m 0:Nat)) ag (cT _) (d9 (jZ (aa rfl) (oM (by lia))) e (aE (d:=.int (Cb m c:Nat)) (aa rfl) (eJ _)))))
def nM{m:Nat}:evF cl fU [.int (m:Nat),.int (-1)]=some (.int 0) :=
 aC rfl rfl (bE (aJ (aA (k:=true) (aa rfl) ag rfl)) (aE ag rfl))
def wD{fc m g:Nat}(hm:m<=100)(le:g<=m->m≠g->Cb m ((m-g) / 2-1)<=Cb m ((m-g) / 2))(h1:∀ c:Nat,c<=m->cl fc [.int (m:Nat),.int (c:Nat)]=some (.int (Cb m c:Nat)))(h0:cl fc [.int (m:Nat),.int (-1)]=some (.int 0)):evF cl (i6 fc) [.int (m:Nat),.int (g:Nat)]=some (.int (Wy m g:Nat)):=by
 have s1:ev cl [some (.int (m:Nat)),some (.int (g:Nat)),none] (.cmp .lt (.var 1) (.cst (.int 0)))=some (.bl false):=aA (aa rfl) ag (by rw[cw,decide_eq_false (by lia)]);by_cases c:m<g
 ·rw[iz c];exact aC rfl rfl (bE (aJ (dG s1 (jj (aA (k:=true) (aa rfl) (aa rfl) (by rw[iG,decide_eq_true (by lia)]))))) (aE ag rfl))
 ·have s2:ev cl [some (.int (m:Nat)),some (.int (g:Nat)),none] (.cmp .gt (.var 1) (.var 0))=some (.bl false):=aA (aa rfl) (aa rfl) (by rw[iG,decide_eq_false (by lia)]);have sb:∀ {σ:St},(σ[0]?).bind id=some (D.int (m:Nat))->(σ[1]?).bind id=some (D.int (g:Nat))->ev cl σ (.bin .sub (.var 0) (.var 1))=some (.int ((m-g:Nat):Int)):=fun a b=>ak (aa a) (aa b) (by rw[bf,Int.natCast_sub (by lia)])
  have md:aQ .mod (.int ((m-g:Nat):Int)) (.int 2)=some (.int (((m-g)%2:Nat):Int)):=by rw[fW (by decide)];rfl
  by_cases c2:(m-g)%2=1
  ·have w0:Wy m g=0:=by unfold Wy;rw[if_neg (by lia)]
   rw[w0];exact aC rfl rfl (bE (aJ (dG s1 (dG s2 (aA (k:=true) (ak (sb rfl rfl) ag md) ag (by rw[d7,c2];rfl))))) (aE ag rfl))
  ·have s3:ev cl [some (.int (m:Nat)),some (.int (g:Nat)),none] (.cmp .eq (.bin .mod (.bin .sub (.var 0) (.var 1)) (.cst (.int 2))) (.cst (.int 1)))=some (.bl false):=aA (ak (sb rfl rfl) ag md) ag (by rw[d7,beq_eq_false_iff_ne.mpr (by lia)])
   have dv:aQ .fdiv (.int ((m-g:Nat):Int)) (.int 2)=some (.int (((m-g) / 2:Nat):Int)):=by rw[mD (by decide) (by decide)];rfl
   have k1:=h1 ((m-g) / 2) (by lia);refine aC rfl rfl (bp (aJ (dG s1 (dG s2 s3))) (aK (ak (sb rfl rfl) ag dv) (cT _) (aE (d:=.int (Wy m g:Nat)) ?_ (eJ _))));by_cases c3:m=g
   ·have w1:Wy m g=1:=by unfold Wy;rw[if_pos ⟨by lia,by lia⟩,if_pos c3]
    rw[w1]
    have z:(m-g) / 2=0:=by lia
    rw[z]at k1 ⊢;exact ak (cq (aa rfl) (aa rfl) k1) (cq (aa rfl) (ak (aa rfl) ag bf) h0) rfl
   ·have k2:=h1 ((m-g) / 2-1) (by lia)
    have w1:Wy m g=Cb m ((m-g) / 2)-Cb m ((m-g) / 2-1):=by unfold Wy;rw[if_pos ⟨by lia,by lia⟩,if_neg c3]
    have le:=le (by omega) c3;rw[w1];refine ak (cq (aa rfl) (aa rfl) k1) (cq (aa rfl) (ak (aa rfl) ag (by rw[bf,show(((m-g) / 2:Nat):Int)-1=(((m-g) / 2-1:Nat):Int) by lia])) k2) ?_;rw[bf,Int.natCast_sub le]
def t6{fc m:Nat}:evF cl (i6 fc) [.int (m:Nat),.int (-1)]=some (.int 0) :=
 aC rfl rfl (bE (aJ (jj (aA (k:=true) (aa rfl) ag rfl))) (aE ag rfl))
def vm{j:Nat}(h:j<=100):gL 2 (.int 0) (.int ((2*j:Nat):Int))=some ((List.range j).map fun i=>.int ((2*i:Nat):Int)):=by
 have hN:bq 2 0 ((2*j:Nat):Int)=j:=by
  unfold bq;rw[if_pos (by decide)];split<;>lia
 have hS:∀ (k a:Nat),bS 2 ((2*a:Nat):Int) k=(List.range' a k).map fun i=>.int ((2*i:Nat):Int):=fun k=>by
  induction k with
  | zero=>intro a;rfl
  |succ k ih=>
   intro a;rw[bS,show((2*a:Nat):Int)+2=((2*(a+1):Nat):Int) by lia,ih,List.range'_succ,List.map_cons]
 dsimp only[gL];rw[hN,if_pos ⟨by decide,by decide,by decide,by unfold most;lia,by decide,by decide,by lia,by lia⟩];have:=hS j 0;rw[List.range_eq_range'];exact congrArg some this
end
end RM
set_option maxHeartbeats 1000000
namespace RM
open RL RT
def iO{cl:Cl}{σ:St}{f:Nat}{e1 e2 e3 e4:E}{d1 d2 d3 d4 x:D}(h1:ev cl σ e1=some d1)(h2:ev cl σ e2=some d2)(h3:ev cl σ e3=some d3)(h4:ev cl σ e4=some d4)(hc:cl f [d1,d2,d3,d4]=some x):ev cl σ (.call f (.cons e1 (.cons e2 (.cons e3 (.cons e4 .nil)))))=some x:=x_call (ar h1 (ar h2 (ar h3 (ar h4 aI)))) hc
def qX{xs ys:List D}(h:0<xs.length)(hl:xs.length+ys.length<=most):aQ .add (.tup xs) (.tup ys)=some (.tup (xs++ys)):=by
 dsimp only[aQ];rw[if_pos ⟨hl,h⟩]
def Cg{M:List Nat}{e:E}(xs:List Nat):cD M e (.tup (L xs))=true:=by
 unfold cD;rw[show(D.tup (L xs)).imm=true from gZ xs];rfl
def mF{M:List Nat}{e:E}(xs:List Nat):dC M e (.tup (L xs))=true:=by
 unfold dC;rw[show(D.tup (L xs)).imm=true from gZ xs];rfl
structure Nm(T:List Fn)(hf nf td wy ch:Nat):Prop where
 uN:T[hf]?=some (jn hf wy td)
 vq:T[nf]?=some (il nf wy td)
 Em:T[td]?=some (iu wy)
 zE:T[wy]?=some (i6 ch)
 Ae:T[ch]?=some fU
section
variable{T:List Fn}{hf nf td wy ch:Nat}
def Nm.lx(N:Nm T hf nf td wy ch)(n:Nat){m g:Nat}(hm:m<=10):aq T (n+2) wy [.int (m:Nat),.int (g:Nat)]=some (.int (Wy m g:Nat)) :=
 (ay N.zE).trans (wD (by omega) (fun d c=>(kQ m hm g d).2.1 c) (fun c hc=>(ay N.Ae).trans (pA (by omega) hc)) ((ay N.Ae).trans nM))
def Nm.ahead(N:Nm T hf nf td wy ch)(n:Nat){m g:Nat}(hm:m<=10):aq T (n+2) wy [.int (m:Nat),.int ((g:Nat)-1)]=some (.int (Ah (m+1) g:Nat)):=by
 cases g with
 | zero=>exact(ay N.zE).trans t6
 |succ g=>
  rw[show((g+1:Nat):Int)-1=(g:Nat) by lia];exact N.lx n hm
def Nm.Bx(N:Nm T hf nf td wy ch)(n:Nat){m g w:Nat}(hm:m<=10)(hw:w+2<=m):aq T (n+3) td [.int (m:Nat),.int (g:Nat),.int (w:Nat)]=some (.int (Td m g w:Nat)):=by
 have s0:=gM (m:=w) (g:=0) (by lia);refine(ay N.Em).trans (aC rfl rfl (aE (ak (cq (aa rfl) ag (N.lx n (m:=w) (g:=0) (by lia))) (cq (ak (ak (aa rfl) (aa rfl) bf) ag (by rw[bf,show((m:Nat):Int)-(w:Nat)-2=((m-w-2:Nat):Int) by omega])) (aa rfl) (N.lx n (by lia))) ?_) (eJ _)));rw[dA (Int.lt_of_lt_of_le (b:=0) (by decide) (by lia)) (Int.lt_of_lt_of_le (b:=1000) (by lia) (by decide)),Td,Int.natCast_mul]
def Nm.number(N:Nm T hf nf td wy ch){H:List Nat}{a m g k:Nat}{xs:List Nat}(s:Sg a m g xs k):m<=10->a+m<=H.length->(∀ i,i<m->xs[i]?=some (at' H (a+i)))->∀ n,m+4<=n->aq T n nf [.tup (L H),.int (a:Nat),.int ((a+m:Nat):Int),.int (g:Nat)]=some (.int (k:Nat)):=by
 induction s with
 |nil a=>
  intro _ _ _ n hn
  obtain⟨n,rfl⟩:∃ n',n=n'+1:=⟨n-1,by lia⟩
  exact(ay N.vq).trans (aC rfl rfl (bE (aJ (aA (k:=true) (aa rfl) (aa rfl) (by rw[d7,Nat.add_zero,beq_self_eq_true]))) (aE ag rfl)))
 |@fix a m g k xs s ih=>
  intro hm hl hx n hn
  obtain⟨n,rfl⟩:∃ n',n=n'+1:=⟨n-1,by lia⟩
  have h0:at' H a=a:=by have:=hx 0 (by lia);simp at this;exact this.symm
  have ih:=ih (by lia) (by lia) (fun i hi=>by have:=hx (i+1) (by lia);rw[List.getElem?_cons_succ]at this;rw[this,show a+(i+1)=a+1+i by lia]) n (by lia)
  have ix:ixV (.tup (L H)) (.int (a:Nat))=some (.int (a:Nat)):=by
   show bR _ _=_;rw[e8,qU,fv (by lia),h0];rfl
  rw[show a+1+m=a+(m+1) by lia]at ih;refine(ay N.vq).trans (aC rfl rfl (bp (aJ (aA (k:=false) (aa rfl) (aa rfl) (by rw[d7,beq_eq_false_iff_ne.mpr (by lia)]))) (aK (f9 (aa rfl) (aa rfl) ix) (cT _) (bE (aJ (aA (k:=true) (aa rfl) (aa rfl) (by rw[d7,beq_self_eq_true]))) (aE (iO (aa rfl) (ak (aa rfl) ag bj) (aa rfl) (ak (aa rfl) ag (by rw[bf,show((g+1:Nat):Int)-1=(g:Nat) by lia])) ih) (eJ _))))))
 |@tie a j m g k l ys zs s1 s2 ih1 ih2=>
  intro hm hl hx n hn
  obtain⟨n,rfl⟩:∃ n',n=n'+1:=⟨n-1,by lia⟩
  obtain⟨n',hn'⟩:∃ n',n=n'+3:=⟨n-3,by lia⟩
  have len1:=s1.len
  have h0:at' H a=a+2*j+1:=by have:=hx 0 (by lia);simp at this;exact this.symm
  have ix:ixV (.tup (L H)) (.int (a:Nat))=some (.int ((a+2*j+1:Nat):Int)):=by
   show bR _ _=_;rw[e8,qU,fv (by lia),h0];rfl
  have ih1:=ih1 (by lia) (by lia) (fun i hi=>by
   have:=hx (i+1) (by lia);rw[List.getElem?_cons_succ,List.getElem?_append_left (by lia)]at this
   rw[this,show a+(i+1)=a+1+i by lia]) n (by lia)
  have ih2:=ih2 (by lia) (by lia) (fun i hi=>by
   have:=hx (i+2*j+2) (by lia);rw[show i+2*j+2=(i+2*j+1)+1 by lia,List.getElem?_cons_succ,List.getElem?_append_right (by lia),show i+2*j+1-ys.length=i+1 by lia,List.getElem?_cons_succ]at this
   rw[this,show a+(i+2*j+1+1)=a+2*j+2+i by lia]) n (by lia)
  rw[show a+1+2*j=a+2*j+1 by lia]at ih1;rw[show a+2*j+2+m=a+(2*j+m+2) by lia]at ih2;have aw:=N.ahead (n'+1) (m:=2*j+m+1) (g:=g) (by lia);have ww:=N.lx (n'+1) (m:=m) (g:=g) (by lia);rw[show n'+1+2=n by lia]at aw ww
  obtain⟨σ',e,o7,rfl⟩:=oC (f:=ai (aq T n) [] (gx nf wy td)) (tg:=[7]) (fun i:Nat=>.int ((2*i:Nat):Int)) (fun _=>rfl)
   (fun u σ=>∃ o7:Option D,σ=[some (.tup (L H)),some (.int (a:Nat)),some (.int ((a+(2*j+m+2):Nat):Int)),some (.int (g:Nat)),some (.int ((a+2*j+1:Nat):Int)),some (.int ((2*j+m+2:Nat):Int)),some (.int ((Ah (2*j+m+2) g+Sm (2*j+m+2) g u.length:Nat):Int)),o7])
   (List.range j) [] [some (.tup (L H)),some (.int (a:Nat)),some (.int ((a+(2*j+m+2):Nat):Int)),some (.int (g:Nat)),some (.int ((a+2*j+1:Nat):Int)),some (.int ((2*j+m+2:Nat):Int)),some (.int ((Ah (2*j+m+2) g+Sm (2*j+m+2) g 0:Nat):Int)),none] (by
    rintro u p v σ hu ⟨o7,rfl⟩;obtain⟨hk,hp⟩:=gk (g:=id) (by simpa using hu);simp only[id]at hp;subst hp;have tt:=N.Bx n' (m:=2*j+m+2) (g:=g) (w:=2*u.length) (by lia) (by lia);rw[<-hn']at tt;have b1:=jG (cl:=aq T n) (M:=[]) (i:=6) (o:=.add) (r:=.nil) (e:=.call td (.cons (.var 5) (.cons (.var 3) (.cons (.var 7) .nil)))) (σ:=[some (.tup (L H)),some (.int (a:Nat)),some (.int ((a+(2*j+m+2):Nat):Int)),some (.int (g:Nat)),some (.int ((a+2*j+1:Nat):Int)),some (.int ((2*j+m+2:Nat):Int)),some (.int ((Ah (2*j+m+2) g+Sm (2*j+m+2) g u.length:Nat):Int)),some (.int ((2*u.length:Nat):Int))]) rfl (jD (aa rfl) (aa rfl) (aa rfl) tt) bj aU;refine⟨_,?_,some (.int ((2*u.length:Nat):Int)),rfl⟩;have bt:∀ w:D,aW [7] (.int ((2*u.length:Nat):Int)) [some (.tup (L H)),some (.int (a:Nat)),some (.int ((a+(2*j+m+2):Nat):Int)),some (.int (g:Nat)),some (.int ((a+2*j+1:Nat):Int)),some (.int ((2*j+m+2:Nat):Int)),some w,o7]=some [some (.tup (L H)),some (.int (a:Nat)),some (.int ((a+(2*j+m+2):Nat):Int)),some (.int (g:Nat)),some (.int ((a+2*j+1:Nat):Int)),some (.int ((2*j+m+2:Nat):Int)),some w,some (.int ((2*u.length:Nat):Int))]:=fun _=>rfl;rw[bt,Option.bind_some];rw[List.length_append,List.length_singleton,show((Ah (2*j+m+2) g+Sm (2*j+m+2) g (u.length+1):Nat):Int)=((Ah (2*j+m+2) g+Sm (2*j+m+2) g u.length:Nat):Int)+((Td (2*j+m+2) g (2*u.length):Nat):Int) by rw[Sm];lia]
    exact b1) ⟨none,rfl⟩
  rw[List.nil_append,List.length_range]at e;have kb:k<1000:=Nat.lt_trans (s1.bound (by lia)) (gM (by lia))
  have mu:aQ .mul (.int (k:Nat)) (.int (Wy m g:Nat))=some (.int ((k*Wy m g:Nat):Int)):=by
   rw[dA (Int.lt_of_lt_of_le (b:=0) (by decide) (by lia)) (Int.lt_of_lt_of_le (b:=1000) (by lia) (by decide)),Int.natCast_mul]
  refine(ay N.vq).trans (aC rfl rfl (bp (aJ (aA (k:=false) (aa rfl) (aa rfl) (by rw[d7,beq_eq_false_iff_ne.mpr (by lia)]))) (aK (f9 (aa rfl) (aa rfl) ix) (cT _) (bp (aJ (aA (k:=false) (aa rfl) (aa rfl) (by rw[d7,beq_eq_false_iff_ne.mpr (by lia)])))
   (aK (d:=.int ((2*j+m+2:Nat):Int)) (ak (aa rfl) (aa rfl) (by rw[bf,show((a+(2*j+m+2):Nat):Int)-(a:Nat)=((2*j+m+2:Nat):Int) by lia])) (cT _)
   (aK (d:=.int ((Ah (2*j+m+2) g+Sm (2*j+m+2) g 0:Nat):Int)) (cq (ak (aa rfl) ag (by rw[bf,show((2*j+m+2:Nat):Int)-1=((2*j+m+1:Nat):Int) by lia])) (ak (aa rfl) ag bf) aw) (cT _)
   (d9 (AM ag (ak (ak (aa rfl) (aa rfl) bf) ag (by rw[bf,show((a+2*j+1:Nat):Int)-(a:Nat)-1=((2*j:Nat):Int) by lia])) (vm (by lia))) e
   (jG rfl (ak (iO (aa rfl) (ak (aa rfl) ag bj) (aa rfl) ag ih1) (cq (ak (ak (aa rfl) (aa rfl) bf) ag (by rw[bf,show((a+(2*j+m+2):Nat):Int)-((a+2*j+1:Nat):Int)-1=((m:Nat):Int) by lia])) (aa rfl) ww) mu) bj
   (aE (ak (aa rfl) (iO (aa rfl) (ak (aa rfl) ag bj) (aa rfl) (aa rfl) ih2) (by rw[bj];rfl)) (eJ _))))))))))
end
end RM
set_option maxHeartbeats 1000000
namespace RM
open RL RT
section
variable{T:List Fn}{hf nf td wy ch:Nat}
def Nm.half(N:Nm T hf nf td wy ch){a m g k:Nat}{xs:List Nat}(s:Sg a m g xs k):m<=10->∀ n,m+4<=n->aq T n hf [.int (a:Nat),.int (m:Nat),.int (g:Nat),.int (k:Nat)]=some (.tup (L xs)):=by
 induction s with
 |nil a=>
  intro _ n hn
  obtain⟨n,rfl⟩:∃ n',n=n'+1:=⟨n-1,by lia⟩
  exact(ay N.uN).trans (aC rfl rfl (bE (aJ (aA (k:=true) (aa rfl) ag rfl)) (aE (bB aI) rfl)))
 |@fix a m g k xs s ih=>
  intro hm n hn
  obtain⟨n,rfl⟩:∃ n',n=n'+1:=⟨n-1,by lia⟩
  obtain⟨n',hn'⟩:∃ n',n=n'+2:=⟨n-2,by lia⟩
  have ih:=ih (by lia) n (by lia);have bd:=s.bound (by lia);have aw:=N.ahead n' (m:=m) (g:=g+1) (by lia);rw[<-hn',Ah]at aw;have sl:=s.len
  refine(ay N.uN).trans (aC rfl rfl (bp (aJ (aA (k:=false) (aa rfl) ag (by rw[d7,beq_eq_false_iff_ne.mpr (by lia)]))) (aK (d:=.int (Wy m g:Nat)) (cq (ak (aa rfl) ag (by rw[bf,show((m+1:Nat):Int)-1=((m:Nat):Int) by lia])) (ak (aa rfl) ag bf) aw) (cT _)
   (bE (aJ (aA (k:=true) (aa rfl) (aa rfl) (by rw[cw,decide_eq_true (by lia)]))) (aE (ak (bB (ar (aa rfl) aI)) (iO (ak (aa rfl) ag bj) (ak (aa rfl) ag (by rw[bf,show((m+1:Nat):Int)-1=((m:Nat):Int) by lia])) (ak (aa rfl) ag (by rw[bf,show((g+1:Nat):Int)-1=((g:Nat):Int) by lia])) (aa rfl) ih) (qX Nat.one_pos (by rw[bN,sl];show 1+m<=most;unfold most;lia))) (mF (a::xs)))))))
 |@tie a j m g k l ys zs s1 s2 ih1 ih2=>
  intro hm n hn
  obtain⟨n,rfl⟩:∃ n',n=n'+1:=⟨n-1,by lia⟩
  obtain⟨n',hn'⟩:∃ n',n=n'+3:=⟨n-3,by lia⟩
  have ih1:=ih1 (by lia) n (by lia);have ih2:=ih2 (by lia) n (by lia);have len1:=s1.len;have len2:=s2.len;have b1:=s1.bound (by lia);have b2:=s2.bound (by lia);have aw:=N.ahead (n'+1) (m:=2*j+m+1) (g:=g) (by lia);have ww:=N.lx (n'+1) (m:=m) (g:=g) (by lia);rw[show n'+1+2=n by lia]at aw ww
  have tt:∀ i,i<=j->aq T n td [.int ((2*j+m+2:Nat):Int),.int (g:Nat),.int ((2*i:Nat):Int)]=some (.int (Td (2*j+m+2) g (2*i):Nat)):=fun i hi=>by
   have:=N.Bx n' (m:=2*j+m+2) (g:=g) (w:=2*i) (by lia) (by lia);rw[<-hn']at this;exact this
  have tj:Td (2*j+m+2) g (2*j)=Wy (2*j) 0*Wy m g:=by
   unfold Td;rw[show 2*j+m+2-2*j-2=m by lia]
  have kl:k*Wy m g+l<Wy (2*j) 0*Wy m g:=by
   have:k*Wy m g+Wy m g<=Wy (2*j) 0*Wy m g:=by
    rw[<-Nat.succ_mul];exact Nat.mul_le_mul_right _ b1
   lia
  generalize hA:Ah (2*j+m+2) g=A at aw ⊢
  have wh:∀ d i,i+d=j->∀ n2,whF (fun σ=>(ev (aq T n) σ (.cmp .ge (.var 3) (.bin .add (.var 4) (.call td (.cons (.var 1) (.cons (.var 2) (.cons (.var 5) .nil))))))).bind truth) (ai (aq T n) [] (fI hf wy td)) (n2+d+1)
    [some (.int (a:Nat)),some (.int ((2*j+m+2:Nat):Int)),some (.int (g:Nat)),some (.int ((A+Sm (2*j+m+2) g j+k*Wy m g+l:Nat):Int)),some (.int ((A+Sm (2*j+m+2) g i:Nat):Int)),some (.int ((2*i:Nat):Int)),none,none,none,none,none] =
    some (.nx,[some (.int (a:Nat)),some (.int ((2*j+m+2:Nat):Int)),some (.int (g:Nat)),some (.int ((A+Sm (2*j+m+2) g j+k*Wy m g+l:Nat):Int)),some (.int ((A+Sm (2*j+m+2) g j:Nat):Int)),some (.int ((2*j:Nat):Int)),none,none,none,none,none]):=by
   intro d
   induction d with
   |zero=>
    intro i hi n2
    obtain rfl:i=j:=by lia
    have te:=aJ (aA (cl:=aq T n) (k:=false) (aa (i:=3) (σ:=[some (.int (a:Nat)),some (.int ((2*i+m+2:Nat):Int)),some (.int (g:Nat)),some (.int ((A+Sm (2*i+m+2) g i+k*Wy m g+l:Nat):Int)),some (.int ((A+Sm (2*i+m+2) g i:Nat):Int)),some (.int ((2*i:Nat):Int)),none,none,none,none,none]) rfl) (ak (aa (i:=4) rfl) (jD (aa (i:=1) rfl) (aa (i:=2) rfl) (aa (i:=5) rfl) (tt i (Nat.le_refl _))) bj) (by rw[qF,tj,decide_eq_false (by lia)]));rw[whF,te];rfl
   |succ d ihd=>
    intro i hi n2;have mo:=pT (2*j+m+2) g (i:=i+1) (j:=j) (by lia)
    have sm:Sm (2*j+m+2) g (i+1)=Sm (2*j+m+2) g i+Td (2*j+m+2) g (2*i):=by rw[Sm]
    have te:=aJ (aA (cl:=aq T n) (k:=true) (aa (i:=3) (σ:=[some (.int (a:Nat)),some (.int ((2*j+m+2:Nat):Int)),some (.int (g:Nat)),some (.int ((A+Sm (2*j+m+2) g j+k*Wy m g+l:Nat):Int)),some (.int ((A+Sm (2*j+m+2) g i:Nat):Int)),some (.int ((2*i:Nat):Int)),none,none,none,none,none]) rfl) (ak (aa (i:=4) rfl) (jD (aa (i:=1) rfl) (aa (i:=2) rfl) (aa (i:=5) rfl) (tt i (by lia))) bj) (by rw[qF,decide_eq_true (by lia)]));have bd:=jG (cl:=aq T n) (M:=[]) (i:=4) (o:=.add) (r:=.cons (.aug 5 .add (.cst (.int 2))) .nil) (e:=.call td (.cons (.var 1) (.cons (.var 2) (.cons (.var 5) .nil)))) (σ:=[some (.int (a:Nat)),some (.int ((2*j+m+2:Nat):Int)),some (.int (g:Nat)),some (.int ((A+Sm (2*j+m+2) g j+k*Wy m g+l:Nat):Int)),some (.int ((A+Sm (2*j+m+2) g i:Nat):Int)),some (.int ((2*i:Nat):Int)),none,none,none,none,none]) rfl (jD (aa rfl) (aa rfl) (aa rfl) (tt i (by lia))) bj (jG (i:=5) rfl ag bj aU);rw[show((A+Sm (2*j+m+2) g i:Nat):Int)+((Td (2*j+m+2) g (2*i):Nat):Int)=((A+Sm (2*j+m+2) g (i+1):Nat):Int) by rw[sm];lia,show((2*i:Nat):Int)+2=((2*(i+1):Nat):Int) by lia]at bd;have:=ihd (i+1) (by lia) n2;rw[show n2+(d+1)+1=n2+d+1+1 by lia,whF,te,Option.bind_some,if_pos rfl,show ai (aq T n) [] (fI hf wy td) _=_ from bd,Option.bind_some];exact this
  have wh:=wh j 0 (by lia) (most-j-1);rw[show most-j-1+j+1=most by unfold most;lia]at wh
  have wp:0<Wy m g:=by lia
  have ws:=gM (m:=m) (g:=g) (by lia)
  have df:((A+Sm (2*j+m+2) g j+k*Wy m g+l:Nat):Int)-((A+Sm (2*j+m+2) g j:Nat):Int)=((k*Wy m g+l:Nat):Int):=by lia
  have dv:((k*Wy m g+l:Nat):Int) / ((Wy m g:Nat):Int)=(k:Nat):=by
   rw[<-Int.natCast_ediv,Nat.mul_comm,Nat.mul_add_div wp,Nat.div_eq_of_lt b2,Nat.add_zero]
  have dm:((k*Wy m g+l:Nat):Int)%((Wy m g:Nat):Int)=(l:Nat):=by
   rw[<-Int.natCast_emod,Nat.mul_comm,Nat.mul_add_mod,Nat.mod_eq_of_lt b2]
  have tp:∀ (xs ys:List Nat),xs.length+ys.length<=100->0<xs.length->aQ .add (.tup (L xs)) (.tup (L ys))=some (.tup (L (xs++ys))):=fun xs ys h1 h2=>by
   rw[qX (by rw[bN];exact h2) (by rw[bN,bN];unfold most;lia),gO]
  refine(ay N.uN).trans (aC rfl rfl (bp (aJ (aA (k:=false) (aa rfl) ag (by rw[d7,beq_eq_false_iff_ne.mpr (by lia)]))) (aK (d:=.int ((A+Sm (2*j+m+2) g 0:Nat):Int)) (cq (ak (aa rfl) ag (by rw[bf,show((2*j+m+2:Nat):Int)-1=((2*j+m+1:Nat):Int) by lia])) (ak (aa rfl) ag bf) (by rw[aw];rfl)) (cT _)
   (bp (aJ (aA (k:=false) (aa rfl) (aa rfl) (by rw[cw,decide_eq_false (by rw[Sm];lia)]))) (aK (d:=.int ((2*0:Nat):Int)) ag (cT _) (zD wh
   (aK (d:=.int ((a+2*j+1:Nat):Int)) (ak (ak (aa rfl) (aa rfl) bj) ag bj) (cT _) (aK (d:=.int (m:Nat)) (ak (ak (aa rfl) (aa rfl) bf) ag (by rw[bf,show((2*j+m+2:Nat):Int)-((2*j:Nat):Int)-2=((m:Nat):Int) by lia])) (cT _)
   (nX (Dz (ak (aa rfl) (aa rfl) (by rw[bf,df])) (cq (aa rfl) (aa rfl) ww) (by lia) (by lia)) rfl rfl (by rw[dv,dm];rfl)
   (aK (iO (ak (aa rfl) ag bj) (aa rfl) ag (aa rfl) ih1) (Cg ys) (aE (ak (ak (ak (x:=.tup (L [a+2*j+1])) (bB (ar (aa rfl) aI)) (aa rfl) (tp [a+2*j+1] ys (by simp;lia) (by simp))) (y:=.tup (L [a])) (bB (ar (aa rfl) aI)) (tp ([a+2*j+1]++ys) [a] (by simp;lia) (by simp))) (iO (ak (aa rfl) ag bj) (aa rfl) (aa rfl) (aa rfl) ih2) ((tp ([a+2*j+1]++ys++[a]) zs (by simp;lia) (by simp)).trans (by rw[show [a+2*j+1]++ys++[a]++zs=(a+2*j+1)::(ys++a::zs) by simp]))) (mF _))))))))))))
end
end RM
set_option maxHeartbeats 1000000
namespace RM
open RL RT
section
variable{cl:Cl}{n:Nat}{f h:List Nat}
end
section
variable{T:List Fn}{nu pc pa nb un if' cf po rp ir mv hf nf td wy ch cn ih chf go to hmh ho hnm cp n:Nat}{h:List Nat}
end
end RM
set_option maxHeartbeats 1000000
namespace RM
open RL RT
abbrev HfA(xs:List Int):Prop:=∃ n h,1<=n/\n<=10/\Hf n h/\LI xs=L h
def uH:∀ {a b:List Int},LI a=LI b->a=b
 | [],[],_=>rfl
 | [],b::r,h=>by cases h
 | a::r,[],h=>by cases h
 | a::r,b::t,h=>by
  have h:D.int a::LI r=D.int b::LI t:=h;injection h with h1 h2;injection h1 with h1;rw[h1,uH h2]
def Hf.mid(H:Hf n h){p i:Nat}(hp:p<n)(h1:p<i)(h2:i<at' h p):p<at' h i/\at' h i<at' h p/\at' h i≠i:=by
 have l:=H.lt p hp;have k:=H.nx p i h1 h2 l;have li:=H.lt i (by lia);have ii:=H.inv i (by lia);have ip:=H.inv p hp
 have e1:at' h i≠at' h p:=fun z=>by rw[z,ip]at ii;lia
 have e2:at' h i≠p:=fun z=>by rw[z]at ii;lia
 refine⟨?_,by lia,fun z=>k (.inr z)⟩;rcases Nat.lt_or_ge p (at' h i)with z | z
 ·exact z
 ·exact absurd (.inl (by rw[ii];lia)) (H.nx (at' h i) p (by lia) (by rw[ii];lia) (by rw[ii];lia))
section
def u9{cl:Cl}{xs:List Int}(hm:xs.length<=1000):∃ b:Bool,evF cl eT [.tup (LI xs)]=some (.bl b)/\(b=true↔HfA xs):=by
 have ln:=jY xs
 have hlen:HfA xs->1<=xs.length/\xs.length<=10:=fun⟨n,h,h1,h2,H,e⟩=>by
  have:=congrArg List.length e;rw[jN,bN,H.len]at this;lia
 by_cases c:1<=xs.length/\xs.length<=10
 ·have g0:∀ {res:Option (Out × St)} {r:Ss},ai cl [] r [some (.tup (LI xs)),some (.int (xs.length:Nat)),none,none,none]=res->ai cl [] (.cons (.asg 1 (.bi .len (.var 0))) (.cons (.ife (.or (.cmp .lt (.var 1) (.cst (.int 1))) (.cmp .gt (.var 1) (.cst (.int 10)))) (.cons (.ret (.cst (.bl false))) .nil) .nil) r)) [some (.tup (LI xs)),none,none,none,none]=res:=fun h =>
   aK (bz (aa rfl) ln) rfl (bp (aJ (dG (aA (aa rfl) ag (by rw[cw,decide_eq_false (by lia)])) (aA (aa rfl) ag (by rw[iG,decide_eq_false (by lia)])))) h)
  have st:=i7 (B:=¬ HfA xs) (f:=ai cl [] cL) (tg:=[2,3]) (d:=.bl false) (prI xs) (fun _=>rfl)
   (fun u σ=>∃ o2 o3,σ=[some (.tup (LI xs)),some (.int (xs.length:Nat)),o2,o3,none]/\∀ q∈u,nb xs q=true)
   (List.range xs.length) [] [some (.tup (LI xs)),some (.int (xs.length:Nat)),none,none,none] (by
    rintro u p v σ hu ⟨o4,o5,rfl,ok⟩
    have hp:p<xs.length:=by
     have:p∈List.range xs.length:=by rw[List.nil_append]at hu;rw[hu];simp
     exact List.mem_range.mp this
    have bad:nb xs p=false->¬ HfA xs:=fun z ⟨n,h,h1,h2,H,e⟩=>by
     have:=kf H.len H.lt H.inv;rw[BV]at e;rw[<-uH e,List.all_eq_true]at this;have:=this p (List.mem_range.mpr hp);rw[z]at this;cases this
    have fl:ev cl [some (.tup (LI xs)),some (.int (xs.length:Nat)),some (.int (p:Nat)),some (.int (xi xs p)),none] (.or (.not (.chain .le .lt (.cst (.int 0)) (.var 3) (.var 1))) (.cmp .ne (.ix (.var 0) (.var 3)) (.var 2)))=some (.bl true)->∃ σ2,(aW [2,3] (prI xs p) [some (.tup (LI xs)),some (.int (xs.length:Nat)),o4,o5,none]).bind (ai cl [] cL)=some (.rt (.bl false),σ2):=fun h =>
     ⟨_,show ai cl [] cL [some (.tup (LI xs)),some (.int (xs.length:Nat)),some (.int (p:Nat)),some (.int (xi xs p)),none]=some (.rt (.bl false),_)from bE (aJ h) (aE ag rfl)⟩
    by_cases c:0<=xi xs p/\xi xs p<xs.length
    ·have a1:ev cl [some (.tup (LI xs)),some (.int (xs.length:Nat)),some (.int (p:Nat)),some (.int (xi xs p)),none] (.not (.chain .le .lt (.cst (.int 0)) (.var 3) (.var 1)))=some (.bl false):=bF (k:=true) (dO ag (aa rfl) (aa rfl) (by rw[gp,decide_eq_true c.1]) (by rw[cw,decide_eq_true c.2]));have i2:=qO (xs:=xs) (p:=(xi xs p).toNat) (by lia);rw[Int.toNat_of_nonneg c.1]at i2;by_cases c2:xi xs (xi xs p).toNat=p
     ·refine .inl ⟨_,show ai cl [] cL [some (.tup (LI xs)),some (.int (xs.length:Nat)),some (.int (p:Nat)),some (.int (xi xs p)),none]=some (.nx,_)from bp (aJ (dG a1 (aA (f9 (aa rfl) (aa rfl) i2) (aa rfl) (by rw[zP,c2,beq_self_eq_true];rfl)))) aU,_,_,rfl,fun q hq=>?_⟩;rcases List.mem_append.mp hq with hq | hq
      ·exact ok q hq
      ·rw[List.mem_singleton.mp hq];unfold nb;rw[decide_eq_true c,decide_eq_true c2];rfl
     ·exact .inr ⟨bad (by unfold nb;rw[decide_eq_false c2,Bool.and_false]),fl (dG a1 (aA (f9 (aa rfl) (aa rfl) i2) (aa rfl) (by rw[zP,beq_eq_false_iff_ne.mpr c2];rfl)))⟩
    ·refine .inr ⟨bad (by unfold nb;rw[decide_eq_false c,Bool.false_and]),fl (jj (bF (k:=false) ?_))⟩;by_cases c1:0<=xi xs p
     ·exact dO ag (aa rfl) (aa rfl) (by rw[gp,decide_eq_true c1]) (by rw[cw,decide_eq_false (fun z=>c ⟨c1,z⟩)])
     ·exact gF ag (aa rfl) (by rw[gp,decide_eq_false c1])) ⟨_,_,rfl,fun q hq=>by cases hq⟩
  rw[<-xS]at st
  rcases st with⟨σ',e,o4,o5,rfl,ok⟩ | ⟨nh,σ',e⟩
  ·rw[List.nil_append]at ok;obtain⟨f,ef,fl,fp⟩:=yx (xs:=xs) (List.all_eq_true.mpr fun q hq=>ok q hq);have en:=mY fl
   have hx:HfA xs->Hf xs.length f:=fun⟨n,h,h1,h2,H,e⟩=>by
    have hl:=congrArg List.length e;rw[jN,bN,H.len]at hl;rw[mz (ef.symm.trans e),hl];exact H
   have st2:=i7 (B:=¬ HfA xs) (f:=ai cl [] dh) (tg:=[2,3]) (d:=.bl false) (pr f) (fun _=>rfl)
    (fun u σ=>∃ o2 o3 o4,σ=[some (.tup (LI xs)),some (.int (xs.length:Nat)),o2,o3,o4]/\∀ p∈u,∀ i,p<i->i<at' f p->at' f i<at' f p/\at' f i≠i)
    (List.range xs.length) [] [some (.tup (LI xs)),some (.int (xs.length:Nat)),o4,o5,none] (by
     rintro u p v σ hu ⟨o2,o3,o4,rfl,ok⟩
     have hp:p<xs.length:=by
      have:p∈List.range xs.length:=by rw[List.nil_append]at hu;rw[hu];simp
      exact List.mem_range.mp this
     have lp:=(fp p hp).1
     have inn:=i7 (B:=¬ HfA xs) (f:=ai cl [] cH) (tg:=[4]) (d:=.bl false) (fun i:Nat=>D.int (i:Nat)) (fun _=>rfl)
      (fun u σ=>∃ o4,σ=[some (.tup (LI xs)),some (.int (xs.length:Nat)),some (.int (p:Nat)),some (.int (at' f p:Nat)),o4]/\∀ i∈u,at' f i<at' f p/\at' f i≠i)
      (List.range' (p+1) (at' f p-(p+1))) [] [some (.tup (LI xs)),some (.int (xs.length:Nat)),some (.int (p:Nat)),some (.int (at' f p:Nat)),o4] (by
       rintro u i v σ hu ⟨o4,rfl,ok⟩
       have hi:p+1<=i/\i<at' f p:=by
        have:i∈List.range' (p+1) (at' f p-(p+1)):=by rw[List.nil_append]at hu;rw[hu];simp
        rw[List.mem_range'_1]at this;lia
       have xi':ev cl [some (.tup (LI xs)),some (.int (xs.length:Nat)),some (.int (p:Nat)),some (.int (at' f p:Nat)),some (.int (i:Nat))] (.ix (.var 0) (.var 4))=some (.int (at' f i:Nat)):=f9 (aa rfl) (aa rfl) (by rw[ef];exact mR (by lia))
       have bad:(ev cl [some (.tup (LI xs)),some (.int (xs.length:Nat)),some (.int (p:Nat)),some (.int (at' f p:Nat)),some (.int (i:Nat))] (.or (.not (.chain .lt .lt (.var 2) (.ix (.var 0) (.var 4)) (.var 3))) (.cmp .eq (.ix (.var 0) (.var 4)) (.var 4)))).bind truth=some true->∃ σ2,(aW [4] (D.int (i:Nat)) [some (.tup (LI xs)),some (.int (xs.length:Nat)),some (.int (p:Nat)),some (.int (at' f p:Nat)),o4]).bind (ai cl [] cH)=some (.rt (.bl false),σ2):=fun h =>
        ⟨_,show ai cl [] cH [some (.tup (LI xs)),some (.int (xs.length:Nat)),some (.int (p:Nat)),some (.int (at' f p:Nat)),some (.int (i:Nat))]=some (.rt (.bl false),_)from bE h (aE ag rfl)⟩
       by_cases k1:p<at' f i/\at' f i<at' f p
       ·have a1:ev cl [some (.tup (LI xs)),some (.int (xs.length:Nat)),some (.int (p:Nat)),some (.int (at' f p:Nat)),some (.int (i:Nat))] (.not (.chain .lt .lt (.var 2) (.ix (.var 0) (.var 4)) (.var 3)))=some (.bl false):=bF (k:=true) (dO (aa rfl) xi' (aa rfl) (by rw[cw,decide_eq_true (by lia)]) (by rw[cw,decide_eq_true (by lia)]));by_cases k2:at' f i=i
        ·exact .inr ⟨fun z=>((hx z).mid hp (by lia) hi.2).2.2 k2,bad (aJ (dG a1 (aA xi' (aa rfl) (by rw[d7,k2,beq_self_eq_true]))))⟩
        ·refine .inl ⟨_,show ai cl [] cH [some (.tup (LI xs)),some (.int (xs.length:Nat)),some (.int (p:Nat)),some (.int (at' f p:Nat)),some (.int (i:Nat))]=some (.nx,_)from bp (aJ (dG a1 (aA xi' (aa rfl) (by rw[d7,beq_eq_false_iff_ne.mpr (by lia)])))) aU,_,rfl,fun q hq=>?_⟩;rcases List.mem_append.mp hq with hq | hq
         ·exact ok q hq
         ·rw[List.mem_singleton.mp hq];exact⟨k1.2,k2⟩
       ·refine .inr ⟨fun z=>k1 ⟨((hx z).mid hp (by lia) hi.2).1,((hx z).mid hp (by lia) hi.2).2.1⟩,bad (aJ (jj (bF (k:=false) ?_)))⟩;by_cases k3:p<at' f i
        ·exact dO (aa rfl) xi' (aa rfl) (by rw[cw,decide_eq_true (by lia)]) (by rw[cw,decide_eq_false (by lia)])
        ·exact gF (aa rfl) xi' (by rw[cw,decide_eq_false (by lia)])) ⟨_,rfl,fun q hq=>by cases hq⟩
     have rg:bA cl [some (.tup (LI xs)),some (.int (xs.length:Nat)),some (.int (p:Nat)),some (.int (at' f p:Nat)),o4] (.rng2 (.bin .add (.var 2) (.cst (.int 1))) (.var 3))=some ((List.range' (p+1) (at' f p-(p+1))).map fun i:Nat=>D.int (i:Nat)):=zo (ak (aa rfl) ag (show _=some (.int ((p+1:Nat):Int))from rfl)) (aa rfl) (lX (by lia) (by lia))
     rcases inn with⟨σ2,e2,o4',rfl,ok2⟩ | ⟨nh,σ2,e2⟩
     ·refine .inl ⟨_,show ai cl [] dh [some (.tup (LI xs)),some (.int (xs.length:Nat)),some (.int (p:Nat)),some (.int (at' f p:Nat)),o4]=some (.nx,_)from d9 rg e2 aU,_,_,_,rfl,fun q hq i h1 h2=>?_⟩;rcases List.mem_append.mp hq with hq | hq
      ·exact ok q hq i h1 h2
      ·rw[List.mem_singleton.mp hq]at h1 h2 ⊢;exact ok2 i (by rw[List.nil_append,List.mem_range'_1];lia)
     ·exact .inr ⟨nh,_,show ai cl [] dh [some (.tup (LI xs)),some (.int (xs.length:Nat)),some (.int (p:Nat)),some (.int (at' f p:Nat)),o4]=some (.rt (.bl false),_)from iT rg e2⟩) ⟨_,_,_,rfl,fun q hq=>by cases hq⟩
   rw[<-en,<-ef]at st2
   rcases st2 with⟨σ',e',o2,o3,o4,rfl,ok2⟩ | ⟨nh,σ',e'⟩
   ·refine⟨true,aC rfl rfl (g0 (d9 (fO (aa rfl) rfl) e (d9 (fO (aa rfl) rfl) e' (aE ag rfl)))),fun _=>⟨xs.length,f,c.1,c.2,⟨fl,fun q hq=>(fp q hq).1,fun q hq=>(fp q hq).2,fun q q' h1 h2 h3 z=>?_⟩,ef⟩,fun _=>rfl⟩
    have hq:q<xs.length:=by
     rcases Nat.lt_or_ge q xs.length with w | w
     ·exact w
     ·rw[zW (by rw[fl];exact w)]at h2;lia
    have:=ok2 q (by rw[List.nil_append];exact List.mem_range.mpr hq) q' h1 h2;lia
   ·exact⟨false,aC rfl rfl (g0 (d9 (fO (aa rfl) rfl) e (iT (fO (aa rfl) rfl) e'))),(fun z=>by cases z),fun z=>absurd z nh⟩
  ·exact⟨false,aC rfl rfl (g0 (iT (fO (aa rfl) rfl) e)),(fun z=>by cases z),fun z=>absurd z nh⟩
 ·refine⟨false,aC rfl rfl (aK (bz (aa rfl) ln) rfl (bE (aJ ?_) (aE ag rfl))),(fun z=>by cases z),fun z=>absurd (hlen z) c⟩;by_cases c1:xs.length<1
  ·exact jj (aA (aa rfl) ag (by rw[cw,decide_eq_true (by lia)]))
  ·exact dG (aA (aa rfl) ag (by rw[cw,decide_eq_false (by lia)])) (aA (aa rfl) ag (by rw[iG,decide_eq_true (by lia)]))
end
end RM
set_option maxHeartbeats 1000000
namespace RM
open RL RT
def Sg.good{H:List Nat}{a m g k:Nat}{xs:List Nat}(s:Sg a m g xs k):(∀ i,i<m->xs[i]?=some (at' H (a+i))) ->
  (∀ q,a<=q->q<a+m->a<=at' H q/\at' H q<a+m)/\(∀ q,a<=q->q<a+m->at' H (at' H q)=q)/\(∀ q q',a<=q->q<q'->q'<at' H q->at' H q<a+m->¬ (at' H q<at' H q'\/at' H q'=q'))/\(g=0->∀ q,a<=q->q<a+m->at' H q≠q):=by
 induction s with
 | nil a=>intro _;exact⟨fun q _ _=>by omega,fun q _ _=>by omega,fun q q' h1 h2 h3 h4=>by
   intro _
   omega,fun _ q _ _=>by omega⟩
 |@fix a m g k xs s ih=>
  intro hx
  have h0:at' H a=a:=by have:=hx 0 (by omega);simp at this;exact this.symm
  obtain⟨i1,i2,i3,_⟩:=ih (fun i hi=>by have:=hx (i+1) (by omega);rw[List.getElem?_cons_succ]at this;rw[this,show a+(i+1)=a+1+i by omega]);refine⟨fun q h h'=>?_,fun q h h'=>?_,fun q q' h h2 h3 h4=>?_,fun z=>by omega⟩
  ·by_cases c:q=a
   ·rw[c,h0];omega
   ·have:=i1 q (by omega) (by omega);omega
  ·by_cases c:q=a
   ·rw[c,h0,h0]
   ·exact i2 q (by omega) (by omega)
  ·by_cases c:q=a
   ·rw[c,h0]at h3;omega
   ·exact i3 q q' (by omega) h2 h3 (by omega)
 |@tie a j m g k l ys zs s1 s2 ih1 ih2=>
  intro hx;have len1:=s1.len
  have h0:at' H a=a+2*j+1:=by have:=hx 0 (by omega);simp at this;exact this.symm
  have hb:at' H (a+2*j+1)=a:=by
   have:=hx (2*j+1) (by omega);rw[List.getElem?_cons_succ,List.getElem?_append_right (by omega),show 2*j-ys.length=0 by omega]at this;simp at this;rw[show a+2*j+1=a+(2*j+1) by omega];exact this.symm
  obtain⟨i1,i2,i3,i4⟩:=ih1 (fun i hi=>by
   have:=hx (i+1) (by omega);rw[List.getElem?_cons_succ,List.getElem?_append_left (by omega)]at this
   rw[this,show a+(i+1)=a+1+i by omega])
  obtain⟨j1,j2,j3,j4⟩:=ih2 (fun i hi=>by
   have:=hx (i+2*j+2) (by omega);rw[show i+2*j+2=(i+2*j+1)+1 by omega,List.getElem?_cons_succ,List.getElem?_append_right (by omega),show i+2*j+1-ys.length=i+1 by omega,List.getElem?_cons_succ]at this
   rw[this,show a+(i+2*j+1+1)=a+2*j+2+i by omega])
  have k4:=i4 rfl
  have four:∀ q,a<=q->q<a+(2*j+m+2)->q=a\/q=a+2*j+1\/(a+1<=q/\q<a+1+2*j)\/(a+2*j+2<=q/\q<a+2*j+2+m):=fun q _ _=>by omega
  refine⟨fun q h h'=>?_,fun q h h'=>?_,fun q q' h h2 h3 h4=>?_,fun z q h h'=>?_⟩
  ·rcases four q h h' with rfl | rfl | ⟨c,c'⟩ | ⟨c,c'⟩
   ·rw[h0];omega
   ·rw[hb];omega
   ·have:=i1 q c c';omega
   ·have:=j1 q c c';omega
  ·rcases four q h h' with rfl | rfl | ⟨c,c'⟩ | ⟨c,c'⟩
   ·rw[h0,hb]
   ·rw[hb,h0]
   ·exact i2 q c c'
   ·exact j2 q c c'
  ·rcases four q h (by omega)with rfl | rfl | ⟨c,c'⟩ | ⟨c,c'⟩
   ·rw[h0]at h3 ⊢;have x1:=i1 q' (by omega) (by omega);have x2:=k4 q' (by omega) (by omega);intro w;omega
   ·rw[hb]at h3;omega
   ·have:=i1 q c c';exact i3 q q' c h2 h3 (by omega)
   ·exact j3 q q' c h2 h3 (by omega)
  ·rcases four q h h' with rfl | rfl | ⟨c,c'⟩ | ⟨c,c'⟩
   ·rw[h0];omega
   ·rw[hb];omega
   ·exact k4 q c c'
   ·exact j4 z q c c'
def Sg.hf{n g k:Nat}{xs:List Nat}(s:Sg 0 n g xs k):Hf n xs/\(fx n xs).length=g:=by
 have l:=s.len;obtain⟨h1,h2,h3,_⟩:=s.good (H:=xs) (fun i hi=>by rw[Nat.zero_add];exact fv (by omega));refine⟨⟨l,fun q hq=>?_,fun q hq=>h2 q (Nat.zero_le _) (by omega),fun q q' a b c=>h3 q q' (Nat.zero_le _) a b (by omega)⟩,?_⟩
 ·have:=h1 q (Nat.zero_le _) (by omega);omega
 ·have c:=s.bQ;rw[<-Cy l,pM,<-List.range_eq_range']at c;exact c
end RM
set_option maxHeartbeats 1000000
namespace RL
open PySem (Str)
abbrev Rx(cl:Cl)(σ:St)(e:E)(c:Str):Prop:=ev cl σ e=none/\evX cl σ e=some c
abbrev Rr(cl:Cl)(M:List Nat)(b:Ss)(σ:St)(c:Str)(σ':St):Prop:=ai cl M b σ=none/\bI cl M b σ=some (c,σ')
abbrev Rc(cl:Cl)(f:Nat)(ds:List D)(c:Str):Prop:=cl f ds=none/\cl (f+1000) ds=some (.str c)
section
def jE(h:evS cl M s σ=none)(k:la cl M s σ=some (c,σ')):Rr cl M (.cons s r) σ c σ':=by
 refine⟨?_,?_⟩
 ·rw[ai,h];rfl
 ·rw[bI,h];exact k
def uj(h:evs cl σ ps=some ds)(w:ds.all written=true):Rr cl M (.cons (.rais c ps) r) σ c σ:=jE (by rw[Bn]) (by show(evs cl σ ps).bind _=_;rw[h,Option.bind_some,if_pos w])
def m9(h:Rx cl σ e c):Rr cl M (.cons (.exc e) r) σ c σ:=jE (by rw[wH,h.1];rfl) (by show(evX cl σ e).map _=_;rw[h.2];rfl)
def D4(h:Rx cl σ e c):Rr cl M (.cons (.ret e) r) σ c σ:=jE (by rw[my,h.1];rfl) (by show(evX cl σ e).map _=_;rw[h.2];rfl)
def xg(h:(ev cl σ t).bind truth=some true)(k:Rr cl M a σ c σ'):Rr cl M (.cons (.ife t a b) r) σ c σ':=jE (by rw[ji,h];exact k.1) (by show((ev cl σ t).bind truth).bind _=_;rw[h];exact k.2)
def mS(h:evs cl σ es=some ds)(k:Rc cl f ds c):Rx cl σ (.call f es) c:=by
 refine⟨?_,?_⟩
 ·rw[gD,h];exact k.1
 ·show(match evs cl σ es with | some ds=>clX cl f ds | none=>iC cl σ es)=_;rw[h];show clX cl f ds=_;unfold clX;rw[k.2];rfl
def vo(h:ev cl σ e=some d)(k:Rc cl f [d] c):Rx cl σ (.call f (.cons e .nil)) c:=mS (ar h aI) k
def DN(h:ev cl σ e=some d)(h':ev cl σ e'=some d')(k:Rc cl f [d,d'] c):Rx cl σ (.call f (.cons e (.cons e' .nil))) c:=mS (ar h (ar h' aI)) k
def qg(h1:Rr cl M b σ n σ1)(hs:fM n c=true)(h2:ai cl M h (σ1.set i (some (.exc n)))=some (.nx,σ2))(k:ai cl M r (σ2.set i none)=res):ai cl M (.cons (.tryc b c i h) r) σ=res:=dS (by
 rw[sx,h1.1];show(bI cl M b σ).bind _=_;rw[h1.2,Option.bind_some,if_pos hs,h2]
 rfl) k
end
def jM(h:T[f]?=some fn)(hT:T.length<=1000)(hl:ds.length=fn.ps)(hm:fn.mp=[])(k:Rr (aq T n) fn.M fn.body (ds.map some++List.replicate (fn.nn-fn.ps) none) c σ'):Rc (aq T (n+1)) f ds c:=by
 refine⟨?_,?_⟩
 ·rw[aq,h];show(if ds.length=fn.ps then _ else none)=none;rw[if_pos hl,k.1];rfl
 ·rw[aq,List.getElem?_eq_none (by omega)];show(T[f+1000-1000]?).bind _=_;rw[Nat.add_sub_cancel,h,Option.bind_some,if_pos ⟨hl,hm⟩,k.2];rfl
end RL
namespace RT
open RL
abbrev gg:Fn :=
 ⟨1,5,[1],[],(.cons (.own 1 (.lst (.cons (.isx (.var 0) "BadPegs") (.cons (.isx (.var 0) "BadFrame") (.cons (.isx (.var 0) "BadHalf") (.cons (.isx (.var 0) "BadHook") .nil)))))) (.cons (.own 1 (.bin .add (.var 1) (.lst (.cons (.isx (.var 0) "BadName") (.cons (.isx (.var 0) "NoNumber") (.cons (.isx (.var 0) "NoFrame") (.cons (.isx (.var 0) "NoStack") .nil))))))) (.cons (.own 1 (.bin .add (.var 1) (.lst (.cons (.isx (.var 0) "NoPlace") (.cons (.isx (.var 0) "Taken") (.cons (.isx (.var 0) "Full") (.cons (.isx (.var 0) "NothingThere") .nil))))))) (.cons (.own 1 (.bin .add (.var 1) (.lst (.cons (.isx (.var 0) "BadTrade") (.cons (.isx (.var 0) "Hangs") (.cons (.isx (.var 0) "BadPage") .nil)))))) (.cons (.app 1 (.not (.isx (.var 0) "ValueError"))) (.cons (.asg 2 (.lst (.cons (.cst (.str "BadPegs")) (.cons (.cst (.str "BadFrame")) (.cons (.cst (.str "BadHalf")) (.cons (.cst (.str "BadHook")) (.cons (.cst (.str "BadName")) (.cons (.cst (.str "NoNumber")) (.cons (.cst (.str "NoFrame")) (.cons (.cst (.str "NoStack")) (.cons (.cst (.str "NoPlace")) .nil))))))))))) (.cons (.asg 2 (.bin .add (.var 2) (.lst (.cons (.cst (.str "Taken")) (.cons (.cst (.str "Full")) (.cons (.cst (.str "NothingThere")) (.cons (.cst (.str "BadTrade")) (.cons (.cst (.str "Hangs")) (.cons (.cst (.str "BadPage")) (.cons (.cst (.str "odd")) .nil)))))))))) (.cons (.ret (.join (.comp (.var 3) [3,4] (.zip (.var 2) (.var 1)) (.var 4)))) .nil))))))))⟩
end RT
namespace RM
open RL RT
def sf(h:c∈(["BadPegs", "BadFrame", "BadHalf", "BadHook", "BadName", "NoNumber", "NoFrame", "NoStack"]:List PySem.Str)):evF cl gg [.exc c]=some (.str c):=by
 simp only[List.mem_cons,List.not_mem_nil,or_false]at h;rcases h with rfl | rfl | rfl | rfl | rfl | rfl | rfl | rfl<;>rfl
end RM
set_option maxHeartbeats 1000000
namespace K19
open RL RT
abbrev eO(f_law_is_half:Nat):Ss :=
 (.cons (.app 4 (.tup (.cons (.bin .add (.var 5) (.tup (.cons (.var 3) .nil))) (.cons (.bin .add (.var 6) (.tup (.cons (.var 3) .nil))) .nil)))) (.cons (.ife (.cmp .ne (.var 6) (.tup .nil)) (.cons (.app 4 (.tup (.cons (.bin .add (.bin .add (.bin .add (.slT (.var 5) (.ix (.var 6) (.neg (.cst (.int 1))))) (.tup (.cons (.var 3) .nil))) (.slF (.var 5) (.bin .add (.ix (.var 6) (.neg (.cst (.int 1)))) (.cst (.int 1))))) (.tup (.cons (.ix (.var 6) (.neg (.cst (.int 1)))) .nil))) (.cons (.slT (.var 6) (.neg (.cst (.int 1)))) .nil)))) .nil) .nil) .nil))
abbrev eP(f_law_is_half:Nat):Ss :=
 (.opn 4 (.lst .nil) (.cons (.forr [5,6] (.seq (.var 2)) (eO f_law_is_half)) (.cls (.cons (.asg 2 (.var 4)) .nil))))
abbrev i0(f_law_is_half:Nat):Fn :=
 ⟨2,7,[],[],(.cons (.asg 2 (.lst (.cons (.tup (.cons (.tup .nil) (.cons (.tup .nil) .nil))) .nil))) (.cons (.forr [3] (.rng1 (.var 0)) (eP f_law_is_half)) (.cons (.asg 2 (.comp (.var 5) [5,6] (.seq (.var 2)) (.cmp .eq (.bi .len (.var 6)) (.var 1)))) (.cons (.ret (.bi .sortedT (.comp (.var 5) [5] (.seq (.var 2)) (.call f_law_is_half (.cons (.var 5) .nil))))) .nil))))⟩
abbrev ka(f_half_of f_law_kin:Nat):Fn :=
 ⟨3,5,[],[],(.cons (.asg 3 (.cst (.str ""))) (.cons (.tryc (.cons (.exc (.call f_half_of (.cons (.var 0) (.cons (.var 1) (.cons (.var 2) .nil))))) .nil) "RibbonError" 4 (.cons (.asg 3 (.call f_law_kin (.cons (.var 4) .nil))) .nil)) (.cons (.ret (.var 3)) .nil)))⟩
abbrev ik(f_half_number f_law_kin:Nat):Fn :=
 ⟨1,3,[],[],(.cons (.asg 1 (.cst (.str ""))) (.cons (.tryc (.cons (.exc (.call f_half_number (.cons (.var 0) .nil))) .nil) "RibbonError" 2 (.cons (.asg 1 (.call f_law_kin (.cons (.var 2) .nil))) .nil)) (.cons (.ret (.var 1)) .nil)))⟩
abbrev kg(f_law_refused f_law_word f_law_same f_half_number f_half_of f_how_many_halves f_law_halves f_law_digits:Nat):Ss :=
 (.cons (.ife (.not (.call f_law_same (.cons (.call f_half_of (.cons (.var 6) (.cons (.var 7) (.cons (.var 3) .nil)))) (.cons (.ix (.var 1) (.var 3)) .nil)))) (.cons (.ret (.cst (.bl false))) .nil) .nil) (.cons (.ife (.not (.call f_law_same (.cons (.call f_half_number (.cons (.ix (.var 1) (.var 3)) .nil)) (.cons (.var 3) .nil)))) (.cons (.ret (.cst (.bl false))) .nil) .nil) .nil))
abbrev wV(f_law_refused f_law_word f_law_same f_half_number f_half_of f_how_many_halves f_law_halves f_law_digits:Nat):Fn :=
 ⟨1,11,[],[],(.cons (.asg 0 (.slT (.var 0) (.cst (.int 63)))) (.cons (.unp [6,7,8,9] (.call f_law_digits (.cons (.var 0) (.cons (.cst (.int 0)) (.cons (.lst (.cons (.cst (.int 10)) (.cons (.cst (.int 14)) (.cons (.bin .pow (.cst (.int 10)) (.cst (.int 20))) (.cons (.bin .pow (.cst (.int 10)) (.cst (.int 20))) .nil))))) .nil))))) (.cons (.unp [6,7] (.tup (.cons (.bin .add (.cst (.int 1)) (.var 6)) (.cons (.bin .sub (.var 7) (.cst (.int 2))) .nil)))) (.cons (.asg 1 (.call f_law_halves (.cons (.var 6) (.cons (.var 7) .nil)))) (.cons (.ife (.not (.call f_law_same (.cons (.call f_how_many_halves (.cons (.var 6) (.cons (.var 7) .nil))) (.cons (.bi .len (.var 1)) .nil)))) (.cons (.ret (.cst (.bl false))) .nil) .nil) (.cons (.asg 2 (.lst (.cons (.cst (.int 0)) (.cons (.bin .sub (.bi .len (.var 1)) (.cst (.int 1))) (.cons (.bin .mod (.var 8) (.max (.cst (.int 1)) (.bi .len (.var 1)))) (.cons (.bin .mod (.var 9) (.max (.cst (.int 1)) (.bi .len (.var 1)))) .nil)))))) (.cons (.forr [3] (.seq (.bin .mul (.var 2) (.bi .int (.cmp .ne (.var 1) (.lst .nil))))) (kg f_law_refused f_law_word f_law_same f_half_number f_half_of f_how_many_halves f_law_halves f_law_digits)) (.cons (.asg 4 (.compA (.call f_law_word (.cons (.var 6) (.cons (.var 7) (.cons (.var 3) .nil)))) [3] (.seq (.tup (.cons (.bin .sub (.cst (.int 0)) (.cst (.int 1))) (.cons (.bi .len (.var 1)) (.cons (.bin .add (.bi .len (.var 1)) (.var 9)) .nil))))))) (.cons (.asg 5 (.bin .add (.lst (.cons (.bin .add (.rngT (.bin .sub (.var 6) (.cst (.int 1)))) (.tup (.cons (.var 6) .nil))) .nil)) (.lst (.cons (.tup (.cons (.cst (.int 1)) .nil)) (.cons (.tup (.cons (.cst (.int 1)) (.cons (.cst (.int 1)) .nil))) (.cons (.tup (.cons (.cst (.int 2)) (.cons (.cst (.int 0)) .nil))) (.cons (.tup (.cons (.cst (.int 1)) (.cons (.cst (.int 2)) (.cons (.cst (.int 0)) .nil)))) (.cons (.tup (.cons (.cst (.int 2)) (.cons (.cst (.int 1)) (.cons (.cst (.int 0)) .nil)))) (.cons (.tup (.cons (.cst (.int 2)) (.cons (.cst (.int 3)) (.cons (.cst (.int 0)) (.cons (.cst (.int 1)) .nil))))) (.cons (.tup (.cons (.cst (.int 0)) (.cons (.cst (.int 3)) (.cons (.cst (.int 2)) (.cons (.cst (.int 1)) .nil))))) .nil)))))))))) (.cons (.ret (.and (.cmp .eq (.var 4) (.bin .mul (.lst (.cons (.cst (.str "NoNumber")) .nil)) (.cst (.int 3)))) (.cmp .eq (.compA (.call f_law_refused (.cons (.var 10) .nil)) [10] (.seq (.var 5))) (.bin .mul (.lst (.cons (.cst (.str "BadHalf")) .nil)) (.cst (.int 8)))))) .nil))))))))))⟩
abbrev T:List Fn:=[gj,dn 0,dP 1,fH 4,fJ 0,eg,iF 5 3 1,fC 6,fD 9 7,lj,eU 0 16 2,iK 13 18 10,eQ 14 8,jn 13 16 15,il 14 16 15,iu 16,i6 17,fU,dY 0,eT,gg,i5,iD 21,dR 22,cO 24,i0 19,ka 11 20,ik 12 20,wV 27 26 24 12 11 10 25 23]
open RM
abbrev stp(k:Nat)(q:List Nat × List Nat):List (List Nat × List Nat):=(q.1++[k],q.2++[k])::match q.2.getLast? with
 | none=>[]
 | some j=>[(q.1.take j++[k]++q.1.drop (j+1)++[j],q.2.dropLast)]
abbrev fnd:Nat->List (List Nat × List Nat)
 | 0=>[([],[])]
 | k+1=>(fnd k).flatMap (stp k)
abbrev hfB(h:List Nat):Bool:=(List.range h.length).all fun q=>Nat.blt (at' h q) h.length&&at' h (at' h q) == q&&(List.range h.length).all fun r=>!(Nat.blt q r&&Nat.blt r (at' h q)) || !(Nat.blt (at' h q) (at' h r) || at' h r == r)
abbrev sgN:Nat->Nat->List Nat->Option (Nat × Nat)
 | _,_,[]=>some (0,0)
 | 0,_,_=>none
 | f+1,a,x::r=>if x == a then(sgN f (a+1) r).map fun q=>(q.1+1,q.2)else if Nat.blt x a then none else match r.drop (x-a-1)with
  | b::zs=>if b == a&&((x-a-1)%2 == 0)then(sgN f (a+1) (r.take (x-a-1))).bind fun q=>if q.1 == 0 then(sgN f (x+1) zs).map fun s=>(s.1,Ah (r.length+1) s.1+Sm (r.length+1) s.1 ((x-a-1) / 2)+q.2*Wy zs.length s.1+s.2)else none else none
  | []=>none
end K19
set_option maxHeartbeats 1000000
namespace K19
open RL RT RM
def kj:∀ (f a:Nat) (xs:List Nat) (g k:Nat),sgN f a xs=some (g,k)->Sg a xs.length g xs k
 | f,a,[],g,k,h=>by
  have h:some (0,0)=some (g,k):=by cases f<;>exact h
  cases h;exact .nil a
 | 0,_,_::_,_,_,h=>by cases h
 | f+1,a,x::r,g,k,h=>by
  unfold sgN at h;by_cases c:(x == a)=true
  ·rw[if_pos c]at h
   have c:x=a:=by simpa using c
   subst c;obtain⟨⟨g',k'⟩,h1,h2⟩:=Option.map_eq_some_iff.mp h;cases h2;exact .fix (kj f (x+1) r g' k' h1)
  rw[if_neg c]at h
  have c:x≠a:=by simpa using c
  split at h
  ·cases h
  rename_i nb;have nb:¬ x<a:=fun z=>nb (by simpa using z);split at h
  ·rename_i b zs hz;split at h
   ·rename_i hb;rw[Bool.and_eq_true,beq_iff_eq,beq_iff_eq]at hb;obtain⟨rfl,hw⟩:=hb;obtain⟨⟨g1,k1⟩,h1,h⟩:=Option.bind_eq_some_iff.mp h;split at h
    ·rename_i hg
     have hg:g1=0:=by simpa using hg
     subst hg;obtain⟨⟨g2,k2⟩,h2,h⟩:=Option.map_eq_some_iff.mp h;cases h
     have lt:x-b-1<r.length:=by
      have:=congrArg List.length hz;rw[List.length_drop,List.length_cons]at this;omega
     obtain⟨j,hj⟩:∃ j,x-b-1=2*j:=⟨(x-b-1) / 2,by omega⟩
     have er:r=r.take (2*j)++b::zs:=by rw[<-hj,<-hz,List.take_append_drop]
     have s1:=kj f (b+1) _ _ _ h1;have s2:=kj f (x+1) _ _ _ h2;rw[hj]at s1
     have l1:(r.take (2*j)).length=2*j:=by rw[List.length_take];omega
     have lz:r.length=2*j+zs.length+1:=by
      have:=congrArg List.length er;rw[List.length_append,l1,List.length_cons]at this;omega
     rw[l1]at s1
     have ex:x=b+2*j+1:=by omega
     subst ex;have s:=Sg.tie (a:=b) (j:=j) s1 s2;rw[<-er]at s;rw[List.length_cons,lz,hj,show 2*j / 2=j by omega];exact s
    ·cases h
   ·cases h
  ·cases h
def zR{h:List Nat}(z:hfB h=true):Hf h.length h:=by
 have z:=List.all_eq_true.mp z
 have go:∀ q,q<h.length->at' h q<h.length/\at' h (at' h q)=q/\∀ r,r<h.length->q<r->r<at' h q->¬ (at' h q<at' h r\/at' h r=r):=fun q hq=>by
  have a:=z q (List.mem_range.mpr hq);rw[Bool.and_eq_true,Bool.and_eq_true,beq_iff_eq]at a;refine⟨by simpa using a.1.1,a.1.2,fun r hr h1 h2=>?_⟩;have b:=List.all_eq_true.mp a.2 r (List.mem_range.mpr hr)
  have e1:Nat.blt q r=true:=by simpa using h1
  have e2:Nat.blt r (at' h q)=true:=by simpa using h2
  rw[e1,e2]at b;have b:(!(Nat.blt (at' h q) (at' h r) || at' h r == r))=true:=b;rw[Bool.not_eq_true',Bool.or_eq_false_iff]at b;rintro(c | c)
  ·have:Nat.blt (at' h q) (at' h r)=true:=by simpa using c
   rw[this]at b;exact Bool.noConfusion b.1
  ·rw[c]at b;simp at b
 refine⟨rfl,fun q hq=>(go q hq).1,fun q hq=>(go q hq).2.1,fun q q' h1 h2 h3=>?_⟩
 have hq:q<h.length:=by omega
 exact(go q hq).2.2 q' (by omega) h1 h2
def BS:((List.range 11).all fun p=>(fnd p).all fun q=>q.1.length == p&&hfB q.1)=true:=by kernel_rfl
end K19
set_option maxHeartbeats 1000000
namespace RT
open RL
end RT
namespace RM
open RL RT
section
variable{cl:Cl}{n:Nat}{a b:List Nat}
end
end RM
set_option maxHeartbeats 1000000
namespace K19
open RL RT RM
section
variable{cl:Cl}{M:List Nat}{σ:St}
def zU(h:ev cl σ e=some d)(ok:(aS d&&aD e)=true)(k:iM cl M (j::M) r (σ.set j (some d))=res):ai cl M (.opn j e r) σ=res:=by
 show(ev cl σ e).bind _=_;rw[h,Option.bind_some,if_pos ok];exact k
def AV{N:List Nat}(h:bA cl σ it=some ds)(h1:aZ (ai cl N b) tg ds σ=some (.nx,σ'))(k:iM cl M N r σ'=res):iM cl M N (.cons (.forr tg it b) r) σ=res:=by
 show((bA cl σ it).bind _).bind _=_;rw[h,Option.bind_some,h1];exact k
end
abbrev pq(q:List Nat × List Nat):D:=.tup [.tup (L q.1),.tup (L q.2)]
def oX(q:List Nat × List Nat):(pq q).imm=true:=by simp[pq,D.imm,az,gZ]
def l8(a b:List Nat)(h:a.length+b.length<=1000):aQ .add (.tup (L a)) (.tup (L b))=some (.tup (L (a++b))):=by
 cases a with
 |nil=>
  rw[DW,if_neg fun z=>absurd z.2 (by decide),if_pos (show(L []).length=0 from rfl)];rfl
 |cons x a=>
  rw[qX (by simp[L]) (by rw[bN,bN];unfold most;omega)];simp[L]
def EB{t:List Nat}{j:Nat}(h:j<t.length):iL (.tup (L t)) (.int (j:Nat))=some (.tup (L (t.take j))):=by
 have e:cutAt (L t).length (j:Nat)=j:=by
  unfold cutAt;rw[if_pos (Int.natCast_nonneg j),Int.toNat_natCast,bN];omega
 show(if cutAt (L t).length (j:Nat)<(L t).length then _ else none)=_;rw[e,if_pos (by rw[bN];exact h),B9]
def E5{t:List Nat}{j:Nat}(h:j<t.length):kE (.tup (L t)) (.int ((j+1:Nat):Int))=some (.tup (L (t.drop (j+1)))):=by
 have e:cutAt (L t).length ((j+1:Nat):Int)=j+1:=by
  unfold cutAt;rw[if_pos (Int.natCast_nonneg _),Int.toNat_natCast,bN];omega
 show(if 0<cutAt (L t).length ((j+1:Nat):Int)then some (D.tup ((L t).drop (cutAt (L t).length ((j+1:Nat):Int))))else none)=_;rw[e,if_pos (by omega)];simp[L]
def zj(l:List Nat)(j:Nat):ixV (.tup (L (l++[j]))) (.int (-1))=some (.int (j:Nat))/\iL (.tup (L (l++[j]))) (.int (-1))=some (.tup (L l)):=by
 have n:(L (l++[j])).length=l.length+1:=by rw[bN];simp
 constructor
 ·show bR (L (l++[j])) (-1)=_;unfold bR;rw[if_neg (by decide),n,if_pos (by omega),show(-1+((l.length+1:Nat):Int)).toNat=l.length by omega];simp[L]
 ·have e:cutAt (L (l++[j])).length (-1)=l.length:=by
   unfold cutAt;rw[if_neg (by decide),n];omega
  show(if cutAt (L (l++[j])).length (-1)<(L (l++[j])).length then some (D.tup ((L (l++[j])).take (cutAt (L (l++[j])).length (-1))))else none)=_;rw[e,if_pos (by omega)];simp[L]
def xD{k:Nat}{q:List Nat × List Nat}(h:q.1.length=k/\(∀ j∈q.2,j<k)/\q.2.length<=k):∀ s∈stp k q,s.1.length=k+1/\(∀ j∈s.2,j<k+1)/\s.2.length<=k+1:=by
 obtain⟨t,l⟩:=q;obtain⟨h1,h2,h3⟩:=h;intro s hs;unfold stp at hs;dsimp only at h1 h2 h3 hs;rcases List.mem_cons.mp hs with rfl | hs
 ·exact⟨by simp[h1],fun j hj=>by rcases List.mem_append.mp hj with z | z;exact Nat.lt_succ_of_lt (h2 j z);rw[List.mem_singleton.mp z];omega,by simp;omega⟩
 ·split at hs
  ·cases hs
  ·rename_i j hj;rw[List.mem_singleton.mp hs];have jl:=h2 j (List.mem_of_getLast? hj);refine⟨by simp;omega,fun i hi=>Nat.lt_succ_of_lt (h2 i (List.dropLast_subset _ hi)),by simp;omega⟩
def pG:∀ (k:Nat),∀ q∈fnd k,q.1.length=k/\(∀ j∈q.2,j<k)/\q.2.length<=k
 | 0,q,h=>by
  rw[List.mem_singleton.mp h];exact⟨rfl,fun _ z=>(nomatch z),Nat.le_refl _⟩
 | k+1,q,h=>by
  obtain⟨r,h1,h2⟩:=List.mem_flatMap.mp h;exact xD (pG k r h1) q h2
section
variable{cl:Cl}{a0 a1 s2:Option D}
def Ax(l:List Nat)(j:Nat):bw .ne (.tup (L (l++[j]))) (.tup [])=some true:=by
 cases l<;>rfl
def Dr{k:Nat}{q:List Nat × List Nat}(h:q.1.length=k/\(∀ j∈q.2,j<k)/\q.2.length<=k)(hk:k<=20){ls:List D}(hl:ls.length<=5000)(o5 o6:Option D) :
  ∃ o5' o6',ai cl [4] (eO 19) [a0,a1,s2,some (.int (k:Nat)),some (.lst ls),some (.tup (L q.1)),some (.tup (L q.2))]=some (.nx,[a0,a1,s2,some (.int (k:Nat)),some (.lst (ls++(stp k q).map pq)),o5',o6']):=by
 obtain⟨t,l⟩:=q;obtain⟨h1,h2,h3⟩:=h;dsimp only at h1 h2 h3;refine⟨some (.tup (L t)),some (.tup (L l)),?_⟩;have k1:∀ {σ:St},(σ[3]?).bind id=some (.int (k:Nat))->ev cl σ (.tup (.cons (.var 3) .nil))=some (.tup (L [k])):=fun z=>bB (ar (aa z) aI);refine nz (bB (ar (ak (aa rfl) (k1 rfl) (l8 t [k] (by simp;omega))) (ar (ak (aa rfl) (k1 rfl) (l8 l [k] (by simp;omega))) aI))) rfl (oX (t++[k],l++[k])) (by unfold most;omega) ?_
 rcases List.eq_nil_or_concat l with rfl | ⟨l,j,rfl⟩
 ·exact bp (aJ (aA (aa rfl) (bB aI) rfl)) aU
 ·rw[List.concat_eq_append]at *
  have jl:j<t.length:=by rw[h1];exact h2 j (by simp)
  obtain⟨e1,e2⟩:=zj l j;have ij:∀ {σ:St},(σ[6]?).bind id=some (.tup (L (l++[j])))->ev cl σ (.ix (.var 6) (.neg (.cst (.int 1))))=some (.int (j:Nat)):=fun z=>f9 (aa z) (xc ag) e1
  have es:stp k (t,l++[j])=[(t++[k],l++[j]++[k]),(t.take j++[k]++t.drop (j+1)++[j],l)]:=by simp[stp]
  have e0:ls++[(t++[k],l++[j]++[k]),(t.take j++[k]++t.drop (j+1)++[j],l)].map pq=(ls++[pq (t++[k],l++[j]++[k])])++[pq (t.take j++[k]++t.drop (j+1)++[j],l)]:=by simp
  rw[es,e0]
  exact iN (aJ (aA (aa rfl) (bB aI) (Ax l j)))
   (nz (bB (ar (ak (ak (ak (qP (aa rfl) (ij rfl) (EB jl)) (k1 rfl) (l8 (t.take j) [k] (by simp;omega))) (Du (aa rfl) (ak (ij rfl) ag (d:=.int ((j+1:Nat):Int)) rfl) (E5 jl)) (l8 _ _ (by simp;omega))) (bB (ar (ij rfl) aI)) (l8 _ [j] (by simp;omega))) (ar (qP (aa rfl) (xc ag) e2) aI))) rfl (oX (t.take j++[k]++t.drop (j+1)++[j],l)) (by simp;unfold most;omega) aU) aU
def xv{k:Nat}(hk:k<=20):∀ (qs:List (List Nat × List Nat)) (ls:List D) (o5 o6:Option D),(∀ q∈qs,q.1.length=k/\(∀ j∈q.2,j<k)/\q.2.length<=k)->ls.length+2*qs.length<=4000 ->
  ∃ o5' o6',aZ (ai cl [4] (eO 19)) [5,6] (qs.map pq) [a0,a1,s2,some (.int (k:Nat)),some (.lst ls),o5,o6]=some (.nx,[a0,a1,s2,some (.int (k:Nat)),some (.lst (ls++(qs.flatMap (stp k)).map pq)),o5',o6'])
 | [],ls,o5,o6,_,_=>⟨o5,o6,by simp[aZ]⟩
 | q::qs,ls,o5,o6,h,hl=>by
  rw[List.length_cons]at hl;obtain⟨b5,b6,e⟩:=Dr (cl:=cl) (a0:=a0) (a1:=a1) (s2:=s2) (h q (.head _)) hk (ls:=ls) (by omega) o5 o6
  have sl:(stp k q).length<=2:=by
   unfold stp;split<;>simp
  obtain⟨c5,c6,e2⟩:=xv hk qs (ls++(stp k q).map pq) b5 b6 (fun q hq=>h q (.tail _ hq)) (by rw[List.length_append,List.length_map];omega);refine⟨c5,c6,?_⟩;rw[List.flatMap_cons,List.map_append,<-List.append_assoc];exact x8 (oX q) rfl e e2
end
def sr:(List.range 11).all (fun k=>decide ((fnd k).length<=252))=true:=by kernel_rfl
def tY{k:Nat}(h:k<=10):(fnd k).length<=252:=by
 have:=List.all_eq_true.mp sr k (List.mem_range.mpr (by omega));simpa using this
def BQ{p q:List Nat}{x m:Nat}(h:List.range m=p++x::q):x=p.length/\x<m:=by
 have e:(List.range m)[p.length]?=some x:=by rw[h];simp
 obtain⟨h1,h2⟩:=List.getElem?_eq_some_iff.mp e;rw[List.getElem_range]at h2;rw[List.length_range]at h1;omega
def Ad{cl:Cl}{n:Nat}{o:D}(hn:n<=10):∃ o3 o4 o5 o6,aZ (ai cl [] (eP 19)) [3] (L (List.range n)) [some (.int (n:Nat)),some o,some (.lst [pq ([],[])]),none,none,none,none]=some (.nx,[some (.int (n:Nat)),some o,some (.lst ((fnd n).map pq)),o3,o4,o5,o6]):=by
 obtain⟨σ',e,o3,o4,o5,o6,rfl⟩:=kr (f:=ai cl [] (eP 19)) (tg:=[3]) (xs:=List.range n) (σ:=[some (.int (n:Nat)),some o,some (.lst [pq ([],[])]),none,none,none,none]) (fun p σ=>∃ o3 o4 o5 o6,σ=[some (.int (n:Nat)),some o,some (.lst ((fnd p.length).map pq)),o3,o4,o5,o6]) ⟨none,none,none,none,rfl⟩ (by
  rintro p x q σ hx ⟨o3,o4,o5,o6,rfl⟩;obtain⟨rfl,hlt⟩:=BQ hx;obtain⟨b5,b6,e⟩:=xv (cl:=cl) (a0:=some (.int (n:Nat))) (a1:=some o) (s2:=some (.lst ((fnd p.length).map pq))) (k:=p.length) (by omega) (fnd p.length) [] o5 o6 (pG _) (by have:=tY (k:=p.length) (by omega);simp;omega);rw[List.nil_append]at e;refine⟨[some (.int (n:Nat)),some o,some (.lst ((fnd (p.length+1)).map pq)),some (.int (p.length:Nat)),some (.lst ((fnd (p.length+1)).map pq)),b5,b6],?_,_,_,_,_,by rw[List.length_append,List.length_singleton]⟩;rw[ot,Option.bind_some]
  exact zU (dE aI) rfl (AV (ja (aa rfl) rfl) e (show ai cl [] _ _=_ from aK (aa rfl) (by simp[cD,avE]) aU)))
 rw[List.length_range]at e;exact⟨_,_,_,_,e⟩
end K19
set_option maxHeartbeats 1000000
namespace K32
open RL RT
open RM
section
variable{cl:Cl}
end
end K32
set_option maxHeartbeats 1000000
namespace K32
open RL RT RM
section
variable{cl:Cl}{n r:Nat}{row:List Nat}
section
variable{p q:List Nat}{h:Nat}{w:PySem.Str}{bs:List Int}
end
end
end K32
set_option maxHeartbeats 1000000
namespace K32
open RL RT RM
section
variable{cl:Cl}{n r:Nat}{row:List Nat}{w:PySem.Str}{bs:List Int}
end
section
variable{cl:Cl}{n r:Nat}{row:List Nat}
variable{p q:List Nat}{h x:Nat}
end
end K32
set_option maxHeartbeats 1000000
namespace K32
open RL RT RM
section
variable{cl:Cl}{n r:Nat}{p q:List Nat}{h x:Nat}
end
section
variable{n r r':Nat}{row row':List Nat}
end
end K32
set_option maxHeartbeats 1000000
namespace K32
open RL RT RM
def rI:∀ (n a:Nat),bM (a:Int) n=L (List.range' a n)
 | 0,_=>rfl
 | n+1,a=>by
  rw[bM,List.range'_succ];show D.int (a:Int)::bM ((a:Int)+1) n=D.int (a:Int)::L (List.range' (a+1) n);rw[<-rI n (a+1)];rfl
def rD{n:Nat}(h:n<=10000):cz (.int 0) (.int n)=some (L (List.range n)):=by
 show(if((n:Int)-0).toNat<=most/\-(2 ^ 60)<=(0:Int)/\(0:Int)<2 ^ 60/\-(2 ^ 60)<=(n:Int)/\(n:Int)<2 ^ 60 then some (bM 0 ((n:Int)-0).toNat)else none)=_
 have q:(2:Int) ^ 60=1152921504606846976:=by decide
 rw[q,if_pos ⟨by unfold most;omega,by omega,by omega,by omega,by omega⟩,show((n:Int)-0).toNat=n by omega,List.range_eq_range'];exact congrArg some (rI n 0)
def xl(h:j7 ds [a,b,c,d]):∃ x y z u,ds=[x,y,z,u]/\x<a/\y<b/\z<c/\u<d:=by
 obtain⟨h1,h2⟩:=h
 match ds,h1 with
 | [x,y,z,u],_=>exact⟨x,y,z,u,rfl,h2 0 x a rfl rfl,h2 1 y b rfl rfl,h2 2 z c rfl rfl,h2 3 u d rfl rfl⟩
section
variable{cl:Cl}{n r:Nat}{row:List Nat}{F:St->Option (Option D)}{σ:St}{i:Nat}
end
end K32
set_option maxHeartbeats 1000000
namespace K19
open RL RT RM
open K32 (rD)
def nL{F:St->Option (Option D)}{tg:List Nat}{σ:St}{β:Type}{h g:β->D}{p:β->Bool}:∀ xs:List β,(∀ x∈xs,(g x).imm=true/\(aW tg (h x) σ).bind F=some (if p x then some (g x)else none))->cW F tg σ (xs.map h)=some ((xs.filter p).map g)
 | [],_=>rfl
 | x::r,q=>by
  obtain⟨a1,a⟩:=q x (by simp);have b:=nL r fun y hy=>q y (by simp[hy]);rw[List.map_cons,cW]
  cases hb:aW tg (h x) σ with
  | none=>rw[hb]at a;cases a
  |some σ1=>
   rw[hb]at a;simp only[Option.bind_some]at a ⊢;rw[a,b,List.filter_cons];cases p x<;>simp[jC,a1]
abbrev tD(t:List Nat):D:=.tup (L t)
def jP(t:List Nat):(tD t).imm=true:=gZ t
abbrev dlI(p:Nat)(o:Int):List (List Nat):=((fnd p).filter fun q=>(q.2.length:Int) == o).map (·.1)
def wK{p:Nat}{o:Int}(hp:p<=10){t:List Nat}(h:t∈dlI p o):t.length=p/\Hf t.length t:=by
 obtain⟨q,h1,rfl⟩:=List.mem_map.mp h;have a:=List.all_eq_true.mp (List.all_eq_true.mp BS p (List.mem_range.mpr (by omega))) q (List.mem_filter.mp h1).1;rw[Bool.and_eq_true,beq_iff_eq]at a;exact⟨a.1,zR a.2⟩
def u5(t:List Nat):LI (t.map Int.ofNat)=L t:=by simp[LI,L]
def xF{p:Nat}{o:Int}(h1:1<=p)(hp:p<=10){t:List Nat}(h:t∈dlI p o)(m:Nat):aq T (m+1) 19 [tD t]=some (.bl true):=by
 obtain⟨hl,hf⟩:=wK hp h;obtain⟨b,e,hb⟩:=u9 (cl:=aq T m) (xs:=t.map Int.ofNat) (by rw[List.length_map];omega);rw[u5]at e;have:b=true:=hb.mpr ⟨t.length,t,by omega,by omega,hf,u5 t⟩;rw[this]at e;exact(ay (fn:=eT) rfl).trans e
def rR:∀ t:List Nat,cE (L t)=some (t.map Int.ofNat)
 | []=>rfl
 | x::t=>by
  show(cE (L t)).map _=_;rw[rR t];rfl
def uG:∀ (l:List (List Nat)),(∀ t∈l,t≠[])->jJ (l.map tD)=some (l.map (·.map Int.ofNat))
 | [],_=>rfl
 | []::l,h=>absurd rfl (h [] (.head _))
 | (x::t)::l,h=>by
  show(cE (L (x::t))).bind _=_;rw[rR (x::t),Option.bind_some,uG l fun t ht=>h t (.tail _ ht)];rfl
def lA{p:Nat}{o:Int}{ps:List Nat}(h1:1<=p)(hp:p<=10)(hs:TM.eN ((dlI p o).map (·.map Int.ofNat))=some ps):aq T 29 25 [.int (p:Nat),.int o]=some (.lst (ps.map fun i=>((dlI p o).map tD).getD i .non)):=by
 obtain⟨o3,o4,o5,o6,lp⟩:=Ad (cl:=aq T 28) (o:=.int o) hp;have lf:=tY hp
 have dle:(dlI p o).length<=252:=by
  unfold dlI;rw[List.length_map];exact Nat.le_trans (List.length_filter_le ..) lf
 have m1:=nL (F:=fun σ1=>((ev (aq T 28) σ1 (.cmp .eq (.bi .len (.var 6)) (.var 1))).bind truth).bind fun k=>if k then(ev (aq T 28) σ1 (.var 5)).map some else some none) (tg:=[5,6]) (σ:=[some (.int (p:Nat)),some (.int o),some (.lst ((fnd p).map pq)),o3,o4,o5,o6]) (h:=pq) (g:=fun q=>tD q.1) (p:=fun q=>(q.2.length:Int) == o) (fnd p) (fun q hq=>⟨jP _,by
  have hl:biV .len (.tup (L q.2))=some (.int (q.2.length:Nat)):=by
   show some (D.int ((L q.2).length:Nat))=_;rw[bN]
  have hb:aW [5,6] (pq q) [some (.int (p:Nat)),some (.int o),some (.lst ((fnd p).map pq)),o3,o4,o5,o6]=some [some (.int (p:Nat)),some (.int o),some (.lst ((fnd p).map pq)),o3,o4,some (.tup (L q.1)),some (.tup (L q.2))]:=rfl;rw[hb,Option.bind_some,aJ (aA (bz (aa rfl) hl) (aa rfl) (k:=(q.2.length:Int) == o) rfl),Option.bind_some]
  cases((q.2.length:Int) == o)<;>rfl⟩)
 have e1:(((fnd p).filter fun q=>(q.2.length:Int) == o).map fun q=>tD q.1)=(dlI p o).map tD:=by unfold dlI;rw[List.map_map];rfl
 rw[e1]at m1
 have im:az ((dlI p o).map tD)=true:=by
  generalize dlI p o=l
  induction l with
  | nil=>rfl
  | cons t l ih=>rw[List.map_cons,az,jP,ih];rfl
 have m2:=nL (F:=fun σ1=>((ev (aq T 28) σ1 (.call 19 (.cons (.var 5) .nil))).bind truth).bind fun k=>if k then(ev (aq T 28) σ1 (.var 5)).map some else some none) (tg:=[5]) (σ:=[some (.int (p:Nat)),some (.int o),some (.lst ((dlI p o).map tD)),o3,o4,o5,o6]) (h:=tD) (g:=tD) (p:=fun _=>true) (dlI p o) (fun t ht=>⟨jP _,by
  show((ev (aq T 28) [some (.int (p:Nat)),some (.int o),some (.lst ((dlI p o).map tD)),o3,o4,some (tD t),o6] (.call 19 (.cons (.var 5) .nil))).bind truth).bind _=_;rw[aJ (cN (aa rfl) (xF h1 hp ht 27))]
  rfl⟩)
 rw[List.filter_eq_self.mpr fun _ _=>rfl]at m2
 have ne:∀ t∈dlI p o,t≠[]:=fun t ht z=>by
  have:=(wK hp ht).1;rw[z]at this;simp at this;omega
 have so:biV .sortedT (.lst ((dlI p o).map tD))=some (.lst (ps.map fun i=>((dlI p o).map tD).getD i .non)):=by
  rw[xa,uG _ ne,Option.bind_some,hs];rfl
 have imP:az (ps.map fun i=>((dlI p o).map tD).getD i .non)=true:=by
  have:∀ (l:List D) (i:Nat),az l=true->(l.getD i .non).imm=true:=fun l=>by
   induction l with
   | nil=>intro i _;rfl
   |cons d l ih=>
    intro i h;rw[az,Bool.and_eq_true]at h
    cases i with
    | zero=>exact h.1
    | succ i=>exact ih i h.2
  generalize ps=l
  induction l with
  | nil=>rfl
  | cons i l ih=>rw[List.map_cons,az,this _ i im,ih];rfl
 refine(ay (fn:=i0 19) rfl).trans (aC rfl rfl (aK (dE (ar (bB (ar (bB aI) (ar (bB aI) aI))) aI)) rfl (d9 (jZ (aa rfl) (rD (by omega))) lp (aK (nZ (ja (aa rfl) rfl) (by rw[List.length_map];unfold most;omega) m1) (by unfold cD;rw[show aS (.lst ((dlI p o).map tD))=true from im];simp[aD]) (aE (bz (nZ (ja (aa rfl) rfl) (by rw[List.length_map];unfold most;omega) m2) so) (by unfold dC;rw[show aS (.lst (ps.map fun i=>((dlI p o).map tD).getD i .non))=true from imP];simp[aD]))))))
end K19
set_option maxHeartbeats 1000000
namespace K19
open RL RT RM
abbrev oki(p o:Nat):Bool:=match TM.eN ((dlI p o).map (·.map Int.ofNat))with
 | some ps=>ps.length == Wy p o&&(List.range (Wy p o)).all fun i=>Nat.blt (ps.getD i 0) (dlI p o).length&&((dlI p o).getD (ps.getD i 0) []).length == p&&sgN 10 0 ((dlI p o).getD (ps.getD i 0) []) == some (o,i)
 | none=>false
def k7:((List.range 8).all fun p=>(List.range 12).all (oki p))=true:=by kernel_rfl
def k8:((List.range 12).all (oki 8))=true:=by kernel_rfl
def k9:((List.range 12).all (oki 9))=true:=by kernel_rfl
def kx2:oki 10 2=true:=by kernel_rfl
def kx4:oki 10 4=true:=by kernel_rfl
def kx0:oki 10 0=true:=by kernel_rfl
def kx:([1,3,5,6,7,8,9,10,11].all (oki 10))=true:=by kernel_rfl
def xW{p o:Nat}(hp:p<=10)(ho:o<=11):oki p o=true:=by
 have mo:o∈List.range 12:=List.mem_range.mpr (by omega);by_cases h7:p<=7
 ·exact List.all_eq_true.mp (List.all_eq_true.mp k7 p (List.mem_range.mpr (by omega))) o mo
 by_cases h8:p=8
 ·subst h8;exact List.all_eq_true.mp k8 o mo
 by_cases h9:p=9
 ·subst h9;exact List.all_eq_true.mp k9 o mo
 have hx:p=10:=by omega
 subst hx;by_cases h2:o=2
 ·subst h2;exact kx2
 by_cases h4:o=4
 ·subst h4;exact kx4
 by_cases h0:o=0
 ·subst h0;exact kx0
 exact List.all_eq_true.mp kx o (by simp;omega)
def Cj{p:Nat}{o:Int}(h1:1<=p)(hp:p<=10)(ho:o<=11):∃ ts:List (List Nat),ts.length=(if 0<=o then Wy p o.toNat else 0)/\(∀ (i:Nat) (t:List Nat),ts[i]?=some t->0<=o/\Sg 0 p o.toNat t i)/\aq T 29 25 [.int (p:Nat),.int o]=some (.lst (ts.map tD)):=by
 by_cases h0:0<=o
 ·obtain⟨m,rfl⟩:∃ m:Nat,o=(m:Nat):=⟨o.toNat,by omega⟩
  have k:=xW hp (show m<=11 by omega);unfold oki at k;split at k
  ·rename_i ps hs;rw[Bool.and_eq_true,beq_iff_eq,List.all_eq_true]at k;obtain⟨k1,k2⟩:=k;refine⟨ps.map fun i=>(dlI p m).getD i [],by rw[List.length_map,if_pos h0,Int.toNat_natCast,k1],fun i t e=>⟨h0,?_⟩,?_⟩
   ·obtain⟨j,e1,e2⟩:=Option.map_eq_some_iff.mp (by rw[List.getElem?_map]at e;exact e);have hi:i<ps.length:=(List.getElem?_eq_some_iff.mp e1).1;have a:=k2 i (List.mem_range.mpr (by omega))
    have ej:ps.getD i 0=j:=by rw[List.getD,e1];rfl
    rw[ej,e2,Bool.and_eq_true,Bool.and_eq_true,beq_iff_eq,beq_iff_eq]at a;have s:=kj _ _ _ _ _ a.2;rw[a.1.2]at s;rw[Int.toNat_natCast];exact s
   ·rw[lA h1 hp hs,List.map_map];refine congrArg (fun l=>some (D.lst l)) (List.map_congr_left fun j hj=>?_);obtain⟨i,hi,rfl⟩:=List.mem_iff_getElem.mp hj;have a:=k2 i (List.mem_range.mpr (by omega))
    have ej:ps.getD i 0=ps[i]:=by rw[List.getD,List.getElem?_eq_getElem hi];rfl
    rw[ej,Bool.and_eq_true,Bool.and_eq_true]at a
    have lt:ps[i]<(dlI p m).length:=by simpa using a.1.1
    show(((dlI p m).map tD)[ps[i]]?).getD .non=tD (((dlI p m)[ps[i]]?).getD []);rw[List.getElem?_map,List.getElem?_eq_getElem lt];rfl
  ·cases k
 ·have e:dlI p o=[]:=by
   unfold dlI;rw[List.filter_eq_nil_iff.mpr fun q _=>by simp;omega];rfl
  have hs:TM.eN ((dlI p o).map (·.map Int.ofNat))=some []:=by rw[e];rfl
  exact⟨[],by rw[if_neg h0];rfl,fun i t z=>by simp at z,lA h1 hp hs⟩
end K19
set_option maxHeartbeats 1000000
namespace K19
open RL RT RM
open K32 (rD xl)
def nm:Nm T 13 14 15 16 17:=⟨rfl,rfl,rfl,rfl,rfl⟩
def dg:Dg T 21 22 23:=⟨rfl,rfl,rfl⟩
def hT:T.length<=1000:=by decide
def num(m:Nat)(i:Int):aq T (m+1) 0 [.int i]=some (.bl true):=(ay (fn:=gj) rfl).trans (ma i)
def BL(m:Nat)(i:Int):aq T (m+2) 1 [.int i]=some (.bl (decide (1<=i/\i<=10))):=(ay (fn:=dn 0) rfl).trans (j8 (num m) i)
def D8(m:Nat)(h1:1<=n)(hn:n<=10):aq T (m+3) 2 [.int (n:Nat)]=some .non:=(ay (fn:=dP 1) rfl).trans (kC (by rw[BL,decide_eq_true (by omega)]))
abbrev hw(p:Nat)(o:Int):Nat:=if 0<=o then Wy p o.toNat else 0
def how(m:Nat){p:Nat}{o:Int}(h1:1<=p)(hp:p<=10):aq T (m+4) 10 [.int (p:Nat),.int o]=some (.int (hw p o:Nat)):=by
 have w:aq T (m+3) 16 [.int (p:Nat),.int o]=some (.int (hw p o:Nat)):=by
  unfold hw;by_cases h0:0<=o
  ·obtain⟨g,rfl⟩:∃ g:Nat,o=(g:Nat):=⟨o.toNat,by omega⟩
   rw[if_pos h0];exact nm.lx (m+1) hp
  ·rw[if_neg h0];exact(ay (fn:=i6 17) rfl).trans (aC rfl rfl (bE (aJ (jj (aA (k:=true) (aa rfl) ag (by rw[cw,decide_eq_true (by omega)])))) (aE ag rfl)))
 exact(ay (fn:=eU 0 16 2) rfl).trans (aC rfl rfl (oE (cN (aa rfl) (D8 m h1 hp)) (aE (Dt (k:=true) (aJ (cN (aa rfl) (num (m+2) _))) (cq (aa rfl) (aa rfl) w)) (eJ _))))
def isH(m:Nat)(h1:1<=n)(hn:n<=10)(H:Hf n h):aq T (m+4) 6 [.tup (L h)]=some (.bl true):=by
 have p:=(ay (T:=T) (n:=m+2) (f:=3) (fn:=fH 4) rfl).trans (pf (xs:=h.map Int.ofNat) (by rw[List.length_map,H.len];omega) fun q hq=>(ay (fn:=fJ 0) rfl).trans (AN (num m) hq));rw[rl H,<-BV]at p;obtain⟨b,e,_,hb⟩:=xA (cl:=aq T (m+2)) (m:=n) (by omega) H.len H.inv H.lt;rw[hb H.nx]at e;exact(ay (fn:=iF 5 3 1) rfl).trans (pz h1 hn H (BL (m+1)) p ((ay (fn:=eg) rfl).trans e))
def Eb(m:Nat)(h1:1<=n)(hn:n<=10)(H:Hf n h):aq T (m+6) 8 [.tup (L h)]=some (.int ((fx n h).length:Nat)) :=
 (ay (fn:=fD 9 7) rfl).trans (aC rfl rfl (oE (cN (aa rfl) ((ay (fn:=fC 6) rfl).trans (sH rfl rfl (bp (aJ (bF (cN (aa rfl) (isH m h1 hn H)))) aU)))) (aE (bz (cN (aa rfl) ((ay (fn:=lj) rfl).trans (sk hn H.len))) (show biV .len (.lst (L (fx n h)))=some (.int ((fx n h).length:Nat)) by show some (D.int ((L (fx n h)).length:Nat))=_;rw[bN])) (eJ _))))
def wg(m:Nat)(h1:1<=n)(hn:n<=10)(s:Sg 0 n g h k):aq T (m+15) 12 [.tup (L h)]=some (.int (k:Nat)):=by
 obtain⟨H,rfl⟩:=s.hf;have e:=nm.number (H:=h) s hn (by rw[H.len];omega) (fun i hi=>by rw[fv (by rw[H.len];exact hi),Nat.zero_add]) (m+14) (by omega);rw[Nat.zero_add]at e;exact(ay (fn:=eQ 14 8) rfl).trans (aC rfl rfl (aE (iO (aa rfl) ag (bz (aa rfl) (show biV .len (.tup (L h))=some (.int (n:Nat)) by show some (D.int ((L h).length:Nat))=_;rw[bN,H.len])) (cN (aa rfl) (Eb (m+8) h1 hn H)) e) (eJ _)))
def hof(m:Nat)(h1:1<=n)(hn:n<=10){g k:Nat}{xs:List Nat}(s:Sg 0 n g xs k):aq T (m+15) 11 [.int (n:Nat),.int (g:Nat),.int (k:Nat)]=some (.tup (L xs)):=by
 have b:=s.bound hn;have hm:=how (m+10) (o:=(g:Nat)) h1 hn
 have hc:aq T (m+14) 18 [.int (k:Nat),.int (hw n (g:Nat):Nat)]=some .non :=
  (ay (fn:=dY 0) rfl).trans (sH rfl rfl (bp (aJ (dG (bF (cN (aa rfl) (num (m+12) _))) (bF (dO (k:=true) ag (aa rfl) (aa rfl) (by rw[gp,decide_eq_true (by omega)]) (by rw[cw,decide_eq_true (by unfold hw;rw[if_pos (Int.natCast_nonneg _),Int.toNat_natCast];omega)]))))) aU))
 exact(ay (fn:=iK 13 18 10) rfl).trans (aC rfl rfl (oE (cq (aa rfl) (cq (aa rfl) (aa rfl) hm) hc) (aE (iO ag (aa rfl) (aa rfl) (aa rfl) (nm.half s hn (m+14) (by omega))) (mF _))))
def wa{p:Nat}{o z:Int}(h1:1<=p)(hp:p<=10)(hb:hw p o<=1000)(hz:¬ (0<=z/\z<(hw p o:Nat))):aq T 29 26 [.int (p:Nat),.int o,.int z]=some (.str "NoNumber"):=by
 have hl:=how 23 (o:=o) h1 hp;generalize hw p o=len at *
 have c:ev (aq T 26) [some (.int z),some (.int len)] (.chain .le .lt (.cst (.int 0)) (.var 0) (.var 1))=some (.bl false):=by
  by_cases c1:0<=z
  ·exact dO (k:=false) ag (aa rfl) (aa rfl) (by rw[gp,decide_eq_true c1]) (by rw[cw,decide_eq_false (fun h=>hz ⟨c1,h⟩)])
  ·exact gF ag (aa rfl) (by rw[gp,decide_eq_false c1])
 have wr:([D.int len].all written)=true:=by
  have:(len:Int).natAbs<2 ^ 1900:=Nat.lt_of_le_of_lt (show(len:Int).natAbs<=2 ^ 10 by simp;omega) (Nat.pow_lt_pow_right (by decide) (by decide));show(decide ((len:Int).natAbs<2 ^ 1900)&&true)=true;rw[decide_eq_true this];rfl
 have r18:Rc (aq T 27) 18 [.int z,.int len] "NoNumber" := jM (fn:=dY 0) rfl hT rfl rfl (xg (aJ (dG (bF (cN (aa rfl) (num 25 z))) (bF c))) (uj (ar (aa rfl) aI) wr));have r11:Rc (aq T 28) 11 [.int (p:Nat),.int o,.int z] "NoNumber" := jM (fn:=iK 13 18 10) rfl hT rfl rfl (m9 (DN (aa rfl) (cq (aa rfl) (aa rfl) hl) r18));have k:aq T 28 20 [.exc "NoNumber"]=some (.str "NoNumber"):=(ay (fn:=gg) rfl).trans (sf (by decide));exact(ay (fn:=ka 11 20) rfl).trans (aC rfl rfl (aK ag rfl (qg (m9 (mS (ar (aa rfl) (ar (aa rfl) (ar (aa rfl) aI))) r11)) rfl (aK (cN (aa rfl) k) rfl aU) (aE (aa rfl) rfl))))
abbrev isB(b:Bool):Option D->Bool
 | some (.bl c)=>b == c
 | _=>false
def Cn{b:Bool}{x:Option D}(h:isB b x=true):x=some (.bl b):=by
 unfold isB at h;split at h
 ·rw[eq_of_beq h]
 ·cases h
def B6{cl:Cl}{σ:St}{f:Nat}{e1 e2 e3 e4:E}{d1 d2 d3:D}{c:PySem.Str}(h1:ev cl σ e1=some d1)(h2:ev cl σ e2=some d2)(h3:ev cl σ e3=some d3)(h4:Rx cl σ e4 c):Rx cl σ (.call f (.cons e1 (.cons e2 (.cons e3 (.cons e4 .nil))))) c:=by
 have n:evs cl σ (.cons e1 (.cons e2 (.cons e3 (.cons e4 .nil))))=none:=by
  simp[evs,h1,h2,h3,h4.1]
 have x:iC cl σ (.cons e1 (.cons e2 (.cons e3 (.cons e4 .nil))))=some c:=by
  simp[iC,h1,h2,h3,h4.1,h4.2]
 refine⟨by rw[gD,n];rfl,?_⟩;show(match evs cl σ (.cons e1 (.cons e2 (.cons e3 (.cons e4 .nil))))with | some ds=>clX cl f ds | none=>iC cl σ (.cons e1 (.cons e2 (.cons e3 (.cons e4 .nil)))))=_;rw[n];exact x
def ref{xs:List D}(h:isB false (aq T 25 6 [.tup xs])=true):aq T 29 27 [.tup xs]=some (.str "BadHalf"):=by
 have r7:Rc (aq T 26) 7 [.tup xs] "BadHalf" := jM (fn:=fC 6) rfl hT rfl rfl (xg (aJ (bF (cN (aa rfl) (Cn h)))) (uj aI rfl));have r8:Rc (aq T 27) 8 [.tup xs] "BadHalf" := jM (fn:=fD 9 7) rfl hT rfl rfl (m9 (vo (aa rfl) r7));have r12:Rc (aq T 28) 12 [.tup xs] "BadHalf" := jM (fn:=eQ 14 8) rfl hT rfl rfl (D4 (B6 (aa rfl) ag (bz (aa rfl) rfl) (vo (aa rfl) r8)));have k:aq T 28 20 [.exc "BadHalf"]=some (.str "BadHalf"):=(ay (fn:=gg) rfl).trans (sf (by decide));exact(ay (fn:=ik 12 20) rfl).trans (aC rfl rfl (aK ag rfl (qg (m9 (vo (aa rfl) r12)) rfl (aK (cN (aa rfl) k) rfl aU) (aE (aa rfl) rfl))))
abbrev bad(p:Nat):List (List Nat):=[List.range (p-1)++[p],[1],[1,1],[2,0],[1,2,0],[2,1,0],[2,3,0,1],[0,3,2,1]]
def zr:((List.range 10).all fun p=>(bad (1+p)).all fun t=>isB false (aq T 25 6 [tD t]))=true:=by kernel_rfl
def yL{p:Nat}(hp:p<10):∀ t∈bad (1+p),aq T 29 27 [tD t]=some (.str "BadHalf"):=fun t ht=>ref (List.all_eq_true.mp (List.all_eq_true.mp zr p (List.mem_range.mpr hp)) t ht)
def AL{cl:Cl}{σ:St}{e:E}{x:D}{ds:List D}(h:ev cl σ e=some x)(hr:cz (.int 0) x=some ds):ev cl σ (.rngT e)=some (.tup ds):=by
 show(ev cl σ e).bind _=_;rw[h,Option.bind_some,hr];rfl
def D5{p:Nat}{o:Int}(hp:p<=10):hw p o<=1000:=by
 unfold hw;split
 ·exact Nat.le_of_lt (gM hp)
 ·omega
def tZ(ts:List (List Nat)):az (ts.map tD)=true:=by
 induction ts with
 | nil=>rfl
 | cons t l ih=>rw[List.map_cons,az,jP,ih];rfl
def wU{ts:List (List Nat)}{i:Nat}{t:List Nat}(h:ts[i]?=some t):ixV (.lst (ts.map tD)) (.int (i:Nat))=some (tD t):=by
 show bR _ _=_;rw[e8,List.getElem?_map,h];rfl
def Dk{p o:Nat}{ts:List (List Nat)}{i:Nat}{t:List Nat}{a0 a2 a4 a5 a8 a9 a10:Option D}(h1:1<=p)(hp:p<=10)(ht:ts[i]?=some t)(s:Sg 0 p o t i):ai (aq T 29) [] (kg 27 26 24 12 11 10 25 23) [a0,some (.lst (ts.map tD)),a2,some (.int (i:Nat)),a4,a5,some (.int (p:Nat)),some (.int (o:Nat)),a8,a9,a10]=some (.nx,[a0,some (.lst (ts.map tD)),a2,some (.int (i:Nat)),a4,a5,some (.int (p:Nat)),some (.int (o:Nat)),a8,a9,a10]):=by
 have hl:=s.len;have s1:aq T 29 24 [tD t,tD t]=some (.bl true):=sameAll (T:=T) (sm:=24) rfl 1 28 _ (Pl.L (n:=0) (xs:=t) (by omega)) (by decide);have s2:aq T 29 24 [.int (i:Nat),.int (i:Nat)]=some (.bl true):=sameAll (T:=T) (sm:=24) rfl _ 28 _ (.int 1 _) (by decide);exact bp (aJ (bF (cq (jD (aa rfl) (aa rfl) (aa rfl) (hof 14 h1 hp s)) (f9 (aa rfl) (aa rfl) (wU ht)) s1))) (bp (aJ (bF (cq (cN (f9 (aa rfl) (aa rfl) (wU ht)) (wg 14 h1 hp s)) (aa rfl) s2))) aU)
def main(ns:List Int)(hl:ns.length<=63):aq T 30 28 [.scr (ns.map D.int)]=some (.bl true):=by
 obtain⟨ds,hd,e1⟩:=dg.digits hl 26 (k:=0) (sizes:=[10,14,10 ^ 20,10 ^ 20]) (by omega) (by
  intro s hs;simp only[List.mem_cons,List.not_mem_nil,or_false]at hs
  rcases hs with rfl | rfl | rfl | rfl<;>decide) (by decide)
 obtain⟨p,o,one,far,rfl,hp,ho,_,_⟩:=xl hd;have pw:aQ .pow (.int 10) (.int 20)=some (.int ((10 ^ 20:Nat):Int)):=rfl;have e0:aQ .add (.int 1) (.int (p:Nat))=some (.int ((1+p:Nat):Int)):=rfl;have rb:=yL hp
 have n1:1<=1+p:=by omega
 have n2:1+p<=10:=by omega
 have er:cz (.int 0) (.int ((1+p-1:Nat):Int))=some (L (List.range (1+p-1))):=rD (by omega)
 have es:aQ .sub (.int ((1+p:Nat):Int)) (.int 1)=some (.int ((1+p-1:Nat):Int)):=by rw[bf];congr 2;omega
 generalize 1+p=n at *;obtain⟨ts,h1,h2,h3⟩:=Cj (p:=n) (o:=(o:Int)-2) n1 n2 (by omega);have h1:ts.length=hw n ((o:Int)-2):=h1;have e2:aQ .sub (.int (o:Nat)) (.int 2)=some (.int ((o:Int)-2)):=rfl;generalize(o:Int)-2=q at *;have hle:=D5 (p:=n) (o:=q) n2;have hm:=how 25 (o:=q) n1 n2;have wb:∀ z:Int,¬ (0<=z/\z<(ts.length:Nat))->aq T 29 26 [.int (n:Nat),.int q,.int z]=some (.str "NoNumber"):=fun z hz=>wa n1 n2 hle (by rw[<-h1];exact hz);rw[<-h1]at hm hle;have sl:aq T 29 24 [.int (ts.length:Nat),.int (ts.length:Nat)]=some (.bl true):=sameAll (T:=T) (sm:=24) rfl _ 28 _ (.int 1 _) (by decide)
 have bl:biV .len (.lst (ts.map tD))=some (.int (ts.length:Nat)):=by rw[DD,List.length_map]
 have mx:0<(if(ts.length:Int) > 1 then(ts.length:Int)else 1):=by split<;>omega
 generalize hmx:(if(ts.length:Int) > 1 then(ts.length:Int)else 1)=mm at *
 obtain⟨o3,lp⟩:∃ o3,aZ (ai (aq T 29) [] (kg 27 26 24 12 11 10 25 23)) [3] (if ts=[]then []else [.int 0,.int ((ts.length:Int)-1),.int ((one:Int)%mm),.int ((far:Int)%mm)]) [some (.lst (LI ns)),some (.lst (ts.map tD)),some (.lst [.int 0,.int ((ts.length:Int)-1),.int ((one:Int)%mm),.int ((far:Int)%mm)]),none,none,none,some (.int (n:Nat)),some (.int q),some (.int (one:Nat)),some (.int (far:Nat)),none]=some (.nx,[some (.lst (LI ns)),some (.lst (ts.map tD)),some (.lst [.int 0,.int ((ts.length:Int)-1),.int ((one:Int)%mm),.int ((far:Int)%mm)]),o3,none,none,some (.int (n:Nat)),some (.int q),some (.int (one:Nat)),some (.int (far:Nat)),none]):=by
  by_cases he:ts=[]
  ·rw[if_pos he];exact⟨none,rfl⟩
  ·rw[if_neg he];have pos:0<ts.length:=List.length_pos_iff.mpr he
   have emm:mm=(ts.length:Nat):=by rw[<-hmx];split<;>omega
   have q0:0<=q:=(h2 0 ts[0] (List.getElem?_eq_getElem pos)).1
   obtain⟨g,rfl⟩:∃ g:Nat,q=(g:Nat):=⟨q.toNat,by omega⟩
   have xs:∃ xs:List Nat,[D.int 0,.int ((ts.length:Int)-1),.int ((one:Int)%mm),.int ((far:Int)%mm)]=L xs/\∀ x∈xs,x<ts.length:=by
    refine⟨[0,ts.length-1,one%ts.length,far%ts.length],?_,fun x hx=>?_⟩
    ·rw[emm,show((ts.length:Nat):Int)-1=((ts.length-1:Nat):Int) by omega];rfl
    ·simp only[List.mem_cons,List.not_mem_nil,or_false]at hx;have m1:=Nat.mod_lt one pos;have m2:=Nat.mod_lt far pos;rcases hx with rfl | rfl | rfl | rfl
     ·exact pos
     ·omega
     ·exact m1
     ·exact m2
   obtain⟨xs,ex,hx⟩:=xs;rw[ex]
   obtain⟨σ',e,o3,rfl⟩:=kr (f:=ai (aq T 29) [] (kg 27 26 24 12 11 10 25 23)) (tg:=[3]) (xs:=xs) (σ:=[some (.lst (LI ns)),some (.lst (ts.map tD)),some (.lst (L xs)),none,none,none,some (.int (n:Nat)),some (.int (g:Nat)),some (.int (one:Nat)),some (.int (far:Nat)),none]) (fun _ σ=>∃ o3,σ=[some (.lst (LI ns)),some (.lst (ts.map tD)),some (.lst (L xs)),o3,none,none,some (.int (n:Nat)),some (.int (g:Nat)),some (.int (one:Nat)),some (.int (far:Nat)),none]) ⟨_,rfl⟩ (by
    rintro u i v σ hu ⟨o3,rfl⟩;have hi:=hx i (by rw[hu];simp);have gi:=List.getElem?_eq_getElem hi;have s:=(h2 i _ gi).2;rw[Int.toNat_natCast]at s;refine⟨_,?_,some (.int (i:Nat)),rfl⟩;rw[ot,Option.bind_some]
    exact Dk n1 n2 gi s)
   exact⟨o3,e⟩
 have ml:aQ .mul (.lst [.int 0,.int ((ts.length:Int)-1),.int ((one:Int)%mm),.int ((far:Int)%mm)]) (.int (if ts=[]then 0 else 1))=some (.lst (if ts=[]then []else [.int 0,.int ((ts.length:Int)-1),.int ((one:Int)%mm),.int ((far:Int)%mm)])):=by
  by_cases he:ts=[]
  ·rw[if_pos he,if_pos he];rfl
  ·rw[if_neg he,if_neg he];rfl
 have ne:∀ {σ:St},(σ[1]?).bind id=some (.lst (ts.map tD))->ev (aq T 29) σ (.bi .int (.cmp .ne (.var 1) (.lst .nil)))=some (.int (if ts=[]then 0 else 1)):=fun z=>by
  by_cases he:ts=[]
  ·rw[if_pos he];subst he;exact bz (aA (k:=false) (aa z) (dE aI) rfl) rfl
  ·rw[if_neg he];obtain⟨t,r,rfl⟩:=List.exists_cons_of_ne_nil he;exact bz (aA (k:=true) (aa z) (dE aI) rfl) rfl
 have w1:=wb (0-1) (by omega);have w2:=wb ts.length (by omega);have w3:=wb ((ts.length:Int)+far) (by omega)
 refine(ay (fn:=wV 27 26 24 12 11 10 25 23) rfl).trans (aC (d:=.bl true) rfl rfl
  (aK (d:=.lst (LI ns)) (qP (aa rfl) ag (CQ hl)) ?_
  (nX (jD (aa rfl) ag (dE (ar ag (ar ag (ar (ak ag ag pw) (ar (ak ag ag pw) aI))))) e1) rfl rfl rfl
  (nX (bB (ar (ak ag (aa rfl) e0) (ar (ak (aa rfl) ag e2) aI))) rfl rfl rfl
  (aK (d:=.lst (ts.map tD)) (cq (aa rfl) (aa rfl) h3) ?_
  (bp (aJ (bF (cq (cq (aa rfl) (aa rfl) hm) (bz (aa rfl) bl) sl)))
  (aK (d:=.lst [.int 0,.int ((ts.length:Int)-1),.int ((one:Int)%mm),.int ((far:Int)%mm)]) (dE (ar ag (ar (ak (bz (aa rfl) bl) ag bf) (ar (ak (aa rfl) (wX ag (bz (aa rfl) bl)) (by rw[hmx];exact fW mx)) (ar (ak (aa rfl) (wX ag (bz (aa rfl) bl)) (by rw[hmx];exact fW mx)) aI))))) rfl
  (d9 (ja (ak (aa rfl) (ne rfl) ml) rfl) lp
  (aK (d:=.lst [.str "NoNumber",.str "NoNumber",.str "NoNumber"]) (jc (ja (bB (ar (ak ag ag bf) (ar (bz (aa rfl) bl) (ar (ak (bz (aa rfl) bl) (aa rfl) bj) aI)))) rfl) (by show 3<=100000;decide) ?_) rfl
  (aK (d:=.lst ((bad n).map tD)) (ak (dE (ar (ak (AL (ak (aa rfl) ag es) er) (bB (ar (aa rfl) aI)) (l8 _ [n] (by simp;omega))) aI)) (dE (ar (bB (ar ag aI)) (ar (bB (ar ag (ar ag aI))) (ar (bB (ar ag (ar ag aI))) (ar (bB (ar ag (ar ag (ar ag aI)))) (ar (bB (ar ag (ar ag (ar ag aI)))) (ar (bB (ar ag (ar ag (ar ag (ar ag aI))))) (ar (bB (ar ag (ar ag (ar ag (ar ag aI))))) aI)))))))) rfl) ?_
  (aE (cX (aA (k:=true) (aa rfl) (ak (d:=.lst [.str "NoNumber",.str "NoNumber",.str "NoNumber"]) (dE (ar ag aI)) ag rfl) ?_) (aA (k:=true) (jc (ys:=List.replicate 8 (.str "BadHalf")) (ja (aa rfl) rfl) (by show 8<=100000;decide) ?_) (ak (d:=.lst (List.replicate 8 (.str "BadHalf"))) (dE (ar ag aI)) ag rfl) ?_)) rfl)))))))))))
 ·have q:aS (.lst (LI ns))=true:=sR ns;rw[cD,q];rfl
 ·rw[cD,show aS (.lst (ts.map tD))=true from tZ ts];rfl
 ·refine iJ (h:=D.int) (g:=fun _=>.str "NoNumber") (fun _=>rfl) [0-1,(ts.length:Nat),(ts.length:Int)+far] fun z hz=>?_
  have hw:aq T 29 26 [.int (n:Nat),.int q,.int z]=some (.str "NoNumber"):=by
   simp only[List.mem_cons,List.not_mem_nil,or_false]at hz;rcases hz with rfl | rfl | rfl
   ·exact w1
   ·exact w2
   ·exact w3
  rw[ot,Option.bind_some,jD (aa rfl) (aa rfl) (aa rfl) hw];rfl
 ·rw[cD,show aS (.lst ((bad n).map tD))=true from tZ _];rfl
 ·exact wY (k:=1) (.lst _ _ (by decide) fun x hx=>by
   simp only[List.mem_cons,List.not_mem_nil,or_false,or_self]at hx
   subst hx;exact .str 0 _) (by decide)
 ·refine iJ (h:=tD) (g:=fun _=>.str "BadHalf") (fun _=>rfl) (bad n) fun t ht=>?_;rw[ot,Option.bind_some,cN (aa rfl) (rb t ht)];rfl
 ·exact wY (k:=1) (.lst _ _ (by decide) fun x hx=>by
   rw[List.eq_of_mem_replicate hx];exact .str 0 _) (by decide)
end K19
namespace L2
open PySem PySem.Spec PyProof.Rows
@[reducible]noncomputable def Key:=Sum Int Str
abbrev jf:Key->Value->Bool
 | .inl k,v=>Value.isInt k v
 | .inr x,v=>Value.isStrOf x v
abbrev E3(w:World):Key->Int
 | .inl k=>hashInt k
 | .inr x=>hashStr w x
def bK:∀ {k:Key} {v:Value},jf k v=true->(∃ i t,k=Sum.inl i/\v=Value.int i t)\/(∃ x t,k=Sum.inr x/\v=Value.str x t)
 | .inl i,v,h=>by
  obtain⟨t,e⟩:=Value.isInt_shape h;exact .inl ⟨i,t,rfl,e⟩
 | .inr x,v,h=>by
  obtain⟨t,e⟩:=Value.isStrOf_shape h;exact .inr ⟨x,t,rfl,e⟩
def tu(i:Int)(t:Tok):jf (.inl i) (.int i t)=true:=by simp[jf,Value.isInt]
def uB(x:Str)(t:Tok):jf (.inr x) (.str x t)=true:=by simp[jf,Value.isStrOf]
def BE(a b:Int):decide ((Sum.inl a:Key)=Sum.inl b)=(a == b):=by
 by_cases e:a=b
 ·subst e;simp
 ·have h:¬ (Sum.inl a:Key)=Sum.inl b:=fun q=>e (Sum.inl.inj q);rw[decide_eq_false h];exact(beq_eq_false_iff_ne.mpr e).symm
def Aj(a b:Str):decide ((Sum.inr a:Key)=Sum.inr b)=decide (a=b):=by
 by_cases e:a=b
 ·subst e;simp
 ·have h:¬ (Sum.inr a:Key)=Sum.inr b:=fun q=>e (Sum.inr.inj q);rw[decide_eq_false h,decide_eq_false e]
def Co(a:Int)(b:Str):decide ((Sum.inl a:Key)=Sum.inr b)=false:=decide_eq_false (fun q=>nomatch q)
def zG(a:Str)(b:Int):decide ((Sum.inr a:Key)=Sum.inl b)=false:=decide_eq_false (fun q=>nomatch q)
abbrev bO(prog:Program)(w:World):PySem.KeyKind prog w Key where
 is:=jf
 hash:=E3 w
 inj:=fun v a b ha hb=>by
  rcases bK ha with⟨i,t,rfl,rfl⟩ | ⟨x,t,rfl,rfl⟩
  ·rcases bK hb with⟨j,u,rfl,e⟩ | ⟨y,u,rfl,e⟩
   ·injection e with e1 _;rw[e1]
   ·exact nomatch e
  ·rcases bK hb with⟨j,u,rfl,e⟩ | ⟨y,u,rfl,e⟩
   ·exact nomatch e
   ·injection e with e1 _;rw[e1]
 byValue:=fun k v h=>by
  rcases bK h with⟨i,t,rfl,rfl⟩ | ⟨x,t,rfl,rfl⟩<;>rfl
 pyHash:=fun hv h=>by
  rcases bK hv with⟨i,t,rfl,rfl⟩ | ⟨x,t,rfl,rfl⟩
  ·exact wpAny_pyHash_int h
  ·exact wpAny_pyHash_str h
 eqBool:=fun hu hv h=>by
  rcases bK hu with⟨i,t,rfl,rfl⟩ | ⟨x,t,rfl,rfl⟩
  ·rcases bK hv with⟨j,u,rfl,rfl⟩ | ⟨y,u,rfl,rfl⟩
   ·rw[BE]at h;exact wpAny_eqBool_int h
   ·rw[Co]at h;exact SeqAt.EqAt.int_str i t y u _ _ _ _ h
  ·rcases bK hv with⟨j,u,rfl,rfl⟩ | ⟨y,u,rfl,rfl⟩
   ·rw[zG]at h;exact SeqAt.EqAt.str_int x t j u _ _ _ _ h
   ·rw[Aj]at h;exact wpAny_eqBool_str h
 «strs»:=fun k x t v h=>by
  rcases bK h with⟨i,u,rfl,e⟩ | ⟨y,u,rfl,e⟩
  ·exact nomatch e
  ·injection e with e1 _;subst e1;cases v<;>rfl
def p8(prog:Program)(w:World)(i:Int)(t:Tok):(bO prog w).is (.inl i) (.int i t)=true:=tu i t
def p6(prog:Program)(w:World)(x:Str)(t:Tok):(bO prog w).is (.inr x) (.str x t)=true:=uB x t
set_option genInjectivity true in
inductive V where
 | non | bl (b:Bool) | int (i:Int) | str (x:Str) | byt (b:Array UInt8) | flt (b:UInt64) | ref (a:Addr) | ty (n:String)
 deriving DecidableEq
abbrev RelV:V->Value->Prop
 | .non,u=>u=Value.none
 | .bl b,u=>u=Value.bool b
 | .int i,u=>∃ t,u=Value.int i t
 | .str x,u=>∃ t,u=Value.str x t
 | .byt b,u=>∃ t,u=Value.bytes b t
 | .flt b,u=>∃ t,u=Value.float b t
 | .ref a,u=>u=Value.ref a
 | .ty n,u=>u=Value.type n
@[reducible]noncomputable def Vals:List V->List Value->Prop:=Paired RelV
def Vals.length(r:Vals xs us):xs.length=us.length:=Paired.length r
def Vals.get:∀ {xs:List V} {us:List Value} {i:Nat} {x:V},Vals xs us->xs[i]?=some x->∃ u,us[i]?=some u/\RelV x u
 | _,_,_,_,.nil,e=>by simp at e
 | _,_,0,_,.cons r _,e=>by simp at e;subst e;exact⟨_,rfl,r⟩
 | _,_,i+1,x,.cons _ t,e=>by
  obtain⟨u,h1,h2⟩:=Vals.get t (by simpa using e);exact⟨u,by simpa using h1,h2⟩
def Vals.append:∀ {xs ys:List V} {us ws:List Value},Vals xs us->Vals ys ws->Vals (xs++ys) (us++ws)
 | _,_,_,_,.nil,s=>s
 | _,_,_,_,.cons r t,s=>.cons r (Vals.append t s)
def Vals.take:∀ {xs:List V} {us:List Value} (n:Nat),Vals xs us->Vals (xs.take n) (us.take n)
 | _,_,0,_=>.nil
 | _,_,_+1,.nil=>.nil
 | _,_,n+1,.cons r t=>.cons r (Vals.take n t)
def Vals.drop:∀ {xs:List V} {us:List Value} (n:Nat),Vals xs us->Vals (xs.drop n) (us.drop n)
 | _,_,0,r=>r
 | _,_,_+1,.nil=>.nil
 | _,_,n+1,.cons _ t=>Vals.drop n t
abbrev vP:Option V->Option Value->Prop
 | some v,some u=>RelV v u
 | none,none=>True
 | _,_=>False
abbrev KV:List (κ × V)->List (κ × Value)->Prop:=Paired fun(p:κ × V) (q:κ × Value)=>p.1=q.1/\RelV p.2 q.2
abbrev kV:Key->V
 | .inl i=>.int i
 | .inr x=>.str x
inductive HO where
  | lst (xs:List V)
  | tup (xs:List V)
  | dK (kvs:List (Key × V)) | dT (kvs:List (List Key × V))
  | set (S:Int->Bool) (n:Nat)
  | ins (C dx:Addr) (fs:List (Str × V))
  | own (x:Addr)
  | xd (fs:List (Str × V))
  | met (f x:Addr)
  | rng (lo hi:Int)
  | frz (o:Obj) (u:HO)
  | tbl (ps:Array Value)
  | ext (φ:Heap->Prop)
@[reducible]noncomputable def Hp:=Addr->Option HO
abbrev upd(H:Hp)(a:Addr)(o:HO):Hp:=fun b=>if b=a then some o else H b
def aR:upd H a o a=some o:=by unfold upd;rw[if_pos rfl]
def aB(h:b≠a):upd H a o b=H b:=by unfold upd;rw[if_neg h]
def jd{H:Hp}(h:H a=some o)(h':H b=some u)(d:o≠u):a≠b:=by
 intro e;subst e;rw[h]at h';exact d (Option.some.inj h')
def aG{H:Hp}(h:H a=some o)(h':H b=none):a≠b:=by
 intro e;subst e;rw[h]at h';cases h'
section
variable(P:Program)(w:World)
abbrev bu(H:Hp)(h:Heap)(a:Addr):HO->Prop
 | .lst xs=>xs.length<=sizeLine/\∃ (its:List Value) (n:Nat),Vals xs its/\h.get? a=some { cls:=.type "list",data:=.seq its.toArray n }
 | .tup xs=>xs.length<=sizeLine/\∃ its:List Value,Vals xs its/\IsTup h a its.toArray
 | .dK kvs=>kvs.length<=sizeLine/\(a == sysModules)=false/\∃ vs,KV kvs vs/\h.DictOf (bO P w) a vs
 | .dT kvs=>kvs.length<=sizeLine/\(a == sysModules)=false/\∃ xs:List (List Key × Addr × Value),
   Paired (fun(p:List Key × V) (q:List Key × Addr × Value)=>p.1=q.1/\H q.2.1=some (.tup (p.1.map kV))/\RelV p.2 q.2.2) kvs xs /\
   ∃ o es ep,h.get? a=some o/\o.ExactDict/\o.data=.dict es ep/\es.toList=xs.map (entryOfKey (tupleKind (bO P w)))/\(xs.map (·.1)).Nodup
 | .set S n=>h.SetOf (intKind P w) a S n
 | .ins C dx fs=>H dx=some (.own a)/\fs.length<=1000/\dx≠a/\h.get? a=some (PySem.W.instObj C dx) /\
   ∃ mA,h.Ns1 dx mA/\(∀ f,vP (fs.lookup f) (mA f))/\PySem.Within mA (fs.map (·.1))
 | .own _=>∃ o,h.get? a=some o
 | .xd fs=>∃ mA,h.Ns1 a mA/\∀ f,vP (fs.lookup f) (mA f)
 | .rng lo hi=>∃ t u v,h.get? a=some { cls:=.type "range",data:=.fields #[.int lo t,.int hi u,.int 1 v] }
 | .frz o u=>h.get? a=some o/\bu H h a u
 | .tbl ps=>h.get? a=some { cls:=.none,data:=.fields ps }
 | .met f x=>h.get? a=some (PySem.W.methodObj (.ref f) (.ref x))
 | .ext φ=>φ h/\(∃ o,h.get? a=some o)/\∀ h1 h2:Heap,φ h1->(∀ o,h1.get? a=some o->h2.get? a=some o)->φ h2
abbrev HOk(H:Hp)(h:Heap):Prop:=∀ a o,H a=some o->bu P w H h a o
end
section
variable{P:Program}{w:World}{H H':Hp}{h h':Heap}{a:Addr}{o:HO}
def bu.lt(x:bu P w H h a o):a<h.objs.size:=by
 cases o with
 | lst xs=>obtain⟨_,_,_,_,e⟩:=x;exact Heap.lt_size e
 | tup xs=>obtain⟨_,_,_,p⟩:=x;exact p.lt
 | dK kvs=>obtain⟨_,_,_,_,o,_,_,e,_⟩:=x;exact Heap.lt_size e
 | dT kvs=>obtain⟨_,_,_,_,o,_,_,e,_⟩:=x;exact Heap.lt_size e
 | set S n=>obtain⟨o,_,_,_,e,_⟩:=x;exact Heap.lt_size e
 | ins C dx fs=>obtain⟨_,_,_,e,_⟩:=x;exact Heap.lt_size e
 | own y=>obtain⟨_,e⟩:=x;exact Heap.lt_size e
 | xd fs=>obtain⟨_,⟨_,_,_,e,_⟩,_⟩:=x;exact Heap.lt_size e
 | rng lo hi=>obtain⟨_,_,_,e⟩:=x;exact Heap.lt_size e
 | frz ob u=>obtain⟨e,_⟩:=x;exact Heap.lt_size e
 | tbl ps=>exact Heap.lt_size (show h.get? a=some _ from x)
 | met f y=>exact Heap.lt_size (show h.get? a=some _ from x)
 | ext φ=>obtain⟨_,⟨_,e⟩,_⟩:=x;exact Heap.lt_size e
def Paired.A4:∀ {l₁:List α} {l₂:List β},Paired F l₁ l₂->(∀ a b,F a b->G a b)->Paired G l₁ l₂
 | _,_,.nil,_=>.nil
 | _,_,.cons r t,f=>.cons (f _ _ r) (Paired.A4 t f)
def bu.bQ(x:bu P w H h a o)(k:∀ b u,(b=a\/H b=some (.own a))->h.get? b=some u->h'.get? b=some u)
 (ho:∀ b,H b=some (.own a)->H' b=some (.own a))(ht:∀ b xs,H b=some (.tup xs)->H' b=some (.tup xs)):bu P w H' h' a o:=by
 induction o with
 | lst xs=>obtain⟨z,its,n,r,e⟩:=x;exact⟨z,its,n,r,k _ _ (.inl rfl) e⟩
 | tup xs=>obtain⟨z,its,r,ob,e,c⟩:=x;exact⟨z,its,r,ob,k _ _ (.inl rfl) e,c⟩
 | dK kvs=>obtain⟨z,y,vs,r,ob,es,ep,e,c⟩:=x;exact⟨z,y,vs,r,ob,es,ep,k _ _ (.inl rfl) e,c⟩
 |dT kvs=>
  obtain⟨z,y,xs,r,ob,es,ep,e,c⟩:=x;exact⟨z,y,xs,Paired.A4 r fun p q z=>⟨z.1,ht _ _ z.2.1,z.2.2⟩,ob,es,ep,k _ _ (.inl rfl) e,c⟩
 | set S n=>obtain⟨ob,es,ep,t,e,c⟩:=x;exact⟨ob,es,ep,t,k _ _ (.inl rfl) e,c⟩
 |ins C dx fs=>
  obtain⟨d,z,ne,e,mA,⟨od,es,ep,e2,c⟩,r⟩:=x;exact⟨ho _ d,z,ne,k _ _ (.inl rfl) e,mA,⟨od,es,ep,k _ _ (.inr d) e2,c⟩,r⟩
 | own y=>obtain⟨ob,e⟩:=x;exact⟨ob,k _ _ (.inl rfl) e⟩
 | xd fs=>obtain⟨mA,⟨od,es,ep,e,c⟩,r⟩:=x;exact⟨mA,⟨od,es,ep,k _ _ (.inl rfl) e,c⟩,r⟩
 | rng lo hi=>obtain⟨t,u,v,e⟩:=x;exact⟨t,u,v,k _ _ (.inl rfl) e⟩
 | frz ob u ih=>obtain⟨e,q⟩:=x;exact⟨k _ _ (.inl rfl) e,ih q⟩
 |tbl ps=>
  have e:h.get? a=some { cls:=.none,data:=.fields ps }:=x;show h'.get? a=some { cls:=.none,data:=.fields ps };exact k a _ (.inl rfl) e
 |met f y=>
  have e:h.get? a=some (PySem.W.methodObj (.ref f) (.ref y)):=x;show h'.get? a=some (PySem.W.methodObj (.ref f) (.ref y));exact k a _ (.inl rfl) e
 | ext φ=>obtain⟨p,⟨o,e⟩,st⟩:=x;exact⟨st _ _ p fun o q=>k _ _ (.inl rfl) q,⟨o,k _ _ (.inl rfl) e⟩,st⟩
def HOk.lt(x:HOk P w H h)(e:H a=some o):a<h.objs.size:=(x a o e).lt
def HOk.fresh(x:HOk P w H h)(e:h.objs.size<=a):H a=none:=by
 cases q:H a with
 | none=>rfl
 | some u=>exact absurd (Nat.lt_of_lt_of_le (x.lt q) e) (Nat.lt_irrefl _)
def HOk.kept(x:HOk P w H h)(k:∀ b u,h.get? b=some u->h'.get? b=some u):HOk P w H h':=fun a o e =>
 (x a o e).bQ (fun b u _ q=>k b u q) (fun _ q=>q) fun _ _ q=>q
def HOk.laid(x:HOk P w H h)(k:∀ b u,h.get? b=some u->h'.get? b=some u)(hp:h.objs.size<=a)(new:bu P w (upd H a o) h' a o):HOk P w (upd H a o) h':=fun b u e=>by
 have hn:=x.fresh hp;by_cases hb:b=a
 ·subst hb;rw[aR]at e;cases e;exact new
 ·rw[aB hb]at e
  exact(x b u e).bQ (fun c v _ q=>k c v q) (fun c q=>by rw[aB (aG q hn)];exact q) fun c xs q=>by rw[aB (aG q hn)];exact q
end
abbrev Rd(H:Hp)(a:Addr)(u:HO):Prop:=H a=some u\/∃ o,H a=some (.frz o u)
def Rd.ok(r:Rd H a u)(x:HOk P w H h):bu P w H h a u:=by
 rcases r with r | ⟨o,r⟩
 ·exact x a u r
 ·obtain⟨_,q⟩:=x a _ r;exact q
abbrev Mut:Option HO->Prop
 | some (.lst _)=>True
 | some (.dK _)=>True
 | some (.dT _)=>True
 | some (.set _ _)=>True
 | some (.ins _ _ _)=>True
 | some (.ext _)=>True
 | _=>False
section
variable{P:Program}{w:World}{H:Hp}{h h':Heap}{x e:Addr}{o':HO}
def HOk.write(ok:HOk P w H h)(mu:Mut (H x))(he:e=x\/H e=some (.own x))(k:∀ b u,b≠e->h.get? b=some u->h'.get? b=some u)(heo:∃ u,h'.get? e=some u)
 (new:bu P w (upd H x o') h' x o'):HOk P w (upd H x o') h':=fun b u q=>by
 have nown:∀ c y,H c=some (.own y)->c≠x:=fun c y r z=>by subst z;rw[r]at mu;exact mu
 have ntup:∀ c xs,H c=some (.tup xs)->c≠x:=fun c xs r z=>by subst z;rw[r]at mu;exact mu
 by_cases hb:b=x
 ·subst hb;rw[aR]at q;cases q;exact new
 ·rw[aB hb]at q;by_cases hbe:b=e
  ·have q':H b=some (.own x):=by
    rcases he with z | z
    ·exact absurd (hbe.trans z) hb
    ·rw[hbe];exact z
   rw[q]at q';cases q';obtain⟨v,hv⟩:=heo;exact⟨v,by rw[hbe];exact hv⟩
  ·refine(ok b u q).bQ (fun c v hc r=>k c v ?_ r) (fun c r=>by rw[aB (nown c b r)];exact r) fun c xs r=>by rw[aB (ntup c xs r)];exact r
   rcases hc with rfl | hc
   ·exact hbe
   ·rintro rfl;rcases he with z | z
    ·exact nown c b hc z
    ·rw[hc]at z;cases z;exact hb rfl
end
structure Un(fs ex:List Addr)(H H':Hp)(h h':Heap):Prop where
 keep:∀ b o,h.get? b=some o->H b=none->b∉fs->b∉ex->h'.get? b=some o
 slot:∀ b o,h.get? b=some o->H b=none->b∈fs->b∉ex->∃ sl,h'.get? b=some { o with slots:=sl }
 free:∀ b o,h.get? b=some o->H b=none->b∉ex->H' b=none
 there:∀ b o,h.get? b=some o->b∉ex->∃ o',h'.get? b=some o'
 dJ:∀ b xs,H b=some (.tup xs)->H' b=some (.tup xs)
 cI:∀ b o u,H b=some (.frz o u)->H' b=some (.frz o u)
 dH:∀ b ps,H b=some (.tbl ps)->∃ more,H' b=some (.tbl (ps++more))
section
variable{fs fs' ex ex':List Addr}{H H1 H2:Hp}{h h1 h2 h':Heap}{a x e:Addr}{o:HO}
def Un.any(u:Un fs ex H H1 h h1)(q:h.get? b=some ob)(n:H b=none)(hx:b∉ex):∃ sl,h1.get? b=some { ob with slots:=sl }:=by
 by_cases hb:b∈fs
 ·exact u.slot b ob q n hb hx
 ·exact⟨ob.slots,u.keep b ob q n hb hx⟩
def Un.kept(k:∀ b u,h.get? b=some u->h'.get? b=some u):Un fs ex H H h h' :=
 ⟨fun b ob q _ _ _=>k b ob q,fun b ob q _ _ _=>⟨ob.slots,k b ob q⟩,fun _ _ _ n _=>n,fun b ob q _=>⟨ob,k b ob q⟩,fun _ _ q=>q,fun _ _ _ q=>q,fun _ ps q=>⟨#[],by rw[q];simp⟩⟩
def Un.refl:Un fs ex H H h h:=Un.kept fun _ _ q=>q
def Un.laid(k:∀ b u,h.get? b=some u->h'.get? b=some u)(hp:h.objs.size<=a)(hn:H a=none):Un fs ex H (upd H a o) h h' where
 keep:=fun b u q _ _ _=>k b u q
 slot:=fun b u q _ _ _=>⟨u.slots,k b u q⟩
 free:=fun b u q n _=>by rw[aB (Nat.ne_of_lt (Nat.lt_of_lt_of_le (Heap.lt_size q) hp))];exact n
 there:=fun b u q _=>⟨u,k b u q⟩
 dJ:=fun b xs q=>by rw[aB (aG q hn)];exact q
 cI:=fun b u xs q=>by rw[aB (aG q hn)];exact q
 dH:=fun b ps q=>⟨#[],by rw[aB (aG q hn),q];simp⟩
def Un.write(mu:Mut (H x))(he:e=x\/H e=some (.own x))(k:∀ b u,b≠e->h.get? b=some u->h'.get? b=some u)(heo:∃ u,h'.get? e=some u):Un fs ex H (upd H x o) h h':=by
 have hx:∀ b,H b=none->b≠x:=fun b n z=>by subst z;rw[n]at mu;exact mu
 have hb:∀ b,H b=none->b≠e:=fun b n z=>by
  subst z;rcases he with r | r
  ·exact hx b n r
  ·rw[n]at r;cases r
 have hm:∀ b u,H b=some u->¬ Mut (some u)->b≠x:=fun b u q nm z=>by subst z;rw[q]at mu;exact nm mu
 refine⟨fun b u q n _ _=>k b u (hb b n) q,fun b u q n _ _=>⟨u.slots,k b u (hb b n) q⟩,fun b u q n _=>by rw[aB (hx b n)];exact n,fun b u q _=>?_,
  fun b xs q=>by rw[aB (hm b _ q fun z=>z)];exact q,fun b u xs q=>by rw[aB (hm b _ q fun z=>z)];exact q,fun b ps q=>⟨#[],by rw[aB (hm b _ q fun z=>z),q];simp⟩⟩
 by_cases hbe:b=e
 ·subst hbe;exact heo
 ·exact⟨u,k b u hbe q⟩
end
abbrev trk(h:Heap)(H:Hp):List Addr:=(List.range h.objs.size).filter fun a=>(H a).isSome
abbrev ic(h:Heap)(H:Hp):Heap:=PySem.W.hideAll h (trk h H)
def sj(h:Heap)(H:Hp):(ic h H).objs.size=h.objs.size:=PySem.W.hideAll_size _ _
def vc(e:h.get? b=some o)(n:H b=none):(ic h H).get? b=some o :=
 PySem.W.hideAll_get _ e fun hm=>by
  have q:=(List.mem_filter.mp hm).2;rw[n]at q;simp at q
def yW(e:(ic h H).get? b=some o):h.get? b=some o/\H b=none:=by
 have e':=PySem.W.of_hideAll (trk h H) e;refine⟨e',?_⟩
 cases q:H b with
 | none=>rfl
 |some x=>
  have hm:b∈trk h H:=List.mem_filter.mpr ⟨List.mem_range.mpr (Heap.lt_size e'),by simp[q]⟩;have z:(ic h H).get? b=none:=PySem.W.hideAll_none (trk h H) hm;rw[z]at e;cases e
structure Mod(K:PySem.W.Frag)(mg:Str->Option Value)(base:Heap):Prop where
 kin:K.In base
 glob:base.Ns mainGlobals mg
 blt:∃ mb,base.Ns builtinsNs mb/\∀ x:Str,x ≠ "__name__" -> mb x=bootBuiltins x
 nolimit:base.NoLimit
structure Cx where
 prog:Program
 w:World
 K:PySem.W.Frag
 mg:Str->Option Value
 base:Heap
 A:Around
 N:List Str
 s₀:Shared
 H₀:Hp
 env:Env
 outer:List Env
 stack:List Env
 ex:List Addr
 fn:Str->Bool
 calm:Bool
 pn:List (Addr × Obj)
 xe:Value->Shared->Prop
abbrev frs(l:List Env):List Addr:=l.filterMap (·.frame)
@[reducible]noncomputable def Cx.fs(X:Cx):List Addr:=frs X.outer
abbrev Vis(sc:Scope)(x:Str):Prop:=sc.names.lookup x=some .local\/sc.names.lookup x=some .cell\/sc.names.lookup x=some .free
abbrev Loc(sc:Scope)(x:Str):Prop:=sc.names.lookup x=some .local\/sc.names.lookup x=some .cell
abbrev Look(env:Env)(h:Heap)(m:Str->Option Value)(x:Str)(u:Value):Prop :=
 (env.kindOf x=some .local/\m x=some u)\/((env.kindOf x=some .cell\/env.kindOf x=some .free)/\∃ c,env.cells.lookup x=some c/\h.IsCell c (some u))
abbrev HX(X:Cx):Prop:=X.A.handled=none\/∃ h o u vs,X.A.handled=some (.ref h)/\X.H₀ h=some (.frz o u)/\o.data=.fields vs/\vs[2]?=some .none
structure Cx.Ok(X:Cx):Prop where
 mod:Mod X.K X.mg X.base
 kind:X.env.scope.kind=.function
 glob:X.env.globals=mainGlobals
 blt:X.env.builtins=builtinsNs
 above:X.s₀.heap.objs.size<=X.env.locals
 inj:∀ x y c,X.env.cells.lookup x=some c->X.env.cells.lookup y=some c->x=y
 has:∀ x,(X.env.kindOf x=some .cell\/X.env.kindOf x=some .free)->∃ c,X.env.cells.lookup x=some c
 cab:∀ x c,X.fn x=true->X.env.cells.lookup x=some c->X.s₀.heap.objs.size<=c
 hd:(X.calm=true->X.A.handled=none)/\HX X
 frames:X.A.frames=some X.stack
 stk:X.stack=X.outer\/(X.stack=X.env::X.outer/\X.env.frame=some X.env.locals)
 exf:∀ b∈X.ex,b≠X.env.locals/\∀ x c,X.env.cells.lookup x=some c->c≠b
 bs:∀ b o,X.base.get? b=some o->X.s₀.heap.get? b=some o/\X.H₀ b=none
 bsz:X.base.objs.size<=X.s₀.heap.objs.size
 gN:∀ b o,X.base.get? b=some o->b∉X.ex
 gS:∀ b∈X.ex,b∉X.fs
 de:X.s₀.heap.FunFrames X.base X.outer
 frf:∀ b∈X.fs,X.H₀ b=none
structure Inv(X:Cx)(pins:List (Addr × Obj))(σ:List (Option V))(H:Hp)(s:Shared):Prop where
 ok:X.Ok
 os:s.os=X.s₀.os
 bare:AllBare s.gens
 base:Un X.fs X.ex X.H₀ H X.s₀.heap s.heap
 loc:∃ m,s.heap.Ns X.env.locals m/\∀ (i:Nat) (x:Str) (v:V),X.N[i]?=some x->σ[i]?=some (some v)->Vis X.env.scope x->∃ u,RelV v u/\Look X.env s.heap m x u
 cell:∀ x c,X.env.cells.lookup x=some c->∃ v,s.heap.IsCell c v
 free:H X.env.locals=none
 cy:∀ x c,X.env.cells.lookup x=some c->H c=none
 pin:∀ p∈X.pn++pins,s.heap.get? p.1=some p.2/\H p.1=none/\p.1≠X.env.locals/\p.1∉X.fs/\∀ v,p.2.data≠.cell v
 hok:HOk X.prog X.w H s.heap
 len:σ.length=X.N.length
section
variable{X:Cx}{pins:List (Addr × Obj)}{σ:List (Option V)}{H H':Hp}{s:Shared}{h':Heap}
def Cx.Ok.Ei(ok:X.Ok)(e:X.base.get? b=some o):b∉X.fs:=fun hb=>by
 have:=(ok.de.mem hb).1;rw[e]at this;cases this
def Inv.bs(I:Inv X pins σ H s):∀ b o,X.base.get? b=some o->s.heap.get? b=some o/\H b=none:=fun b o e =>
 ⟨I.base.keep b o (I.ok.bs b o e).1 (I.ok.bs b o e).2 (I.ok.Ei e) (I.ok.gN b o e),I.base.free b o (I.ok.bs b o e).1 (I.ok.bs b o e).2 (I.ok.gN b o e)⟩
def Inv.bk(I:Inv X pins σ H s):∀ b o,X.base.get? b=some o->s.heap.get? b=some o:=fun b o e=>(I.bs b o e).1
def Inv.mod(I:Inv X pins σ H s):Mod X.K X.mg X.base:=I.ok.mod
def Inv.kIn(I:Inv X pins σ H s):X.K.In s.heap:=I.ok.mod.kin.keeps I.bk
def Inv.lt(I:Inv X pins σ H s):X.env.locals<s.heap.objs.size:=let ⟨_,hn,_⟩:=I.loc;hn.lt
def Inv.sz(I:Inv X pins σ H s):X.s₀.heap.objs.size<=s.heap.objs.size:=Nat.le_trans I.ok.above (Nat.le_of_lt I.lt)
def Inv.Eh(I:Inv X pins σ H s)(h:s.heap.objs.size<=a):a∉X.fs:=fun hb=>by
 obtain⟨_,o,ho,_⟩:=I.ok.de.mem hb;exact absurd (Nat.lt_of_lt_of_le (Heap.lt_size ho) (Nat.le_trans I.sz h)) (Nat.lt_irrefl _)
def Inv.cne(I:Inv X pins σ H s):∀ x c,X.env.cells.lookup x=some c->c≠X.env.locals:=fun x c e z=>by
 obtain⟨v,o,ho,hd⟩:=I.cell x c e;obtain⟨m,⟨o',es,ep,ho',hd',_⟩,_⟩:=I.loc;rw[z,ho']at ho;cases ho;rw[hd']at hd;cases hd
def Inv.de(I:Inv X pins σ H s):s.heap.FunFrames X.base X.outer:=by
 have all:∀ (l:List Env),(∀ b∈frs l,b∈X.fs)->X.s₀.heap.FunFrames X.base l->s.heap.FunFrames X.base l:=by
  intro l
  induction l with
  | nil=>intro _ _;trivial
  |cons env r ih=>
   intro hs hl;obtain⟨hk,⟨L,o,hf,hn,ho,hd⟩,hr⟩:=hl;have hL:=hs L (by unfold frs;rw[List.filterMap_cons,hf];exact List.mem_cons_self);obtain⟨sl,e⟩:=I.base.slot L o ho (I.ok.frf L hL) hL fun z=>I.ok.gS L z hL;exact⟨hk,⟨L,_,hf,hn,e,hd⟩,ih (fun b hb=>hs b (by unfold frs;rw[List.filterMap_cons,hf];exact List.mem_cons_of_mem _ hb)) hr⟩
 exact all X.outer (fun _ hb=>hb) I.ok.de
def Inv.stack(I:Inv X pins σ H s):s.heap.FunFrames X.base X.stack:=by
 rcases I.ok.stk with e | ⟨e,hf⟩
 ·rw[e];exact I.de
 ·rw[e];obtain⟨m,hn,_⟩:=I.loc;refine .cons (by rw[I.ok.kind];decide) hf hn ?_ I.de;exact Heap.get?_none_of_le (Nat.le_trans I.ok.bsz I.ok.above)
def Inv.oD(I:Inv X pins σ H s):∀ b∈frs X.stack,b∈X.env.locals::X.fs:=fun b hb=>by
 rcases I.ok.stk with e | ⟨e,hf⟩
 ·rw[e]at hb;exact List.mem_cons_of_mem _ hb
 ·rw[e]at hb;unfold frs at hb;rw[List.filterMap_cons,hf]at hb;exact hb
def Inv.iR(I:Inv X pins σ H s):∀ b∈frs X.stack,H b=none:=fun b hb=>by
 rcases List.mem_cons.mp (I.oD b hb)with e | hb
 ·rw[e];exact I.free
 ·obtain⟨_,o,ho,_⟩:=I.ok.de.mem hb;exact I.base.free b o ho (I.ok.frf b hb) fun z=>I.ok.gS b z hb
def Inv.step{g':Array GenState}{t':Nat}{d':Drawn}{ch:List Addr}(I:Inv X pins σ H s)
 (hch:∀ b∈ch,(b∈X.ex\/X.s₀.heap.objs.size<=b)/\b≠X.env.locals/\(∀ x c,X.env.cells.lookup x=some c->c≠b)/\∀ p∈X.pn++pins,p.1≠b)
 (keep:∀ b o,b≠X.env.locals->b∉X.fs->b∉ch->s.heap.get? b=some o->H b=none->h'.get? b=some o)
 (slot:∀ b o,b≠X.env.locals->b∈X.fs->b∉ch->s.heap.get? b=some o->H b=none->∃ sl,h'.get? b=some { o with slots:=sl })(free:∀ b o,b∉ch->s.heap.get? b=some o->H b=none->H' b=none)
 (there:∀ b o,b∉ch->s.heap.get? b=some o->∃ o',h'.get? b=some o')
 (dJ:∀ b xs,H b=some (.tup xs)->H' b=some (.tup xs))(cI:∀ b o u,H b=some (.frz o u)->H' b=some (.frz o u))(dH:∀ b ps,H b=some (.tbl ps)->∃ more,H' b=some (.tbl (ps++more)))
 (ns:∀ m,s.heap.Ns X.env.locals m->h'.Ns X.env.locals m)(hok:HOk X.prog X.w H' h')(hg:AllBare g') :
  Inv X pins σ H' { s with heap:=h',gens:=g',drawn:=d',toks:=t' }:=by
 have neL:∀ b o,X.s₀.heap.get? b=some o->b≠X.env.locals:=fun b o e=>Nat.ne_of_lt (Nat.lt_of_lt_of_le (Heap.lt_size e) I.ok.above)
 have neC:∀ b o,X.s₀.heap.get? b=some o->b∉X.ex->b∉ch:=fun b o e hx hb=>by
  rcases(hch b hb).1 with z | z
  ·exact hx z
  ·exact absurd (Nat.lt_of_lt_of_le (Heap.lt_size e) z) (Nat.lt_irrefl _)
 have cellK:∀ x c,X.env.cells.lookup x=some c->∀ v,s.heap.IsCell c v->h'.IsCell c v:=fun x c e v ⟨o,ho,hd⟩=>by
  have nch:c∉ch:=fun z=>(hch c z).2.2.1 x c e rfl;by_cases hc:c∈X.fs
  ·obtain⟨sl,q⟩:=slot c o (I.cne x c e) hc nch ho (I.cy x c e);exact⟨_,q,hd⟩
  ·exact⟨o,keep c o (I.cne x c e) hc nch ho (I.cy x c e),hd⟩
 refine⟨I.ok,I.os,hg,⟨fun b o e n hb hx=>?_,fun b o e n hb hx=>?_,fun b o e n hx=>?_,fun b o e hx=>?_,fun b xs e=>dJ b xs (I.base.dJ b xs e),fun b o xs e=>cI b o xs (I.base.cI b o xs e),fun b ps e=>?_⟩,?_,fun x c e=>?_,?_,fun x c e=>?_,fun p hp=>?_,hok,I.len⟩
 ·exact keep b o (neL b o e) hb (neC b o e hx) (I.base.keep b o e n hb hx) (I.base.free b o e n hx)
 ·obtain⟨sl,e1⟩:=I.base.slot b o e n hb hx;obtain⟨sl',e2⟩:=slot b _ (neL b o e) hb (neC b o e hx) e1 (I.base.free b o e n hx);exact⟨sl',e2⟩
 ·obtain⟨o',e1⟩:=I.base.there b o e hx;exact free b o' (neC b o e hx) e1 (I.base.free b o e n hx)
 ·obtain⟨o',e1⟩:=I.base.there b o e hx;exact there b o' (neC b o e hx) e1
 ·obtain⟨m1,e1⟩:=I.base.dH b ps e;obtain⟨m2,e2⟩:=dH b _ e1;exact⟨m1++m2,by rw[e2,Array.append_assoc]⟩
 ·obtain⟨m,hn,hl⟩:=I.loc;refine⟨m,ns m hn,fun i x v e1 e2 e3=>?_⟩;obtain⟨u,r,l⟩:=hl i x v e1 e2 e3;refine⟨u,r,?_⟩
  rcases l with l | ⟨k,c,e,z⟩
  ·exact .inl l
  ·exact .inr ⟨k,c,e,cellK x c e _ z⟩
 ·obtain⟨v,z⟩:=I.cell x c e;exact⟨v,cellK x c e v z⟩
 ·obtain⟨m,⟨o,_,_,ho,_⟩,_⟩:=I.loc;exact free _ o (fun z=>(hch _ z).2.1 rfl) ho I.free
 ·obtain⟨v,o,ho,hd⟩:=I.cell x c e;exact free c o (fun z=>(hch c z).2.2.1 x c e rfl) ho (I.cy x c e)
 ·obtain⟨e,n,ne,nf,d⟩:=I.pin p hp;have nch:p.1∉ch:=fun z=>(hch p.1 z).2.2.2 p hp rfl;exact⟨keep p.1 p.2 ne nf nch e n,free p.1 p.2 nch e n,ne,nf,d⟩
def Inv.un(I:Inv X pins σ H s)(u:Un X.fs [] H H' s.heap h')(hok:HOk X.prog X.w H' h'):Inv X pins σ H' { s with heap:=h',toks:=t' }:=by
 obtain⟨m,⟨o,es,ep,ho,r⟩,_⟩:=id I.loc;obtain⟨sl,hL⟩:=u.any ho I.free (by simp)
 exact I.step (g':=s.gens) (d':=s.drawn) (ch:=[]) (fun _ z=>nomatch z) (fun b o _ hb _ e n=>u.keep b o e n hb (by simp)) (fun b o _ hb _ e n=>u.slot b o e n hb (by simp)) (fun b o _ e n=>u.free b o e n (by simp)) (fun b o _ e=>u.there b o e (by simp)) u.dJ u.cI u.dH (fun m' hm=>by
  obtain⟨o',es',ep',ho',r'⟩:=hm;rw[ho]at ho';cases ho'
  exact⟨_,es',ep',hL,r'⟩) hok I.bare
def Inv.call(I:Inv X pins σ H s)(u:Un (frs X.stack) ch H H' s.heap h')(hok:HOk X.prog X.w H' h')(hg:AllBare g')
 (hch:∀ b∈ch,(b∈X.ex\/X.s₀.heap.objs.size<=b)/\b≠X.env.locals/\(∀ x c,X.env.cells.lookup x=some c->c≠b)/\∀ p∈X.pn++pins,p.1≠b) :
  Inv X pins σ H' { s with heap:=h',gens:=g',drawn:=d',toks:=t' }:=by
 obtain⟨m,⟨o,es,ep,ho,r⟩,_⟩:=id I.loc;obtain⟨sl,hL⟩:=u.any ho I.free fun z=>(hch _ z).2.1 rfl
 exact I.step (ch:=ch) hch (fun b o hL hb hc e n=>u.keep b o e n (fun z=>(List.mem_cons.mp (I.oD b z)).elim hL hb) hc) (fun b o _ _ hc e n=>u.any e n hc) (fun b o hc e n=>u.free b o e n hc) (fun b o hc e=>u.there b o e hc) u.dJ u.cI u.dH (fun m' hm=>by
  obtain⟨o',es',ep',ho',r'⟩:=hm;rw[ho]at ho';cases ho'
  exact⟨_,es',ep',hL,r'⟩) hok hg
def Inv.turned(I:Inv X pins σ H s)(k:∀ b o,b≠it->s.heap.get? b=some o->h'.get? b=some o)(hn:H it=none)(hL:it≠X.env.locals)
 (h1:it∈X.ex\/X.s₀.heap.objs.size<=it)(h2:∀ x c,X.env.cells.lookup x=some c->c≠it)(h3:∀ p∈X.pn++pins,p.1≠it):Inv X pins σ H { s with heap:=h',toks:=t' }:=by
 have nit:∀ b u,H b=some u->b≠it:=fun b u e z=>by rw[z,hn]at e;cases e
 refine I.step (g':=s.gens) (d':=s.drawn) (ch:=[it]) (fun b hb=>?_) (fun b o _ _ hc e _=>k b o (fun z=>hc (by simp[z])) e) (fun b o _ _ hc e _=>⟨o.slots,k b o (fun z=>hc (by simp[z])) e⟩) (fun _ _ _ _ n=>n)
  (fun b o hc e=>⟨o,k b o (fun z=>hc (by simp[z])) e⟩) (fun _ _ e=>e) (fun _ _ _ e=>e) (fun b ps e=>⟨#[],by rw[e];simp⟩) (fun m hm=>?_) (fun b u e=>?_) I.bare
 ·have e:b=it:=by simpa using hb
  subst e;exact⟨h1,hL,h2,h3⟩
 ·obtain⟨o,es,ep,ho,r⟩:=hm;exact⟨o,es,ep,k _ o (Ne.symm hL) ho,r⟩
 ·refine(I.hok b u e).bQ (fun c v hc q=>k c v ?_ q) (fun _ q=>q) fun _ _ q=>q;rcases hc with z | z
  ·rw[z];exact nit b u e
  ·exact nit c _ z
def Inv.tok(I:Inv X pins σ H s)(t:Nat):Inv X pins σ H { s with toks:=t }:=I.un Un.refl I.hok
def Inv.kept(I:Inv X pins σ H s)(k:∀ b u,s.heap.get? b=some u->h'.get? b=some u):Inv X pins σ H { s with heap:=h',toks:=t' }:=I.un (Un.kept k) (I.hok.kept k)
def Inv.laid(I:Inv X pins σ H s)(k:∀ b u,s.heap.get? b=some u->h'.get? b=some u)(hp:s.heap.objs.size<=a)(new:bu X.prog X.w (upd H a o) h' a o) :
  Inv X pins σ (upd H a o) { s with heap:=h',toks:=t' }:=I.un (Un.laid k hp (I.hok.fresh hp)) (I.hok.laid k hp new)
def Inv.write(I:Inv X pins σ H s)(mu:Mut (H x))(he:e=x\/H e=some (.own x))(k:∀ b u,b≠e->s.heap.get? b=some u->h'.get? b=some u)(heo:∃ u,h'.get? e=some u)
 (new:bu X.prog X.w (upd H x o) h' x o):Inv X pins σ (upd H x o) { s with heap:=h',toks:=t' }:=I.un (Un.write mu he k heo) (I.hok.write mu he k heo new)
def Inv.weak(I:Inv X pins σ H s)(hl:σ'.length=σ.length)(w:∀ (i:Nat) v,σ'[i]?=some (some v)->σ[i]?=some (some v)):Inv X pins σ' H s :=
 ⟨I.ok,I.os,I.bare,I.base,let ⟨m,hn,hl'⟩:=I.loc;⟨m,hn,fun i x v e1 e2 e3=>hl' i x v e1 (w i v e2) e3⟩,I.cell,I.free,I.cy,I.pin,I.hok,hl.trans I.len⟩
def Inv.qj(I:Inv X pins σ H s)(h:∀ p∈pins',s.heap.get? p.1=some p.2/\H p.1=none/\p.1≠X.env.locals/\p.1∉X.fs/\∀ v,p.2.data≠.cell v):Inv X pins' σ H s :=
 ⟨I.ok,I.os,I.bare,I.base,I.loc,I.cell,I.free,I.cy,fun p hp=>(List.mem_append.mp hp).elim (fun z=>I.pin p (List.mem_append_left _ z)) (h p),I.hok,I.len⟩
def j6{N:List Str}(hN:N.Nodup){i j:Nat}(a:N[i]?=some x)(b:N[j]?=some x):i=j:=by
 obtain⟨h1,e1⟩:=List.getElem?_eq_some_iff.mp a;obtain⟨h2,e2⟩:=List.getElem?_eq_some_iff.mp b;exact(List.getElem_inj hN).mp (e1.trans e2.symm)
def lW{M:Model}{A:Around}(I:Inv X pins σ H s)(hN:X.N.Nodup)(hi:X.N[i]?=some x)(hx:Loc X.env.scope x)(r:RelV v u)
 (h:∀ s',Inv X pins (σ.set i (some v)) H s'->(∃ a,Heap.SameBut a s.heap s'.heap/\(a=X.env.locals\/X.env.cells.lookup x=some a))->Q () s')(hf:X.fn x=true\/X.env.scope.names.lookup x=some .local):wpAny M A (storeName X.env x u) Q E s:=by
 obtain⟨m,hn,hl⟩:=id I.loc
 have hcls:(X.env.scope.kind == .class || (X.env.scope.kind == .module&&X.env.locals != X.env.globals))=false:=by rw[I.ok.kind];rfl
 have hiσ:i<σ.length:=by rw[I.len];exact(List.getElem?_eq_some_iff.mp hi).1
 have cne:=I.cne
 have tracked:∀ {a:Addr} {h':Heap},(∃ o,s.heap.get? a=some o/\H a=none)->Heap.SameBut a s.heap h'->HOk X.prog X.w H h':=fun {a h'} ha hs b ob e=>by
  obtain⟨_,_,hfree⟩:=ha;refine(I.hok b ob e).bQ (fun c w' hc q=>(hs.2 c ?_).trans q) (fun _ q=>q) fun _ _ q=>q;rintro rfl;rcases hc with rfl | hc
  ·rw[hfree]at e;cases e
  ·rw[hfree]at hc;cases hc
 rcases hx with hk | hk
 ·refine wpAny_storeName_local hk hn (fun h' hn' hs=>?_) hcls;obtain⟨oL,_,_,hoL,_⟩:=id hn;refine h _ ⟨I.ok,I.os,I.bare,⟨fun b o e n hb hx=>?_,fun b o e n hb hx=>?_,I.base.free,fun b o e hx=>?_,I.base.dJ,I.base.cI,I.base.dH⟩,⟨_,hn',fun j y v' e1 e2 e3=>?_⟩,fun y c e=>?_,I.free,I.cy,fun p hp=>?_,tracked ⟨oL,hoL,I.free⟩ hs,by simpa using I.len⟩ ⟨_,hs,.inl rfl⟩
  ·exact(hs.2 b (Nat.ne_of_lt (Nat.lt_of_lt_of_le (Heap.lt_size e) I.ok.above))).trans (I.base.keep b o e n hb hx)
  ·obtain⟨sl,e1⟩:=I.base.slot b o e n hb hx;exact⟨sl,(hs.2 b (Nat.ne_of_lt (Nat.lt_of_lt_of_le (Heap.lt_size e) I.ok.above))).trans e1⟩
  ·obtain⟨o',e1⟩:=I.base.there b o e hx;exact⟨o',(hs.2 b (Nat.ne_of_lt (Nat.lt_of_lt_of_le (Heap.lt_size e) I.ok.above))).trans e1⟩
  ·by_cases hj:j=i
   ·subst hj;rw[hi]at e1;cases e1;rw[List.getElem?_set_self hiσ]at e2;cases e2;exact⟨u,r,.inl ⟨hk,by simp⟩⟩
   ·rw[List.getElem?_set_ne (Ne.symm hj)]at e2;obtain⟨u',r',q⟩:=hl j y v' e1 e2 e3;refine⟨u',r',?_⟩
    rcases q with⟨k,e⟩ | ⟨k,c,e,z⟩
    ·refine .inl ⟨k,?_⟩;have:y≠x:=fun e=>hj (j6 hN e1 (e▸hi));simp[this,e]
    ·exact .inr ⟨k,c,e,z.sameBut hs (cne y c e)⟩
  ·obtain⟨w',z⟩:=I.cell y c e;exact⟨w',z.sameBut hs (cne y c e)⟩
  ·obtain⟨e,n,ne,nf,d⟩:=I.pin p hp;exact⟨(hs.2 p.1 ne).trans e,n,ne,nf,d⟩
 ·have hfn:X.fn x=true:=by
   rcases hf with z | z
   ·exact z
   ·rw[z]at hk;cases hk
  obtain⟨c,hc⟩:=I.ok.has x (.inl hk);obtain⟨w',z⟩:=I.cell x c hc;refine wpAny_storeName_cell I.ok.kind hk hc z (fun h' hc' hs=>?_);obtain⟨oc,hoc,hocd⟩:=id z;refine h { s with heap:=h' } ⟨I.ok,I.os,I.bare,⟨fun b o e n hb hx=>?_,fun b o e n hb hx=>?_,I.base.free,fun b o e hx=>?_,I.base.dJ,I.base.cI,I.base.dH⟩,⟨m,hn.sameBut hs (Ne.symm (cne x c hc)),fun j y v' e1 e2 e3=>?_⟩,fun y c' e=>?_,I.free,I.cy,fun p hp=>?_,tracked ⟨oc,hoc,I.cy x c hc⟩ hs,by simpa using I.len⟩ ⟨c,hs,.inr hc⟩
  ·exact(hs.2 b (Nat.ne_of_lt (Nat.lt_of_lt_of_le (Heap.lt_size e) (I.ok.cab x c hfn hc)))).trans (I.base.keep b o e n hb hx)
  ·obtain⟨sl,e1⟩:=I.base.slot b o e n hb hx;exact⟨sl,(hs.2 b (Nat.ne_of_lt (Nat.lt_of_lt_of_le (Heap.lt_size e) (I.ok.cab x c hfn hc)))).trans e1⟩
  ·obtain⟨o',e1⟩:=I.base.there b o e hx;exact⟨o',(hs.2 b (Nat.ne_of_lt (Nat.lt_of_lt_of_le (Heap.lt_size e) (I.ok.cab x c hfn hc)))).trans e1⟩
  ·by_cases hj:j=i
   ·subst hj;rw[hi]at e1;cases e1;rw[List.getElem?_set_self hiσ]at e2;cases e2;exact⟨u,r,.inr ⟨.inl hk,c,hc,hc'⟩⟩
   ·rw[List.getElem?_set_ne (Ne.symm hj)]at e2;obtain⟨u',r',q⟩:=hl j y v' e1 e2 e3;refine⟨u',r',?_⟩
    rcases q with q | ⟨k,c',e,z'⟩
    ·exact .inl q
    ·refine .inr ⟨k,c',e,z'.sameBut hs ?_⟩;rintro rfl;exact hj (j6 hN e1 (I.ok.inj _ _ _ e hc▸hi))
  ·by_cases hcc:c'=c
   ·subst hcc;exact⟨_,hc'⟩
   ·obtain⟨w2,z2⟩:=I.cell y c' e;exact⟨w2,z2.sameBut hs hcc⟩
  ·obtain⟨e,n,ne,nf,d⟩:=I.pin p hp;refine⟨(hs.2 p.1 ?_).trans e,n,ne,nf,d⟩;intro q;rw[q,hoc]at e;have q':oc=p.2:=Option.some.inj e;exact d w' (by rw[<-q'];exact hocd)
def ig(I:Inv X pins σ H s)(hN:X.N.Nodup)(hi:X.N[i]?=some x)(hx:Loc X.env.scope x)(r:RelV v u)
 (h:∀ s',Inv X pins (σ.set i (some v)) H s'->Q () s')(hf:X.fn x=true\/X.env.scope.names.lookup x=some .local):wpAny M A (storeName X.env x u) Q E s :=
 lW I hN hi hx r (fun s' I' _=>h s' I') hf
def Inv.mj(I:Inv X pins σ H s)(ho:s'.os=s.os)(u:Un (frs X.stack) ch H H' s.heap s'.heap)(hok:HOk X.prog X.w H' s'.heap)(hg:AllBare s'.gens)
 (hch:∀ b∈ch,(b∈X.ex\/X.s₀.heap.objs.size<=b)/\b≠X.env.locals/\(∀ x c,X.env.cells.lookup x=some c->c≠b)/\∀ p∈X.pn++pins,p.1≠b):Inv X pins σ H' s':=by
 obtain⟨h',g',d',t',o'⟩:=s';have e:o'=s.os:=ho;subst e;exact I.call (g':=g') (t':=t') (d':=d') u hok hg hch
end
@[reducible]noncomputable def XK:=Value->Option Addr->Hp->Prop
@[reducible]noncomputable def St:=List (Option V)
@[reducible]noncomputable def VK:=V->Hp->Prop
@[reducible]noncomputable def TE:=St->Hp->VK->Prop
@[reducible]noncomputable def TT:=St->Hp->(Bool->Hp->Prop)->Prop
@[reducible]noncomputable def TA:=St->Hp->(List V->Hp->Prop)->Prop
structure Ends where
 nx:St->Hp->Prop
 rt:VK
 bk:St->Hp->Prop:=fun _ _=>False
 ct:St->Hp->Prop:=fun _ _=>False
@[reducible]noncomputable def TS:=Ends->St->Hp->Prop
abbrev EP(X:Cx)(pins:List (Addr × Obj))(σ:St)(Q:VK)(u:Value)(s':Shared):Prop:=∃ v H',Inv X pins σ H' s'/\RelV v u/\Q v H'
abbrev TP(X:Cx)(pins:List (Addr × Obj))(σ:St)(Q:Bool->Hp->Prop)(b:Bool)(s':Shared):Prop:=∃ H',Inv X pins σ H' s'/\Q b H'
abbrev AP(X:Cx)(pins:List (Addr × Obj))(σ:St)(Q:List V->Hp->Prop)(us:List Value)(s':Shared):Prop:=∃ vs H',Inv X pins σ H' s'/\Vals vs us/\Q vs H'
abbrev SP(X:Cx)(pins:List (Addr × Obj))(D:Ends)(f:Flow)(s':Shared):Prop :=
 match f with
 | .next=>∃ σ' H',Inv X pins σ' H' s'/\D.nx σ' H'
 | .brk=>∃ σ' H',Inv X pins σ' H' s'/\D.bk σ' H'
 | .cont=>∃ σ' H',Inv X pins σ' H' s'/\D.ct σ' H'
 | .ret u=>∃ v σ' H',Inv X pins σ' H' s'/\RelV v u/\D.rt v H'
abbrev PE(X:Cx)(e:Expr)(t:TE):Prop :=
 ∀ (pins:List (Addr × Obj)) (s:Shared) (σ:St) (H:Hp) (Q:VK),Inv X pins σ H s->t σ H Q->wpAny (model X.prog X.w) X.A (eval e X.env) (EP X pins σ Q) X.xe s
abbrev PT(X:Cx)(e:Expr)(t:TT):Prop :=
 ∀ (pins:List (Addr × Obj)) (s:Shared) (σ:St) (H:Hp) (Q:Bool->Hp->Prop),Inv X pins σ H s->t σ H Q->wpAny (model X.prog X.w) X.A (isTrue e X.env (eval e X.env)) (TP X pins σ Q) X.xe s
abbrev PW(X:Cx)(e:Expr)(t:TT):Prop :=
 ∀ (whole:Sem Value) (pins:List (Addr × Obj)) (s:Shared) (σ:St) (H:Hp) (Q:Bool->Hp->Prop),Inv X pins σ H s->t σ H Q->wpAny (model X.prog X.w) X.A (isTrue e X.env whole) (TP X pins σ Q) X.xe s
def PW.pt(h:PW X e t):PT X e t:=h _
abbrev PA(X:Cx)(es:List Expr)(t:TA):Prop :=
 ∀ (pos:Pos) (pins:List (Addr × Obj)) (s:Shared) (σ:St) (H:Hp) (Q:List V->Hp->Prop),Inv X pins σ H s->t σ H Q->wpAny (model X.prog X.w) X.A (spliced (backTo pos (starEach es X.env))) (AP X pins σ Q) X.xe s
abbrev PS(X:Cx)(st:Stmt)(t:TS):Prop :=
 ∀ (pins:List (Addr × Obj)) (s:Shared) (σ:St) (H:Hp) (D:Ends),Inv X pins σ H s->t D σ H->wpAny (model X.prog X.w) X.A (exec st X.env) (SP X pins D) X.xe s
abbrev PSs(X:Cx)(st:List Stmt)(t:TS):Prop :=
 ∀ (pins:List (Addr × Obj)) (s:Shared) (σ:St) (H:Hp) (D:Ends),Inv X pins σ H s->t D σ H->wpAny (model X.prog X.w) X.A (execs st X.env) (SP X pins D) X.xe s
def thn(h:wpAny M A t Q E s)(hQ:∀ a s,Q a s->Q' a s):wpAny M A t Q' E s:=wpAny_mono h hQ fun _ _ x=>x
section
variable{X:Cx}
abbrev vb(i:Nat):TE:=fun σ H Q=>∃ v,σ[i]?=some (some v)/\Q v H
abbrev tC(v:V):TE:=fun _ H Q=>Q v H
def jV(hN:X.N[i]?=some x)(hv:Vis X.env.scope x)(hd:(x == ("__debug__" : Str))=false)(hcd:(x == ("__classdict__" : Str))=false):PE X (.Name x pos) (vb i):=by
 intro pins s σ H Q I h;obtain⟨v,e,h⟩:=h;obtain⟨m,hn,hl⟩:=I.loc;obtain⟨u,r,l⟩:=hl i x v hN e hv
 have fin:EP X pins σ Q u s:=⟨v,H,I,r,h⟩
 rcases l with⟨hk,hm⟩ | ⟨hk,c,hc,hcell⟩
 ·exact wpAny_Name (wpAny_loadName_local I.ok.kind hk hn hm fin) hd
 ·rcases hk with hk | hk
  ·exact wpAny_Name (wpAny_loadName_cell I.ok.kind hk hc hcell fin) hd
  ·exact wpAny_Name (wpAny_loadName_free I.ok.kind hk hc hcell fin hcd) hd
def mJ:PE X (.Constant (.int i) j pos) (tC (.int i)):=fun _ _ _ H _ I h=>wpAny_Constant_int ⟨.int i,H,I.tok _,⟨_,rfl⟩,h⟩
def C5:PE X (.Constant (.bool b) j pos) (tC (.bl b)):=fun _ _ _ H _ I h=>Constant_bool ⟨.bl b,H,I,rfl,h⟩
def nI:PE X (.Constant .none j pos) (tC .non):=fun _ _ _ H _ I h=>Constant_none ⟨.non,H,I,rfl,h⟩
def mI:PE X (.Constant (.str x) j pos) (tC (.str x)):=fun _ _ _ H _ I h=>Calls.Constant_str ⟨.str x,H,I.tok _,⟨_,rfl⟩,h⟩
abbrev Gl(X:Cx)(x:Str):Prop:=X.env.kindOf x=some .globalImplicit
def fm(I:Inv X pins σ H s)(hg:Gl X x)(hm:X.mg x=some u)(h:Q u s)
 (hd:(x == ("__debug__" : Str))=false):wpAny (model X.prog X.w) X.A (eval (.Name x pos) X.env) Q E s :=
 Calls.Name_function_global I.ok.kind hg (Calls.loadGlobal_global (by rw[I.ok.glob];exact I.mod.glob.keeps I.bk) hm h) hd
def fF(I:Inv X pins σ H s)(hg:Gl X x)(hm:X.mg x=none)(hv:bootBuiltins x=some u)(h:Q u s)
 (hn:x ≠ "__name__")(hd:(x == ("__debug__" : Str))=false):wpAny (model X.prog X.w) X.A (eval (.Name x pos) X.env) Q E s:=by
 obtain⟨mb,h1,h2⟩:=I.mod.blt;exact Calls.Name_function_global I.ok.kind hg (Calls.loadGlobal_builtin (by rw[I.ok.glob];exact I.mod.glob.keeps I.bk) hm (by rw[I.ok.blt];exact h1.keeps I.bk) ((h2 x hn).trans hv) h) hd
def qt(hg:Gl X x)(hm:X.mg x=some u)(r:RelV v u)(hd:(x == ("__debug__" : Str))=false):PE X (.Name x pos) (tC v) :=
 fun _ _ _ H _ I h=>fm I hg hm ⟨v,H,I,r,h⟩ hd
def ql(hg:Gl X x)(hm:X.mg x=none)(hv:bootBuiltins x=some u)(r:RelV v u)(hn:x ≠ "__name__")(hd:(x == ("__debug__" : Str))=false):PE X (.Name x pos) (tC v) :=
 fun _ _ _ H _ I h=>fF I hg hm hv ⟨v,H,I,r,h⟩ hn hd
variable{a b:Expr}{ta tb:TE}{pos:Pos}
variable{tA tB':TT}{rest:List Expr}
abbrev Eo(t u:TT):TT:=fun σ H Q=>t σ H fun c H1=>if c=true then u σ H1 Q else Q false H1
abbrev tOr(t u:TT):TT:=fun σ H Q=>t σ H fun c H1=>if c=true then Q true H1 else u σ H1 Q
abbrev En(t:TT):TT:=fun σ H Q=>t σ H fun c H1=>Q (!c) H1
def yF(ha:PT X a tA):PW X (.BoolOp .And [a] pos) tA:=by
 intro wh pins s σ H Q I h;refine isTrue_and (thn (ha pins s σ H Q I h) fun c s1 e=>?_)
 cases c with
 | true=>exact isTrue_and_nil e
 | false=>exact e
def Cp(ha:PT X a tA):PW X (.BoolOp .Or [a] pos) tA:=by
 intro wh pins s σ H Q I h;refine isTrue_or (thn (ha pins s σ H Q I h) fun c s1 e=>?_)
 cases c with
 | false=>exact isTrue_or_nil e
 | true=>exact e
def AY(ha:PT X a tA)(hb:PW X (.BoolOp .And (b::rest) pos) tB'):PW X (.BoolOp .And (a::b::rest) pos) (Eo tA tB'):=by
 intro wh pins s σ H Q I h;refine isTrue_and (thn (ha pins s σ H _ I h) fun c s1 ⟨H1,I1,q1⟩=>?_)
 cases c with
 | true=>exact hb wh pins s1 σ H1 Q I1 q1
 | false=>exact⟨H1,I1,q1⟩
def CL(ha:PT X a tA)(hb:PW X (.BoolOp .Or (b::rest) pos) tB'):PW X (.BoolOp .Or (a::b::rest) pos) (tOr tA tB'):=by
 intro wh pins s σ H Q I h;refine isTrue_or (thn (ha pins s σ H _ I h) fun c s1 ⟨H1,I1,q1⟩=>?_)
 cases c with
 | true=>exact⟨H1,I1,q1⟩
 | false=>exact hb wh pins s1 σ H1 Q I1 q1
def zI(ha:PT X a tA):PT X (.UnaryOp .Not a pos) (En tA):=by
 intro pins s σ H Q I h;exact isTrue_not (ha pins s σ H (fun c H1=>Q (!c) H1) I h)
abbrev Dc(ta tb:TE):TE:=fun σ H Q=>ta σ H fun x H1=>∃ c,x=.bl c/\if c=true then tb σ H1 Q else Q (.bl false) H1
abbrev Ef(ta tb:TE):TE:=fun σ H Q=>ta σ H fun x H1=>∃ c,x=.bl c/\if c=true then Q (.bl true) H1 else tb σ H1 Q
def BP(h:PE X a t):PE X (.BoolOp op [a] pos) t:=fun pins s σ H Q I hw=>BoolOp_one (h pins s σ H Q I hw)
def BO(ha:PE X a ta)(hb:PE X (.BoolOp .And (b::rest) pos) tb):PE X (.BoolOp .And (a::b::rest) pos) (Dc ta tb):=by
 intro pins s σ H Q I h;refine BoolOp_and (thn (ha pins s σ H _ I h) fun v s1 ⟨x,H1,I1,r1,q1⟩=>?_);obtain⟨c,rfl,q1⟩:=q1;cases r1;refine wpAny_truthy_bool ?_
 cases c with
 | true=>exact hb pins s1 σ H1 Q I1 q1
 | false=>exact⟨.bl false,H1,I1,rfl,q1⟩
def DC(ha:PE X a ta)(hb:PE X (.BoolOp .Or (b::rest) pos) tb):PE X (.BoolOp .Or (a::b::rest) pos) (Ef ta tb):=by
 intro pins s σ H Q I h;refine BoolOp_or (thn (ha pins s σ H _ I h) fun v s1 ⟨x,H1,I1,r1,q1⟩=>?_);obtain⟨c,rfl,q1⟩:=q1;cases r1;refine wpAny_truthy_bool ?_
 cases c with
 | false=>exact hb pins s1 σ H1 Q I1 q1
 | true=>exact⟨.bl true,H1,I1,rfl,q1⟩
abbrev tIf(t:TT)(ta tb:TE):TE:=fun σ H Q=>t σ H fun c H1=>if c=true then ta σ H1 Q else tb σ H1 Q
def vV(hc:PT X c tA)(ha:PE X a ta)(hb:PE X b tb):PE X (.IfExp c a b pos) (tIf tA ta tb):=by
 intro pins s σ H Q I h;refine wpAny_IfExp (thn (hc pins s σ H _ I h) fun d s1 ⟨H1,I1,q1⟩=>?_)
 cases d with
 | true=>exact ha pins s1 σ H1 Q I1 q1
 | false=>exact hb pins s1 σ H1 Q I1 q1
end
abbrev SqL(K:PySem.W.Frag)(H:Hp)(a:Addr)(xs:List V):Prop :=
 Rd H a (.lst xs) \/
  ∃ (o:Obj) (its:Array Value) (n:Nat),K.lookup a=some o/\o.cls=.type "list" /\ o.dict=none/\o.data=.seq its n/\its.size<=sizeLine/\Vals xs its.toList
abbrev SqT(K:PySem.W.Frag)(H:Hp)(a:Addr)(xs:List V):Prop :=
 Rd H a (.tup xs) \/
  ∃ (o:Obj) (its:Array Value) (n:Nat),K.lookup a=some o/\o.cls=.type "tuple" /\ o.data=.seq its n/\its.size<=sizeLine/\Vals xs its.toList
abbrev DO:Value->Option V
 | .none=>some .non
 | .bool b=>some (.bl b)
 | .int i _=>some (.int i)
 | .str x _=>some (.str x)
 | .bytes b _=>some (.byt b)
 | .float b _=>some (.flt b)
 | .ref a=>some (.ref a)
 | .type n=>some (.ty n)
 | _=>none
def RelV.abs(r:RelV x u):DO u=some x:=by
 cases x with
 | non=>cases r;rfl
 | bl _=>cases r;rfl
 | int _=>obtain⟨t,rfl⟩:=r;rfl
 | str _=>obtain⟨t,rfl⟩:=r;rfl
 | byt _=>obtain⟨t,rfl⟩:=r;rfl
 | flt _=>obtain⟨t,rfl⟩:=r;rfl
 | ref _=>cases r;rfl
 | ty _=>cases r;rfl
def RelV.inj(r:RelV x u)(q:RelV y u):x=y:=Option.some.inj (r.abs.symm.trans q.abs)
def Vals.inj:∀ {xs ys:List V} {us:List Value},Vals xs us->Vals ys us->xs=ys
 | _,_,_,.nil,.nil=>rfl
 | _,_,_,.cons r t,.cons r' t'=>by rw[r.inj r',Vals.inj t t']
section
variable{X:Cx}{pins:List (Addr × Obj)}{σ:St}{H:Hp}{s:Shared}{a:Addr}{xs ys:List V}
def SqL.of{K:PySem.W.Frag}(h:H a=some (.lst xs)):SqL K H a xs:=.inl (.inl h)
def SqT.of{K:PySem.W.Frag}(h:H a=some (.tup xs)):SqT K H a xs:=.inl (.inl h)
def Inv.list(I:Inv X pins σ H s)(h:SqL X.K H a xs):∃ its:List Value,Vals xs its/\PlainL s.heap a its.toArray/\xs.length<=sizeLine:=by
 rcases h with h | ⟨o,its,n,hk,hc,hd,hs,hz,r⟩
 ·obtain⟨z,its,n,r,e⟩:=h.ok I.hok;exact⟨its,r,⟨_,n,e,rfl,rfl,rfl⟩,z⟩
 ·refine⟨its.toList,r,⟨o,n,I.kIn a o hk,hc,hd,by simpa using hs⟩,?_⟩;have e:=r.length;simp only[Array.length_toList]at e;omega
def Inv.tuple(I:Inv X pins σ H s)(h:SqT X.K H a xs):∃ its:List Value,Vals xs its/\IsTup s.heap a its.toArray/\xs.length<=sizeLine:=by
 rcases h with h | ⟨o,its,n,hk,hc,hs,hz,r⟩
 ·obtain⟨z,its,r,p⟩:=h.ok I.hok;exact⟨its,r,p,z⟩
 ·refine⟨its.toList,r,⟨o,I.kIn a o hk,hc,n,by simpa using hs⟩,?_⟩;have e:=r.length;simp only[Array.length_toList]at e;omega
def Inv.wq(I:Inv X pins σ H s)(h:SqL X.K H a xs)(h':SqL X.K H a ys):xs=ys:=by
 obtain⟨its,r,⟨o,n,e,_,_,d⟩,_⟩:=I.list h;obtain⟨its',r',⟨o',n',e',_,_,d'⟩,_⟩:=I.list h';rw[e]at e';cases e';rw[d]at d';injection d' with d1 _
 have:its=its':=by simpa using congrArg Array.toList d1
 subst this;exact r.inj r'
def Inv.tF(I:Inv X pins σ H s)(h:SqT X.K H a xs)(h':SqT X.K H a ys):xs=ys:=by
 obtain⟨its,r,⟨o,e,_,n,d⟩,_⟩:=I.tuple h;obtain⟨its',r',⟨o',e',_,n',d'⟩,_⟩:=I.tuple h';rw[e]at e';cases e';rw[d]at d';injection d' with d1 _
 have:its=its':=by simpa using congrArg Array.toList d1
 subst this;exact r.inj r'
end
@[reducible]noncomputable def Cx.d6(X:Cx)(E:Value->Shared->Prop):Cx:={ X with xe:=E }
@[reducible]noncomputable def Cx.nox(X:Cx):Cx:=X.d6 fun _ _=>False
def Cx.Ok.d6{X:Cx}(ok:X.Ok)(E:Value->Shared->Prop):(X.d6 E).Ok :=
 ⟨ok.mod,ok.kind,ok.glob,ok.blt,ok.above,ok.inj,ok.has,ok.cab,ok.hd,ok.frames,ok.stk,ok.exf,ok.bs,ok.bsz,ok.gN,ok.gS,ok.de,ok.frf⟩
def Cx.Ok.cx{X:Cx}(ok:(X.d6 E).Ok):X.Ok :=
 ⟨ok.mod,ok.kind,ok.glob,ok.blt,ok.above,ok.inj,ok.has,ok.cab,ok.hd,ok.frames,ok.stk,ok.exf,ok.bs,ok.bsz,ok.gN,ok.gS,ok.de,ok.frf⟩
section
variable{X:Cx}{pins:List (Addr × Obj)}{σ:St}{H:Hp}{s:Shared}{E:Value->Shared->Prop}
def Inv.d6(I:Inv X pins σ H s)(E:Value->Shared->Prop):Inv (X.d6 E) pins σ H s:=⟨I.ok.d6 E,I.os,I.bare,I.base,I.loc,I.cell,I.free,I.cy,I.pin,I.hok,I.len⟩
def Inv.cx(I:Inv (X.d6 E) pins σ H s):Inv X pins σ H s:=⟨I.ok.cx,I.os,I.bare,I.base,I.loc,I.cell,I.free,I.cy,I.pin,I.hok,I.len⟩
def SP.cx(h:SP (X.d6 E) pins D f s'):SP X pins D f s':=by
 cases f with
 | next=>obtain⟨σ',H',I,q⟩:=h;exact⟨σ',H',I.cx,q⟩
 | brk=>obtain⟨σ',H',I,q⟩:=h;exact⟨σ',H',I.cx,q⟩
 | cont=>obtain⟨σ',H',I,q⟩:=h;exact⟨σ',H',I.cx,q⟩
 | ret u=>obtain⟨v,σ',H',I,r,q⟩:=h;exact⟨v,σ',H',I.cx,r,q⟩
def PE.nox(h:PE X.nox e t):PE X e t:=fun pins s σ H Q I hw =>
 wpAny_mono (h pins s σ H Q (I.d6 _) hw) (fun _ _ ⟨v,H',I',r,q⟩=>⟨v,H',I'.cx,r,q⟩) fun _ _ z=>False.elim z
def PT.nox(h:PT X.nox e t):PT X e t:=fun pins s σ H Q I hw =>
 wpAny_mono (h pins s σ H Q (I.d6 _) hw) (fun _ _ ⟨H',I',q⟩=>⟨H',I'.cx,q⟩) fun _ _ z=>False.elim z
def PSs.nox{st:List Stmt}(h:PSs X.nox st t):PSs X st t:=fun pins s σ H D I hw =>
 wpAny_mono (h pins s σ H D (I.d6 _) hw) (fun _ _ q=>q.cx) fun _ _ z=>False.elim z
end
section
variable{X:Cx}{st:Stmt}{rest:List Stmt}{t u:TS}{e:Expr}{te:TE}{pos:Pos}
abbrev Dq:TS:=fun D σ H=>D.nx σ H
abbrev DV(t u:TS):TS:=fun D σ H=>t { D with nx:=u D } σ H
def yn:PSs X [] Dq:=fun _ _ σ H _ I h=>wpAny_execs_nil ⟨σ,H,I,h⟩
def eB(h1:PS X st t)(h2:PSs X rest u):PSs X (st::rest) (DV t u):=by
 intro pins s σ H D I h;refine wpAny_execs_cons (thn (h1 pins s σ H { D with nx:=u D } I h) fun f s1 q=>?_)
 cases f with
 |next=>
  obtain⟨σ',H',I',q⟩:=q;exact h2 pins s1 σ' H' D I' q
 | ret v=>exact q
 | brk=>exact q
 | cont=>exact q
def Inv.quiet(I:Inv X pins σ H s):interactive X.env=false:=by simp[interactive,I.ok.kind]
abbrev qJ(te:TE):TS:=fun D σ H=>te σ H fun _ H1=>D.nx σ H1
def kZ(he:PE X e te)(hs:swapsWith e none pos.line X.env=pure false):PS X (.Expr e pos) (qJ te):=by
 intro pins s σ H D I h;exact wpAny_Expr_any (thn (he pins s σ H _ I h) fun v s1 ⟨x,H1,I1,r1,q1⟩=>⟨σ,H1,I1,q1⟩) I.quiet hs
abbrev E8(te:TE):TS:=fun D σ H=>te σ H D.rt
def mH(he:PE X e te):PS X (.Return (some e) pos) (E8 te):=by
 intro pins s σ H D I h;exact wpAny_Return_some (thn (he pins s σ H _ I h) fun v s1 ⟨x,H1,I1,r1,q1⟩=>⟨x,σ,H1,I1,r1,q1⟩)
abbrev Ed(c:TT)(t u:TS):TS:=fun D σ H=>c σ H fun b H1=>if b=true then t D σ H1 else u D σ H1
def rP(hc:PT X c tc)(ha:PSs X a t)(hb:PSs X b u):PS X (.If c a b pos) (Ed tc t u):=by
 intro pins s σ H D I h;refine wpAny_If (thn (hc pins s σ H _ I h) fun d s1 ⟨H1,I1,q1⟩=>?_)
 cases d with
 | true=>exact ha pins s1 σ H1 D I1 q1
 | false=>exact hb pins s1 σ H1 D I1 q1
end
@[reducible]noncomputable def TG:=V->St->Hp->(St->Hp->Prop)->Prop
@[reducible]noncomputable def TGs:=List V->St->Hp->(St->Hp->Prop)->Prop
abbrev PG(X:Cx)(target:Expr)(t:TG):Prop :=
 ∀ (pins:List (Addr × Obj)) (s:Shared) (σ:St) (H:Hp) (v:V) (u:Value) (Q:St->Hp->Prop),Inv X pins σ H s->RelV v u->t v σ H Q ->
  wpAny (model X.prog X.w) X.A (assign target X.env u) (fun _ s'=>∃ σ' H',Inv X pins σ' H' s'/\Q σ' H') X.xe s
abbrev PGs(X:Cx)(ts:List Expr)(t:TGs):Prop :=
 ∀ (pins:List (Addr × Obj)) (s:Shared) (σ:St) (H:Hp) (vs:List V) (us:List Value) (Q:St->Hp->Prop),Inv X pins σ H s->Vals vs us->t vs σ H Q ->
  wpAny (model X.prog X.w) X.A (assignInOrder ((assignEach ts X.env).map (·.2)) us) (fun _ s'=>∃ σ' H',Inv X pins σ' H' s'/\Q σ' H') X.xe s
@[reducible]noncomputable def TIp:=V->V->Hp->VK->Prop
abbrev PIp(X:Cx)(op:Operator)(t:TIp):Prop :=
 ∀ (pins:List (Addr × Obj)) (s:Shared) (σ:St) (H:Hp) (x y:V) (v u:Value) (Q:VK),Inv X pins σ H s->RelV x v->RelV y u->t x y H Q ->
  wpAny (model X.prog X.w) X.A (inplaceOp op v u) (EP X pins σ Q) X.xe s
section
variable{X:Cx}{pos:Pos}
abbrev m4(i:Nat):TG:=fun v σ H Q=>Q (σ.set i (some v)) H
def pY(hN:X.N.Nodup)(hi:X.N[i]?=some x)(hx:Loc X.env.scope x)(hf:X.fn x=true\/X.env.scope.names.lookup x=some .local):PG X (.Name x pos) (m4 i):=by
 intro pins s σ H v u Q I r h;exact wpAny_assign_Name (ig I hN hi hx r (fun s' I'=>⟨_,H,I',h⟩) hf)
abbrev Br:TGs:=fun vs σ H Q=>vs=[]/\Q σ H
abbrev xo(t:TG)(u:TGs):TGs:=fun vs σ H Q=>∃ v r,vs=v::r/\t v σ H fun σ' H'=>u r σ' H' Q
def x9:PGs X [] Br:=by
 intro pins s σ H vs us Q I r h;obtain⟨e,h⟩:=h;subst e;cases r;exact assignInOrder_nil ⟨σ,H,I,h⟩
def wA(h1:PG X e t)(h2:PGs X es u)
 (hs:(assignEach (e::es) X.env).map (·.2)=assign e X.env::(assignEach es X.env).map (·.2)):PGs X (e::es) (xo t u):=by
 intro pins s σ H vs us Q I r h;obtain⟨v,vr,e1,h⟩:=h;subst e1
 cases r with
 |cons r rr=>
  rw[hs];refine assignInOrder_cons (thn (h1 pins s σ H _ _ _ I r h) fun _ s1 ⟨σ1,H1,I1,q1⟩=>?_);exact h2 pins s1 σ1 H1 _ _ Q I1 rr q1
abbrev kG(K:PySem.W.Frag)(n:Nat)(t:TGs):TG:=fun v σ H Q=>∃ a xs,v=.ref a/\SqT K H a xs/\xs.length=n/\t xs σ H Q
abbrev vf(te:TE)(g:TG):TS:=fun D σ H=>te σ H fun x H1=>g x σ H1 D.nx
def sI(he:PE X e te)(hg:PG X tg g)(hs:swapsWithSole [tg] e pos.line X.env=pure false)(hw:swappedStores [tg] e X.env=pure none)
 (h1:(assignEach [tg] X.env).map (·.2)=[assign tg X.env]):PS X (.Assign [tg] e pos) (vf te g):=by
 intro pins s σ H D I h;refine wpAny_Assign_stores (thn (he pins s σ H _ I h) fun v s1 ⟨x,H1,I1,r1,q1⟩=>?_) hs hw;rw[h1];exact thn (hg pins s1 σ H1 x v _ I1 r1 q1) fun _ s2 q=>q
def rX(hN:X.N.Nodup)(hi:X.N[i]?=some x)(hx:Loc X.env.scope x)(he:PE X e te)(hs:swapsWith e (some (.Name x pos')) pos.line X.env=pure false)(hf:X.fn x=true\/X.env.scope.names.lookup x=some .local) :
  PS X (.Assign [.Name x pos'] e pos) (vf te (m4 i)):=by
 intro pins s σ H D I h;refine wpAny_Assign_Name (thn (he pins s σ H _ I h) fun v s1 ⟨y,H1,I1,r1,q1⟩=>?_) hs;exact ig I1 hN hi hx r1 (fun s2 I2=>⟨_,H1,I2,q1⟩) hf
abbrev zl(i:Nat)(te:TE)(ti:TIp):TS:=fun D σ H=>∃ x,σ[i]?=some (some x)/\te σ H fun y H1=>ti x y H1 fun z H2=>D.nx (σ.set i (some z)) H2
def tR(hN:X.N.Nodup)(hi:X.N[i]?=some x)(hx:Loc X.env.scope x)(he:PE X e te)(ho:PIp X op ti)(hf:X.fn x=true\/X.env.scope.names.lookup x=some .local) :
  PS X (.AugAssign (.Name x pos') op e pos) (zl i te ti):=by
 intro pins s σ H D I h;obtain⟨v,e1,h⟩:=h;obtain⟨m,hn,hl⟩:=I.loc
 have vis:Vis X.env.scope x:=by rcases hx with k | k;exact .inl k;exact .inr (.inl k)
 obtain⟨u,r,l⟩:=hl i x v hi e1 vis;refine wpAny_AugAssign_Name ?_
 have go:wpAny (model X.prog X.w) X.A (eval e X.env) (fun w s₂=>wpAny (model X.prog X.w) X.A (inplaceOp op u w) (fun r s₃=>wpAny (model X.prog X.w) X.A (storeName X.env x r) (fun _=>SP X pins D .next) X.xe s₃) X.xe s₂) X.xe s:=by
  refine thn (he pins s σ H _ I h) fun w s1 ⟨y,H1,I1,r1,q1⟩=>?_;refine thn (ho pins s1 σ H1 v y u w _ I1 r r1 q1) fun z s2 ⟨zv,H2,I2,r2,q2⟩=>?_;exact ig I2 hN hi hx r2 (fun s3 I3=>⟨_,H2,I3,q2⟩) hf
 rcases l with⟨hk,hm⟩ | ⟨hk,c,hc,hcell⟩
 ·exact wpAny_loadName_local I.ok.kind hk hn hm go
 ·rcases hk with hk | hk
  ·exact wpAny_loadName_cell I.ok.kind hk hc hcell go
  ·rcases hx with k | k
   ·have:X.env.scope.names.lookup x=some .free:=hk;rw[k]at this;cases this
   ·have:X.env.scope.names.lookup x=some .free:=hk;rw[k]at this;cases this
abbrev ipI(f:Int->Int->Int):TIp:=fun x y H Q=>∃ i j,x=.int i/\y=.int j/\Q (.int (f i j)) H
def zN:PIp X .Add (ipI fun i j=>i+j):=by
 intro pins s σ H x y v u Q I r1 r2 h;obtain⟨i,j,e1,e2,q⟩:=h;subst e1;subst e2;obtain⟨t,rfl⟩:=r1;obtain⟨t',rfl⟩:=r2;exact iadd_int ⟨.int _,H,I.tok _,⟨_,rfl⟩,q⟩
def BX:PIp X .Sub (ipI fun i j=>i-j):=by
 intro pins s σ H x y v u Q I r1 r2 h;obtain⟨i,j,e1,e2,q⟩:=h;subst e1;subst e2;obtain⟨t,rfl⟩:=r1;obtain⟨t',rfl⟩:=r2;exact isub_int ⟨.int _,H,I.tok _,⟨_,rfl⟩,q⟩
end
section
variable{X:Cx}{pos:Pos}
abbrev Bf(c:TT)(tb:TS):TS:=fun D σ H=>∃ W:Nat->St->Hp->Prop,(∃ m,W m σ H)/\∀ m σ H,W m σ H ->
 c σ H fun b H1=>if b=true then ∃ N:St->Hp->Prop,(∀ σ' H',N σ' H'->∃ m',m'<m/\W m' σ' H')/\tb { D with nx:=N,ct:=N,bk:=D.nx } σ H1 else D.nx σ H1
def vp(hp:PassesOwn (model X.prog X.w) X.A X.env X.xe)(hc:PT X c tc)(hb:PSs X body tb):PS X (.While c body [] pos) (Bf tc tb):=by
 intro pins s σ H D I h;obtain⟨W,⟨m0,w0⟩,turn⟩:=h;refine wpAny_While (codeAny_whileLoop (fun n s'=>∃ σ' H',Inv X pins σ' H' s'/\W n σ' H') ?_ m0 ⟨σ,H,I,w0⟩);rintro n s1 ⟨σ1,H1,I1,w1⟩;refine wpAny_passesOwn hp (thn (hc pins s1 σ1 H1 _ I1 (turn n σ1 H1 w1)) fun b s2 ⟨H2,I2,q2⟩=>?_)
 cases b with
 |true=>
  obtain⟨N,hN,q2⟩:=q2;refine wpAny_passesOwn hp (thn (hb pins s2 σ1 H2 _ I2 q2) fun f s3 q3=>?_)
  cases f with
  |next=>
   obtain⟨σ3,H3,I3,n3⟩:=q3;obtain⟨m',hm,w3⟩:=hN σ3 H3 n3;exact⟨m',hm,σ3,H3,I3,w3⟩
  |cont=>
   obtain⟨σ3,H3,I3,n3⟩:=q3;obtain⟨m',hm,w3⟩:=hN σ3 H3 n3;exact⟨m',hm,σ3,H3,I3,w3⟩
  | brk=>exact q3
  | ret v=>exact q3
 |false=>
  exact wpAny_execs_nil ⟨σ1,H2,I2,q2⟩
end
structure It where
 go:Nat->Hp->Prop
 yld:Nat->Hp->V->Hp->Prop
 stop:Nat->Hp->Prop
abbrev gG(X:Cx)(pins:List (Addr × Obj))(H:Hp)(b:Addr):Prop :=
 H b=none/\b≠X.env.locals/\b∉X.fs/\(b∈X.ex\/X.s₀.heap.objs.size<=b)/\(∀ x c,X.env.cells.lookup x=some c->c≠b)/\∀ p∈X.pn++pins,p.1≠b
def Inv.kB(I:Inv X pins σ H s)(hb:s.heap.objs.size<=b)(hn:H' b=none):gG X pins H' b:=by
 refine⟨hn,Nat.ne_of_gt (Nat.lt_of_lt_of_le I.lt hb),I.Eh hb,.inr (Nat.le_trans I.sz hb),fun x c e z=>?_,fun p hp z=>?_⟩
 ·obtain⟨v,q⟩:=I.cell x c e;exact absurd (Nat.lt_of_lt_of_le q.lt (by rw[z];exact hb)) (Nat.lt_irrefl _)
 ·exact absurd (Nat.lt_of_lt_of_le (Heap.lt_size (I.pin p hp).1) (by rw[z];exact hb)) (Nat.lt_irrefl _)
structure kd(CM:Cx->Prop)(P:Program)(w:World)(K:PySem.W.Frag)(tg:Expr)(J:It)(fp:List Addr)(it:Addr)(tn:Nat->Heap->Prop):Prop where
 mem:it∈fp
 obj:∀ i h,tn i h->∀ b∈fp,∃ o,h.get? b=some o/\∀ v,o.data≠.cell v
 keep:∀ i h h',tn i h->(∀ b∈fp,∀ o,h.get? b=some o->h'.get? b=some o)->tn i h'
 item:∀ (X:Cx),X.prog=P->X.w=w->X.K=K->CM X->∀ (i:Nat) (pins:List (Addr × Obj)) (s:Shared) (σ:St) (H:Hp) (E:Value->Shared->Prop),Inv X pins σ H s->(∀ b∈fp,gG X pins H b)->tn i s.heap->J.go i H ->
  wpAny (model P w) X.A (pyNext (.ref it)) (fun r s1=>∃ u,r=some u /\
   wpAny (model P w) X.A (letOwnedTupleGo tg (.ref it) u) (fun _ s2=>∃ x H',Inv X pins σ H' s2/\RelV x u/\J.yld i H x H'/\tn (i+1) s2.heap/\∀ b∈fp,H' b=none) E s1) E s
 done:∀ (X:Cx),X.prog=P->X.w=w->X.K=K->CM X->∀ (i:Nat) (pins:List (Addr × Obj)) (s:Shared) (σ:St) (H:Hp) (E:Value->Shared->Prop),Inv X pins σ H s->(∀ b∈fp,gG X pins H b)->tn i s.heap->J.stop i H ->
  wpAny (model P w) X.A (pyNext (.ref it)) (fun r s1=>r=none/\Inv X pins σ H s1) E s
 self:∀ (A:Around) (i:Nat) (s:Shared) (Q:Value->Shared->Prop) (E:Value->Shared->Prop),tn i s.heap->Q (.ref it) s->wpAny (model P w) A (pyIter (.ref it)) Q E s
@[reducible]noncomputable def Calm:Cx->Prop:=fun X=>X.calm=true
@[reducible]noncomputable def Turn:=kd Calm
@[reducible]noncomputable def TI:=St->Hp->(It->Hp->Prop)->Prop
abbrev Cw(CM:Cx->Prop)(X:Cx)(pins:List (Addr × Obj))(σ:St)(tg:Expr)(R:It->Hp->Prop)(itv:Value)(s2:Shared):Prop :=
 ∃ (it:Addr) (fp:List Addr) (tn:Nat->Heap->Prop) (J:It) (H':Hp),itv=.ref it/\Inv X pins σ H' s2/\kd CM X.prog X.w X.K tg J fp it tn/\tn 0 s2.heap/\(∀ b∈fp,gG X pins H' b)/\R J H'
@[reducible]noncomputable def PIE:=Cw Calm
abbrev PI'(CM:Cx->Prop)(X:Cx)(tg iter:Expr)(wi:TI):Prop :=
 ∀ (pins:List (Addr × Obj)) (s:Shared) (σ:St) (H:Hp) (R:It->Hp->Prop),Inv X pins σ H s->wi σ H R ->
  wpAny (model X.prog X.w) X.A (eval iter X.env) (fun v s1=>wpAny (model X.prog X.w) X.A (pyIter v) (Cw CM X pins σ tg R) X.xe s1) X.xe s
@[reducible]noncomputable def PI:=PI' Calm
def mB(ho:s.heap.get? it=some o)(hc:o.cls=.type n)(hd:o.data=.fields vs)
 (hn:["enumerate", "zip", "dict_itemiterator", "dict_reverseitemiterator", "odict_iterator", "itertools.zip_longest", "itertools.pairwise"].contains n=false)(hQ:Q () s):wpAny M A (letOwnedTupleGo tg (.ref it) u) Q E s:=by
 unfold letOwnedTupleGo
 cases tg<;>first
  | exact wpAny_pure hQ
  | (cases u<;>first
    | exact wpAny_pure hQ
    | (refine wpAny_bind (wpAny_load ho ?_)
       rw[hc,hd];show wpAny M A (if(["enumerate", "zip", "dict_itemiterator", "dict_reverseitemiterator", "odict_iterator", "itertools.zip_longest", "itertools.pairwise"].contains n&&vs[0]? == some (rawInt _))=true then _ else _) Q E s;rw[if_neg (by intro h;rw[hn,Bool.false_and]at h;cases h)]
       exact wpAny_pure hQ))
abbrev Itl(K:PySem.W.Frag)(a:Addr):It :=
 ⟨fun i H=>∃ xs x,SqL K H a xs/\xs[i]?=some x,fun i H x H'=>H'=H/\∀ xs,SqL K H a xs->xs[i]?=some x,fun i H=>∃ xs,SqL K H a xs/\xs.length<=i⟩
abbrev Itt(K:PySem.W.Frag)(a:Addr):It :=
 ⟨fun i H=>∃ xs x,SqT K H a xs/\xs[i]?=some x,fun i H x H'=>H'=H/\∀ xs,SqT K H a xs->xs[i]?=some x,fun i H=>∃ xs,SqT K H a xs/\xs.length<=i⟩
abbrev Itr(lo:Int)(n:Nat):It:=⟨fun i _=>i<n,fun i H x H'=>H'=H/\x=.int (lo+i),fun i _=>n<=i⟩
def uq{P:Program}{w:World}{K:PySem.W.Frag}(a it:Addr):Turn P w K tg (Itl K a) [it] it (fun i h=>h.IsListIter it a i) where
 mem:=by simp
 obj:=fun i h st b hb=>by
  have e:b=it:=by simpa using hb
  subst e;obtain⟨o,e,c,d⟩:=st;exact⟨o,e,fun v z=>by rw[d]at z;cases z⟩
 keep:=fun i h h' st k=>st.at fun o e=>k it (by simp) o e
 item:=by
  intro X hP hw hK hc i pins s σ H E I hf st hg;subst hP hw hK;obtain⟨xs,x,hq,hx⟩:=hg;obtain⟨its,rv,p,hz⟩:=I.list hq;obtain⟨u,hu,ru⟩:=rv.get hx;obtain⟨f0,f1,f2,f3,f4,f5⟩:=hf it (by simp);refine wpAny_pyNext_list_item st p.isList (by simpa using hu) fun h' st' sb=>?_;have I1:=I.turned (t':=s.toks) (fun b o hb e=>(sb.2 b hb).trans e) f0 f1 f3 f4 f5;obtain⟨o,e,c,d⟩:=id st';exact⟨u,rfl,mB e c d (by decide) ⟨x,H,I1,ru,⟨rfl,fun ys hy=>by rw[I.wq hy hq];exact hx⟩,st',fun b hb=>(hf b hb).1⟩⟩
 done:=by
  intro X hP hw hK hc i pins s σ H E I hf st hg;subst hP hw hK;obtain⟨xs,hq,hx⟩:=hg;obtain⟨its,rv,p,hz⟩:=I.list hq;obtain⟨f0,f1,f2,f3,f4,f5⟩:=hf it (by simp);have hl:=rv.length
  exact wpAny_pyNext_list_end (I.ok.hd.1 hc) st p.isList (by simp;omega) fun h' eb=>⟨rfl,I.turned (fun b o hb e=>eb b o hb e) f0 f1 f3 f4 f5⟩
 self:=fun _ _ _ _ _ st h=>wpAny_pyIter_listiter st h
def qN{P:Program}{w:World}{K:PySem.W.Frag}(a it:Addr):Turn P w K tg (Itt K a) [it] it (fun i h=>h.IsTupleIter it a i) where
 mem:=by simp
 obj:=fun i h st b hb=>by
  have e:b=it:=by simpa using hb
  subst e;obtain⟨o,e,c,d⟩:=st;exact⟨o,e,fun v z=>by rw[d]at z;cases z⟩
 keep:=fun i h h' st k=>st.at fun o e=>k it (by simp) o e
 item:=by
  intro X hP hw hK hc i pins s σ H E I hf st hg;subst hP hw hK;obtain⟨xs,x,hq,hx⟩:=hg;obtain⟨its,rv,p,hz⟩:=I.tuple hq;obtain⟨u,hu,ru⟩:=rv.get hx;obtain⟨f0,f1,f2,f3,f4,f5⟩:=hf it (by simp);refine wpAny_pyNext_tuple_item st (show s.heap.IsTuple a its.toArray from p) (by simpa using hu) fun h' st' sb=>?_;have I1:=I.turned (t':=s.toks) (fun b o hb e=>(sb.2 b hb).trans e) f0 f1 f3 f4 f5;obtain⟨o,e,c,d⟩:=id st';exact⟨u,rfl,mB e c d (by decide) ⟨x,H,I1,ru,⟨rfl,fun ys hy=>by rw[I.tF hy hq];exact hx⟩,st',fun b hb=>(hf b hb).1⟩⟩
 done:=by
  intro X hP hw hK hc i pins s σ H E I hf st hg;subst hP hw hK;obtain⟨xs,hq,hx⟩:=hg;obtain⟨its,rv,p,hz⟩:=I.tuple hq;obtain⟨f0,f1,f2,f3,f4,f5⟩:=hf it (by simp);have hl:=rv.length
  exact wpAny_pyNext_tuple_end (I.ok.hd.1 hc) st (show s.heap.IsTuple a its.toArray from p) (by simp;omega) fun h' eb=>⟨rfl,I.turned (fun b o hb e=>eb b o hb e) f0 f1 f3 f4 f5⟩
 self:=fun _ _ _ _ _ st h=>wpAny_pyIter_tupleiter st h
def rm{P:Program}{w:World}{K:PySem.W.Frag}(it:Addr)(lo:Int)(n:Nat):Turn P w K tg (Itr lo n) [it] it (fun i h=>IsRangeIter h it (lo+(i:Nat)*1) ((n:Int)-(i:Nat)) 1) where
 mem:=by simp
 obj:=fun i h st b hb=>by
  have e:b=it:=by simpa using hb
  subst e
  exact⟨_,st,fun v z=>by
   have z':=z
   cases z'⟩
 keep:=fun i h h' st k=>k it (by simp) _ st
 item:=by
  intro X hP hw hK hc i pins s σ H E I hf st hg;subst hP hw hK;obtain⟨f0,f1,f2,f3,f4,f5⟩:=hf it (by simp);have W:=Walks.range (prog:=X.prog) (w:=X.w) (I.ok.hd.1 hc) it lo 1 n;refine W.item i s _ _ hg st fun v h' tk hv st' kk=>?_;obtain⟨t,rfl⟩:=hv;have I1:Inv X pins σ H { s with heap:=h',toks:=tk }:=I.turned (fun b o hb e=>kk b o (by simpa using hb) e) f0 f1 f3 f4 f5;refine⟨_,rfl,mB st' rfl rfl (by decide) ⟨.int (lo+i),H,I1,⟨t,?_⟩,⟨rfl,rfl⟩,st',fun b hb=>(hf b hb).1⟩⟩;rw[Int.mul_one]
 done:=by
  intro X hP hw hK hc i pins s σ H E I hf st hg;obtain⟨f0,f1,f2,f3,f4,f5⟩:=hf it (by simp)
  exact wpAny_pyNext_range_end (I.ok.hd.1 hc) st (by have:n<=i:=hg;omega) fun h' eb=>⟨rfl,I.turned (fun b o hb e=>eb b o hb e) f0 f1 f3 f4 f5⟩
 self:=fun _ _ _ _ _ st h=>wpAny_pyIter_rangeiter st h
section
variable{X:Cx}{tg:Expr}
def nk{pins:List (Addr × Obj)}{σ:St}{H:Hp}{s:Shared}{R:It->Hp->Prop}{E:Value->Shared->Prop}{lo hi:Int}{t u v:Tok}{tk:Nat}(I:Inv X pins σ H s)(h1:-(2 ^ 62)<=lo)(h2:lo<2 ^ 62)(h3:-(2 ^ 62)<=hi)(h4:hi<2 ^ 62)
 (q:R (Itr lo (hi-lo).toNat) H):wpAny (model X.prog X.w) X.A (pyIter (.ref s.heap.objs.size)) (PIE X pins σ tg R) E { s with heap:=s.heap.push { cls:=.type "range",data:=.fields #[.int lo t,.int hi u,.int 1 v] },toks:=tk }:=by
 refine wpAny_pyIter_range (IsRange.new ..) (small_one h1 h2 h3 h4) ?_;have I1:Inv X pins σ H { s with heap:=s.heap.push { cls:=.type "range",data:=.fields #[.int lo t,.int hi u,.int 1 v] },toks:=tk }:=I.kept fun b o e=>Heap.get?_push_of_some _ e
 refine⟨(s.heap.push { cls:=.type "range",data:=.fields #[.int lo t,.int hi u,.int 1 v] }).objs.size,[(s.heap.push { cls:=.type "range",data:=.fields #[.int lo t,.int hi u,.int 1 v] }).objs.size],_,_,H,rfl,
  I1.kept (t':=tk) fun b o e=>Heap.get?_push_of_some _ e,rm _ lo (hi-lo).toNat,?_,fun b hb=>?_,q⟩
 ·have e1:lo+((0:Nat):Int)*1=lo:=by simp
  have e2:(((hi-lo).toNat:Nat):Int)-((0:Nat):Int)=Builtin.Range.rangeSize lo hi 1:=by rw[rangeSize_one];split<;>omega
  show IsRangeIter _ _ (lo+((0:Nat):Int)*1) ((((hi-lo).toNat:Nat):Int)-((0:Nat):Int)) 1;rw[e1,e2];exact Heap.get?_push_size _ rfl
 ·have e:b=(s.heap.push { cls:=.type "range",data:=.fields #[.int lo t,.int hi u,.int 1 v] }).objs.size:=by simpa using hb
  subst e;exact I1.kB (Nat.le_refl _) (I1.hok.fresh (Nat.le_refl _))
abbrev D6(ta:TA):TI:=fun σ H R=>ta σ H fun vs H1=>∃ j:Int,vs=[.int j]/\-(2 ^ 62)<=j/\j<2 ^ 62/\R (Itr 0 j.toNat) H1
abbrev Dh(ta:TA):TI:=fun σ H R=>ta σ H fun vs H1=>∃ i j:Int,vs=[.int i,.int j]/\(-(2 ^ 62)<=i/\i<2 ^ 62/\-(2 ^ 62)<=j/\j<2 ^ 62)/\R (Itr i (j-i).toNat) H1
def rZ{a:Expr}{ta:TA}{p pos:Pos}(hg:Gl X "range")(hm:X.mg "range" = none)(ha:PA X [a] ta)(hs:starEach [a] X.env=[(false,eval a X.env)]):PI X tg (.Call (.Name "range" p) [a] [] pos) (D6 ta):=by
 intro pins s σ H R I h;refine Call_ (fF I hg hm boot_range (PyProof.Rows.callWith_type1 (thn (ha pos pins s σ H _ I h) fun us s1 ⟨vs,H1,I1,r1,q1⟩=>?_) hs rfl) (by decide) (by decide));obtain⟨j,e,q1,q2,q⟩:=q1;subst e
 cases r1 with
 |cons r rr=>
  cases rr;obtain⟨t,rfl⟩:=r;exact call_range_1 (nk I1 (by omega) (by omega) q1 q2 (by simpa using q))
def ur(hg:Gl X "range")(hm:X.mg "range" = none)(ha:PA X [a,b] ta)(hs:starEach [a,b] X.env=[(false,eval a X.env),(false,eval b X.env)])(hs2:starEach [b] X.env=[(false,eval b X.env)]) :
  PI X tg (.Call (.Name "range" p) [a,b] [] pos) (Dh ta):=by
 intro pins s σ H R I h;refine Call_ (fF I hg hm boot_range (PyProof.Rows.callWith_type1 (thn (ha pos pins s σ H _ I h) fun us s1 ⟨vs,H1,I1,r1,q1⟩=>?_) (by rw[hs,hs2]) (by rw[hs2];rfl)) (by decide) (by decide));obtain⟨i,j,e,⟨q1,q2,q3,q4⟩,q⟩:=q1;subst e
 cases r1 with
 |cons r rr=>
  cases rr with
  |cons r' rr=>
   cases rr;obtain⟨t,rfl⟩:=r;obtain⟨t',rfl⟩:=r';exact call_range_2 (nk I1 q1 q2 q3 q4 q)
abbrev Ec(wi:TI)(g:TG)(tb:TS):TS:=fun D σ H=>wi σ H fun J H1=>∃ W:Nat->Nat->St->Hp->Prop,(∃ m,W 0 m σ H1)/\∀ i m σ H,W i m σ H ->
 (J.stop i H/\D.nx σ H)\/(J.go i H/\∃ N:St->Hp->Prop,(∀ σ' H',N σ' H'->∃ m',m'<m/\W (i+1) m' σ' H')/\∀ x H',J.yld i H x H'->g x σ H' fun σ2 H2=>tb { D with nx:=N,ct:=N,bk:=D.nx } σ2 H2)
abbrev iy(fp:List Addr)(h:Heap):List (Addr × Obj):=fp.filterMap fun b=>(h.get? b).map fun o=>(b,o)
def eY(hb:b∈fp)(e:h.get? b=some o):(b,o)∈iy fp h:=List.mem_filterMap.mpr ⟨b,hb,by rw[e];rfl⟩
def uk(hp:p∈iy fp h):p.1∈fp/\h.get? p.1=some p.2:=by
 obtain⟨b,hb,e⟩:=List.mem_filterMap.mp hp
 cases q:h.get? b with
 | none=>rw[q]at e;cases e
 |some o=>
  rw[q]at e;have e':=Option.some.inj e;subst e';exact⟨hb,q⟩
def Inv.pinned(I:Inv X pins σ H s)(hf:∀ b∈fp,gG X pins H b)(ho:∀ b∈fp,∃ o,s.heap.get? b=some o/\∀ v,o.data≠.cell v):Inv X (pins++iy fp s.heap) σ H s :=
 I.qj fun p hp=>(List.mem_append.mp hp).elim (fun z=>I.pin p (List.mem_append_right _ z)) fun z=>by
  obtain⟨hb,e⟩:=uk z;obtain⟨f0,f1,f2,_⟩:=hf p.1 hb;obtain⟨o,e',d⟩:=ho p.1 hb;rw[e]at e';cases e';exact⟨e,f0,f1,f2,d⟩
def Inv.gJ(I:Inv X (pins++pl) σ H s):Inv X pins σ H s:=I.qj fun p hp=>I.pin p (List.mem_append_right _ (List.mem_append_left _ hp))
def uF(hp:PassesOwn (model X.prog X.w) X.A X.env X.xe)(hc:X.calm=true)(hi:PI X tg iter wi)(hg:PG X tg g)(hb:PSs X body tb)
 (hs:∀ x,foldedSetIterable iter X.env x=pure x):PS X (.For tg iter body [] pos) (Ec wi g tb):=by
 intro pins s σ H D I h;refine wpAny_For (thn (hi pins s σ H _ I h) fun v s1 h1=>thn h1 fun itv s2 h2=>?_) hs;obtain⟨it,fp,tn,J,H2,e,I2,T,st2,f2,W,⟨m0,w0⟩,turn⟩:=h2;subst e
 have stat:∀ {H':Hp},(∀ b∈fp,H' b=none)->∀ b∈fp,gG X pins H' b:=fun hn b hb=>⟨hn b hb,(f2 b hb).2⟩
 refine codeAny_forLoop_any (fun n s'=>∃ i σ' H',Inv X pins σ' H' s'/\tn i s'.heap/\(∀ b∈fp,H' b=none)/\W i n σ' H') ?_ m0 ⟨0,σ,H2,I2,st2,fun b hb=>(f2 b hb).1,w0⟩;rintro n s3 ⟨i,σ3,H3,I3,st3,fr3,w3⟩
 rcases turn i n σ3 H3 w3 with⟨stop,qn⟩ | ⟨go,N,hN,step⟩
 ·refine wpAny_passesOwn hp (thn (T.done X rfl rfl rfl hc i pins s3 σ3 H3 X.xe I3 (stat fr3) st3 stop) fun r s4 ⟨hr,I4⟩=>?_);subst hr;exact wpAny_execs_nil ⟨σ3,H3,I4,qn⟩
 ·refine wpAny_passesOwn hp (thn (T.item X rfl rfl rfl hc i pins s3 σ3 H3 X.xe I3 (stat fr3) st3 go) fun r s4 ⟨u,hr,h4⟩=>?_);subst hr;refine wpAny_passesOwn hp (thn h4 fun _ s5 ⟨x,H5,I5,r5,y5,st5,fr5⟩=>?_);have I5':=I5.pinned (stat fr5) (T.obj _ _ st5);refine wpAny_passesOwn hp (thn (hg _ s5 σ3 H5 x u _ I5' r5 (step x H5 y5)) fun _ s6 ⟨σ6,H6,I6,q6⟩=>?_);refine wpAny_passesOwn hp (thn (hb _ s6 σ6 H6 _ I6 q6) fun f s7 q7=>?_)
  have again:∀ {σ7:St} {H7:Hp},Inv X (pins++iy fp s5.heap) σ7 H7 s7->N σ7 H7->∃ m,m<n/\∃ i σ' H',Inv X pins σ' H' s7/\tn i s7.heap/\(∀ b∈fp,H' b=none)/\W i m σ' H':=fun {σ7 H7} I7 n7=>by
   obtain⟨m',hm,w7⟩:=hN σ7 H7 n7;refine⟨m',hm,i+1,σ7,H7,I7.gJ,T.keep _ _ _ st5 fun b hb o e=>(I7.pin (b,o) (List.mem_append_right _ (List.mem_append_right _ (eY hb e)))).1,fun b hb=>?_,w7⟩;obtain⟨o,e,d⟩:=T.obj _ _ st5 b hb;exact(I7.pin (b,o) (List.mem_append_right _ (List.mem_append_right _ (eY hb e)))).2.1
  cases f with
  | next=>obtain⟨σ7,H7,I7,n7⟩:=q7;exact again I7 n7
  | cont=>obtain⟨σ7,H7,I7,n7⟩:=q7;exact again I7 n7
  | brk=>obtain⟨σ7,H7,I7,q7⟩:=q7;exact⟨σ7,H7,I7.gJ,q7⟩
  | ret v=>obtain⟨x7,σ7,H7,I7,r7,q7⟩:=q7;exact⟨x7,σ7,H7,I7.gJ,r7,q7⟩
end
@[reducible]noncomputable def R2:=V->V->Hp->VK->Prop
abbrev OpR(X:Cx)(f:Value->Value->Sem Value)(r:R2):Prop :=
 ∀ (pins:List (Addr × Obj)) (s:Shared) (σ:St) (H:Hp) (x y:V) (v u:Value) (Q:VK),Inv X pins σ H s->RelV x v->RelV y u->r x y H Q ->
  wpAny (model X.prog X.w) X.A (f v u) (EP X pins σ Q) X.xe s
abbrev UnR(X:Cx)(f:Value->Sem Value)(r:V->Hp->VK->Prop):Prop :=
 ∀ (pins:List (Addr × Obj)) (s:Shared) (σ:St) (H:Hp) (x:V) (v:Value) (Q:VK),Inv X pins σ H s->RelV x v->r x H Q ->
  wpAny (model X.prog X.w) X.A (f v) (EP X pins σ Q) X.xe s
abbrev br(X:Cx)(f:Value)(r:List V->Hp->VK->Prop):Prop :=
 ∀ (pins:List (Addr × Obj)) (s:Shared) (σ:St) (H:Hp) (xs:List V) (us:List Value) (Q:VK),Inv X pins σ H s->Vals xs us->r xs H Q ->
  wpAny (model X.prog X.w) X.A (call f us) (EP X pins σ Q) X.xe s
abbrev Ep(X:Cx)(r:V->Hp->(Bool->Hp->Prop)->Prop):Prop :=
 ∀ (pins:List (Addr × Obj)) (s:Shared) (σ:St) (H:Hp) (x:V) (v:Value) (Q:Bool->Hp->Prop),Inv X pins σ H s->RelV x v->r x H Q ->
  wpAny (model X.prog X.w) X.A (truthy v) (TP X pins σ Q) X.xe s
abbrev tOp(r:R2)(ta tb:TE):TE:=fun σ H Q=>ta σ H fun x H1=>tb σ H1 fun y H2=>r x y H2 Q
abbrev tUn(r:V->Hp->VK->Prop)(ta:TE):TE:=fun σ H Q=>ta σ H fun x H1=>r x H1 Q
abbrev rI(C:Int->Int->Prop)(g:Int->Int->V):R2:=fun x y H Q=>∃ i j,x=.int i/\y=.int j/\C i j/\Q (g i j) H
abbrev rI0(g:Int->Int->V):R2:=fun x y H Q=>∃ i j,x=.int i/\y=.int j/\Q (g i j) H
abbrev rU(g:Int->V):V->Hp->VK->Prop:=fun x H Q=>∃ i,x=.int i/\Q (g i) H
section
variable{X:Cx}{a b c:Expr}{ta tb tc:TE}{pos:Pos}
def wo(ha:PE X a ta)(hb:PE X b tb){pins:List (Addr × Obj)}{s:Shared}{σ:St}{H:Hp}{R:V->V->Hp->Prop}(I:Inv X pins σ H s)
 (h:ta σ H fun x H1=>tb σ H1 fun y H2=>R x y H2){Q:Value->Shared->Prop}{f:Value->Value->Sem Value}
 (hf:∀ v u s2 x y H2,Inv X pins σ H2 s2->RelV x v->RelV y u->R x y H2->wpAny (model X.prog X.w) X.A (f v u) Q X.xe s2) :
  wpAny (model X.prog X.w) X.A (eval a X.env) (fun v s₁=>wpAny (model X.prog X.w) X.A (eval b X.env) (fun u s₂=>wpAny (model X.prog X.w) X.A (f v u) Q X.xe s₂) X.xe s₁) X.xe s:=by
 refine thn (ha pins s σ H _ I h) fun v s1 ⟨x,H1,I1,r1,q1⟩=>?_;refine thn (hb pins s1 σ H1 _ I1 q1) fun u s2 ⟨y,H2,I2,r2,q2⟩=>?_;exact hf v u s2 x y H2 I2 r1 r2 q2
def Di{op:Operator}{r:R2}(ho:OpR X (binaryOp op) r)(ha:PE X a ta)(hb:PE X b tb):PE X (.BinOp a op b pos) (tOp r ta tb):=by
 intro pins s σ H Q I h;exact wpAny_BinOp (wo ha hb I h fun v u s2 x y H2 I2 rx ry q=>ho pins s2 σ H2 x y v u Q I2 rx ry q)
def wJ(ho:UnR X (unaryOp op) r)(ha:PE X a ta):PE X (.UnaryOp op a pos) (tUn r ta):=by
 intro pins s σ H Q I h;exact UnaryOp_ (thn (ha pins s σ H _ I h) fun v s1 ⟨x,H1,I1,r1,q1⟩=>ho pins s1 σ H1 x v Q I1 r1 q1)
def opI{f:Value->Value->Sem Value}{C:Int->Int->Prop}{g:Int->Int->Int}
 (rule:∀ (i j:Int) (t u:Tok) (s:Shared) (Q:Value->Shared->Prop) (E:Value->Shared->Prop),C i j->Q (.int (g i j) s.toks) { s with toks:=s.toks+1 }->wpAny (model X.prog X.w) X.A (f (.int i t) (.int j u)) Q E s) :
  OpR X f (rI C fun i j=>.int (g i j)):=by
 intro pins s σ H x y v u Q I rx ry h;obtain⟨i,j,rfl,rfl,hc,q⟩:=h;obtain⟨t,rfl⟩:=rx;obtain⟨t',rfl⟩:=ry;exact rule i j t t' s _ _ hc ⟨.int (g i j),H,I.tok _,⟨_,rfl⟩,q⟩
def Au{f:Value->Value->Sem Value}{g:Int->Int->Int}
 (rule:∀ (i j:Int) (t u:Tok) (s:Shared) (Q:Value->Shared->Prop) (E:Value->Shared->Prop),Q (.int (g i j) s.toks) { s with toks:=s.toks+1 }->wpAny (model X.prog X.w) X.A (f (.int i t) (.int j u)) Q E s) :
  OpR X f (rI0 fun i j=>.int (g i j)):=by
 intro pins s σ H x y v u Q I rx ry h;obtain⟨i,j,rfl,rfl,q⟩:=h;obtain⟨t,rfl⟩:=rx;obtain⟨t',rfl⟩:=ry;exact rule i j t t' s _ _ ⟨.int (g i j),H,I.tok _,⟨_,rfl⟩,q⟩
abbrev Ek(i j:Int):Prop:=0<j/\j<1073741824
abbrev ze(i j:Int):Prop:=0<=j/\j<=1000000/\i.natAbs<2 ^ 64
abbrev rk(i j:Int):Prop:=(-(2 ^ 64)<i/\i<2 ^ 64)\/(-(2 ^ 64)<j/\j<2 ^ 64)
def rk.ok(h:rk i j):IntMulOk i j:=by
 rcases h with⟨h1,h2⟩ | ⟨h1,h2⟩
 ·exact .of_left (intBits_le_64 h1 h2)
 ·exact .of_right (intBits_le_64 h1 h2)
def zT:OpR X (binaryOp .Add) (rI0 fun i j=>.int (i+j)):=Au fun _ _ _ _ _ _ _ q=>add_int q
def B1:OpR X (binaryOp .Sub) (rI0 fun i j=>.int (i-j)):=Au fun _ _ _ _ _ _ _ q=>sub_int q
def zS:OpR X (binaryOp .Mult) (rI rk fun i j=>.int (i*j)):=opI fun _ _ _ _ _ _ _ hc q=>mul_int q hc.ok
def Bb:OpR X (binaryOp .Mod) (rI (fun _ j=>0<j) fun i j=>.int (i%j)):=opI fun i j _ _ _ _ _ hc q=>by
 have h1:(0:Int)<j:=hc;exact mod_int' (by omega) (by rw[Int.fmod_eq_emod_of_nonneg i (by omega)];exact q)
def AW:OpR X (binaryOp .Pow) (rI ze fun i j=>.int (i ^ j.toNat)):=opI fun _ _ _ _ _ _ _ hc q=>pow_int_small hc.1 hc.2.1 hc.2.2 q
def unI{f:Value->Sem Value}{g:Int->Int}
 (rule:∀ (i:Int) (t:Tok) (s:Shared) (Q:Value->Shared->Prop) (E:Value->Shared->Prop),Q (.int (g i) s.toks) { s with toks:=s.toks+1 }->wpAny (model X.prog X.w) X.A (f (.int i t)) Q E s) :
  UnR X f (rU fun i=>.int (g i)):=by
 intro pins s σ H x v Q I rx h;obtain⟨i,rfl,q⟩:=h;obtain⟨t,rfl⟩:=rx;exact rule i t s _ _ ⟨.int (g i),H,I.tok _,⟨_,rfl⟩,q⟩
def tP:UnR X (unaryOp .USub) (rU fun i=>.int (-i)):=unI fun _ _ _ _ _ q=>neg_int q
end
abbrev DZ:V->V->Bool
 | .non,.non=>true | .non,.int _=>true | .int _,.non=>true | .non,.bl _=>true | .bl _,.non=>true | .non,.str _=>true | .str _,.non=>true
 | .int _,.int _=>true | .bl _,.bl _=>true | .str _,.str _=>true | .byt _,.byt _=>true
 | .int _,.str _=>true | .str _,.int _=>true | .bl _,.str _=>true | .str _,.bl _=>true
 | _,_=>false
abbrev rNe:R2:=fun x y H Q=>DZ x y=true/\Q (.bl (!decide (x=y))) H
def yI:decide (V.int i=V.int j)=(i == j):=by
 rw[Bool.eq_iff_iff];simp
def zi:decide (V.bl i=V.bl j)=(i == j):=by
 rw[Bool.eq_iff_iff];simp
def yH:decide (V.str i=V.str j)=(i == j):=by
 rw[Bool.eq_iff_iff];simp
def xK:decide (V.byt i=V.byt j)=(i.toList == j.toList):=by
 rw[Bool.eq_iff_iff];cases i;cases j;simp
section
variable{X:Cx}{a b c:Expr}{ta tb tc:TE}{pos:Pos}
def bL(I:Inv X pins σ H s)(q:Q (.bl k) H)(e:k=k'):EP X pins σ Q (.bool k') s:=by
 subst e;exact⟨.bl k,H,I,rfl,q⟩
def CW:OpR X (compareOp .NotEq) rNe:=by
 intro pins s σ H x y v u Q I rx ry h;obtain⟨hs,q⟩:=h
 cases x with
 |non=>
  cases rx
  cases y with
  | non=>cases ry;exact PySem.EqNone.ne_none_none (bL I q (by simp))
  | bl j=>cases ry;exact PySem.EqNone.ne_none_bool (bL I q (by simp))
  | int j=>obtain⟨t',rfl⟩:=ry;exact PySem.EqNone.ne_none_int (bL I q (by simp))
  | str j=>obtain⟨t',rfl⟩:=ry;exact PySem.EqNone.ne_none_str (bL I q (by simp))
  | _=>exact absurd (show false=true from hs) Bool.false_ne_true
 |bl i=>
  cases rx
  cases y with
  | non=>cases ry;exact PySem.EqNone.ne_bool_none (bL I q (by simp))
  | bl j=>cases ry;exact ne_bool (bL I q (congrArg not zi))
  | str j=>obtain⟨t',rfl⟩:=ry;exact PySem.EqMixed.ne_bool_str (bL I q (by simp))
  | _=>exact absurd (show false=true from hs) Bool.false_ne_true
 |int i=>
  obtain⟨t,rfl⟩:=rx
  cases y with
  | non=>cases ry;exact PySem.EqNone.ne_int_none (bL I q (by simp))
  | int j=>obtain⟨t',rfl⟩:=ry;exact ne_int (bL I q (congrArg not yI))
  | str j=>obtain⟨t',rfl⟩:=ry;exact PySem.EqMixed.ne_int_str (bL I q (by simp))
  | _=>exact absurd (show false=true from hs) Bool.false_ne_true
 |str i=>
  obtain⟨t,rfl⟩:=rx
  cases y with
  | non=>cases ry;exact PySem.EqNone.ne_str_none (bL I q (by simp))
  | bl j=>cases ry;exact PySem.EqMixed.ne_str_bool (bL I q (by simp))
  | int j=>obtain⟨t',rfl⟩:=ry;exact PySem.EqMixed.ne_str_int (bL I q (by simp))
  | str j=>obtain⟨t',rfl⟩:=ry;exact ne_str (bL I q (congrArg not yH))
  | _=>exact absurd (show false=true from hs) Bool.false_ne_true
 |byt i=>
  obtain⟨t,rfl⟩:=rx
  cases y with
  | byt j=>obtain⟨t',rfl⟩:=ry;exact PySem.W.ne_bytes (bL I q (congrArg not xK))
  | _=>exact absurd (show false=true from hs) Bool.false_ne_true
 | _=>cases y<;>exact absurd (show false=true from hs) Bool.false_ne_true
def BK:OpR X (compareOp .Is) (fun x y H Q=>y=.non/\Q (.bl (decide (x=.non))) H):=by
 intro pins s σ H x y v u Q I rx ry h;obtain⟨rfl,q⟩:=h;cases ry;refine is_none_gen (bL I q ?_)
 cases x<;>first
  | (cases rx;rfl)
  | (obtain⟨t,rfl⟩:=rx;rfl)
def yq:OpR X (compareOp .IsNot) (fun x y H Q=>y=.non/\Q (.bl (!decide (x=.non))) H):=by
 intro pins s σ H x y v u Q I rx ry h;obtain⟨rfl,q⟩:=h;cases ry;refine isnot_none_gen (bL I q ?_)
 cases x<;>first
  | (cases rx;rfl)
  | (obtain⟨t,rfl⟩:=rx;rfl)
def OpR.or(h:OpR X f r)(h':OpR X f r'):OpR X f (fun x y H Q=>r x y H Q\/r' x y H Q):=by
 intro pins s σ H x y v u Q I rx ry q;rcases q with q | q
 ·exact h pins s σ H x y v u Q I rx ry q
 ·exact h' pins s σ H x y v u Q I rx ry q
def mU(b:Expr)(h:op≠.In)(h2:op≠.NotIn):behindInMarks op b=false:=by
 have e1:(op == CmpOp.In)=false:=by cases op<;>first | rfl | exact absurd rfl h
 have e2:(op == CmpOp.NotIn)=false:=by cases op<;>first | rfl | exact absurd rfl h2
 cases b<;>simp[behindInMarks,e1,e2]
def qb{op:CmpOp}{r:R2}(ho:OpR X (compareOp op) r)(ha:PE X a ta)(hb:PE X b tb)(hm:behindInMarks op b=false):PE X (.Compare a [op] [b] pos) (tOp r ta tb):=by
 intro pins s σ H Q I h;exact wpAny_Compare1 (wo ha hb I h fun v u s2 x y H2 I2 rx ry q=>ho pins s2 σ H2 x y v u Q I2 rx ry q) hm
abbrev wF(t:TE):TT:=fun σ H Q=>t σ H fun x H'=>∃ k,x=.bl k/\Q k H'
def kR(ho:OpR X (compareOp op) r)(ha:PE X a ta)(hb:PE X b tb)(hm:behindInMarks op b=false):PT X (.Compare a [op] [b] pos) (wF (tOp r ta tb)):=by
 intro pins s σ H Q I h
 refine wpAny_isTrue_Compare1 (thn (ha pins s σ H _ I h) fun v s1 ⟨x,H1,I1,r1,q1⟩=>thn (hb pins s1 σ H1 _ I1 q1) fun u s2 ⟨y,H2,I2,r2,q2⟩ =>
  thn (ho pins s2 σ H2 x y v u _ I2 r1 r2 q2) fun c s3 ⟨z,H3,I3,r3,k,e,q3⟩=>?_) hm
 subst e;cases r3;exact wpAny_truthy_bool ⟨H3,I3,q3⟩
abbrev nB(r r':R2)(ta tb tc:TE):TE:=fun σ H Q=>ta σ H fun x H1=>tb σ H1 fun y H2=>r x y H2 fun z H3=>∃ k,z=.bl k /\
 (if k=true then tc σ H3 fun w' H4=>r' y w' H4 Q else Q (.bl false) H3)
def vG(ho:OpR X (compareOp op) r)(ho':OpR X (compareOp op') r')(ha:PE X a ta)(hb:PE X b tb)(hc:PE X c tc)
 (hm:lastMarks [op,op'] [b,c]=false):PE X (.Compare a [op,op'] [b,c] pos) (nB r r' ta tb tc):=by
 intro pins s σ H Q I h
 refine Compare_chain (thn (ha pins s σ H _ I h) fun v s1 ⟨x,H1,I1,r1,q1⟩=>chain_link (thn (hb pins s1 σ H1 _ I1 q1) fun u s2 ⟨y,H2,I2,r2,q2⟩ =>
  thn (ho pins s2 σ H2 x y v u _ I2 r1 r2 q2) fun d s3 ⟨z,H3,I3,r3,k,e,q3⟩=>?_)) hm
 subst e;cases r3;refine wpAny_truthy_bool ?_
 cases k with
 | false=>exact ite_ff ⟨.bl false,H3,I3,rfl,q3⟩
 | true=>exact ite_tt (chain_last (thn (hc pins s3 σ H3 _ I3 q3) fun w' s4 ⟨z',H4,I4,r4,q4⟩=>ho' pins s4 σ H4 y z' u w' Q I4 r2 r4 q4))
def vY(ho:OpR X (compareOp op) r)(ho':OpR X (compareOp op') r')(ha:PE X a ta)(hb:PE X b tb)(hc:PE X c tc)
 (hm:lastMarks [op,op'] [b,c]=false):PT X (.Compare a [op,op'] [b,c] pos) (wF (nB r r' ta tb tc)):=by
 intro pins s σ H Q I h
 refine isTrue_chain (thn (ha pins s σ H _ I h) fun v s1 ⟨x,H1,I1,r1,q1⟩=>test_link (thn (hb pins s1 σ H1 _ I1 q1) fun u s2 ⟨y,H2,I2,r2,q2⟩ =>
  thn (ho pins s2 σ H2 x y v u _ I2 r1 r2 q2) fun d s3 ⟨z,H3,I3,r3,k,e,q3⟩=>?_)) hm
 subst e;cases r3;refine wpAny_truthy_bool ?_
 cases k with
 |false=>
  obtain⟨k',e',q'⟩:=q3;cases e';exact ite_ff ⟨H3,I3,q'⟩
 |true=>
  refine ite_tt (test_last (thn (hc pins s3 σ H3 _ I3 q3) fun w' s4 ⟨z',H4,I4,r4,q4⟩=>thn (ho' pins s4 σ H4 y z' u w' _ I4 r2 r4 q4) fun d' s5 ⟨z2,H5,I5,r5,k2,e2,q5⟩=>?_));subst e2;cases r5;exact wpAny_truthy_bool ⟨H5,I5,q5⟩
abbrev rq(K:PySem.W.Frag)(x:V)(H:Hp)(k:Bool):Prop :=
 match x with
 | .non=>k=false
 | .bl b=>k=b
 | .int i=>k=(i != 0)
 | .str y=>y.length<=sizeLine/\k=((y.length:Int) != 0)
 | .byt y=>y.size<=sizeLine/\k=((y.size:Int) != 0)
 | .ref p=>(∃ xs,SqL K H p xs/\k=!xs.isEmpty)\/(∃ xs,SqT K H p xs/\k=!xs.isEmpty)\/∃ kvs,H p=some (.dK kvs)/\k=!kvs.isEmpty
 | _=>False
def rF(r:KV kvs vs):(!vs.isEmpty)=!kvs.isEmpty:=by
 cases r<;>rfl
def jR(r:Vals xs its):(!its.toArray.isEmpty)=!xs.isEmpty:=by
 cases r<;>simp
def nc:(sizeLine:Nat)<2 ^ 63:=by rw[sizeLine_eq];decide
def sL:Ep X (fun x H Q=>∃ k,rq X.K x H k/\Q k H):=by
 intro pins s σ H x v Q I rx h;obtain⟨k,e,q⟩:=h;have hs:sizeLine=16777216:=sizeLine_eq
 cases x with
 |non=>
  cases rx;have e':=e;subst e';exact truthy_none ⟨H,I,q⟩
 |bl b=>
  cases rx;have e':=e;subst e';exact wpAny_truthy_bool ⟨H,I,q⟩
 |int i=>
  obtain⟨t,rfl⟩:=rx;have e':=e;subst e';exact PySem.P.truthy_int ⟨H,I,q⟩
 |str y=>
  obtain⟨t,rfl⟩:=rx;obtain⟨hy,e'⟩:y.length<=sizeLine/\k=((y.length:Int) != 0):=e;subst e';exact PySem.P.truthy_str (by omega) ⟨H,I.tok _,q⟩
 |byt y=>
  obtain⟨t,rfl⟩:=rx;obtain⟨hy,e'⟩:y.size<=sizeLine/\k=((y.size:Int) != 0):=e;subst e';exact PySem.W.truthy_bytes (by omega) ⟨H,I.tok _,q⟩
 |ref p=>
  cases rx;have e':=e
  rcases e' with⟨xs,hx,e'⟩ | ⟨xs,hx,e'⟩ | ⟨kvs,hx,e'⟩
  ·subst e';obtain⟨its,r,pl,hz⟩:=I.list hx;have hlen:=r.length;exact wpAny_truthy_list pl.isList (by simp only[List.size_toArray];omega) ⟨H,I.tok _,by rw[jR r];exact q⟩
  ·subst e';obtain⟨its,r,pl,hz⟩:=I.tuple hx;have hlen:=r.length;exact truthy_tuple pl (by simp only[List.size_toArray];omega) ⟨H,I.tok _,by rw[jR r];exact q⟩
  ·subst e';obtain⟨hz,hS,vs,r,m⟩:kvs.length<=sizeLine/\(p == sysModules)=false/\∃ vs,KV kvs vs/\s.heap.DictOf (bO X.prog X.w) p vs:=I.hok p _ hx;have hlen:kvs.length=vs.length:=Paired.length r;exact wpAny_truthy_dict hS m (by omega) ⟨H,I.tok _,by rw[rF r];exact q⟩
 | _=>exact(show False from e).elim
def wz(ha:PE X a ta)(he:∀ whole,isTrue a X.env whole=(do let v <- whole;standAt a.pos;holding [v] (truthy v))) :
  PT X a (fun σ H Q=>ta σ H fun x H'=>∃ k,rq X.K x H' k/\Q k H'):=by
 intro pins s σ H Q I h;exact isTrue_plain (thn (ha pins s σ H _ I h) fun v s1 ⟨x,H1,I1,r1,q1⟩=>sL pins s1 σ H1 x v Q I1 r1 q1) (he _)
def qW:OpR X (binaryOp .Add) (fun x y H Q=>∃ i j,x=.str i/\y=.str j/\i.length+j.length<=sizeLine/\Q (.str (i++j)) H):=by
 intro pins s σ H x y v u Q I rx ry h;obtain⟨i,j,rfl,rfl,hz,q⟩:=h;obtain⟨t,rfl⟩:=rx;obtain⟨t',rfl⟩:=ry;exact add_str (fun t' tk=>⟨.str (i++j),H,I.tok _,⟨_,rfl⟩,q⟩) hz
def vals1(r:Vals [x] us):∃ u,us=[u]/\RelV x u:=by
 cases r with
 | cons r1 r2=>cases r2;exact⟨_,rfl,r1⟩
def vals2(r:Vals [x,y] us):∃ u w',us=[u,w']/\RelV x u/\RelV y w':=by
 cases r with
 |cons r1 r2=>
  cases r2 with
  | cons r3 r4=>cases r4;exact⟨_,_,rfl,r1,r3⟩
def uf(hc:X.calm=true):br X (.builtin "max") (fun xs H Q=>∃ i j,xs=[.int i,.int j]/\Q (.int (if j > i then j else i)) H):=by
 intro pins s σ H xs us Q I r h;obtain⟨i,j,rfl,q⟩:=h;obtain⟨u,w',rfl,⟨t,rfl⟩,⟨t',rfl⟩⟩:=vals2 r
 refine max_two_ints (I.ok.hd.1 hc) fun h' tk k=>⟨_,H,I.kept k,?_,q⟩
 by_cases hj:j > i
 ·rw[if_pos hj,if_pos hj];exact⟨_,rfl⟩
 ·rw[if_neg hj,if_neg hj];exact⟨_,rfl⟩
def su:br X (.type "int") (fun xs H Q=>(∃ i,xs=[.int i]/\Q (.int i) H)\/∃ k,xs=[.bl k]/\Q (.int (if k then 1 else 0)) H):=by
 intro pins s σ H xs us Q I r h
 rcases h with⟨i,rfl,q⟩ | ⟨k,rfl,q⟩
 ·obtain⟨u,rfl,t,rfl⟩:=vals1 r;exact call_int_int ⟨.int i,H,I,⟨_,rfl⟩,q⟩
 ·obtain⟨u,rfl,r1⟩:=vals1 r;cases r1;exact call_int_bool ⟨.int (if k then 1 else 0),H,I.tok _,⟨_,rfl⟩,q⟩
abbrev AK(K:PySem.W.Frag)(x:V)(H:Hp)(n:Nat):Prop :=
 match x with
 | .str y=>y.length<=sizeLine/\n=y.length
 | .byt y=>y.size<=sizeLine/\n=y.size
 | .ref p=>(∃ xs,SqL K H p xs/\n=xs.length)\/∃ xs,SqT K H p xs/\n=xs.length
 | _=>False
def v9:br X (.builtin "len") (fun xs H Q=>∃ x n,xs=[x]/\AK X.K x H n/\Q (.int n) H):=by
 intro pins s σ H xs us Q I r h;obtain⟨x,n,rfl,e,q⟩:=h;obtain⟨u,rfl,rx⟩:=vals1 r;have hs:sizeLine=16777216:=sizeLine_eq
 cases x with
 |str y=>
  obtain⟨t,rfl⟩:=rx;obtain⟨hy,e'⟩:y.length<=sizeLine/\n=y.length:=e;subst e';exact len_str (by omega) ⟨.int _,H,I.tok _,⟨_,rfl⟩,q⟩
 |byt y=>
  obtain⟨t,rfl⟩:=rx;obtain⟨hy,e'⟩:y.size<=sizeLine/\n=y.size:=e;subst e';exact PySem.W.len_bytes (by omega) ⟨.int _,H,I.tok _,⟨_,rfl⟩,q⟩
 |ref p=>
  cases rx;have e':=e
  rcases e' with⟨xs,hx,e'⟩ | ⟨xs,hx,e'⟩
  ·subst e';obtain⟨its,r',pl,hz⟩:=I.list hx;have hlen:=r'.length;exact Calls.call_len_list pl.isList (by simp only[List.size_toArray];omega) ⟨.int xs.length,H,I.tok _,⟨_,by simp only[List.size_toArray];rw[hlen]⟩,q⟩
  ·subst e';obtain⟨its,r',pl,hz⟩:=I.tuple hx;have hlen:=r'.length;exact len_tuple pl (by simp only[List.size_toArray];omega) ⟨.int xs.length,H,I.tok _,⟨_,by simp only[List.size_toArray];rw[hlen]⟩,q⟩
 | _=>exact(show False from e).elim
def pb:br X (.builtin "divmod") (fun xs H Q=>∃ i j,xs=[.int i,.int j]/\Ek i j/\∀ p,H p=none->Q (.ref p) (upd H p (.tup [.int (i / j),.int (i%j)]))):=by
 intro pins s σ H xs us Q I r h;obtain⟨i,j,rfl,⟨h1,h2⟩,q⟩:=h;obtain⟨u,w',rfl,⟨t,rfl⟩,⟨t',rfl⟩⟩:=vals2 r;refine divmod_int (by omega) ?_ (.inl (PyProof.noPylong_small (by omega)));rw[Int.fdiv_eq_ediv_of_nonneg i (by omega),Int.fmod_eq_emod_of_nonneg i (by omega)];have hn:H s.heap.objs.size=none:=I.hok.fresh (Nat.le_refl _);refine⟨.ref s.heap.objs.size,_,?_,rfl,q _ hn⟩;refine I.laid (fun b o e=>Heap.get?_push_of_some _ e) (Nat.le_refl _) ⟨by simp only[List.length_cons,List.length_nil];rw[sizeLine_eq];decide,[.int (i / j) s.toks,.int (i%j) (s.toks+1)],.cons ⟨_,rfl⟩ (.cons ⟨_,rfl⟩ .nil),?_⟩;exact⟨_,Heap.get?_push_size s.heap rfl,rfl,0,rfl⟩
end
structure vC(h:Heap)(x dx C:Addr)(mA:Str->Option Value):Prop where
 obj:h.get? x=some (PySem.W.instObj C dx)
 ns:h.Ns1 dx mA
 ne:dx≠x
def rS{h:Heap}(n:h.Ns1 dx mA):∃ od,h.get? dx=some od/\∀ name,PySem.W.lookIn name od=some (mA name):=by
 obtain⟨o,es,ep,ho,hd,hk,_,hm⟩:=n;refine⟨o,ho,fun name=>?_⟩;have e:=hm name;unfold nsFind findBy at e;rw[<-Array.find?_toList]at e;unfold PySem.W.lookIn;rw[hd];dsimp only;split
 ·rename_i y q;rw[q]at e;exact congrArg some e
 ·rename_i q;rw[q]at e
  have a:es.toList.any (·.refKey)=false:=by
   rw[List.any_eq_false];intro y hy;obtain⟨z,t,hkey⟩:=hk y (Array.mem_toList_iff.mp hy);simp[DictEntry.refKey,hkey]
  have a':¬ es.toList.any (·.refKey)=true:=by rw[a];exact Bool.false_ne_true
  rw[if_neg a'];exact congrArg some e
def vC.look(I:vC h x dx C mA):∃ od,PySem.W.InstAt h x (PySem.W.instObj C dx) C (some od)/\∀ name,PySem.W.lookIn name od=some (mA name) :=
 let ⟨od,ho,hl⟩:=rS I.ns
 ⟨od,⟨I.obj,rfl,rfl,ho⟩,hl⟩
section
variable{prog:Program}{w:World}{A:Around}{E:Value->Shared->Prop}{s:Shared}{K:PySem.W.Frag}{x dx C f:Addr}{mA:Str->Option Value}{name:Str}{v:Value}
end
section
variable{P:Program}{w:World}{H H':Hp}{h h':Heap}{a C dx:Addr}{fs fs':List (Str × V)}
def yK(hok:HOk P w H h)(e:H a=some (.ins C dx fs)):∃ mA,vC h a dx C mA/\(∀ f,vP (fs.lookup f) (mA f))/\PySem.Within mA (fs.map (·.1))/\fs.length<=1000/\H dx=some (.own a):=by
 obtain⟨d,z,ne,ob,mA,n,r,q⟩:=(show bu P w H h a (.ins C dx fs)from hok a _ e)
 exact⟨mA,⟨ob,n,ne⟩,r,q,z,d⟩
end
structure Cls(K:PySem.W.Frag)(C:Addr):Prop where
 pg:PySem.W.plainGet K C Str.empty=true
 hd:PySem.W.hasDictIn K C=true
 po:PySem.W.plainOver K C=true
 sa:PySem.W.findIn K (.ref C) "__setattr__" = some (some (.builtin "object.__setattr__"))
def Cls.get{K:PySem.W.Frag}(c:Cls K C)(f:Str):PySem.W.plainGet K C f=true:=c.pg
section
variable{X:Cx}{pins:List (Addr × Obj)}{σ:St}{H:Hp}{s:Shared}{a C dx:Addr}{fs:List (Str × V)}{f:Str}{v:V}{A:Around}{E:Value->Shared->Prop}
end
section
variable{X:Cx}{o e value:Expr}{f:Str}{pos pos' tpos:Pos}{ta tv:TE}
end
section
variable{X:Cx}{pins:List (Addr × Obj)}{σ:St}{H:Hp}{s:Shared}{A:Around}{E:Value->Shared->Prop}{Q:Value->Shared->Prop}{c:Value}{b:Bool}
inductive dQ (K:PySem.W.Frag) (H:Hp):V->Value->Prop where
 | non:dQ K H .non (.type "NoneType")
 | bl (x:Bool):dQ K H (.bl x) (.type "bool")
 | int (i:Int):dQ K H (.int i) (.type "int")
 | str (x:Str):dQ K H (.str x) (.type "str")
 | flt (x:UInt64):dQ K H (.flt x) (.type "float")
 | lst {a:Addr} {xs:List V} (e:H a=some (.lst xs)):dQ K H (.ref a) (.type "list")
 | frz {a:Addr} {o:Obj} {xs:List V} (e:H a=some (.frz o (.lst xs))):dQ K H (.ref a) (.type "list")
 | tup {a:Addr} {xs:List V} (e:H a=some (.tup xs)):dQ K H (.ref a) (.type "tuple")
 | dK {a:Addr} {kvs:List (Key × V)} (e:H a=some (.dK kvs)):dQ K H (.ref a) (.type "dict")
 | dT {a:Addr} {kvs:List (List Key × V)} (e:H a=some (.dT kvs)):dQ K H (.ref a) (.type "dict")
 | ins {a C dx:Addr} {fs:List (Str × V)} (e:H a=some (.ins C dx fs)) (cl:Cls K C) (ha:PySem.W.findIn K (.ref C) "__class__" = some (some (.builtin "object.__class__")))
   (hn:PySem.W.specialIn K (.builtin "object.__class__") "__get__" = some (some (.builtin "getset_descriptor.__get__"))) (htk:PySem.W.takesIn K (.builtin "object.__class__")=some true)
   (hm:PySem.W.mroIn K C (.type "object")=some true):dQ K H (.ref a) (.ref C)
def uw(I:Inv X pins σ H s)(rx:RelV x u)(ty:dQ X.K H x t)(e:PySem.W.kitOne X.K t c=some b)(h:∀ tk,Q (.bool b) { s with toks:=tk }) :
  wpAny (model X.prog X.w) A (call (.builtin "isinstance") [u,c]) Q E s:=by
 cases ty with
 | non=>cases(show u=Value.none from rx);exact PySem.W.kia_one PySem.W.kitx_none I.kIn True.intro e (fun z=>nomatch z) h
 | bl y=>cases(show u=Value.bool y from rx);exact PySem.W.kia_one PySem.W.kitx_bool I.kIn True.intro e (fun z=>nomatch z) h
 | int i=>obtain⟨t,q⟩:=(show ∃ t,u=Value.int i t from rx);cases q;exact PySem.W.kia_one PySem.W.kitx_int I.kIn True.intro e (fun z=>nomatch z) h
 | str y=>obtain⟨t,q⟩:=(show ∃ t,u=Value.str y t from rx);cases q;exact PySem.W.kia_one PySem.W.kitx_str I.kIn True.intro e (fun z=>nomatch z) h
 | flt y=>obtain⟨t,q⟩:=(show ∃ t,u=Value.float y t from rx);cases q;exact PySem.W.kia_one PySem.W.kitx_float I.kIn True.intro e (fun z=>nomatch z) h
 |@lst a xs ea=>
  cases(show u=Value.ref a from rx)
  obtain⟨_,_,n,_,h1⟩:=(show bu X.prog X.w H s.heap a (.lst xs)from I.hok a _ ea)
  exact PySem.W.kia_one PySem.W.kitx_list I.kIn ⟨_,h1,rfl⟩ e (fun z=>nomatch z) h
 |@frz a ob xs ea=>
  cases(show u=Value.ref a from rx)
  obtain⟨_,_,_,n,_,h1⟩:=(show bu X.prog X.w H s.heap a (.frz ob (.lst xs))from I.hok a _ ea)
  exact PySem.W.kia_one PySem.W.kitx_list I.kIn ⟨_,h1,rfl⟩ e (fun z=>nomatch z) h
 |@tup a xs ea=>
  cases(show u=Value.ref a from rx)
  obtain⟨_,_,_,p⟩:=(show bu X.prog X.w H s.heap a (.tup xs)from I.hok a _ ea)
  obtain⟨o,h1,h2,_⟩:=p;exact PySem.W.kia_one PySem.W.kitx_tuple I.kIn ⟨o,h1,h2⟩ e (fun z=>nomatch z) h
 |@dK a kvs ea=>
  cases(show u=Value.ref a from rx)
  obtain⟨_,_,vs,_,p⟩:=(show bu X.prog X.w H s.heap a (.dK kvs)from I.hok a _ ea)
  obtain⟨o,es,ep,h1,h2,_⟩:=p;exact PySem.W.kia_one PySem.W.kitx_dict I.kIn ⟨o,h1,h2.1⟩ e (fun z=>nomatch z) h
 |@dT a kvs ea=>
  cases(show u=Value.ref a from rx)
  obtain⟨_,_,xs,_,o,es,ep,h1,h2,_⟩:=(show bu X.prog X.w H s.heap a (.dT kvs)from I.hok a _ ea)
  exact PySem.W.kia_one PySem.W.kitx_dict I.kIn ⟨o,h1,h2.1⟩ e (fun z=>nomatch z) h
 |@ins a C dx fs ea cl ha hn htk hm=>
  cases(show u=Value.ref a from rx);obtain⟨mA,O,_⟩:=yK I.hok ea;obtain⟨od,J,_⟩:=O.look;exact PySem.W.kia_one (PySem.W.kitx_own (cl.get _) cl.hd ha hn htk hm) I.kIn J e (fun z=>nomatch z) h
end
structure bP(k:Nat)(A:Around):Prop where
 hd:A.handled=none
 dp:A.depth+3*k+5<recursionLimit
 un:A.units+16*k+200<cLine
def bP.mono(r:bP k A)(h:j<=k):bP j A:=⟨r.hd,by have:=r.dp;omega,by have:=r.un;omega⟩
def bP.deeper(r:bP (k+1) A)(env:Env):bP k (A.deeper env) :=
 ⟨r.hd,by have:=r.dp;show A.depth+1+3*k+5<_;omega,by have:=r.un;show A.units+3+16*k+200<_;omega⟩
def bP.depth(r:bP k A):A.depth<recursionLimit:=by have:=r.dp;omega
abbrev nE:TA:=fun _ H Q=>Q [] H
abbrev mh(ta:TE)(tr:TA):TA:=fun σ H Q=>ta σ H fun x H1=>tr σ H1 fun xs H2=>Q (x::xs) H2
section
variable{X:Cx}{e:Expr}{es:List Expr}{te:TE}{t:TA}{pos:Pos}
def cK:PA X [] nE:=fun _ _ _ _ H Q I h=>Calls.spliced_nil ⟨[],H,I,.nil,h⟩
def bb(ha:PE X e te)(hr:PA X es t)(hs:starEach (e::es) X.env=(false,eval e X.env)::starEach es X.env):PA X (e::es) (mh te t):=by
 intro pos pins s σ H Q I h;rw[hs];refine Calls.spliced_cons (thn (ha pins s σ H _ I h) fun u s1 ⟨x,H1,I1,r1,q1⟩=>?_)
 exact thn (hr pos pins s1 σ H1 _ I1 q1) fun us s2 ⟨xs,H2,I2,r2,q2⟩=>⟨x::xs,H2,I2,.cons r1 r2,q2⟩
abbrev E9(t:TA):TE:=fun σ H Q=>t σ H fun xs H1=>xs.length<=sizeLine/\∀ p,H1 p=none->Q (.ref p) (upd H1 p (.tup xs))
abbrev Ey(t:TA):TE:=fun σ H Q=>t σ H fun xs H1=>xs.length<=sizeLine/\∀ p,H1 p=none->Q (.ref p) (upd H1 p (.lst xs))
def AA(h:PA X es t):PE X (.Tuple es x1 pos) (E9 t):=by
 intro pins s σ H Q I hq;refine wpAny_Tuple_spliced (thn (h pos pins s σ H _ I hq) fun us s1 ⟨xs,H1,I1,r,z,q⟩=>⟨by rw[<-r.length];exact z,?_⟩);have hf:=I1.hok.fresh (Nat.le_refl _);refine⟨.ref s1.heap.objs.size,upd H1 s1.heap.objs.size (.tup xs),I1.laid (fun b u e=>Heap.get?_push_of_some _ e) (Nat.le_refl _) ?_,rfl,q _ hf⟩;exact⟨z,us,r,⟨_,Heap.get?_push_size _ rfl,rfl,_,rfl⟩⟩
def zJ(h:PA X es t):PE X (.List es pos) (Ey t):=by
 intro pins s σ H Q I hq;refine wpAny_List_spliced (thn (h pos pins s σ H _ I hq) fun us s1 ⟨xs,H1,I1,r,z,q⟩=>⟨by rw[<-r.length];exact z,?_⟩);have hf:=I1.hok.fresh (Nat.le_refl _);refine⟨.ref s1.heap.objs.size,upd H1 s1.heap.objs.size (.lst xs),I1.laid (fun b u e=>Heap.get?_push_of_some _ e) (Nat.le_refl _) ?_,rfl,q _ hf⟩;exact⟨z,us,0,r,Heap.get?_push_size _ rfl⟩
end
@[reducible]noncomputable def Sp:=List V->Hp->VK->XK->Prop
@[reducible]noncomputable def CXT:=List Env->Hp->Shared->XK->Value->Shared->Prop
structure mT(P:Program)(w:World)(K:PySem.W.Frag)(mg:Str->Option Value)(base:Heap)(A:Around)(outer:List Env)(s:Shared)(H:Hp):Prop where
 frames:A.frames=some outer
 mod:Mod K mg base
 bs:∀ b o,base.get? b=some o->s.heap.get? b=some o/\H b=none
 bsz:base.objs.size<=s.heap.objs.size
 de:s.heap.FunFrames base outer
 frf:∀ b∈frs outer,H b=none
 hok:HOk P w H s.heap
 bare:AllBare s.gens
abbrev CE(outer:List Env)(P:Program)(w:World)(H:Hp)(s:Shared)(Q:VK)(u:Value)(s':Shared):Prop :=
 ∃ v H',s'.os=s.os/\AllBare s'.gens/\Un (frs outer) [] H H' s.heap s'.heap/\HOk P w H' s'.heap/\RelV v u/\Q v H'
abbrev CR(CX:CXT)(outer:List Env)(P:Program)(w:World)(H:Hp)(s:Shared)(Q:VK)(E:XK)(r:Result)(s':Shared):Prop :=
 match r with
 | .ok (.ret u)=>CE outer P w H s Q u s'
 | .ok _=>False
 | .error e=>CX outer H s E e s'
structure dz(P:Program)(w:World)(K:PySem.W.Frag)(mg:Str->Option Value)(base:Heap)(CX:CXT)(k:Nat)(f:Addr)(fd:FuncData)(ps:List Str)(sp:Sp):Prop where
 len:∀ vs H Q E,sp vs H Q E->vs.length=ps.length
 run:∀ (A:Around) (outer:List Env) (s:Shared) (H:Hp) (args:Args) (us:List Value) (vs:List V) (Q:VK) (E:XK),bP k A->mT P w K mg base A outer s H->BindsTo s fd args (ps.zip us)->Vals vs us->sp vs H Q E ->
  codeAny (model P w) A (.call (.ref f) args) (CR CX outer P w H s Q E) s
section
variable{X:Cx}{pins:List (Addr × Obj)}{σ:St}{H:Hp}{s s':Shared}
def Inv.vi(I:Inv X pins σ H s):mT X.prog X.w X.K X.mg X.base X.A X.stack s H :=
 ⟨I.ok.frames,I.ok.mod,I.bs,Nat.le_trans I.ok.bsz I.sz,I.stack,I.iR,I.hok,I.bare⟩
def Inv.after(I:Inv X pins σ H s)(h:CE X.stack X.prog X.w H s Q u s'):EP X pins σ Q u s':=by
 obtain⟨v,H',os,bare,un,hok,r,q⟩:=h;obtain⟨hh,g,d,t,os'⟩:=s';obtain rfl:os'=s.os:=os;exact⟨v,H',I.call (h':=hh) (g':=g) (d':=d) (t':=t) (ch:=[]) un hok bare (fun b z=>absurd z (by simp)),r,q⟩
end
abbrev DH(sp:Sp)(dvs:List V)(E:XK)(t:TA):TE:=fun σ H Q=>t σ H fun vs H1=>sp (vs++dvs) H1 Q E
abbrev Binds(K:PySem.W.Frag)(fd:FuncData)(ps:List Str)(ds:List Value):Prop :=
 ∀ (s:Shared) (us:List Value),K.In s.heap->(us++ds).length=ps.length->BindsTo s fd ⟨us,[]⟩ (ps.zip (us++ds))
def Binds.all{K:PySem.W.Frag}(h:∀ us:List Value,us.length=ps.length->bindArgs fd ⟨us,[]⟩=pure (ps.zip us)):Binds K fd ps []:=fun s us _ hl=>by
 rw[List.append_nil]at hl ⊢;exact .of_eq (h us hl)
abbrev Passes(CX:CXT)(X:Cx)(E:XK):Prop:=∀ (pins:List (Addr × Obj)) (σ:St) (H:Hp) (s:Shared) (e:Value) (s':Shared),Inv X pins σ H s->CX X.stack H s E e s'->X.xe e s'
section
variable{X:Cx}{CX:CXT}{k:Nat}{f C:Addr}{fd:FuncData}{ps:List Str}{sp:Sp}{dvs:List V}{ds:List Value}{E:XK}{x m:Str}{p pos apos:Pos}{e o:Expr}{es:List Expr}{ta:TE}{t:TA}
def zm(F:dz X.prog X.w X.K X.mg X.base CX k f fd ps sp)(hr:bP k X.A)(hb:Binds X.K fd ps ds)(hd:Vals dvs ds)(hx:Passes CX X E)
 (I:Inv X pins σ H s)(r:Vals vs us)(h:sp (vs++dvs) H Q E):wpAny (model X.prog X.w) X.A (call (.ref f) us) (EP X pins σ Q) X.xe s:=by
 have r2:Vals (vs++dvs) (us++ds):=r.append hd
 have hl:(us++ds).length=ps.length:=by rw[<-r2.length];exact F.len _ _ _ _ h
 refine wpAny_call (codeAny_mono (F.run X.A X.stack s H ⟨us,[]⟩ (us++ds) (vs++dvs) Q E hr I.vi (hb s us I.kIn hl) r2 h) fun r s' hq=>?_)
 cases r with
 | error e=>exact hx pins σ H s e s' I hq
 |ok fl=>
  cases fl with
  | ret u=>exact I.after hq
  | next=>exact False.elim hq
  | brk=>exact False.elim hq
  | cont=>exact False.elim hq
def yC(F:dz X.prog X.w X.K X.mg X.base CX k f fd ps sp)(hr:bP k X.A)(hg:Gl X x)(hm:X.mg x=some (.ref f))(hk:PySem.W.keepIn X.K (.ref f)=true)(hb:Binds X.K fd ps ds)(hd:Vals dvs ds)(hx:Passes CX X E)
 (ha:PA X (e::es) t)(hdb:(x == ("__debug__" : Str))=false)(he:starEach (e::es) X.env=(false,eval e X.env)::starEach es X.env)(hpl:(backTo pos (starEach es X.env)).any (·.1)=false) :
  PE X (.Call (.Name x p) (e::es) [] pos) (DH sp dvs E t):=by
 intro pins s σ H Q I h;refine wpAny_Call_Name_kw (fm I hg hm ?_ hdb);refine PySem.W.callWith_K I.ok.mod.kin hk (thn (ha pos pins s σ H _ I h) fun us s1 ⟨vs,H1,I1,r,q⟩=>⟨I1.kIn,?_⟩) he hpl;exact zm F hr hb hd hx I1 r q
end
section
variable{X:Cx}{CX:CXT}{k:Nat}{f C:Addr}{fd:FuncData}{ps ks:List Str}{sp:Sp}{E:XK}{x m:Str}{p pos apos kpos:Pos}{e o:Expr}{es:List Expr}{kws:List Keyword}{te ta:TE}{t tk:TA}{nm:Option Str}
variable{g:List Value->List Value->List Value}{gV:List V->List V->List V}
end
structure eA(N P:List Str)(sc:Scope):Prop where
 kind:sc.kind=.function
 co:sc.isCoroutine=false
 gen:sc.isGenerator=false
 nd:N.Nodup
 pre:N.take P.length=P
 par:∀ x∈P,sc.names.lookup x=some .local\/sc.names.lookup x=some .cell
 zh:∀ y∈sc.names,y.2≠.free
def lC{kindOf:Str->Option NameKind}:∀ {binds:List (Str × Value)} {m:Str->Option Value},(∀ v,(x,v)∉binds)->bindL kindOf binds m x=m x
 | [],_,_=>rfl
 | (n,v)::r,m,h=>by
  unfold bindL;rw[lC fun w hw=>h w (List.mem_cons_of_mem _ hw)];split
  ·have:x≠n:=by rintro rfl;exact h v List.mem_cons_self
   simp[this]
  ·rfl
def lL{kindOf:Str->Option NameKind}:∀ {binds:List (Str × Value)} {m:Str->Option Value},(∀ v,(x,v)∉binds)->bindC kindOf binds m x=m x
 | [],_,_=>rfl
 | (n,v)::r,m,h=>by
  unfold bindC;rw[lL fun w hw=>h w (List.mem_cons_of_mem _ hw)];split
  ·rfl
  ·have:x≠n:=by rintro rfl;exact h v List.mem_cons_self
   simp[this]
def lR{kindOf:Str->Option NameKind}:∀ {P:List Str} {vs:List Value} {i:Nat} {m:Str->Option Value},P.Nodup->P[i]?=some x->vs[i]?=some v->kindOf x=some .local ->
  bindL kindOf (P.zip vs) m x=some v
 | [],_,_,_,_,h,_,_=>by simp at h
 | _::_,[],_,_,_,_,h,_=>by simp at h
 | p::P,w::vs,0,m,nd,h1,h2,hk=>by
  simp at h1 h2;subst h1;subst h2;show bindL kindOf ((p,w)::P.zip vs) m p=_;unfold bindL;rw[lC fun v hv=>(List.nodup_cons.mp nd).1 (List.of_mem_zip hv).1,if_pos hk];simp
 | p::P,w::vs,i+1,m,nd,h1,h2,hk=>by
  unfold bindL;exact lR (List.nodup_cons.mp nd).2 (by simpa using h1) (by simpa using h2) hk
def lS{kindOf:Str->Option NameKind}:∀ {P:List Str} {vs:List Value} {i:Nat} {m:Str->Option Value},P.Nodup->P[i]?=some x->vs[i]?=some v->kindOf x≠some .local ->
  bindC kindOf (P.zip vs) m x=some v
 | [],_,_,_,_,h,_,_=>by simp at h
 | _::_,[],_,_,_,_,h,_=>by simp at h
 | p::P,w::vs,0,m,nd,h1,h2,hk=>by
  simp at h1 h2;subst h1;subst h2;show bindC kindOf ((p,w)::P.zip vs) m p=_;unfold bindC;rw[lL fun v hv=>(List.nodup_cons.mp nd).1 (List.of_mem_zip hv).1,if_neg hk];simp
 | p::P,w::vs,i+1,m,nd,h1,h2,hk=>by
  unfold bindC;exact lS (List.nodup_cons.mp nd).2 (by simpa using h1) (by simpa using h2) hk
abbrev start(N:List Str)(vs:List V):St:=vs.map some++List.replicate (N.length-vs.length) none
abbrev fG(CX:CXT)(P:Program)(w:World)(K:PySem.W.Frag)(mg:Str->Option Value)(base:Heap)(N:List Str)(qual:Str)(scope:Scope)(f:Addr)(cd:Value)(A:Around)(outer:List Env)(s:Shared)(H:Hp)(E:XK):Cx where
 prog:=P
 w:=w
 K:=K
 mg:=mg
 base:=base
 A:=A.deeper (envOfC qual scope s.heap.objs.size f cd)
 N:=N
 s₀:=s
 H₀:=H
 env:=envOfC qual scope s.heap.objs.size f cd
 outer:=outer
 stack:=envOfC qual scope s.heap.objs.size f cd::outer
 ex:=[]
 calm:=true
 fn:=fun _=>true
 pn:=[]
 xe:=fun e s'=>wpAny (model P w) (A.deeper (envOfC qual scope s.heap.objs.size f cd)) (leaving (envOfC qual scope s.heap.objs.size f cd) e) (fun _ s''=>CX outer H s E e s'') (fun e' s''=>CX outer H s E e' s'') s'
def oV{sc:Scope}(h:sc.names.lookup x=some .cell):∃ c,(cellsFrom n sc.names []).lookup x=some c:=by
 have q:=PySem.W.cellsFrom_some sc.names n [] (.inl h);exact Option.isSome_iff_exists.mp q
def lD{CX:CXT}{P:Program}{w:World}{K:PySem.W.Frag}{mg:Str->Option Value}{base:Heap}{N ps:List Str}{qual:Str}{scope:Scope}{f:Addr}{cd:Value}{A:Around}{outer:List Env}{s s1:Shared}{H:Hp}{E:XK}{us:List Value}{vs:List V}
 (S:eA N ps scope)(hd:A.handled=none)(e0:mT P w K mg base A outer s H)(hl:vs.length=ps.length)(r:Vals vs us)
 (x:InCallC s s.heap.objs.size (bindL (envOfC qual scope s.heap.objs.size f cd).kindOf (ps.zip us) fun _=>none) (cellsFrom (s.heap.objs.size+1) scope.names []) (bindC (envOfC qual scope s.heap.objs.size f cd).kindOf (ps.zip us) fun _=>none) s1) :
  Inv (fG CX P w K mg base N qual scope f cd A outer s H E) [] (start N vs) H s1:=by
 have hpl:ps.length<=N.length:=by have:=congrArg List.length S.pre;rw[List.length_take]at this;omega
 obtain⟨h1,tk,rfl,hk⟩:=x.done;have noA:∀ b:Addr,b∉(fG CX P w K mg base N qual scope f cd A outer s H E).ex:=fun b z=>absurd (show b∈([]:List Addr)from z) (by simp)
 refine⟨⟨e0.mod,S.kind,rfl,rfl,Nat.le_refl _,fun y z c h1 h2=>?_,fun y hy=>?_,fun y c _ h=>?_,⟨fun _=>hd,.inl hd⟩,Around.frames_deeper e0.frames,.inr ⟨rfl,rfl⟩,fun b z=>absurd z (noA b),e0.bs,e0.bsz,fun b _ _=>noA b,fun b z=>absurd z (noA b),e0.de,e0.frf⟩,
  rfl,e0.bare,Un.kept hk,⟨_,x.toInCall.ns,fun i y v h1 h2 h3=>?_⟩,fun y c h=>⟨_,x.cell y c h⟩,e0.hok.fresh (Nat.le_refl _),fun y c h=>?_,fun p hp=>absurd (show p∈([]:List (Addr × Obj))from hp) (by simp),e0.hok.kept hk,?_⟩
 ·exact name_of_addr x.apart (PySem.mem_of_lookup h1) (PySem.mem_of_lookup h2)
 ·have hy:=hy;rcases hy with hy | hy
  ·exact oV hy
  ·exact absurd rfl (S.zh _ (PySem.mem_of_lookup hy))
 ·exact Nat.le_of_lt (x.above y c (PySem.mem_of_lookup h))
 ·have hi:i<vs.length:=by
   unfold start at h2;by_cases hi:i<vs.length
   ·exact hi
   ·rw[List.getElem?_append_right (by simpa using hi)]at h2;rw[List.getElem?_replicate]at h2;split at h2<;>cases h2
  have ha:vs[i]?=some v:=by
   unfold start at h2;rw[List.getElem?_append_left (by simpa using hi),List.getElem?_map]at h2
   cases e:vs[i]? with
   | none=>rw[e]at h2;cases h2
   | some a=>rw[e]at h2;cases h2;rfl
  obtain⟨u,hu,rv⟩:=r.get ha
  have hp:ps[i]?=some y:=by
   rw[<-S.pre,List.getElem?_take_of_lt (by omega)];exact h1
  have ndP:ps.Nodup:=by rw[<-S.pre];exact S.nd.sublist (List.take_sublist _ _)
  refine⟨u,rv,?_⟩;rcases S.par y (List.mem_of_getElem? hp)with k | k
  ·exact .inl ⟨k,lR ndP hp hu k⟩
  ·obtain⟨c,e⟩:=oV k;refine .inr ⟨.inl k,c,e,?_⟩;have q:=x.cell y c e;rw[lS ndP hp hu (by show scope.names.lookup y≠_;rw[k];decide)]at q;exact q
 ·exact e0.hok.fresh (Nat.le_of_lt (x.above y c (PySem.mem_of_lookup h)))
 ·unfold start;show _=N.length;rw[List.length_append,List.length_map,List.length_replicate];omega
def xn{CX:CXT}{P:Program}{w:World}{K:PySem.W.Frag}{mg:Str->Option Value}{base:Heap}{k:Nat}{f:Addr}{name qual:Str}{params:Arguments}{body:List Stmt}{scope:Scope}{dV kV doc pm cdv ct oc:Value}{an od:Option Addr}
 {osl:Array (Option Value)}{N ps:List Str}{sp:Sp}(lk:K.lookup f=some ⟨oc,od,.func (PySem.W.fnOf name qual params body scope dV kV doc pm an cdv ct),osl⟩)(hcd:PySem.W.codeIn K cdv qual=true)(S:eA N ps scope)
 (len:∀ vs H Q E,sp vs H Q E->vs.length=ps.length)
 (hbody:∀ (A:Around) (outer:List Env) (s:Shared) (H:Hp) (vs:List V) (Q:VK) (E:XK),bP k (A.deeper (envOfC qual scope s.heap.objs.size f cdv))->sp vs H Q E ->
   ∃ t,PSs (fG CX P w K mg base N qual scope f cdv A outer s H E) body t/\t { nx:=fun _ H'=>Q .non H',rt:=Q } (start N vs) H) :
  dz P w K mg base CX (k+1) f (PySem.W.fnOf name qual params body scope dV kV doc pm an cdv ct) ps sp:=by
 refine⟨len,fun A outer s H args us vs Q E hr e0 hb r hsp=>?_⟩;have hl:=len _ _ _ _ hsp;have KX:K.In s.heap:=e0.mod.kin.keeps fun b o e=>(e0.bs b o e).1;have lim:s.heap.NoLimit:=e0.mod.nolimit.keeps fun b o e=>(e0.bs b o e).1
 have hkind:∀ y∈ps.zip us,scope.names.lookup y.1=some .local\/(scope.names.lookup y.1=some .cell/\((cellsFrom (s.heap.objs.size+1) scope.names []).lookup y.1).isSome=true):=fun⟨n,v⟩ hy=>by
  rcases S.par n (List.of_mem_zip hy).1 with q | q
  ·exact .inl q
  ·exact .inr ⟨q,PySem.W.cellsFrom_some _ _ _ (.inl q)⟩
 refine codeAny_call_function hr.depth (KX _ _ lk) rfl S.co S.gen rfl (PySem.W.codeRec_of KX hcd) (hb _ _ _ _ ?_);refine wpAny_newFunctionEnv_cells S.kind hkind fun env he s1 x=>?_;subst he;refine⟨lim.keeps x.toInCall.keep,codeAny_func ?_⟩;obtain⟨t,ht,hq⟩:=hbody A outer s H vs Q E (hr.deeper _) hsp;have I:Inv (fG CX P w K mg base N qual scope f cdv A outer s H E) [] (start N vs) H s1:=lD S hr.hd e0 hl r x;refine wpAny_mono (ht [] s1 (start N vs) H _ I hq) (fun fl s' hs=>?_) fun e s' hs=>hs
 have fin:∀ {σ':St} {H':Hp} {v:V} {u:Value},Inv (fG CX P w K mg base N qual scope f cdv A outer s H E) [] σ' H' s'->RelV v u->Q v H'->CE outer P w H s Q u s' :=
  fun {σ' H' v u} J rv q=>⟨v,H',J.os,J.bare,J.base,J.hok,rv,q⟩
 cases fl with
 |ret u=>
  obtain⟨v,σ',H',J,rv,q⟩:=hs;exact fin J rv q
 |next=>
  obtain⟨σ',H',J,q⟩:=hs;exact fin (v:=V.non) (u:=Value.none) J rfl q
 |brk=>
  obtain⟨_,_,_,q⟩:=hs;exact False.elim q
 |cont=>
  obtain⟨_,_,_,q⟩:=hs;exact False.elim q
section
variable{X:Cx}{x:Str}{p pos:Pos}{e:Expr}{es:List Expr}{t:TA}{id T:String}{r:List V->Hp->VK->Prop}
abbrev tCB(r:List V->Hp->VK->Prop)(t:TA):TE:=fun σ H Q=>t σ H fun vs H1=>r vs H1 Q
def e6(hc:br X (.builtin id) r)(hg:Gl X x)(hm:X.mg x=none)(hv:bootBuiltins x=some (.builtin id))(ha:PA X (e::es) t)(hn:x ≠ "__name__")(hdb:(x == ("__debug__" : Str))=false)
 (he:starEach (e::es) X.env=(false,eval e X.env)::starEach es X.env)(hpl:(backTo pos (starEach es X.env)).any (·.1)=false):PE X (.Call (.Name x p) (e::es) [] pos) (tCB r t):=by
 intro pins s σ H Q I h;refine wpAny_Call_Name_kw (fF I hg hm hv ?_ hn hdb);exact PyProof.Rows.callWith_builtin1 (thn (ha pos pins s σ H _ I h) fun us s1 ⟨vs,H1,I1,r1,q1⟩=>hc pins s1 σ H1 vs us Q I1 r1 q1) he hpl
def bX(hc:br X (.type T) r)(hg:Gl X x)(hm:X.mg x=none)(hv:bootBuiltins x=some (.type T))(ha:PA X (e::es) t)(hn:x ≠ "__name__")(hdb:(x == ("__debug__" : Str))=false)
 (he:starEach (e::es) X.env=(false,eval e X.env)::starEach es X.env)(hpl:(backTo pos (starEach es X.env)).any (·.1)=false):PE X (.Call (.Name x p) (e::es) [] pos) (tCB r t):=by
 intro pins s σ H Q I h;refine wpAny_Call_Name_kw (fF I hg hm hv ?_ hn hdb);exact PyProof.Rows.callWith_type1 (thn (ha pos pins s σ H _ I h) fun us s1 ⟨vs,H1,I1,r1,q1⟩=>hc pins s1 σ H1 vs us Q I1 r1 q1) he hpl
end
end L2
namespace HT
open PySem PyProof.Rows
section
open PySem.SeqAt
open PySem.AutoSeq1 (wpAny_loadPart')
open PySem.MeetsSeq PySem.MeetsSeq2 PySem.MeetsSeq3
end
section
variable{prog:Program}{w:World}{A:Around}{E:Value->Shared->Prop}{s:Shared}
def yS(ht:IsTup s.heap t vs.toArray)(hb:IsTup s.heap b ws.toArray)(hv:vs≠[])
 (h1:ws=[]->Q (.ref t) s)(h2:ws≠[]->Q (.ref s.heap.objs.size) { s with heap:=s.heap.push { cls:=.type "tuple",data:=.seq (vs++ws).toArray } })
 (hsz:vs.length+ws.length<=sizeLine):wpAny (model prog w) A (binaryOp .Add (.ref t) (.ref b)) Q E s:=by
 obtain⟨⟨cls,dd,data,sl⟩,ho,hc,n,hd⟩:=id ht;obtain⟨⟨cls2,dd2,data2,sl2⟩,ho2,hc2,n2,hd2⟩:=id hb;simp only at hc hd hc2 hd2;subst hc hd hc2 hd2
 have e:vs.toArray++ws.toArray=(vs++ws).toArray:=by simp
 by_cases hw:ws=[]
 ·exact concat_meets ⟨_,ho,rfl⟩ ⟨_,ho2,rfl⟩ noFill_tuple_add seq_tuple_add PySem.F.slot_tuple_add PySem.F.entry_tuple_add (PySem.F.args_tuple_add_2 _ _)
   (tuple_addW1 t b vs.toArray ws.toArray n n2 dd dd2 sl sl2 (by simpa using hv) (by simp[hw])) ⟨ho,ho2,h1 hw⟩
 ·refine concat_meets ⟨_,ho,rfl⟩ ⟨_,ho2,rfl⟩ noFill_tuple_add seq_tuple_add PySem.F.slot_tuple_add PySem.F.entry_tuple_add (PySem.F.args_tuple_add_2 _ _)
   (tuple_addW2 t b vs.toArray ws.toArray n n2 dd dd2 sl sl2 (by simpa using hv) (by simpa using hw) (by rw[List.size_toArray,List.size_toArray];exact hsz)) ⟨ho,ho2,?_⟩
  rw[e];exact h2 hw
abbrev sIx(n d:Nat):Option Int->Nat
 | none=>d
 | some v=>if v<0 then(v+(n:Int)).toNat else min v.toNat n
def oA(n d:Nat):sIx n d none=d:=rfl
def ff(v:Int)(n d:Nat):(if v<0 then max (v+(n:Int)) 0 else min v (n:Int))=((sIx n d (some v):Nat):Int):=by
 show(if v<0 then max (v+(n:Int)) 0 else min v (n:Int))=(((if v<0 then(v+(n:Int)).toNat else min v.toNat n):Nat):Int);by_cases hv:v<0
 ·simp only[if_pos hv];omega
 ·simp only[if_neg hv];omega
def rE(lo hi:Option Int)(n:Nat):Builtin.Slice.sliceAdjust lo hi 1 (n:Int)=(((sIx n 0 lo:Nat):Int),((sIx n n hi:Nat):Int)):=by
 have h1:¬ (1<0):=by omega
 refine Prod.ext ?_ ?_
 ·cases lo with
  | none=>rfl
  | some v=>exact ff v n 0
 ·cases hi with
  | none=>rfl
  | some v=>exact ff v n n
def ro(i j:Nat):Builtin.Slice.slicePlaces (i:Int) (j:Int) 1=j-i:=by
 unfold Builtin.Slice.slicePlaces
 have h1:1 > 0:=by omega
 split<;>omega
def jU(p:IsPart v o)(h:Q o s):wpAny (model prog w) A (Builtin.Slice.slicePartIndex v) Q E s:=by
 cases p with
 | none=>exact slicePart_none h
 | int i t=>exact slicePart_int h
def jB{sl:Addr}{vl vu:Value}{lo hi:Option Int}{n:Nat}{Q:Int × Int × Nat->Shared->Prop}(hs:s.heap.IsSliceOf sl vl vu .none)(pl:IsPart vl lo)(pu:IsPart vu hi)
 (h:Q (((sIx n 0 lo:Nat):Int),1,sIx n n hi-sIx n 0 lo) s):wpAny (model prog w) A (Builtin.Slice.sliceApplied (.ref sl) (pure (n:Int))) Q E s:=by
 obtain⟨os,hos,hcs,hds⟩:=id hs;refine wpAny_bind (wpAny_bind (wpAny_field hos hds rfl (wpAny_bind (wpAny_field hos hds rfl (wpAny_bind (wpAny_field hos hds rfl (wpAny_pure ?_)))))));refine wpAny_bind (slicePart_none ?_);refine wpAny_bind (jU pl (wpAny_bind (jU pu (wpAny_bind (wpAny_pure ?_)))));show wpAny _ _ (match Builtin.Slice.sliceAdjust lo hi 1 (n:Int)with | (lo,hi)=>pure (lo,(1:Int),Builtin.Slice.slicePlaces lo hi 1)) _ _ s;rw[rE lo hi n];show wpAny _ _ (pure (((sIx n 0 lo:Nat):Int),(1:Int),Builtin.Slice.slicePlaces ((sIx n 0 lo:Nat):Int) ((sIx n n hi:Nat):Int) 1)) _ _ s;rw[ro];exact wpAny_pure h
def v5(xs:Array Value)(i k:Nat):((List.range k).filterMap fun(m:Nat)=>xs[((i:Int)+(m:Int)*1).toNat]?).toArray=((xs.toList.drop i).take k).toArray:=by
 have e:(fun(m:Nat)=>xs[(i+(m:Int)*1).toNat]?)=fun m=>xs[i+m]?:=by
  funext m
  have:(i+(m:Int)*1).toNat=i+m:=by omega
  rw[this]
 rw[e];have:=pick_run xs i k;rw[List.filterMap_map]at this;have e2:((fun x=>xs[x]?) ∘ fun x=>i+x)=fun m=>xs[i+m]?:=rfl;rw[e2]at this;rw[this]
def jk{t sl:Addr}{items:Array Value}{vl vu:Value}{lo hi:Option Int}{Q:Value->Shared->Prop}(ht:IsTup s.heap t items)(hs:s.heap.IsSliceOf sl vl vu .none)(pl:IsPart vl lo)(pu:IsPart vu hi)
 (hw:¬ (sIx items.size 0 lo=0/\sIx items.size items.size hi=items.size))
 (h:Q (.ref s.heap.objs.size) { s with heap:=s.heap.push { cls:=.type "tuple",data:=.seq ((items.toList.drop (sIx items.size 0 lo)).take (sIx items.size items.size hi-sIx items.size 0 lo)).toArray } })
 (hsz:items.size<=sizeLine):wpAny (model prog w) A (getItem (.ref t) (.ref sl)) Q E s:=by
 have htake:sizeOk (.seq ((items.toList.drop (sIx items.size 0 lo)).take (sIx items.size items.size hi-sIx items.size 0 lo)).toArray):=by
  show((items.toList.drop (sIx items.size 0 lo)).take (sIx items.size items.size hi-sIx items.size 0 lo)).toArray.size<=sizeLine;rw[List.size_toArray,List.length_take,List.length_drop,Array.length_toList];omega
 obtain⟨os,hos,hcs,hds⟩:=id hs
 have hTs:s.TypeIs (.ref sl) "slice" := ⟨os,hos,hcs⟩
 unfold getItem
 try with_reducible refine wpAny_holding ?_
 first | refine wpAny_bind (wpAny_pure ?_) | skip
 refine wpAny_bind (wpAny_sequenceKey ht.typeIs (by decide) ?_)
 refine wpAny_bind (wpAny_callSpecial?_slot ht.typeIs PyProof.Rows.slot_tuple_getitem
  (wpAny_call_entry PyProof.Rows.slot_tuple_getitem ht.typeIs entry_tuple_getitem ?_ (args_tuple_getitem _ _)))
 show wpAny _ _ (Builtin.Tuple.tupleItemsOf (.ref t) >>= _) _ _ s;refine wpAny_bind (tupleItemsOf_ ht ?_);refine wpAny_bind (wpAny_typeOf hTs ?_);refine wpAny_bind (jB hs pl pu ?_)
 have hno:¬ ((((sIx items.size 0 lo:Nat):Int) == 0&&(1:Int) == 1&&(sIx items.size items.size hi-sIx items.size 0 lo) == items.size)=true):=by
  intro q;rw[Bool.and_eq_true,Bool.and_eq_true]at q;have q1:((sIx items.size 0 lo:Nat):Int)=0:=eq_of_beq q.1.1;have q2:sIx items.size items.size hi-sIx items.size 0 lo=items.size:=eq_of_beq q.2;exact hw ⟨by omega,by omega⟩
 show wpAny _ _ (if(((sIx items.size 0 lo:Nat):Int) == 0&&(1:Int) == 1&&(sIx items.size items.size hi-sIx items.size 0 lo) == items.size)=true then _ else _) _ _ s;rw[if_neg hno,v5]
 first
  | exact wpAny_bind (wpAny_newObj_type (wpAny_pure ⟨_,rfl,wpAny_pure h⟩) htake)
  | exact wpAny_bind (wpAny_newObj_type (wpAny_bind (wpAny_pure (wpAny_pure ⟨_,rfl,wpAny_pure h⟩))) htake)
  | exact wpAny_bind (wpAny_bind (wpAny_newObj_type (wpAny_pure (wpAny_pure ⟨_,rfl,wpAny_pure h⟩)) htake))
  | exact wpAny_bind (wpAny_bind (wpAny_newObj_type (wpAny_pure ⟨_,rfl,wpAny_pure h⟩) htake))
end
end HT
namespace L2
open PySem PySem.Spec PyProof.Rows
@[reducible]noncomputable def TO:=St->Hp->(Option Int->Hp->Prop)->Prop
abbrev PO(X:Cx)(e:Option Expr)(t:TO):Prop :=
 ∀ (pins:List (Addr × Obj)) (s:Shared) (σ:St) (H:Hp) (Q:Option Int->Hp->Prop),Inv X pins σ H s->t σ H Q ->
  wpAny (model X.prog X.w) X.A (evalPart e X.env) (fun u s'=>∃ o H',Inv X pins σ H' s'/\IsPart u o/\Q o H') X.xe s
abbrev yB:TO:=fun _ H Q=>Q none H
abbrev Dd(t:TE):TO:=fun σ H Q=>t σ H fun x H1=>∃ i,x=.int i/\Q (some i) H1
section
variable{X:Cx}{e:Expr}{te:TE}{lo hi:Option Expr}{tl th:TO}{pos p2:Pos}
def pW:PO X none yB:=by
 intro pins s σ H Q I h;exact wpAny_pure ⟨none,H,I,.none,h⟩
def pV(h:PE X e te):PO X (some e) (Dd te):=by
 intro pins s σ H Q I hw;refine thn (h pins s σ H _ I hw) fun u s1 ⟨x,H1,I1,r1,q1⟩=>?_;obtain⟨i,rfl,q⟩:=q1;obtain⟨t,rfl⟩:=r1;exact⟨some i,H1,I1,.int i t,q⟩
abbrev SlR(X:Cx)(r:V->Option Int->Option Int->Hp->VK->Prop):Prop :=
 ∀ (pins:List (Addr × Obj)) (s:Shared) (σ:St) (H:Hp) (x:V) (v vl vu:Value) (lo hi:Option Int) (sl:Addr) (Q:VK),Inv X pins σ H s->RelV x v->s.heap.IsSliceOf sl vl vu .none->IsPart vl lo->IsPart vu hi->r x lo hi H Q ->
  ∃ T id,typeLookup (.type T) "__getitem__" = pure (some (.builtin id))/\s.TypeIs v T/\wpAny (model X.prog X.w) X.A (getItem v (.ref sl)) (EP X pins σ Q) X.xe s
def SlR.or(h:SlR X r)(h':SlR X r'):SlR X (fun x lo hi H Q=>r x lo hi H Q\/r' x lo hi H Q):=by
 intro pins s σ H x v vl vu lo hi sl Q I rx hs pl pu q;rcases q with q | q
 ·exact h pins s σ H x v vl vu lo hi sl Q I rx hs pl pu q
 ·exact h' pins s σ H x v vl vu lo hi sl Q I rx hs pl pu q
abbrev tSl(r:V->Option Int->Option Int->Hp->VK->Prop)(te:TE)(tl th:TO):TE:=fun σ H Q=>te σ H fun x H1=>tl σ H1 fun l H2=>th σ H2 fun u H3=>r x l u H3 Q
def mP(hr:SlR X r)(he:PE X e te)(hl:PO X lo tl)(hu:PO X hi th):PE X (.Subscript e (.Slice lo hi none p2) pos) (tSl r te tl th):=by
 intro pins s σ H Q I h;refine Subscript_ (thn (he pins s σ H _ I h) fun v s1 ⟨x,H1,I1,r1,q1⟩=>?_);refine wpAny_Slice (thn (hl pins s1 σ H1 _ I1 q1) fun vl s2 ⟨l,H2,I2,pl,q2⟩=>thn (hu pins s2 σ H2 _ I2 q2) fun vu s3 ⟨u,H3,I3,pu,q3⟩=>?_);rw[evalPart_none];refine wpAny_pure ?_;have I4:Inv X pins σ H3 { s3 with heap:=s3.heap.push { cls:=.type "slice",data:=.fields #[vl,vu,.none] } }:=I3.kept (t':=s3.toks) fun b ob q=>Heap.get?_push_of_some _ q;obtain⟨T,id,hT,ht,hg⟩:=hr pins { s3 with heap:=s3.heap.push { cls:=.type "slice",data:=.fields #[vl,vu,.none] } } σ H3 x v vl vu l u s3.heap.objs.size Q I4 r1 (Heap.IsSliceOf.new ..) pl pu q3;show wpAny (model X.prog X.w) X.A (subscriptTail e (.Slice lo hi none p2) v (.ref s3.heap.objs.size)) (EP X pins σ Q) X.xe { s3 with heap:=s3.heap.push { cls:=.type "slice",data:=.fields #[vl,vu,.none] } };exact tail_any (ops:=[.ref s3.heap.objs.size,v]) ht hT hg (by with_unfolding_all rfl)
abbrev iB(xs:List V)(lo hi:Option Int):List V:=(xs.drop (HT.sIx xs.length 0 lo)).take (HT.sIx xs.length xs.length hi-HT.sIx xs.length 0 lo)
def jm(xs:List V)(lo hi:Option Int):(iB xs lo hi).length<=xs.length:=by
 unfold iB;rw[List.length_take,List.length_drop];omega
abbrev EA(K:PySem.W.Frag):V->Option Int->Option Int->Hp->VK->Prop:=fun x lo hi H Q=>∃ a xs,x=.ref a/\SqT K H a xs /\
 ¬ (HT.sIx xs.length 0 lo=0/\HT.sIx xs.length xs.length hi=xs.length)/\∀ p,H p=none->Q (.ref p) (upd H p (.tup (iB xs lo hi)))
def uy:SlR X (EA X.K):=by
 intro pins s σ H x v vl vu lo hi sl Q I rx hs pl pu h;obtain⟨a,xs,rfl,hx,hw,q⟩:=h;cases rx;obtain⟨its,r,ht,hz⟩:=I.tuple hx
 have hlen:its.toArray.size=xs.length:=by rw[List.size_toArray];exact r.length.symm
 refine⟨"tuple",_,PyProof.Rows.slot_tuple_getitem.lookup,ht.typeIs,?_⟩;refine HT.jk ht hs pl pu (by rw[hlen];exact hw) ?_ (by rw[hlen];exact hz);rw[hlen];refine⟨.ref s.heap.objs.size,_,I.laid (fun b ob q=>Heap.get?_push_of_some _ q) (Nat.le_refl _) ?_,rfl,q _ (I.hok.fresh (Nat.le_refl _))⟩;exact⟨Nat.le_trans (jm xs lo hi) hz,_,(r.drop (HT.sIx xs.length 0 lo)).take (HT.sIx xs.length xs.length hi-HT.sIx xs.length 0 lo),IsTup.new _ _⟩
abbrev De(K:PySem.W.Frag):R2:=fun x y H Q=>∃ a b xs ys,x=.ref a/\y=.ref b/\SqT K H a xs/\SqT K H b ys/\xs≠[]/\xs.length+ys.length<=sizeLine /\
 (ys=[]->Q (.ref a) H)/\(ys≠[]->∀ p,H p=none->Q (.ref p) (upd H p (.tup (xs++ys))))
def Vals.l4(r:Vals xs us):us=[]↔xs=[]:=by
 cases r with
 | nil=>simp
 | cons _ _=>simp
def yf:OpR X (binaryOp .Add) (De X.K):=by
 intro pins s σ H x y v u Q I rx ry h;obtain⟨a,b,xs,ys,rfl,rfl,ha,hb,hx,hz,q1,q2⟩:=h;cases rx;cases ry;obtain⟨its,r1,p1,_⟩:=I.tuple ha;obtain⟨its2,r2,p2,_⟩:=I.tuple hb;refine HT.yS p1 p2 (fun z=>hx (r1.l4.mp z)) (fun z=>⟨.ref a,H,I,rfl,q1 (r2.l4.mp z)⟩) (fun z=>?_) (by rw[<-r1.length,<-r2.length];exact hz);refine⟨.ref s.heap.objs.size,_,I.laid (fun b ob q=>Heap.get?_push_of_some _ q) (Nat.le_refl _) ?_,rfl,q2 (fun w=>z (r2.l4.mpr w)) _ (I.hok.fresh (Nat.le_refl _))⟩;exact⟨by rw[List.length_append];exact hz,_,r1.append r2,IsTup.new _ _⟩
end
abbrev ixN(n:Nat)(i:Int):Option Nat:=if 0<=i then(if i<n then some i.toNat else none)else if -(n:Int)<=i then some (i+n).toNat else none
abbrev atI(xs:List α)(i:Int):Option α:=(ixN xs.length i).bind fun j=>xs[j]?
def xB(h:ixN n i=some j):seqIndex? i n=some j/\j<n/\-(n:Int)<=i/\i<n:=by
 unfold ixN at h;by_cases h0:0<=i
 ·rw[if_pos h0]at h;by_cases h1:i<n
  ·rw[if_pos h1]at h;have e:=Option.some.inj h;exact⟨by rw[seqIndex_of h0 h1,e],by omega,by omega,h1⟩
  ·rw[if_neg h1]at h;cases h
 ·rw[if_neg h0]at h;by_cases h1:-n<=i
  ·rw[if_pos h1]at h;have e:=Option.some.inj h;exact⟨by rw[seqIndex_neg (by omega) h1,e],by omega,h1,by omega⟩
  ·rw[if_neg h1]at h;cases h
def kJ(h:atI xs i=some v):∃ j,seqIndex? i xs.length=some j/\xs[j]?=some v/\j<xs.length/\-(xs.length:Int)<=i/\i<xs.length:=by
 unfold atI at h
 cases e:ixN xs.length i with
 | none=>rw[e]at h;cases h
 |some j=>
  rw[e]at h;obtain⟨h1,h2,h3,h4⟩:=xB e;exact⟨j,h1,h,h2,h3,h4⟩
abbrev qz(b:Expr):Prop:=∀ o i,subscripted b false o i=operate [o,i] (getItem o i)
abbrev IxR(X:Cx)(r:R2):Prop :=
 ∀ (value slice:Expr) (pins:List (Addr × Obj)) (s:Shared) (σ:St) (H:Hp) (x y:V) (v u:Value) (Q:VK),Inv X pins σ H s->RelV x v->RelV y u->r x y H Q ->
  subscripted slice false v u=operate [v,u] (getItem v u)->wpAny (model X.prog X.w) X.A (subscriptTail value slice v u) (EP X pins σ Q) X.xe s
abbrev MtR(X:Cx)(id:String)(r:V->List V->Hp->VK->Prop):Prop :=
 ∀ (pins:List (Addr × Obj)) (s:Shared) (σ:St) (H:Hp) (x:V) (xs:List V) (v:Value) (us:List Value) (Q:VK),Inv X pins σ H s->RelV x v->Vals xs us->r x xs H Q ->
  wpAny (model X.prog X.w) X.A (call (.builtin id) (v::us)) (EP X pins σ Q) X.xe s
section
variable{X:Cx}{a b:Expr}{ta tb:TE}{pos:Pos}
def IxR.or(h:IxR X r)(h':IxR X r'):IxR X (fun x y H Q=>r x y H Q\/r' x y H Q):=by
 intro value slice pins s σ H x y v u Q I rx ry q hs;rcases q with q | q
 ·exact h value slice pins s σ H x y v u Q I rx ry q hs
 ·exact h' value slice pins s σ H x y v u Q I rx ry q hs
def xh{r:R2}(hr:IxR X r)(ha:PE X a ta)(hb:PE X b tb)(hs:qz b):PE X (.Subscript a b pos) (tOp r ta tb):=by
 intro pins s σ H Q I h;exact Subscript_ (wo ha hb I h fun v u s2 x y H2 I2 rx ry q=>hr a b pins s2 σ H2 x y v u Q I2 rx ry q (hs _ _))
abbrev Bc(K:PySem.W.Frag):R2:=fun x y H Q=>∃ p xs i v,x=.ref p/\y=.int i/\SqL K H p xs/\atI xs i=some v/\Q v H
abbrev Cc(K:PySem.W.Frag):R2:=fun x y H Q=>∃ p xs i v,x=.ref p/\y=.int i/\SqT K H p xs/\atI xs i=some v/\Q v H
abbrev zO:R2:=fun x y H Q=>∃ z i c,x=.str z/\y=.int i/\z.length<=sizeLine/\atI z.cps.toList i=some c/\Q (.str ⟨#[c]⟩) H
def yE:IxR X (Bc X.K):=by
 intro value slice pins s σ H x y v u Q I rx ry h hs;obtain⟨p,xs,i,z,rfl,rfl,hq,he,q⟩:=h;cases rx;obtain⟨t,rfl⟩:=ry;obtain⟨its,r,pl,hz⟩:=I.list hq;obtain⟨j,h1,h2,h3,h4,h5⟩:=kJ he;obtain⟨w,ew,rw'⟩:=r.get h2;have hl:=r.length;have hn:=nc
 have fin:EP X pins σ Q w s:=⟨z,H,I,rw',q⟩
 by_cases h0:0<=i
 ·have hj:i.toNat=j:=by
   rw[seqIndex_of h0 h5]at h1;exact Option.some.inj h1
  exact item_listR pl.isList h0 (by omega) (by rw[hj];simpa using ew) fin hs
 ·have hj:(i+(its.toArray.size:Int)).toNat=j:=by
   rw[seqIndex_neg (by omega) h4]at h1;rw[List.size_toArray,<-hl];exact Option.some.inj h1
  exact subscriptTail_builtinR pl.isList.typeIs slot_list_getitem.lookup
   (wpAny_getItem_list_neg pl.isList (by omega) (by rw[List.size_toArray]<;>omega) (by omega) (by rw[hj];simpa using ew) ⟨rfl,fin⟩) hs
def mR:IxR X (Cc X.K):=by
 intro value slice pins s σ H x y v u Q I rx ry h hs;obtain⟨p,xs,i,z,rfl,rfl,hq,he,q⟩:=h;cases rx;obtain⟨t,rfl⟩:=ry;obtain⟨its,r,pl,hz⟩:=I.tuple hq;obtain⟨j,h1,h2,h3,h4,h5⟩:=kJ he;obtain⟨w,ew,rw'⟩:=r.get h2;have hl:=r.length;have hn:=nc
 have fin:EP X pins σ Q w s:=⟨z,H,I,rw',q⟩
 exact subscriptTail_builtinR pl.typeIs slot_tuple_getitem.lookup
  (getItem_tuple pl (by omega) (by omega) (by rw[List.size_toArray,<-hl];exact h1) (by simpa using ew) ⟨rfl,fin⟩) hs
def As:IxR X zO:=by
 intro value slice pins s σ H x y v u Q I rx ry h hs;obtain⟨z,i,c,rfl,rfl,hz,he,q⟩:=h;obtain⟨t,rfl⟩:=rx;obtain⟨t',rfl⟩:=ry;obtain⟨j,h1,h2,h3,h4,h5⟩:=kJ he
 have hl:z.cps.toList.length=z.length:=by simp[Str.length]
 rw[hl]at h1 h4 h5;have hn:=nc
 exact tail_any (typeIs_str s z t) slot_str_getitem.lookup (getItem_str (by
  have e1:decide (i < -(2 ^ 63:Int))=false:=decide_eq_false (by omega);have e2:decide (i≥2 ^ 63)=false:=decide_eq_false (by omega)
  rw[e1,e2,Bool.or_false]) (by rw[h1];simpa using h2) ⟨.str ⟨#[c]⟩,H,I.tok _,⟨_,rfl⟩,q⟩) hs
abbrev rIx(K:PySem.W.Frag):R2:=fun x y H Q=>Bc K x y H Q\/Cc K x y H Q\/zO x y H Q
def sQ:IxR X (rIx X.K):=yE.or (mR.or As)
def nG(lo hi:Option Int)(n:Nat):(sliceBounds lo hi none n).1=((HT.sIx n 0 lo:Nat):Int)/\(sliceBounds lo hi none n).2.1=((HT.sIx n n hi:Nat):Int)/\(sliceBounds lo hi none n).2.2=1:=by
 refine⟨?_,?_,rfl⟩
 ·cases lo with
  | none=>simp[sliceBounds,HT.sIx]
  |some i=>
   simp only[sliceBounds,HT.sIx,Option.getD_none,show(1:Int) > 0 by decide,if_true];by_cases h:i<0
   ·simp only[h,if_true]<;>omega
   ·simp only[h,if_false]<;>omega
 ·cases hi with
  | none=>simp[sliceBounds,HT.sIx]
  |some i=>
   simp only[sliceBounds,HT.sIx,Option.getD_none,show(1:Int) > 0 by decide,if_true];by_cases h:i<0
   ·simp only[h,if_true]<;>omega
   ·simp only[h,if_false]<;>omega
def lY(its:List Value)(lo hi:Option Int):slicePick its.toArray lo hi none=((its.drop (HT.sIx its.length 0 lo)).take (HT.sIx its.length its.length hi-HT.sIx its.length 0 lo)).toArray:=by
 obtain⟨h1,h2,h3⟩:=nG lo hi its.toArray.size;unfold slicePick;rw[h1,h2,h3];simp only[sliceRange_one,pick_run]<;>rfl
abbrev DP(K:PySem.W.Frag):V->Option Int->Option Int->Hp->VK->Prop:=fun x lo hi H Q=>∃ a xs,x=.ref a/\SqL K H a xs/\∀ p,H p=none->Q (.ref p) (upd H p (.lst (iB xs lo hi)))
def qo:SlR X (DP X.K):=by
 intro pins s σ H x v vl vu lo hi sl Q I rx hs pl pu h;obtain⟨a,xs,rfl,hx,q⟩:=h;cases rx;obtain⟨its,r,ht,hz⟩:=I.list hx;have hlen:=r.length;refine⟨"list",_,slot_list_getitem.lookup,ht.isList.typeIs,?_⟩;refine wpAny_getItem_list_slice ht.isList hs pl pu .none (by simp) ?_ (by rw[List.size_toArray]<;>omega);rw[lY,<-hlen];refine⟨.ref s.heap.objs.size,_,I.laid (fun b ob q=>Heap.get?_push_of_some _ q) (Nat.le_refl _) ?_,rfl,q _ (I.hok.fresh (Nat.le_refl _))⟩;exact⟨Nat.le_trans (jm xs lo hi) hz,_,0,(r.drop (HT.sIx xs.length 0 lo)).take (HT.sIx xs.length xs.length hi-HT.sIx xs.length 0 lo),Heap.get?_push_size _ rfl⟩
def br.or(h:br X f r)(h':br X f r'):br X f (fun xs H Q=>r xs H Q\/r' xs H Q):=by
 intro pins s σ H xs us Q I rs q;rcases q with q | q
 ·exact h pins s σ H xs us Q I rs q
 ·exact h' pins s σ H xs us Q I rs q
abbrev tyV(K:PySem.W.Frag)(T:String)(x:V)(H:Hp):Prop:=match x with
 | .str _=>T = "str"
 | .int _=>T = "int"
 | .ref p=>(T = "list" /\ ∃ xs,SqL K H p xs)\/(T = "tuple" /\ ∃ o,K.lookup p=some o/\o.cls=.type "tuple" /\ o.dict=none) \/
   (T = "dict" /\ ((∃ kvs,H p=some (.dK kvs))\/∃ kvs,H p=some (.dT kvs)))\/(T = "set" /\ ∃ S n,H p=some (.set S n))
 | _=>False
def tJ(I:Inv X pins σ H s)(r:RelV x v)(ty:tyV X.K T x H) :
  s.TypeIs v T/\∀ a,v=.ref a->∃ ob,s.heap.get? a=some ob/\ob.dict=none:=by
 cases x with
 |str z=>
  obtain⟨t,rfl⟩:=r;cases(show T = "str" from ty);exact⟨typeIs_str s z t,fun _ e=>nomatch e⟩
 |int i=>
  obtain⟨t,rfl⟩:=r;cases(show T = "int" from ty);exact⟨typeIs_int s i t,fun _ e=>nomatch e⟩
 |ref p=>
  cases r
  rcases ty with⟨rfl,xs,hq⟩ | ⟨rfl,o,hk,hc,hd⟩ | ⟨rfl,hk⟩ | ⟨rfl,S,n,hk⟩
  ·obtain⟨its,_,pl,_⟩:=I.list hq;refine⟨pl.isList.typeIs,fun a e=>?_⟩;cases e;obtain⟨o,n,e,c,hd,_⟩:=pl;exact⟨o,e,hd⟩
  ·refine⟨⟨o,I.kIn p o hk,hc⟩,fun a e=>?_⟩;cases e;exact⟨o,I.kIn _ o hk,hd⟩
  ·have z:∃ o,s.heap.get? p=some o/\o.ExactDict:=by
    rcases hk with⟨kvs,hk⟩ | ⟨kvs,hk⟩
    ·obtain⟨_,_,_,_,o,_,_,e,ex,_⟩:=I.hok p _ hk;exact⟨o,e,ex⟩
    ·obtain⟨_,_,_,_,o,_,_,e,ex,_⟩:=I.hok p _ hk;exact⟨o,e,ex⟩
   obtain⟨o,e,ex⟩:=z;refine⟨⟨o,e,ex.1⟩,fun a e2=>?_⟩;cases e2;exact⟨o,e,ex.2.1⟩
  ·obtain⟨o,_,_,_,e,ex,_⟩:=I.hok p _ hk;refine⟨⟨o,e,ex.1⟩,fun a e2=>?_⟩;cases e2;exact⟨o,e,ex.2.1⟩
 | _=>exact False.elim ty
abbrev Am(K:PySem.W.Frag)(T:String)(r:V->List V->Hp->VK->Prop)(to:TE):TE:=fun σ H Q=>to σ H fun x H1=>tyV K T x H1/\r x [] H1 Q
abbrev tBM(K:PySem.W.Frag)(T:String)(r:V->List V->Hp->VK->Prop)(to:TE)(t:TA):TE:=fun σ H Q=>to σ H fun x H1=>tyV K T x H1/\t σ H1 fun xs H2=>r x xs H2 Q
variable{o e:Expr}{es:List Expr}{to:TE}{t:TA}{name:Str}{apos cpos:Pos}{T id:String}{r:V->List V->Hp->VK->Prop}
def BZ(pa:PlainAttrs T)(slot:Slot T name id)(hty:typeOf (.builtin id)=pure (.type "method_descriptor"))(hm:MtR X id r)(ho:PE X o to)
 (hbase:attributeBase o name X.env (eval o X.env)=eval o X.env)(hline:(apos.endLine == cpos.line)=true):PE X (.Call (.Attribute o name apos) [] [] cpos) (Am X.K T r to):=by
 intro pins s σ H Q I h;refine wpAny_Call_method0_late hbase hline (thn (ho pins s σ H _ I h) fun v s1 ⟨x,H1,I1,r1,ty,q1⟩=>?_);obtain⟨h1,h2⟩:=tJ I1 r1 ty;exact⟨T,id,pa,slot,hty,h1,h2,Calls.callWith_builtin rfl (PySem.evalArgs_none (hm pins s1 σ H1 x [] v [] Q I1 r1 .nil q1))⟩
def wM(pa:PlainAttrs T)(slot:Slot T name id)(hty:typeOf (.builtin id)=pure (.type "method_descriptor"))(hm:MtR X id r)(ho:PE X o to)(ha:PA X (e::es) t)
 (hbase:attributeBase o name X.env (eval o X.env)=eval o X.env)
 (hfew:((backTo cpos (starEach (e::es) X.env)).all (fun x=>!x.1)&&(backToKw cpos (keywordEach [] X.env)).all (fun x=>x.1.isSome)
   && decide ((e::es).length+([]:List Keyword).length+(if([]:List Keyword).isEmpty then 0 else 1)<30))=true:=by rfl)
 (hline:(apos.endLine == cpos.line)=true)(hs:starEach (e::es) X.env=(false,eval e X.env)::starEach es X.env)(hplain:(backTo cpos (starEach es X.env)).any (·.1)=false) :
  PE X (.Call (.Attribute o name apos) (e::es) [] cpos) (tBM X.K T r to t):=by
 intro pins s σ H Q I h;refine wpAny_Call_method_late hbase hfew hline rfl (thn (ho pins s σ H _ I h) fun v s1 ⟨x,H1,I1,r1,ty,q1⟩=>?_);obtain⟨h1,h2⟩:=tJ I1 r1 ty;refine⟨T,id,pa,slot,hty,h1,h2,?_⟩;have hA:=ha cpos pins s1 σ H1 _ I1 q1;rw[hs]at hA ⊢;refine Calls.callWith_builtin (by show(false || (backTo cpos (starEach es X.env)).any (·.1))=false;rw[hplain]<;>rfl) (Calls.evalArgs_plain ?_);exact thn hA fun us s2 ⟨vs,H2,I2,r2,q2⟩=>hm pins s2 σ H2 x vs v us Q I2 r1 r2 q2
end
abbrev MtM(X:Cx)(id:String)(r:V->List V->Hp->VK->Prop):Prop :=
 ∀ (pins:List (Addr × Obj)) (s:Shared) (σ:St) (H:Hp) (x:V) (xs:List V) (v:Value) (us:List Value) (Q:VK),Inv X pins σ H s->RelV x v->Vals xs us->r x xs H Q ->
  wpAny (model X.prog X.w) X.A (call (.builtin id) (v::us)) (EP X pins σ Q) X.xe s
def Vals.inv(h:Vals (x::xs) us):∃ u t,us=u::t/\RelV x u/\Vals xs t:=by
 cases h with
 | cons r t=>exact⟨_,_,rfl,r,t⟩
def Vals.DI(h:Vals [] us):us=[]:=by
 cases h;rfl
def Vals.one{x:V}{us:List Value}(h:Vals [x] us):∃ u,us=[u]/\RelV x u :=
 let ⟨u,_,e,r,h⟩:=h.inv
 ⟨u,by rw[e,h.DI],r⟩
def Vals.zero:∀ {us:List Value},Vals [] us->us=[]
 | _,.nil=>rfl
def Vals.dropLast(h:Vals xs us):Vals xs.dropLast us.dropLast:=by
 induction h with
 | nil=>exact .nil
 |cons r t ih=>
  cases t with
  | nil=>exact .nil
  | cons q t'=>exact .cons r ih
def Vals.rep(h:Vals xs us):∀ k:Nat,Vals (List.replicate k xs).flatten (List.replicate k us).flatten
 | 0=>.nil
 | k+1=>by
  exact Vals.append h (Vals.rep h k)
def qI(l:List α):l.eraseIdx (l.length-1)=l.dropLast:=by
 induction l with
 | nil=>rfl
 |cons a r ih=>
  cases r with
  | nil=>rfl
  |cons b r=>
   have e:(a::b::r).length-1=((b::r).length-1)+1:=by
    have h1:(a::b::r).length=r.length+2:=rfl;have h2:(b::r).length=r.length+1:=rfl;omega
   rw[e,List.eraseIdx_cons_succ,ih]
   all_goals rfl
def foldl_rep(its:List Value):∀ (k:Nat) (acc:List Value),
  List.foldl (fun x1 x2=>x1++x2) acc.toArray (List.replicate k its.toArray)=(acc++(List.replicate k its).flatten).toArray
 | 0,acc=>by simp
 | k+1,acc=>by
  have e:acc.toArray++its.toArray=(acc++its).toArray:=by simp
  have e2:(acc++its)++(List.replicate k its).flatten=acc++(List.replicate (k+1) its).flatten:=by
   rw[List.replicate_succ,List.flatten_cons,List.append_assoc]
  rw[<-e2,<-foldl_rep its k (acc++its),<-e,List.replicate_succ,List.foldl_cons]
section
variable{X:Cx}{pins:List (Addr × Obj)}{σ:St}{H:Hp}{s:Shared}{l b:Addr}{xs ys zs:List V}
def Inv.zx{its its':List Value}{n:Nat}{f:Array Value->Array Value}{t':Nat}(I:Inv X pins σ H s)(hH:H l=some (.lst xs))
 (e:s.heap.get? l=some { cls:=.type "list",data:=.seq its.toArray n })(hf:f its.toArray=its'.toArray)(hv:Vals ys its')(hz:ys.length<=sizeLine) :
  Inv X pins σ (upd H l (.lst ys)) { s with heap:=s.heap.update l (Obj.mapSeq f),toks:=t' }:=by
 have q:=PySem.IsL.update e f;rw[hf]at q;refine I.write (by rw[hH];exact trivial) (.inl rfl) (fun b' u hb hu=>(Heap.get?_update_other s.heap (Obj.mapSeq f) (Ne.symm hb)).trans hu) ⟨_,q⟩ ?_;exact⟨hz,its',_,hv,q⟩
def Inv.Bw(I:Inv X pins σ H s)(hv:Vals ys its)(hz:ys.length<=sizeLine) :
  Inv X pins σ (upd H s.heap.objs.size (.lst ys)) { s with heap:=s.heap.push { cls:=.type "list",data:=.seq its.toArray },toks:=t' } :=
 I.laid (fun _ _ q=>Heap.get?_push_of_some _ q) (Nat.le_refl _) ⟨hz,its,0,hv,Heap.get?_push_size _ rfl⟩
def Inv.fresh(I:Inv X pins σ H s):H s.heap.objs.size=none:=I.hok.fresh (Nat.le_refl _)
def Inv.oq(I:Inv X pins σ H s)(hH:H l=some (.lst xs)):xs.length<=sizeLine/\∃ (its:List Value) (n:Nat),Vals xs its/\xs.length=its.length/\s.heap.get? l=some { cls:=.type "list",data:=.seq its.toArray n }:=by
 obtain⟨z,its,n,r,e⟩:=I.hok l _ hH;exact⟨z,its,n,r,r.length,e⟩
def vH(h:n<=sizeLine):Builtin.List.listTooLong n=false:=by
 exact decide_eq_false (by omega)
end
section
variable{X:Cx}
abbrev pJ:V->List V->Hp->VK->Prop:=fun x vs H Q=>∃ l xs y,x=.ref l/\vs=[y]/\H l=some (.lst xs)/\xs.length<sizeLine/\Q .non (upd H l (.lst (xs++[y])))
def lN:MtM X "list.append" pJ:=by
 intro pins s σ H x vs v us Q I rx rv h;obtain⟨l,xs,y,rfl,rfl,hH,hz,q⟩:=h;cases rx;obtain⟨u,rfl,ru⟩:=rv.one;obtain⟨z,its,n,r,hl,e⟩:=I.oq hH;refine call_meets F.slot_list_append ⟨_,e,rfl⟩ F.entry_list_append (F.args_list_append_2 _ _) (PySem.list_append l its.toArray n u (by rw[List.size_toArray];omega)) ⟨e,?_⟩;refine⟨.non,_,I.zx hH e (by simp) (r.append (.cons ru .nil)) ?_,rfl,q⟩;rw[List.length_append,List.length_singleton];omega
abbrev Ce:V->List V->Hp->VK->Prop:=fun x vs H Q=>∃ l xs y,x=.ref l/\vs=[]/\H l=some (.lst xs)/\xs[xs.length-1]?=some y/\Q y (upd H l (.lst xs.dropLast))
def B4:MtM X "list.pop" Ce:=by
 intro pins s σ H x vs v us Q I rx rv h;obtain⟨l,xs,y,rfl,rfl,hH,hy,q⟩:=h;cases rx;have hus:=rv.zero;subst hus;obtain⟨z,its,n,r,hl,e⟩:=I.oq hH;obtain⟨u,hu,ru⟩:=r.get hy
 have hy':its.toArray[its.toArray.size-1]?=some u:=by
  show its.toArray[its.length-1]?=some u;rw[<-Array.getElem?_toList,<-hl];exact hu
 refine call_meets F.slot_list_pop ⟨_,e,rfl⟩ F.entry_list_pop (F.args_list_pop_1 _) (MeetsSeq.list_pop_last l its.toArray n u hy' (by rw[List.size_toArray];omega)) ⟨e,?_⟩;refine⟨y,_,I.zx hH e ?_ r.dropLast ?_,ru,q⟩
 ·rw[List.size_toArray,List.eraseIdxIfInBounds_toArray,qI]
 ·rw[List.length_dropLast];omega
abbrev Et:R2:=fun x y H Q=>∃ l b xs zs,x=.ref l/\y=.ref b/\H l=some (.lst xs)/\H b=some (.lst zs)/\xs.length+zs.length<=sizeLine/\∀ p,H p=none->Q (.ref p) (upd H p (.lst (xs++zs)))
def AU:OpR X (binaryOp .Add) Et:=by
 intro pins s σ H x y v u Q I rx ry h;obtain⟨l,b,xs,zs,rfl,rfl,hH,hB,hz,q⟩:=h;cases rx;cases ry;obtain⟨z,its,n,r,hl,e⟩:=I.oq hH;obtain⟨z2,its2,n2,r2,hl2,e2⟩:=I.oq hB;refine PySem.P.add_list e e2 ?_ (by rw[List.size_toArray,List.size_toArray];omega)
 have ea:its.toArray++its2.toArray=(its++its2).toArray:=by simp
 rw[ea];exact⟨.ref _,_,I.Bw (r.append r2) (by rw[List.length_append];omega),rfl,q _ I.fresh⟩
abbrev DY:R2:=fun x y H Q=>∃ l k xs,x=.ref l/\y=.int k/\H l=some (.lst xs)/\-(2 ^ 63)<=k/\k<2 ^ 63/\xs.length*k.toNat<=sizeLine /\
 ∀ p,H p=none->Q (.ref p) (upd H p (.lst (List.replicate k.toNat xs).flatten))
def len_rep(xs:List α)(k:Nat):(List.replicate k xs).flatten.length=k*xs.length:=by
 induction k with
 | zero=>simp
 | succ k ih=>rw[List.replicate_succ,List.flatten_cons,List.length_append,ih,Nat.succ_mul,Nat.add_comm]
def zH:OpR X (binaryOp .Mult) DY:=by
 intro pins s σ H x y v u Q I rx ry h;obtain⟨l,k,xs,rfl,rfl,hH,h1,h2,hz,q⟩:=h;cases rx;obtain⟨t,rfl⟩:=ry;obtain⟨z,its,n,r,hl,e⟩:=I.oq hH
 have hlen:its.toArray.size*k.toNat<=sizeLine:=by rw[List.size_toArray,<-hl];exact hz
 have hcap:¬ its.toArray.size*k.toNat > (2 ^ 63-1) / 8:=by
  have:sizeLine<=(2 ^ 63-1) / 8:=by decide
  omega
 have hfit:¬ (!Builtin.List.listFitsIndex k)=true:=by
  rw[fitsIndex_both h1 h2];exact Bool.false_ne_true
 have hlong:¬ Builtin.List.listTooLong (its.toArray.size*k.toNat)=true:=by
  rw[vH hlen];exact Bool.false_ne_true
 have hnew:List.foldl (fun x1 x2=>x1++x2) #[] (List.replicate (if its.toArray.isEmpty=true then 0 else k.toNat) its.toArray)=(List.replicate k.toNat its).flatten.toArray:=by
  have f0:=fun m=>by
   have:=foldl_rep its m [];rw[List.nil_append]at this;exact this
  rw[f0]
  cases its with
  | nil=>simp
  | cons a r'=>rw[if_neg (by simp)]
 refine wpAny_binaryOp_repeat_ref (by decide) ⟨_,e,rfl⟩ (fun s'=>typeIs_int s' k t) noFill_list_mul F.fills_int_mul F.slot_int_rmul repeat_list F.slot_int_index.lookup
  (call_meets F.slot_int_rmul (typeIs_int s k t) F.entry_int_rmul (F.args_int_rmul_2 _ _) (int___rmul___int_list k t l its.toArray n)
   ⟨e,rfl,⟨_,e,rfl⟩,call_meets F.slot_list_mul ⟨_,e,rfl⟩ F.entry_list_mul (F.args_list_mul_2 _ _) (AutoListH.list___mul___list_int_3 l its.toArray n k t hfit hcap hlong) ⟨e,?_⟩⟩)
 rw[hnew];exact⟨.ref _,_,I.Bw (r.rep k.toNat) (by rw[len_rep,Nat.mul_comm];exact hz),rfl,q _ I.fresh⟩
end
section
variable{prog:Program}{w:World}{A:Around}{E:Value->Shared->Prop}{s:Shared}
end
section
variable{X:Cx}
end
section
variable{κ:Type} [DecidableEq κ]
def KV.length(r:KV kvs vs):kvs.length=vs.length:=Paired.length r
end
def Cz(r:RelV (kV k) u):(bO P w).is k u=true:=by
 cases k with
 | inl i=>obtain⟨t,e⟩:=(show ∃ t,u=Value.int i t from r);subst e;exact p8 P w i t
 | inr x=>obtain⟨t,e⟩:=(show ∃ t,u=Value.str x t from r);subst e;exact p6 P w x t
def lQ:∀ {ks:List Key} {us:List Value},Vals (ks.map kV) us->ItemsAre (bO P w) ks us
 | [],_,r=>by rw[List.map_nil]at r;cases r;exact .nil
 | k::ks,_,r=>by
  cases r with
  | cons h t=>exact .cons (Cz h) (lQ t)
@[reducible]noncomputable def KT(H:Hp):List (List Key × V)->List (List Key × Addr × Value)->Prop:=Paired fun p q=>p.1=q.1/\H q.2.1=some (.tup (p.1.map kV))/\RelV p.2 q.2.2
section
variable{P:Program}{w:World}{H:Hp}{h:Heap}{a:Addr}
def xb(ok:HOk P w H h)(e:Rd H a u):bu P w H h a u:=e.ok ok
def CJ(ok:HOk P w H h)(e:Rd H a (.dK kvs)):kvs.length<=sizeLine/\(a == sysModules)=false/\∃ vs,KV kvs vs/\h.DictOf (bO P w) a vs :=
 show bu P w H h a (.dK kvs)from xb ok e
def zy(ok:HOk P w H h)(e:H a=some (.tup (ks.map kV))):(tupleKind (bO P w)).is h ks a:=by
 obtain⟨_,its,r,o,h1,h2,n,h3⟩:=(show bu P w H h a (.tup (ks.map kV))from ok a _ e)
 exact⟨o,its.toArray,n,h1,h2,h3,by simpa using lQ r⟩
def Df(ok:HOk P w H h)(e:Rd H a (.dT kvs)):kvs.length<=sizeLine/\(a == sysModules)=false /\
  ∃ xs,KT H kvs xs/\h.DictOfH (tupleKind (bO P w)) a xs:=by
 obtain⟨z,y,xs,r,o,es,ep,h1,h2,h3,h4,h5⟩:=(show bu P w H h a (.dT kvs)from xb ok e)
 refine⟨z,y,xs,r,o,es,ep,h1,h2,h3,h4,fun x hx=>?_,h5⟩
 have all:∀ {l:List (List Key × V)} {m:List (List Key × Addr × Value)},KT H l m->∀ x∈m,(tupleKind (bO P w)).is h x.1 x.2.1:=by
  intro l m q
  induction q with
  | nil=>intro x hx;exact nomatch hx
  |@cons p q ps qs hq t ih=>
   intro x hx;rcases List.mem_cons.mp hx with e | hx
   ·subst e;exact zy ok (by rw[<-hq.1];exact hq.2.1)
   ·exact ih x hx
 exact all r x hx
def CZ(ok:HOk P w H h)(e:H a=some (.dT kvs)):kvs.length<=sizeLine/\(a == sysModules)=false /\
  ∃ xs,KT H kvs xs/\h.DictOfH (tupleKind (bO P w)) a xs:=Df ok (.inl e)
end
section
variable{X:Cx}{pins:List (Addr × Obj)}{σ:St}{H:Hp}{s:Shared}{a:Addr}{y v:V}{u r:Value}{o:Option V}{A:Around}{E:Value->Shared->Prop}
end
section
variable{X:Cx}{pins:List (Addr × Obj)}{σ:St}{H:Hp}{s:Shared}{a:Addr}{kvs:List (Key × V)}{k:Key}{u:Value}{A:Around}{E:Value->Shared->Prop}
def Dl(I:Inv X pins σ H s)(e:Rd H a (.dK kvs))(h:∀ t s',Inv X pins σ H s'->Q (.int kvs.length t) s'):wpAny (model X.prog X.w) A (call (.builtin "len") [.ref a]) Q E s:=by
 obtain⟨z,hd,vs,rel,dd⟩:=CJ I.hok e;refine call_len_dict hd dd (by rw[<-rel.length];rw[sizeLine_eq]at z;omega) ?_;rw[<-rel.length];exact h _ _ (I.tok _)
end
section
variable{X:Cx}{o i e value:Expr}{pos pos' tpos:Pos}{td ty tv:TE}
end
section
variable{X:Cx}{pos:Pos}
end
section
variable{X:Cx}{pins:List (Addr × Obj)}{σ:St}{H:Hp}{s:Shared}{a:Addr}{y d:V}{u r:Value}{o:Option V}{A:Around}{E:Value->Shared->Prop}
end
section
variable{X:Cx}{o e f:Expr}{apos cpos:Pos}{td ty tx:TE}
end
section
variable{X:Cx}{pins:List (Addr × Obj)}{σ:St}{H:Hp}{s:Shared}{a:Addr}{kvs:List (Key × V)}{A:Around}{E:Value->Shared->Prop}
end
section
variable{X:Cx}{pins:List (Addr × Obj)}{σ:St}{H:Hp}{s:Shared}{a:Addr}{y:V}{u:Value}{A:Around}{E:Value->Shared->Prop}
end
end L2
namespace Att
open PySem PySem.W PySem.Calls PyProof.Rows
def jX:∀ (ns:List Int) (vs:List Value),WellAll P h vs (ns.map WData.int)->IntsAre vs ns:=by
 intro ns
 induction ns with
 |nil=>
  intro vs w;cases w;exact .nil
 |cons n ns ih=>
  intro vs w
  cases w with
  |cons a b=>
   cases a;exact .cons _ _ (ih _ b)
def tM{l:OpenLaw}{n:Nat}(hn:l.most=some n){P:Params}{h:Heap}{args:List WData}{vals:List Value}
 (hpre:l.row.toRowW.claim.pre args=true)(hwl:WellAll P h vals args) :
  ∃ a vs ns,vals=[Value.ref a]/\args=[WData.list (ns.map WData.int)]/\h.get? a=some { cls:=.type "list",data:=.seq vs.toArray }/\IntsAre vs ns/\ns.length<=n:=by
 have hsh:=(pre_splitW hpre).1;have hc:l.pre.holds [] { args:=args }=true:=(pre_splitW hpre).2;obtain⟨d,r,rfl,h1,h2⟩:=hasAllW_cons hsh;obtain rfl:=hasAllW_nil h2;obtain⟨xs,rfl,h3⟩:=hasW_list h1;obtain⟨ns,rfl⟩:=items_int h3
 have hlen:ns.length<=n:=by
  have h4:(WTm.not (.lt (.lit (.int n)) (.len (.arg 0)))).holds [] { args:=[.list (ns.map .int)] }=true:=by
   have h4:=(holds_andW hc).1;rw[hn]at h4;exact h4
  have h5:=condW_of h4 (w_not (w_lt w_lit (w_len_list (w_arg rfl))));refine Nat.le_of_not_lt fun q=>?_
  have q':n<((ns.length:Nat):Int):=by omega
  first
   | (rw[decide_eq_true q']at h5;exact absurd h5 (by decide))
   | (simp at h5;omega)
 cases hwl with
 |cons w1 w2=>
  cases w2
  cases w1 with
  | list ho hall=>exact⟨_,_,ns,rfl,rfl,ho,jX ns _ hall,hlen⟩
def ub(l:OpenLaw)(args:List WData):l.row.toRowW.claim.post args (.bool true) args=true :=
 postW_of
  (show WShape.has [] (.bool true) .bool=true by first | rfl | decide | simp[ WShape.arms])
  (show(WTm.eq .res (.lit (.bool true))).value [] { args:=args,res:=some (.bool true),after:=args }=some (.bool (true == true))from w_eq_bool (w_res rfl) w_lit) rfl
def p9{l:OpenLaw}{n:Nat}{q:Program}{loose:List Str}{XP:(Str->Option Value)->Heap->Prop}{YP:World->Heap->Prop}{d:DefRec}
 (hn:l.most=some n)(hdf:d.params.defaults=[])
 (call:∀ (w:World) (s₀ s₁:Shared) (mg mb:Str->Option Value) (fa:Addr) (o:Obj) (pm cd doc:Value) (a:Addr) (vs:List Value) (ns:List Int),
   Ground q loose [] XP w s₀ mg mb s₁.heap->YP w s₁.heap ->
   s₁.heap.get? fa=some o->o.data=.func (docDef d.name d.params d.body d.scope pm cd doc)->s₁.heap.CodeRec cd d.name->mg d.name=some (.ref fa) ->
   s₁.heap.get? a=some { cls:=.type "list",data:=.seq vs.toArray }->IntsAre vs ns->ns.length<=n->s₁.gens=#[] ->
   codeAny (model l.prog w) callerA (.call (.ref fa) ⟨[.ref a],[]⟩) (fun r s'=>r=.ok (.ret (.bool true))/\OldK s₁.heap s'.heap/\s'.os=s₁.os/\AllBare s'.gens) s₁) :
  WalkO q loose XP YP l.row.toRowW d [] (fun f vs=>PySem.call f vs):=by
 intro w s₀ s₁ mg mb G Y fa o pm cd doc dV kV ho hd hcd hD hmg hg args vals as hpre hlay hrd hwl hlo;obtain rfl:dV=.none:=Dflts.none hD hdf;obtain rfl:kV=.none:=Dflts.noKw hD;obtain⟨a,vs,ns,rfl,rfl,hobj,hints,hlen⟩:=tM hn hpre hwl;refine enter_call (codeAny_mono (call w s₀ s₁ mg mb fa o pm cd doc a vs ns G Y ho (fd_plain hd) hcd hmg hobj hints hlen hg) fun r s' hq=>?_);obtain⟨rfl,h2,h3,h4⟩:=hq;exact⟨.inl ⟨.bool true,.bool true,[],rfl,fun _=>rfl,.bool true,ub l _,fun _=>⟨List.Pairwise.nil,fun _ hm=>(nomatch hm)⟩⟩,h2,h3,h4⟩
section
variable{prog:Program}{w:World}{A:Around}{E:Value->Shared->Prop}{s:Shared}{K:Frag}
end
end Att
namespace L2
open PySem PySem.Spec PyProof.Rows
def lM:∀ {vs:List Value} {ns:List Int},IntsAre vs ns->Vals (ns.map V.int) vs
 | _,_,.nil=>.nil
 | _,_,.cons n t h=>.cons ⟨t,rfl⟩ (lM h)
abbrev oG(H:Hp):Prop:=∀ b,H b=none\/∃ o xs,H b=some (.frz o (.lst xs))
def uZ{P:Program}{w:World}{K:PySem.W.Frag}{mg mb:Str->Option Value}{CX:CXT}{k:Nat}{fa a:Addr}{fd:FuncData}{x:Str}{sp:Sp}{s₁:Shared}{vs:List Value}{ns:List Int}
 (KX:K.In s₁.heap)(hns:s₁.heap.Ns mainGlobals mg)(hb:s₁.heap.Ns builtinsNs mb)(hbb:∀ x:Str,x ≠ "__name__" -> mb x=bootBuiltins x)(hlim:s₁.heap.NoLimit)(hg:s₁.gens=#[])
 (ha:s₁.heap.get? a=some { cls:=.type "list",data:=.seq vs.toArray })(hi:IntsAre vs ns)(hl:ns.length<=sizeLine)(hr:bP k callerA)
 (F:∀ base:Heap,K.In base->base.Ns mainGlobals mg->dz P w K mg base CX k fa fd [x] sp)(hbind:∀ (s:Shared) (u:Value),BindsTo s fd ⟨[u],[]⟩ [(x,u)])
 (hsp:∀ H:Hp,oG H->SqL K H a (ns.map V.int)->sp [.ref a] H (fun v _=>v=.bl true) fun _ _ _=>False)
 (hCX:∀ H e s',CX [] H s₁ (fun _ _ _=>False) e s'->False) :
  codeAny (model P w) callerA (.call (.ref fa) ⟨[.ref a],[]⟩) (fun r s'=>r=.ok (.ret (.bool true))/\OldK s₁.heap s'.heap/\s'.os=s₁.os/\AllBare s'.gens) s₁:=by
 have rv:=lM hi;have lenV:=hi.length
 have core:∀ H:Hp,oG H->SqL K H a (ns.map V.int)->HOk P w H s₁.heap->(∀ b,H b≠none->b=a)->(H a≠none->K.lookup a=none) ->
   codeAny (model P w) callerA (.call (.ref fa) ⟨[.ref a],[]⟩) (fun r s'=>r=.ok (.ret (.bool true))/\OldK s₁.heap s'.heap/\s'.os=s₁.os/\AllBare s'.gens) s₁:=by
  intro H hO hS hok hA hK;have base_of:∀ {b:Addr} {o:Obj},s₁.heap.get? b=some o->H b=none->(ic s₁.heap H).get? b=some o:=fun e n=>vc e n
  have noA:∀ {b:Addr} {o:Obj} {es:Array DictEntry} {ep:Nat},s₁.heap.get? b=some o->o.data=.dict es ep->H b=none:=fun {b o es ep} e d=>by
   cases q:H b with
   | none=>rfl
   |some u=>
    have e':b=a:=hA b (by rw[q];simp);subst e';rw[ha]at e;cases e;have d':Data.seq vs.toArray _=Data.dict es ep:=d;cases d'
  have nsK:∀ {b:Addr} {m:Str->Option Value},s₁.heap.Ns b m->(ic s₁.heap H).Ns b m:=fun {b m} ⟨o,es,ep,e,d,r⟩=>⟨o,es,ep,base_of e (noA e d),d,r⟩
  have hKb:K.In (ic s₁.heap H):=fun b o e=>base_of (KX b o e) (by
   cases q:H b with
   | none=>rfl
   |some u=>
    have e':b=a:=hA b (by rw[q];simp);subst e'
    rw[hK (by rw[q];simp)]at e;cases e)
  have hM:Mod K mg (ic s₁.heap H):=⟨hKb,nsK hns,⟨mb,nsK hb,hbb⟩,let ⟨mc,h1,h2⟩:=hlim;⟨mc,nsK h1,h2⟩⟩
  have e0:mT P w K mg (ic s₁.heap H) callerA [] s₁ H:=⟨rfl,hM,fun b o e=>yW e,Nat.le_of_eq (sj _ _),trivial,fun b hb=>absurd (show b∈([]:List Addr)from hb) (by simp),hok,.of_eq hg⟩
  refine codeAny_mono ((F _ hKb (nsK hns)).run callerA [] s₁ H ⟨[.ref a],[]⟩ [.ref a] [.ref a] _ _ hr e0 (hbind s₁ (.ref a)) (.cons rfl .nil) (hsp H hO hS)) fun r s' h=>?_
  cases r with
  | error e=>exact(hCX H e s' h).elim
  |ok fl=>
   cases fl with
   | next=>exact False.elim h
   | brk=>exact False.elim h
   | cont=>exact False.elim h
   |ret u=>
    obtain⟨v,H',os,bare,un,hok',r',q⟩:=h;have q':v=.bl true:=q;subst q';obtain rfl:u=Value.bool true:=r';refine⟨rfl,OldK.of_keep fun b o e=>?_,os,bare⟩
    cases q:H b with
    | none=>exact un.keep b o e q (by intro z;exact absurd (show b∈([]:List Addr)from z) (by simp)) (by simp)
    |some u=>
     rcases hO b with z | ⟨ob,xs,z⟩
     ·rw[q]at z;cases z
     ·have z2:=un.cI b ob _ z;obtain⟨e1,_⟩:=hok b _ z;obtain⟨e2,_⟩:=hok' b _ z2;rw[e]at e1;cases e1;exact e2
 cases hk:K.lookup a with
 |some o=>
  have e:=KX a o hk;rw[ha]at e;cases e;refine core (fun _=>none) (fun _=>.inl rfl) (.inr ⟨_,vs.toArray,_,hk,rfl,rfl,rfl,by rw[List.size_toArray,lenV];exact hl,by simpa using rv⟩) (fun b u z=>by have z':(none:Option HO)=some u:=z;cases z') (fun b z=>absurd rfl z) fun z=>absurd rfl z
 |none=>
  refine core (fun b=>if b=a then some (.frz { cls:=.type "list",data:=.seq vs.toArray } (.lst (ns.map V.int)))else none) (fun b=>?_) (.inl (.inr ⟨{ cls:=.type "list",data:=.seq vs.toArray },if_pos rfl⟩)) (fun b u z=>?_) (fun b z=>?_) fun _=>hk
  ·by_cases hb:b=a
   ·exact .inr ⟨_,_,if_pos hb⟩
   ·exact .inl (if_neg hb)
  ·by_cases hb:b=a
   ·have z':=(if_pos hb).symm.trans z;cases z';subst hb;exact⟨ha,by rw[List.length_map];exact hl,vs,_,rv,ha⟩
   ·have z':=(if_neg hb).symm.trans z;cases z'
  ·by_cases hb:b=a
   ·exact hb
   ·exact absurd (if_neg hb) z
@[reducible]noncomputable def KOf{K:PySem.W.Frag}{h:Heap}(_:K.In h):PySem.W.Frag:=K
def qf{l:PySem.W.OpenLaw}{n k:Nat}{q:Program}{loose:List Str}{XP:(Str->Option Value)->Heap->Prop}{YP:World->Heap->Prop}{d:DefRec}{K:Params->PySem.W.Frag}{CX:World->CXT}{sp:World->Sp}{x:Str}
 (hn:l.most=some n)(hn2:n<=sizeLine)(hdf:d.params.defaults=[])(hr:bP k callerA)
 (hY:∀ (w:World) (h:Heap),YP w h->(K w.params).In h)
 (F:∀ (w:World) (mg:Str->Option Value) (fa:Addr) (h:Heap),(K w.params).In h->h.Ns mainGlobals mg->mg d.name=some (.ref fa) ->
   ∃ fd:FuncData,(∀ (s:Shared) (u:Value),BindsTo s fd ⟨[u],[]⟩ [(x,u)]) /\
    ∀ base:Heap,(K w.params).In base->base.Ns mainGlobals mg->dz l.prog w (K w.params) mg base (CX w) k fa fd [x] (sp w))
 (hsp:∀ (w:World) (H:Hp) (a:Addr) (ns:List Int),ns.length<=n->oG H->SqL (K w.params) H a (ns.map V.int)->sp w [.ref a] H (fun v _=>v=.bl true) fun _ _ _=>False)
 (hCX:∀ (w:World) (H:Hp) (s:Shared) (e:Value) (s':Shared),CX w [] H s (fun _ _ _=>False) e s'->False) :
  PySem.W.WalkO q loose XP YP l.row.toRowW d [] (fun f vs=>PySem.call f vs):=by
 refine Att.p9 hn hdf fun w s₀ s₁ mg mb fa o pm cd doc a vs ns G Y ho hd hcd hmg hobj hints hlen hg=>?_;have KX:=hY w _ Y;obtain⟨fd,hb,hF⟩:=F w mg fa _ KX G.T.g hmg;exact uZ KX G.T.g G.T.b G.T.builtins G.T.nolimit hg hobj hints (Nat.le_trans hlen hn2) hr hF hb (fun H hO hS=>hsp w H a ns hlen hO hS) fun H e s'=>hCX w H s₁ e s'
def uV{l:PySem.W.OpenLaw}{n k:Nat}{q:Program}{loose:List Str}{XP:(Str->Option Value)->Heap->Prop}{YP:World->Heap->Prop}{d:DefRec}{K:Params->PySem.W.Frag}{CX:CXT}{sp:PySem.W.Frag->Sp}{x:Str}
 (hn:l.most=some n)(hn2:n<=sizeLine)(hdf:d.params.defaults=[])(hr:bP k callerA)
 (hY:∀ (w:World) (h:Heap),YP w h->(K w.params).In h)
 (F:∀ (w:World) (mg:Str->Option Value) (fa:Addr) (h:Heap),(K w.params).In h->h.Ns mainGlobals mg->mg d.name=some (.ref fa) ->
   ∃ fd:FuncData,(∀ (s:Shared) (u:Value),BindsTo s fd ⟨[u],[]⟩ [(x,u)]) /\
    ∀ base:Heap,(K w.params).In base->base.Ns mainGlobals mg->dz l.prog w (K w.params) mg base CX k fa fd [x] (sp (K w.params)))
 (hsp:∀ (K:PySem.W.Frag) (H:Hp) (a:Addr) (ns:List Int),ns.length<=n->oG H->SqL K H a (ns.map V.int)->sp K [.ref a] H (fun v _=>v=.bl true) fun _ _ _=>False)
 (hCX:∀ (H:Hp) (s:Shared) (e:Value) (s':Shared),CX [] H s (fun _ _ _=>False) e s'->False) :
  PySem.W.WalkO q loose XP YP l.row.toRowW d [] (fun f vs=>PySem.call f vs) :=
 qf (K:=K) (CX:=fun _=>CX) (sp:=fun w=>sp (K w.params)) hn hn2 hdf hr hY F (fun w H a ns h1 h2 h3=>hsp (K w.params) H a ns h1 h2 h3) fun _ H s e s'=>hCX H s e s'
abbrev fk(s:Stmt):Arguments:=match s with
 | .FunctionDef _ a _ _ _ _ _ _ _ _=>a
 | _=>{ posonlyargs:=[],args:=[],vararg:=none,kwonlyargs:=[],kw_defaults:=[],kwarg:=none,defaults:=[] }
abbrev bZ(s:Stmt):List Stmt:=match s with
 | .FunctionDef _ _ b _ _ _ _ _ _ _=>b
 | _=>[]
abbrev aH(s:Stmt):Scope:=match s with
 | .FunctionDef _ _ _ _ _ _ sc _ _ _=>sc
 | _=>{ kind:=.function,names:=[],isGenerator:=false,isCoroutine:=false }
@[reducible]noncomputable def CX0:CXT:=fun _ _ _ _ _ _=>False
@[reducible]noncomputable def E0:XK:=fun _ _ _=>False
def CH:Passes CX0 X E0:=fun _ _ _ _ _ _ _ h=>h.elim
structure Fun(K:PySem.W.Frag)(x qual:Str)(st:Stmt)(f:Addr)(fd:FuncData):Prop where
 ex:∃ (oc:Value) (od:Option Addr) (kV doc pm:Value) (an:Option Addr) (cdv ct:Value) (osl:Array (Option Value)),
  fd=PySem.W.fnOf x qual (fk st) (bZ st) (aH st) .none kV doc pm an cdv ct/\K.lookup f=some ⟨oc,od,.func fd,osl⟩/\PySem.W.codeIn K cdv qual=true
 kp:PySem.W.keepIn K (.ref f)=true
section
variable{P:Program}{w:World}{K:PySem.W.Frag}{mg:Str->Option Value}{base:Heap}
def Fun.ok{x qual:Str}{st:Stmt}{f:Addr}{fd:FuncData}{N ps:List Str}{k:Nat}{sp:Sp}(F:Fun K x qual st f fd)(S:eA N ps (aH st))(len:∀ vs H Q E,sp vs H Q E->vs.length=ps.length)
 (hbody:∀ (cdv:Value) (A:Around) (outer:List Env) (s:Shared) (H:Hp) (vs:List V) (Q:VK) (E:XK),bP k (A.deeper (envOfC qual (aH st) s.heap.objs.size f cdv))->sp vs H Q E ->
   ∃ t,PSs (fG CX0 P w K mg base N qual (aH st) f cdv A outer s H E).nox (bZ st) t/\t { nx:=fun _ H'=>Q .non H',rt:=Q } (start N vs) H):dz P w K mg base CX0 (k+1) f fd ps sp:=by
 obtain⟨oc,od,kV,doc,pm,an,cdv,ct,osl,rfl,lk,hcd⟩:=F.ex;refine xn lk hcd S len fun A outer s H vs Q E hr hsp=>?_;obtain⟨t,h,q⟩:=hbody cdv A outer s H vs Q E hr hsp;exact⟨t,h.nox,q⟩
def Fun.binds{x qual:Str}{st:Stmt}{f:Addr}{fd:FuncData}{ps:List Str}(F:Fun K x qual st f fd)
 (h:∀ (kV doc pm:Value) (an:Option Addr) (cdv ct:Value) (us:List Value),us.length=ps.length->bindArgs (PySem.W.fnOf x qual (fk st) (bZ st) (aH st) .none kV doc pm an cdv ct) ⟨us,[]⟩=pure (ps.zip us)):Binds K fd ps []:=by
 obtain⟨oc,od,kV,doc,pm,an,cdv,ct,osl,rfl,lk,hcd⟩:=F.ex;exact .all (h kV doc pm an cdv ct)
def se{x qual:Str}{st:Stmt}{f:Addr}{oc:Value}{od an:Option Addr}{osl:Array (Option Value)}{kV doc pm cdv ct:Value}(l:K.lookup f=some ⟨oc,od,.func (PySem.W.fnOf x qual (fk st) (bZ st) (aH st) .none kV doc pm an cdv ct),osl⟩)
 (c:PySem.W.codeIn K cdv qual=true)(k:PySem.W.keepIn K (.ref f)=true):Fun K x qual st f (PySem.W.fnOf x qual (fk st) (bZ st) (aH st) .none kV doc pm an cdv ct):=⟨⟨oc,od,kV,doc,pm,an,cdv,ct,osl,rfl,l,c⟩,k⟩
end
def lP(h:n<=1000):n<sizeLine:=Nat.lt_of_le_of_lt h (by decide)
section
variable{X:Cx}
end
def eC{A B:Prop}(h:B):if false=true then A else B:=by
 exact h
def dU{A B:Prop}(h:A):if true=true then A else B:=by
 exact h
abbrev ax(H H':Hp):Prop:=∀ b o,H b=some o->H' b=some o
def ax.refl(H:Hp):ax H H:=fun _ _ h=>h
def ax.trans(a:ax H H1)(b:ax H1 H2):ax H H2:=fun c o h=>b c o (a c o h)
def ax.free(e:ax H H')(h:H' l=Option.none):H l=Option.none:=by
 cases q:H l with
 | none=>rfl
 |some o=>
  rw[e l o q]at h;cases h
section
variable{X:Cx}
def u7:br X (.builtin "len") (fun xs H Q=>∃ a kvs,xs=[V.ref a]/\H a=some (.dK kvs)/\Q (.int kvs.length) H):=by
 intro pins s σ H xs us Q I r h;obtain⟨a,kvs,rfl,ha,q⟩:=h;obtain⟨u,rfl,ru⟩:=vals1 r;cases ru
 exact Dl I (.inl ha) fun t s' I'=>⟨.int kvs.length,H,I',⟨t,rfl⟩,q⟩
end
section
variable{κ:Type} [DecidableEq κ]
end
end L2
namespace RS
open PySem PySem.Spec PyProof.Rows L2
@[reducible]def VE:List Value:=[.type "ValueError",.type "Exception",.type "BaseException",.type "object"]
abbrev cA:List Str:=["RibbonError", "BadPegs", "BadFrame", "BadHalf", "BadHook", "BadName", "NoNumber", "NoFrame", "NoStack", "NoPlace", "Taken", "Full", "NothingThere", "BadTrade", "Hangs", "BadPage"]
abbrev oB(f:Option PySem.Builtin.ObjectAttr.Found):Bool:=match f with
 | some (.bind (.builtin a) (.builtin b))=>a == "getset_descriptor.__get__" && b == "object.__class__"
 | _=>false
abbrev jW(K:PySem.W.Frag)(C:Addr):Bool:=match K.lookup C with
 | some ⟨.type "type",_,.cls cd,sl⟩=>(match cd.mro,sl.toList with
  | .ref C'::bm,[_,_,_,_,some (.builtin n),_]=>C' == C&&n == "ValueError.__new__" && !cd.hasDel&&PySem.W.tailIn K VE bm
  | _,_=>false)
 | _=>false
def yO{K:PySem.W.Frag}(h:PySem.W.excIn K C VE "ValueError.__new__" = true):jW K C=true:=by
 unfold PySem.W.excIn at h;unfold jW;split at h
 ·rename_i ho;simp only[ho];split at h
  ·rename_i hm hs;simp only[hm,hs,Bool.and_eq_true]at h ⊢;exact h.1.1
  ·cases h
 ·cases h
abbrev qR(K:PySem.W.Frag)(C:Addr):Bool:=jW K C&&(PySem.W.findIn K (.ref C) "at" == some none&&PySem.W.hasDictIn K C)
abbrev fQ(K:PySem.W.Frag)(x:Str)(C:Addr):Bool :=
 qR K C&&PySem.W.findIn K (.ref C) "__getattribute__" == some (some (.builtin "BaseException.__getattribute__"))&&PySem.W.findIn K (.ref C) "__getattr__" == some none&&oB (PySem.W.findObj K C none "__class__") &&
 PySem.W.mroIn K C (.type "object") == some true&&PySem.W.subIn K (.ref C) (.type "BaseException") == some true&&(PySem.W.clsIn K C).isSome&&PySem.W.kitOne K (.ref C) (.type "ValueError") == some true &&
 cA.all fun c=>match PySem.W.nsIn K mainGlobals c with
  | some (some (.ref D))=>PySem.W.kitOne K (.ref C) (.ref D) == some (RL.cJ x c)&&PySem.W.subIn K (.ref C) (.ref D) == some (RL.cJ x c)
  | _=>true
structure Cls(K:PySem.W.Frag)(x:Str)(C:Addr):Prop where
 ns:PySem.W.nsIn K mainGlobals x=some (some (.ref C))
 ok:fQ K x C=true
section
variable{K:PySem.W.Frag}
def Cls.exc(h:Cls K x C):qR K C=true:=by
 have:=h.ok;simp only[fQ,Bool.and_eq_true]at this;exact this.1.1.1.1.1.1.1.1
def Cls.ref(h:Cls K x C)(hc:c∈cA)(hD:PySem.W.nsIn K mainGlobals c=some (some (.ref D))):PySem.W.kitOne K (.ref C) (.ref D)=some (RL.cJ x c)/\PySem.W.subIn K (.ref C) (.ref D)=some (RL.cJ x c):=by
 have:=h.ok;simp only[fQ,Bool.and_eq_true]at this;have q:=List.all_eq_true.mp this.2 c hc;rw[hD]at q;simp only[Bool.and_eq_true,beq_iff_eq]at q;exact q
def Cls.val(h:Cls K x C):PySem.W.kitOne K (.ref C) (.type "ValueError")=some true:=by
 have:=h.ok;simp only[fQ,Bool.and_eq_true,beq_iff_eq]at this;exact this.1.2
end
structure bG(K:PySem.W.Frag)(x:Str)(C:Addr)(c:Str):Prop where
 ex:∃ D b,PySem.W.nsIn K mainGlobals c=some (some (.ref D))/\PySem.W.kitOne K (.ref C) (.ref D)=some b/\PySem.W.subIn K (.ref C) (.ref D)=some b/\RL.cJ x c=b
def Ag{K:PySem.W.Frag}(n:PySem.W.nsIn K mainGlobals c=some (some (.ref D)))(k:PySem.W.kitOne K (.ref C) (.ref D)=some b)(s:PySem.W.subIn K (.ref C) (.ref D)=some b)(e:RL.cJ x c=b):bG K x C c:=⟨D,b,n,k,s,e⟩
structure zZ(K:PySem.W.Frag)(x:Str)(C:Addr):Prop where
 a1:jW K C=true
 a10:PySem.W.findIn K (.ref C) "at" = some none
 a11:PySem.W.hasDictIn K C=true
 a2:PySem.W.findIn K (.ref C) "__getattribute__" = some (some (.builtin "BaseException.__getattribute__"))
 a3:PySem.W.findIn K (.ref C) "__getattr__" = some none
 a4:PySem.W.findIn K (.ref C) "__class__" = some (some (.builtin "object.__class__"))
 a5:PySem.W.specialIn K (.builtin "object.__class__") "__get__" = some (some (.builtin "getset_descriptor.__get__"))
 a6:PySem.W.takesIn K (.builtin "object.__class__")=some true
 a7:PySem.W.mroIn K C (.type "object")=some true
 a8:PySem.W.subIn K (.ref C) (.type "BaseException")=some true
 a9:PySem.W.kitOne K (.ref C) (.type "ValueError")=some true
 b1:bG K x C "RibbonError"
 b2:bG K x C "BadPegs"
 b3:bG K x C "BadFrame"
 b4:bG K x C "BadHalf"
 b5:bG K x C "BadHook"
 b6:bG K x C "BadName"
 b7:bG K x C "NoNumber"
 b8:bG K x C "NoFrame"
 b9:bG K x C "NoStack"
 b10:bG K x C "NoPlace"
 b11:bG K x C "Taken"
 b12:bG K x C "Full"
 b13:bG K x C "NothingThere"
 b14:bG K x C "BadTrade"
 b15:bG K x C "Hangs"
 b16:bG K x C "BadPage"
def Bo{K:PySem.W.Frag}(h:zZ K x C):fQ K x C=true:=by
 obtain⟨cd,ec,_⟩:=Option.bind_eq_some_iff.mp h.a7
 have fo:oB (PySem.W.findObj K C none "__class__")=true:=by
  unfold PySem.W.findObj;rw[ec,Option.bind_some,h.a4,Option.bind_some];dsimp only;rw[h.a5,Option.bind_some];rfl
 have one:∀ {c:Str},bG K x C c->(match PySem.W.nsIn K mainGlobals c with
  | some (some (.ref D))=>PySem.W.kitOne K (.ref C) (.ref D) == some (RL.cJ x c)&&PySem.W.subIn K (.ref C) (.ref D) == some (RL.cJ x c)
  | _=>true)=true:=fun⟨D,b,e1,e2,e3,e4⟩=>by
  rw[e1];dsimp only;rw[e2,e3,e4,beq_self_eq_true];rfl
 unfold fQ qR;rw[h.a1,h.a10,h.a11,h.a2,h.a3,fo,h.a7,h.a8,ec,h.a9];simp only[beq_self_eq_true,Option.isSome_some,Bool.and_self,Bool.true_and];rw[List.all_eq_true];intro c hc;simp only[cA,List.mem_cons,List.mem_nil_iff,or_false]at hc;rcases hc with rfl | rfl | rfl | rfl | rfl | rfl | rfl | rfl | rfl | rfl | rfl | rfl | rfl | rfl | rfl | rfl
 ·exact one h.b1
 ·exact one h.b2
 ·exact one h.b3
 ·exact one h.b4
 ·exact one h.b5
 ·exact one h.b6
 ·exact one h.b7
 ·exact one h.b8
 ·exact one h.b9
 ·exact one h.b10
 ·exact one h.b11
 ·exact one h.b12
 ·exact one h.b13
 ·exact one h.b14
 ·exact one h.b15
 ·exact one h.b16
abbrev nP:Addr->Prop:=fun _=>False
abbrev i8(K:PySem.W.Frag)(H:Hp)(a:Addr)(xs:List V):Prop:=(∃ o,H a=some (.frz o (.lst xs)))\/SqL K (fun _=>none) a xs
def i8.seq{K:PySem.W.Frag}(h:i8 K H a xs):SqL K H a xs:=by
 rcases h with⟨o,h⟩ | (h | ⟨o,h⟩) | h
 ·exact .inl (.inr ⟨o,h⟩)
 ·cases h
 ·cases h
 ·exact .inr h
def i8.same{K:PySem.W.Frag}(e:ax H H')(h:i8 K H a xs):i8 K H' a xs:=by
 rcases h with⟨o,h⟩ | h
 ·exact .inl ⟨o,e _ _ h⟩
 ·exact .inr h
abbrev gU(H:Hp)(f:Option Nat)(od:Option Addr):Prop:=match f with
 | none=>od=none
 | some k=>∃ n u hh tk tk',od=some n/\H n=some (.frz { cls:=.type "dict",data:=.dict #[⟨hh,.str "at" tk,.int k tk'⟩] 1 } u)
def gU.keep(h:gU H f od)(k:∀ b o u,H b=some (.frz o u)->H' b=some (.frz o u)):gU H' f od:=by
 cases f with
 | none=>exact h
 | some m=>exact let ⟨n,u,hh,tk,tk',h1,h2⟩:=h;⟨n,u,hh,tk,tk',h1,k _ _ _ h2⟩
abbrev ExV(K:PySem.W.Frag)(H:Hp)(c:Str)(v:V):Prop:=∃ a o u D vs,v=.ref a/\H a=some (.frz o u)/\(o.cls=.ref D/\gU H (RL.fR c) o.dict)/\o.data=.fields vs/\vs[2]?=some .none/\Cls K (RL.baseOf c) D
def ExV.keep{K:PySem.W.Frag}(h:ExV K H c v)(k:∀ b o u,H b=some (.frz o u)->H' b=some (.frz o u)):ExV K H' c v :=
 let ⟨a,o,u,D,vs,h1,h2,h3,r⟩:=h;⟨a,o,u,D,vs,h1,k _ _ _ h2,⟨h3.1,h3.2.keep k⟩,r⟩
mutual
noncomputable def Rep(P:Addr->Prop)(K:PySem.W.Frag)(H:Hp):RL.D->V->Prop
 | .non,v=>v=.non
 | .bl b,v=>v=.bl b
 | .int i,v=>v=.int i
 | .str x,v=>v=.str x
 | .tup ds,v=>∃ a xs,v=.ref a/\H a=some (.tup xs)/\af P K H ds xs
 | .lst ds,v=>∃ a xs,v=.ref a/\¬ P a/\H a=some (.lst xs)/\af P K H ds xs
 | .dK ks ds,v=>∃ a xs,v=.ref a/\¬ P a/\H a=some (.dK (ks.zip xs))/\ks.length=ds.length/\af P K H ds xs
 | .dT ks ds,v=>∃ a xs,v=.ref a/\¬ P a/\H a=some (.dT (ks.zip xs))/\ks.length=ds.length/\af P K H ds xs
 | .scr ds,v=>∃ a xs,v=.ref a/\i8 K H a xs/\af P K H ds xs
 | .exc c,v=>ExV K H c v
 | .obj,v=>∃ a,v=.ref a
 | .fT ks ds,v=>∃ a o xs,v=.ref a/\H a=some (.frz o (.dT (ks.zip xs)))/\ks.length=ds.length/\af P K H ds xs
 | .fL ds,v=>∃ a o xs,v=.ref a/\H a=some (.frz o (.lst xs))/\af P K H ds xs
noncomputable def af(P:Addr->Prop)(K:PySem.W.Frag)(H:Hp):List RL.D->List V->Prop
 | [],xs=>xs=[]
 | d::r,xs=>∃ x t,xs=x::t/\Rep P K H d x/\af P K H r t
end
mutual
theorem Rep.same{P:Addr->Prop}{K:PySem.W.Frag}{H H':Hp}(e:ax H H'):∀ {d:RL.D} {v:V},Rep P K H d v->Rep P K H' d v
 | .non,v,h=>by simpa[Rep]using h
 | .bl _,v,h=>by simpa[Rep]using h
 | .int _,v,h=>by simpa[Rep]using h
 | .str _,v,h=>by simpa[Rep]using h
 | .tup ds,v,h=>by
  rw[Rep]at h ⊢;obtain⟨a,xs,e1,e2,e3⟩:=h;exact⟨a,xs,e1,e _ _ e2,af.same e e3⟩
 | .lst ds,v,h=>by
  rw[Rep]at h ⊢;obtain⟨a,xs,e1,e0,e2,e3⟩:=h;exact⟨a,xs,e1,e0,e _ _ e2,af.same e e3⟩
 | .dK ks ds,v,h=>by
  rw[Rep]at h ⊢;obtain⟨a,xs,e1,e0,e2,el,e3⟩:=h;exact⟨a,xs,e1,e0,e _ _ e2,el,af.same e e3⟩
 | .dT ks ds,v,h=>by
  rw[Rep]at h ⊢;obtain⟨a,xs,e1,e0,e2,el,e3⟩:=h;exact⟨a,xs,e1,e0,e _ _ e2,el,af.same e e3⟩
 | .scr ds,v,h=>by
  rw[Rep]at h ⊢;obtain⟨a,xs,e1,e2,e3⟩:=h;exact⟨a,xs,e1,i8.same e e2,af.same e e3⟩
 | .exc c,v,h=>by rw[Rep]at h ⊢;exact h.keep fun _ _ _ q=>e _ _ q
 | .obj,v,h=>by rw[Rep]at h ⊢;exact h
 | .fT ks ds,v,h=>by rw[Rep]at h ⊢;obtain⟨a,o,xs,e1,e2,el,e3⟩:=h;exact⟨a,o,xs,e1,e _ _ e2,el,af.same e e3⟩
 | .fL ds,v,h=>by rw[Rep]at h ⊢;obtain⟨a,o,xs,e1,e2,e3⟩:=h;exact⟨a,o,xs,e1,e _ _ e2,af.same e e3⟩
theorem af.same{P:Addr->Prop}{K:PySem.W.Frag}{H H':Hp}(e:ax H H'):∀ {ds:List RL.D} {xs:List V},af P K H ds xs->af P K H' ds xs
 | [],xs,h=>by rw[af]at h ⊢;exact h
 | d::r,xs,h=>by
  rw[af]at h ⊢;obtain⟨x,t,e1,e2,e3⟩:=h;exact⟨x,t,e1,Rep.same e e2,af.same e e3⟩
end
mutual
theorem Rep.weak{P P':Addr->Prop}{K:PySem.W.Frag}{H:Hp}(e:∀ a,P' a->P a):∀ {d:RL.D} {v:V},Rep P K H d v->Rep P' K H d v
 | .non,v,h=>by simpa[Rep]using h
 | .bl _,v,h=>by simpa[Rep]using h
 | .int _,v,h=>by simpa[Rep]using h
 | .str _,v,h=>by simpa[Rep]using h
 | .tup ds,v,h=>by
  rw[Rep]at h ⊢;obtain⟨a,xs,e1,e2,e3⟩:=h;exact⟨a,xs,e1,e2,af.weak e e3⟩
 | .lst ds,v,h=>by
  rw[Rep]at h ⊢;obtain⟨a,xs,e1,e0,e2,e3⟩:=h;exact⟨a,xs,e1,fun z=>e0 (e a z),e2,af.weak e e3⟩
 | .dK ks ds,v,h=>by
  rw[Rep]at h ⊢;obtain⟨a,xs,e1,e0,e2,el,e3⟩:=h;exact⟨a,xs,e1,fun z=>e0 (e a z),e2,el,af.weak e e3⟩
 | .dT ks ds,v,h=>by
  rw[Rep]at h ⊢;obtain⟨a,xs,e1,e0,e2,el,e3⟩:=h;exact⟨a,xs,e1,fun z=>e0 (e a z),e2,el,af.weak e e3⟩
 | .scr ds,v,h=>by
  rw[Rep]at h ⊢;obtain⟨a,xs,e1,e2,e3⟩:=h;exact⟨a,xs,e1,e2,af.weak e e3⟩
 | .exc c,v,h=>by rw[Rep]at h ⊢;exact h
 | .obj,v,h=>by rw[Rep]at h ⊢;exact h
 | .fT ks ds,v,h=>by rw[Rep]at h ⊢;obtain⟨a,o,xs,e1,e2,el,e3⟩:=h;exact⟨a,o,xs,e1,e2,el,af.weak e e3⟩
 | .fL ds,v,h=>by rw[Rep]at h ⊢;obtain⟨a,o,xs,e1,e2,e3⟩:=h;exact⟨a,o,xs,e1,e2,af.weak e e3⟩
theorem af.weak{P P':Addr->Prop}{K:PySem.W.Frag}{H:Hp}(e:∀ a,P' a->P a):∀ {ds:List RL.D} {xs:List V},af P K H ds xs->af P' K H ds xs
 | [],xs,h=>by rw[af]at h ⊢;exact h
 | d::r,xs,h=>by
  rw[af]at h ⊢;obtain⟨x,t,e1,e2,e3⟩:=h;exact⟨x,t,e1,Rep.weak e e2,af.weak e e3⟩
end
def Rep.none{P:Addr->Prop}{K:PySem.W.Frag}(h:Rep P K H d v):Rep nP K H d v:=h.weak fun _ z=>z.elim
mutual
theorem Rep.imm{P P':Addr->Prop}{K:PySem.W.Frag}{H:Hp}:∀ {d:RL.D} {v:V},d.imm=true->Rep P K H d v->Rep P' K H d v
 | .non,v,_,h=>by simpa[Rep]using h
 | .bl _,v,_,h=>by simpa[Rep]using h
 | .int _,v,_,h=>by simpa[Rep]using h
 | .str _,v,_,h=>by simpa[Rep]using h
 | .tup ds,v,i,h=>by
  rw[Rep]at h ⊢;rw[RL.D.imm]at i;obtain⟨a,xs,e1,e2,e3⟩:=h;exact⟨a,xs,e1,e2,af.imm i e3⟩
 | .lst ds,v,i,h=>by rw[RL.D.imm]at i;cases i
 | .dK ks ds,v,i,h=>by rw[RL.D.imm]at i;cases i
 | .dT ks ds,v,i,h=>by rw[RL.D.imm]at i;cases i
 | .scr ds,v,i,h=>by
  rw[Rep]at h ⊢;rw[RL.D.imm]at i;obtain⟨a,xs,e1,e2,e3⟩:=h;exact⟨a,xs,e1,e2,af.imm i e3⟩
 | .exc c,v,i,h=>by rw[Rep]at h ⊢;exact h
 | .obj,v,i,h=>by rw[Rep]at h ⊢;exact h
 | .fT ks ds,v,i,h=>by rw[Rep]at h ⊢;rw[RL.D.imm]at i;obtain⟨a,o,xs,e1,e2,el,e3⟩:=h;exact⟨a,o,xs,e1,e2,el,af.imm i e3⟩
 | .fL ds,v,i,h=>by rw[Rep]at h ⊢;rw[RL.D.imm]at i;obtain⟨a,o,xs,e1,e2,e3⟩:=h;exact⟨a,o,xs,e1,e2,af.imm i e3⟩
theorem af.imm{P P':Addr->Prop}{K:PySem.W.Frag}{H:Hp}:∀ {ds:List RL.D} {xs:List V},RL.az ds=true->af P K H ds xs->af P' K H ds xs
 | [],xs,_,h=>by rw[af]at h ⊢;exact h
 | d::r,xs,i,h=>by
  rw[af]at h ⊢;rw[RL.az,Bool.and_eq_true]at i;obtain⟨x,t,e1,e2,e3⟩:=h;exact⟨x,t,e1,Rep.imm i.1 e2,af.imm i.2 e3⟩
end
abbrev c8(o:HO):Prop:=(∃ xs,o=.lst xs)\/(∃ kvs,o=.dK kvs)\/(∃ kvs,o=.dT kvs)
mutual
theorem Rep.upd{P:Addr->Prop}{K:PySem.W.Frag}{H:Hp}{a:Addr}{o o':HO}(ha:H a=some o)(m:c8 o)(p:P a):∀ {d:RL.D} {v:V},Rep P K H d v->Rep P K (upd H a o') d v
 | .non,v,h=>by simpa[Rep]using h
 | .bl _,v,h=>by simpa[Rep]using h
 | .int _,v,h=>by simpa[Rep]using h
 | .str _,v,h=>by simpa[Rep]using h
 | .tup ds,v,h=>by
  rw[Rep]at h ⊢;obtain⟨b,xs,e1,e2,e3⟩:=h;have n:b≠a:=jd e2 ha (by rcases m with⟨z,rfl⟩ | ⟨z,rfl⟩ | ⟨z,rfl⟩<;>(intro q;cases q));exact⟨b,xs,e1,by rw[L2.aB n];exact e2,af.upd ha m p e3⟩
 | .lst ds,v,h=>by
  rw[Rep]at h ⊢;obtain⟨b,xs,e1,e0,e2,e3⟩:=h;have n:b≠a:=fun z=>e0 (z▸p);exact⟨b,xs,e1,e0,by rw[L2.aB n];exact e2,af.upd ha m p e3⟩
 | .dK ks ds,v,h=>by
  rw[Rep]at h ⊢;obtain⟨b,xs,e1,e0,e2,el,e3⟩:=h;have n:b≠a:=fun z=>e0 (z▸p);exact⟨b,xs,e1,e0,by rw[L2.aB n];exact e2,el,af.upd ha m p e3⟩
 | .dT ks ds,v,h=>by
  rw[Rep]at h ⊢;obtain⟨b,xs,e1,e0,e2,el,e3⟩:=h;have n:b≠a:=fun z=>e0 (z▸p);exact⟨b,xs,e1,e0,by rw[L2.aB n];exact e2,el,af.upd ha m p e3⟩
 | .scr ds,v,h=>by
  rw[Rep]at h ⊢;obtain⟨b,xs,e1,e2,e3⟩:=h;refine⟨b,xs,e1,?_,af.upd ha m p e3⟩;rcases e2 with⟨q,e2⟩ | e2
  ·have n:b≠a:=jd e2 ha (by rcases m with⟨z,rfl⟩ | ⟨z,rfl⟩ | ⟨z,rfl⟩<;>(intro q;cases q));exact .inl ⟨q,by rw[L2.aB n];exact e2⟩
  ·exact .inr e2
 | .obj,v,h=>by rw[Rep]at h ⊢;exact h
 | .exc c,v,h=>by
  rw[Rep]at h ⊢;refine h.keep fun b ob u q=>?_;have n:b≠a:=jd q ha (by rcases m with⟨z,rfl⟩ | ⟨z,rfl⟩ | ⟨z,rfl⟩<;>(intro q;cases q));rw[L2.aB n];exact q
 | .fT ks ds,v,h=>by
  rw[Rep]at h ⊢;obtain⟨b,ob,xs,e1,e2,el,e3⟩:=h;have n:b≠a:=jd e2 ha (by rcases m with⟨z,rfl⟩ | ⟨z,rfl⟩ | ⟨z,rfl⟩<;>(intro q;cases q));exact⟨b,ob,xs,e1,by rw[L2.aB n];exact e2,el,af.upd ha m p e3⟩
 | .fL ds,v,h=>by
  rw[Rep]at h ⊢;obtain⟨b,ob,xs,e1,e2,e3⟩:=h;have n:b≠a:=jd e2 ha (by rcases m with⟨z,rfl⟩ | ⟨z,rfl⟩ | ⟨z,rfl⟩<;>(intro q;cases q));exact⟨b,ob,xs,e1,by rw[L2.aB n];exact e2,af.upd ha m p e3⟩
theorem af.upd{P:Addr->Prop}{K:PySem.W.Frag}{H:Hp}{a:Addr}{o o':HO}(ha:H a=some o)(m:c8 o)(p:P a):∀ {ds:List RL.D} {xs:List V},af P K H ds xs->af P K (upd H a o') ds xs
 | [],xs,h=>by rw[af]at h ⊢;exact h
 | d::r,xs,h=>by
  rw[af]at h ⊢;obtain⟨x,t,e1,e2,e3⟩:=h;exact⟨x,t,e1,Rep.upd ha m p e2,af.upd ha m p e3⟩
end
section lists
variable{K:PySem.W.Frag}
def af.nil:af P K H [] []:=by rw[af]
def af.cons{d:RL.D}{ds:List RL.D}{x:V}{xs:List V}(h:Rep P K H d x)(t:af P K H ds xs):af P K H (d::ds) (x::xs):=by rw[af];exact⟨x,xs,rfl,h,t⟩
def af.length:∀ {ds:List RL.D} {xs:List V},af P K H ds xs->ds.length=xs.length
 | [],xs,h=>by rw[af]at h;rw[h];rfl
 | d::r,xs,h=>by
  obtain⟨x,t,rfl,_,e3⟩:=h;rw[List.length_cons,List.length_cons,af.length e3]
def af.append:∀ {ds es:List RL.D} {xs ys:List V},af P K H ds xs->af P K H es ys->af P K H (ds++es) (xs++ys)
 | [],_,xs,_,h,k=>by rw[af]at h;rw[h];exact k
 | d::r,_,xs,_,h,k=>by
  obtain⟨x,t,rfl,e2,e3⟩:=h;exact af.cons e2 (af.append e3 k)
def af.get:∀ {ds:List RL.D} {xs:List V} {i:Nat} {d:RL.D},af P K H ds xs->ds[i]?=some d->∃ x,xs[i]?=some x/\Rep P K H d x
 | [],_,i,d,_,e=>by simp at e
 | d::r,xs,0,d',h,e=>by
  obtain⟨x,t,rfl,e2,_⟩:=h;simp at e;subst e;exact⟨x,rfl,e2⟩
 | d::r,xs,i+1,d',h,e=>by
  obtain⟨x,t,rfl,_,e3⟩:=h;obtain⟨y,h1,h2⟩:=af.get e3 (by simpa using e);exact⟨y,by simpa using h1,h2⟩
def af.take:∀ {ds:List RL.D} {xs:List V} (n:Nat),af P K H ds xs->af P K H (ds.take n) (xs.take n)
 | _,_,0,_=>by simpa using af.nil
 | [],xs,n+1,h=>by rw[af]at h;rw[h];simpa using af.nil
 | d::r,xs,n+1,h=>by
  obtain⟨x,t,rfl,e2,e3⟩:=h;exact af.cons e2 (af.take n e3)
def af.drop:∀ {ds:List RL.D} {xs:List V} (n:Nat),af P K H ds xs->af P K H (ds.drop n) (xs.drop n)
 | _,_,0,h=>h
 | [],xs,n+1,h=>by rw[af]at h;rw[h];simpa using af.nil
 | d::r,xs,n+1,h=>by
  obtain⟨x,t,rfl,_,e3⟩:=h;exact af.drop n e3
def af.rep(h:af P K H ds xs):∀ n:Nat,af P K H (List.replicate n ds).flatten (List.replicate n xs).flatten
 | 0=>af.nil
 | n+1=>by
  exact af.append h (af.rep h n)
end lists
abbrev RV0(K:PySem.W.Frag)(σD:RL.St)(σ:L2.St)(H:Hp):Prop:=σD.length<=σ.length/\∀ (i:Nat) (d:RL.D),σD[i]?=some (some d)->∃ v,σ[i]?=some (some v)/\Rep nP K H d v
def RV0.same{K:PySem.W.Frag}(h:RV0 K σD σ H)(e:ax H H'):RV0 K σD σ H':=⟨h.1,fun i d q=>by
 obtain⟨v,h1,h2⟩:=h.2 i d q
 exact⟨v,h1,h2.same e⟩⟩
abbrev jz:RL.D->Bool
 | .lst _=>true
 | .dK _ _=>true
 | .dT _ _=>true
 | _=>false
structure Res(K:PySem.W.Frag)(σD:RL.St)(σ:L2.St)(H:Hp)(e:RL.E)(d:RL.D)(v:V)(H':Hp):Prop where
 same:ax H H'
 rep:Rep nP K H' d v
 fresh:RL.aD e=true->jz d=true->∀ a,v=.ref a->H a=none
 av:∀ M,RL.avE M e=true->∀ P:Addr->Prop,(∀ a,P a->H a≠none)->(∀ (j:Nat) (dj:RL.D) (vj:V),M.contains j=false->σD[j]?=some (some dj)->σ[j]?=some (some vj)->Rep P K H dj vj)->Rep P K H' d v
abbrev tE(K:PySem.W.Frag)(cl:RL.Cl)(e:RL.E):TE:=fun σ H Q=>∃ σD d,RV0 K σD σ H/\RL.ev cl σD e=some d/\∀ v H',Res K σD σ H e d v H'->Q v H'
abbrev SE(X:Cx)(cl:RL.Cl)(e:Expr)(e':RL.E):Prop:=PE X e (tE X.K cl e')
def PE.weak(h:PE X e t)(w:∀ σ H Q,t' σ H Q->t σ H Q):PE X e t':=fun pins s σ H Q I q=>h pins s σ H Q I (w σ H Q q)
abbrev tEs(K:PySem.W.Frag)(cl:RL.Cl)(es:RL.Es):TA:=fun σ H Q=>∃ σD ds,RV0 K σD σ H/\RL.evs cl σD es=some ds/\∀ vs H',ax H H'->af nP K H' ds vs->Q vs H'
abbrev SEs(X:Cx)(cl:RL.Cl)(es:List Expr)(es':RL.Es):Prop:=PA X es (tEs X.K cl es')
section rules
variable{X:Cx}
def two{σD:RL.St}{σ:L2.St}{H:Hp}{x y:RL.D}{R:V->V->Hp->Prop}(rv:RV0 X.K σD σ H)(ea:RL.ev cl σD a'=some x)(eb:RL.ev cl σD b'=some y)
 (k:∀ v u H1 H2,ax H H1->ax H1 H2->Rep nP X.K H2 x v->Rep nP X.K H2 y u->Res X.K σD σ H a' x v H1->Res X.K σD σ H1 b' y u H2->R v u H2) :
  tE X.K cl a' σ H fun v H1=>tE X.K cl b' σ H1 fun u H2=>R v u H2 :=
 ⟨σD,x,rv,ea,fun v H1 r1=>⟨σD,y,rv.same r1.same,eb,fun u H2 r2=>k v u H1 H2 r1.same r2.same (r1.rep.same r2.same) r2.rep r1 r2⟩⟩
def bind_some(h:o.bind f=some y):∃ x,o=some x/\f x=some y:=by
 cases o with
 | none=>cases h
 | some x=>exact⟨x,rfl,h⟩
def map_some(h:o.map f=some y):∃ x,o=some x/\f x=y:=by
 cases o with
 | none=>cases h
 | some x=>exact⟨x,rfl,Option.some.inj h⟩
def c7:RL.most<=sizeLine:=by decide
def ax.bY(hn:H p=none):ax H (upd H p o):=fun b u e=>by rw[aB (aG e hn)];exact e
def Af(hN:X.N[i]?=some x)(hv:Vis X.env.scope x)(hd:(x == ("__debug__" : Str))=false)(hcd:(x == ("__classdict__" : Str))=false):SE X cl (.Name x pos) (.var i):=by
 refine PE.weak (jV hN hv hd hcd) fun σ H Q h=>?_;obtain⟨σD,d,rv,e,k⟩:=h
 have e':σD[i]?=some (some d):=by
  obtain⟨o,h1,h2⟩:=bind_some e
  cases o with
  | none=>cases h2
  | some z=>cases h2;exact h1
 obtain⟨v,h1,h2⟩:=rv.2 i d e';refine⟨v,h1,k v H ⟨ax.refl H,h2,fun z=>(by cases z),fun M z P hP av=>?_⟩⟩;rw[RL.EC]at z;exact av i d v (by simpa using z) e' h1
def jH(h:PE X (.Constant k j pos) (tC v))(r:∀ P H,Rep P X.K H d v)(hm:jz d=false):SE X cl (.Constant k j pos) (.cst d):=by
 refine PE.weak h fun σ H Q q=>?_;obtain⟨σD,d',rv,e,k⟩:=q;cases e;exact k v H ⟨ax.refl H,r _ _,fun z=>(by cases z),fun M z=>nomatch (show false=true from z)⟩
def AQ{x:Str}{i:Int}{u:Value}(h:PE X (.Name x pos) (tC (.int i))):SE X cl (.Name x pos) (.glb x i):=by
 refine PE.weak h fun σ H Q q=>?_;obtain⟨σD,d',rv,e,k⟩:=q;cases e;exact k _ H ⟨ax.refl H,(by rw[Rep]),fun z=>(by cases z),fun M z=>nomatch (show false=true from z)⟩
end rules
section rules
variable{X:Cx}
def cu(sm:ax H H')(r:Rep nP X.K H' d v)(im:d.imm=true):Res X.K σD σ H e d v H' where
 same:=sm
 rep:=r
 fresh:=fun _ m=>by
  cases d with
  | lst _=>cases im
  | dK _ _=>cases im
  | dT _ _=>cases im
  | _=>cases m
 av:=fun M _ P _ _=>r.imm im
def uR:OpR X (binaryOp .FloorDiv) (rI (fun _ j=>0<j/\j<2 ^ 200) fun i j=>.int (i / j)):=opI fun i j _ _ _ _ _ hc q=>by
 refine floordiv_int (by lia) ?_ (.inl (PyProof.noPylong_of_log2 ?_))
 ·rw[Int.fdiv_eq_ediv_of_nonneg _ (by lia)];exact q
 ·have h0:j.natAbs≠0:=by lia
  have h1:j.natAbs<2 ^ 200:=by
   omega
  have h2:j.natAbs.log2<200:=(Nat.log2_lt h0).mpr h1;lia
def eD(sm:ax H H1)(hn:H1 p=none)(r:af nP X.K H1 ds xs)(hav:∀ M,RL.avE M e=false):Res X.K σD σ H e (.lst ds) (.ref p) (upd H1 p (.lst xs)) where
 same:=sm.trans (ax.bY hn)
 rep:=by
  exact⟨p,xs,rfl,fun z=>z,aR,r.same (ax.bY hn)⟩
 fresh:=fun _ _ a z=>by
  cases z;exact sm.free hn
 av:=fun M z=>by rw[hav M]at z;cases z
def eu(sm:ax H H1)(hn:H1 p=none)(r:af nP X.K H1 ds xs)(hav:∀ M,RL.avE M e=false):Res X.K σD σ H e (.tup ds) (.ref p) (upd H1 p (.tup xs)) where
 same:=sm.trans (ax.bY hn)
 rep:=by
  exact⟨p,xs,rfl,aR,r.same (ax.bY hn)⟩
 fresh:=fun _ m=>by cases m
 av:=fun M z=>by rw[hav M]at z;cases z
abbrev nJ:RL.Bop->Operator
 | .add=>.Add
 | .sub=>.Sub
 | .mul=>.Mult
 | .fdiv=>.FloorDiv
 | .mod=>.Mod
 | .pow=>.Pow
def aO{P:Addr->Prop}{K:PySem.W.Frag}:Rep P K H (.int i) (.int i):=by rw[Rep]
def nH{P:Addr->Prop}{K:PySem.W.Frag}:Rep P K H (.bl i) (.bl i):=by rw[Rep]
def eZ{P:Addr->Prop}{K:PySem.W.Frag}:Rep P K H (.str i) (.str i):=by rw[Rep]
def ah{P:Addr->Prop}{K:PySem.W.Frag}(h:Rep P K H (.int i) v):v=.int i:=by rw[Rep]at h;exact h
def aT{P:Addr->Prop}{K:PySem.W.Frag}(h:Rep P K H (.bl i) v):v=.bl i:=by rw[Rep]at h;exact h
def aN{P:Addr->Prop}{K:PySem.W.Frag}(h:Rep P K H (.str i) v):v=.str i:=by rw[Rep]at h;exact h
abbrev kv(X:Cx)(o:RL.Bop)(r:R2):Prop :=
 ∀ (σD:RL.St) (σ:L2.St) (H H2:Hp) (e:RL.E) (x y d:RL.D) (v u:V) (Q:VK),ax H H2->Rep nP X.K H2 x v->Rep nP X.K H2 y u->RL.aQ o x y=some d->(∀ M,RL.avE M e=false) ->
  (∀ w H',Res X.K σD σ H e d w H'->Q w H')->r v u H2 Q
def fh(ho:OpR X (binaryOp (nJ o)) r)(ok:kv X o r)(ha:SE X cl a a')(hb:SE X cl b b'):SE X cl (.BinOp a (nJ o) b pos) (.bin o a' b'):=by
 refine PE.weak (Di ho ha hb) fun σ H Q h=>?_;obtain⟨σD,d,rv,e,k⟩:=h;obtain⟨x,ea,e⟩:=bind_some e;obtain⟨y,eb,e⟩:=bind_some e;refine two rv ea eb fun v u H1 H2 s1 s2 rx ry _ _=>?_;exact ok σD σ H H2 _ x y d v u Q (s1.trans s2) rx ry e (fun _=>rfl) k
end rules
section rules
variable{X:Cx}{cl:RL.Cl}{a b c:Expr}{a' b' c':RL.E}{pos:Pos}
def cb{α:Type}{c:Prop} [Decidable c]{a d:α}(h:(if c then some a else none)=some d):c/\d=a:=by
 by_cases hc:c
 ·rw[if_pos hc]at h;exact⟨hc,(Option.some.inj h).symm⟩
 ·rw[if_neg hc]at h;cases h
def noN{α:Type}{o:Option α}{d:α}{p:Prop}(e:o=none)(h:o=some d):p:=by rw[e]at h;cases h
def wd{x y d:RL.D}(h:RL.aQ .add x y=some d):(∃ i j,x=.int i/\y=.int j/\d=.int (i+j))\/(∃ i j:Str,x=.str i/\y=.str j/\i.length+j.length<=RL.most/\d=.str (i++j)) \/
  (∃ i j,x=.lst i/\y=.lst j/\i.length+j.length<=RL.most/\d=.lst (i++j)) \/
  (∃ i j,x=.tup i/\y=.tup j/\(i.length+j.length<=RL.most/\0<i.length)/\d=.tup (i++j))\/∃ j,x=.tup []/\y=.tup j/\d=.tup j:=by
 cases x with
 | int i=>cases y with
  | int j=>cases h;exact .inl ⟨i,j,rfl,rfl,rfl⟩
  | _=>exact noN rfl h
 | str i=>cases y with
  |str j=>
   obtain⟨hc,e⟩:=cb h;exact .inr (.inl ⟨i,j,rfl,rfl,hc,e⟩)
  | _=>exact noN rfl h
 | lst i=>cases y with
  |lst j=>
   obtain⟨hc,e⟩:=cb h;exact .inr (.inr (.inl ⟨i,j,rfl,rfl,hc,e⟩))
  | _=>exact noN rfl h
 | tup i=>cases y with
  |tup j=>
   have h:(if i.length+j.length<=RL.most/\0<i.length then some (RL.D.tup (i++j))else if i.length=0 then some (.tup j)else none)=some d:=h;by_cases hc:i.length+j.length<=RL.most/\0<i.length
   ·rw[if_pos hc]at h;cases h;exact .inr (.inr (.inr (.inl ⟨i,j,rfl,rfl,hc,rfl⟩)))
   ·rw[if_neg hc]at h;obtain⟨h0,e⟩:=cb h;exact .inr (.inr (.inr (.inr ⟨j,by rw[List.length_eq_zero_iff.mp h0],rfl,e⟩)))
  | _=>exact noN rfl h
 | _=>exact noN rfl h
def vz{x y d:RL.D}(h:RL.aQ .mul x y=some d):(∃ i j,x=.int i/\y=.int j/\rk i j/\d=.int (i*j)) \/
  (∃ i j,x=.lst i/\y=.int j/\(0<=j/\j<=RL.most/\i.length*j.toNat<=RL.most)/\d=.lst (List.replicate j.toNat i).flatten):=by
 cases x with
 | int i=>cases y with
  |int j=>
   obtain⟨hc,e⟩:=cb h;exact .inl ⟨i,j,rfl,rfl,hc,e⟩
  | _=>exact noN rfl h
 | lst i=>cases y with
  |int j=>
   obtain⟨hc,e⟩:=cb h;exact .inr ⟨i,j,rfl,rfl,hc,e⟩
  | _=>exact noN rfl h
 | _=>exact noN rfl h
def gb{o:RL.Bop}{x y d:RL.D}(h:RL.aQ o x y=some d)(ho:o≠.add)(hm:o≠.mul):∃ i j,x=.int i/\y=.int j/\RL.aQ o (.int i) (.int j)=some d:=by
 have no:∀ {a b:RL.D},RL.aQ .sub a b=none->RL.aQ .fdiv a b=none->RL.aQ .mod a b=none->RL.aQ .pow a b=none->RL.aQ o a b=some d->False:=fun e1 e2 e3 e4 h=>by
  cases o with
  | add=>exact ho rfl
  | mul=>exact hm rfl
  | sub=>rw[e1]at h;cases h
  | fdiv=>rw[e2]at h;cases h
  | mod=>rw[e3]at h;cases h
  | pow=>rw[e4]at h;cases h
 cases x with
 | int i=>cases y with
  | int j=>exact⟨i,j,rfl,rfl,h⟩
  | _=>exact(no rfl rfl rfl rfl h).elim
 | _=>exact(no rfl rfl rfl rfl h).elim
def uJ{x y d:RL.D}(h:RL.aQ .sub x y=some d):∃ i j,x=.int i/\y=.int j/\d=.int (i-j):=by
 obtain⟨i,j,e1,e2,h⟩:=gb h (by decide) (by decide);cases h;exact⟨i,j,e1,e2,rfl⟩
def um{x y d:RL.D}(h:RL.aQ .fdiv x y=some d):∃ i j,x=.int i/\y=.int j/\(0<j/\j<2 ^ 200)/\d=.int (i / j):=by
 obtain⟨i,j,e1,e2,h⟩:=gb h (by decide) (by decide);obtain⟨hc,e⟩:=cb h;exact⟨i,j,e1,e2,hc,e⟩
def vK{x y d:RL.D}(h:RL.aQ .mod x y=some d):∃ i j,x=.int i/\y=.int j/\0<j/\d=.int (i%j):=by
 obtain⟨i,j,e1,e2,h⟩:=gb h (by decide) (by decide);obtain⟨hc,e⟩:=cb h;exact⟨i,j,e1,e2,hc,e⟩
def vL{x y d:RL.D}(h:RL.aQ .pow x y=some d):∃ i j,x=.int i/\y=.int j/\(0<=j/\j<=1000/\i.natAbs<2 ^ 64)/\d=.int (i ^ j.toNat):=by
 obtain⟨i,j,e1,e2,h⟩:=gb h (by decide) (by decide);obtain⟨hc,e⟩:=cb h;exact⟨i,j,e1,e2,hc,e⟩
def aP{P:Addr->Prop}{K:PySem.W.Frag}{H:Hp}{ds:List RL.D}{v:V}(h:Rep P K H (.lst ds) v):∃ a xs,v=.ref a/\¬ P a/\H a=some (.lst xs)/\af P K H ds xs:=by rw[Rep]at h;exact h
def aX{P:Addr->Prop}{K:PySem.W.Frag}{H:Hp}{ds:List RL.D}{v:V}(h:Rep P K H (.tup ds) v):∃ a xs,v=.ref a/\H a=some (.tup xs)/\af P K H ds xs:=by rw[Rep]at h;exact h
def An:kv X .sub (rI0 fun i j=>.int (i-j)):=by
 intro σD σ H H2 e x y d v u Q sm rx ry h hav k;obtain⟨i,j,rfl,rfl,rfl⟩:=uJ h;exact⟨i,j,ah rx,ah ry,k _ _ (cu sm aO rfl)⟩
def xO:kv X .fdiv (rI (fun _ j=>0<j/\j<2 ^ 200) fun i j=>.int (i / j)):=by
 intro σD σ H H2 e x y d v u Q sm rx ry h hav k;obtain⟨i,j,rfl,rfl,hc,rfl⟩:=um h;exact⟨i,j,ah rx,ah ry,hc,k _ _ (cu sm aO rfl)⟩
def Bp:kv X .mod (rI (fun _ j=>0<j) fun i j=>.int (i%j)):=by
 intro σD σ H H2 e x y d v u Q sm rx ry h hav k;obtain⟨i,j,rfl,rfl,hc,rfl⟩:=vK h;exact⟨i,j,ah rx,ah ry,hc,k _ _ (cu sm aO rfl)⟩
def A7:kv X .pow (rI ze fun i j=>.int (i ^ j.toNat)):=by
 intro σD σ H H2 e x y d v u Q sm rx ry h hav k;obtain⟨i,j,rfl,rfl,hc,rfl⟩:=vL h;exact⟨i,j,ah rx,ah ry,⟨hc.1,Int.le_trans hc.2.1 (by decide),hc.2.2⟩,k _ _ (cu sm aO rfl)⟩
abbrev Ay(K:PySem.W.Frag):R2:=fun x y H Q=>∃ a b ys,x=.ref a/\y=.ref b/\SqT K H a []/\SqT K H b ys/\Q (.ref b) H
def wB:OpR X (binaryOp .Add) (Ay X.K):=by
 intro pins s σ H x y v u Q I rx ry h;obtain⟨a,b,ys,rfl,rfl,ha,hb,q⟩:=h;cases rx;cases ry;obtain⟨its,r1,p1,_⟩:=I.tuple ha;obtain⟨its2,r2,p2,_⟩:=I.tuple hb;cases r1;obtain⟨⟨cls,dd,data,sl⟩,ho,hc,n,hd⟩:=id p1;obtain⟨⟨cls2,dd2,data2,sl2⟩,ho2,hc2,n2,hd2⟩:=id p2;simp only at hc hd hc2 hd2;subst hc hd hc2 hd2
 exact concat_meets ⟨_,ho,rfl⟩ ⟨_,ho2,rfl⟩ noFill_tuple_add seq_tuple_add PySem.F.slot_tuple_add PySem.F.entry_tuple_add (PySem.F.args_tuple_add_2 _ _)
  (tuple_addW0 a b _ its2.toArray n n2 dd dd2 sl sl2 rfl) ⟨ho,ho2,.ref b,H,I,rfl,q⟩
def Ck(ha:SE X cl a a')(hb:SE X cl b b'):SE X cl (.BinOp a .Add b pos) (.bin .add a' b'):=by
 refine fh (zT.or (qW.or (AU.or (yf.or wB)))) ?_ ha hb;intro σD σ H H2 e x y d v u Q sm rx ry h hav k
 rcases wd h with⟨i,j,rfl,rfl,rfl⟩ | ⟨i,j,rfl,rfl,hc,rfl⟩ | ⟨i,j,rfl,rfl,hc,rfl⟩ | ⟨i,j,rfl,rfl,⟨hc,ha⟩,rfl⟩ | ⟨j,rfl,rfl,rfl⟩
 ·exact .inl ⟨i,j,ah rx,ah ry,k _ _ (cu sm aO rfl)⟩
 ·exact .inr (.inl ⟨i,j,aN rx,aN ry,Nat.le_trans hc c7,k _ _ (cu sm eZ rfl)⟩)
 ·obtain⟨p,xs,e1,_,e2,e3⟩:=aP rx;obtain⟨q,ys,f1,_,f2,f3⟩:=aP ry;refine .inr (.inr (.inl ⟨p,q,xs,ys,e1,f1,e2,f2,?_,fun l hl=>k _ _ (eD sm hl (e3.append f3) hav)⟩));rw[<-e3.length,<-f3.length];exact Nat.le_trans hc c7
 ·obtain⟨p,xs,e1,e2,e3⟩:=aX rx;obtain⟨q,ys,f1,f2,f3⟩:=aX ry;refine .inr (.inr (.inr (.inl ⟨p,q,xs,ys,e1,f1,SqT.of e2,SqT.of f2,fun z=>?_,?_,fun z=>?_,fun _ l hl=>k _ _ (eu sm hl (e3.append f3) hav)⟩)))
  ·rw[e3.length,z]at ha;exact absurd ha (by decide)
  ·rw[<-e3.length,<-f3.length];exact Nat.le_trans hc c7
  ·have hj:j=[]:=by
    have:=f3.length;rw[z]at this;exact List.length_eq_zero_iff.mp this
   subst hj;rw[List.append_nil]at k;exact k _ _ ⟨sm,e1▸rx,fun _ m=>(by cases m),fun M z=>by rw[hav M]at z;cases z⟩
 ·obtain⟨p,xs,e1,e2,e3⟩:=aX rx;obtain⟨q,ys,f1,f2,f3⟩:=aX ry;rw[af]at e3;subst e3;exact .inr (.inr (.inr (.inr ⟨p,q,ys,e1,f1,SqT.of e2,SqT.of f2,k _ _ ⟨sm,f1▸ry,fun _ m=>(by cases m),fun M z=>by rw[hav M]at z;cases z⟩⟩)))
def Bd(ha:SE X cl a a')(hb:SE X cl b b'):SE X cl (.BinOp a .Mult b pos) (.bin .mul a' b'):=by
 refine fh (zS.or zH) ?_ ha hb;intro σD σ H H2 e x y d v u Q sm rx ry h hav k
 rcases vz h with⟨i,j,rfl,rfl,hc,rfl⟩ | ⟨i,j,rfl,rfl,hc,rfl⟩
 ·exact .inl ⟨i,j,ah rx,ah ry,hc,k _ _ (cu sm aO rfl)⟩
 ·obtain⟨p,xs,e1,_,e2,e3⟩:=aP rx;refine .inr ⟨p,j,xs,e1,ah ry,e2,?_,?_,?_,fun l hl=>k _ _ (eD sm hl (e3.rep _) hav)⟩
  ·exact Int.le_trans (by decide) hc.1
  ·exact Int.lt_of_le_of_lt hc.2.1 (by decide)
  ·rw[<-e3.length];exact Nat.le_trans hc.2.2 c7
def zL{o:RL.Bop}(ha:SE X cl a a')(hb:SE X cl b b'):SE X cl (.BinOp a (nJ o) b pos) (.bin o a' b'):=by
 cases o with
 | add=>exact Ck ha hb
 | mul=>exact Bd ha hb
 | sub=>exact fh B1 An ha hb
 | fdiv=>exact fh uR xO ha hb
 | mod=>exact fh Bb Bp ha hb
 | pow=>exact fh AW A7 ha hb
def dM{σD:RL.St}{σ:L2.St}{H H':Hp}{e:RL.E}{k:Bool}(sm:ax H H'):Res X.K σD σ H e (.bl k) (.bl k) H':=cu sm nH rfl
def AR{rest:List Expr}(ha:SE X cl a a')(hb:SE X cl (.BoolOp .And (b::rest) pos) b'):SE X cl (.BoolOp .And (a::b::rest) pos) (.and a' b'):=by
 refine PE.weak (BO ha hb) fun σ H Q h=>?_;obtain⟨σD,d,rv,e,k⟩:=h;obtain⟨x,ea,e⟩:=bind_some e;refine⟨σD,x,rv,ea,fun v H1 r1=>?_⟩
 cases x with
 |bl t=>
  refine⟨t,aT r1.rep,?_⟩
  cases t with
  |true=>
   refine dU ?_;refine⟨σD,d,rv.same r1.same,e,fun w H2 r2=>k w H2 ?_⟩;exact⟨r1.same.trans r2.same,r2.rep,fun z=>(by cases z),fun M z=>nomatch (show false=true from z)⟩
  |false=>
   refine eC ?_;cases e;exact k _ _ (dM r1.same)
 | _=>cases e
def CD{rest:List Expr}(ha:SE X cl a a')(hb:SE X cl (.BoolOp .Or (b::rest) pos) b'):SE X cl (.BoolOp .Or (a::b::rest) pos) (.or a' b'):=by
 refine PE.weak (DC ha hb) fun σ H Q h=>?_;obtain⟨σD,d,rv,e,k⟩:=h;obtain⟨x,ea,e⟩:=bind_some e;refine⟨σD,x,rv,ea,fun v H1 r1=>?_⟩
 cases x with
 |bl t=>
  refine⟨t,aT r1.rep,?_⟩
  cases t with
  |false=>
   refine eC ?_;refine⟨σD,d,rv.same r1.same,e,fun w H2 r2=>k w H2 ?_⟩;exact⟨r1.same.trans r2.same,r2.rep,fun z=>(by cases z),fun M z=>nomatch (show false=true from z)⟩
  |true=>
   refine dU ?_;cases e;exact k _ _ (dM r1.same)
 | _=>cases e
def rW{op}(ha:SE X cl a a'):SE X cl (.BoolOp op [a] pos) a':=BP ha
abbrev tT(K:PySem.W.Frag)(cl:RL.Cl)(e:RL.E):TT:=fun σ H Q=>∃ σD k,RV0 K σD σ H/\(RL.ev cl σD e).bind RL.truth=some k/\∀ H',ax H H'->Q k H'
abbrev ST(X:Cx)(cl:RL.Cl)(e:Expr)(e':RL.E):Prop:=PT X e (tT X.K cl e')
abbrev SW(X:Cx)(cl:RL.Cl)(e:Expr)(e':RL.E):Prop:=PW X e (tT X.K cl e')
def PT.weak{e:Expr}{t t':TT}(h:PT X e t)(w:∀ σ H Q,t' σ H Q->t σ H Q):PT X e t':=fun pins s σ H Q I q=>h pins s σ H Q I (w σ H Q q)
def PW.weak{e:Expr}{t t':TT}(h:PW X e t)(w:∀ σ H Q,t' σ H Q->t σ H Q):PW X e t':=fun wh pins s σ H Q I q=>h wh pins s σ H Q I (w σ H Q q)
def af.isEmpty{P:Addr->Prop}{K:PySem.W.Frag}{H:Hp}{ds:List RL.D}{xs:List V}(h:af P K H ds xs):ds.isEmpty=xs.isEmpty:=by
 cases ds with
 | nil=>rw[af]at h;rw[h];rfl
 |cons d r=>
  obtain⟨x,t,rfl,_⟩:=h;rfl
def AZ{K:PySem.W.Frag}{H:Hp}{d:RL.D}{v:V}{k:Bool}(r:Rep nP K H d v)(h:RL.truth d=some k):rq K v H k:=by
 cases d<;>simp only[RL.truth]at h<;>first | (cases h;done) | skip
 case bl t=>cases h;rw[aT r];exact rfl
 case int t =>
  cases h;rw[ah r];simp[rq]
 case tup ds =>
  obtain⟨a,xs,rfl,e,rs⟩:=aX r;cases h;exact .inr (.inl ⟨xs,SqT.of e,by rw[rs.isEmpty]⟩)
 case lst ds =>
  obtain⟨a,xs,rfl,_,e,rs⟩:=aP r;cases h;exact .inl ⟨xs,SqL.of e,by rw[rs.isEmpty]⟩
def vZ(ha:SE X cl a a')(he:∀ whole,isTrue a X.env whole=(do let v <- whole;standAt a.pos;holding [v] (truthy v))):ST X cl a a':=by
 refine PT.weak (wz ha he) fun σ H Q h=>?_;obtain⟨σD,k,rv,e,q⟩:=h;obtain⟨d,e1,e2⟩:=bind_some e;exact⟨σD,d,rv,e1,fun v H1 r1=>⟨k,AZ r1.rep e2,q H1 r1.same⟩⟩
def sJ{op:BoolOp}(ha:ST X cl a a'):SW X cl (.BoolOp op [a] pos) a':=by
 cases op with
 | And=>exact yF ha
 | Or=>exact Cp ha
def uD{σD:RL.St}{k:Bool}(h:(RL.ev cl σD (.and a' b')).bind RL.truth=some k):∃ t,(RL.ev cl σD a').bind RL.truth=some t/\(if t=true then(RL.ev cl σD b').bind RL.truth=some k else k=false):=by
 rw[RL.mi]at h
 cases ea:RL.ev cl σD a' with
 | none=>rw[ea]at h;cases h
 |some x=>
  rw[ea]at h
  cases x with
  |bl t=>
   cases t with
   | true=>exact⟨true,rfl,dU h⟩
   | false=>exact⟨false,rfl,eC (by cases h;rfl)⟩
  | _=>exact noN rfl h
def uM{σD:RL.St}{k:Bool}(h:(RL.ev cl σD (.or a' b')).bind RL.truth=some k):∃ t,(RL.ev cl σD a').bind RL.truth=some t/\(if t=true then k=true else(RL.ev cl σD b').bind RL.truth=some k):=by
 rw[RL.vS]at h
 cases ea:RL.ev cl σD a' with
 | none=>rw[ea]at h;cases h
 |some x=>
  rw[ea]at h
  cases x with
  |bl t=>
   cases t with
   | true=>exact⟨true,rfl,dU (by cases h;rfl)⟩
   | false=>exact⟨false,rfl,eC h⟩
  | _=>exact noN rfl h
def Bg{rest:List Expr}(ha:ST X cl a a')(hb:SW X cl (.BoolOp .And (b::rest) pos) b'):SW X cl (.BoolOp .And (a::b::rest) pos) (.and a' b'):=by
 refine PW.weak (AY ha hb) fun σ H Q h=>?_;obtain⟨σD,k,rv,e,q⟩:=h;obtain⟨t,e1,e2⟩:=uD e;refine⟨σD,t,rv,e1,fun H1 s1=>?_⟩
 cases t with
 | true=>exact dU ⟨σD,k,rv.same s1,e2,fun H2 s2=>q H2 (s1.trans s2)⟩
 |false=>
  have e2:=e2;subst e2;exact eC (q H1 s1)
def CN{rest:List Expr}(ha:ST X cl a a')(hb:SW X cl (.BoolOp .Or (b::rest) pos) b'):SW X cl (.BoolOp .Or (a::b::rest) pos) (.or a' b'):=by
 refine PW.weak (CL ha hb) fun σ H Q h=>?_;obtain⟨σD,k,rv,e,q⟩:=h;obtain⟨t,e1,e2⟩:=uM e;refine⟨σD,t,rv,e1,fun H1 s1=>?_⟩
 cases t with
 |true=>
  have e2:=e2;subst e2;exact dU (q H1 s1)
 | false=>exact eC ⟨σD,k,rv.same s1,e2,fun H2 s2=>q H2 (s1.trans s2)⟩
def zY(ha:ST X cl a a'):ST X cl (.UnaryOp .Not a pos) (.not a'):=by
 refine PT.weak (zI ha) fun σ H Q h=>?_;obtain⟨σD,k,rv,e,q⟩:=h;obtain⟨d,e1,e2⟩:=bind_some e;obtain⟨t,e3,e4⟩:=map_some e1;subst e4;cases e2;exact⟨σD,t,rv,e3,fun H1 s1=>q H1 s1⟩
def A6(hc:ST X cl c c')(ha:SE X cl a a')(hb:SE X cl b b'):SE X cl (.IfExp c a b pos) (.ifx c' a' b'):=by
 refine PE.weak (vV hc ha hb) fun σ H Q h=>?_;obtain⟨σD,d,rv,e,q⟩:=h;obtain⟨t,e1,e2⟩:=bind_some e;refine⟨σD,t,rv,e1,fun H1 s1=>?_⟩
 cases t with
 |true=>
  refine dU ⟨σD,d,rv.same s1,e2,fun v H2 r2=>q v H2 ⟨s1.trans r2.same,r2.rep,fun z=>(by cases z),fun M z P hP av=>?_⟩⟩;have z:(RL.avE M a'&&RL.avE M b')=true:=z;rw[Bool.and_eq_true]at z;exact r2.av M z.1 P (fun a p=>(Option.ne_none_iff_exists'.mpr (by obtain⟨o,ho⟩:=Option.ne_none_iff_exists'.mp (hP a p);exact⟨o,s1 _ _ ho⟩))) fun j dj vj h1 h2 h3=>(av j dj vj h1 h2 h3).same s1
 |false=>
  refine eC ⟨σD,d,rv.same s1,e2,fun v H2 r2=>q v H2 ⟨s1.trans r2.same,r2.rep,fun z=>(by cases z),fun M z P hP av=>?_⟩⟩;have z:(RL.avE M a'&&RL.avE M b')=true:=z;rw[Bool.and_eq_true]at z;exact r2.av M z.2 P (fun a p=>(Option.ne_none_iff_exists'.mpr (by obtain⟨o,ho⟩:=Option.ne_none_iff_exists'.mp (hP a p);exact⟨o,s1 _ _ ho⟩))) fun j dj vj h1 h2 h3=>(av j dj vj h1 h2 h3).same s1
end rules
section rules
variable{X:Cx}
def zV(ha:SE X cl a a'):SE X cl (.UnaryOp .Not a pos) (.not a'):=by
 intro pins s σ H Q I h;obtain⟨σD,d,rv,e,k⟩:=h;obtain⟨t,e1,e2⟩:=map_some e;obtain⟨x,e3,e4⟩:=bind_some e1;subst e2;refine UnaryOp_ (thn (ha pins s σ H (fun v H1=>ax H H1/\Rep nP X.K H1 x v) I ⟨σD,x,rv,e3,fun v H1 r1=>⟨r1.same,r1.rep⟩⟩) fun v s1 ⟨y,H1,I1,r1,sm,rp⟩=>?_);refine not_of (thn (sL pins s1 σ H1 y v (fun k H2=>k=t/\H2=H1) I1 r1 ⟨t,AZ rp e4,rfl,rfl⟩) fun k2 s2 ⟨H2,I2,q1,q2⟩=>?_);subst q1;subst q2;exact⟨.bl (!k2),H2,I2,rfl,k _ _ (dM sm)⟩
abbrev noStar:Expr->Bool
 | .Starred _ _=>false
 | _=>true
def au(es:List Expr)(h:noStar e=true):starEach (e::es) X.env=(false,eval e X.env)::starEach es X.env:=by
 cases e<;>first | rfl | (cases h)
def cB:∀ {es:List Expr} {pos:Pos},es.all noStar=true->(backTo pos (starEach es X.env)).any (·.1)=false
 | [],_,_=>rfl
 | e::es,pos,h=>by
  rw[List.all_cons,Bool.and_eq_true]at h;rw[au es h.1];show(false || (backTo pos (starEach es X.env)).any (·.1))=false;rw[cB h.2];rfl
def cG:SEs X cl [] .nil:=by
 intro pos pins s σ H Q I h;obtain⟨σD,ds,rv,e,k⟩:=h;cases e;exact cK pos pins s σ H Q I (k [] H (ax.refl H) af.nil)
def bx(he:SE X cl e e')(hr:SEs X cl es es')(hn:noStar e=true):SEs X cl (e::es) (.cons e' es'):=by
 intro pos pins s σ H Q I h;refine bb he hr (au es hn) pos pins s σ H Q I ?_;obtain⟨σD,ds,rv,e,k⟩:=h;obtain⟨d,e1,e2⟩:=bind_some e;obtain⟨r,e3,e4⟩:=map_some e2;subst e4;refine⟨σD,d,rv,e1,fun v H1 r1=>⟨σD,r,rv.same r1.same,e3,fun vs H2 s2 r2=>k (v::vs) H2 (r1.same.trans s2) (af.cons (r1.rep.same s2) r2)⟩⟩
abbrev dD:RL.Es->Nat
 | .nil=>0
 | .cons _ r=>dD r+1
def ju:∀ {es:RL.Es} {ds:List RL.D},RL.evs cl σD es=some ds->ds.length=dD es
 | .nil,ds,h=>by rw[RL.evs]at h;cases h;rfl
 | .cons e r,ds,h=>by
  obtain⟨d,e1,e2⟩:=bind_some h;obtain⟨t,e3,e4⟩:=map_some e2;subst e4;rw[List.length_cons,ju e3,dD]
def B8(h:SEs X cl es es')(hl:dD es'<=1000):SE X cl (.Tuple es x1 pos) (.tup es'):=by
 refine PE.weak (AA h) fun σ H Q q=>?_;obtain⟨σD,d,rv,e,k⟩:=q;obtain⟨ds,e1,e2⟩:=map_some e;subst e2;refine⟨σD,ds,rv,e1,fun vs H1 s1 r1=>⟨?_,fun p hp=>k _ _ (eu s1 hp r1 fun _=>rfl)⟩⟩;rw[<-r1.length,ju e1];exact Nat.le_of_lt (lP hl)
def zt(h:SEs X cl es es')(hl:dD es'<=1000):SE X cl (.List es pos) (.lst es'):=by
 refine PE.weak (zJ h) fun σ H Q q=>?_;obtain⟨σD,d,rv,e,k⟩:=q;obtain⟨ds,e1,e2⟩:=map_some e;subst e2;refine⟨σD,ds,rv,e1,fun vs H1 s1 r1=>⟨?_,fun p hp=>k _ _ (eD s1 hp r1 fun _=>rfl)⟩⟩;rw[<-r1.length,ju e1];exact Nat.le_of_lt (lP hl)
def jg(h:RL.bR xs i=some x):atI xs i=some x:=by
 unfold RL.bR at h;unfold atI ixN;by_cases h0:0<=i
 ·rw[if_pos h0]at h;rw[if_pos h0];obtain⟨h1,_⟩:=List.getElem?_eq_some_iff.mp h;rw[if_pos (by lia)];exact h
 ·rw[if_neg h0]at h;rw[if_neg h0];by_cases h1:-(xs.length:Int)<=i
  ·rw[if_pos h1]at h;rw[if_pos h1];exact h
  ·rw[if_neg h1]at h;cases h
def eF{P:Addr->Prop}{K:PySem.W.Frag}(r:af P K H ds xs)(h:RL.bR ds i=some d):∃ x,RL.bR xs i=some x/\Rep P K H d x:=by
 unfold RL.bR at h ⊢;rw[<-r.length];by_cases h0:0<=i
 ·rw[if_pos h0]at h ⊢;exact r.get h
 ·rw[if_neg h0]at h ⊢;by_cases h1:-(ds.length:Int)<=i
  ·rw[if_pos h1]at h ⊢;exact r.get h
  ·rw[if_neg h1]at h;cases h
abbrev vE:Expr->Bool
 | .Slice _ _ _ _=>false
 | _=>true
def pH(h:vE b=true):qz b:=by
 intro o i
 cases b<;>first | rfl | (cases h)
def vh{xs:List RL.D}{i:Int}(im:RL.az xs=true)(h:RL.bR xs i=some d):d.imm=true:=by
 have mem:d∈xs:=by
  unfold RL.bR at h;split at h
  ·exact List.mem_of_getElem? h
  ·split at h
   ·exact List.mem_of_getElem? h
   ·cases h
 clear h
 induction xs with
 | nil=>cases mem
 |cons a r ih=>
  rw[RL.az,Bool.and_eq_true]at im;rcases List.mem_cons.mp mem with rfl | m
  ·exact im.1
  ·exact ih im.2 m
def tq(h:RL.ixV x y=some d):(∃ xs i,x=.lst xs/\y=.int i/\RL.bR xs i=some d)\/(∃ xs i,x=.tup xs/\y=.int i/\RL.bR xs i=some d) \/
  (∃ (z:Str) (i:Int) (c:Nat),x=.str z/\y=.int i/\z.length<=RL.most/\RL.bR z.cps.toList i=some c/\d=.str ⟨#[c]⟩)\/(∃ xs i,x=.fL xs/\y=.int i/\RL.az xs=true/\RL.bR xs i=some d):=by
 have no:∀ {o:Option RL.D},o=none->o=some d->False:=fun e h=>by rw[e]at h;cases h
 cases x with
 | lst xs=>cases y with
  | int i=>exact .inl ⟨xs,i,rfl,rfl,h⟩
  | _=>exact(no rfl h).elim
 | tup xs=>cases y with
  | int i=>exact .inr (.inl ⟨xs,i,rfl,rfl,h⟩)
  | _=>exact(no rfl h).elim
 | str z=>cases y with
  |int i=>
   by_cases hc:z.length<=RL.most
   ·obtain⟨c,e1,e2⟩:=map_some (show(RL.bR z.cps.toList i).map (fun c=>RL.D.str ⟨#[c]⟩)=some d from(if_pos hc).symm.trans h);exact .inr (.inr (.inl ⟨z,i,c,rfl,rfl,hc,e1,e2.symm⟩))
   ·exact(no (if_neg hc) h).elim
  | _=>exact(no rfl h).elim
 | fL xs=>cases y with
  |int i=>
   by_cases hc:RL.az xs=true
   ·exact .inr (.inr (.inr ⟨xs,i,rfl,rfl,hc,(if_pos hc).symm.trans h⟩))
   ·exact(no (if_neg hc) h).elim
  | _=>exact(no rfl h).elim
 | _=>exact(no rfl h).elim
def C9(ha:SE X cl a a')(hb:SE X cl b b')(hs:vE b=true):SE X cl (.Subscript a b pos) (.ix a' b'):=by
 refine PE.weak (xh sQ ha hb (pH hs)) fun σ H Q h=>?_;obtain⟨σD,d,rv,e,k⟩:=h;obtain⟨x,ea,e⟩:=bind_some e;obtain⟨y,eb,e⟩:=bind_some e;refine two rv ea eb fun v u H1 H2 s1 s2 rx ry ra rb=>?_
 have fin:∀ (w:V),Rep nP X.K H2 d w->(∀ P:Addr->Prop,Rep P X.K H2 x v->Rep P X.K H2 d w)->Res X.K σD σ H (.ix a' b') d w H2:=fun w h1 h2=>{
  same:=s1.trans s2
  rep:=h1
  fresh:=fun z=>by cases z
  av:=fun M z P hP av=>h2 P ((ra.av M z P hP av).same s2) }
 rcases tq e with⟨xs,i,rfl,rfl,hd⟩ | ⟨xs,i,rfl,rfl,hd⟩ | ⟨z,i,c,rfl,rfl,hz,hd,rfl⟩ | ⟨xs,i,rfl,rfl,im,hd⟩
 ·obtain⟨p,ys,rfl,_,e2,e3⟩:=aP rx;obtain⟨w,h1,h2⟩:=eF e3 hd;refine .inl ⟨p,ys,i,w,rfl,ah ry,SqL.of e2,jg h1,k _ _ (fin w h2 fun P rp=>?_)⟩;obtain⟨p',ys',q1,_,q2,q3⟩:=aP rp;cases q1;rw[e2]at q2;cases q2;obtain⟨w',h3,h4⟩:=eF q3 hd;rw[h1]at h3;cases h3;exact h4
 ·obtain⟨p,ys,rfl,e2,e3⟩:=aX rx;obtain⟨w,h1,h2⟩:=eF e3 hd;refine .inr (.inl ⟨p,ys,i,w,rfl,ah ry,SqT.of e2,jg h1,k _ _ (fin w h2 fun P rp=>?_)⟩);obtain⟨p',ys',q1,q2,q3⟩:=aX rp;cases q1;rw[e2]at q2;cases q2;obtain⟨w',h3,h4⟩:=eF q3 hd;rw[h1]at h3;cases h3;exact h4
 ·exact .inr (.inr ⟨z,i,c,aN rx,ah ry,Nat.le_trans hz c7,jg hd,k _ _ (fin _ eZ fun P _=>eZ)⟩)
 ·rw[Rep]at rx;obtain⟨p,o,ys,rfl,e2,e3⟩:=rx;obtain⟨w,h1,h2⟩:=eF e3 hd;exact .inl ⟨p,ys,i,w,rfl,ah ry,.inl (.inr ⟨o,e2⟩),jg h1,k _ _ (cu (s1.trans s2) h2 (vh im hd))⟩
end rules
section rules
def fw:∀ {as bs:List RL.D} {k:Bool},RL.eqs f as bs=some k ->
  ∃ e:Nat->Bool,k=(List.range (min as.length bs.length)).all e/\∀ j x y,as[j]?=some x->bs[j]?=some y->f x y=some (e j)
 | [],bs,k,h=>by
  have h:some true=some k:=by simpa[RL.eqs]using h
  cases h;exact⟨fun _=>true,by simp,fun j x y h1=>by simp at h1⟩
 | a::r,[],k,h=>by
  have h:some true=some k:=by simpa[RL.eqs]using h
  cases h;exact⟨fun _=>true,by simp,fun j x y h1 h2=>by simp at h2⟩
 | a::r,b::s,k,h=>by
  obtain⟨e0,h1,h2⟩:=bind_some h;obtain⟨k',h3,h4⟩:=map_some h2;obtain⟨e,h5,h6⟩:=fw h3;refine⟨fun j=>match j with | 0=>e0 | j+1=>e j,?_,fun j x y hx hy=>?_⟩
  ·rw[<-h4,h5,List.length_cons,List.length_cons,Nat.succ_min_succ,List.range_succ_eq_map,List.all_cons,List.all_map];rfl
  ·cases j with
   |zero=>
    simp at hx hy;subst hx hy;exact h1
   | succ j=>exact h6 j x y (by simpa using hx) (by simpa using hy)
abbrev LF(x:RL.D)(i:List RL.D):Prop:=x=.lst i\/x=.fL i
def gA{P:Addr->Prop}{K:PySem.W.Frag}{H:Hp}{v:V}(h:Rep P K H x v)(l:LF x i):∃ a xs,v=.ref a/\(H a=some (.lst xs)\/∃ o,H a=some (.frz o (.lst xs)))/\af P K H i xs:=by
 rcases l with rfl | rfl
 ·obtain⟨a,xs,h1,_,h2,h3⟩:=aP h;exact⟨a,xs,h1,.inl h2,h3⟩
 ·rw[Rep]at h;obtain⟨a,o,xs,h1,h2,h3⟩:=h;exact⟨a,xs,h1,.inr ⟨o,h2⟩,h3⟩
def Ai{H:Hp}{xs ys:List V}(h:H a=some (.lst xs)\/∃ o,H a=some (.frz o (.lst xs)))(h':H a=some (.lst ys)\/∃ o,H a=some (.frz o (.lst ys))):xs=ys:=by
 rcases h with h | ⟨o,h⟩
 ·rcases h' with h' | ⟨o',h'⟩<;>(rw[h]at h';cases h');rfl
 ·rcases h' with h' | ⟨o',h'⟩<;>(rw[h]at h';cases h');rfl
abbrev EqC(n:Nat)(x y:RL.D)(k:Bool):Prop:=(∃ i j,x=.bl i/\y=.bl j/\(i == j)=k)\/(∃ i j,x=.int i/\y=.int j/\(i == j)=k)\/(∃ i j,x=.str i/\y=.str j/\(i == j)=k) \/
  (∃ m i j,n=m+1/\x=.tup i/\y=.tup j/\Option.map (fun k=>k&&i.length == j.length) (RL.eqs (RL.eqD m) i j)=some k)\/(∃ m i j,n=m+1/\LF x i/\LF y j/\Option.map (fun k=>k&&i.length == j.length) (RL.eqs (RL.eqD m) i j)=some k)
def eI(h:RL.eqD n x y=some k):EqC n x y k:=by
 cases n with
 | zero=>cases x with
  | bl i=>cases y with
   | bl j=>exact .inl ⟨i,j,rfl,rfl,Option.some.inj h⟩
   | _=>exact noN rfl h
  | int i=>cases y with
   | int j=>exact .inr (.inl ⟨i,j,rfl,rfl,Option.some.inj h⟩)
   | _=>exact noN rfl h
  | str i=>cases y with
   | str j=>exact .inr (.inr (.inl ⟨i,j,rfl,rfl,Option.some.inj h⟩))
   | _=>exact noN rfl h
  | _=>exact noN rfl h
 | succ m=>cases x with
  | bl i=>cases y with
   | bl j=>exact .inl ⟨i,j,rfl,rfl,Option.some.inj h⟩
   | _=>exact noN rfl h
  | int i=>cases y with
   | int j=>exact .inr (.inl ⟨i,j,rfl,rfl,Option.some.inj h⟩)
   | _=>exact noN rfl h
  | str i=>cases y with
   | str j=>exact .inr (.inr (.inl ⟨i,j,rfl,rfl,Option.some.inj h⟩))
   | _=>exact noN rfl h
  | tup i=>cases y with
   | tup j=>exact .inr (.inr (.inr (.inl ⟨m,i,j,rfl,rfl,rfl,h⟩)))
   | _=>exact noN rfl h
  | lst i=>cases y with
   | lst j=>exact .inr (.inr (.inr (.inr ⟨m,i,j,rfl,.inl rfl,.inl rfl,h⟩)))
   | fL j=>exact .inr (.inr (.inr (.inr ⟨m,i,j,rfl,.inl rfl,.inr rfl,h⟩)))
   | _=>exact noN rfl h
  | fL i=>cases y with
   | lst j=>exact .inr (.inr (.inr (.inr ⟨m,i,j,rfl,.inr rfl,.inl rfl,h⟩)))
   | fL j=>exact .inr (.inr (.inr (.inr ⟨m,i,j,rfl,.inr rfl,.inr rfl,h⟩)))
   | _=>exact noN rfl h
  | _=>exact noN rfl h
def lG{K:PySem.W.Frag}:∀ (n:Nat) (x y:RL.D) (v:V) (k:Bool),Rep nP K H x v->Rep nP K H y v->RL.eqD n x y=some k->k=true:=by
 intro n
 induction n with
 |zero=>
  intro x y v k rx ry h
  rcases eI h with⟨i,j,rfl,rfl,rfl⟩ | ⟨i,j,rfl,rfl,rfl⟩ | ⟨i,j,rfl,rfl,rfl⟩ | ⟨m,i,j,hn,hx,hy,h⟩ | ⟨m,i,j,hn,hx,hy,h⟩
  ·have:=aT rx;rw[aT ry]at this;cases this;simp
  ·have:=ah rx;rw[ah ry]at this;cases this;simp
  ·have:=aN rx;rw[aN ry]at this;cases this;simp
  ·cases hn
  ·cases hn
 |succ n ih=>
  intro x y v k rx ry h
  have seq:∀ (i j:List RL.D) (xs:List V) (k:Bool),af nP K H i xs->af nP K H j xs->Option.map (fun k=>k&&i.length == j.length) (RL.eqs (RL.eqD n) i j)=some k->k=true:=by
   intro i j xs k e3 f3 h;obtain⟨k',h1,h2⟩:=map_some h;obtain⟨e,h3,h4⟩:=fw h1;have hl:i.length=j.length:=e3.length.trans f3.length.symm
   have hk:k'=true:=by
    rw[h3,List.all_eq_true];intro m hm;rw[List.mem_range]at hm;obtain⟨w,w1,w2⟩:=e3.get (i:=m) (d:=i[m]'(by lia)) (by simp);obtain⟨w',w1',w2'⟩:=f3.get (i:=m) (d:=j[m]'(by lia)) (by simp);rw[w1]at w1';cases w1';exact ih _ _ w (e m) w2 w2' (h4 m _ _ (by simp) (by simp))
   rw[<-h2,hk,hl];simp
  rcases eI h with⟨i,j,rfl,rfl,rfl⟩ | ⟨i,j,rfl,rfl,rfl⟩ | ⟨i,j,rfl,rfl,rfl⟩ | ⟨m,i,j,hn,hx,hy,h⟩ | ⟨m,i,j,hn,hx,hy,h⟩
  ·have:=aT rx;rw[aT ry]at this;cases this;simp
  ·have:=ah rx;rw[ah ry]at this;cases this;simp
  ·have:=aN rx;rw[aN ry]at this;cases this;simp
  ·cases hn;subst hx;subst hy;obtain⟨p,xs,rfl,e2,e3⟩:=aX rx;obtain⟨q,ys,q1,f2,f3⟩:=aX ry;cases q1;rw[e2]at f2;cases f2;exact seq i j xs k e3 f3 h
  ·cases hn;obtain⟨p,xs,rfl,e2,e3⟩:=gA rx hx;obtain⟨q,ys,q1,f2,f3⟩:=gA ry hy;cases q1;cases Ai e2 f2;exact seq i j xs k e3 f3 h
open SeqAt in
def deep(I:Inv X pins σ H s):∀ (n:Nat) (A:Around) (x y:RL.D) (v u:V) (va ua:Value) (k:Bool),A.units+n<cLine->Rep nP X.K H x v->Rep nP X.K H y u->RelV v va->RelV u ua ->
  RL.eqD n x y=some k->RcAt A s va ua k/\EqAt A s va ua k:=by
 intro n
 induction n with
 |zero=>
  intro A x y v u va ua k hu rx ry qx qy h
  rcases eI h with⟨i,j,rfl,rfl,rfl⟩ | ⟨i,j,rfl,rfl,rfl⟩ | ⟨i,j,rfl,rfl,rfl⟩ | ⟨m,i,j,hn,hx,hy,h⟩ | ⟨m,i,j,hn,hx,hy,h⟩
  ·rw[aT rx]at qx;rw[aT ry]at qy;cases qx;cases qy;exact⟨RcAt.bool_bool i j,EqAt.bool_bool i j⟩
  ·rw[ah rx]at qx;rw[ah ry]at qy;obtain⟨t,rfl⟩:=qx;obtain⟨t',rfl⟩:=qy;exact⟨RcAt.int_int i t j t',EqAt.int_int i t j t'⟩
  ·rw[aN rx]at qx;rw[aN ry]at qy;obtain⟨t,rfl⟩:=qx;obtain⟨t',rfl⟩:=qy;exact⟨RcAt.str_str i t j t',EqAt.str_str i t j t'⟩
  ·cases hn
  ·cases hn
 |succ n ih=>
  intro A x y v u va ua k hu rx ry qx qy h
  rcases eI h with⟨i,j,rfl,rfl,rfl⟩ | ⟨i,j,rfl,rfl,rfl⟩ | ⟨i,j,rfl,rfl,rfl⟩ | ⟨m,i,j,hn,hx,hy,h⟩ | ⟨m,i,j,hn,hx,hy,h⟩
  ·rw[aT rx]at qx;rw[aT ry]at qy;cases qx;cases qy;exact⟨RcAt.bool_bool i j,EqAt.bool_bool i j⟩
  ·rw[ah rx]at qx;rw[ah ry]at qy;obtain⟨t,rfl⟩:=qx;obtain⟨t',rfl⟩:=qy;exact⟨RcAt.int_int i t j t',EqAt.int_int i t j t'⟩
  ·rw[aN rx]at qx;rw[aN ry]at qy;obtain⟨t,rfl⟩:=qx;obtain⟨t',rfl⟩:=qy;exact⟨RcAt.str_str i t j t',EqAt.str_str i t j t'⟩
  ·cases hn;subst hx;subst hy;obtain⟨p,xs,rfl,e2,e3⟩:=aX rx;obtain⟨q,ys,rfl,f2,f3⟩:=aX ry;cases qx;cases qy;obtain⟨its,r1,t1,z1⟩:=I.tuple (SqT.of e2);obtain⟨jts,r2,t2,z2⟩:=I.tuple (SqT.of f2);obtain⟨k',h1,h2⟩:=map_some h;obtain⟨e,h3,h4⟩:=fw h1;have l1:i.length=its.length:=e3.length.trans r1.length;have l2:j.length=jts.length:=f3.length.trans r2.length
   have he:∀ m (g1:m<its.toArray.size) (g2:m<jts.toArray.size),EqAt A.in1 s its.toArray[m] jts.toArray[m] (e m):=fun m g1 g2=>by
    rw[List.size_toArray]at g1 g2;obtain⟨w,w1,w2⟩:=e3.get (i:=m) (d:=i[m]'(by lia)) (by simp);obtain⟨w',w1',w2'⟩:=f3.get (i:=m) (d:=j[m]'(by lia)) (by simp);obtain⟨uu,b1,b2⟩:=r1.get w1;obtain⟨uu',b1',b2'⟩:=r2.get w1'
    have c1:its.toArray[m]=uu:=by simpa using(List.getElem?_eq_some_iff.mp b1).2
    have c2:jts.toArray[m]=uu':=by simpa using(List.getElem?_eq_some_iff.mp b1').2
    rw[c1,c2];exact(ih A.in1 _ _ w w' uu uu' (e m) (by show A.units+1+n<cLine;lia) w2 w2' b2 b2' (h4 m _ _ (by simp) (by simp))).2
   have main:RcAt A s (.ref p) (.ref q) k:=by
    have z:=RcAt.tuples (e:=e) t1 t2 (by lia) he;rw[List.size_toArray,List.size_toArray,<-l1,<-l2,<-h3,h2]at z;exact z
   refine⟨main,?_⟩;by_cases z:p=q
   ·subst z;rw[lG (n+1) _ _ _ k rx ry h];exact EqAt.same _
   ·exact EqAt.of_refs z main
  ·cases hn;obtain⟨p,xs,rfl,e2,e3⟩:=gA rx hx;obtain⟨q,ys,rfl,f2,f3⟩:=gA ry hy;cases qx;cases qy;obtain⟨its,r1,t1,z1⟩:=I.list (.inl e2);obtain⟨jts,r2,t2,z2⟩:=I.list (.inl f2);obtain⟨k',h1,h2⟩:=map_some h;obtain⟨e,h3,h4⟩:=fw h1;have l1:i.length=its.length:=e3.length.trans r1.length;have l2:j.length=jts.length:=f3.length.trans r2.length
   have he:∀ m (g1:m<its.toArray.size) (g2:m<jts.toArray.size),EqAt A.in1 s its.toArray[m] jts.toArray[m] (e m):=fun m g1 g2=>by
    rw[List.size_toArray]at g1 g2;obtain⟨w,w1,w2⟩:=e3.get (i:=m) (d:=i[m]'(by lia)) (by simp);obtain⟨w',w1',w2'⟩:=f3.get (i:=m) (d:=j[m]'(by lia)) (by simp);obtain⟨uu,b1,b2⟩:=r1.get w1;obtain⟨uu',b1',b2'⟩:=r2.get w1'
    have c1:its.toArray[m]=uu:=by simpa using(List.getElem?_eq_some_iff.mp b1).2
    have c2:jts.toArray[m]=uu':=by simpa using(List.getElem?_eq_some_iff.mp b1').2
    rw[c1,c2];exact(ih A.in1 _ _ w w' uu uu' (e m) (by show A.units+1+n<cLine;lia) w2 w2' b2 b2' (h4 m _ _ (by simp) (by simp))).2
   have main:RcAt A s (.ref p) (.ref q) k:=by
    by_cases hl:its.length=jts.length
    ·have z:=RcAt.lists (e:=e) t1.isList t2.isList (by rw[List.size_toArray,List.size_toArray];exact hl) (by lia) he;rw[List.size_toArray]at z
     have hk:k=(List.range its.length).all e:=by
      rw[<-h2,h3,l1,l2,hl];simp
     rw[hk];exact z
    ·have hk:k=false:=by
      rw[<-h2,l1,l2];simp[hl]
     rw[hk];exact RcAt.lists_lengths t1.isList t2.isList (by rw[List.size_toArray,List.size_toArray];simpa using hl) (by lia)
   refine⟨main,?_⟩;by_cases z:p=q
   ·subst z;rw[lG (n+1) _ _ _ k rx ry (by assumption)];exact EqAt.same _
   ·exact EqAt.of_refs z main
end rules
section rules
variable{X:Cx}
open SeqAt in
def AH(I:Inv X pins σ H s)(n:Nat)(A:Around)(x y:RL.D)(v u:V)(va ua:Value)(k:Bool)(hu:A.units+n<cLine)(rx:Rep nP X.K H x v)(ry:Rep nP X.K H y u)(qx:RelV v va)(qy:RelV u ua)
 (h:RL.eqD n x y=some k):RcNeAt A s va ua (!k):=by
 rcases eI h with⟨i,j,rfl,rfl,rfl⟩ | ⟨i,j,rfl,rfl,rfl⟩ | ⟨i,j,rfl,rfl,rfl⟩ | ⟨nn,i,j,hn,hx,hy,h⟩ | ⟨nn,i,j,hn,hx,hy,h5⟩
 ·rw[aT rx]at qx;rw[aT ry]at qy;cases qx;cases qy;exact RcNeAt.bool_bool i j
 ·rw[ah rx]at qx;rw[ah ry]at qy;obtain⟨t,rfl⟩:=qx;obtain⟨t',rfl⟩:=qy;exact RcNeAt.int_int i t j t'
 ·rw[aN rx]at qx;rw[aN ry]at qy;obtain⟨t,rfl⟩:=qx;obtain⟨t',rfl⟩:=qy;exact RcNeAt.str_str i t j t'
 ·subst hn;subst hx;subst hy;obtain⟨p,xs,rfl,e2,e3⟩:=aX rx;obtain⟨q,ys,rfl,f2,f3⟩:=aX ry;cases qx;cases qy;obtain⟨its,r1,t1,z1⟩:=I.tuple (SqT.of e2);obtain⟨jts,r2,t2,z2⟩:=I.tuple (SqT.of f2);obtain⟨k',h1,h2⟩:=map_some h;obtain⟨e,h3,h4⟩:=fw h1;have l1:i.length=its.length:=e3.length.trans r1.length;have l2:j.length=jts.length:=f3.length.trans r2.length
  have he:∀ m (g1:m<its.toArray.size) (g2:m<jts.toArray.size),EqAt A.in1 s its.toArray[m] jts.toArray[m] (e m):=fun m g1 g2=>by
   rw[List.size_toArray]at g1 g2;obtain⟨w,w1,w2⟩:=e3.get (i:=m) (d:=i[m]'(by lia)) (by simp);obtain⟨w',w1',w2'⟩:=f3.get (i:=m) (d:=j[m]'(by lia)) (by simp);obtain⟨uu,b1,b2⟩:=r1.get w1;obtain⟨uu',b1',b2'⟩:=r2.get w1'
   have c1:its.toArray[m]=uu:=by simpa using(List.getElem?_eq_some_iff.mp b1).2
   have c2:jts.toArray[m]=uu':=by simpa using(List.getElem?_eq_some_iff.mp b1').2
   rw[c1,c2];exact(deep I nn A.in1 _ _ w w' uu uu' (e m) (by show A.units+1+nn<cLine;lia) w2 w2' b2 b2' (h4 m _ _ (by simp) (by simp))).2
  have z:=RcNeAt.tuples (e:=e) t1 t2 (by lia) he;rw[List.size_toArray,List.size_toArray,<-l1,<-l2,<-h3,h2]at z;exact z
 ·subst hn;obtain⟨p,xs,rfl,e2,e3⟩:=gA rx hx;obtain⟨q,ys,rfl,f2,f3⟩:=gA ry hy;cases qx;cases qy;obtain⟨its,r1,t1,z1⟩:=I.list (.inl e2);obtain⟨jts,r2,t2,z2⟩:=I.list (.inl f2);obtain⟨k',h1,h2⟩:=map_some h5;obtain⟨e,h3,h4⟩:=fw h1;have l1:i.length=its.length:=e3.length.trans r1.length;have l2:j.length=jts.length:=f3.length.trans r2.length
  have he:∀ m (g1:m<its.toArray.size) (g2:m<jts.toArray.size),EqAt A.in1 s its.toArray[m] jts.toArray[m] (e m):=fun m g1 g2=>by
   rw[List.size_toArray]at g1 g2;obtain⟨w,w1,w2⟩:=e3.get (i:=m) (d:=i[m]'(by lia)) (by simp);obtain⟨w',w1',w2'⟩:=f3.get (i:=m) (d:=j[m]'(by lia)) (by simp);obtain⟨uu,b1,b2⟩:=r1.get w1;obtain⟨uu',b1',b2'⟩:=r2.get w1'
   have c1:its.toArray[m]=uu:=by simpa using(List.getElem?_eq_some_iff.mp b1).2
   have c2:jts.toArray[m]=uu':=by simpa using(List.getElem?_eq_some_iff.mp b1').2
   rw[c1,c2];exact(deep I nn A.in1 _ _ w w' uu uu' (e m) (by show A.units+1+nn<cLine;lia) w2 w2' b2 b2' (h4 m _ _ (by simp) (by simp))).2
  by_cases hl:its.length=jts.length
  ·have z:=RcNeAt.lists (e:=e) t1.isList t2.isList (by rw[List.size_toArray,List.size_toArray];exact hl) (by lia) he;rw[List.size_toArray]at z
   have hk:k=(List.range its.length).all e:=by
    rw[<-h2,h3,l1,l2,hl];simp
   rw[hk];exact z
  ·have hk:k=false:=by
    rw[<-h2,l1,l2];simp[hl]
   rw[hk];exact RcNeAt.lists_lengths t1.isList t2.isList (by rw[List.size_toArray,List.size_toArray];simpa using hl) (by lia)
abbrev du:RL.Cop->CmpOp
 | .lt=>.Lt
 | .le=>.LtE
 | .gt=>.Gt
 | .ge=>.GtE
 | .eq=>.Eq
 | .ne=>.NotEq
abbrev rA(K:PySem.W.Frag)(c:RL.Cop):R2:=fun v u H Q=>∃ x y k,Rep nP K H x v/\Rep nP K H y u/\RL.bw c x y=some k/\Q (.bl k) H
def gR{c:RL.Cop}(hc:c≠.eq)(hc2:c≠.ne)(h:RL.bw c x y=some k):∃ i j,x=.int i/\y=.int j:=by
 have no:∀ {a b:RL.D},RL.bw .lt a b=none->RL.bw .le a b=none->RL.bw .gt a b=none->RL.bw .ge a b=none->RL.bw c a b=some k->False:=fun e1 e2 e3 e4 h=>by
  cases c with
  | eq=>exact hc rfl
  | ne=>exact hc2 rfl
  | lt=>rw[e1]at h;cases h
  | le=>rw[e2]at h;cases h
  | gt=>rw[e3]at h;cases h
  | ge=>rw[e4]at h;cases h
 cases x with
 | int i=>cases y with
  | int j=>exact⟨_,_,rfl,rfl⟩
  | _=>exact(no rfl rfl rfl rfl h).elim
 | _=>exact(no rfl rfl rfl rfl h).elim
def gB{c:RL.Cop}(hu:X.A.units+100<cLine):OpR X (compareOp (du c)) (rA X.K c):=by
 intro pins s σ H x y v u Q I rx ry h;obtain⟨dx,dy,k,ex,ey,e,q⟩:=h
 have fin:EP X pins σ Q (.bool k) s:=⟨.bl k,H,I,rfl,q⟩
 cases c with
 |eq=>
  have e:=e;exact(deep I 8 X.A dx dy x y v u k (by lia) ex ey rx ry e).1 X.prog X.w X.xe _ fin
 |ne=>
  obtain⟨k',e1,e2⟩:=map_some (show(RL.eqD 8 dx dy).map not=some k from e);subst e2;exact AH I 8 X.A dx dy x y v u k' (by lia) ex ey rx ry e1 X.prog X.w X.xe _ fin
 |lt=>
  obtain⟨i,j,rfl,rfl⟩:=gR (by decide) (by decide) e;cases e;rw[ah ex]at rx;rw[ah ey]at ry;obtain⟨t,rfl⟩:=rx;obtain⟨t',rfl⟩:=ry;exact lt_int fin
 |le=>
  obtain⟨i,j,rfl,rfl⟩:=gR (by decide) (by decide) e;cases e;rw[ah ex]at rx;rw[ah ey]at ry;obtain⟨t,rfl⟩:=rx;obtain⟨t',rfl⟩:=ry;exact le_int fin
 |gt=>
  obtain⟨i,j,rfl,rfl⟩:=gR (by decide) (by decide) e;cases e;rw[ah ex]at rx;rw[ah ey]at ry;obtain⟨t,rfl⟩:=rx;obtain⟨t',rfl⟩:=ry;exact gt_int fin
 |ge=>
  obtain⟨i,j,rfl,rfl⟩:=gR (by decide) (by decide) e;cases e;rw[ah ex]at rx;rw[ah ey]at ry;obtain⟨t,rfl⟩:=rx;obtain⟨t',rfl⟩:=ry;exact ge_int fin
def gW{c:RL.Cop}(b:Expr):behindInMarks (du c) b=false:=by cases c<;>exact mU b (by decide) (by decide)
def uo{c:RL.Cop}(h:∃ σD d,RV0 X.K σD σ H/\RL.ev cl σD (.cmp c a' b')=some d/\∀ H',ax H H'->∃ k,d=.bl k/\Q (.bl k) H'):tOp (rA X.K c) (tE X.K cl a') (tE X.K cl b') σ H Q:=by
 obtain⟨σD,d,rv,e,k⟩:=h;obtain⟨x,ea,e⟩:=bind_some e;obtain⟨y,eb,e⟩:=bind_some e;obtain⟨t,e1,e2⟩:=map_some e;refine two rv ea eb fun v u H1 H2 s1 s2 rx ry _ _=>?_;obtain⟨k',h1,h2⟩:=k H2 (s1.trans s2);rw[h1]at e2;cases e2;exact⟨x,y,t,rx,ry,e1,h2⟩
def lV{c:RL.Cop}(e:RL.ev cl σD (.cmp c a' b')=some d):∃ k,d=.bl k:=by
 obtain⟨x,ea,e⟩:=bind_some e;obtain⟨y,eb,e⟩:=bind_some e;obtain⟨t,e1,e2⟩:=map_some e;exact⟨t,e2.symm⟩
def BW{c:RL.Cop}(hu:X.A.units+100<cLine)(ha:SE X cl a a')(hb:SE X cl b b'):SE X cl (.Compare a [du c] [b] pos) (.cmp c a' b'):=by
 refine PE.weak (qb (gB hu) ha hb (gW b)) fun σ H Q h=>?_;obtain⟨σD,d,rv,e,k⟩:=h;obtain⟨t,rfl⟩:=lV e;exact uo ⟨σD,_,rv,e,fun H' sm=>⟨t,rfl,k _ _ (dM sm)⟩⟩
def BA{c:RL.Cop}(hu:X.A.units+100<cLine)(ha:SE X cl a a')(hb:SE X cl b b'):ST X cl (.Compare a [du c] [b] pos) (.cmp c a' b'):=by
 refine PT.weak (kR (gB hu) ha hb (gW b)) fun σ H Q h=>?_;obtain⟨σD,k,rv,e,q⟩:=h;obtain⟨d,e1,e2⟩:=bind_some e;obtain⟨t,rfl⟩:=lV e1;cases e2;exact uo ⟨σD,_,rv,e1,fun H' sm=>⟨k,rfl,k,rfl,q H' sm⟩⟩
def xm{c c':RL.Cop}(b e:Expr):lastMarks [du c,du c'] [b,e]=false:=by
 exact gW e
def jq{c c':RL.Cop}(h:RL.ev cl σD (.chain c c' a' b' e')=some d):∃ k,d=.bl k:=by
 obtain⟨x,ea,h⟩:=bind_some h;obtain⟨y,eb,h⟩:=bind_some h;obtain⟨t,e1,h⟩:=bind_some h
 cases t with
 |true=>
  obtain⟨z,ec,h⟩:=bind_some (show(RL.ev cl σD e').bind _=some d from h);obtain⟨t,e1,e2⟩:=map_some h;exact⟨t,e2.symm⟩
 | false=>exact⟨false,(Option.some.inj (show some (RL.D.bl false)=some d from h)).symm⟩
def oK{c c':RL.Cop}(h:∃ σD k,RV0 X.K σD σ H/\RL.ev cl σD (.chain c c' a' b' e')=some (.bl k)/\∀ H',ax H H'->Q (.bl k) H') :
  nB (rA X.K c) (rA X.K c') (tE X.K cl a') (tE X.K cl b') (tE X.K cl e') σ H Q:=by
 obtain⟨σD,k,rv,h,q⟩:=h;obtain⟨x,ea,h⟩:=bind_some h;obtain⟨y,eb,h⟩:=bind_some h;obtain⟨t,e1,h⟩:=bind_some h;refine two rv ea eb fun v u H1 H2 s1 s2 rx ry _ _=>?_;refine⟨x,y,t,rx,ry,e1,t,rfl,?_⟩;have sm:=s1.trans s2
 cases t with
 |true=>
  obtain⟨z,ec,h⟩:=bind_some h;obtain⟨t,e3,e2⟩:=map_some h;cases e2;exact dU ⟨σD,z,rv.same sm,ec,fun w H3 r3=>⟨y,z,k,ry.same r3.same,r3.rep,e3,q H3 (sm.trans r3.same)⟩⟩
 |false=>
  cases h;exact eC (q H2 sm)
def vB{c c':RL.Cop}(hu:X.A.units+100<cLine)(ha:SE X cl a a')(hb:SE X cl b b')(he:SE X cl e e'):SE X cl (.Compare a [du c,du c'] [b,e] pos) (.chain c c' a' b' e'):=by
 refine PE.weak (vG (gB hu) (gB hu) ha hb he (xm b e)) fun σ H Q h=>?_;obtain⟨σD,d,rv,h,k⟩:=h;obtain⟨t,rfl⟩:=jq h;exact oK ⟨σD,t,rv,h,fun H' sm=>k _ _ (dM sm)⟩
def uP{c c':RL.Cop}(hu:X.A.units+100<cLine)(ha:SE X cl a a')(hb:SE X cl b b')(he:SE X cl e e'):ST X cl (.Compare a [du c,du c'] [b,e] pos) (.chain c c' a' b' e'):=by
 refine PT.weak (vY (gB hu) (gB hu) ha hb he (xm b e)) fun σ H Q h=>?_;obtain⟨σD,k,rv,h,q⟩:=h;obtain⟨d,e1,e2⟩:=bind_some h;obtain⟨t,rfl⟩:=jq e1;cases e2;exact oK ⟨σD,k,rv,e1,fun H' sm=>⟨k,rfl,q H' sm⟩⟩
end rules
section rules
variable{X:Cx}
def lT{neg:Bool}(b:Expr):behindInMarks (if neg then .IsNot else .Is) b=false:=by cases neg<;>exact mU b (by decide) (by decide)
def qd{neg:Bool}:OpR X (compareOp (if neg then .IsNot else .Is)) (fun x y H Q=>y=.non/\Q (.bl (if neg then !decide (x=.non)else decide (x=.non))) H):=by
 cases neg with
 | true=>exact yq
 | false=>exact BK
def uE(h:RL.ev cl σD (.isN neg a')=some d):∃ x,RL.ev cl σD a'=some x/\∀ v (H:Hp),Rep nP X.K H x v->d=.bl (if neg then !decide (v=.non)else decide (v=.non)):=by
 obtain⟨x,ea,h⟩:=bind_some h;refine⟨x,ea,fun v H r=>?_⟩
 cases x with
 | non=>cases h;rw[Rep]at r;subst r;cases neg<;>rfl
 | bl k=>cases h;rw[aT r];cases neg<;>rfl
 | int k=>cases h;rw[ah r];cases neg<;>rfl
 | str k=>cases h;rw[aN r];cases neg<;>rfl
 | tup k=>cases h;obtain⟨p,xs,rfl,_⟩:=aX r;cases neg<;>rfl
 | lst k=>cases h;obtain⟨p,xs,rfl,_⟩:=aP r;cases neg<;>rfl
 | scr k=>cases h;rw[Rep]at r;obtain⟨p,xs,rfl,_⟩:=r;cases neg<;>rfl
 | exc k=>cases h;rw[Rep]at r;obtain⟨p,_,_,_,_,rfl,_⟩:=r;cases neg<;>rfl
 | obj=>cases h;rw[Rep]at r;obtain⟨p,rfl⟩:=r;cases neg<;>rfl
 | dK _ _=>cases h
 | dT _ _=>cases h
 | fT _ _=>cases h
 | fL k=>cases h;rw[Rep]at r;obtain⟨p,o,xs,rfl,_⟩:=r;cases neg<;>rfl
def Aq(ha:SE X cl a a'):SE X cl (.Compare a [if neg then .IsNot else .Is] [.Constant .none j p] pos) (.isN neg a'):=by
 refine PE.weak (qb qd ha nI (lT _)) fun σ H Q h=>?_;obtain⟨σD,d,rv,e,q⟩:=h;obtain⟨x,ea,hx⟩:=uE e;refine⟨σD,_,rv,ea,fun v H1 r1=>⟨rfl,?_⟩⟩;have hd:=hx v H1 r1.rep;subst hd;exact q _ _ (dM r1.same)
def zd(ha:SE X cl a a'):ST X cl (.Compare a [if neg then .IsNot else .Is] [.Constant .none j p] pos) (.isN neg a'):=by
 refine PT.weak (kR qd ha nI (lT _)) fun σ H Q h=>?_;obtain⟨σD,k,rv,e,q⟩:=h;obtain⟨d,e1,e2⟩:=bind_some e;obtain⟨x,ea,hx⟩:=uE e1;refine⟨σD,_,rv,ea,fun v H1 r1=>⟨rfl,?_⟩⟩;have hd:=hx v H1 r1.rep;subst hd;cases e2;exact⟨_,rfl,q _ r1.same⟩
def hJ{P:Addr->Prop}{K:PySem.W.Frag}(h:RL.items d=some ds)(r:Rep P K H d v):∃ p xs,v=.ref p/\((H p=some (.lst xs)/\d=.lst ds)\/(H p=some (.tup xs)/\d=.tup ds)\/((∃ o,H p=some (.frz o (.lst xs)))/\d=.fL ds))/\af P K H ds xs:=by
 cases d<;>simp only[RL.items]at h<;>first | (cases h;done) | skip
 case lst ys=>cases h;obtain⟨p,xs,e1,_,e2,e3⟩:=aP r;exact⟨p,xs,e1,.inl ⟨e2,rfl⟩,e3⟩
 case tup ys=>cases h;obtain⟨p,xs,e1,e2,e3⟩:=aX r;exact⟨p,xs,e1,.inr (.inl ⟨e2,rfl⟩),e3⟩
 case fL ys=>cases h;rw[Rep]at r;obtain⟨p,o,xs,e1,e2,e3⟩:=r;exact⟨p,xs,e1,.inr (.inr ⟨⟨o,e2⟩,rfl⟩),e3⟩
abbrev spF(K:PySem.W.Frag)(cl:RL.Cl)(f:Nat):Sp:=fun vs H Q _=>∃ ds d,af nP K H ds vs/\cl f ds=some d/\∀ v H',ax H H'->Rep (fun p=>H p≠none) K H' d v->Q v H'
def xH(F:dz X.prog X.w X.K X.mg X.base CX0 k fa fd ps (spF X.K cl f))(hr:bP k X.A)(hg:Gl X x)
 (hm:X.mg x=some (.ref fa))(hk:PySem.W.keepIn X.K (.ref fa)=true)(hb:Binds X.K fd ps [])(he:SEs X cl (e::es) (.cons e' es'))(hdb:(x == ("__debug__" : Str))=false)(hn:noStar e=true)(hns:es.all noStar=true) :
  SE X cl (.Call (.Name x p) (e::es) [] pos) (.call f (.cons e' es')):=by
 refine PE.weak (yC F hr hg hm hk hb .nil CH he hdb (au es hn) (cB hns)) fun σ H Q h=>?_;obtain⟨σD,d,rv,ev,q⟩:=h;obtain⟨ds,e1,e2⟩:=bind_some ev;refine⟨σD,ds,rv,e1,fun vs H1 s1 r1=>?_⟩;show spF X.K cl f (vs++[]) H1 Q E0;rw[List.append_nil];refine⟨ds,d,r1,e2,fun v H2 s2 r2=>q v H2 ⟨s1.trans s2,r2.none,fun _ m a z=>?_,fun M _ P hP _=>?_⟩⟩
 ·subst z
  have hh:H1 a=none:=by
   cases d with
   | lst ds=>obtain⟨p,xs,e1,e2,_⟩:=aP r2;cases e1;exact Classical.byContradiction e2
   | dK ks ds=>rw[Rep]at r2;obtain⟨p,xs,e1,e2,_⟩:=r2;cases e1;exact Classical.byContradiction e2
   | dT ks ds=>rw[Rep]at r2;obtain⟨p,xs,e1,e2,_⟩:=r2;cases e1;exact Classical.byContradiction e2
   | _=>cases m
  exact s1.free hh
 ·refine r2.weak fun a z=>?_;obtain⟨o,ho⟩:=Option.ne_none_iff_exists'.mp (hP a z);rw[s1 _ _ ho]
  exact fun q=>nomatch q
end rules
abbrev Off(P:Addr->Prop)(H H':Hp):Prop:=∀ b o,¬ P b->H b=some o->H' b=some o
def Off.same{H H':Hp}(h:ax H H'){P:Addr->Prop}:Off P H H':=fun b o _ e=>h b o e
mutual
theorem Rep.off{P:Addr->Prop}{K:PySem.W.Frag}{H H':Hp}(hm:∀ b o,P b->H b=some o->c8 o)(k:Off P H H'):∀ {d:RL.D} {v:V},Rep P K H d v->Rep P K H' d v
 | .non,v,h=>by simpa[Rep]using h
 | .bl _,v,h=>by simpa[Rep]using h
 | .int _,v,h=>by simpa[Rep]using h
 | .str _,v,h=>by simpa[Rep]using h
 | .tup ds,v,h=>by
  rw[Rep]at h ⊢;obtain⟨b,xs,e1,e2,e3⟩:=h
  have n:¬ P b:=fun p=>by rcases hm b _ p e2 with⟨z,q⟩ | ⟨z,q⟩ | ⟨z,q⟩<;>cases q
  exact⟨b,xs,e1,k _ _ n e2,af.off hm k e3⟩
 | .lst ds,v,h=>by
  rw[Rep]at h ⊢;obtain⟨b,xs,e1,e0,e2,e3⟩:=h;exact⟨b,xs,e1,e0,k _ _ e0 e2,af.off hm k e3⟩
 | .dK ks ds,v,h=>by
  rw[Rep]at h ⊢;obtain⟨b,xs,e1,e0,e2,el,e3⟩:=h;exact⟨b,xs,e1,e0,k _ _ e0 e2,el,af.off hm k e3⟩
 | .dT ks ds,v,h=>by
  rw[Rep]at h ⊢;obtain⟨b,xs,e1,e0,e2,el,e3⟩:=h;exact⟨b,xs,e1,e0,k _ _ e0 e2,el,af.off hm k e3⟩
 | .scr ds,v,h=>by
  rw[Rep]at h ⊢;obtain⟨b,xs,e1,e2,e3⟩:=h;refine⟨b,xs,e1,?_,af.off hm k e3⟩;rcases e2 with⟨q,e2⟩ | e2
  ·have n:¬ P b:=fun p=>by rcases hm b _ p e2 with⟨z,q⟩ | ⟨z,q⟩ | ⟨z,q⟩<;>cases q
   exact .inl ⟨q,k _ _ n e2⟩
  ·exact .inr e2
 | .obj,v,h=>by rw[Rep]at h ⊢;exact h
 | .exc c,v,h=>by
  rw[Rep]at h ⊢;exact h.keep fun b ob u q=>k _ _ (fun p=>by rcases hm b _ p q with⟨z,y⟩ | ⟨z,y⟩ | ⟨z,y⟩<;>cases y) q
 | .fT ks ds,v,h=>by
  rw[Rep]at h ⊢;obtain⟨b,ob,xs,e1,e2,el,e3⟩:=h;exact⟨b,ob,xs,e1,k _ _ (fun p=>by rcases hm b _ p e2 with⟨z,y⟩ | ⟨z,y⟩ | ⟨z,y⟩<;>cases y) e2,el,af.off hm k e3⟩
 | .fL ds,v,h=>by
  rw[Rep]at h ⊢;obtain⟨b,ob,xs,e1,e2,e3⟩:=h;exact⟨b,ob,xs,e1,k _ _ (fun p=>by rcases hm b _ p e2 with⟨z,y⟩ | ⟨z,y⟩ | ⟨z,y⟩<;>cases y) e2,af.off hm k e3⟩
theorem af.off{P:Addr->Prop}{K:PySem.W.Frag}{H H':Hp}(hm:∀ b o,P b->H b=some o->c8 o)(k:Off P H H'):∀ {ds:List RL.D} {xs:List V},af P K H ds xs->af P K H' ds xs
 | [],xs,h=>by rw[af]at h ⊢;exact h
 | d::r,xs,h=>by
  rw[af]at h ⊢;obtain⟨x,t,e1,e2,e3⟩:=h;exact⟨x,t,e1,Rep.off hm k e2,af.off hm k e3⟩
end
structure gH(K:PySem.W.Frag)(J:L2.It)(ds:List RL.D)(P:Addr->Prop)(H:Hp):Prop where
 go:∀ H' i,Off P H H'->i<ds.length->J.go i H'
 stop:∀ H',Off P H H'->J.stop ds.length H'
 yld:∀ H' i d x H2,Off P H H'->ds[i]?=some d->J.yld i H' x H2->ax H' H2/\(d.imm=true\/ax H H'->Rep nP K H2 d x)
abbrev wQ(K:PySem.W.Frag)(σD:RL.St)(σ:L2.St)(H:Hp)(it:RL.It)(J:L2.It)(ds:List RL.D)(H1:Hp):Prop :=
 gH K J ds nP H1/\∀ (M:List Nat) (P:Addr->Prop),RL.oO M it=true->(∀ b,P b->∃ o,H b=some o/\c8 o)->(∀ (j:Nat) (dj:RL.D) (vj:V),M.contains j=false->σD[j]?=some (some dj)->σ[j]?=some (some vj)->Rep P K H dj vj)->gH K J ds P H1
abbrev tI(K:PySem.W.Frag)(cl:RL.Cl)(it:RL.It):TI:=fun σ H R=>∃ σD ds,RV0 K σD σ H/\RL.bA cl σD it=some ds/\∀ J H1,ax H H1->wQ K σD σ H it J ds H1->R J H1
abbrev SI(X:Cx)(cl:RL.Cl)(tg iter:Expr)(it:RL.It):Prop:=PI X tg iter (tI X.K cl it)
def PI.weak{X:Cx}{tg iter:Expr}{t t':TI}(h:PI X tg iter t)(w:∀ σ H R,t' σ H R->t σ H R):PI X tg iter t':=fun pins s σ H R I q=>h pins s σ H R I (w σ H R q)
def ee{K:PySem.W.Frag}{P:Addr->Prop}{H H':Hp}{d:RL.D}{v:V}(hm:∀ b o,P b->H b=some o->c8 o)(k:Off P H H')(r:Rep nP K H d v)(i:d.imm=true):Rep nP K H' d v :=
 ((r.imm i).off hm k).imm i
def pS{K:PySem.W.Frag}{H:Hp}{a:Addr}{ds:List RL.D}{xs:List V}{P:Addr->Prop}(h:H a=some (.lst xs))(r:af nP K H ds xs)(hp:¬ P a)(hm:∀ b o,P b->H b=some o->c8 o):gH K (Itl K a) ds P H where
 go:=fun H' i k hi=>by
  obtain⟨x,e,_⟩:=r.get (i:=i) (d:=ds[i]) (by simp[]);exact⟨xs,x,SqL.of (k _ _ hp h),e⟩
 stop:=fun H' k=>⟨xs,SqL.of (k _ _ hp h),by rw[r.length];exact Nat.le_refl _⟩
 yld:=fun H' i d x H2 k e y=>by
  obtain⟨z,y⟩:=y;subst z;have hx:=y xs (SqL.of (k _ _ hp h));obtain⟨x',e1,e2⟩:=r.get e;rw[hx]at e1;cases e1;refine⟨ax.refl _,fun q=>?_⟩;rcases q with q | q
  ·exact ee hm k e2 q
  ·exact e2.same q
def sy{K:PySem.W.Frag}{H:Hp}{a:Addr}{ds:List RL.D}{xs:List V}{P:Addr->Prop}(h:H a=some (.frz o (.lst xs)))(r:af nP K H ds xs)(hm:∀ b o,P b->H b=some o->c8 o):gH K (Itl K a) ds P H:=by
 have kp:∀ H',Off P H H'->SqL K H' a xs:=fun H' k=>by
  exact .inl (.inr ⟨o,k _ _ (fun p=>by rcases hm a _ p h with⟨z,q⟩ | ⟨z,q⟩ | ⟨z,q⟩<;>cases q) h⟩)
 exact {
  go:=fun H' i k hi=>by
   obtain⟨x,e,_⟩:=r.get (i:=i) (d:=ds[i]) (by simp[]);exact⟨xs,x,kp _ k,e⟩
  stop:=fun H' k=>⟨xs,kp _ k,by rw[r.length];exact Nat.le_refl _⟩
  yld:=fun H' i d x H2 k e y=>by
   obtain⟨z,y⟩:=y;subst z;have hx:=y xs (kp _ k);obtain⟨x',e1,e2⟩:=r.get e;rw[hx]at e1;cases e1;refine⟨ax.refl _,fun q=>?_⟩;rcases q with q | q
   ·exact ee hm k e2 q
   ·exact e2.same q }
def sX{K:PySem.W.Frag}{H:Hp}{a:Addr}{ds:List RL.D}{xs:List V}{P:Addr->Prop}(h:H a=some (.tup xs))(r:af nP K H ds xs)(hm:∀ b o,P b->H b=some o->c8 o):gH K (Itt K a) ds P H:=by
 have hp:¬ P a:=fun p=>by rcases hm a _ p h with⟨z,q⟩ | ⟨z,q⟩ | ⟨z,q⟩<;>cases q
 exact {
  go:=fun H' i k hi=>by
   obtain⟨x,e,_⟩:=r.get (i:=i) (d:=ds[i]) (by simp[]);exact⟨xs,x,SqT.of (k _ _ hp h),e⟩
  stop:=fun H' k=>⟨xs,SqT.of (k _ _ hp h),by rw[r.length];exact Nat.le_refl _⟩
  yld:=fun H' i d x H2 k e y=>by
   obtain⟨z,y⟩:=y;subst z;have hx:=y xs (SqT.of (k _ _ hp h));obtain⟨x',e1,e2⟩:=r.get e;rw[hx]at e1;cases e1;refine⟨ax.refl _,fun q=>?_⟩;rcases q with q | q
   ·exact ee hm k e2 q
   ·exact e2.same q }
def ke:∀ (n:Nat) (lo:Int) (i:Nat) (d:RL.D),(RL.bM lo n)[i]?=some d->d=.int (lo+i)
 | 0,lo,i,d,h=>by simp[RL.bM]at h
 | n+1,lo,0,d,h=>by simp[RL.bM]at h;simp[h]
 | n+1,lo,i+1,d,h=>by
  rw[ke n (lo+1) i d h];congr 1;lia
def gI:∀ (n:Nat) (lo:Int),(RL.bM lo n).length=n
 | 0,_=>rfl
 | n+1,lo=>by rw[RL.bM,List.length_cons,gI n]
def kq{K:PySem.W.Frag}{H:Hp}{lo:Int}{n:Nat}{P:Addr->Prop}:gH K (Itr lo n) (RL.bM lo n) P H where
 go:=fun H' i k hi=>by rw[gI]at hi;exact hi
 stop:=fun H' k=>by rw[gI];exact Nat.le_refl _
 yld:=fun H' i d x H2 k e y=>by
  obtain⟨z,y⟩:=y;subst z;refine⟨ax.refl _,fun _=>?_⟩;rw[ke n lo i d e,y];exact aO
section rules
variable{X:Cx}{cl:RL.Cl}{tg a b l:Expr}{a' b' e':RL.E}{pos p:Pos}
def DB{t t':TE}{l:Expr}(hl:PE X l t):PI X tg l (fun σ H R=>t σ H fun x H1=>(∃ a,x=.ref a/\(∃ xs,SqL X.K H1 a xs)/\R (Itl X.K a) H1)\/(∃ a,x=.ref a/\(∃ xs,SqT X.K H1 a xs)/\R (Itt X.K a) H1)):=by
 intro pins s σ H R I h;refine thn (hl pins s σ H _ I h) fun v s1 ⟨x,H1,I1,r1,q1⟩=>?_
 rcases q1 with⟨a,e,⟨xs,hq⟩,q⟩ | ⟨a,e,⟨xs,hq⟩,q⟩
 ·subst e;cases r1;obtain⟨its,rv,p,hz⟩:=I1.list hq;refine wpAny_pyIter_list p.isList ⟨s1.heap.objs.size,[s1.heap.objs.size],_,_,H1,rfl,I1.kept fun b o e=>Heap.get?_push_of_some _ e,uq a _,⟨_,Heap.get?_push_size _ rfl,rfl,rfl⟩,fun b hb=>?_,q⟩;rw[show b=s1.heap.objs.size by simpa using hb];exact I1.kB (Nat.le_refl _) (I1.hok.fresh (Nat.le_refl _))
 ·subst e;cases r1;obtain⟨its,rv,p,hz⟩:=I1.tuple hq;refine wpAny_pyIter_tuple (show s1.heap.IsTuple a its.toArray from p) ⟨s1.heap.objs.size,[s1.heap.objs.size],_,_,H1,rfl,I1.kept fun b o e=>Heap.get?_push_of_some _ e,qN a _,⟨_,Heap.get?_push_size _ rfl,rfl,rfl⟩,fun b hb=>?_,q⟩;rw[show b=s1.heap.objs.size by simpa using hb];exact I1.kB (Nat.le_refl _) (I1.hok.fresh (Nat.le_refl _))
def kh{σD:RL.St}{σ:L2.St}{H H1:Hp}{d:RL.D}{v:V}{M:List Nat}{P:Addr->Prop}(r1:Res X.K σD σ H e' d v H1)(z:(RL.avE M e' || RL.aD e')=true)(hP:∀ b,P b->∃ o,H b=some o/\c8 o)
 (av:∀ (j:Nat) (dj:RL.D) (vj:V),M.contains j=false->σD[j]?=some (some dj)->σ[j]?=some (some vj)->Rep P X.K H dj vj):∀ ds a,d=.lst ds->v=.ref a->¬ P a:=by
 intro ds a hd hv;subst hd hv;rw[Bool.or_eq_true]at z;rcases z with z | z
 ·obtain⟨p,xs,e1,e2,_⟩:=aP (r1.av M z P (fun b q=>by obtain⟨o,ho,_⟩:=hP b q;rw[ho];exact fun z=>nomatch z) av);cases e1;exact e2
 ·intro q;obtain⟨o,ho,_⟩:=hP a q;rw[r1.fresh z rfl a rfl]at ho;cases ho
def da{P:Addr->Prop}{H H1:Hp}(s:ax H H1)(hP:∀ b,P b->∃ o,H b=some o/\c8 o):∀ b o,P b->H1 b=some o->c8 o:=fun b o q e=>by
 obtain⟨o',ho,m⟩:=hP b q;rw[s _ _ ho]at e;cases e;exact m
def eH{H1:Hp}:∀ b o,nP b->H1 b=some o->c8 o:=fun b o q=>q.elim
def BU(hl:SE X cl l e')(hs:True):PI X tg l (fun σ H R=>∃ σD d ds,RV0 X.K σD σ H/\RL.ev cl σD e'=some d/\RL.iw d=some ds/\∀ J H1,ax H H1->wQ X.K σD σ H (.seq e') J ds H1->R J H1):=by
 refine PI.weak (DB (t':=tE X.K cl e') hl) fun σ H R h=>?_;obtain⟨σD,d,ds,rv,e,ei,k⟩:=h;refine⟨σD,d,rv,e,fun v H1 r1=>?_⟩
 cases d with
 |fL es=>
  cases ei;have r:=r1.rep;obtain⟨p,ob,xs,rfl,hp,rs⟩:=r;exact .inl ⟨p,rfl,⟨xs,.inl (.inr ⟨ob,hp⟩)⟩,k _ _ r1.same ⟨sy hp rs eH,fun M P z hP av=>sy hp rs (da r1.same hP)⟩⟩
 |lst es=>
  obtain⟨p,xs,rfl,hp,rs⟩:=hJ (show RL.items (.lst es)=some ds from ei) r1.rep
  rcases hp with⟨hp,e9⟩ | ⟨hp,e9⟩ | ⟨hp,e9⟩
  ·cases e9;exact .inl ⟨p,rfl,⟨xs,SqL.of hp⟩,k _ _ r1.same ⟨pS hp rs (fun z=>z) eH,fun M P z hP av=>pS hp rs (kh r1 z hP av _ _ rfl rfl) (da r1.same hP)⟩⟩
  ·cases e9
  ·cases e9
 |tup es=>
  obtain⟨p,xs,rfl,hp,rs⟩:=hJ (show RL.items (.tup es)=some ds from ei) r1.rep
  rcases hp with⟨hp,e9⟩ | ⟨hp,e9⟩ | ⟨hp,e9⟩
  ·cases e9
  ·exact .inr ⟨p,rfl,⟨xs,SqT.of hp⟩,k _ _ r1.same ⟨sX hp rs eH,fun M P z hP av=>sX hp rs (da r1.same hP)⟩⟩
  ·cases e9
 | _=>cases ei
def iv{x y:RL.D}{ds:List RL.D}(h:RL.cz x y=some ds):∃ i j:Int,x=.int i/\y=.int j/\(-(2 ^ 62)<=i/\i<2 ^ 62/\-(2 ^ 62)<=j/\j<2 ^ 62)/\(j-i).toNat<=RL.most/\ds=RL.bM i (j-i).toNat:=by
 have no:∀ {o:Option (List RL.D)},o=none->o=some ds->False:=fun e h=>by rw[e]at h;cases h
 cases x with
 | int i=>cases y with
  |int j=>
   obtain⟨hc,e⟩:=cb h
   have lo:-(2 ^ 62:Int)<=-(2 ^ 60):=by decide
   have hi:(2 ^ 60:Int)<2 ^ 62:=by decide
   exact⟨i,j,rfl,rfl,⟨Int.le_trans lo hc.2.1,Int.lt_trans hc.2.2.1 hi,Int.le_trans lo hc.2.2.2.1,Int.lt_trans hc.2.2.2.2 hi⟩,hc.1,e⟩
  | _=>exact(no rfl h).elim
 | _=>exact(no rfl h).elim
def xN(hg:Gl X "range")(hm:X.mg "range" = none)(ha:SE X cl a a')(hn:noStar a=true):SI X cl tg (.Call (.Name "range" p) [a] [] pos) (.rng1 a'):=by
 refine PI.weak (rZ hg hm (bx ha cG hn) (au [] hn)) fun σ H R h=>?_;obtain⟨σD,ds,rv,e,k⟩:=h;obtain⟨x,ea,e⟩:=bind_some e;obtain⟨i,j,e1,rfl,hb,_,rfl⟩:=iv e;cases e1;refine⟨σD,[.int j],rv,by rw[RL.evs,ea];rfl,fun vs H1 s1 r1=>?_⟩;obtain⟨v,t,rfl,r2,r3⟩:=r1;subst r3;refine⟨j,by rw[ah r2],hb.2.2.1,hb.2.2.2,?_⟩
 have hz:(j-0).toNat=j.toNat:=by simp
 rw[hz]at k;exact k _ _ s1 ⟨kq,fun _ _ _ _ _=>kq⟩
def yz(hg:Gl X "range")(hm:X.mg "range" = none)(ha:SE X cl a a')(hb:SE X cl b b')(hn:noStar a=true)(hn2:noStar b=true):SI X cl tg (.Call (.Name "range" p) [a,b] [] pos) (.rng2 a' b'):=by
 refine PI.weak (ur hg hm (bx ha (bx hb cG hn2) hn) (by rw[au _ hn,au _ hn2];rfl) (au [] hn2)) fun σ H R h=>?_;obtain⟨σD,ds,rv,e,k⟩:=h;obtain⟨x,ea,e⟩:=bind_some e;obtain⟨y,eb,e⟩:=bind_some e;obtain⟨i,j,rfl,rfl,hb,_,rfl⟩:=iv e;refine⟨σD,[.int i,.int j],rv,by rw[RL.evs,ea,RL.evs,eb];rfl,fun vs H1 s1 r1=>?_⟩;obtain⟨v,t,rfl,r2,r3⟩:=r1;obtain⟨u,t,rfl,r4,r5⟩:=r3;subst r5;exact⟨i,j,by rw[ah r2,ah r4],hb,k _ _ s1 ⟨kq,fun _ _ _ _ _=>kq⟩⟩
end rules
end RS
namespace L2
open PySem PySem.Spec PyProof.Rows
abbrev fA(ifs:List Expr)(env:Env):Sem Bool:=forIn ifs true fun c r=>if r=true then do let ok <- isTrue c env (eval c env);pure (ForInStep.yield ok)else pure (ForInStep.yield r)
section
def Ak(h:wpAny M A m P (fun _ _=>False) s):wpAny M A m P E s :=
 wpAny_mono h (fun _ _ q=>q) fun _ _ z=>z.elim
def cU(h:wpAny M A m (fun a s1=>wpAny M A (k a) P E s1) (fun _ _=>False) s):wpAny M A (m >>= k) P E s:=wpAny_bind (Ak h)
end
section
abbrev lK(prog:Program)(w:World)(A:Around)(elt tg:Expr)(ifs:List Expr)(it acc:Value)(env:Env)(stop next:Shared->Prop)(s:Shared):Prop :=
 wpAny (model prog w) A (pyNext it) (fun r s1=>match r with
  | none=>stop s1
  | some v=>wpAny (model prog w) A (letOwnedTupleGo tg it v) (fun _ s2=>wpAny (model prog w) A (assign tg env v) (fun _ s3=>wpAny (model prog w) A (fA ifs env) (fun ok s4 =>
     if ok=true then wpAny (model prog w) A (eval elt env) (fun x s5=>wpAny (model prog w) A (call (.builtin "list.append") [acc,x]) (fun _ s6=>next s6) (fun _ _=>False) s5) (fun _ _=>False) s4
     else next s4) (fun _ _=>False) s3) (fun _ _=>False) s2) (fun _ _=>False) s1) (fun _ _=>False) s
def uS(h:lK prog w A elt tg ifs it acc env stop next s) :
  wpAny (model prog w) A (compTurn (.ListComp elt [⟨tg,iter,ifs,0⟩] scope pos) 0 it acc env) (fun fin s'=>match fin with
   | .done f=>f=.next/\stop s'
   | .again c=>c=.compLoop (.ListComp elt [⟨tg,iter,ifs,0⟩] scope pos) 0 it acc env/\next s') E s:=by
 apply wpAny_bind;apply wpAny_standAt;apply cU;refine thn h fun r s1 h1=>?_
 cases r with
 |none=>
  apply wpAny_pure;exact⟨rfl,h1⟩
 |some v=>
  apply cU;refine thn h1 fun _ s2 h2=>?_;apply cU;refine thn h2 fun _ s3 h3=>?_;apply cU;refine thn h3 fun ok s4 h4=>?_;cases ok
  ·apply wpAny_pure;exact⟨rfl,h4⟩
  ·apply wpAny_bind;apply cU;refine thn h4 fun x s5 h5=>?_;apply cU;refine thn h5 fun _ s6 h6=>?_;apply wpAny_pure;apply wpAny_pure;exact⟨rfl,h6⟩
def t9(I:Nat->Shared->Prop)(turn:∀ n s,I n s->lK prog w A elt tg ifs it acc env (R (.ok .next)) (fun s'=>∃ m,m<n/\I m s') s)
 (n:Nat)(h:I n s):codeAny (model prog w) A (.compLoop (.ListComp elt [⟨tg,iter,ifs,0⟩] scope pos) 0 it acc env) R s :=
 codeAny_loop rfl I (fun n s hI=>wpAny_noted (thn (uS (turn n s hI)) fun fin s' q=>by
  cases fin with
  |done f=>
   obtain⟨rfl,q⟩:=q;exact q
  | again c=>exact q)) n h
end
def iS:∀ (names:List (Str × NameKind)) (n:Nat) (acc:List (Str × Addr)) (x:Str) (c:Addr),(cellsFrom n names acc).lookup x=some c->(acc.lookup x=some c/\(x,NameKind.cell)∉names)\/(n<=c/\(x,NameKind.cell)∈names)
 | [],n,acc,x,c,h=>.inl ⟨h,by simp⟩
 | (nm,k)::r,n,acc,x,c,h=>by
  unfold cellsFrom at h;by_cases hk:(k == NameKind.cell)=true
  ·rw[if_pos hk]at h
   have ek:k=.cell:=by simpa using hk
   subst ek
   rcases iS r (n+1) ((nm,n)::acc) x c h with⟨a,b⟩ | ⟨a,b⟩
   ·rw[List.lookup_cons]at a
    cases hx:x == nm with
    |true=>
     rw[hx]at a;cases a
     have:x=nm:=by simpa using hx
     subst this;exact .inr ⟨Nat.le_refl _,List.mem_cons_self ..⟩
    |false=>
     rw[hx]at a;refine .inl ⟨a,fun z=>?_⟩;rcases List.mem_cons.mp z with z | z
     ·cases z;simp at hx
     ·exact b z
   ·exact .inr ⟨Nat.le_of_succ_le a,List.mem_cons_of_mem _ b⟩
  ·rw[if_neg hk]at h
   rcases iS r n acc x c h with⟨a,b⟩ | ⟨a,b⟩
   ·refine .inl ⟨a,fun z=>?_⟩;rcases List.mem_cons.mp z with z | z
    ·cases z;exact hk (by simp)
    ·exact b z
   ·exact .inr ⟨a,List.mem_cons_of_mem _ b⟩
def kW:∀ (names:List (Str × NameKind)) (n:Nat) (acc:List (Str × Addr)) (x:Str),(x,NameKind.cell)∉names->(cellsFrom n names acc).lookup x=acc.lookup x
 | [],n,acc,x,_=>rfl
 | (nm,k)::r,n,acc,x,h=>by
  have hr:=fun z=>h (List.mem_cons_of_mem _ z);unfold cellsFrom;by_cases hk:(k == NameKind.cell)=true
  ·rw[if_pos hk,kW r (n+1) _ x hr,List.lookup_cons]
   have ek:k=.cell:=by simpa using hk
   subst ek
   have:(x == nm)=false:=by
    rw[beq_eq_false_iff_ne];intro z;subst z;exact h (List.mem_cons_self ..)
   rw[this]
  ·rw[if_neg hk];exact kW r n acc x hr
def mK:∀ (names:List (Str × NameKind)) (n:Nat) (acc:List (Str × Addr)),(∀ x c,acc.lookup x=some c->c<n)->(∀ x y c,acc.lookup x=some c->acc.lookup y=some c->x=y)->∀ x y c,(cellsFrom n names acc).lookup x=some c->(cellsFrom n names acc).lookup y=some c->x=y
 | [],n,acc,_,hi,x,y,c,h1,h2=>hi x y c h1 h2
 | (nm,k)::r,n,acc,hl,hi,x,y,c,h1,h2=>by
  unfold cellsFrom at h1 h2;by_cases hk:(k == NameKind.cell)=true
  ·rw[if_pos hk]at h1 h2;refine mK r (n+1) ((nm,n)::acc) (fun x c e=>?_) (fun x y c e1 e2=>?_) x y c h1 h2
   ·rw[List.lookup_cons]at e
    cases hx:x == nm with
    | true=>rw[hx]at e;cases e;exact Nat.lt_succ_self _
    | false=>rw[hx]at e;exact Nat.lt_succ_of_lt (hl x c e)
   ·rw[List.lookup_cons]at e1 e2
    cases hx:x == nm with
    |true=>
     rw[hx]at e1;cases e1
     cases hy:y == nm with
     |true=>
      have a:x=nm:=by simpa using hx
      have b:y=nm:=by simpa using hy
      rw[a,b]
     |false=>
      rw[hy]at e2;exact absurd (hl y n e2) (Nat.lt_irrefl _)
    |false=>
     rw[hx]at e1
     cases hy:y == nm with
     |true=>
      rw[hy]at e2;cases e2;exact absurd (hl x n e1) (Nat.lt_irrefl _)
     |false=>
      rw[hy]at e2;exact hi x y c e1 e2
  ·rw[if_neg hk]at h1 h2;exact mK r n acc hl hi x y c h1 h2
def kS:∀ (names:List (Str × NameKind)) (h:Heap) (acc:List (Str × Addr)) (x:Str) (c:Addr),(cellsFrom h.objs.size names acc).lookup x=some c->acc.lookup x=some c\/(pushCells h names).IsCell c none
 | [],h,acc,x,c,e=>.inl e
 | (nm,k)::r,h,acc,x,c,e=>by
  unfold cellsFrom at e;unfold pushCells;by_cases hk:(k == NameKind.cell)=true
  ·rw[if_pos hk]at e ⊢
   have e':(cellsFrom (h.push { cls:=.type "cell",data:=.cell none }).objs.size r ((nm,h.objs.size)::acc)).lookup x=some c:=by rw[Heap.size_push];exact e
   rcases kS r (h.push { cls:=.type "cell",data:=.cell none }) ((nm,h.objs.size)::acc) x c e' with a | a
   ·rw[List.lookup_cons]at a
    cases hx:x == nm with
    |true=>
     rw[hx]at a;cases a;exact .inr ⟨_,pushCells_keeps r _ _ _ (Heap.get?_push_size _ rfl),rfl⟩
    |false=>
     rw[hx]at a;exact .inl a
   ·exact .inr a
  ·rw[if_neg hk]at e ⊢;exact kS r h acc x c e
def yb{M:Model}{A:Around}{E:Value->Shared->Prop}{s:Shared}{scope:Scope}{globals:Addr}{closure:List (Str × Addr)}{qual:Str}{func:Option Addr}{code:Value}{outer:Env}{builtins:Addr}{Q:Env->Shared->Prop}
 (hQ:Q (newEnv scope s.heap.objs.size globals (cellsFrom (s.heap.objs.size+1) scope.names closure) qual func code (some outer) builtins) { s with heap:=pushCells (s.heap.push { cls:=.type "dict",data:=.dict #[] }) scope.names }) :
  wpAny M A (newFunctionEnv scope globals closure [] qual func code (some outer) builtins) Q E s:=by
 simp only[newFunctionEnv,Option.isSome_some,if_true];refine wpAny_bind (wpAny_alloc ?_);refine wpAny_bind (wpAny_layCells _ (fun name kind cells=>by cases hkc:kind == NameKind.cell<;>simp[]) _ _ _ _ ?_);rw[show({ s with heap:=s.heap.push { cls:=.type "dict",data:=.dict #[] } }:Shared).heap.objs.size=s.heap.objs.size+1 from Heap.size_push ..];refine wpAny_bind ?_;exact wpAny_pure (wpAny_pure hQ)
abbrev blk(X:Cx)(scope:Scope)(cls:List (Str × Addr))(C:Addr)(fp:List Addr)(s:Shared)(H:Hp):Cx where
 prog:=X.prog
 w:=X.w
 K:=X.K
 mg:=X.mg
 base:=X.base
 A:=X.A
 N:=X.N
 s₀:=s
 H₀:=H
 env:=compEnvC scope cls C X.env
 outer:=X.stack
 stack:=X.stack
 ex:=fp
 fn:=fun x=>scope.names.lookup x == some .cell
 calm:=X.calm
 pn:=[]
 xe:=fun _ _=>False
structure eG(scope:Scope)(sc:Scope)(cls:List (Str × Addr))(cells:List (Str × Addr)):Prop where
 kind:scope.kind=.function
 own:∀ x∈scope.names,x.2=.cell->scope.names.lookup x.1=some .cell
 loc:∀ x∈scope.names,x.2=.local->scope.names.lookup x.1=some .local
 sub:∀ x c,cls.lookup x=some c->cells.lookup x=some c
 has:∀ x,scope.names.lookup x=some .free->∃ c,cls.lookup x=some c
 vis:∀ x,scope.names.lookup x=some .free->sc.names.lookup x=some .cell\/sc.names.lookup x=some .free
def bH{env:Env}:∀ {names:List (Str × NameKind)} {x:Str} {k:NameKind},
  (names.map fun(n,k)=>if(k == NameKind.free&&env.scope.kind == .function&&env.kindOf n == some .cell)then(n,NameKind.cell)else(n,k)).lookup x=some k ->
  names.lookup x=some k\/(k=.cell/\names.lookup x=some .free/\env.kindOf x=some .cell)
 | [],x,k,h=>by simp at h
 | (n,k')::r,x,k,h=>by
  have ih:=@bH env r x k;rw[List.map_cons]at h
  cases hx:x == n with
  |true=>
   have en:x=n:=by simpa using hx
   subst en;by_cases hc:(k' == NameKind.free&&env.scope.kind == .function&&env.kindOf x == some .cell)=true
   ·simp only[hc,if_true]at h;rw[List.lookup_cons,hx]at h;cases h;simp only[Bool.and_eq_true,beq_iff_eq]at hc;refine .inr ⟨rfl,?_,hc.2⟩;rw[List.lookup_cons,hx,hc.1.1]
   ·simp only[Bool.not_eq_true]at hc;simp only[hc,Bool.false_eq_true,if_false]at h;rw[List.lookup_cons,hx]at h;cases h;exact .inl (by rw[List.lookup_cons,hx])
  |false=>
   have h':(r.map fun(n,k)=>if(k == NameKind.free&&env.scope.kind == .function&&env.kindOf n == some .cell)then(n,NameKind.cell)else(n,k)).lookup x=some k:=by
    by_cases hc:(k' == NameKind.free&&env.scope.kind == .function&&env.kindOf n == some .cell)=true
    ·simp only[hc,if_true]at h;rw[List.lookup_cons,hx]at h;exact h
    ·simp only[Bool.not_eq_true]at hc;simp only[hc,Bool.false_eq_true,if_false]at h;rw[List.lookup_cons,hx]at h;exact h
   rcases ih h' with q | ⟨q1,q2,q3⟩
   ·exact .inl (by rw[List.lookup_cons,hx];exact q)
   ·exact .inr ⟨q1,by rw[List.lookup_cons,hx];exact q2,q3⟩
abbrev xr(X:Cx)(scope:Scope)(σ σB:St):Prop:=σB.length=σ.length/\∀ (i:Nat) (x:Str) (v:V),X.N[i]?=some x->σB[i]?=some (some v)->σ[i]?=some (some v)/\scope.names.lookup x≠some .local/\scope.names.lookup x≠some .cell
section
def Inv.hxb(I:Inv X pins σ H s):HX (blk X scope cls C fp s H):=by
 rcases I.ok.hd.2 with z | ⟨h,o,u,vs,h1,h2,h3⟩
 ·exact .inl z
 ·exact .inr ⟨h,o,u,vs,h1,I.base.cI _ _ _ h2,h3⟩
def x5(I:Inv X pins σ H s)(S:eG scope X.env.scope cls X.env.cells)(hf:∀ b∈fp,gG X pins H b/\b<s.heap.objs.size)(ho:xr X scope σ σB)
 (hns:h'.Ns s.heap.objs.size (fun _=>none))(hk:∀ b o,s.heap.get? b=some o->h'.get? b=some o)(hcl:∀ x c,(cellsFrom (s.heap.objs.size+1) scope.names cls).lookup x=some c->cls.lookup x=some c\/h'.IsCell c none) :
  Inv (blk X scope (cellsFrom (s.heap.objs.size+1) scope.names cls) s.heap.objs.size fp s H) [] σB H { s with heap:=h',toks:=t }:=by
 have hC:=I.hok.fresh (Nat.le_refl _)
 have clt:∀ x c,cls.lookup x=some c->c<s.heap.objs.size:=fun x c e=>by
  obtain⟨v,q⟩:=I.cell x c (S.sub x c e);exact q.lt
 have cas:∀ x c,(cellsFrom (s.heap.objs.size+1) scope.names cls).lookup x=some c->(X.env.cells.lookup x=some c/\c<s.heap.objs.size)\/(s.heap.objs.size+1<=c/\scope.names.lookup x=some .cell):=fun x c e=>by
  rcases iS _ _ _ _ _ e with⟨a,_⟩ | ⟨a,b⟩
  ·exact .inl ⟨S.sub x c a,clt x c a⟩
  ·exact .inr ⟨a,S.own _ b rfl⟩
 have fre:∀ x c,cls.lookup x=some c->scope.names.lookup x=some .free->(cellsFrom (s.heap.objs.size+1) scope.names cls).lookup x=some c:=fun x c e f=>by
  rw[kW _ _ _ _ fun z=>by rw[S.own _ z rfl]at f;cases f];exact e
 refine⟨⟨I.ok.mod,?_,I.ok.glob,I.ok.blt,Nat.le_refl _,fun x y c h1 h2=>mK _ _ _ (fun x c e=>Nat.lt_succ_of_lt (clt x c e)) (fun x y c e1 e2=>I.ok.inj x y c (S.sub x c e1) (S.sub y c e2)) x y c h1 h2,fun x hx=>?_,fun x c z e=>?_,⟨I.ok.hd.1,I.hxb⟩,I.ok.frames,.inl rfl,fun b hb=>?_,fun b o e=>I.bs b o e,Nat.le_trans I.ok.bsz I.sz,fun b o e hb=>?_,fun b hb=>?_,I.stack,I.iR⟩,
  rfl,I.bare,Un.kept hk,⟨_,hns,fun i x v h1 h2 h3=>?_⟩,fun x c e=>?_,hC,fun x c e=>?_,fun p hp=>absurd hp (by simp[blk]),I.hok.kept hk,ho.1.trans I.len⟩
 ·exact S.kind
 ·have hx:=hx
  have key:scope.names.lookup x=some .cell\/scope.names.lookup x=some .free:=by
   rcases hx with hx | hx
   ·rcases bH hx with q | ⟨_,q,_⟩
    ·exact .inl q
    ·exact .inr q
   ·rcases bH hx with q | ⟨q,_⟩
    ·exact .inr q
    ·cases q
  rcases key with q | q
  ·have:=PySem.W.cellsFrom_some scope.names (s.heap.objs.size+1) cls (.inl q);exact Option.isSome_iff_exists.mp this
  ·obtain⟨c,hc⟩:=S.has x q;exact⟨c,fre x c hc q⟩
 ·have z:(scope.names.lookup x == some .cell)=true:=z
  rcases iS _ _ _ _ _ (show(cellsFrom (s.heap.objs.size+1) scope.names cls).lookup x=some c from e)with⟨_,b⟩ | ⟨b,_⟩
  ·exact absurd (PySem.mem_of_lookup (by simpa using z)) b
  ·exact Nat.le_of_succ_le b
 ·obtain⟨⟨f0,f1,f2,f3,f4,f5⟩,f6⟩:=hf b hb;refine⟨Nat.ne_of_lt f6,fun x c e=>?_⟩
  rcases cas x c e with⟨a,_⟩ | ⟨a,_⟩
  ·exact f4 x c a
  ·exact Nat.ne_of_gt (Nat.lt_trans f6 a)
 ·obtain⟨⟨f0,f1,f2,f3,f4,f5⟩,f6⟩:=hf b hb;rcases f3 with z | z
  ·exact I.ok.gN b o e z
  ·exact absurd (Nat.lt_of_lt_of_le (Heap.lt_size e) I.ok.bsz) (Nat.not_lt.mpr z)
 ·obtain⟨⟨f0,f1,f2,f3,f4,f5⟩,f6⟩:=hf b hb;intro z;rcases List.mem_cons.mp (I.oD b z)with e | e
  ·exact f1 e
  ·exact f2 e
 ·obtain⟨h4,h5,h6⟩:=ho.2 i x v h1 h2;have h3:=h3
  have key:scope.names.lookup x=some .free:=by
   rcases h3 with z | z | z
   ·rcases bH z with q | ⟨q,_⟩
    ·exact absurd q h5
    ·cases q
   ·rcases bH z with q | ⟨_,q,_⟩
    ·exact absurd q h6
    ·exact q
   ·rcases bH z with q | ⟨q,_⟩
    ·exact q
    ·cases q
  obtain⟨c,hc⟩:=S.has x key;have hcx:=S.sub x c hc;obtain⟨m,hn,hl⟩:=I.loc;have hv:Vis X.env.scope x:=.inr (S.vis x key);obtain⟨u,ru,lk⟩:=hl i x v h1 h4 hv;refine⟨u,ru,.inr ⟨?_,c,fre x c hc key,?_⟩⟩
  ·rcases h3 with z | z
   ·rcases bH z with q | ⟨q,_⟩
    ·exact absurd q h5
    ·cases q
   ·exact z
  ·rcases lk with⟨z,_⟩ | ⟨_,c',e',q⟩
   ·have z:X.env.scope.names.lookup x=some .local:=z;rcases S.vis x key with z' | z'<;>(rw[z]at z';cases z')
   ·rw[hcx]at e';cases e';obtain⟨o,g1,g2⟩:=q;exact⟨o,hk _ _ g1,g2⟩
 ·rcases hcl x c e with a | a
  ·obtain⟨v,q⟩:=I.cell x c (S.sub x c a);obtain⟨o,h1,h2⟩:=q;exact⟨v,o,hk _ _ h1,h2⟩
  ·exact⟨none,a⟩
 ·rcases cas x c e with⟨a,_⟩ | ⟨a,_⟩
  ·exact I.cy x c a
  ·exact I.hok.fresh (Nat.le_of_succ_le a)
abbrev gv(wi:TI)(clr:St->St)(g:TG)(tc:TT)(te:TE):TE:=fun σ H Q=>wi σ H fun J H1=>∀ l,H1 l=none->∃ W:Nat->Nat->List V->Hp->Prop,(∃ m,W 0 m [] (upd H1 l (.lst []))) /\
 ∀ i m ys H2,W i m ys H2->H2 l=some (.lst ys)/\((J.stop i H2/\Q (.ref l) H2)\/(J.go i H2/\∀ x H3,J.yld i H2 x H3->g x (clr σ) H3 fun σ4 H4=>tc σ4 H4 fun k H5 =>
  if k=true then te σ4 H5 fun y H6=>H6 l=some (.lst ys)/\ys.length<sizeLine/\∃ m',m'<m/\W (i+1) m' (ys++[y]) (upd H6 l (.lst (ys++[y])))else ∃ m',m'<m/\W (i+1) m' ys H5))
structure m8(X:Cx)(scope:Scope)(tg:Expr)(ifs:List Expr)(elt:Expr)(clr:St->St)(g:TG)(tc:TT)(te:TE):Prop where
 htg:∀ cls C fp s H,PG (blk X scope cls C fp s H) tg g
 htc:∀ cls C fp s H pins s' σ H' Q,Inv (blk X scope cls C fp s H) pins σ H' s'->tc σ H' Q->wpAny (model X.prog X.w) X.A (fA ifs (compEnvC scope cls C X.env)) (TP (blk X scope cls C fp s H) pins σ Q) (fun _ _=>False) s'
 hte:∀ cls C fp s H,PE (blk X scope cls C fp s H) elt te
 zb:∀ σ:St,σ.length=X.N.length->xr X scope σ (clr σ)
 xu:∀ (x:V) (σ:St) (H:Hp) (Q:St->Hp->Prop),g x (clr σ) H Q->g x (clr σ) H fun σ2 H2=>Q σ2 H2/\(clr σ).length=σ2.length/\∀ (i:Nat) v,(clr σ)[i]?=some (some v)->σ2[i]?=some (some v)
def lO{elt tg iter:Expr}{ifs:List Expr}{pos:Pos}{wi:TI}{clr:St->St}{g:TG}{tc:TT}{te:TE}{Q:VK}{RR:Value->Addr->Result->Shared->Prop}{CM:Cx->Prop}(hc:∀ {pins:List (Addr × Obj)} {σ:St} {H:Hp} {s:Shared} (cls:List (Str × Addr)) (C:Addr) (fp:List Addr),Inv X pins σ H s->CM (blk X scope cls C fp s H))(S:eG scope X.env.scope cls X.env.cells)
 (hi:PI' CM X tg iter wi)(B:m8 X scope tg ifs elt clr g tc te)(I:Inv X pins σ H s)(h:gv wi clr g tc te σ H Q)
 (hRR:∀ l C H' s',Inv X pins σ H' s'->(∃ m,s'.heap.Ns C m)->H' C=none->C≠X.env.locals->X.s₀.heap.objs.size<=C->(∀ x c,X.env.cells.lookup x=some c->c≠C)->(∀ p∈X.pn++pins,p.1≠C)->Q (.ref l) H'->RR (.ref l) C (.ok .next) s') :
  wpAny (model X.prog X.w) X.A (eval iter X.env) (fun x s1=>wpAny (model X.prog X.w) X.A (pyIter x) (fun it s2=>wpAny (model X.prog X.w) X.A (newList []) (fun acc s3 =>
   wpAny (model X.prog X.w) X.A (newFunctionEnv scope X.env.globals cls [] X.env.qual none .none (some X.env)) (fun cenv s4 =>
    codeAny (model X.prog X.w) X.A (.compStart (.ListComp elt [⟨tg,iter,ifs,0⟩] scope pos) 0 it acc { cenv with scope:=relabel scope X.env }) (RR acc cenv.locals) s4) X.xe s3) X.xe s2) X.xe s1) X.xe s:=by
 refine thn (hi pins s σ H _ I h) fun x s1 h1=>thn h1 fun itv s2 h2=>?_;obtain⟨it,fp,tn,J,H2,e,I2,T,st2,f2,h3⟩:=h2;subst e
 have flt:∀ b∈fp,b<s2.heap.objs.size:=fun b hb=>by
  obtain⟨o,e,_⟩:=T.obj _ _ st2 b hb;exact Heap.lt_size e
 refine wpAny_newObj_type ?_
 have I3:Inv X pins σ (upd H2 s2.heap.objs.size (.lst [])) { s2 with heap:=s2.heap.push { cls:=.type "list",dict:=none,data:=.seq ([]:List Value).toArray } } :=
  I2.laid (t':=s2.toks) (fun b u e=>Heap.get?_push_of_some _ e) (Nat.le_refl _) ⟨Nat.zero_le _,[],0,.nil,Heap.get?_push_size _ rfl⟩
 have hl2:H2 s2.heap.objs.size=none:=I2.hok.fresh (Nat.le_refl _);obtain⟨W,⟨m0,w0⟩,turn⟩:=h3 s2.heap.objs.size hl2
 have f3:∀ b∈fp,gG X pins (upd H2 s2.heap.objs.size (.lst [])) b/\b<(s2.heap.push { cls:=.type "list",dict:=none,data:=.seq ([]:List Value).toArray }).objs.size:=fun b hb=>by
  obtain⟨z0,z⟩:=f2 b hb;refine⟨⟨?_,z⟩,?_⟩
  ·rw[aB (Nat.ne_of_lt (flt b hb))];exact z0
  ·rw[Heap.size_push];exact Nat.lt_succ_of_lt (flt b hb)
 generalize hs3:({ s2 with heap:=s2.heap.push { cls:=.type "list",dict:=none,data:=.seq ([]:List Value).toArray } }:Shared)=s3 at I3
 have hs3h:s3.heap=s2.heap.push { cls:=.type "list",dict:=none,data:=.seq ([]:List Value).toArray }:=by rw[<-hs3]
 rw[<-hs3h]at f3
 have st3:tn 0 s3.heap:=T.keep _ _ _ st2 fun b hb o e=>by rw[hs3h];exact Heap.get?_push_of_some _ e
 refine yb ?_;have k4:∀ b o,s3.heap.get? b=some o->(pushCells (s3.heap.push { cls:=.type "dict",data:=.dict #[] }) scope.names).get? b=some o:=fun b o e=>pushCells_keeps _ _ b o (Heap.get?_push_of_some _ e);have hns4:(pushCells (s3.heap.push { cls:=.type "dict",data:=.dict #[] }) scope.names).Ns s3.heap.objs.size (fun _=>none):=(Heap.Ns.new s3.heap (.type "dict")).keeps (pushCells_keeps _ _);have hcl4:∀ x c,(cellsFrom (s3.heap.objs.size+1) scope.names cls).lookup x=some c->cls.lookup x=some c\/(pushCells (s3.heap.push { cls:=.type "dict",data:=.dict #[] }) scope.names).IsCell c none:=fun x c e=>kS scope.names (s3.heap.push { cls:=.type "dict",data:=.dict #[] }) cls x c (by rw[Heap.size_push];exact e);generalize pushCells (s3.heap.push { cls:=.type "dict",data:=.dict #[] }) scope.names=h4 at k4 hns4 hcl4
 have I4:Inv (blk X scope (cellsFrom (s3.heap.objs.size+1) scope.names cls) s3.heap.objs.size fp s3 (upd H2 s2.heap.objs.size (.lst []))) [] (clr σ) (upd H2 s2.heap.objs.size (.lst [])) { s3 with heap:=h4 } :=
  x5 (t:=s3.toks) I3 S f3 (B.zb σ I.len) hns4 k4 hcl4
 generalize hs4:({ s3 with heap:=h4 }:Shared)=s4 at I4
 have hs4h:s4.heap=h4:=by rw[<-hs4]
 generalize hH3:upd H2 s2.heap.objs.size (.lst [])=H3 at I3 I4 w0
 have st4:tn 0 s4.heap:=T.keep _ _ _ st3 fun b hb o e=>by rw[hs4h];exact k4 b o e
 have fn4:∀ b∈fp,H3 b=none:=fun b hb=>by rw[<-hH3];exact(f3 b hb).1.1
 have stat:∀ {H':Hp} {σ':St} {s':Shared},Inv (blk X scope (cellsFrom (s3.heap.objs.size+1) scope.names cls) s3.heap.objs.size fp s3 H3) [] σ' H' s'->(∀ b∈fp,H' b=none)->∀ b∈fp,gG (blk X scope (cellsFrom (s3.heap.objs.size+1) scope.names cls) s3.heap.objs.size fp s3 H3) [] H' b :=
  fun {H' σ' s'} J hn b hb=>⟨hn b hb,(J.ok.exf b hb).1,J.ok.gS b hb,.inl hb,(J.ok.exf b hb).2,fun p hp=>absurd hp (by simp[blk])⟩
 have fin:∀ {H':Hp} {s':Shared},Inv (blk X scope (cellsFrom (s3.heap.objs.size+1) scope.names cls) s3.heap.objs.size fp s3 H3) [] (clr σ) H' s'->Q (.ref s2.heap.objs.size) H'->RR (.ref s2.heap.objs.size) s3.heap.objs.size (.ok .next) s':=fun {H' s'} J q=>by
  obtain⟨m,hn,_⟩:=J.loc
  have J1:Inv X pins σ H' s':=I3.mj (s':=s') (ch:=fp) (J.os.trans rfl) J.base J.hok J.bare fun b hb=>by
   obtain⟨⟨g0,g1,g2,g3,g4,g5⟩,_⟩:=f3 b hb;exact⟨g3,g1,g4,g5⟩
  refine hRR _ _ H' s' J1 ⟨m,hn⟩ J.free (Nat.ne_of_gt I3.lt) I3.sz (fun x c e=>?_) (fun p hp=>?_) q
  ·obtain⟨v,z⟩:=I3.cell x c e;exact Nat.ne_of_lt z.lt
  ·exact Nat.ne_of_lt (Heap.lt_size (I3.pin p hp).1)
 have loop:codeAny (model X.prog X.w) X.A (.compLoop (.ListComp elt [⟨tg,iter,ifs,0⟩] scope pos) 0 (.ref it) (.ref s2.heap.objs.size) (compEnvC scope (cellsFrom (s3.heap.objs.size+1) scope.names cls) s3.heap.objs.size X.env))
   (RR (.ref s2.heap.objs.size) s3.heap.objs.size) s4:=by
  refine t9 (fun n s'=>∃ i ys H',Inv (blk X scope (cellsFrom (s3.heap.objs.size+1) scope.names cls) s3.heap.objs.size fp s3 H3) [] (clr σ) H' s'/\tn i s'.heap/\(∀ b∈fp,H' b=none)/\W i n ys H') ?_ m0 ⟨0,[],H3,I4,st4,fn4,w0⟩;rintro n s5 ⟨i,ys,H5,I5,st5,fr5,w5⟩;obtain⟨hl5,tr⟩:=turn i n ys H5 w5
  rcases tr with⟨stop,qn⟩ | ⟨go,step⟩
  ·refine thn (T.done (blk X scope (cellsFrom (s3.heap.objs.size+1) scope.names cls) s3.heap.objs.size fp s3 H3) rfl rfl rfl (hc _ _ _ I3) i [] s5 (clr σ) H5 (fun _ _=>False) I5 (stat I5 fr5) st5 stop) fun r s6 ⟨hr,I6⟩=>?_;subst hr;exact fin I6 qn
  ·refine thn (T.item (blk X scope (cellsFrom (s3.heap.objs.size+1) scope.names cls) s3.heap.objs.size fp s3 H3) rfl rfl rfl (hc _ _ _ I3) i [] s5 (clr σ) H5 (fun _ _=>False) I5 (stat I5 fr5) st5 go) fun r s6 ⟨u,hr,h6⟩=>?_;subst hr;refine thn h6 fun _ s7 ⟨x,H7,I7,r7,y7,st7,fr7⟩=>?_;have I7':=I7.pinned (stat I7 fr7) (T.obj _ _ st7)
   have back:∀ {σ':St} {H':Hp} {s':Shared},Inv (blk X scope (cellsFrom (s3.heap.objs.size+1) scope.names cls) s3.heap.objs.size fp s3 H3) ([]++iy fp s7.heap) σ' H' s'->(clr σ).length=σ'.length->(∀ (i:Nat) v,(clr σ)[i]?=some (some v)->σ'[i]?=some (some v))->(∃ m ys',m<n/\W (i+1) m ys' H') ->
     ∃ m,m<n/\∃ i ys H',Inv (blk X scope (cellsFrom (s3.heap.objs.size+1) scope.names cls) s3.heap.objs.size fp s3 H3) [] (clr σ) H' s'/\tn i s'.heap/\(∀ b∈fp,H' b=none)/\W i m ys H':=fun {σ' H' s'} J el ew hw=>by
    obtain⟨m,ys',hm,w8⟩:=hw;refine⟨m,hm,i+1,ys',H',J.gJ.weak el ew,T.keep _ _ _ st7 fun b hb o e=>(J.pin (b,o) (List.mem_append_right _ (List.mem_append_right _ (eY hb e)))).1,fun b hb=>?_,w8⟩;obtain⟨o,e,d⟩:=T.obj _ _ st7 b hb;exact(J.pin (b,o) (List.mem_append_right _ (List.mem_append_right _ (eY hb e)))).2.1
   refine thn (B.htg _ s3.heap.objs.size fp s3 H3 _ s7 (clr σ) H7 x u _ I7' r7 (B.xu x σ H7 _ (step x H7 y7))) fun _ s8 ⟨σ8,H8,I8,q8,el8,ew8⟩=>?_;refine thn (B.htc _ s3.heap.objs.size fp s3 H3 _ s8 σ8 H8 _ I8 q8) fun ok s9 ⟨H9,I9,q9⟩=>?_
   cases ok with
   |false=>
    have q9:∃ m',m'<n/\W (i+1) m' ys H9:=q9;obtain⟨m',hm,w9⟩:=q9;exact back I9 el8 ew8 ⟨m',ys,hm,w9⟩
   |true=>
    refine thn (B.hte _ s3.heap.objs.size fp s3 H3 _ s9 σ8 H9 _ I9 q9) fun v s10 ⟨y,H10,I10,r10,hl10,hz,m',hm,w10⟩=>?_;refine thn (lN (X:=blk X scope (cellsFrom (s3.heap.objs.size+1) scope.names cls) s3.heap.objs.size fp s3 H3) _ s10 σ8 H10 (.ref s2.heap.objs.size) [y] (.ref s2.heap.objs.size) [v] (fun _ H'=>H'=upd H10 s2.heap.objs.size (.lst (ys++[y]))) I10 rfl (.cons r10 .nil) ⟨_,ys,y,rfl,rfl,hl10,hz,rfl⟩) fun _ s11 ⟨_,H11,I11,_,e11⟩=>?_;subst e11;exact back I11 el8 ew8 ⟨m',_,hm,w10⟩
 exact codeAny_compStart_list loop (T.self _ 0 _ _ _ st4 loop)
def pD{elt tg iter:Expr}{ifs:List Expr}{pos:Pos}{wi:TI}{clr:St->St}{g:TG}{tc:TT}{te:TE}{CM:Cx->Prop}(hc:∀ {pins:List (Addr × Obj)} {σ:St} {H:Hp} {s:Shared} (cls:List (Str × Addr)) (C:Addr) (fp:List Addr),Inv X pins σ H s->CM (blk X scope cls C fp s H))(S:eG scope X.env.scope cls X.env.cells)(hclos:closureFor scope X.env=pure cls)
 (hi:PI' CM X tg iter wi)(B:m8 X scope tg ifs elt clr g tc te)(hs:∀ x,foldedSetIterable iter X.env x=pure x):PE X (.ListComp elt [⟨tg,iter,ifs,0⟩] scope pos) (gv wi clr g tc te):=by
 intro pins s σ H Q I h;refine wpAny_comprehension_free rfl hs hclos S.kind S.loc (lO hc S hi B I h ?_);intro l C H' s' J hn c0 c1 c2 c3 c4 q;obtain⟨m,hn⟩:=hn;exact⟨m,hn,fun h' sb=>⟨.ref l,H',J.turned (fun b o hb e=>(sb.2 b hb).trans e) c0 (Ne.symm (Ne.symm c1)) (.inr c2) c3 c4,rfl,q⟩⟩
abbrev C8(i:Nat)(t:TE):TS:=fun D σ H=>t σ H fun v H1=>D.nx (σ.set i (some v)) H1
def pB(hc:X.calm=true)(hN:X.N.Nodup)(hiy:X.N[i]?=some y)(hy:X.env.scope.names.lookup y=some .local)
 (S:eG scope X.env.scope cls X.env.cells)(hclos:closureFor scope X.env=pure cls)
 (hi:PI X tg iter wi)(B:m8 X scope tg ifs elt clr g tc te)(hs:∀ x,foldedSetIterable iter X.env x=pure x)
 (hsw:swapsWith (.ListComp elt [⟨tg,iter,ifs,0⟩] scope pos) (some (.Name y py)) spos.line X.env=pure true) :
  PS X (.Assign [.Name y py] (.ListComp elt [⟨tg,iter,ifs,0⟩] scope pos) spos) (C8 i (gv wi clr g tc te)):=by
 intro pins s σ H D I h
 have back:∀ (l C:Addr) (H':Hp) (s':Shared),Inv X pins σ H' s'->(∃ m,s'.heap.Ns C m)->H' C=none->C≠X.env.locals->X.s₀.heap.objs.size<=C->(∀ x c,X.env.cells.lookup x=some c->c≠C)->(∀ p∈X.pn++pins,p.1≠C)->D.nx (σ.set i (some (.ref l))) H' ->
   compPost (model X.prog X.w) X.A X.xe (some (assign (.Name y py) X.env)) (fun _ s'=>SP X pins D .next s') (.ref l) C (.ok .next) s':=by
  intro l C H' s' J hn c0 c1 c2 c3 c4 q;obtain⟨m,hn⟩:=hn;refine wpAny_assign_Name (lW (v:=.ref l) J hN hiy (.inl hy) rfl (fun s2 J2 ⟨a,sb,ha⟩=>?_) (.inr hy))
  have hne:C≠a:=by
   rcases ha with z | z
   ·rw[z];exact c1
   ·exact(c3 _ _ z).symm
  exact⟨m,hn.sameBut sb hne,fun h' sb'=>⟨σ.set i (some (.ref l)),H',J2.turned (fun b o hb e=>(sb'.2 b hb).trans e) c0 c1 (.inr c2) c3 c4,q⟩⟩
 have core:=lO (pos:=pos) (fun _ _ _ _=>hc) S hi B I h back;have whole:=wpAny_comprehension_free (pos:=iter.pos) rfl hs hclos S.kind S.loc core;rw[exec_Assign_Name_used (hs:=hsw)];apply wpAny_bind;apply wpAny_standAt;apply wpAny_bind;apply wpAny_bind;refine thn whole fun _ s' hq=>?_;apply wpAny_pure;apply wpAny_pure;exact hq
end
end L2
namespace RS
open PySem PySem.Spec PyProof.Rows L2
def dW{α:Type}{l:List α}{i:Nat}{x y:α}(e:(l.set i x)[i]?=some y):i<l.length:=by
 have:=(List.getElem?_eq_some_iff.mp e).1;simpa using this
def hG:∀ (names:List (Str × NameKind)) (acc:List (Str × Addr)),(∀ x,(x,NameKind.free)∈names->∃ c,env.cells.lookup x=some c)->(∀ x c,acc.lookup x=some c->env.cells.lookup x=some c) ->
  ∃ cls,(forIn names acc fun(p:Str × NameKind) cs=>match p with | (name,kind)=>if(kind == NameKind.free)=true then do let c <- cellOf env name;pure (ForInStep.yield ((name,c)::cs))else pure (ForInStep.yield cs):Sem (List (Str × Addr)))=pure cls /\
   (∀ x c,cls.lookup x=some c->env.cells.lookup x=some c)/\(∀ x,(acc.lookup x).isSome=true\/(x,NameKind.free)∈names->∃ c,cls.lookup x=some c)
 | [],acc,_,ha=>⟨acc,rfl,ha,fun x hx=>by
   rcases hx with h | h
   ·exact Option.isSome_iff_exists.mp h
   ·simp at h⟩
 | (n,k)::r,acc,hn,ha=>by
  by_cases hk:k=.free
  ·subst hk;obtain⟨c,hc⟩:=hn n List.mem_cons_self
   have ha':∀ x c',((n,c)::acc).lookup x=some c'->env.cells.lookup x=some c':=fun x c' e=>by
    rw[List.lookup_cons]at e
    cases hx:x == n with
    |true=>
     rw[hx]at e;cases e;rw[show x=n by simpa using hx];exact hc
    |false=>
     rw[hx]at e;exact ha x c' e
   obtain⟨cls,h1,h2,h3⟩:=hG r ((n,c)::acc) (fun x hx=>hn x (List.mem_cons_of_mem _ hx)) ha';refine⟨cls,?_,h2,fun x hx=>h3 x ?_⟩
   ·rw[List.forIn_cons]
    have hcell:cellOf env n=pure c:=by unfold cellOf;rw[hc]
    simp only[beq_self_eq_true,if_true,hcell];exact h1
   ·rcases hx with h | h
    ·left;rw[List.lookup_cons];split<;>simp_all
    ·rcases List.mem_cons.mp h with e | e
     ·cases e;left;simp[]
     ·exact .inr e
  ·obtain⟨cls,h1,h2,h3⟩:=hG r acc (fun x hx=>hn x (List.mem_cons_of_mem _ hx)) ha;refine⟨cls,?_,h2,fun x hx=>h3 x ?_⟩
   ·rw[List.forIn_cons]
    have:(k == NameKind.free)=false:=by simpa using hk
    simp only[this,Bool.false_eq_true,if_false];exact h1
   ·rcases hx with h | h
    ·exact .inl h
    ·rcases List.mem_cons.mp h with e | e
     ·cases e;exact absurd rfl hk
     ·exact .inr e
def rC(h:∀ x,(x,NameKind.free)∈scope.names->∃ c,env.cells.lookup x=some c) :
  ∃ cls,closureFor scope env=pure cls/\(∀ x c,cls.lookup x=some c->env.cells.lookup x=some c)/\(∀ x,scope.names.lookup x=some .free->∃ c,cls.lookup x=some c):=by
 obtain⟨cls,h1,h2,h3⟩:=hG scope.names [] h (fun x c e=>by simp at e);refine⟨cls,?_,h2,fun x hx=>h3 x (.inr (PySem.mem_of_lookup hx))⟩;unfold closureFor;simp only[bind_pure_comp]at h1 ⊢;rw[h1];rfl
section
abbrev l7(K:PySem.W.Frag)(n:Nat)(t:TGs):TG:=fun v σ H Q=>∃ a xs,v=.ref a/\SqL K H a xs/\xs.length=n/\t xs σ H Q
end
section
def nF(h:PG X tgE t)(h':PG X tgE t'):PG X tgE (fun v σ H Q=>t v σ H Q\/t' v σ H Q):=by
 intro pins s σ H v u Q I r hw;rcases hw with q | q
 ·exact h pins s σ H v u Q I r q
 ·exact h' pins s σ H v u Q I r q
end
abbrev gs:List Nat->TGs
 | []=>Br
 | i::r=>xo (m4 i) (gs r)
abbrev gT(K:PySem.W.Frag):List Nat->TG
 | [i]=>m4 i
 | is=>fun v σ H Q=>kG K is.length (gs is) v σ H Q\/l7 K is.length (gs is) v σ H Q
abbrev cM:List Nat->List V->L2.St->L2.St
 | i::is,v::vs,σ=>cM is vs (σ.set i (some v))
 | _,_,σ=>σ
abbrev lr:List Nat->List RL.D->RL.St->RL.St
 | i::is,d::ds,σ=>lr is ds (σ.set i (some d))
 | _,_,σ=>σ
def fN:∀ {is:List Nat} {ds:List RL.D} {σ σ1:RL.St},RL.cj is ds σ=some σ1->is.length=ds.length/\σ1=lr is ds σ
 | [],[],σ,σ1,h=>by cases h;exact⟨rfl,rfl⟩
 | [],d::ds,σ,σ1,h=>by cases h
 | i::is,[],σ,σ1,h=>by cases h
 | i::is,d::ds,σ,σ1,h=>by
  obtain⟨h1,h2⟩:=fN (σ:=σ.set i (some d)) h;exact⟨by simp[h1],h2⟩
def fK:∀ {is:List Nat} {vs:List V} {σ:L2.St} {H:Hp} {Q:L2.St->Hp->Prop},is.length=vs.length->Q (cM is vs σ) H->gs is vs σ H Q
 | [],[],σ,H,Q,_,q=>⟨rfl,q⟩
 | [],_::_,_,_,_,h,_=>by simp at h
 | _::_,[],_,_,_,h,_=>by simp at h
 | i::is,v::vs,σ,H,Q,h,q=>⟨v,vs,rfl,fK (by simpa using h) q⟩
def qA{K:PySem.W.Frag}(h:RL.aW tg d σD=some σD1)(r:Rep nP K H d v) :
  ∃ ds vs,σD1=lr tg ds σD/\tg.length=ds.length/\af nP K H ds vs/\(d.imm=true->RL.az ds=true)/\∀ (σ:L2.St) (Q:L2.St->Hp->Prop),Q (cM tg vs σ) H->gT K tg v σ H Q:=by
 unfold RL.aW at h;split at h
 ·rename_i i;cases h;exact⟨[d],[v],rfl,rfl,af.cons r af.nil,fun z=>by simp[RL.az,z],fun σ Q q=>q⟩
 ·rename_i hne
  have key:gT K tg=fun v σ H Q=>kG K tg.length (gs tg) v σ H Q\/l7 K tg.length (gs tg) v σ H Q:=by
   unfold gT;split
   ·rename_i i;exact absurd rfl (hne i)
   ·rfl
  rw[key];split at h
  ·rename_i ds;obtain⟨h1,h2⟩:=fN h;obtain⟨p,xs,rfl,e2,e3⟩:=aX r;exact⟨ds,xs,h2,h1,e3,fun z=>by rw[RL.D.imm]at z;exact z,fun σ Q q=>.inl ⟨p,xs,rfl,SqT.of e2,by rw[<-e3.length,h1],fK (h1.trans e3.length) q⟩⟩
  ·rename_i ds;obtain⟨h1,h2⟩:=fN h;obtain⟨p,xs,rfl,_,e2,e3⟩:=aP r;exact⟨ds,xs,h2,h1,e3,fun z=>(by cases z),fun σ Q q=>.inr ⟨p,xs,rfl,SqL.of e2,by rw[<-e3.length,h1],fK (h1.trans e3.length) q⟩⟩
  ·cases h
def oJ:∀ (is:List Nat) (vs:List V) (σ:L2.St),(cM is vs σ).length=σ.length
 | [],_,_=>rfl
 | _::_,[],_=>rfl
 | i::is,v::vs,σ=>by rw[cM,oJ is vs,List.length_set]
def lb:∀ (is:List Nat) (vs:List V) (σ:L2.St) (j:Nat),is.contains j=false->(cM is vs σ)[j]?=σ[j]?
 | [],_,_,_,_=>rfl
 | _::_,[],_,_,_=>rfl
 | i::is,v::vs,σ,j,h=>by
  rw[List.contains_cons,Bool.or_eq_false_iff]at h;rw[cM,lb is vs _ j h.2,List.getElem?_set_ne (by intro e;subst e;simp at h)]
abbrev RVx(T:List Nat)(K:PySem.W.Frag)(σD:RL.St)(σ:L2.St)(H:Hp):Prop:=σD.length<=σ.length/\∀ (i:Nat) (d:RL.D),T.contains i=false->σD[i]?=some (some d)->∃ v,σ[i]?=some (some v)/\Rep nP K H d v
def RVx.set{K:PySem.W.Frag}(h:RVx (i::T) K σD σ H)(r:Rep nP K H d v):RVx T K (σD.set i (some d)) (σ.set i (some v)) H:=⟨by simpa using h.1,fun j dj hT e=>by
 by_cases hj:j=i
 ·subst hj;have hlt:=dW e;rw[List.getElem?_set_self hlt]at e;cases e;exact⟨v,by rw[List.getElem?_set_self (Nat.lt_of_lt_of_le hlt h.1)],r⟩
 ·rw[List.getElem?_set_ne (Ne.symm hj)]at e ⊢
  exact h.2 j dj (by rw[List.contains_cons,hT,Bool.or_false];simpa using hj) e⟩
def RVx.cj{K:PySem.W.Frag}:∀ {is:List Nat} {ds:List RL.D} {vs:List V} {σD:RL.St} {σ:L2.St},RVx is K σD σ H->is.length=ds.length->af nP K H ds vs->RV0 K (lr is ds σD) (cM is vs σ) H
 | [],_,_,_,_,h,_,_=>⟨h.1,fun i d e=>h.2 i d rfl e⟩
 | i::is,[],_,_,_,_,hl,_=>by simp at hl
 | i::is,d::ds,vs,σD,σ,h,hl,r=>by
  obtain⟨v,t,rfl,r1,r2⟩:=r;rw[lr,cM];exact RVx.cj (h.set r1) (by simpa using hl) r2
def Cf{K:PySem.W.Frag}(h:gT K tg v σ H Q):∃ vs,tg.length=vs.length/\Q (cM tg vs σ) H/\∀ Q':L2.St->Hp->Prop,Q' (cM tg vs σ) H->gT K tg v σ H Q':=by
 have inv:∀ (is:List Nat) (xs:List V) (σ:L2.St) (Q:L2.St->Hp->Prop),gs is xs σ H Q->is.length=xs.length/\Q (cM is xs σ) H:=by
  intro is
  induction is with
  | nil=>intro xs σ Q h;obtain⟨rfl,q⟩:=h;exact⟨rfl,q⟩
  |cons i r ih=>
   intro xs σ Q h;obtain⟨v,t,rfl,q⟩:=h;obtain⟨h1,h2⟩:=ih t _ Q q;exact⟨by simp[h1],h2⟩
 unfold gT at h;split at h
 ·rename_i i;exact⟨[v],rfl,h,fun Q' q=>q⟩
 ·rename_i hne
  have key:gT K tg=fun v σ H Q=>kG K tg.length (gs tg) v σ H Q\/l7 K tg.length (gs tg) v σ H Q:=by
   unfold gT;split
   ·rename_i i;exact absurd rfl (hne i)
   ·rfl
  rw[key]
  rcases h with⟨a,xs,rfl,hq,hl,hg⟩ | ⟨a,xs,rfl,hq,hl,hg⟩
  ·obtain⟨h1,h2⟩:=inv _ _ _ _ hg;exact⟨xs,h1,h2,fun Q' q=>.inl ⟨a,xs,rfl,hq,hl,fK h1 q⟩⟩
  ·obtain⟨h1,h2⟩:=inv _ _ _ _ hg;exact⟨xs,h1,h2,fun Q' q=>.inr ⟨a,xs,rfl,hq,hl,fK h1 q⟩⟩
abbrev eR(tg:List Nat)(σ:L2.St):L2.St:=σ.mapIdx fun i o=>if tg.contains i then none else o
def oW(tg:List Nat)(σ:L2.St):(eR tg σ).length=σ.length:=by simp[eR]
def qe(h:tg.contains i=false):(eR tg σ)[i]?=σ[i]?:=by
 unfold eR;rw[List.getElem?_mapIdx]
 cases σ[i]? with
 | none=>rfl
 | some o=>simp only[Option.map_some,h,Bool.false_eq_true,if_false]
def pL(h:tg.contains i=true):(eR tg σ)[i]?≠some (some v):=by
 unfold eR;rw[List.getElem?_mapIdx]
 cases σ[i]? with
 | none=>simp
 | some o=>simp only[ h];intro z;cases z
section comp
variable{X:Cx}
structure hX(X:Cx)(cl:RL.Cl)(scope:Scope)(tgE:Expr)(tg:List Nat)(elt:Expr)(e':RL.E)(tcs:TT)(ifs:List Expr):Prop where
 htg:∀ cls C fp s H,PG (blk X scope cls C fp s H) tgE (gT X.K tg)
 htc:∀ cls C fp s H pins s' σ H' Q,Inv (blk X scope cls C fp s H) pins σ H' s'->tcs σ H' Q->wpAny (model X.prog X.w) X.A (fA ifs (compEnvC scope cls C X.env)) (TP (blk X scope cls C fp s H) pins σ Q) (fun _ _=>False) s'
 hte:∀ cls C fp s H,SE (blk X scope cls C fp s H) cl elt e'
 cover:∀ (i:Nat) (x:Str),X.N[i]?=some x->scope.names.lookup x=some .local\/scope.names.lookup x=some .cell->tg.contains i=true
def hX.blk{tcs:TT}(B:hX X cl scope tgE tg elt e' tcs ifs):m8 X scope tgE ifs elt (eR tg) (gT X.K tg) tcs (tE X.K cl e') where
 htg:=B.htg
 htc:=B.htc
 hte:=B.hte
 zb:=fun σ hl=>⟨oW tg σ,fun i x v h1 h2=>by
  by_cases hc:tg.contains i=true
  ·exact absurd h2 (pL hc)
  ·simp only[Bool.not_eq_true]at hc;rw[qe hc]at h2;refine⟨h2,fun z=>?_,fun z=>?_⟩
   ·rw[B.cover i x h1 (.inl z)]at hc;cases hc
   ·rw[B.cover i x h1 (.inr z)]at hc
    cases hc⟩
 xu:=fun x σ H Q h=>by
  obtain⟨vs,h1,h2,h3⟩:=Cf h;refine h3 _ ⟨h2,(oJ _ _ _).symm,fun i v e=>?_⟩;by_cases hc:tg.contains i=true
  ·exact absurd e (pL hc)
  ·simp only[Bool.not_eq_true]at hc;rw[lb _ _ _ _ hc];exact e
def t7(h:RL.cW f tg σ (d::r)=some ys):∃ σ1 y ys',RL.aW tg d σ=some σ1/\f σ1=some y/\RL.cW f tg σ r=some ys'/\RL.jC y ys'=some ys:=by
 obtain⟨σ1,h1,h⟩:=bind_some h;obtain⟨y,h2,h⟩:=bind_some h;obtain⟨ys',h3,h⟩:=bind_some h;exact⟨σ1,y,ys',h1,h2,h3,h⟩
def pF(rv:RV0 X.K σD σ H)(ei:RL.bA cl σD it=some ds)(hz:ds.length<=RL.most)(hm:RL.cW f tg σD ds=some total)
 (ht:∀ σ1 σV H y (Q:Bool->Hp->Prop),RV0 X.K σ1 σV H->f σ1=some y->(∀ k H',ax H H'->(if k=true then ∃ d,y=some d/\RL.ev cl σ1 e'=some d else y=none)->Q k H')->tcs σV H Q)
 (k:∀ l H',ax H H'->H l=none->(∃ xs,H' l=some (.lst xs)/\af nP X.K H' total xs)->Q (.ref l) H'):gv (tI X.K cl it) (eR tg) (gT X.K tg) tcs (tE X.K cl e') σ H Q:=by
 refine⟨σD,ds,rv,ei,fun J H1 s1 src l hl=>?_⟩;obtain⟨ok,_⟩:=src
 refine⟨fun i m xs H2=>∃ don rest,m=ds.length-i/\i<=ds.length/\ax H1 H2/\H2 l=some (.lst xs)/\af (fun p=>p=l) X.K H2 don xs/\RL.cW f tg σD (ds.drop i)=some rest/\don++rest=total/\don.length<=i,
  ⟨_,[],total,rfl,Nat.zero_le _,ax.bY hl,aR,af.nil,hm,rfl,Nat.le_refl _⟩,?_⟩
 rintro i m xs H2 ⟨don,rest,rfl,hi,s2,hl2,rs,hr,htot,hdn⟩;refine⟨hl2,?_⟩;have off:Off nP H1 H2:=Off.same s2;by_cases hlt:i<ds.length
 ·refine .inr ⟨ok.go H2 i off hlt,fun x H3 y=>?_⟩
  have hd:ds[i]?=some ds[i]:=by simp[hlt]
  obtain⟨s3,rp⟩:=ok.yld H2 i ds[i] x H3 off hd y;have rp:=rp (.inr s2);rw[List.drop_eq_getElem_cons hlt]at hr;obtain⟨σ1,y1,ys',h1,h2,h3,h4⟩:=t7 hr;obtain⟨dv,vs,e1,e2,e3,_,e5⟩:=qA h1 rp;refine e5 _ _ ?_;have rv3:RV0 X.K σD σ H3:=rv.same ((s1.trans s2).trans s3)
  have rvx:RVx tg X.K σD (eR tg σ) H3:=⟨by rw[oW];exact rv3.1,fun j d hT e=>by rw[qe hT];exact rv3.2 j d e⟩
  have rv1:RV0 X.K σ1 (cM tg vs (eR tg σ)) H3:=by rw[e1];exact rvx.cj e2 e3
  refine ht σ1 _ H3 y1 _ rv1 h2 fun t H5 s5 hy=>?_;have hl5:H5 l=some (.lst xs):=s5 _ _ (s3 _ _ hl2);have rs5:af (fun p=>p=l) X.K H5 don xs:=(rs.same s3).same s5
  cases t with
  |true=>
   obtain⟨d,rfl,hv⟩:=(show ∃ d,y1=some d/\RL.ev cl σ1 e'=some d from hy)
   have him:d.imm=true/\rest=d::ys':=by
    unfold RL.jC at h4;dsimp only at h4;split at h4
    ·rename_i hh;cases h4;exact⟨hh,rfl⟩
    ·cases h4
   refine dU ⟨σ1,d,rv1.same s5,hv,fun v H6 r6=>⟨r6.same _ _ hl5,?_,ds.length-(i+1),by lia,don++[d],ys',rfl,hlt,?_,aR,?_,h3,?_,?_⟩⟩
   ·rw[<-rs.length];exact Nat.lt_of_lt_of_le (Nat.lt_of_le_of_lt hdn (Nat.lt_of_lt_of_le hlt hz)) (Nat.le_of_lt (by decide))
   ·intro b o e;have hb:b≠l:=aG e hl;rw[aB hb];exact r6.same _ _ (s5 _ _ (s3 _ _ (s2 _ _ e)))
   ·exact af.upd (P:=fun p=>p=l) (r6.same _ _ hl5) (.inl ⟨_,rfl⟩) rfl (af.append (rs5.same r6.same) (af.cons (r6.rep.imm him.1) af.nil))
   ·rw[<-htot,him.2,List.append_assoc];rfl
   ·rw[List.length_append,List.length_singleton];lia
  |false=>
   have hy:y1=none:=hy;subst hy
   have hr2:rest=ys':=by
    unfold RL.jC at h4;dsimp only at h4;cases h4;rfl
   refine eC ⟨ds.length-(i+1),by lia,don,ys',rfl,hlt,(s2.trans s3).trans s5,hl5,rs5,h3,by rw[<-htot,hr2],by lia⟩
 ·have e:i=ds.length:=by lia
  subst e;refine .inl ⟨ok.stop H2 off,k l H2 (s1.trans s2) (s1.free hl) ⟨xs,hl2,?_⟩⟩;rw[List.drop_length,RL.cW]at hr;cases hr;rw[List.append_nil]at htot;rw[<-htot];exact af.weak (fun _ z=>z.elim) rs
end comp
section comp
variable{X:Cx}
structure lh(scope sc:Scope):Prop where
 kind:scope.kind=.function
 own:∀ x∈scope.names,x.2=.cell->scope.names.lookup x.1=some .cell
 loc:∀ x∈scope.names,x.2=.local->scope.names.lookup x.1=some .local
 vis:∀ x∈scope.names,x.2=.free->sc.names.lookup x.1=some .cell\/sc.names.lookup x.1=some .free
def eW(S:lh scope X.env.scope)(I:Inv X pins σ H s):∃ cls,closureFor scope X.env=pure cls/\eG scope X.env.scope cls X.env.cells:=by
 obtain⟨cls,h1,h2,h3⟩:=rC fun x hx=>I.ok.has x (S.vis _ hx rfl);exact⟨cls,h1,S.kind,S.own,S.loc,h2,h3,fun x hx=>S.vis _ (PySem.mem_of_lookup hx) rfl⟩
def nt(sm:ax H H')(hl:H l=none)(h:∃ xs,H' l=some (.lst xs)/\af nP X.K H' total xs)(hav:∀ M,RL.avE M e=false):Res X.K σD σ H e (.lst total) (.ref l) H' where
 same:=sm
 rep:=by
  obtain⟨xs,h1,h2⟩:=h;exact⟨l,xs,rfl,fun z=>z,h1,h2⟩
 fresh:=fun _ _ a z=>by cases z;exact hl
 av:=fun M z=>by rw[hav M]at z;cases z
abbrev kn:TT:=fun _ H Q=>Q true H
def oR(h:tE X.K cl (.compA e' tg it) σ H Q):gv (tI X.K cl it) (eR tg) (gT X.K tg) kn (tE X.K cl e') σ H Q:=by
 obtain⟨σD,d,rv,e,k⟩:=h;obtain⟨ds,e1,e⟩:=bind_some e;obtain⟨ds',e2,e⟩:=bind_some e;obtain⟨total,e3,e4⟩:=map_some e;unfold RL.fits at e2;split at e2
 ·rename_i hz;cases e2;subst e4;refine pF rv e1 hz e3 (fun σ1 σV H y Q rv1 hy q=>?_) fun l H' sm hl hx=>k _ _ (nt sm hl hx fun _=>rfl);obtain⟨d,h1,h2⟩:=map_some hy;exact q true H (ax.refl H) (dU ⟨d,h2.symm,h1⟩)
 ·cases e2
def nQ(h:tE X.K cl (.comp e' tg it c') σ H Q):gv (tI X.K cl it) (eR tg) (gT X.K tg) (tT X.K cl c') (tE X.K cl e') σ H Q:=by
 obtain⟨σD,d,rv,e,k⟩:=h;obtain⟨ds,e1,e⟩:=bind_some e;obtain⟨ds',e2,e⟩:=bind_some e;obtain⟨total,e3,e4⟩:=map_some e;unfold RL.fits at e2;split at e2
 ·rename_i hz;cases e2;subst e4;refine pF rv e1 hz e3 (fun σ1 σV H y Q rv1 hy q=>?_) fun l H' sm hl hx=>k _ _ (nt sm hl hx fun _=>rfl);obtain⟨t,h1,h2⟩:=bind_some hy;refine⟨σ1,t,rv1,h1,fun H' sm=>q t H' sm ?_⟩
  cases t with
  |true=>
   obtain⟨d,h3,h4⟩:=map_some (show(RL.ev cl σ1 e').map some=some y from h2);exact dU ⟨d,h4.symm,h3⟩
  |false=>
   cases(show(some none:Option (Option RL.D))=some y from h2);exact eC rfl
 ·cases e2
def vD(hc:X.calm=true)(S:lh scope X.env.scope)(hi:SI X cl tgE iter it)(B:hX X cl scope tgE tg elt e' kn [])(hs:∀ x,foldedSetIterable iter X.env x=pure x):SE X cl (.ListComp elt [⟨tgE,iter,[],0⟩] scope pos) (.compA e' tg it):=by
 intro pins s σ H Q I h;obtain⟨cls,h1,h2⟩:=eW S I;exact pD (fun _ _ _ _=>hc) h2 h1 hi B.blk hs pins s σ H Q I (oR h)
def mL(hc:∀ {pins:List (Addr × Obj)} {σ:L2.St} {H:Hp} {s:Shared} (cls:List (Str × Addr)) (C:Addr) (fp:List Addr),Inv X pins σ H s->CM (blk X scope cls C fp s H))(S:lh scope X.env.scope)(hi:PI' CM X tgE iter (tI X.K cl it))(B:hX X cl scope tgE tg elt e' (tT X.K cl c') [c])(hs:∀ x,foldedSetIterable iter X.env x=pure x):SE X cl (.ListComp elt [⟨tgE,iter,[c],0⟩] scope pos) (.comp e' tg it c'):=by
 intro pins s σ H Q I h;obtain⟨cls,h1,h2⟩:=eW S I;exact pD hc h2 h1 hi B.blk hs pins s σ H Q I (nQ h)
abbrev SA(X:Cx)(cl:RL.Cl)(st:Stmt)(i:Nat)(e':RL.E):Prop:=PS X st (fun D σ H=>tE X.K cl e' σ H fun v H1=>D.nx (σ.set i (some v)) H1)
def PS.weak{st:Stmt}(h:PS X st t)(w:∀ D σ H,t' D σ H->t D σ H):PS X st t':=fun pins s σ H D I q=>h pins s σ H D I (w D σ H q)
def PSs.weak{st:List Stmt}(h:PSs X st t)(w:∀ D σ H,t' D σ H->t D σ H):PSs X st t':=fun pins s σ H D I q=>h pins s σ H D I (w D σ H q)
def vW(hc:X.calm=true)(hN:X.N.Nodup)(hiy:X.N[i]?=some y)(hy:X.env.scope.names.lookup y=some .local)(S:lh scope X.env.scope)(hi:SI X cl tgE iter it)(B:hX X cl scope tgE tg elt e' kn [])(hs:∀ x,foldedSetIterable iter X.env x=pure x)
 (hsw:swapsWith (.ListComp elt [⟨tgE,iter,[],0⟩] scope pos) (some (.Name y py)) spos.line X.env=pure true):SA X cl (.Assign [.Name y py] (.ListComp elt [⟨tgE,iter,[],0⟩] scope pos) spos) i (.compA e' tg it):=by
 intro pins s σ H D I h;obtain⟨cls,h1,h2⟩:=eW S I;exact pB hc hN hiy hy h2 h1 hi B.blk hs hsw pins s σ H D I (oR h)
def wu(hc:X.calm=true)(hN:X.N.Nodup)(hiy:X.N[i]?=some y)(hy:X.env.scope.names.lookup y=some .local)(S:lh scope X.env.scope)(hi:SI X cl tgE iter it)(B:hX X cl scope tgE tg elt e' (tT X.K cl c') [c])(hs:∀ x,foldedSetIterable iter X.env x=pure x)
 (hsw:swapsWith (.ListComp elt [⟨tgE,iter,[c],0⟩] scope pos) (some (.Name y py)) spos.line X.env=pure true):SA X cl (.Assign [.Name y py] (.ListComp elt [⟨tgE,iter,[c],0⟩] scope pos) spos) i (.comp e' tg it c'):=by
 intro pins s σ H D I h;obtain⟨cls,h1,h2⟩:=eW S I;exact pB hc hN hiy hy h2 h1 hi B.blk hs hsw pins s σ H D I (nQ h)
def vA(hN:X.N.Nodup)(hiy:X.N[i]?=some y)(hx:Loc X.env.scope y)(he:SE X cl e e')(hf:X.fn y=true\/X.env.scope.names.lookup y=some .local)(hs:swapsWith e (some (.Name y py)) spos.line X.env=pure false)(hf2:True):SA X cl (.Assign [.Name y py] e spos) i e':=by
 exact rX hN hiy hx he hs hf
end comp
abbrev ba(M:List Nat)(σ:L2.St):Addr->Prop:=fun a=>∃ i,M.contains i=true/\σ[i]?=some (some (.ref a))
abbrev Own(K:PySem.W.Frag)(H:Hp)(d:RL.D)(v:V):Prop:=jz d=true/\RL.aS d=true/\Rep nP K H d v
structure RVm(K:PySem.W.Frag)(M:List Nat)(σD:RL.St)(σ:L2.St)(H:Hp):Prop where
 len:σD.length=σ.length
 val:∀ (i:Nat) (d:RL.D),σD[i]?=some (some d)->∃ v,σ[i]?=some (some v)/\(if M.contains i=true then Own K H d v else Rep (ba M σ) K H d v)
 non:∀ (i:Nat) (v:V),σ[i]?=some (some v)->∃ d,σD[i]?=some (some d)
 sep:∀ (i j:Nat) (a:Addr),M.contains i=true->M.contains j=true->σ[i]?=some (some (.ref a))->σ[j]?=some (some (.ref a))->i=j
abbrev Fr'(M:List Nat)(σ:L2.St)(H:Hp)(σ':L2.St)(H':Hp):Prop:=(∀ b o,H b=some o->¬ ba M σ b->H' b=some o/\¬ ba M σ' b)/\∀ j,2<=M.count j->σ'[j]?=σ[j]?
def Fr'.trans(a:Fr' M σ H σ1 H1)(b:Fr' M σ1 H1 σ2 H2):Fr' M σ H σ2 H2:=⟨fun c o e n=>b.1 c o (a.1 c o e n).1 (a.1 c o e n).2,fun j hj=>(b.2 j hj).trans (a.2 j hj)⟩
def Fr'.same(s:ax H H1):Fr' M σ H σ H1:=⟨fun c o e n=>⟨s _ _ e,n⟩,fun _ _=>rfl⟩
def gE{M:List Nat}(h:2<=M.count j):M.contains j=true:=by
 have:0<M.count j:=by lia
 simpa using List.count_pos_iff.mp this
section st
variable{K:PySem.W.Frag}
def Own.ref(h:Own K H d v):∃ a o,v=.ref a/\H a=some o/\c8 o:=by
 obtain⟨m,_,r⟩:=h
 cases d with
 | lst ds=>obtain⟨a,xs,e1,_,e2,_⟩:=aP r;exact⟨a,_,e1,e2,.inl ⟨_,rfl⟩⟩
 | dK ks ds=>rw[Rep]at r;obtain⟨a,xs,e1,_,e2,_⟩:=r;exact⟨a,_,e1,e2,.inr (.inl ⟨_,rfl⟩)⟩
 | dT ks ds=>rw[Rep]at r;obtain⟨a,xs,e1,_,e2,_⟩:=r;exact⟨a,_,e1,e2,.inr (.inr ⟨_,rfl⟩)⟩
 | _=>cases m
def RVm.rv0(h:RVm K M σD σ H):RV0 K σD σ H:=⟨Nat.le_of_eq h.len,fun i d e=>by
 obtain⟨v,h1,h2⟩:=h.val i d e;refine⟨v,h1,?_⟩;by_cases hm:M.contains i=true
 ·rw[if_pos hm]at h2;exact h2.2.2
 ·rw[if_neg hm]at h2
  exact h2.none⟩
def RVm.vI(h:RVm K M σD σ H):∀ a,ba M σ a->∃ o,H a=some o/\c8 o:=fun a ⟨i,hi,e⟩=>by
 obtain⟨d,hd⟩:=h.non i _ e;obtain⟨v,h1,h2⟩:=h.val i d hd;rw[if_pos hi]at h2;obtain⟨b,o,e1,e2,e3⟩:=h2.ref;rw[e]at h1;cases h1;cases e1;exact⟨o,e2,e3⟩
def RVm.qS(h:RVm K M σD σ H):∀ a,ba M σ a->H a≠none:=fun a p=>by
 obtain⟨o,e,_⟩:=h.vI a p;rw[e]
 exact fun z=>nomatch z
def Own.same(h:Own K H d v)(s:ax H H1):Own K H1 d v:=⟨h.1,h.2.1,h.2.2.same s⟩
def RVm.same(h:RVm K M σD σ H)(s:ax H H1):RVm K M σD σ H1:=⟨h.len,fun i d e=>by
 obtain⟨v,h1,h2⟩:=h.val i d e;refine⟨v,h1,?_⟩;by_cases hm:M.contains i=true
 ·rw[if_pos hm]at h2 ⊢;exact h2.same s
 ·rw[if_neg hm]at h2 ⊢
  exact h2.same s,h.non,h.sep⟩
def ba.set(hi:M.contains i=false):ba M (σ.set i (some v))=ba M σ:=by
 funext a;apply propext;constructor
 ·rintro⟨j,hj,e⟩
  have hne:i≠j:=fun z=>by subst z;rw[hi]at hj;cases hj
  rw[List.getElem?_set_ne hne]at e;exact⟨j,hj,e⟩
 ·rintro⟨j,hj,e⟩
  have hne:i≠j:=fun z=>by subst z;rw[hi]at hj;cases hj
  exact⟨j,hj,by rw[List.getElem?_set_ne hne];exact e⟩
def RVm.bind(h:RVm K M σD σ H)(hi:M.contains i=false)(r:Rep (ba M σ) K H d v):RVm K M (σD.set i (some d)) (σ.set i (some v)) H where
 len:=by simpa using h.len
 val:=fun j dj e=>by
  rw[ba.set hi];by_cases hj:j=i
  ·subst hj;have hlt:=dW e;rw[List.getElem?_set_self hlt]at e;cases e;refine⟨v,by rw[List.getElem?_set_self (by rw[<-h.len];exact hlt)],?_⟩;rw[if_neg (by rw[hi];decide)];exact r
  ·rw[List.getElem?_set_ne (Ne.symm hj)]at e ⊢;exact h.val j dj e
 non:=fun j w e=>by
  by_cases hj:j=i
  ·subst hj;have hlt:=dW e;exact⟨d,by rw[List.getElem?_set_self (by rw[h.len];exact hlt)]⟩
  ·rw[List.getElem?_set_ne (Ne.symm hj)]at e ⊢;exact h.non j w e
 sep:=fun j k a hj hk e1 e2=>by
  have n1:i≠j:=fun z=>by subst z;rw[hi]at hj;cases hj
  have n2:i≠k:=fun z=>by subst z;rw[hi]at hk;cases hk
  rw[List.getElem?_set_ne n1]at e1;rw[List.getElem?_set_ne n2]at e2;exact h.sep j k a hj hk e1 e2
def Fr'.bind{i:Nat}(hi:M.contains i=false)(s:ax H H1):Fr' M σ H (σ.set i (some v)) H1:=⟨fun b o e n=>⟨s _ _ e,by rw[ba.set hi];exact n⟩,fun j hj=>List.getElem?_set_ne (fun z=>by subst z;rw[gE hj]at hi;cases hi)⟩
end st
mutual
theorem Rep.cS{P:Addr->Prop}{K:PySem.W.Frag}{H:Hp}{a:Addr}(ha:H a=none):∀ {d:RL.D} {v:V},Rep P K H d v->Rep (fun p=>P p\/p=a) K H d v
 | .non,v,h=>by simpa[Rep]using h
 | .bl _,v,h=>by simpa[Rep]using h
 | .int _,v,h=>by simpa[Rep]using h
 | .str _,v,h=>by simpa[Rep]using h
 | .tup ds,v,h=>by
  rw[Rep]at h ⊢;obtain⟨b,xs,e1,e2,e3⟩:=h;exact⟨b,xs,e1,e2,af.cS ha e3⟩
 | .lst ds,v,h=>by
  rw[Rep]at h ⊢;obtain⟨b,xs,e1,e0,e2,e3⟩:=h;exact⟨b,xs,e1,fun z=>z.elim e0 (fun q=>aG e2 ha q),e2,af.cS ha e3⟩
 | .dK ks ds,v,h=>by
  rw[Rep]at h ⊢;obtain⟨b,xs,e1,e0,e2,el,e3⟩:=h;exact⟨b,xs,e1,fun z=>z.elim e0 (fun q=>aG e2 ha q),e2,el,af.cS ha e3⟩
 | .dT ks ds,v,h=>by
  rw[Rep]at h ⊢;obtain⟨b,xs,e1,e0,e2,el,e3⟩:=h;exact⟨b,xs,e1,fun z=>z.elim e0 (fun q=>aG e2 ha q),e2,el,af.cS ha e3⟩
 | .scr ds,v,h=>by
  rw[Rep]at h ⊢;obtain⟨b,xs,e1,e2,e3⟩:=h;exact⟨b,xs,e1,e2,af.cS ha e3⟩
 | .exc c,v,h=>by rw[Rep]at h ⊢;exact h
 | .obj,v,h=>by rw[Rep]at h ⊢;exact h
 | .fT ks ds,v,h=>by rw[Rep]at h ⊢;obtain⟨b,o,xs,e1,e2,el,e3⟩:=h;exact⟨b,o,xs,e1,e2,el,af.cS ha e3⟩
 | .fL ds,v,h=>by rw[Rep]at h ⊢;obtain⟨b,o,xs,e1,e2,e3⟩:=h;exact⟨b,o,xs,e1,e2,af.cS ha e3⟩
theorem af.cS{P:Addr->Prop}{K:PySem.W.Frag}{H:Hp}{a:Addr}(ha:H a=none):∀ {ds:List RL.D} {xs:List V},af P K H ds xs->af (fun p=>P p\/p=a) K H ds xs
 | [],xs,h=>by rw[af]at h ⊢;exact h
 | d::r,xs,h=>by
  rw[af]at h ⊢;obtain⟨x,t,e1,e2,e3⟩:=h;exact⟨x,t,e1,Rep.cS ha e2,af.cS ha e3⟩
end
def Rep.top{K:PySem.W.Frag}{P:Addr->Prop}(rp:Rep nP K H d v)(q1:RL.aS d=true)(fr:jz d=true->∀ a,v=.ref a->¬ P a):Rep P K H d v:=by
 cases d with
 | lst ds=>obtain⟨a,xs,e1,e0,e2,e3⟩:=aP rp;rw[Rep];exact⟨a,xs,e1,fr rfl a e1,e2,e3.imm q1⟩
 | dK ks ds=>rw[Rep]at rp ⊢;obtain⟨a,xs,e1,e0,e2,el,e3⟩:=rp;exact⟨a,xs,e1,fr rfl a e1,e2,el,e3.imm q1⟩
 | dT ks ds=>rw[Rep]at rp ⊢;obtain⟨a,xs,e1,e0,e2,el,e3⟩:=rp;exact⟨a,xs,e1,fr rfl a e1,e2,el,e3.imm q1⟩
 | _=>cases q1
section st
variable{K:PySem.W.Frag}
def RVm.own(h:RVm K M σD σ H)(s:ax H H1)(hi:M.contains i=true)(hi2:M.count i<2)(ha:H a=none)(r:Own K H1 d (.ref a)):RVm K M (σD.set i (some d)) (σ.set i (some (.ref a))) H1/\Fr' M σ H (σ.set i (some (.ref a))) H1:=by
 have sub:∀ b,ba M (σ.set i (some (.ref a))) b->ba M σ b\/b=a:=fun b ⟨j,hj,e⟩=>by
  by_cases hji:j=i
  ·subst hji;have hlt:=dW e;rw[List.getElem?_set_self hlt]at e;cases e;exact .inr rfl
  ·rw[List.getElem?_set_ne (Ne.symm hji)]at e;exact .inl ⟨j,hj,e⟩
 have old:∀ b,ba M σ b->b≠a:=fun b p z=>h.qS b p (z▸ha);refine⟨⟨by simpa using h.len,fun j dj e=>?_,fun j w e=>?_,fun j k b hj hk e1 e2=>?_⟩,⟨fun b o e n=>⟨s _ _ e,fun z=>(sub b z).elim n fun q=>aG e ha q⟩,fun j hj=>List.getElem?_set_ne (fun z=>by subst z;lia)⟩⟩
 ·by_cases hj:j=i
  ·subst hj;have hlt:=dW e;rw[List.getElem?_set_self hlt]at e;cases e;refine⟨.ref a,by rw[List.getElem?_set_self (by rw[<-h.len];exact hlt)],?_⟩;rw[if_pos hi];exact r
  ·rw[List.getElem?_set_ne (Ne.symm hj)]at e ⊢;obtain⟨v,h1,h2⟩:=h.val j dj e;refine⟨v,h1,?_⟩;by_cases hm:M.contains j=true
   ·rw[if_pos hm]at h2 ⊢;exact h2.same s
   ·rw[if_neg hm]at h2 ⊢;exact((h2.cS ha).weak sub).same s
 ·by_cases hj:j=i
  ·subst hj;have hlt:=dW e;exact⟨d,by rw[List.getElem?_set_self (by rw[h.len];exact hlt)]⟩
  ·rw[List.getElem?_set_ne (Ne.symm hj)]at e ⊢;exact h.non j w e
 ·by_cases h1:j=i
  ·by_cases h2:k=i
   ·rw[h1,h2]
   ·subst h1;have hlt:=dW e1;rw[List.getElem?_set_self hlt]at e1;rw[List.getElem?_set_ne (Ne.symm h2)]at e2;cases e1;exact absurd rfl (old _ ⟨k,hk,e2⟩)
  ·rw[List.getElem?_set_ne (Ne.symm h1)]at e1;by_cases h2:k=i
   ·subst h2;have hlt:=dW e2;rw[List.getElem?_set_self hlt]at e2;cases e2;exact absurd rfl (old _ ⟨j,hj,e1⟩)
   ·rw[List.getElem?_set_ne (Ne.symm h2)]at e2;exact h.sep j k b hj hk e1 e2
def RVm.tN(h:RVm K M σD σ H)(hi:M.contains i=true)(e:σ[i]?=some (some (.ref a)))(ha:H a=some o)(m:c8 o)(r:Own K (upd H a o') d' (.ref a)):RVm K M (σD.set i (some d')) σ (upd H a o')/\Fr' M σ H σ (upd H a o'):=by
 have pa:ba M σ a:=⟨i,hi,e⟩
 refine⟨⟨by simpa using h.len,fun j dj e'=>?_,fun j w e'=>?_,h.sep⟩,⟨fun b u eb n=>⟨?_,n⟩,fun _ _=>rfl⟩⟩
 ·by_cases hj:j=i
  ·subst hj;have hlt:=dW e';rw[List.getElem?_set_self hlt]at e';cases e';refine⟨.ref a,e,?_⟩;rw[if_pos hi];exact r
  ·rw[List.getElem?_set_ne (Ne.symm hj)]at e';obtain⟨v,h1,h2⟩:=h.val j dj e';refine⟨v,h1,?_⟩;by_cases hm:M.contains j=true
   ·rw[if_pos hm]at h2 ⊢;obtain⟨b,ob,rfl,hb,_⟩:=h2.ref
    have hne:b≠a:=fun z=>by subst z;exact hj (h.sep j i b hm hi h1 e)
    obtain⟨q1,q2,q3⟩:=h2;refine⟨q1,q2,?_⟩;have im:∀ {ds:List RL.D} {xs:List V},RL.az ds=true->af nP K H ds xs->af nP K (L2.upd H a o') ds xs:=fun hi r=>(af.upd (P:=fun p=>p=a) ha m rfl (r.imm hi)).imm hi
    cases dj with
    | lst ds=>obtain⟨b',xs,e1,e0,e2,e3⟩:=aP q3;cases e1;rw[Rep];exact⟨b,xs,rfl,fun z=>z,by rw[L2.aB hne];exact e2,im q2 e3⟩
    | dK ks ds=>rw[Rep]at q3 ⊢;obtain⟨b',xs,e1,e0,e2,el,e3⟩:=q3;cases e1;exact⟨b,xs,rfl,fun z=>z,by rw[L2.aB hne];exact e2,el,im q2 e3⟩
    | dT ks ds=>rw[Rep]at q3 ⊢;obtain⟨b',xs,e1,e0,e2,el,e3⟩:=q3;cases e1;exact⟨b,xs,rfl,fun z=>z,by rw[L2.aB hne];exact e2,el,im q2 e3⟩
    | _=>cases q1
   ·rw[if_neg hm]at h2 ⊢;exact Rep.upd ha m pa h2
 ·obtain⟨dj,hd⟩:=h.non j w e';by_cases hj:j=i
  ·subst hj;have hlt:=(List.getElem?_eq_some_iff.mp hd).1;exact⟨d',by rw[List.getElem?_set_self hlt]⟩
  ·exact⟨dj,by rw[List.getElem?_set_ne (Ne.symm hj)];exact hd⟩
 ·have hb:b≠a:=fun z=>n (z▸pa);rw[L2.aB hb];exact eb
end st
abbrev ly(K:PySem.W.Frag)(M:List Nat)(D:Ends)(σ:L2.St)(H:Hp):RL.Out->RL.St->Prop
 | .nx,σD'=>∀ σ' H',RVm K M σD' σ' H'->Fr' M σ H σ' H'->D.nx σ' H'
 | .rt d,σD'=>∀ σ1 H1 v H',RVm K M σD' σ1 H1->Fr' M σ H σ1 H1->ax H1 H'->(∀ P:Addr->Prop,(∀ p,P p->H1 p≠none/\¬ ba M σ1 p)->Rep P K H' d v)->D.rt v H'
def ly.from{K:PySem.W.Frag}(h:ly K M D σ H r σD')(f:Fr' M σ H σ1 H1):ly K M D σ1 H1 r σD':=by
 cases r with
 | nx=>exact fun σ2 H2 rv2 fr2=>h σ2 H2 rv2 (f.trans fr2)
 | rt d=>exact fun σ1 H1 v H2 rv2 fr2 sm rp=>h σ1 H1 v H2 rv2 (f.trans fr2) sm rp
abbrev tS(K:PySem.W.Frag)(M:List Nat)(f:RL.St->Option (RL.Out × RL.St)):TS:=fun D σ H=>∃ σD r σD',RVm K M σD σ H/\f σD=some (r,σD')/\ly K M D σ H r σD'
abbrev SS(X:Cx)(cl:RL.Cl)(M:List Nat)(st:Stmt)(s:RL.S):Prop:=PS X st (tS X.K M (RL.evS cl M s))
abbrev SSs(X:Cx)(cl:RL.Cl)(M:List Nat)(st:List Stmt)(s:RL.Ss):Prop:=PSs X st (tS X.K M (RL.ai cl M s))
section rules
variable{st:Stmt}{i j:Nat}
def yh:SSs X cl M [] .nil:=by
 refine PSs.weak yn fun D σ H h=>?_;obtain⟨σD,r,σD',rv,e,k⟩:=h;cases e;exact k σ H rv (Fr'.same (ax.refl H))
def vd(h1:SS X cl M st s)(h2:SSs X cl M sts r):SSs X cl M (st::sts) (.cons s r):=by
 refine PSs.weak (eB h1 h2) fun D σ H h=>?_;obtain⟨σD,o,σD',rv,e,k⟩:=h;obtain⟨p,e1,e2⟩:=bind_some e;obtain⟨o1,σ1⟩:=p;refine⟨σD,o1,σ1,rv,e1,?_⟩
 cases o1 with
 |rt d=>
  cases e2;exact k
 |nx=>
  exact fun σ' H' rv' fr'=>⟨σ1,o,σD',rv',e2,k.from fr'⟩
def BG(h:SA X cl st i e')(hi:M.contains i=false):SS X cl M st (.asg i e'):=by
 refine PS.weak h fun D σ H h=>?_;obtain⟨σD,o,σD',rv,e,k⟩:=h;obtain⟨d,e1,e2⟩:=bind_some e;split at e2
 ·rename_i ok;cases e2;refine⟨σD,d,rv.rv0,e1,fun v H1 r1=>k _ _ ?_ (Fr'.bind hi r1.same)⟩;refine(rv.same r1.same).bind hi ?_;unfold RL.cD at ok;rw[Bool.or_eq_true,Bool.or_eq_true,Bool.and_eq_true]at ok;rcases ok with(q | ⟨q1,q2⟩) | q
  ·exact r1.rep.imm q
  ·have rp:=r1.rep;have fr:=fun m a z p=>rv.qS a p (r1.fresh q2 m a z);exact rp.top q1 fr
  ·refine r1.av M q _ rv.qS fun j dj vj hj h1 h2=>?_;obtain⟨v',h3,h4⟩:=rv.val j dj h1;rw[h2]at h3;cases h3;rw[if_neg (by rw[hj];decide)]at h4;exact h4
 ·cases e2
def AG(h:SA X cl st i e')(hi:M.contains i=true)(hi2:M.count i<2):SS X cl M st (.own i e'):=by
 refine PS.weak h fun D σ H h=>?_;obtain⟨σD,o,σD',rv,e,k⟩:=h;obtain⟨d,e1,e2⟩:=bind_some e;split at e2
 ·rename_i ok;cases e2;rw[Bool.and_eq_true]at ok;refine⟨σD,d,rv.rv0,e1,fun v H1 r1=>?_⟩
  have m:jz d=true:=by
   cases d with
   | lst _=>rfl
   | dK _ _=>rfl
   | dT _ _=>rfl
   | _=>cases ok.1
  have ow:Own X.K H1 d v:=⟨m,ok.1,r1.rep⟩
  obtain⟨a,ob,rfl,_,_⟩:=ow.ref;obtain⟨h1,h2⟩:=rv.own r1.same hi hi2 (r1.fresh ok.2 m a rfl) ow;exact k _ _ h1 h2
 ·cases e2
def Dy{c:Expr}(hc:ST X cl c c')(ha:SSs X cl M a a')(hb:SSs X cl M b b'):SS X cl M (.If c a b pos) (.ife c' a' b'):=by
 refine PS.weak (rP hc ha hb) fun D σ H h=>?_;obtain⟨σD,o,σD',rv,e,k⟩:=h;obtain⟨t,e1,e2⟩:=bind_some e;refine⟨σD,t,rv.rv0,e1,fun H1 s1=>?_⟩;have k1:=k.from (Fr'.same (σ:=σ) s1)
 cases t with
 | true=>exact dU ⟨σD,o,σD',rv.same s1,e2,k1⟩
 | false=>exact eC ⟨σD,o,σD',rv.same s1,e2,k1⟩
def Cq(he:SE X cl e e')(hv:∀ i,e'=.var i->M.contains i=false):SS X cl M (.Return (some e) pos) (.ret e'):=by
 refine PS.weak (mH he) fun D σ H h=>?_;obtain⟨σD,o,σD',rv,ev,k⟩:=h;obtain⟨d,e1,e2⟩:=bind_some ev;split at e2
 ·rename_i ok;cases e2;refine⟨σD,d,rv.rv0,e1,fun v H1 r1=>k σ H v H1 rv (Fr'.same (ax.refl H)) r1.same fun P hP=>?_⟩;unfold RL.dC at ok;rw[Bool.or_eq_true,Bool.and_eq_true,Bool.or_eq_true]at ok
  rcases ok with q | ⟨q1,q2⟩
  ·exact r1.rep.imm q
  ·have rp:=r1.rep
   have fr:jz d=true->∀ a,v=.ref a->¬ P a:=fun m a z p=>by
    rcases q2 with q | q
    ·exact(hP a p).1 (r1.fresh q m a z)
    ·cases e' with
     |var i=>
      have hi:M.contains i=true:=q;rw[hv i rfl]at hi;cases hi
     | _=>cases q
   exact rp.top q1 fr
 ·cases e2
def xU(hN:X.N[i]?=some x)(hv:Vis X.env.scope x)(hd:(x == ("__debug__" : Str))=false)(hcd:(x == ("__classdict__" : Str))=false)(hi:M.contains i=true):SS X cl M (.Return (some (.Name x p)) pos) (.ret (.var i)):=by
 refine PS.weak (mH (jV hN hv hd hcd)) fun D σ H h=>?_;obtain⟨σD,o,σD',rv,e,k⟩:=h;obtain⟨d,e1,e2⟩:=bind_some e;split at e2
 ·cases e2
  have e3:σD[i]?=some (some d):=by
   obtain⟨o,h1,h2⟩:=bind_some e1
   cases o with
   | none=>cases h2
   | some z=>cases h2;exact h1
  obtain⟨v,h1,h2⟩:=rv.val i d e3;rw[if_pos hi]at h2;refine⟨v,h1,k σ H v H rv (Fr'.same (ax.refl H)) (ax.refl H) fun P hP=>?_⟩;obtain⟨a,o,rfl,_,_⟩:=h2.ref;have np:¬ P a:=fun p=>(hP a p).2 ⟨i,hi,h1⟩;obtain⟨q1,q2,q3⟩:=h2
  exact q3.top q2 fun _ b z=>by cases z;exact np
 ·cases e2
def slot_get{σD:RL.St}(h:(σD[i]?).bind id=some d):σD[i]?=some (some d):=by
 obtain⟨o,h1,h2⟩:=bind_some h
 cases o with
 | none=>cases h2
 | some z=>cases h2;exact h1
def BI(h:PS X st (qJ (tBM X.K "list" pJ (vb i) (tEs X.K cl (.cons e' .nil)))))(hi:M.contains i=true):SS X cl M st (.app i e'):=by
 refine PS.weak h fun D σ H h=>?_;obtain⟨σD,o,σD',rv,e,k⟩:=h;obtain⟨d,e1,e2⟩:=bind_some e;obtain⟨l,e3,e4⟩:=bind_some e2
 cases l with
 |lst ds=>
  dsimp only at e4;split at e4
  ·rename_i ok;cases e4;rw[Bool.and_eq_true,decide_eq_true_eq]at ok;obtain⟨v,h1,h2⟩:=rv.val i _ (slot_get e3);rw[if_pos hi]at h2;obtain⟨q1,q2,q3⟩:=h2;obtain⟨a,xs,rfl,_,f2,f3⟩:=aP q3;refine⟨.ref a,h1,.inl ⟨rfl,xs,SqL.of f2⟩,σD,[d],rv.rv0,by rw[RL.evs,e1];rfl,fun vs H1 s1 r1=>?_⟩;rw[af]at r1;obtain⟨y,t,rfl,r2,r3⟩:=r1;rw[af]at r3;subst r3
   have hl:xs.length<sizeLine:=by rw[<-f3.length];exact Nat.lt_of_lt_of_le ok.2 c7
   refine⟨a,xs,y,rfl,rfl,s1 _ _ f2,hl,?_⟩
   have im:RL.az (ds++[d])=true:=by
    have:∀ l:List RL.D,RL.az l=true->RL.az (l++[d])=true:=fun l=>by
     induction l with
     | nil=>intro _;simp[RL.az,ok.1]
     | cons z r ih=>intro h;rw[RL.az,Bool.and_eq_true]at h;rw[List.cons_append,RL.az,h.1,ih h.2];rfl
    exact this ds q2
   have rs:af nP X.K (upd H1 a (.lst (xs++[y]))) (ds++[d]) (xs++[y]):=(af.upd (P:=fun p=>p=a) (s1 _ _ f2) (.inl ⟨_,rfl⟩) rfl ((af.append (f3.same s1) (af.cons r2 af.nil)).imm im)).imm im;obtain⟨g1,g2⟩:=(rv.same s1).tN (d':=.lst (ds++[d])) (o':=.lst (xs++[y])) hi h1 (s1 _ _ f2) (.inl ⟨_,rfl⟩) ⟨rfl,im,by rw[Rep];exact⟨a,_,rfl,fun z=>z,aR,rs⟩⟩;exact k _ _ g1 ((Fr'.same s1).trans g2)
  ·cases e4
 | _=>cases e4
end rules
def RVm.cj{K:PySem.W.Frag}{M:List Nat}{H:Hp}:∀ {tg:List Nat} {ds:List RL.D} {vs:List V} {σD:RL.St} {σ:L2.St},RVm K M σD σ H->(∀ i∈tg,M.contains i=false)->tg.length=ds.length->RL.az ds=true->af nP K H ds vs ->
  RVm K M (lr tg ds σD) (cM tg vs σ) H/\ba M (cM tg vs σ)=ba M σ
 | [],_,_,_,_,h,_,_,_,_=>⟨h,rfl⟩
 | i::is,[],_,_,_,_,_,hl,_,_=>by simp at hl
 | i::is,d::ds,vs,σD,σ,h,hM,hl,him,r=>by
  obtain⟨v,t,rfl,r1,r2⟩:=r;rw[RL.az,Bool.and_eq_true]at him;have hi:=hM i List.mem_cons_self;obtain⟨g1,g2⟩:=RVm.cj (h.bind hi (r1.imm him.1)) (fun j hj=>hM j (List.mem_cons_of_mem _ hj)) (by simpa using hl) him.2 r2;exact⟨g1,g2.trans (ba.set hi)⟩
def jw{M tg:List Nat}{vs:List V}{σ:L2.St}{j:Nat}(hM:∀ i∈tg,M.contains i=false)(hj:2<=M.count j):(cM tg vs σ)[j]?=σ[j]?:=by
 refine lb tg vs σ j ?_
 cases hc:tg.contains j with
 | false=>rfl
 |true=>
  have:=hM j (by simpa using hc);rw[gE hj]at this;cases this
section rules
variable{X:Cx}{cl:RL.Cl}{M:List Nat}{st:Stmt}{tgE iter:Expr}{body:List Stmt}{b:RL.Ss}{it:RL.It}{tg:List Nat}{e' k' a' b':RL.E}{i j:Nat}{pos:Pos}
def rN{f:RL.St->Option (RL.Out × RL.St)}{d:RL.D}{ds:List RL.D}{σ:RL.St}{p:RL.Out × RL.St}(h:RL.aZ f tg (d::ds) σ=some p):d.imm=true/\∃ σ1 o σ2,RL.aW tg d σ=some σ1/\f σ1=some (o,σ2) /\
  (match o with | .nx=>RL.aZ f tg ds σ2=some p | .rt d=>p=(.rt d,σ2)):=by
 rw[RL.aZ]at h;split at h
 ·rename_i him;obtain⟨σ1,h1,h⟩:=bind_some h;obtain⟨⟨o,σ2⟩,h2,h⟩:=bind_some h;refine⟨him,σ1,o,σ2,h1,h2,?_⟩
  cases o with
  | nx=>exact h
  | rt d=>exact(Option.some.inj h).symm
 ·cases h
def Bu(hx:X.xe=fun _ _=>False)(hc:X.calm=true)(hi:SI X cl tgE iter it)(hg:PG X tgE (gT X.K tg))(hb:SSs X cl M body b)(hs:∀ x,foldedSetIterable iter X.env x=pure x)(hav:RL.oO M it=true)(hM:∀ i∈tg,M.contains i=false) :
  SS X cl M (.For tgE iter body [] pos) (.forr tg it b):=by
 refine PS.weak (uF (by rw[hx];exact PassesOwn.never) hc hi hg hb hs) fun D σ H h=>?_;obtain⟨σD,r,σD',rv,e,k⟩:=h;obtain⟨ds,e1,e2⟩:=bind_some e;refine⟨σD,ds,rv.rv0,e1,fun J H1 s1 src=>?_⟩
 have ok:=src.2 M (ba M σ) hav rv.vI fun j dj vj hj h1 h2=>by
  obtain⟨v',h3,h4⟩:=rv.val j dj h1;rw[h2]at h3;cases h3;rw[if_neg (by rw[hj];decide)]at h4;exact h4
 have k1:=k.from (Fr'.same (σ:=σ) s1);refine⟨fun i m σ2 H2=>∃ σD2,m=ds.length-i/\i<=ds.length/\RVm X.K M σD2 σ2 H2/\Fr' M σ H1 σ2 H2/\RL.aZ (RL.ai cl M b) tg (ds.drop i) σD2=some (r,σD'),⟨_,σD,rfl,Nat.zero_le _,rv.same s1,Fr'.same (ax.refl _),e2⟩,?_⟩;rintro i m σ2 H2 ⟨σD2,rfl,hi2,rv2,fr2,hl⟩;have off:=fun b o n e=>(fr2.1 b o e n).1;by_cases hlt:i<ds.length
 ·refine .inr ⟨ok.go H2 i off hlt,fun σ' H'=>∃ m',m'<ds.length-i/\∃ σD2,m'=ds.length-(i+1)/\i+1<=ds.length/\RVm X.K M σD2 σ' H'/\Fr' M σ H1 σ' H'/\RL.aZ (RL.ai cl M b) tg (ds.drop (i+1)) σD2=some (r,σD'),fun σ' H' z=>z,fun x H3 y=>?_⟩;rw[List.drop_eq_getElem_cons hlt]at hl;obtain⟨him,σ3,o,σ4,h1,h2,h3⟩:=rN hl;obtain⟨s3,rp⟩:=ok.yld H2 i ds[i] x H3 off (by simp[]) y;obtain⟨dv,vs,q1,q2,q3,q4,q5⟩:=qA h1 (rp (.inl him));refine q5 _ _ ?_;obtain⟨rv3,as3⟩:=(rv2.same s3).cj hM q2 (q4 him) q3
  have fr3:Fr' M σ H1 (cM tg vs σ2) H3:=⟨fun b o e n=>⟨s3 _ _ (fr2.1 b o e n).1,by rw[as3];exact(fr2.1 b o e n).2⟩,fun j hj=>(jw hM hj).trans (fr2.2 j hj)⟩
  refine⟨σ3,o,σ4,by rw[q1];exact rv3,h2,?_⟩
  cases o with
  | nx=>exact fun σ' H' rv' fr'=>⟨_,by lia,σ4,rfl,hlt,rv',fr3.trans fr',h3⟩
  |rt d=>
   cases h3;exact fun σ' H' v H4 rv' fr' sm rp=>k1 σ' H' v H4 rv' (fr3.trans fr') sm rp
 ·have e:i=ds.length:=by lia
  subst e;rw[List.drop_length,RL.aZ]at hl;cases hl;exact .inl ⟨ok.stop H2 off,k1 σ2 H2 rv2 fr2⟩
def yY{H:Hp}{a:Addr}{ds:List RL.D}{xs ys:List V}{ds':List RL.D}(f2:H a=some (.lst xs))(im:RL.az ds'=true)(rs:af nP X.K H ds' ys):Own X.K (upd H a (.lst ys)) (.lst ds') (.ref a) :=
 ⟨rfl,im,by rw[Rep];exact⟨a,_,rfl,fun z=>z,aR,(af.upd f2 (.inl ⟨_,rfl⟩) rfl (rs.imm im)).imm im⟩⟩
def qr:∀ {ds:List RL.D},RL.az ds=true->RL.az ds.dropLast=true
 | [],_=>rfl
 | [x],_=>rfl
 | x::y::r,h=>by rw[RL.az,Bool.and_eq_true]at h;rw[List.dropLast_cons_cons,RL.az,h.1,qr h.2];rfl
def af.dropLast{P:Addr->Prop}{K:PySem.W.Frag}{H:Hp}{ds:List RL.D}{xs:List V}(h:af P K H ds xs):af P K H ds.dropLast xs.dropLast:=by
 rw[List.dropLast_eq_take,List.dropLast_eq_take,<-h.length];exact h.take _
def AF(h:PS X st (qJ (tE X.K cl e'))):SS X cl M st (.exc e'):=by
 refine PS.weak h fun D σ H h=>?_;obtain⟨σD,o,σD',rv,e,k⟩:=h;obtain⟨d,e1,e2⟩:=map_some e;cases e2;exact⟨σD,d,rv.rv0,e1,fun v H1 r1=>k _ _ (rv.same r1.same) (Fr'.same r1.same)⟩
end rules
section rules
variable{st:Stmt}
def ye(h:PS X st (vf (tE X.K cl e') (fun v σ H Q=>kG X.K is.length (gs is) v σ H Q\/l7 X.K is.length (gs is) v σ H Q)))(hM:∀ i∈is,M.contains i=false):SS X cl M st (.unp is e'):=by
 refine PS.weak h fun D σ H h=>?_;obtain⟨σD,o,σD',rv,e,k⟩:=h;obtain⟨d,e1,e⟩:=bind_some e;obtain⟨ds,e2,e⟩:=bind_some e;split at e
 ·rename_i him;obtain⟨σ1,e3,e4⟩:=map_some e;cases e4;obtain⟨q1,q2⟩:=fN e3;refine⟨σD,d,rv.rv0,e1,fun v H1 r1=>?_⟩;obtain⟨p,xs,rfl,hp,rs⟩:=hJ e2 r1.rep;obtain⟨g1,g2⟩:=(rv.same r1.same).cj (vs:=xs) hM q1 him rs;have fin:D.nx (cM is xs σ) H1:=k _ _ (by rw[q2];exact g1) ⟨fun b o e n=>⟨r1.same _ _ e,by rw[g2];exact n⟩,fun j hj=>jw hM hj⟩
  have hl:xs.length=is.length:=by rw[<-rs.length,q1]
  rcases hp with⟨hp,_⟩ | ⟨hp,_⟩ | ⟨⟨o,hp⟩,_⟩
  ·exact .inr ⟨p,xs,rfl,SqL.of hp,hl,fK hl.symm fin⟩
  ·exact .inl ⟨p,xs,rfl,SqT.of hp,hl,fK hl.symm fin⟩
  ·exact .inr ⟨p,xs,rfl,.inl (.inr ⟨o,hp⟩),hl,fK hl.symm fin⟩
 ·cases e
def o8(xs:List α)(k:Int):(xs.drop (HT.sIx xs.length 0 none)).take (HT.sIx xs.length xs.length (some k)-HT.sIx xs.length 0 none)=xs.take (RL.cutAt xs.length k):=by
 rw[HT.oA,List.drop_zero,Nat.sub_zero];congr 1;have h:=HT.ff k xs.length xs.length;unfold RL.cutAt;split at h
 ·rename_i h0;lia
 ·rename_i h0;lia
def oS(xs:List α)(k:Int):(xs.drop (HT.sIx xs.length 0 (some k))).take (HT.sIx xs.length xs.length none-HT.sIx xs.length 0 (some k))=xs.drop (RL.cutAt xs.length k):=by
 have e:HT.sIx xs.length 0 (some k)=RL.cutAt xs.length k:=by
  have h:=HT.ff k xs.length 0;unfold RL.cutAt;split at h
  ·rename_i h0;lia
  ·rename_i h0;lia
 rw[e,HT.oA];exact List.take_of_length_le (by rw[List.length_drop];exact Nat.le_refl _)
end rules
section rules
variable{X:Cx}
def one(rv:RV0 X.K σD σ H)(ea:RL.ev cl σD a'=some d)(k:∀ v H1,ax H H1->Rep nP X.K H1 d v->R [v] H1):tEs X.K cl (.cons a' .nil) σ H R :=
 ⟨σD,[d],rv,by rw[RL.evs,ea];rfl,fun vs H1 s1 r1=>by
  rw[af]at r1;obtain⟨v,t,rfl,r2,r3⟩:=r1;rw[af]at r3;subst r3
  exact k v H1 s1 r2⟩
def pair(rv:RV0 X.K σD σ H)(ea:RL.ev cl σD a'=some d)(eb:RL.ev cl σD b'=some d')(k:∀ v u H1,ax H H1->Rep nP X.K H1 d v->Rep nP X.K H1 d' u->R [v,u] H1):tEs X.K cl (.cons a' (.cons b' .nil)) σ H R :=
 ⟨σD,[d,d'],rv,by rw[RL.evs,ea,RL.evs,eb];rfl,fun vs H1 s1 r1=>by
  obtain⟨v,t,rfl,r2,r3⟩:=r1;obtain⟨u,t,rfl,r4,r5⟩:=r3;subst r5
  exact k v u H1 s1 r2 r4⟩
def iH{id:String}{r:List V->Hp->VK->Prop}{b:RL.Bi}(hc:br X (.builtin id) r)(hg:Gl X x)(hm:X.mg x=none)(hv:bootBuiltins x=some (.builtin id))(ha:SE X cl a a')(hn:noStar a=true)(h1:x ≠ "__name__")(h2:(x == ("__debug__" : Str))=false)
 (ok:∀ (σD:RL.St) (σ:L2.St) (H H1:Hp) (y d:RL.D) (v:V) (Q:VK),RL.biV b y=some d->ax H H1->Rep nP X.K H1 y v->(∀ w H',Res X.K σD σ H (.bi b a') d w H'->Q w H')->r [v] H1 Q):SE X cl (.Call (.Name x p) [a] [] pos) (.bi b a'):=by
 refine PE.weak (e6 hc hg hm hv (bx ha cG hn) h1 h2 (au [] hn) rfl) fun σ H Q h=>?_;obtain⟨σD,d,rv,e,k⟩:=h;obtain⟨y,ea,e⟩:=bind_some e;exact one rv ea fun v H1 s1 r1=>ok σD σ H H1 y d v Q e s1 r1 k
def sA{T:String}{r:List V->Hp->VK->Prop}{b:RL.Bi}(hc:br X (.type T) r)(hg:Gl X x)(hm:X.mg x=none)(hv:bootBuiltins x=some (.type T))(ha:SE X cl a a')(hn:noStar a=true)(h1:x ≠ "__name__")(h2:(x == ("__debug__" : Str))=false)
 (ok:∀ (σD:RL.St) (σ:L2.St) (H H1:Hp) (y d:RL.D) (v:V) (Q:VK),RL.biV b y=some d->ax H H1->Rep nP X.K H1 y v->(∀ w H',Res X.K σD σ H (.bi b a') d w H'->Q w H')->r [v] H1 Q):SE X cl (.Call (.Name x p) [a] [] pos) (.bi b a'):=by
 refine PE.weak (bX hc hg hm hv (bx ha cG hn) h1 h2 (au [] hn) rfl) fun σ H Q h=>?_;obtain⟨σD,d,rv,e,k⟩:=h;obtain⟨y,ea,e⟩:=bind_some e;exact one rv ea fun v H1 s1 r1=>ok σD σ H H1 y d v Q e s1 r1 k
def Cd(hg:Gl X "int")(hm:X.mg "int" = none)(ha:SE X cl a a')(hn:noStar a=true):SE X cl (.Call (.Name "int" p) [a] [] pos) (.bi .int a'):=by
 refine sA su hg hm (by decide +kernel) ha hn (by decide) (by decide) fun σD σ H H1 y d v Q e s1 r1 k=>?_
 cases y<;>first | (cases e;done) | skip
 case bl t=>cases e;exact .inr ⟨t,by rw[aT r1],k _ _ (cu s1 aO rfl)⟩
 case int t=>cases e;exact .inl ⟨t,by rw[ah r1],k _ _ (cu s1 aO rfl)⟩
def AI{prog:Program}{w:World}{d:Addr}(hd:(d == sysModules)=false) :
  MeetsIn prog w (Builtin.«dict.__len__» ⟨[.ref d],[]⟩) (fun _ R s=>∃ o es ep,s.heap.get? d=some o/\o.data=.dict es ep/\R (.ok (.ret (.int es.size s.toks))) { s with toks:=s.toks+1 }) :=
 .of_wp fun A R s ⟨o,es,ep,ho,hdat,h⟩=>by
  show wpAny _ _ (dictSize d >>= _) _ _ s;refine wpAny_bind (wpAny_bind (wpAny_dictEntries ho hdat (wpAny_pure ?_)));refine wpAny_bind (wpAny_pendingCount_other hd ?_);refine wpAny_ret_mkInt ?_;exact h
def rM{prog:Program}{w:World}{K:Type} [DecidableEq K]{knd:HeapKind prog w K}(hd:(d == sysModules)=false) :
  MeetsIn prog w (Builtin.«dict.__len__» ⟨[.ref d],[]⟩) (fun _ R s=>∃ xs,s.heap.DictOfH knd d xs/\R (.ok (.ret (.int xs.length s.toks))) { s with toks:=s.toks+1 }) :=
 .of_wp fun A R s ⟨xs,hm,h⟩=>by
  obtain⟨o,es,ep,ho,hc,hdat,hk,_,_⟩:=hm;show wpAny _ _ (dictSize d >>= _) _ _ s;refine wpAny_bind (wpAny_bind (wpAny_dictEntries ho hdat (wpAny_pure ?_)));refine wpAny_bind (wpAny_pendingCount_other hd ?_);refine wpAny_ret_mkInt ?_;rw[Nat.add_zero,size_of_entries hk];exact h
def kY{prog:Program}{w:World}{K:Type} [DecidableEq K]{knd:HeapKind prog w K}{A:Around}{E:Value->Shared->Prop}{s:Shared}{d:Addr}{xs:List (K × Addr × Value)}{Q:Value->Shared->Prop}(hd:(d == sysModules)=false)(hm:s.heap.DictOfH knd d xs)(hfit:(xs.length:Int)<2 ^ 63)
 (h:Q (.int xs.length (s.toks+1)) { s with toks:=s.toks+1+1 }):wpAny (model prog w) A (call (.builtin "len") [.ref d]) Q E s:=by
 refine Calls.call_function_entry kind_len plain_len entry_len (args_len1 _) ?_;refine wpAny_bind (wpAny_pure ?_)
 refine wpAny_bind (wpAny_callSpecial?_slot hm.typeIs F.slot_dict_len
  (call_meetsIn F.slot_dict_len hm.typeIs F.entry_dict_len (F.args_dict_len_1 _) (rM hd) ⟨xs,hm,?_⟩))
 refine wpAny_bind (wpAny_holding (wpAny_pure ?_));refine wpAny_bind (wpAny_letGo ?_);rw[if_neg (by omega)];rw[if_neg (by omega)];exact wpAny_bind (wpAny_mkInt (wpAny_pure ⟨_,rfl,h⟩))
def sZ:br X (.builtin "len") (fun xs H Q=>∃ a kvs,xs=[V.ref a]/\H a=some (.dT kvs)/\Q (.int kvs.length) H):=by
 intro pins s σ H xs us Q I r h;obtain⟨a,kvs,rfl,ha,q⟩:=h;obtain⟨u,rfl,ru⟩:=vals1 r;cases ru;obtain⟨z,hd,xs,rel,dd⟩:=CZ I.hok ha;have hl:=Paired.length rel;refine kY hd dd (by rw[<-hl];rw[sizeLine_eq]at z;omega) ?_;rw[<-hl];exact⟨.int kvs.length,H,I.tok _,⟨_,rfl⟩,q⟩
def rY:br X (.builtin "len") (fun xs H Q=>∃ a o kvs,xs=[V.ref a]/\H a=some (.frz o (.dT kvs))/\Q (.int kvs.length) H):=by
 intro pins s σ H xs us Q I r h;obtain⟨a,o,kvs,rfl,ha,q⟩:=h;obtain⟨u,rfl,ru⟩:=vals1 r;cases ru;obtain⟨_,z,hd,xs,rel,ob,es,ep,g,ex,hdat,he,nd⟩:=I.hok a _ ha;have hl:=Paired.length rel;refine Calls.call_function_entry kind_len plain_len entry_len (args_len1 _) ?_;refine wpAny_bind (wpAny_pure ?_)
 refine wpAny_bind (wpAny_callSpecial?_slot ⟨ob,g,ex.1⟩ F.slot_dict_len
  (call_meetsIn F.slot_dict_len ⟨ob,g,ex.1⟩ F.entry_dict_len (F.args_dict_len_1 _) (AI hd) ⟨ob,es,ep,g,hdat,?_⟩))
 have hs:es.size=kvs.length:=by rw[<-Array.length_toList,he,List.length_map,hl]
 rw[sizeLine_eq]at z;refine wpAny_bind (wpAny_holding (wpAny_pure ?_));refine wpAny_bind (wpAny_letGo ?_);rw[if_neg (by omega)];rw[if_neg (by omega)];exact wpAny_bind (wpAny_mkInt (wpAny_pure ⟨_,rfl,⟨.int kvs.length,H,I.tok _,⟨_,by rw[hs]⟩,q⟩⟩))
def sS:br X (.builtin "len") (fun xs H Q=>(∃ y n,xs=[y]/\AK X.K y H n/\Q (.int n) H)\/(∃ q kvs,xs=[V.ref q]/\H q=some (.dK kvs)/\Q (.int kvs.length) H)\/(∃ q kvs,xs=[V.ref q]/\H q=some (.dT kvs)/\Q (.int kvs.length) H)\/∃ q o kvs,xs=[V.ref q]/\H q=some (.frz o (.dT kvs))/\Q (.int kvs.length) H):=br.or v9 (br.or u7 (br.or sZ rY))
def AE(hg:Gl X "len")(hm:X.mg "len" = none)(ha:SE X cl a a')(hn:noStar a=true):SE X cl (.Call (.Name "len" p) [a] [] pos) (.bi .len a'):=by
 refine iH sS hg hm PySem.boot_len ha hn (by decide) (by decide) fun σD σ H H1 y d v Q e s1 r1 k=>?_
 cases y<;>first | (cases e;done) | skip
 case str t =>
  rw[RL.DF]at e;split at e
  ·rename_i hz;cases e;rw[aN r1];exact .inl ⟨_,_,rfl,⟨Nat.le_trans hz c7,rfl⟩,k _ _ (cu s1 aO rfl)⟩
  ·cases e
 case tup t =>
  cases e;obtain⟨q,xs,rfl,f2,f3⟩:=aX r1;dsimp only at k;rw[f3.length]at k;exact .inl ⟨_,_,rfl,.inr ⟨xs,SqT.of f2,rfl⟩,k _ _ (cu s1 aO rfl)⟩
 case lst t =>
  cases e;obtain⟨q,xs,rfl,_,f2,f3⟩:=aP r1;dsimp only at k;rw[f3.length]at k;exact .inl ⟨_,_,rfl,.inl ⟨xs,SqL.of f2,rfl⟩,k _ _ (cu s1 aO rfl)⟩
 case fL t =>
  cases e;obtain⟨q,o,xs,rfl,f2,f3⟩:=r1;dsimp only at k;rw[f3.length]at k;exact .inl ⟨_,_,rfl,.inl ⟨xs,.inl (.inr ⟨o,f2⟩),rfl⟩,k _ _ (cu s1 aO rfl)⟩
 case dK ks t =>
  cases e;obtain⟨q,xs,rfl,_,f2,fl,f3⟩:=r1;refine .inr (.inl ⟨q,_,rfl,f2,?_⟩)
  have:(ks.zip xs).length=ks.length:=by rw[List.length_zip,<-f3.length,fl,Nat.min_self]
  rw[this];exact k _ _ (cu s1 aO rfl)
 case dT ks t =>
  cases e;obtain⟨q,xs,rfl,_,f2,fl,f3⟩:=r1;refine .inr (.inr (.inl ⟨q,_,rfl,f2,?_⟩))
  have:(ks.zip xs).length=ks.length:=by rw[List.length_zip,<-f3.length,fl,Nat.min_self]
  rw[this];exact k _ _ (cu s1 aO rfl)
 case fT ks t =>
  cases e;obtain⟨q,o,xs,rfl,f2,fl,f3⟩:=r1;refine .inr (.inr (.inr ⟨q,o,_,rfl,f2,?_⟩))
  have:(ks.zip xs).length=ks.length:=by rw[List.length_zip,<-f3.length,fl,Nat.min_self]
  rw[this];exact k _ _ (cu s1 aO rfl)
def Bv(hc:X.calm=true)(hg:Gl X "max")(hm:X.mg "max" = none)(ha:SE X cl a a')(hb:SE X cl b b')(hn:noStar a=true)(hn2:noStar b=true):SE X cl (.Call (.Name "max" p) [a,b] [] pos) (.max a' b'):=by
 refine PE.weak (e6 (uf hc) hg hm (by decide +kernel) (bx ha (bx hb cG hn2) hn) (by decide) (by decide) (au _ hn) (cB (by simp[hn2]))) fun σ H Q h=>?_;obtain⟨σD,d,rv,e,k⟩:=h;obtain⟨u,ea,e⟩:=bind_some e;obtain⟨v,eb,e⟩:=bind_some e
 cases u with
 |int i=>
  cases v with
  |int j=>
   cases e
   exact pair rv ea eb fun v u H1 s1 r1 r2=>⟨i,j,by rw[ah r1,ah r2],k _ _ (cu s1 aO rfl)⟩
  | _=>cases e
 | _=>cases e
abbrev tyN:RL.Ty->String
 | .int => "int"
 | .bool => "bool"
 | .list => "list"
 | .tuple => "tuple"
 | .str => "str"
def uX:br X (.builtin "isinstance") (fun xs H Q=>∃ y t T k,xs=[y,.ty T]/\dQ X.K H y t/\PySem.W.kitOne X.K t (.type T)=some k/\Q (.bl k) H):=by
 intro pins s σ H xs us Q I r h;obtain⟨y,t,T,k,rfl,ty,e,q⟩:=h;obtain⟨u,w,rfl,r1,r2⟩:=vals2 r;cases r2
 exact uw I r1 ty e fun tk=>⟨.bl k,H,I.tok tk,rfl,q⟩
def A2(h:RL.et t d=some k)(r:Rep nP X.K H d v):∃ ty,dQ X.K H v ty/\PySem.W.kitOne X.K ty (.type (tyN t))=some k:=by
 cases d with
 | non=>rw[Rep]at r;subst r;refine⟨_,.non,?_⟩;cases t<;>(cases h;rfl)
 | bl i=>rw[aT r];refine⟨_,.bl i,?_⟩;cases t<;>(cases h;rfl)
 | int i=>rw[ah r];refine⟨_,.int i,?_⟩;cases t<;>(cases h;rfl)
 | str i=>rw[aN r];refine⟨_,.str i,?_⟩;cases t<;>(cases h;rfl)
 | tup i=>obtain⟨q,xs,rfl,f2,f3⟩:=aX r;refine⟨_,.tup f2,?_⟩;cases t<;>(cases h;rfl)
 | lst i=>obtain⟨q,xs,rfl,_,f2,f3⟩:=aP r;refine⟨_,.lst f2,?_⟩;cases t<;>(cases h;rfl)
 | fL i=>rw[Rep]at r;obtain⟨q,o,xs,rfl,f2,f3⟩:=r;refine⟨_,.frz f2,?_⟩;cases t<;>(cases h;rfl)
 | _=>cases t<;>cases h
def B3(hg:Gl X "isinstance")(hm:X.mg "isinstance" = none)(hgy:Gl X y)(hmy:X.mg y=none)(hy:bootBuiltins y=some (.type (tyN t)))(hy1:y ≠ "__name__")(hy2:(y == ("__debug__" : Str))=false)(ha:SE X cl a a')(hn:noStar a=true) :
  SE X cl (.Call (.Name "isinstance" p) [a,.Name y p2] [] pos) (.isi a' t):=by
 have hty:PE X (.Name y p2) (tC (.ty (tyN t))):=ql hgy hmy hy rfl hy1 hy2;refine PE.weak (e6 uX hg hm (by decide +kernel) (bb ha (bb hty cK rfl) (au _ hn)) (by decide) (by decide) (au _ hn) rfl) fun σ H Q h=>?_;obtain⟨σD,d,rv,e,k⟩:=h;obtain⟨u,ea,e⟩:=bind_some e;obtain⟨t',e1,e2⟩:=map_some e;subst e2;refine⟨σD,u,rv,ea,fun v H1 r1=>?_⟩;obtain⟨ty,h1,h2⟩:=A2 e1 r1.rep;exact⟨v,ty,_,t',rfl,h1,h2,k _ _ (dM r1.same)⟩
end rules
end RS
namespace L2
open PySem PySem.Spec PyProof.Rows
structure iX(prog:Program)(w:World):Prop where
 draws:∀ {A:Around},A.handled=none->∀ (ti tp:Addr),tp≠ti->∀ its:Array Value,Draws prog w A ti [ti,tp] its.size (fun i v=>its[i]?=some v) (fun i h=>h.IsTupleIter ti tp i/\h.IsTuple tp its)
 call:∀ {A:Around} {E:Value->Shared->Prop} {z:Shared} {tp:Addr} {its:Array Value} {Q:Value->Shared->Prop},z.heap.IsTuple tp its ->
  (∀ g,IsEnum g (z.heap.objs.size+1) z.heap.objs.size 0 .none->g.IsTupleIter z.heap.objs.size tp 0->(∀ b o,z.heap.get? b=some o->g.get? b=some o)->Q (.ref (z.heap.objs.size+1)) { z with heap:=g })->wpAny (model prog w) A (call (.type "enumerate") [.ref tp]) Q E z
section
def Inv.l3{h':Heap}{t':Nat}{fp:List Addr}(I:Inv X pins σ H s)(k:∀ b o,b∉fp->s.heap.get? b=some o->h'.get? b=some o)(hf:∀ b∈fp,H b=none/\(b∈X.ex\/X.s₀.heap.objs.size<=b)/\b≠X.env.locals/\(∀ x c,X.env.cells.lookup x=some c->c≠b)/\∀ p∈X.pn++pins,p.1≠b) :
  Inv X pins σ H { s with heap:=h',toks:=t' }:=by
 have nf:∀ b u,H b=some u->b∉fp:=fun b u e z=>by rw[(hf b z).1]at e;cases e
 refine I.mj (s':={ s with heap:=h',toks:=t' }) (ch:=fp) rfl ⟨fun b o e _ _ hx=>k b o hx e,fun b o e _ _ hx=>⟨o.slots,k b o hx e⟩,fun _ _ _ n _=>n,fun b o e hx=>⟨o,k b o hx e⟩,fun _ _ e=>e,fun _ _ _ e=>e,fun b ps e=>⟨#[],by rw[e];simp⟩⟩ (fun b u e=>?_) I.bare fun b hb=>(hf b hb).2;refine(I.hok b u e).bQ (fun c v hc q=>k c v ?_ q) (fun _ q=>q) fun _ _ q=>q;rcases hc with z | z
 ·rw[z];exact nf b u e
 ·exact nf c _ z
end
abbrev Ite(cont:Hp->List V->Prop):It :=
 ⟨fun i H=>∃ xs x,cont H xs/\xs[i]?=some x,fun i H v H'=>∃ p x,H p=none/\v=.ref p/\H'=upd H p (.tup [.int i,x])/\∀ xs,cont H xs->xs[i]?=some x,fun i H=>∃ xs,cont H xs/\xs.length=i⟩
structure Src(P:Program)(w:World)(K:PySem.W.Frag)(e it:Addr)(cont:Hp->List V->Prop)(ia:Nat->Heap->Prop):Prop where
 obj:∀ i h,ia i h->∃ o,h.get? it=some o/\∀ v,o.data≠.cell v
 keep:∀ i h h',ia i h->(∀ o,h.get? it=some o->h'.get? it=some o)->ia i h'
 inj:∀ (H:Hp) xs ys,cont H xs->cont H ys->xs=ys
 dr:∀ (X:Cx),X.prog=P->X.w=w->X.K=K->X.calm=true->∀ (pins:List (Addr × Obj)) (s:Shared) (σ:St) (H:Hp) (xs:List V),Inv X pins σ H s->H e=none->H it=none->cont H xs ->
  ∃ (fp:List Addr) (Pv:Nat->Value->Prop) (St:Nat->Heap->Prop),Draws P w X.A.in1 it fp xs.length Pv St/\e∉fp/\(∀ i,ia i s.heap->St i s.heap)/\(∀ i h,St i h->ia i h)/\∀ i v,Pv i v->∃ x,xs[i]?=some x/\RelV x v
def sO{P:Program}{w:World}{K:PySem.W.Frag}(hei:e≠it)(S:Src P w K e it cont ia) :
  Turn P w K (.Tuple elts kx tp) (Ite cont) [e,it] e (fun i h=>(∃ old,IsEnum h e it i old)/\ia i h) where
 mem:=by simp
 obj:=fun i h st b hb=>by
  rcases List.mem_cons.mp hb with rfl | hb
  ·obtain⟨⟨old,he⟩,_⟩:=st;exact⟨_,he,fun v z=>by cases z⟩
  ·rw[List.mem_singleton.mp hb];exact S.obj i h st.2
 keep:=fun i h h' st k=>by
  obtain⟨⟨old,he⟩,hi⟩:=st;exact⟨⟨old,k e (by simp) _ he⟩,S.keep i h h' hi fun o q=>k it (by simp) o q⟩
 item:=by
  intro X hP hw hK hc i pins s σ H E I hf st hg;subst hP hw hK;obtain⟨⟨old,he⟩,hi⟩:=st;obtain⟨xs,x,hq,hx⟩:=hg;have fe:=hf e (by simp);have fi:=hf it (by simp);obtain⟨fp,Pv,St,D,hef,h1,h2,h3⟩:=S.dr X rfl rfl rfl hc pins s σ H xs I fe.1 fi.1 hq;have hlt:i<xs.length:=(List.getElem?_eq_some_iff.mp hx).1;refine wpAny_pyNext_enum_itemD D he (h1 i hi) hlt hei hef fun v h' tk hP ho hs' hT hsz hk=>?_;obtain⟨x',hx',rx⟩:=h3 i v hP;rw[hx]at hx';cases hx';refine⟨.ref s.heap.objs.size,rfl,wpAny_letOwnedTupleGo_enum ho fun h'' he' hs''=>?_⟩;have hn:H s.heap.objs.size=none:=I.hok.fresh (Nat.le_refl _)
  have I1:Inv X pins σ (upd H s.heap.objs.size (.tup [.int i,x])) { s with heap:=s.heap.push { cls:=.type "tuple",data:=.seq #[.int i tk,v] },toks:=tk+1 } :=
   I.laid (t':=tk+1) (fun b u q=>Heap.get?_push_of_some _ q) (Nat.le_refl _) ⟨by show 2<=sizeLine;decide,[.int i tk,v],.cons ⟨tk,rfl⟩ (.cons rx .nil),⟨_,Heap.get?_push_size _ rfl,rfl,_,rfl⟩⟩
  have hes:e<s.heap.objs.size:=Heap.lt_size he
  have hit:it<s.heap.objs.size:=by obtain⟨o,q,_⟩:=S.obj i _ hi;exact Heap.lt_size q
  have stat:∀ b∈[e,it],upd H s.heap.objs.size (.tup [.int i,x]) b=none/\(b∈X.ex\/X.s₀.heap.objs.size<=b)/\b≠X.env.locals/\(∀ x c,X.env.cells.lookup x=some c->c≠b)/\∀ p∈X.pn++pins,p.1≠b:=fun b hb=>by
   obtain⟨f0,f1,f2,f3,f4,f5⟩:=hf b hb
   have hb':b≠s.heap.objs.size:=by
    rcases List.mem_cons.mp hb with rfl | hb
    ·exact Nat.ne_of_lt hes
    ·rw[List.mem_singleton.mp hb];exact Nat.ne_of_lt hit
   exact⟨by rw[aB hb'];exact f0,f3,f1,f4,f5⟩
  have I2:Inv X pins σ (upd H s.heap.objs.size (.tup [.int i,x])) { s with heap:=h'',toks:=tk+1 }:=by
   refine Inv.l3 (s:={ s with heap:=s.heap.push { cls:=.type "tuple",data:=.seq #[.int i tk,v] },toks:=tk+1 }) (h':=h'') (t':=tk+1) (fp:=[e,it]) I1 (fun b o hb q=>?_) stat;have b1:b≠e:=fun z=>hb (by simp[z]);have b2:b≠it:=fun z=>hb (by simp[z]);refine hs''.extBut b o b1 ?_;by_cases hbT:b=s.heap.objs.size
   ·subst hbT;have q':(s.heap.push { cls:=.type "tuple",data:=.seq #[.int i tk,v] }).get? s.heap.objs.size=some o:=q;rw[Heap.get?_push_size _ rfl]at q';cases q';exact hT
   ·have q':s.heap.get? b=some o:=(Heap.get?_push_ne _ _ _ hbT).symm.trans q;exact hk b o b1 b2 q'
  refine⟨.ref s.heap.objs.size,_,I2,rfl,⟨s.heap.objs.size,x,hn,rfl,rfl,fun ys hy=>by rw[S.inj H ys xs hy hq];exact hx⟩,⟨⟨v,by simpa using he'⟩,S.keep _ h' h'' (h2 _ _ hs') fun o q=>hs''.extBut _ _ (Ne.symm hei) q⟩,fun b hb=>(stat b hb).1⟩
 done:=by
  intro X hP hw hK hc i pins s σ H E I hf st hg;subst hP hw hK;obtain⟨⟨old,he⟩,hi⟩:=st;obtain⟨xs,hq,hx⟩:=hg;have fe:=hf e (by simp);have fi:=hf it (by simp);obtain⟨fp,Pv,St,D,hef,h1,h2,h3⟩:=S.dr X rfl rfl rfl hc pins s σ H xs I fe.1 fi.1 hq;subst hx
  refine wpAny_pyNext_enum_endD D he (h1 _ hi) fun h' eb=>⟨rfl,?_⟩
  obtain⟨f0,f1,f2,f3,f4,f5⟩:=fi;exact I.turned (it:=it) (h':=h') (t':=s.toks) (fun b o hb q=>eb b o hb q) f0 f1 f3 f4 f5
 self:=fun A i s Q E st h=>by
  obtain⟨⟨old,he⟩,hi⟩:=st;exact wpAny_pyIter_enum he h
def src_list{P:Program}{w:World}{K:PySem.W.Frag}(hei:e≠it):Src P w K e it (fun H xs=>H l=some (.lst xs)) (fun i h=>h.IsListIter it l i) where
 obj:=fun i h st=>let ⟨o,ho,_,hd⟩:=st;⟨o,ho,fun v q=>by rw[hd]at q;cases q⟩
 keep:=fun i h h' st k=>st.at fun o q=>k o q
 inj:=fun H xs ys h1 h2=>by rw[h1]at h2;cases h2;rfl
 dr:=by
  intro X hP hw hK hc pins s σ H xs I he hi hx;subst hP hw hK;obtain⟨its,rv,p,hz⟩:=I.list (SqL.of hx)
  have hl:its.toArray.size=xs.length:=by rw[List.size_toArray,rv.length]
  have hh:X.A.in1.handled=none:=I.ok.hd.1 hc;have D:=Draws.list (prog:=X.prog) (w:=X.w) (A:=X.A.in1) hh it l (aG hx hi) its.toArray;rw[hl]at D;refine⟨_,_,_,D,?_,fun i st=>⟨st,p.isList⟩,fun i h st=>st.1,fun i v hv=>?_⟩
  ·intro m;rcases List.mem_cons.mp m with q | m
   ·exact hei q
   ·exact(aG hx he).symm (List.mem_singleton.mp m)
  ·have hv:its[i]?=some v:=by simpa using hv
   have hlt:i<xs.length:=by rw[rv.length];exact(List.getElem?_eq_some_iff.mp hv).1
   obtain⟨u,h1,h2⟩:=rv.get (i:=i) (x:=xs[i]) (by simp[hlt]);rw[hv]at h1;cases h1;exact⟨xs[i],by simp[hlt],h2⟩
def yZ{P:Program}{w:World}{K:PySem.W.Frag}(TE:iX P w)(hei:e≠it):Src P w K e it (fun H xs=>H l=some (.tup xs)) (fun i h=>h.IsTupleIter it l i) where
 obj:=fun i h st=>let ⟨o,ho,_,hd⟩:=st;⟨o,ho,fun v q=>by rw[hd]at q;cases q⟩
 keep:=fun i h h' st k=>let ⟨o,ho,r⟩:=st;⟨o,k o ho,r⟩
 inj:=fun H xs ys h1 h2=>by rw[h1]at h2;cases h2;rfl
 dr:=by
  intro X hP hw hK hc pins s σ H xs I he hi hx;subst hP hw hK;obtain⟨its,rv,p,hz⟩:=I.tuple (SqT.of hx)
  have hl:its.toArray.size=xs.length:=by rw[List.size_toArray,rv.length]
  have hh:X.A.in1.handled=none:=I.ok.hd.1 hc;have D:=TE.draws (A:=X.A.in1) hh it l (aG hx hi) its.toArray;rw[hl]at D;refine⟨_,_,_,D,?_,fun i st=>⟨st,p⟩,fun i h st=>st.1,fun i v hv=>?_⟩
  ·intro m;rcases List.mem_cons.mp m with q | m
   ·exact hei q
   ·exact(aG hx he).symm (List.mem_singleton.mp m)
  ·have hv:its[i]?=some v:=by simpa using hv
   have hlt:i<xs.length:=by rw[rv.length];exact(List.getElem?_eq_some_iff.mp hv).1
   obtain⟨u,h1,h2⟩:=rv.get (i:=i) (x:=xs[i]) (by simp[hlt]);rw[hv]at h1;cases h1;exact⟨xs[i],by simp[hlt],h2⟩
abbrev gw(x:Str):List V:=x.cps.toList.map fun c=>.str ⟨#[c]⟩
def yi{P:Program}{w:World}{K:PySem.W.Frag}(hei:e≠it):Src P w K e it (fun _ xs=>xs=gw x) (fun i h=>h.IsStrIter it (strIterType x) x t i) where
 obj:=fun i h st=>let ⟨o,ho,_,hd⟩:=st;⟨o,ho,fun v q=>by rw[hd]at q;cases q⟩
 keep:=fun i h h' st k=>let ⟨o,ho,r⟩:=st;⟨o,k o ho,r⟩
 inj:=fun H xs ys h1 h2=>by rw[h1,h2]
 dr:=by
  intro X hP hw hK hc pins s σ H xs I he hi hx;subst hP hw hK hx;have hh:X.A.in1.handled=none:=I.ok.hd.1 hc
  have hl:x.cps.size=(gw x).length:=by simp[gw]
  have pv:∀ (i:Nat) (v:Value),(∃ c u,x.cps[i]?=some c/\v=Value.str ⟨#[c]⟩ u)->∃ y,(gw x)[i]?=some y/\RelV y v:=fun i v hv=>by
   obtain⟨c,u,h1,h2⟩:=hv;exact⟨.str ⟨#[c]⟩,by simp[gw,h1],u,h2⟩
  have ni:e∉[it]:=fun m=>hei (List.mem_singleton.mp m)
  cases ha:x.cps.all (·<128)with
  |true=>
   have ht:strIterType x = "str_ascii_iterator" := by simp[strIterType,ha]
   have D:=Draws.strAscii (prog:=X.prog) (w:=X.w) (A:=X.A.in1) hh it x t;rw[hl]at D;exact⟨_,_,_,D,ni,fun i st=>by rw[ht]at st;exact st,fun i h st=>by rw[ht];exact st,pv⟩
  |false=>
   have ht:strIterType x = "str_iterator" := by simp[strIterType,ha]
   have D:=Draws.strWide (prog:=X.prog) (w:=X.w) (A:=X.A.in1) hh it x t;rw[hl]at D;exact⟨_,_,_,D,ni,fun i st=>by rw[ht]at st;exact st,fun i h st=>by rw[ht];exact st,pv⟩
section
abbrev C6(ta:TA):TI:=fun σ H R=>ta σ H fun vs H1=>(∃ l xs,vs=[.ref l]/\H1 l=some (.lst xs)/\R (Ite fun H xs=>H l=some (.lst xs)) H1)\/(∃ l xs,vs=[.ref l]/\H1 l=some (.tup xs)/\R (Ite fun H xs=>H l=some (.tup xs)) H1) \/
 (∃ x,vs=[.str x]/\R (Ite fun _ xs=>xs=gw x) H1)
def j0(I:Inv X pins σ H s)(S:Src X.prog X.w X.K (s.heap.objs.size+1) s.heap.objs.size cont ia)
 (he:IsEnum g (s.heap.objs.size+1) s.heap.objs.size 0 .none)(hi:ia 0 g)(hk:∀ b o,s.heap.get? b=some o->g.get? b=some o)(q:R (Ite cont) H) :
  wpAny (model X.prog X.w) X.A (pyIter (.ref (s.heap.objs.size+1))) (PIE X pins σ (.Tuple elts kx tp) R) E { s with heap:=g }:=by
 refine wpAny_pyIter_enum he ⟨s.heap.objs.size+1,[s.heap.objs.size+1,s.heap.objs.size],_,_,H,rfl,I.kept (t':=s.toks) hk,sO (Nat.succ_ne_self _) S,⟨⟨.none,he⟩,hi⟩,fun b hb=>?_,q⟩
 have hb':s.heap.objs.size<=b:=by
  rcases List.mem_cons.mp hb with z | z
  ·rw[z];exact Nat.le_succ _
  ·rw[List.mem_singleton.mp z];exact Nat.le_refl _
 exact I.kB hb' (I.hok.fresh hb')
def yJ(TE:iX X.prog X.w)(hg:Gl X "enumerate")(hm:X.mg "enumerate" = none)(ha:PA X [a] ta)(hs:starEach [a] X.env=[(false,eval a X.env)]):PI X (.Tuple elts kx tp) (.Call (.Name "enumerate" p) [a] [] pos) (C6 ta):=by
 intro pins s σ H R I h;refine Call_ (fF I hg hm boot_enumerate (PyProof.Rows.callWith_type1 (thn (ha pos pins s σ H _ I h) fun us s1 ⟨vs,H1,I1,r1,q1⟩=>?_) hs rfl) (by decide) (by decide))
 rcases q1 with⟨l,xs,rfl,hx,q⟩ | ⟨l,xs,rfl,hx,q⟩ | ⟨x,rfl,q⟩
 ·obtain⟨u,rfl,ru⟩:=vals1 r1;cases ru;obtain⟨its,rv,pl,hz⟩:=I1.list (SqL.of hx);exact call_enumerate_list pl.isList fun g he hi hsz hk=>j0 I1 (src_list (Nat.succ_ne_self _)) he hi hk q
 ·obtain⟨u,rfl,ru⟩:=vals1 r1;cases ru;obtain⟨its,rv,pl,hz⟩:=I1.tuple (SqT.of hx);exact TE.call pl fun g he hi hk=>j0 I1 (yZ TE (Nat.succ_ne_self _)) he hi hk q
 ·obtain⟨u,rfl,ru⟩:=vals1 r1;obtain⟨t,rfl⟩:=ru;exact call_enumerate_str fun g he hi hsz hk=>j0 I1 (yi (Nat.succ_ne_self _)) he hi hk q
end
end L2
namespace RS
open PySem PySem.Spec PyProof.Rows L2
def iA:∀ (ds:List RL.D) (k:Int),(RL.cP k ds).length=ds.length
 | [],_=>rfl
 | d::r,k=>by rw[RL.cP,List.length_cons,List.length_cons,iA r]
def lE:∀ (ds:List RL.D) (k:Int) (i:Nat) (d:RL.D),(RL.cP k ds)[i]?=some d->∃ e,ds[i]?=some e/\d=.tup [.int (k+i),e]
 | [],k,i,d,h=>by simp[RL.cP]at h
 | e::r,k,0,d,h=>by simp[RL.cP]at h;exact⟨e,rfl,by simp[h]⟩
 | e::r,k,i+1,d,h=>by
  obtain⟨e',h1,h2⟩:=lE r (k+1) i d h;refine⟨e',by simpa using h1,?_⟩;congr 3;lia
def fq{K:PySem.W.Frag}(hc:∀ H',Off P H H'->cont H' xs)(hj:∀ H' ys,cont H' xs->cont H' ys->ys=xs)(r:af nP K H ds xs)(hm:∀ b o,P b->H b=some o->c8 o):gH K (Ite cont) (RL.cP 0 ds) P H where
 go:=fun H' i k hi=>by
  rw[iA]at hi;obtain⟨x,e,_⟩:=r.get (i:=i) (d:=ds[i]) (by simp[]);exact⟨xs,x,hc H' k,e⟩
 stop:=fun H' k=>⟨xs,hc H' k,by rw[iA,r.length]⟩
 yld:=fun H' i d v H2 k e y=>by
  obtain⟨p,x,hp,rfl,rfl,hx⟩:=y;obtain⟨e',h1,rfl⟩:=lE ds 0 i d e;obtain⟨x',h2,h3⟩:=r.get h1;rw[hx xs (hc H' k)]at h2;cases h2;refine⟨ax.bY hp,fun q=>?_⟩
  have re:Rep nP K H' e' x:=by
   rcases q with q | q
   ·have q:(true&&(e'.imm&&true))=true:=q;simp only[Bool.true_and,Bool.and_true]at q;exact ee hm k h3 q
   ·exact h3.same q
  refine⟨p,[.int i,x],rfl,aR,af.cons ?_ (af.cons (re.same (ax.bY hp)) af.nil)⟩;simpa using(aO)
def sC{P:Addr->Prop}{K:PySem.W.Frag}(h:RL.jS d=some ds)(r:Rep P K H d v):(∃ p xs,v=.ref p/\H p=some (.lst xs)/\d=.lst ds/\af P K H ds xs)\/(∃ p xs,v=.ref p/\H p=some (.tup xs)/\d=.tup ds/\af P K H ds xs) \/
  (∃ x,v=.str x/\d=.str x/\ds=x.cps.toList.map fun c=>.str ⟨#[c]⟩):=by
 cases d<;>simp only[RL.jS]at h<;>first | (cases h;done) | skip
 case lst ys=>cases h;obtain⟨p,xs,e1,_,e2,e3⟩:=aP r;exact .inl ⟨p,xs,e1,e2,rfl,e3⟩
 case tup ys=>cases h;obtain⟨p,xs,e1,e2,e3⟩:=aX r;exact .inr (.inl ⟨p,xs,e1,e2,rfl,e3⟩)
 case str x=>cases h;exact .inr (.inr ⟨x,aN r,rfl,rfl⟩)
def hU{P:Addr->Prop}{K:PySem.W.Frag}:∀ (cs:List Nat),af P K H (cs.map fun c=>RL.D.str ⟨#[c]⟩) (cs.map fun c=>V.str ⟨#[c]⟩)
 | []=>af.nil
 | c::r=>af.cons eZ (hU r)
section rules
def Bh(TE:iX X.prog X.w)(hg:Gl X "enumerate")(hm:X.mg "enumerate" = none)(ha:SE X cl a a')(hn:noStar a=true):SI X cl (.Tuple elts kx tp) (.Call (.Name "enumerate" p) [a] [] pos) (.enm a'):=by
 intro pins s σ H R I h;obtain⟨σD,ds,rv,e,k⟩:=h;obtain⟨d,e1,e2⟩:=bind_some e;obtain⟨es,e3,e4⟩:=map_some e2;subst e4;have hpa:=bb ha cK (au [] hn);refine yJ TE hg hm hpa (au [] hn) pins s σ H R I ⟨σD,d,rv,e1,fun v H1 r1=>?_⟩
 rcases sC e3 r1.rep with⟨l,xs,rfl,hx,rfl,rs⟩ | ⟨l,xs,rfl,hx,rfl,rs⟩ | ⟨x,rfl,rfl,rfl⟩
 ·refine .inl ⟨l,xs,rfl,hx,k _ _ r1.same ⟨fq (fun H' o=>o _ _ (fun z=>z) hx) (fun H' ys h1 h2=>by rw[h1]at h2;cases h2;rfl) rs eH,fun M P z hP av=>?_⟩⟩;exact fq (fun H' o=>o _ _ (kh r1 z hP av _ _ rfl rfl) hx) (fun H' ys h1 h2=>by rw[h1]at h2;cases h2;rfl) rs (da r1.same hP)
 ·have np:∀ P:Addr->Prop,(∀ b o,P b->H1 b=some o->c8 o)->¬ P l:=fun P hP q=>by rcases hP l _ q hx with⟨z,q⟩ | ⟨z,q⟩ | ⟨z,q⟩<;>cases q
  exact .inr (.inl ⟨l,xs,rfl,hx,k _ _ r1.same ⟨fq (fun H' o=>o _ _ (np _ eH) hx) (fun H' ys h1 h2=>by rw[h1]at h2;cases h2;rfl) rs eH,fun M P z hP av=>fq (fun H' o=>o _ _ (np P (da r1.same hP)) hx) (fun H' ys h1 h2=>by rw[h1]at h2;cases h2;rfl) rs (da r1.same hP)⟩⟩)
 ·exact .inr (.inr ⟨x,rfl,k _ _ r1.same ⟨fq (fun H' o=>rfl) (fun H' ys h1 h2=>h2) (hU _) eH,fun M P z hP av=>fq (fun H' o=>rfl) (fun H' ys h1 h2=>h2) (hU _) (da r1.same hP)⟩⟩)
end rules
section rules
variable{X:Cx}
def yM{P:Addr->Prop}{K:PySem.W.Frag}(h:Rep P K H (.scr ds) v):∃ a xs,v=.ref a/\i8 K H a xs/\af P K H ds xs:=by rw[Rep]at h;exact h
def uv(n:Nat)(k:Int):HT.sIx n n (some k)=RL.cutAt n k:=by
 have h:=HT.ff k n n;unfold RL.cutAt;split at h
 ·rw[if_neg (by lia)];lia
 ·rw[if_pos (by lia)];lia
def qH(n:Nat)(k:Int):HT.sIx n 0 (some k)=RL.cutAt n k:=by
 have h:=HT.ff k n 0;unfold RL.cutAt;split at h
 ·rw[if_neg (by lia)];lia
 ·rw[if_pos (by lia)];lia
def yr(h:RL.iL x y=some d):∃ n,y=.int n/\((∃ xs,(x=.lst xs\/x=.scr xs\/x=.fL xs)/\d=.lst (xs.take (RL.cutAt xs.length n)))\/∃ xs,x=.tup xs/\RL.cutAt xs.length n<xs.length/\d=.tup (xs.take (RL.cutAt xs.length n))):=by
 unfold RL.iL at h;split at h
 ·exact⟨_,rfl,.inl ⟨_,.inr (.inr rfl),(Option.some.inj h).symm⟩⟩
 ·exact⟨_,rfl,.inl ⟨_,.inr (.inl rfl),(Option.some.inj h).symm⟩⟩
 ·exact⟨_,rfl,.inl ⟨_,.inl rfl,(Option.some.inj h).symm⟩⟩
 ·split at h
  ·rename_i hz;exact⟨_,rfl,.inr ⟨_,rfl,hz,(Option.some.inj h).symm⟩⟩
  ·cases h
 ·cases h
def yX(h:RL.kE x y=some d):∃ n,y=.int n/\((∃ xs,(x=.lst xs\/x=.fL xs)/\d=.lst (xs.drop (RL.cutAt xs.length n)))\/∃ xs,x=.tup xs/\0<RL.cutAt xs.length n/\d=.tup (xs.drop (RL.cutAt xs.length n))):=by
 unfold RL.kE at h;split at h
 ·exact⟨_,rfl,.inl ⟨_,.inr rfl,(Option.some.inj h).symm⟩⟩
 ·exact⟨_,rfl,.inl ⟨_,.inl rfl,(Option.some.inj h).symm⟩⟩
 ·split at h
  ·rename_i hz;exact⟨_,rfl,.inr ⟨_,rfl,hz,(Option.some.inj h).symm⟩⟩
  ·cases h
 ·cases h
def tV{P:Addr->Prop}{K:PySem.W.Frag}{H:Hp}(r:Rep P K H x v)(h:x=.lst xs\/x=.scr xs\/x=.fL xs):∃ q ys,v=.ref q/\SqL K H q ys/\af P K H xs ys:=by
 rcases h with rfl | rfl | rfl
 ·obtain⟨q,ys,rfl,_,f2,f3⟩:=aP r;exact⟨q,ys,rfl,SqL.of f2,f3⟩
 ·obtain⟨q,ys,rfl,f2,f3⟩:=yM r;exact⟨q,ys,rfl,f2.seq,f3⟩
 ·rw[Rep]at r;obtain⟨q,o,ys,rfl,f2,f3⟩:=r;exact⟨q,ys,rfl,.inl (.inr ⟨o,f2⟩),f3⟩
def zq(ha:SE X cl a a')(hb:SE X cl b b'):SE X cl (.Subscript a (.Slice none (some b) none p2) pos) (.slT a' b'):=by
 refine PE.weak (mP (SlR.or qo uy) ha pW (pV hb)) fun σ H Q h=>?_;obtain⟨σD,d,rv,e,k⟩:=h;obtain⟨x,ea,e⟩:=bind_some e;obtain⟨y,eb,e⟩:=bind_some e;refine⟨σD,x,rv,ea,fun v H1 r1=>⟨σD,y,rv.same r1.same,eb,fun u H2 r2=>?_⟩⟩;have rx:=r1.rep.same r2.same;have sm:=r1.same.trans r2.same;obtain⟨n,rfl,⟨xs,hx,rfl⟩ | ⟨xs,rfl,hz,rfl⟩⟩:=yr e
 ·obtain⟨q,ys,rfl,f2,f3⟩:=tV rx hx;refine⟨n,ah r2.rep,.inl ⟨q,ys,rfl,f2,fun l hl=>?_⟩⟩;unfold iB;rw[o8,<-f3.length];exact k _ _ (eD sm hl (f3.take _) fun _=>rfl)
 ·obtain⟨q,ys,rfl,f2,f3⟩:=aX rx;refine⟨n,ah r2.rep,.inr ⟨q,ys,rfl,SqT.of f2,fun z=>?_,fun l hl=>?_⟩⟩
  ·rw[uv,<-f3.length]at z;lia
  ·unfold iB;rw[o8,<-f3.length];exact k _ _ (eu sm hl (f3.take _) fun _=>rfl)
def Ci(ha:SE X cl a a')(hb:SE X cl b b'):SE X cl (.Subscript a (.Slice (some b) none none p2) pos) (.slF a' b'):=by
 refine PE.weak (mP (SlR.or qo uy) ha (pV hb) pW) fun σ H Q h=>?_;obtain⟨σD,d,rv,e,k⟩:=h;obtain⟨x,ea,e⟩:=bind_some e;obtain⟨y,eb,e⟩:=bind_some e;refine⟨σD,x,rv,ea,fun v H1 r1=>⟨σD,y,rv.same r1.same,eb,fun u H2 r2=>?_⟩⟩;have rx:=r1.rep.same r2.same;have sm:=r1.same.trans r2.same;obtain⟨n,rfl,⟨xs,hx,rfl⟩ | ⟨xs,rfl,hz,rfl⟩⟩:=yX e
 ·obtain⟨q,ys,rfl,f2,f3⟩:=tV rx (hx.imp_right .inr);refine⟨n,ah r2.rep,.inl ⟨q,ys,rfl,f2,fun l hl=>?_⟩⟩;unfold iB;rw[oS,<-f3.length];exact k _ _ (eD sm hl (f3.drop _) fun _=>rfl)
 ·obtain⟨q,ys,rfl,f2,f3⟩:=aX rx;refine⟨n,ah r2.rep,.inr ⟨q,ys,rfl,SqT.of f2,fun z=>?_,fun l hl=>?_⟩⟩
  ·rw[qH,<-f3.length]at z;lia
  ·unfold iB;rw[oS,<-f3.length];exact k _ _ (eu sm hl (f3.drop _) fun _=>rfl)
end rules
section rules
variable{X:Cx}{st:Stmt}
end rules
end RS
namespace L2
open PySem PySem.Spec PyProof.Rows
abbrev Its(c lo:Int)(n:Nat):It:=⟨fun i _=>i<n,fun i H x H'=>H'=H/\x=.int (lo+i*c),fun i _=>n<=i⟩
def tO{P:Program}{w:World}{K:PySem.W.Frag}(it:Addr)(c lo:Int)(n:Nat):Turn P w K tg (Its c lo n) [it] it (fun i h=>IsRangeIter h it (lo+(i:Nat)*c) ((n:Int)-(i:Nat)) c) where
 mem:=by simp
 obj:=fun i h st b hb=>by
  rw[show b=it by simpa using hb];exact⟨_,st,fun v z=>by cases(show Data.fields _=Data.cell v from z)⟩
 keep:=fun i h h' st k=>k it (by simp) _ st
 item:=by
  intro X hP hw hK hc i pins s σ H E I hf st hg;subst hP hw hK;obtain⟨f0,f1,f2,f3,f4,f5⟩:=hf it (by simp);have W:=Walks.range (prog:=X.prog) (w:=X.w) (I.ok.hd.1 hc) it lo c n;refine W.item i s _ _ hg st fun v h' tk hv st' kk=>?_;obtain⟨t,rfl⟩:=hv;have I1:Inv X pins σ H { s with heap:=h',toks:=tk }:=I.turned (fun b o hb e=>kk b o (by simpa using hb) e) f0 f1 f3 f4 f5;exact⟨_,rfl,mB st' rfl rfl (by decide) ⟨.int (lo+i*c),H,I1,⟨t,rfl⟩,⟨rfl,rfl⟩,st',fun b hb=>(hf b hb).1⟩⟩
 done:=by
  intro X hP hw hK hc i pins s σ H E I hf st hg;obtain⟨f0,f1,f2,f3,f4,f5⟩:=hf it (by simp)
  exact wpAny_pyNext_range_end (I.ok.hd.1 hc) st (by have:n<=i:=hg;lia) fun h' eb=>⟨rfl,I.turned (fun b o hb e=>eb b o hb e) f0 f1 f3 f4 f5⟩
 self:=fun _ _ _ _ _ st h=>wpAny_pyIter_rangeiter st h
end L2
namespace RS
open PySem PySem.Spec PyProof.Rows L2
def kc(c:Int):∀ (n:Nat) (lo:Int) (i:Nat) (d:RL.D),(RL.bS c lo n)[i]?=some d->d=.int (lo+i*c)
 | 0,lo,i,d,h=>by simp[RL.bS]at h
 | n+1,lo,0,d,h=>by simp[RL.bS]at h;simp[h]
 | n+1,lo,i+1,d,h=>by
  rw[kc c n (lo+c) i d h];congr 1;lia
def gK(c:Int):∀ (n:Nat) (lo:Int),(RL.bS c lo n).length=n
 | 0,_=>rfl
 | n+1,lo=>by rw[RL.bS,List.length_cons,gK c n]
def pZ{K:PySem.W.Frag}{H:Hp}{c lo:Int}:gH K (Its c lo n) (RL.bS c lo n) P H where
 go:=fun H' i k hi=>by rw[gK]at hi;exact hi
 stop:=fun H' k=>by rw[gK];exact Nat.le_refl _
 yld:=fun H' i d x H2 k e y=>by
  obtain⟨z,y⟩:=y;subst z;refine⟨ax.refl _,fun _=>?_⟩;rw[kc c n lo i d e,y];exact aO
section rules
variable{st:Stmt}
def tw(hf:∀ a b,RL.aQ o (.int a) (.int b)=some (.int (f a b)))(h:PS X st (zl i (tE X.K cl e') (ipI f)))(hi:M.contains i=false):SS X cl M st (.aug i o e'):=by
 refine PS.weak h fun D σ H h=>?_;obtain⟨σD,ou,σD',rv,e,k⟩:=h;obtain⟨x,e1,e⟩:=bind_some e;obtain⟨y,e2,e⟩:=bind_some e
 cases x with
 |int a=>
  cases y with
  |int b=>
   dsimp only at e;rw[hf]at e;cases e;obtain⟨v,h1,h2⟩:=rv.val i _ (slot_get e1);rw[if_neg (by rw[hi];decide)]at h2;refine⟨v,h1,σD,.int b,rv.rv0,e2,fun u H1 r1=>⟨a,b,ah h2,ah r1.rep,?_⟩⟩;exact k _ _ ((rv.same r1.same).bind hi aO) (Fr'.bind hi r1.same)
  | _=>cases e
 | _=>cases e
end rules
abbrev jy(p:Addr)(a b c:Int):HO:=.ext fun h=>∃ t u v,IsRange h p a b c t u v
def nr(a b c:Int):0<=Builtin.Range.rangeSize a b c:=by
 unfold Builtin.Range.rangeSize;split
 ·split
  ·have:=Int.ediv_nonneg (a:=b-a-1) (b:=c) (by lia) (by lia);omega
  ·lia
 ·split
  ·by_cases h0:c=0
   ·subst h0;simp
   ·have:=Int.ediv_nonneg (a:=a-b-1) (b:=-c) (by lia) (by lia);omega
  ·lia
def we(a b c:Int):Builtin.Range.rangeSize a b c<=(if a<b then b-a else a-b)+1:=by
 unfold Builtin.Range.rangeSize;split
 ·split
  ·have:=Int.ediv_le_self (a:=b-a-1) c (by lia);lia
  ·lia
 ·split
  ·have:=Int.ediv_le_self (a:=a-b-1) (-c) (by lia);split<;>omega
  ·split<;>lia
def fP(a b c:Int):(RL.bq c a b:Int)=Builtin.Range.rangeSize a b c:=Int.toNat_of_nonneg (nr a b c)
def fZ(ha:-(2 ^ 60)<=a)(ha':a<2 ^ 60)(hb:-(2 ^ 60)<=b)(hb':b<2 ^ 60)(hc:-(2 ^ 60)<=c)(hc':c<2 ^ 60):Builtin.Range.small a b c=true:=by
 have h1:=nr a b c;have h2:=we a b c;unfold Builtin.Range.small;simp only[Builtin.Range.rangeFitsLong,Bool.and_eq_true,Bool.or_eq_true,decide_eq_true_eq,beq_iff_eq];refine⟨⟨⟨⟨?_,?_⟩,?_⟩,?_⟩,.inr ?_⟩
 ·lia
 ·lia
 ·lia
 ·split at h2<;>lia
 ·split<;>(rw[Bool.and_eq_true,decide_eq_true_eq,decide_eq_true_eq];lia)
section
variable{X:Cx}
abbrev oa(xs:List V)(a b c:Int):Prop:=(xs=[.int b]/\a=0/\c=1)\/(xs=[.int a,.int b]/\c=1)\/(xs=[.int a,.int b,.int c]/\c≠0/\c.natAbs<2 ^ 60)
def j5{pins:List (Addr × Obj)}{σ:L2.St}{H:Hp}{s:Shared}{a b c:Int}{t u v:Tok}{tk:Nat}(I:Inv X pins σ H s):Inv X pins σ (upd H s.heap.objs.size (jy s.heap.objs.size a b c)) { s with heap:=s.heap.push { cls:=.type "range",data:=.fields #[.int a t,.int b u,.int c v] },toks:=tk } :=
 I.laid (fun b u e=>Heap.get?_push_of_some _ e) (Nat.le_refl _) ⟨⟨t,u,v,IsRange.new _ a b c t u v⟩,⟨_,Heap.get?_push_size _ rfl⟩,fun h1 h2 ⟨t,u,v,e⟩ k=>⟨t,u,v,k _ e⟩⟩
def fB:br X (.type "range") (fun xs H Q=>∃ a b c,oa xs a b c/\∀ p,H p=none->Q (.ref p) (upd H p (jy p a b c))):=by
 intro pins s σ H xs us Q I r h;obtain⟨a,b,c,ha,q⟩:=h;have hf:=I.hok.fresh (Nat.le_refl _)
 rcases ha with⟨rfl,rfl,rfl⟩ | ⟨rfl,rfl⟩ | ⟨rfl,hc,hc2⟩
 ·cases r with
  |cons r rr=>
   cases rr;obtain⟨t,rfl⟩:=r;exact call_range_1 ⟨.ref _,_,j5 I,rfl,q _ hf⟩
 ·cases r with
  |cons r rr=>
   cases rr with
   |cons r2 rr=>
    cases rr;obtain⟨t,rfl⟩:=r;obtain⟨t2,rfl⟩:=r2;exact call_range_2 ⟨.ref _,_,j5 I,rfl,q _ hf⟩
 ·cases r with
  |cons r rr=>
   cases rr with
   |cons r2 rr=>
    cases rr with
    |cons r3 rr=>
     cases rr;obtain⟨t,rfl⟩:=r;obtain⟨t2,rfl⟩:=r2;obtain⟨t3,rfl⟩:=r3;refine call_range_3 hc ⟨.ref _,_,j5 I,rfl,q _ hf⟩ (.inl (PyProof.noPylong_of_log2 ?_));have:c.natAbs.log2<60:=(Nat.log2_lt (by lia)).mpr hc2;lia
abbrev bT(a c:Int)(n:Nat):List V:=(List.range n).map fun(i:Nat)=>V.int (a+(i:Int)*c)
def qc{a c:Int}{n:Nat}{acc:Array Value}(hI:ItemsOf (fun i v=>∃ t,v=.int (a+i*c) t) acc n):Vals (bT a c n) acc.toList:=by
 have len:(bT a c (n)).length=acc.toList.length:=by
  simp only[bT,List.length_map,List.length_range,Array.length_toList,hI.1]
 have gen:∀ (xs:List V) (us:List Value),xs.length=us.length->(∀ (i:Nat) u,us[i]?=some u->∃ x,xs[i]?=some x/\RelV x u)->Vals xs us:=by
  intro xs
  induction xs with
  | nil=>intro us h _;cases us with
   | nil=>exact .nil
   | cons _ _=>cases h
  | cons x r ih=>intro us h g;cases us with
   | nil=>cases h
   |cons u us=>
    obtain⟨x',e1,e2⟩:=g 0 u rfl;cases e1
    exact .cons e2 (ih us (by simpa using h) fun i u hu=>by
     obtain⟨y,e3,e4⟩:=g (i+1) u (by simpa using hu)
     exact⟨y,by simpa using e3,e4⟩)
 refine gen _ _ len fun i u hu=>?_
 have hu':acc[i]?=some u:=by simpa using hu
 obtain⟨tk,rfl⟩:=hI.2 i u hu'
 have hi:i<n:=by
  have:=(Array.getElem?_eq_some_iff.mp hu').1;rw[hI.1]at this;exact this
 exact⟨.int (a+i*c),by simp[bT,hi],tk,rfl⟩
def eS(hc:X.calm=true):br X (.type "list") (fun xs H Q=>∃ p a b c,xs=[.ref p]/\H p=some (jy p a b c)/\Builtin.Range.small a b c=true/\RL.bq c a b<=RL.most /\
  ∀ l,H l=none->Q (.ref l) (upd H l (.lst (bT a c (RL.bq c a b))))):=by
 intro pins s σ H xs us Q I r h;obtain⟨p,a,b,c,rfl,hp,hs,hn,q⟩:=h
 cases r with
 |cons r rr=>
  cases rr;cases r;obtain⟨⟨t,u,v,hR⟩,_,_⟩:=I.hok p _ hp;refine call_list_range (I.ok.hd.1 hc) hR hs (fP a b c).symm (Nat.le_trans hn (by decide)) fun h' tk acc c' hk hS hI=>?_;have hf:=I.hok.fresh (Nat.le_refl _);refine⟨.ref s.heap.objs.size,upd H s.heap.objs.size (.lst (bT a c (RL.bq c a b))),I.laid hk (Nat.le_refl _) (show _/\_ from⟨?_,acc.toList,c',?_,?_⟩),rfl,q _ hf⟩
  ·simp only[bT,List.length_map,List.length_range];exact Nat.le_trans hn c7
  ·exact qc hI
  ·rw[Array.toArray_toList];exact hS
def iE{P:Addr->Prop}{K:PySem.W.Frag}:∀ (n:Nat) (a c:Int),af P K H (RL.bS c a n) (bT a c n)
 | 0,a,c=>af.nil
 | n+1,a,c=>by
  have e:bT a c (n+1)=V.int a::bT (a+c) c n:=by
   simp only[bT,List.range_succ_eq_map,List.map_cons,List.map_map];congr 1
   ·simp
   ·apply List.map_congr_left;intro i _;show V.int (a+((i+1:Nat):Int)*c)=V.int (a+c+(i:Int)*c);congr 1;lia
  rw[RL.bS,e];exact af.cons aO (iE n (a+c) c)
def hW:∀ (n:Nat) (a:Int),RL.bM a n=RL.bS 1 a n
 | 0,_=>rfl
 | n+1,a=>by rw[RL.bM,RL.bS,hW n]
def dk(a b:Int):RL.bq 1 a b=(b-a).toNat:=by
 have h:=fP a b 1;rw[rangeSize_one]at h;split at h<;>lia
def oP{σD:RL.St}{σ:L2.St}{H H1:Hp}{e:RL.E}{Q:VK}{vs:List V}{a b c:Int}{ds:List RL.D}(hv:oa vs a b c)(hd:ds=RL.bS c a (RL.bq c a b))(hn:RL.bq c a b<=RL.most)(hs:Builtin.Range.small a b c=true)(sm:ax H H1)
 (hav:∀ M,RL.avE M e=false)(k:∀ v H',Res X.K σD σ H e (.lst ds) v H'->Q v H') :
  ∃ a b c,oa vs a b c/\∀ p,H1 p=none->(fun xs H Q=>∃ p a b c,xs=[V.ref p]/\H p=some (jy p a b c)/\Builtin.Range.small a b c=true/\RL.bq c a b<=RL.most/\∀ l,H l=none->Q (.ref l) (upd H l (.lst (bT a c (RL.bq c a b))))) [.ref p] (upd H1 p (jy p a b c)) Q:=by
 refine⟨a,b,c,hv,fun p hp=>⟨p,a,b,c,rfl,aR,hs,hn,fun l hl=>k _ _ ?_⟩⟩;subst hd;exact eD (sm.trans (ax.bY hp)) hl (iE _ _ _) hav
def xX(hc:X.calm=true)(hgl:Gl X "list")(hml:X.mg "list" = none)(hg:Gl X "range")(hm:X.mg "range" = none)(ha:SE X cl a a')(hn:noStar a=true){p2 pos2:Pos}:SE X cl (.Call (.Name "list" p2) [.Call (.Name "range" p) [a] [] pos] [] pos2) (.rng1 a'):=by
 refine PE.weak (bX (eS hc) hgl hml (by decide +kernel) (bb (bX fB hg hm boot_range (bx ha cG hn) (by decide) (by decide) (au [] hn) rfl) cK rfl) (by decide) (by decide) rfl rfl) fun σ H Q h=>?_;obtain⟨σD,d,rv,e,k⟩:=h;obtain⟨x,ea,e⟩:=bind_some e;obtain⟨ds,e1,e2⟩:=map_some e;subst e2;obtain⟨i,j,e3,rfl,hb,hm2,rfl⟩:=iv e1;cases e3
 have hb2:-(2 ^ 60)<=j/\j<2 ^ 60:=by
  simp only[RL.cz]at e1;split at e1
  ·lia
  ·cases e1
 refine one rv ea fun v H1 s1 r1=>?_;exact oP (.inl ⟨by rw[ah r1],rfl,rfl⟩) (by rw[hW,dk]) (by rw[dk];exact hm2) (fZ (by decide) (by decide) hb2.1 hb2.2 (by decide) (by decide)) s1 (fun _=>rfl) k
def xM(hc:X.calm=true)(hgl:Gl X "list")(hml:X.mg "list" = none)(hg:Gl X "range")(hm:X.mg "range" = none)(ha:SE X cl a a')(hb:SE X cl b b')(hn:noStar a=true)(hn2:noStar b=true){p2 pos2:Pos}:SE X cl (.Call (.Name "list" p2) [.Call (.Name "range" p) [a,b] [] pos] [] pos2) (.rng2 a' b'):=by
 refine PE.weak (bX (eS hc) hgl hml (by decide +kernel) (bb (bX fB hg hm boot_range (bx ha (bx hb cG hn2) hn) (by decide) (by decide) (au _ hn) (cB (by simp[hn2]))) cK rfl) (by decide) (by decide) rfl rfl) fun σ H Q h=>?_;obtain⟨σD,d,rv,e,k⟩:=h;obtain⟨x,ea,e⟩:=bind_some e;obtain⟨y,eb,e⟩:=bind_some e;obtain⟨ds,e1,e2⟩:=map_some e;subst e2;obtain⟨i,j,rfl,rfl,hb,hm2,rfl⟩:=iv e1
 have hb2:(-(2 ^ 60)<=i/\i<2 ^ 60)/\-(2 ^ 60)<=j/\j<2 ^ 60:=by
  simp only[RL.cz]at e1;split at e1
  ·lia
  ·cases e1
 refine pair rv ea eb fun v u H1 s1 r1 r2=>?_;exact oP (.inr (.inl ⟨by rw[ah r1,ah r2],rfl⟩)) (by rw[hW,dk]) (by rw[dk];exact hm2) (fZ hb2.1.1 hb2.1.2 hb2.2.1 hb2.2.2 (by decide) (by decide)) s1 (fun _=>rfl) k
abbrev fY(c:Int):Expr->Bool
 | .Constant (.int i) _ _=>i == c
 | .UnaryOp .USub (.Constant (.int i) _ _) _=>-i == c
 | _=>false
def iY(h:fY c e=true):PE X e (tC (.int c))/\noStar e=true:=by
 unfold fY at h;split at h
 ·rw[beq_iff_eq]at h;subst h;exact⟨mJ,rfl⟩
 ·rw[beq_iff_eq]at h;subst h;exact⟨PE.weak (wJ tP mJ) fun σ H Q q=>⟨_,rfl,q⟩,rfl⟩
 ·cases h
def qa(h:RL.gL c x y=some ds):∃ i j:Int,x=.int i/\y=.int j/\c≠0/\c.natAbs<2 ^ 60/\Builtin.Range.small i j c=true/\RL.bq c i j<=RL.most/\ds=RL.bS c i (RL.bq c i j):=by
 unfold RL.gL at h;split at h
 ·rename_i i j;split at h
  ·rename_i hc;cases h;exact⟨i,j,rfl,rfl,hc.1,by omega,fZ hc.2.2.2.2.1 hc.2.2.2.2.2.1 hc.2.2.2.2.2.2.1 hc.2.2.2.2.2.2.2 (by omega) hc.2.2.1,hc.2.2.2.1,rfl⟩
  ·cases h
 ·cases h
def pK(ha:SE X cl a a')(hb:SE X cl b b')(hn:noStar a=true)(hn2:noStar b=true)(h3:fY c e3=true):PA X [a,b,e3] (fun σ H R=>tE X.K cl a' σ H fun v H1=>tE X.K cl b' σ H1 fun u H2=>R [v,u,.int c] H2) :=
 bb ha (bb hb (bb (iY h3).1 cK (au [] (iY (X:=X) h3).2)) (au _ hn2)) (au _ hn)
def yN{c:Int}{e3:Expr}(hc:X.calm=true)(hgl:Gl X "list")(hml:X.mg "list" = none)(hg:Gl X "range")(hm:X.mg "range" = none)(ha:SE X cl a a')(hb:SE X cl b b')(hn:noStar a=true)(hn2:noStar b=true)(h3:fY c e3=true){p2 pos2:Pos} :
  SE X cl (.Call (.Name "list" p2) [.Call (.Name "range" p) [a,b,e3] [] pos] [] pos2) (.rng3 c a' b'):=by
 refine PE.weak (bX (eS hc) hgl hml (by decide +kernel) (bb (bX fB hg hm boot_range (pK ha hb hn hn2 h3) (by decide) (by decide) (au _ hn) (cB (by simp[hn2,(iY (X:=X) h3).2]))) cK rfl) (by decide) (by decide) rfl rfl) fun σ H Q h=>?_;obtain⟨σD,d,rv,e,k⟩:=h;obtain⟨x,ea,e⟩:=bind_some e;obtain⟨y,eb,e⟩:=bind_some e;obtain⟨ds,e1,e2⟩:=map_some e;subst e2;obtain⟨i,j,rfl,rfl,h0,h1,h2,h3,rfl⟩:=qa e1;refine two rv ea eb fun v u H1 H2 s1 s2 rx ry _ _=>?_;exact oP (.inr (.inr ⟨by rw[ah rx,ah ry],h0,h1⟩)) rfl h3 h2 (s1.trans s2) (fun _=>rfl) k
def yP(hg:Gl X "range")(hm:X.mg "range" = none)(ha:SE X cl a a')(hb:SE X cl b b')(hn:noStar a=true)(hn2:noStar b=true)(h3:fY c e3=true) :
  SI X cl tg (.Call (.Name "range" p) [a,b,e3] [] pos) (.rng3 c a' b'):=by
 intro pins s σ H R I h;obtain⟨σD,ds,rv,e,k⟩:=h;obtain⟨x,ea,e⟩:=bind_some e;obtain⟨y,eb,e⟩:=bind_some e;obtain⟨i,j,rfl,rfl,h0,h1,hs,hl,rfl⟩:=qa e;refine thn (bX fB hg hm boot_range (pK (cl:=cl) ha hb hn hn2 h3) (by decide) (by decide) (au _ hn) (cB (by simp[hn2,(iY (X:=X) h3).2])) pins s σ H (fun x H2=>∃ p,x=.ref p/\H2 p=some (jy p i j c)/\ax H H2) I ?_) ?_
 ·exact two rv ea eb fun v u H1 H2 s1 s2 rx ry _ _=>⟨i,j,c,.inr (.inr ⟨by rw[ah rx,ah ry],h0,h1⟩),fun p hp=>⟨p,rfl,aR,(s1.trans s2).trans (ax.bY hp)⟩⟩
 ·rintro v s1 ⟨x,H1,I1,r1,q,rfl,hq,sm⟩;cases r1;obtain⟨⟨t,u,v,hR⟩,_,_⟩:=I1.hok q _ hq;refine wpAny_pyIter_range hR hs ⟨s1.heap.objs.size,[s1.heap.objs.size],_,Its c i (RL.bq c i j),H1,rfl,I1.kept (t':=s1.toks) fun b o e=>Heap.get?_push_of_some _ e,tO _ c i _,?_,fun b hb=>?_,k _ _ sm ⟨pZ,fun _ _ _ _ _=>pZ⟩⟩
  ·have e1:i+((0:Nat):Int)*c=i:=by simp
   have e2:((RL.bq c i j:Nat):Int)-((0:Nat):Int)=Builtin.Range.rangeSize i j c:=by rw[fP];simp
   show IsRangeIter _ _ (i+((0:Nat):Int)*c) (((RL.bq c i j:Nat):Int)-((0:Nat):Int)) c;rw[e1,e2];exact Heap.get?_push_size _ rfl
  ·rw[show b=s1.heap.objs.size by simpa using hb];exact I1.kB (Nat.le_refl _) (I1.hok.fresh (Nat.le_refl _))
def ya(hl:SE X cl l e'):SI X cl tg l (.seq e'):=by
 refine PI.weak (BU (cl:=cl) hl trivial) fun σ H R h=>?_;obtain⟨σD,ds,rv,e,k⟩:=h;obtain⟨d,e1,e2⟩:=bind_some e;exact⟨σD,d,ds,rv,e1,e2,k⟩
def BY(ha:SE X cl a a'):SE X cl (.UnaryOp .USub a pos) (.neg a'):=by
 refine PE.weak (wJ tP ha) fun σ H Q h=>?_;obtain⟨σD,d,rv,e,k⟩:=h;obtain⟨x,ea,e⟩:=bind_some e
 cases x with
 | int i=>cases e;exact⟨σD,_,rv,ea,fun v H1 r1=>⟨i,ah r1.rep,k _ _ (cu r1.same aO rfl)⟩⟩
 | _=>cases e
def Ct(hg:Gl X "divmod")(hm:X.mg "divmod" = none)(ha:SE X cl a a')(hb:SE X cl b b')(hn:noStar a=true)(hn2:noStar b=true):SE X cl (.Call (.Name "divmod" p) [a,b] [] pos) (.dvm a' b'):=by
 refine PE.weak (e6 pb hg hm (by decide +kernel) (bx (cl:=cl) ha (bx hb cG hn2) hn) (by decide) (by decide) (au _ hn) (cB (by simp[hn2]))) fun σ H Q h=>?_;obtain⟨σD,d,rv,e,k⟩:=h;obtain⟨u,ea,e⟩:=bind_some e;obtain⟨v,eb,e⟩:=bind_some e
 cases u with
 |int i=>
  cases v with
  |int j=>
   have e:(if 0<j/\j<1073741824 then some (RL.D.tup [.int (i / j),.int (i%j)])else none)=some d:=e;by_cases c:0<j/\j<1073741824
   ·rw[if_pos c]at e;cases e
    exact pair rv ea eb fun v u H1 s1 r1 r2=>⟨i,j,by rw[ah r1,ah r2],c,fun q hq=>k _ _ (eu s1 hq (af.cons aO (af.cons aO af.nil)) fun _=>rfl)⟩
   ·rw[if_neg c]at e;cases e
  | _=>cases e
 | _=>cases e
end
abbrev mAt(mp:List Nat)(vs:List V):Addr->Prop:=fun a=>∃ p,p∈mp/\vs[p]?=some (.ref a)
structure A5(K:PySem.W.Frag)(mp:List Nat)(ds:List RL.D)(vs:List V)(H:Hp):Prop where
 vy:af nP K H ds vs
 own:∀ p∈mp,∃ d a,ds[p]?=some d/\vs[p]?=some (.ref a)/\Own K H d (.ref a)
 sep:∀ p∈mp,∀ q∈mp,∀ a,vs[p]?=some (.ref a)->vs[q]?=some (.ref a)->p=q
 oth:∀ (q:Nat) d v,q∉mp->ds[q]?=some d->vs[q]?=some v->Rep (mAt mp vs) K H d v
structure Eg(K:PySem.W.Frag)(mp:List Nat)(outs:List RL.D)(vs:List V)(H:Hp):Prop where
 len:outs.length=mp.length
 own:∀ (k p:Nat) o,mp[k]?=some p->outs[k]?=some o->∃ a,vs[p]?=some (.ref a)/\Own K H o (.ref a)
abbrev spM(K:PySem.W.Frag)(cl:RL.Cl)(mp:List Nat)(f:Nat):Sp:=fun vs H Q _=>∃ ds d outs,cl f ds=some (.tup (d::outs))/\A5 K mp ds vs H/\∀ v H',Off (mAt mp vs) H H'->Rep nP K H' d v->d.imm=true->Eg K mp outs vs H'->Q v H'
section
variable{K:PySem.W.Frag}
def Own.off(h:Own K H d (.ref a))(hm:∀ b o,P b->H b=some o->c8 o)(k:Off P H H1)(n:¬ P a):Own K H1 d (.ref a):=by
 obtain⟨q1,q2,q3⟩:=h;refine⟨q1,q2,?_⟩;have im:∀ {ds:List RL.D} {xs:List V},RL.az ds=true->af nP K H ds xs->af nP K H1 ds xs:=fun hi r=>((r.imm hi).off hm k).imm hi
 cases d with
 | lst ds=>obtain⟨b',xs,e1,e0,e2,e3⟩:=aP q3;cases e1;rw[Rep];exact⟨a,xs,rfl,fun z=>z,k _ _ n e2,im q2 e3⟩
 | dK ks ds=>rw[Rep]at q3 ⊢;obtain⟨b',xs,e1,e0,e2,el,e3⟩:=q3;cases e1;exact⟨a,xs,rfl,fun z=>z,k _ _ n e2,el,im q2 e3⟩
 | dT ks ds=>rw[Rep]at q3 ⊢;obtain⟨b',xs,e1,e0,e2,el,e3⟩:=q3;cases e1;exact⟨a,xs,rfl,fun z=>z,k _ _ n e2,el,im q2 e3⟩
 | _=>cases q1
end
section rules
variable{X:Cx}{st:Stmt}
end rules
end RS
namespace L2
open PySem PySem.Spec PyProof.Rows
abbrev dI(A:Around)(h:Heap):Prop:=A.handled=none\/∃ x o vs,A.handled=some (.ref x)/\h.get? x=some o/\o.data=.fields vs/\vs[2]?=some .none
def dI.keeps(x:dI A h)(k:∀ b o vs,h.get? b=some o->o.data=.fields vs->A.handled=some (.ref b)->h'.get? b=some o):dI A h':=by
 rcases x with z | ⟨y,o,vs,h1,h2,h3,h4⟩
 ·exact .inl z
 ·exact .inr ⟨y,o,vs,h1,k _ _ _ h2 h3 h1,h3,h4⟩
section
def me:entryFor table "proto.unchain" = some Builtin.«proto.unchain»:=entryFor_of_tree (by kernel_rfl)
def vO(hd:dI A s.heap)(he:s.heap.get? e=some oe)(hf:oe.data=.fields vs)(hz:2<vs.size)(ne:A.handled≠some (.ref e))
 (k:∀ h',Heap.SameBut e s.heap h'->(∃ o,h'.get? e=some o/\o.cls=oe.cls)->E (.ref e) { s with heap:=h' }):wpAny (model prog w) A (raiseNew (.ref e):Sem α) Q E s:=by
 unfold raiseNew;refine wpAny_bind (wpAny_handled ?_)
 rcases hd with z | ⟨x,o,ws,h1,h2,h3,h4⟩
 ·rw[z];exact wpAny_bind (wpAny_pure (wpAny_throw (k s.heap (.refl ..) ⟨oe,he,rfl⟩)))
 ·rw[h1]
  have nx:(Value.ref x != Value.ref e)=true:=by
   rw[bne_iff_ne];intro q;exact ne (by rw[h1,q])
  dsimp only;rw[if_pos nx];refine wpAny_bind (wpAny_holding (wpAny_runValue (codeAny_builtin me ?_)));unfold Builtin.«proto.unchain»;refine wpAny_bind (wpAny_field h2 h3 h4 ?_);rw[if_pos (by decide)];refine wpAny_bind (wpAny_pure (wpAny_pure ?_));show wpAny _ _ _ _ _ _;refine wpAny_bind ?_;show wpAny _ _ (setField (.ref e) 2 (.ref x)) _ _ _;refine wpAny_setField he hf hz (wpAny_throw (k _ (.update ..) ⟨_,Heap.get?_update_self _ he (Obj.isFreed_of_fields (Obj.data_mapFields hf _)),Obj.cls_mapFields ..⟩))
def kP(hd:dI A s.heap)(k:∀ h' e,(∀ b o,s.heap.get? b=some o->h'.get? b=some o)->(∃ o,h'.get? e=some o/\o.cls=.type "StopIteration")->E (.ref e) { s with heap:=h' }) :
  wpAny (model prog w) A (newExc (.type "StopIteration") []) (fun e s'=>wpAny (model prog w) A (raiseNew e:Sem α) Q E s') E s:=by
 simp only[newExc,newTuple];apply wpAny_bind;refine wpAny_newObj_type ?_ (by size_fits);apply wpAny_bind (m:=firstArgMember _ _);refine wpAny_of_eq (a:=Value.none) (by first | rfl | (simp only[firstArgMember];rfl)) ?_;refine wpAny_newObj_type ?_ (by size_fits);have hs:∀ b o,s.heap.get? b=some o->b≠(s.heap.push { cls:=.type "tuple",data:=.seq ([]:List Value).toArray }).objs.size:=fun b o e=>Nat.ne_of_lt (by rw[Heap.size_push];exact Nat.lt_succ_of_lt (Heap.lt_size e));refine vO (hd.keeps fun b o vs e _ _=>Heap.get?_push_of_some _ (Heap.get?_push_of_some _ e)) (Heap.get?_push_size _ rfl) rfl (Nat.lt_of_lt_of_le (by decide:2<6) (by simp)) (fun q=>?_) fun h' sb ho=>k h' _ (fun b o e=>(sb.2 b (hs b o e)).trans (Heap.get?_push_of_some _ (Heap.get?_push_of_some _ e))) ho
 rcases hd with z | ⟨x,o,ws,h1,h2,_,_⟩
 ·rw[z]at q;cases q
 ·rw[h1]at q;cases q;exact hs _ _ h2 rfl
def iq{it l:Addr}{i:Nat}(hd:dI A s.heap)(ni:A.handled≠some (.ref it))(ho:s.heap.get? it=some o)(hdt:o.data=.fields #[.ref l,.int i 0])(hol:s.heap.get? l=some ol)(hdl:ol.data=.seq its nl)(hx:its[i]?=none)
 (k:∀ h' e,Heap.ExtBut it s.heap h'->(∃ o,h'.get? e=some o/\o.cls=.type "StopIteration")->E (.ref e) { s with heap:=h' }):wpAny (model prog w) A (Builtin.«list_iterator.__next__» ⟨[.ref it],[]⟩) Q E s:=by
 have n0:¬ ((Value.ref l == Value.none)=true):=Bool.false_ne_true;refine show wpAny _ _ (field (.ref it) 0 >>= _) _ _ s from wpAny_bind (wpAny_field ho hdt (x:=.ref l) rfl ?_);refine show wpAny _ _ (if(Value.ref l == Value.none)=true then _ else _) _ _ s from ?_;rw[if_neg n0];refine show wpAny _ _ (field (.ref it) 1 >>= _) _ _ s from wpAny_bind (wpAny_field ho hdt (x:=.int i 0) rfl ?_);refine show wpAny _ _ (seqItems? (.ref l) >>= _) _ _ s from wpAny_bind (wpAny_seqItems hol hdl ?_);simp only[Int.toNat_natCast,hx];refine wpAny_bind (wpAny_rule (wpAny_bind (wpAny_setField ho hdt (by simp) ?_)));refine show wpAny _ _ (newExc (.type "StopIteration") [] >>= _) _ _ _ from wpAny_bind ?_;have sb:=Heap.SameBut.update s.heap it (Obj.mapFields (·.setIfInBounds 0 Value.none));refine kP (hd.keeps fun b u vs e _ hb=>(sb.2 b fun z=>ni (z▸hb)).trans e) fun h' e kk he=>k h' e (fun b u hb q=>kk b u ((sb.2 b hb).trans q)) he
def lZ{it l:Addr}{i:Nat}(hd:dI A s.heap)(ni:A.handled≠some (.ref it))(hit:s.heap.IsListIter it l i)(hl:s.heap.IsList l its)(hx:its[i]?=none)
 (k:∀ h' e,Heap.ExtBut it s.heap h'->(∃ o,h'.get? e=some o/\o.cls=.type "StopIteration")->E (.ref e) { s with heap:=h' }):wpAny (model prog w) A (Builtin.SmallTypes.nextOf (.ref it)) Q E s:=by
 obtain⟨o,ho,hc,hdt⟩:=id hit;obtain⟨ol,hol,_,nl,hdl⟩:=hl;unfold Builtin.SmallTypes.nextOf;apply wpAny_bind;apply wpAny_callSpecial?_slot (name:=Str.ofString "__next__") hit.typeIs slot_listiter_next;refine wpAny_call_entry slot_listiter_next hit.typeIs entry_listiter_next ?_ (args_listiter_next _);exact iq hd ni ho hdt hol hdl hx k
def ph{it l:Addr}{i:Nat}(hd:dI A s.heap)(ni:A.handled≠some (.ref it))(hit:s.heap.IsListIter it l i)(hl:s.heap.IsList l its)(hx:its[i]?=none)
 (k:∀ h',Heap.ExtBut it s.heap h'->Q none { s with heap:=h' }):wpAny (model prog w) A (pyNext (.ref it)) Q E s:=by
 obtain⟨o,ho,hc,hdt⟩:=id hit;obtain⟨ol,hol,_,nl,hdl⟩:=hl;unfold pyNext;apply wpAny_bind;apply wpAny_attempt;apply wpAny_callSpecial?_slot (name:=Str.ofString "__next__") hit.typeIs slot_listiter_next;refine wpAny_call_entry slot_listiter_next hit.typeIs entry_listiter_next ?_ (args_listiter_next _);refine iq hd ni ho hdt hol hdl hx fun h' e eb he=>?_;apply wpAny_bind;refine wpAny_isInstance (T := "StopIteration") (b:=true) he isSubtype_stop ?_;exact wpAny_pure (k h' eb)
end
section
def oj(hi:z.heap.IsTupleIter ti tp i)(ht:z.heap.IsTuple tp its)(hx:its[i]?=some x)
 (k:∀ g,g.IsTupleIter ti tp (i+1)->Heap.SameBut ti z.heap g->Q x { z with heap:=g }):wpAny (model prog w) A (Builtin.SmallTypes.nextOf (.ref ti)) Q E z:=by
 have hty:=hi.typeIs;obtain⟨⟨c1,d1,f1,s1⟩,g1,c1',f1'⟩:=hi;obtain⟨⟨c2,d2,f2,s2⟩,g2,c2',n2,f2'⟩:=ht;dsimp only at c1' f1' c2' f2';subst c1' f1' c2' f2';obtain⟨hp,g,d,tk,os⟩:=z;unfold Builtin.SmallTypes.nextOf;refine wpAny_bind (wpAny_callSpecial?_slot (name:=Str.ofString "__next__") hty F.slot_tuple_iterator_next (wpAny_call_entry F.slot_tuple_iterator_next hty F.entry_tuple_iterator_next ?_ (F.args_tuple_iterator_next_1 _)));unfold Builtin.«tuple_iterator.__next__»
 wp_walk using AutoSeq1.wpAny_loadPart' g1,AutoSeq1.wpAny_loadPart' g2
 have e:its[((i:Nat):Int).toNat]?=some x:=hx;rw[e];dsimp only;apply wpAny_bind;apply wpAny_setField g1 rfl (by simp);apply wpAny_pure;refine⟨x,rfl,?_⟩;apply wpAny_pure;apply k
 ·exact⟨_,Heap.get?_update_self _ g1 rfl,rfl,by simp[Obj.mapFields,rawInt]⟩
 ·exact Heap.SameBut.update ..
def qk(hd:dI A z.heap)(ni:A.handled≠some (.ref ti))(hi:z.heap.IsTupleIter ti tp i)(ht:z.heap.IsTuple tp its)(hx:its[i]?=none)
 (k:∀ g e,Heap.ExtBut ti z.heap g->(∃ o,g.get? e=some o/\o.cls=.type "StopIteration")->E (.ref e) { z with heap:=g }):wpAny (model prog w) A (Builtin.SmallTypes.nextOf (.ref ti)) Q E z:=by
 have hty:=hi.typeIs;obtain⟨⟨c1,d1,f1,s1⟩,g1,c1',f1'⟩:=hi;obtain⟨⟨c2,d2,f2,s2⟩,g2,c2',n2,f2'⟩:=ht;dsimp only at c1' f1' c2' f2';subst c1' f1' c2' f2';obtain⟨hp,g,d,tk,os⟩:=z;unfold Builtin.SmallTypes.nextOf;refine wpAny_bind (wpAny_callSpecial?_slot (name:=Str.ofString "__next__") hty F.slot_tuple_iterator_next (wpAny_call_entry F.slot_tuple_iterator_next hty F.entry_tuple_iterator_next ?_ (F.args_tuple_iterator_next_1 _)));unfold Builtin.«tuple_iterator.__next__»
 wp_walk using AutoSeq1.wpAny_loadPart' g1,AutoSeq1.wpAny_loadPart' g2
 have e:its[((i:Nat):Int).toNat]?=none:=hx;rw[e];dsimp only;apply wpAny_bind;apply wpAny_rule;apply wpAny_bind;apply wpAny_setField g1 rfl (by simp);unfold Builtin.SmallTypes.stopIteration;apply wpAny_bind;refine kP (hd.keeps fun b u vs e _ hb=>(Heap.SameBut.update ..).extBut b u (fun z=>ni (z▸hb)) e) fun g e kp hc=>k g e (fun b o hb q=>kp b o ?_) hc;exact(Heap.SameBut.update ..).extBut b o hb q
def mn(h:wpAny (model prog w) A m S (fun _ _=>False) z)(k:∀ a z1,S a z1->Q a z1):wpAny (model prog w) A m Q E z:=wpAny_mono h k fun _ _ f=>f.elim
def sv(h:∀ b,Q b z):wpAny (model prog w) A (pure b) Q E z:=wpAny_pure (h b)
def wm{x:Value}{S:Addr->Shared->Prop}(hx:∀ A:Around,wpAny (model prog w) A (pyIter x) (fun v z1=>∃ it,v=.ref it/\S it z1) (fun _ _=>False) z)
 (k:∀ it z1,S it z1->Q (.ref z1.heap.objs.size) { z1 with heap:=z1.heap.push { cls:=.type "enumerate",data:=.fields #[.none,.bool false,.ref it,rawInt 0,.none,.none] } }):wpAny (model prog w) A (call (.type "enumerate") [x]) Q E z:=by
 have body:MeetsIn prog w (Builtin.«enumerate.__new__» ⟨[.type "enumerate",x],[]⟩) (fun A R s=>s=z/\∀ it z1,S it z1->R (.ok (.ret (.ref z1.heap.objs.size))) { z1 with heap:=z1.heap.push { cls:=.type "enumerate",data:=.fields #[.none,.bool false,.ref it,rawInt 0,.none,.none] } }):=by
  rintro A R s ⟨rfl,hR⟩;have hsub:=sub_enumerate;have iter:=hx A.in1;obtain⟨hp,g,d,tk,os⟩:=s
  wp_walk
  refine wpAny_stack_any fun st=>sv fun b=>?_
  have done:∀ it z1,S it z1->wpAny (model prog w) A.in1 (do let r <- Builtin.SmallTypes.newRecord (.type "enumerate") (Builtin.SmallTypes.ownedTupleFields++[.ref it,rawInt 0,.none,.none]);ret r)
    (fun fin s'=>match fin with | .done f=>R (.ok f) s' | .again c'=>c'.quiet=true/\codeAny (model prog w) A c' R s') (fun e s'=>R (.error e) s') z1:=by
   intro it z1 h1;have:=hR it z1 h1;obtain⟨hp1,gg1,dd1,tk1,os1⟩:=z1
   wp_walk
   exact this
  cases b
  ·wp_walk using mn iter
   rintro _ z1 ⟨it,rfl,h1⟩;exact done it z1 h1
  ·wp_walk using mn iter
   rintro _ z1 ⟨it,rfl,h1⟩;exact done it z1 h1
 refine callType_newIn F.called_enumerate (by decide) (F.typeCall_enumerate_1 _) (F.newCall_enumerate_1 _) (fun obj=>F.args_object_init_2 obj _) F.entry_enumerate_new body ⟨rfl,fun it z1 h=>?_⟩;exact⟨⟨_,Heap.get?_push_size _ rfl,rfl⟩,k it z1 h⟩
def nR:iX prog w where
 draws:=fun hh ti tp hne its=>{
  live:=fun i h st=>let ⟨o,e,_⟩:=st.1;⟨o,e⟩
  frame:=fun i h h' st kp=>by
   obtain⟨⟨o1,e1,r1⟩,⟨o2,e2,r2⟩⟩:=st;exact⟨⟨o1,kp ti (by simp) _ e1,r1⟩,⟨o2,kp tp (by simp) _ e2,r2⟩⟩
  item:=fun i s Q E hi st k=>by
   refine oj st.1 st.2 (x:=its[i]) (by simp[hi]) fun g h1 h2=>k its[i] g s.toks (by simp[hi]) ⟨h1,st.2.extBut h2.extBut hne⟩ h2
  done:=fun s Q E st k=>qk (.inl hh) (by rw[hh];exact fun z=>nomatch z) st.1 st.2 (by simp) fun g e h1 h2=>k g e h1 h2 }
 call:=fun {A E z tp its Q} ht k=>by
  refine wm (S:=fun it z1=>it=z.heap.objs.size/\z1={ z with heap:=z.heap.push { cls:=.type "tuple_iterator",data:=.fields #[.ref tp,rawInt 0] } }) (fun A=>wpAny_pyIter_tuple ht ⟨_,rfl,rfl,rfl⟩) ?_;rintro it z1 ⟨rfl,rfl⟩;have hz:(z.heap.push { cls:=.type "tuple_iterator",data:=.fields #[.ref tp,rawInt 0] }).objs.size=z.heap.objs.size+1:=Heap.size_push ..;dsimp only;rw[hz];refine k _ ?_ ⟨_,Heap.get?_push_of_some _ (Heap.get?_push_size _ rfl),rfl,rfl⟩ fun b o e=>Heap.get?_push_of_some _ (Heap.get?_push_of_some _ e);have:=Heap.get?_push_size (z.heap.push { cls:=.type "tuple_iterator",data:=.fields #[.ref tp,rawInt 0] }) (o:={ cls:=.type "enumerate",data:=.fields #[.none,.bool false,.ref z.heap.objs.size,rawInt 0,.none,.none] }) rfl;rw[hz]at this;exact this
end
end L2
namespace RS
open PySem PySem.Spec PyProof.Rows L2
section
variable{X:Cx}
def qq:∀ {bs:List Bool} {us:List Value},Vals (bs.map V.bl) us->us=bs.map Value.bool
 | [],_,h=>by cases h;rfl
 | b::bs,_,h=>by
  cases h with
  |cons r t=>
   cases r;rw[qq t];rfl
def uT{A:Around}{bs:List Bool}:TruthOf X.prog X.w A (fun i v=>(bs.map Value.bool).toArray[i]?=some v) (fun i=>bs.getD i false):=by
 intro i v s Q E hP q
 have hP':(bs.map Value.bool)[i]?=some v:=by simpa using hP
 rw[List.getElem?_map]at hP';obtain⟨b,h1,h2⟩:=map_some hP';subst h2
 have:bs.getD i false=b:=by rw[List.getD_eq_getElem?_getD,h1];rfl
 have q':Q b s:=this▸q;exact wpAny_truthy_bool q'
def range_all(bs:List Bool):(List.range bs.length).all (fun i=>bs.getD i false)=bs.all id:=by
 have:bs=(List.range bs.length).map fun i=>bs.getD i false:=by
  apply List.ext_getElem
  ·simp
  ·intro i h1 h2;simp[ h1]
 conv=>rhs;rw[this]
 rw[List.all_map];rfl
abbrev Bz(f:List Bool->Bool):List V->Hp->VK->Prop:=fun xs H Q=>∃ p bs,xs=[.ref p]/\H p=some (.lst (bs.map V.bl))/\Q (.bl (f bs)) H
def vJ(hc:X.calm=true):br X (.builtin "all") (Bz fun bs=>bs.all id):=by
 intro pins s σ H xs us Q I r h;obtain⟨p,bs,rfl,hp,q⟩:=h
 cases r with
 |cons r rr=>
  cases rr;cases r;obtain⟨its,rv,hl,hz⟩:=I.list (SqL.of hp);have hits:=qq rv;subst hits
  have hlt:p<s.heap.objs.size:=by obtain⟨o,ho,_⟩:=hl.isList;exact Heap.lt_size ho
  refine call_all_walk (wpAny_pyIter_list hl.isList ?_);refine⟨s.heap.objs.size,_,[s.heap.objs.size],_,_,_,_,rfl,Walks.list (A:=X.A.in1) (I.ok.hd.1 hc) s.heap.objs.size p (Nat.ne_of_lt hlt) (bs.map Value.bool).toArray,⟨⟨_,Heap.get?_push_size _ rfl,rfl,rfl⟩,hl.isList.push _⟩,uT,fun h' tk hk=>?_⟩;refine⟨.bl (bs.all id),H,I.kept (fun b o e=>hk b o (fun z=>?_) (Heap.get?_push_of_some _ e)),?_,q⟩
  ·rw[List.mem_singleton.mp z]at e;exact absurd (Heap.lt_size e) (Nat.lt_irrefl _)
  ·have:=range_all bs;show Value.bool _=Value.bool _;rw[<-this];simp
def nS{P:Addr->Prop}{K:PySem.W.Frag}:∀ {ds:List RL.D} {bs:List Bool} {xs:List V},RL.cR ds=some bs->af P K H ds xs->xs=bs.map V.bl
 | [],bs,xs,h,r=>by rw[RL.cR]at h;cases h;rw[af]at r;exact r
 | d::ds,bs,xs,h,r=>by
  cases d<;>simp only[RL.cR]at h<;>first | (cases h;done) | skip
  rename_i b;obtain⟨bs',h1,h2⟩:=map_some h;subst h2;obtain⟨x,t,rfl,r1,r2⟩:=r;rw[aT r1,nS h1 r2];rfl
def BD(hc:X.calm=true)(hg:Gl X "all")(hm:X.mg "all" = none)(ha:SE X cl a a')(hn:noStar a=true):SE X cl (.Call (.Name "all" p) [a] [] pos) (.bi .all a'):=by
 refine iH (vJ hc) hg hm (by decide +kernel) ha hn (by decide) (by decide) fun σD σ H H1 y d v Q e s1 r1 k=>?_
 cases y<;>first | (cases e;done) | skip
 case lst ds =>
  obtain⟨bs,e1,e2⟩:=map_some e;subst e2;obtain⟨q,xs,rfl,_,f2,f3⟩:=aP r1;rw[nS e1 f3]at f2;exact⟨q,bs,rfl,f2,k _ _ (cu s1 nH rfl)⟩
def xG(hg:Gl X "enumerate")(hm:X.mg "enumerate" = none)(ha:SE X cl a a')(hn:noStar a=true):SI X cl (.Tuple elts kx tp) (.Call (.Name "enumerate" p) [a] [] pos) (.enm a'):=Bh nR hg hm ha hn
def pU{P:Addr->Prop}{K:PySem.W.Frag}:∀ {ds:List RL.D} {is:List Int} {xs:List V},RL.cE ds=some is->af P K H ds xs->xs=is.map V.int
 | [],is,xs,h,r=>by rw[RL.cE]at h;cases h;rw[af]at r;exact r
 | d::ds,is,xs,h,r=>by
  cases d<;>simp only[RL.cE]at h<;>first | (cases h;done) | skip
  rename_i b;obtain⟨bs',h1,h2⟩:=map_some h;subst h2;obtain⟨x,t,rfl,r1,r2⟩:=r;rw[ah r1,pU h1 r2];rfl
def BC(hl:PE X l (Am X.K "list" Ce (vb i)))(he:SE X cl e e')(ha:SSs X cl M A A')(hb:SSs X cl M B B')(hi:M.contains i=true):SS X cl M (.If (.Compare l [.NotEq] [e] pos) A B pos2) (.ifp i e' A' B'):=by
 refine PS.weak (rP (kR CW hl he (mU _ (by decide) (by decide))) ha hb) fun D σ H h=>?_;obtain⟨σD,o,σD',rv,ev,k⟩:=h;obtain⟨l,e3,ev⟩:=bind_some ev
 cases l with
 |lst ds=>
  obtain⟨d,e4,ev⟩:=bind_some ev;obtain⟨y,e5,ev⟩:=bind_some ev;obtain⟨v,h1,h2⟩:=rv.val i _ (slot_get e3);rw[if_pos hi]at h2;obtain⟨q1,q2,q3⟩:=h2;obtain⟨a,xs,rfl,_,f2,f3⟩:=aP q3;obtain⟨u,f4,f5⟩:=f3.get e4;have im:=qr q2;obtain⟨g1,g2⟩:=rv.tN hi h1 f2 (.inl ⟨_,rfl⟩) (yY (ds:=ds) f2 im f3.dropLast)
  cases d with
  |int m=>
   cases y with
   |int n=>
    refine⟨.ref a,h1,.inl ⟨rfl,xs,SqL.of f2⟩,a,xs,u,rfl,rfl,f2,by rw[<-f3.length];exact f4,?_⟩;refine⟨_,_,g1.rv0,e5,fun w H1 r1=>?_⟩;rw[ah f5,ah r1.rep];have k1:=k.from (g2.trans (Fr'.same (σ:=σ) r1.same));refine⟨rfl,_,rfl,?_⟩;dsimp only at ev;by_cases hmn:m=n
    ·rw[if_pos (by simpa using hmn)]at ev
     have hd:(!decide (V.int m=V.int n))=false:=by rw[hmn];simp
     rw[hd];exact eC ⟨_,o,σD',g1.same r1.same,ev,k1⟩
    ·rw[if_neg (by simpa using hmn)]at ev
     have hd:(!decide (V.int m=V.int n))=true:=by
      have:V.int m≠V.int n:=fun z=>hmn (by injection z);simp[this]
     rw[hd];exact dU ⟨_,o,σD',g1.same r1.same,ev,k1⟩
   | _=>cases ev
  | _=>cases ev
 | _=>cases ev
end
end RS
namespace L2
open PySem PySem.Spec PyProof.Rows
section
variable{prog:Program}{w:World}{A:Around}{E:Value->Shared->Prop}
def xy{x y:Value}{S1:Addr->Shared->Prop}{S2:Addr->Addr->Shared->Prop}{z:Shared}{Q:Value->Shared->Prop}(hx:∀ A:Around,wpAny (model prog w) A (pyIter x) (fun v z1=>∃ it,v=.ref it/\S1 it z1) (fun _ _=>False) z)
 (hy:∀ it z1,S1 it z1->∀ A:Around,wpAny (model prog w) A (pyIter y) (fun v z2=>∃ jt,v=.ref jt/\S2 it jt z2) (fun _ _=>False) z1)
 (k:∀ it jt z2,S2 it jt z2->Q (.ref (((z2.heap.push { cls:=.type "tuple",data:=.seq #[.ref it,.ref jt] }).push { cls:=.type "tuple",data:=.seq #[.none,.none] })).objs.size)
   { z2 with heap:=((z2.heap.push { cls:=.type "tuple",data:=.seq #[.ref it,.ref jt] }).push { cls:=.type "tuple",data:=.seq #[.none,.none] }).push { cls:=.type "zip",data:=.fields #[.none,.bool false,.bool false,.ref z2.heap.objs.size,.ref (z2.heap.push { cls:=.type "tuple",data:=.seq #[.ref it,.ref jt] }).objs.size] } }) :
  wpAny (model prog w) A (call (.type "zip") [x,y]) Q E z:=by
 have body:MeetsIn prog w (Builtin.«zip.__new__» ⟨[.type "zip",x,y],[]⟩) (fun A R s=>s=z/\∀ it jt z2,S2 it jt z2->R (.ok (.ret (.ref (((z2.heap.push { cls:=.type "tuple",data:=.seq #[.ref it,.ref jt] }).push { cls:=.type "tuple",data:=.seq #[.none,.none] })).objs.size)))
   { z2 with heap:=((z2.heap.push { cls:=.type "tuple",data:=.seq #[.ref it,.ref jt] }).push { cls:=.type "tuple",data:=.seq #[.none,.none] }).push { cls:=.type "zip",data:=.fields #[.none,.bool false,.bool false,.ref z2.heap.objs.size,.ref (z2.heap.push { cls:=.type "tuple",data:=.seq #[.ref it,.ref jt] }).objs.size] } }):=by
  rintro A R s ⟨rfl,hR⟩;have hsub:=sub_zip;have iter:=hx A.in1;obtain⟨hp,g,d,tk,os⟩:=s
  wp_walk using mn iter
  rintro _ z1 ⟨it,rfl,h1⟩;have iter2:=hy it z1 h1 A.in1;obtain⟨hp1,gg1,dd1,tk1,os1⟩:=z1
  wp_walk using mn iter2
  rintro _ z2 ⟨jt,rfl,h2⟩;have fin:=hR it jt z2 h2;obtain⟨hp2,gg2,dd2,tk2,os2⟩:=z2
  wp_walk
  exact fin
 refine callType_newIn F.called_zip (by decide) (F.typeCall_zip_2 _ _) (F.newCall_zip_2 _ _) (fun obj=>F.args_object_init_3 obj _ _) F.entry_zip_new body ⟨rfl,fun it jt z2 h=>?_⟩;exact⟨⟨_,Heap.get?_push_size _ rfl,rfl⟩,k it jt z2 h⟩
structure gr(z TI TO i1 i2:Addr)(fp1 fp2:List Addr):Prop where
 zTI:TI≠z
 zTO:TO≠z
 TT:TI≠TO
 i1z:i1≠z
 i2z:i2≠z
 Ex:i1≠TO
 DJ:i2≠TO
 i12:i1≠i2
 z1:z∉fp1
 z2:z∉fp2
 TO1:TO∉fp1
 TO2:TO∉fp2
 i1f:i1∉fp2
 i2f:i2∉fp1
def vN{z TI TO i1 i2:Addr}{fp1 fp2:List Addr}{n1 n2 k:Nat}{P1 P2:Nat->Value->Prop}{S1 S2:Nat->Heap->Prop}{a b:Value}{s:Shared}{Q:Value->Shared->Prop}(Z:gr z TI TO i1 i2 fp1 fp2)
 (D1:Draws prog w A i1 fp1 n1 P1 S1)(D2:Draws prog w A i2 fp2 n2 P2 S2)(hz:IsZip s.heap z TI TO .none)(hTI:IsPair s.heap TI (.ref i1) (.ref i2))(hTO:IsPair s.heap TO a b)(s1:S1 k s.heap)(s2:S2 k s.heap)(k1:k<n1)(k2:k<n2)
 (hQ:∀ x y g tk,P1 k x->P2 k y->IsZip g z TI TO (rawInt s.heap.objs.size)->IsPair g TO x y->S1 (k+1) g->S2 (k+1) g->IsPair g s.heap.objs.size x y->g.objs.size=s.heap.objs.size+1->(∀ c o,c≠z->c≠TO->c≠i1->c≠i2->s.heap.get? c=some o->g.get? c=some o)->Q (.ref s.heap.objs.size) { s with heap:=g,toks:=tk }) :
  wpAny (model prog w) A (Builtin.«zip.__next__» ⟨[.ref z],[]⟩) (fun fin s'=>∃ v,fin=.done (.ret v)/\Q v s') E s:=by
 obtain⟨hp,g,d,tk,os⟩:=s;have off:∀ (f:Obj->Obj) b o,b≠z->hp.get? b=some o->(hp.update z f).get? b=some o:=fun f b o hb e=>(Heap.SameBut.update ..).extBut b o hb e;have st1:∀ f:Obj->Obj,S1 k (hp.update z f):=fun f=>D1.frame k _ _ s1 fun b hb o e=>off f b o (fun q=>Z.z1 (q▸hb)) e;have st2:∀ f:Obj->Obj,S2 k (hp.update z f):=fun f=>D2.frame k _ _ s2 fun b hb o e=>off f b o (fun q=>Z.z2 (q▸hb)) e;unfold Builtin.«zip.__next__»
 wp_walk using AutoSeq1.wpAny_loadPart' hz,AutoSeq1.wpAny_loadPart' hTI,wpAny_onRaise,(D1.item k _ _ _ k1 (st1 _))
 intro x h1 t1 px st1' sb1;have q1:IsPair h1 TO a b:=sb1.extBut _ _ (Ne.symm Z.Ex) (off _ TO _ Z.zTO hTO);have z1:IsZip h1 z TI TO .ellipsis:=sb1.extBut _ _ (Ne.symm Z.i1z) (Heap.get?_update_self _ hz rfl);have u1:=sb1.1;have c1:∀ c o,c≠z->c≠i1->hp.get? c=some o->h1.get? c=some o:=fun c o n1 n2 e=>sb1.extBut _ _ n2 (off _ c o n1 e);clear sb1 st1 st2
 wp_walk using AutoSeq1.wpAny_loadPart' q1,(wpAny_updateSeq_pair q1)
 intro h2 q2 sb2
 replace q2:IsPair h2 TO x b:=q2
 have z2:IsZip h2 z TI TO .ellipsis:=sb2.extBut _ _ (Ne.symm Z.zTO) z1;have c2:∀ c o,c≠z->c≠TO->c≠i1->hp.get? c=some o->h2.get? c=some o:=fun c o n1 n2 n3 e=>sb2.extBut _ _ n2 (c1 c o n1 n3 e);have e1:S1 (k+1) h2:=D1.frame _ _ _ st1' fun b hb o e=>sb2.extBut _ _ (fun q=>Z.TO1 (q▸hb)) e;have e2:S2 k h2:=D2.frame _ _ _ s2 fun b hb o e=>c2 b o (fun q=>Z.z2 (q▸hb)) (fun q=>Z.TO2 (q▸hb)) (fun q=>Z.i1f (q▸hb)) e;have u2:=sb2.1.trans u1;clear sb2 u1 c1 z1 q1
 wp_walk using wpAny_onRaise,(D2.item k _ _ _ k2 e2)
 intro y h3 t3 py f2 sb3;have q3:IsPair h3 TO x b:=sb3.extBut _ _ (Ne.symm Z.DJ) q2;have z3:IsZip h3 z TI TO .ellipsis:=sb3.extBut _ _ (Ne.symm Z.i2z) z2;have f1:S1 (k+1) h3:=D1.frame _ _ _ e1 fun b hb o e=>sb3.extBut _ _ (fun q=>Z.i2f (q▸hb)) e;have c3:∀ c o,c≠z->c≠TO->c≠i1->c≠i2->hp.get? c=some o->h3.get? c=some o:=fun c o n1 n2 n3 n4 e=>sb3.extBut _ _ n4 (c2 c o n1 n2 n3 e);have u3:=sb3.1.trans u2;clear sb3 u2 c2 z2 q2 e1 e2
 wp_walk using AutoSeq1.wpAny_loadPart' q3,(wpAny_updateSeq_pair q3)
 intro h4 q4 sb4
 replace q4:IsPair h4 TO x y:=q4
 have z4:IsZip h4 z TI TO .ellipsis:=sb4.extBut _ _ (Ne.symm Z.zTO) z3;have g1:S1 (k+1) h4:=D1.frame _ _ _ f1 fun b hb o e=>sb4.extBut _ _ (fun q=>Z.TO1 (q▸hb)) e;have g2:S2 (k+1) h4:=D2.frame _ _ _ f2 fun b hb o e=>sb4.extBut _ _ (fun q=>Z.TO2 (q▸hb)) e;have c4:∀ c o,c≠z->c≠TO->c≠i1->c≠i2->hp.get? c=some o->h4.get? c=some o:=fun c o n1 n2 n3 n4 e=>sb4.extBut _ _ n2 (c3 c o n1 n2 n3 n4 e);have u4:=sb4.1.trans u3;clear sb4 u3 c3 z3 q3 f1 f2
 wp_walk using AutoSeq1.wpAny_loadPart' q4
 have u0:h4.objs.size=hp.objs.size:=u4.trans (Heap.SameBut.update ..).1;refine⟨_,rfl,?_⟩;show Q (.ref h4.objs.size) _;have zp:IsZip (h4.push { cls:=.type "tuple",data:=.seq #[x,y].toList.toArray }) z TI TO .ellipsis:=Heap.get?_push_of_some _ z4;have zlt:z<h4.objs.size:=Heap.lt_size z4
 have up:∀ (f f':Obj->Obj) c o,c≠z->(h4.push { cls:=.type "tuple",data:=.seq #[x,y].toList.toArray }).get? c=some o->(((h4.push { cls:=.type "tuple",data:=.seq #[x,y].toList.toArray }).update z f).update z f').get? c=some o:=fun f f' c o hc e =>
  (Heap.SameBut.update ..).extBut c o hc ((Heap.SameBut.update ..).extBut c o hc e)
 have goal:=hQ x y (((h4.push { cls:=.type "tuple",data:=.seq #[x,y].toList.toArray }).update z (Obj.mapFields (·.setIfInBounds 0 (rawInt h4.objs.size)))).update z (Obj.mapFields (·.setIfInBounds 1 (.bool false)))) t3 px py ?_ ?_ ?_ ?_ ?_ ?_ ?_
 ·rw[u0]at goal ⊢;exact goal
 ·rw[<-u0];exact Heap.get?_update_self _ (Heap.get?_update_self _ zp rfl) rfl
 ·exact up _ _ _ _ Z.zTO (Heap.get?_push_of_some _ q4)
 ·exact D1.frame _ _ _ g1 fun b hb o e=>up _ _ _ _ (fun q=>Z.z1 (q▸hb)) (Heap.get?_push_of_some _ e)
 ·exact D2.frame _ _ _ g2 fun b hb o e=>up _ _ _ _ (fun q=>Z.z2 (q▸hb)) (Heap.get?_push_of_some _ e)
 ·show IsPair _ hp.objs.size x y;rw[<-u0];exact up _ _ _ _ (Nat.ne_of_gt zlt) (Heap.get?_push_size _ rfl)
 ·refine((Heap.SameBut.update ..).1.trans ((Heap.SameBut.update ..).1.trans ((Heap.size_push ..).trans ?_)));show h4.objs.size+1=hp.objs.size+1;rw[u0]
 ·exact fun c o n1 n2 n3 n4 e=>up _ _ _ _ n1 (Heap.get?_push_of_some _ (c4 c o n1 n2 n3 n4 e))
def xZ{z TI TO i1 i2:Addr}{fp1 fp2:List Addr}{n1:Nat}{P1:Nat->Value->Prop}{S1:Nat->Heap->Prop}{a b:Value}{s:Shared}{Q:Fin->Shared->Prop}(Z:gr z TI TO i1 i2 fp1 fp2)
 (D1:Draws prog w A i1 fp1 n1 P1 S1)(hz:IsZip s.heap z TI TO .none)(hTI:IsPair s.heap TI (.ref i1) (.ref i2))(hTO:IsPair s.heap TO a b)(s1:S1 n1 s.heap)
 (hE:∀ g e,(∀ c o,c≠z->c≠i1->s.heap.get? c=some o->g.get? c=some o)->(∃ o,g.get? e=some o/\o.cls=.type "StopIteration")->E (.ref e) { s with heap:=g }) :
  wpAny (model prog w) A (Builtin.«zip.__next__» ⟨[.ref z],[]⟩) Q E s:=by
 obtain⟨hp,g,d,tk,os⟩:=s;have off:∀ (f:Obj->Obj) b o,b≠z->hp.get? b=some o->(hp.update z f).get? b=some o:=fun f b o hb e=>(Heap.SameBut.update ..).extBut b o hb e;have st1:∀ f:Obj->Obj,S1 n1 (hp.update z f):=fun f=>D1.frame n1 _ _ s1 fun b hb o e=>off f b o (fun q=>Z.z1 (q▸hb)) e;unfold Builtin.«zip.__next__»
 wp_walk using AutoSeq1.wpAny_loadPart' hz,AutoSeq1.wpAny_loadPart' hTI,wpAny_onRaise,(D1.done _ _ _ (st1 _))
 rintro h1 e eb ⟨oe,he,hce⟩;have z1:IsZip h1 z TI TO .ellipsis:=eb _ _ (Ne.symm Z.i1z) (Heap.get?_update_self _ hz rfl)
 have ez:e≠z:=fun q=>by
  rw[q,z1]at he;have:=Option.some.inj he;rw[<-this]at hce;simp at hce
 refine wpAny_setField_rec z1 (by simp) fun h2 _ sb2=>?_;exact hE h2 e (fun c o n1 n2 q=>sb2.extBut _ _ n1 (eb _ _ n2 (off _ _ _ n1 q))) ⟨oe,sb2.extBut _ _ ez he,hce⟩
end
section
variable{prog:Program}{w:World}{A:Around}{E:Value->Shared->Prop}{z TI TO i1 i2:Addr}{fp1 fp2:List Addr}{n1 n2 k:Nat}{P1 P2:Nat->Value->Prop}{S1 S2:Nat->Heap->Prop}{a b:Value}{s:Shared}
def uY{Q:Option Value->Shared->Prop}(Z:gr z TI TO i1 i2 fp1 fp2)(D1:Draws prog w A.in1 i1 fp1 n1 P1 S1)(D2:Draws prog w A.in1 i2 fp2 n2 P2 S2)(hz:IsZip s.heap z TI TO .none)(hTI:IsPair s.heap TI (.ref i1) (.ref i2))(hTO:IsPair s.heap TO a b)(s1:S1 k s.heap)(s2:S2 k s.heap)(k1:k<n1)(k2:k<n2)
 (hQ:∀ x y g tk,P1 k x->P2 k y->IsZip g z TI TO (rawInt s.heap.objs.size)->IsPair g TO x y->S1 (k+1) g->S2 (k+1) g->IsPair g s.heap.objs.size x y->g.objs.size=s.heap.objs.size+1->(∀ c o,c≠z->c≠TO->c≠i1->c≠i2->s.heap.get? c=some o->g.get? c=some o)->Q (some (.ref s.heap.objs.size)) { s with heap:=g,toks:=tk }) :
  wpAny (model prog w) A (pyNext (.ref z)) Q E s:=by
 have hT:s.TypeIs (.ref z) "zip" := ⟨_,hz,rfl⟩
 unfold pyNext;apply wpAny_bind;apply wpAny_attempt;apply wpAny_callSpecial?_slot (name:=Str.ofString "__next__") hT F.slot_zip_next;refine wpAny_call_entry F.slot_zip_next hT F.entry_zip_next ?_ (F.args_zip_next_1 _);refine vN Z D1 D2 hz hTI hTO s1 s2 k1 k2 fun x y g tk px py q1 q2 q3 q4 q5 q6 q7=>?_;apply wpAny_pure;exact hQ x y g tk px py q1 q2 q3 q4 q5 q6 q7
def vn{Q:Option Value->Shared->Prop}(Z:gr z TI TO i1 i2 fp1 fp2)(D1:Draws prog w A.in1 i1 fp1 n1 P1 S1)(hz:IsZip s.heap z TI TO .none)(hTI:IsPair s.heap TI (.ref i1) (.ref i2))(hTO:IsPair s.heap TO a b)(s1:S1 n1 s.heap)
 (hQ:∀ g,(∀ c o,c≠z->c≠i1->s.heap.get? c=some o->g.get? c=some o)->Q none { s with heap:=g }):wpAny (model prog w) A (pyNext (.ref z)) Q E s:=by
 have hT:s.TypeIs (.ref z) "zip" := ⟨_,hz,rfl⟩
 unfold pyNext;apply wpAny_bind;apply wpAny_attempt;apply wpAny_callSpecial?_slot (name:=Str.ofString "__next__") hT F.slot_zip_next;refine wpAny_call_entry F.slot_zip_next hT F.entry_zip_next ?_ (F.args_zip_next_1 _);refine xZ Z D1 hz hTI hTO s1 fun g e hk ⟨o,he,hc⟩=>?_;apply wpAny_bind;refine wpAny_isInstance (T := "StopIteration") (b:=true) ⟨_,he,hc⟩ isSubtype_stop ?_;apply wpAny_pure;exact hQ g hk
end
section
variable{s:Shared}
def dI.sd(hd:dI A s.heap):A.handled≠some (.ref s.heap.objs.size):=fun q=>by
 rcases hd with z | ⟨x,o,ws,h1,h2,_,_⟩
 ·rw[z]at q;cases q
 ·rw[h1]at q;cases q;exact Nat.lt_irrefl _ (Heap.lt_size h2)
def qC(hd:dI A s.heap)(ni:A.handled≠some (.ref it))(hit:IsTupIter s.heap it t i)(ht:IsTup s.heap t its)(hx:its[i]?=none)
 (k:∀ h',Heap.ExtBut it s.heap h'->Q none { s with heap:=h' }):wpAny (model prog w) A (pyNext (.ref it)) Q E s:=by
 obtain⟨o,ho,hc,hdt⟩:=id hit;obtain⟨ol,hol,_,nl,hdl⟩:=ht;unfold pyNext;apply wpAny_bind;apply wpAny_attempt;apply wpAny_callSpecial?_slot (name:=Str.ofString "__next__") hit.typeIs slot_tupleiter_next;refine wpAny_call_entry slot_tupleiter_next hit.typeIs entry_tupleiter_next ?_ (args_tupleiter_next _);have n0:¬ ((Value.ref t == Value.none)=true):=Bool.false_ne_true;refine show wpAny _ _ (field (.ref it) 0 >>= _) _ _ s from wpAny_bind (wpAny_field ho hdt (x:=.ref t) rfl ?_);refine show wpAny _ _ (if(Value.ref t == Value.none)=true then _ else _) _ _ s from ?_;rw[if_neg n0];refine show wpAny _ _ (field (.ref it) 1 >>= _) _ _ s from wpAny_bind (wpAny_field ho hdt (x:=.int i 0) rfl ?_);refine show wpAny _ _ (seqItems? (.ref t) >>= _) _ _ s from wpAny_bind (wpAny_seqItems hol hdl ?_);simp only[Int.toNat_natCast,hx];refine wpAny_bind (wpAny_rule (wpAny_bind (wpAny_setField ho hdt (by simp) ?_)));refine show wpAny _ _ (newExc (.type "StopIteration") [] >>= _) _ _ _ from wpAny_bind ?_;have sb:=Heap.SameBut.update s.heap it (Obj.mapFields (·.setIfInBounds 0 Value.none));refine kP (hd.keeps fun b u vs e _ hb=>(sb.2 b fun z=>ni (z▸hb)).trans e) fun h' e kk he=>?_;apply wpAny_bind;refine wpAny_isInstance (T := "StopIteration") (b:=true) he isSubtype_stop ?_;exact wpAny_pure (k h' fun b u hb q=>kk b u ((sb.2 b hb).trans q))
def take_all{its:Array Value}:List.take its.size (List.drop 0 its.toList)=its.toList:=by
 rw[List.drop_zero,List.take_of_length_le (by simp)]
def qQ{t:Addr}(hd:dI A s.heap)(ht:IsTup s.heap t its)(k:∀ h',Heap.ExtBut s.heap.objs.size s.heap h'->Q its.toList { s with heap:=h' }):wpAny (model prog w) A (unpackItems (.ref t) its.size none) Q E s:=by
 have hlt:t≠s.heap.objs.size:=Nat.ne_of_lt ht.lt;have nn:=hd.sd;unfold unpackItems;apply wpAny_bind;unfold notIterableAtAll;apply wpAny_bind;refine wpAny_specialOf ht.typeIs slot_tuple_iter.lookup (wpAny_pure ?_);simp only[Bool.false_eq_true,if_false];apply wpAny_bind;refine wpAny_holding (iter_tuple ht ?_);apply wpAny_bind;refine wpAny_holding (draw_tuple hlt its.size 0 _ _ ⟨_,Heap.get?_push_size _ rfl,rfl,rfl⟩ (ht.push _) (by omega) fun g hit sb=>?_);rw[take_all,if_neg (by simp)];apply wpAny_bind;refine wpAny_holding (qC (hd.keeps fun b o vs e _ hb=>(sb.2 b fun z=>nn (z▸hb)).trans (Heap.get?_push_of_some _ e)) nn hit ((ht.push _).extBut sb.extBut hlt) (by simp) fun g2 eb=>?_);simp only[Option.isSome_none,Bool.false_eq_true,if_false];exact wpAny_pure (k g2 fun b o hb e=>eb b o hb (sb.extBut b o hb (Heap.get?_push_of_some _ e)))
def qL{l:Addr}(hd:dI A s.heap)(hl:s.heap.IsList l its)(k:∀ h',Heap.ExtBut s.heap.objs.size s.heap h'->Q its.toList { s with heap:=h' }):wpAny (model prog w) A (unpackItems (.ref l) its.size none) Q E s:=by
 have hlt:l≠s.heap.objs.size:=let ⟨o,ho,_⟩:=hl;Nat.ne_of_lt (Heap.lt_size ho);have nn:=hd.sd;unfold unpackItems;apply wpAny_bind;unfold notIterableAtAll;apply wpAny_bind;refine wpAny_specialOf hl.typeIs slot_list_iter.lookup (wpAny_pure ?_);simp only[Bool.false_eq_true,if_false];apply wpAny_bind;refine wpAny_holding (wpAny_pyIter_list hl ?_);apply wpAny_bind;refine wpAny_holding (PySem.W.kun_draw hlt its.size 0 _ _ ⟨_,Heap.get?_push_size _ rfl,rfl,rfl⟩ (hl.push _) (by omega) fun g hit sb=>?_);rw[take_all,if_neg (by simp)];apply wpAny_bind;refine wpAny_holding (ph (hd.keeps fun b o vs e _ hb=>(sb.2 b fun z=>nn (z▸hb)).trans (Heap.get?_push_of_some _ e)) nn hit ((hl.push _).extBut sb.extBut hlt) (by simp) fun g2 eb=>?_);simp only[Option.isSome_none,Bool.false_eq_true,if_false];exact wpAny_pure (k g2 fun b o hb e=>eb b o hb (sb.extBut b o hb (Heap.get?_push_of_some _ e)))
def vF(hh:A.handled=some (.ref x))(hd:ox.data=.fields xs)(h2:xs[2]?=some .none)(nx:x≠it)(hne:l≠it)(its:Array Value) :
  Draws prog w A it [it,l,x] its.size (fun i v=>its[i]?=some v) (fun i h=>(h.IsListIter it l i/\h.IsList l its)/\h.get? x=some ox) where
 live:=fun _ _ st=>let ⟨o,ho,_⟩:=st.1.1;⟨o,ho⟩
 frame:=fun _ _ _ st hk=>⟨⟨st.1.1.at fun o e=>hk it (by simp) o e,st.1.2.at fun o e=>hk l (by simp) o e⟩,hk x (by simp) _ st.2⟩
 item:=fun i s Q E hi st hQ=>wpAny_nextOf_list_item st.1.1 st.1.2 (x:=its[i]) (by simp[hi]) fun h' hit' hs'=>hQ _ h' s.toks (by simp[hi]) ⟨⟨hit',st.1.2.extBut hs'.extBut hne⟩,(hs'.2 x nx).trans st.2⟩ hs'
 done:=fun s Q E st hE=>lZ (.inr ⟨x,ox,xs,hh,st.2,hd,h2⟩) (fun q=>by rw[hh]at q;cases q;exact nx rfl) st.1.1 st.1.2 (by simp) hE
def uC(hh:A.handled=some (.ref x))(hd:ox.data=.fields xs)(h2:xs[2]?=some .none)(nx:x≠it)(hne:l≠it)(its:Array Value) :
  Draws prog w A it [it,l,x] its.size (fun i v=>its[i]?=some v) (fun i h=>(h.IsTupleIter it l i/\h.IsTuple l its)/\h.get? x=some ox) where
 live:=fun _ _ st=>let ⟨o,ho,_⟩:=st.1.1;⟨o,ho⟩
 frame:=fun _ _ _ st hk=>by
  obtain⟨⟨⟨o1,e1,r1⟩,⟨o2,e2,r2⟩⟩,e3⟩:=st;exact⟨⟨⟨o1,hk it (by simp) _ e1,r1⟩,⟨o2,hk l (by simp) _ e2,r2⟩⟩,hk x (by simp) _ e3⟩
 item:=fun i s Q E hi st k=>oj st.1.1 st.1.2 (x:=its[i]) (by simp[hi]) fun g g1 g2=>k its[i] g s.toks (by simp[hi]) ⟨⟨g1,st.1.2.extBut g2.extBut hne⟩,(g2.2 x nx).trans st.2⟩ g2
 done:=fun s Q E st hE=>qk (.inr ⟨x,ox,xs,hh,st.2,hd,h2⟩) (fun q=>by rw[hh]at q;cases q;exact nx rfl) st.1.1 st.1.2 (by simp) hE
end
section
def Inv.hd(I:Inv X pins σ H s):dI X.A s.heap:=by
 rcases I.ok.hd.2 with z | ⟨h,o,u,vs,h1,h2,h3,h4⟩
 ·exact .inl z
 ·exact .inr ⟨h,o,vs,h1,(I.hok _ _ (I.base.cI _ _ _ h2)).1,h3,h4⟩
end
inductive SK where
 | t
 | l
 | f (o:Obj)
abbrev SK.tp:SK->Bool
 | .t=>true
 | _=>false
abbrev cV:SK->List V->HO
 | .t,xs=>.tup xs
 | .l,xs=>.lst xs
 | .f o,xs=>.frz o (.lst xs)
def pN{K:PySem.W.Frag}{k:SK}{H:Hp}(h:k.tp=false)(hx:H l=some (cV k xs)):SqL K H l xs:=by
 cases k with
 | t=>cases h
 | l=>exact SqL.of hx
 | f o=>exact .inl (.inr ⟨o,hx⟩)
def qv{k:SK}{H:Hp}(h:k.tp=true)(hx:H l=some (cV k xs)):H l=some (.tup xs):=by
 cases k with
 | t=>exact hx
 | l=>cases h
 | f o=>cases h
abbrev gh(t:Bool)(it l:Addr)(i:Nat)(h:Heap):Prop:=if t then h.IsTupleIter it l i else h.IsListIter it l i
def gh.obj(st:gh t it l i h):∃ o,h.get? it=some o/\∀ v,o.data≠.cell v:=by
 cases t with
 | true=>exact let ⟨o,ho,_,hd⟩:=(show h.IsTupleIter it l i from st);⟨o,ho,fun v q=>by rw[hd]at q;cases q⟩
 | false=>exact let ⟨o,ho,_,hd⟩:=(show h.IsListIter it l i from st);⟨o,ho,fun v q=>by rw[hd]at q;cases q⟩
def gh.keep(st:gh t it l i h)(k:∀ o,h.get? it=some o->h'.get? it=some o):gh t it l i h':=by
 cases t with
 | true=>exact let ⟨o,ho,r⟩:=(show h.IsTupleIter it l i from st);⟨o,k o ho,r⟩
 | false=>exact(show h.IsListIter it l i from st).at fun o q=>k o q
def gf{k:SK}(I:Inv X pins σ H s)(hi:H it=none)(hx0:H l=some (cV k xs))(ht:k.tp=t) :
  ∃ (fp:List Addr) (Pv:Nat->Value->Prop) (St:Nat->Heap->Prop),Draws X.prog X.w X.A.in1 it fp xs.length Pv St/\(∀ b∈fp,b=it\/H b≠none)/\(∀ i,gh t it l i s.heap->St i s.heap)/\(∀ i h,St i h->gh t it l i h)/\∀ i v,Pv i v->∃ x,xs[i]?=some x/\RelV x v:=by
 have back:∀ {its:List Value},Vals xs its->∀ (i:Nat) (v:Value),its.toArray[i]?=some v->∃ x,xs[i]?=some x/\RelV x v:=fun {its} rv i v hv=>by
  have hv:its[i]?=some v:=by simpa using hv
  have hlt:i<xs.length:=by rw[rv.length];exact(List.getElem?_eq_some_iff.mp hv).1
  obtain⟨u,h1,h2⟩:=rv.get (i:=i) (x:=xs[i]) (by simp[hlt]);rw[hv]at h1;cases h1;exact⟨xs[i],by simp[hlt],h2⟩
 have two:∀ {u:HO},H l=some u->∀ b∈[it,l],b=it\/H b≠none:=fun {u} e b hb=>by
  rcases List.mem_cons.mp hb with z | z
  ·exact .inl z
  ·rw[List.mem_singleton.mp z,e]
   exact .inr fun z=>nomatch z
 rcases I.ok.hd.2 with hh | ⟨x,ox,ux,ws,hh,g1,g2,g3⟩
 ·cases t with
  |true=>
   have hx:H l=some (.tup xs):=qv ht hx0;obtain⟨its,rv,p,hz⟩:=I.tuple (SqT.of hx);have D:=nR.draws (prog:=X.prog) (w:=X.w) (A:=X.A.in1) hh it l (aG hx hi) its.toArray;rw[show its.toArray.size=xs.length by rw[List.size_toArray,rv.length]]at D;exact⟨_,_,_,D,two hx,fun i st=>⟨st,p⟩,fun i h st=>st.1,back rv⟩
  |false=>
   have hx:=hx0;obtain⟨its,rv,p,hz⟩:=I.list (pN ht hx);have D:=Draws.list (prog:=X.prog) (w:=X.w) (A:=X.A.in1) hh it l (aG hx hi) its.toArray;rw[show its.toArray.size=xs.length by rw[List.size_toArray,rv.length]]at D;exact⟨_,_,_,D,two hx,fun i st=>⟨st,p.isList⟩,fun i h st=>st.1,back rv⟩
 ·have hxx:=I.base.cI _ _ _ g1;have hxo:s.heap.get? x=some ox:=(I.hok _ _ hxx).1;have nx:x≠it:=aG hxx hi
  have three:∀ {u:HO},H l=some u->∀ b∈[it,l,x],b=it\/H b≠none:=fun {u} e b hb=>by
   simp only[List.mem_cons,List.mem_nil_iff,or_false]at hb;rcases hb with z | z | z
   ·exact .inl z
   ·rw[z,e]
    exact .inr fun z=>nomatch z
   ·rw[z,hxx]
    exact .inr fun z=>nomatch z
  cases t with
  |true=>
   have hx:H l=some (.tup xs):=qv ht hx0;obtain⟨its,rv,p,hz⟩:=I.tuple (SqT.of hx);have D:=uC (prog:=X.prog) (w:=X.w) (A:=X.A.in1) hh g2 g3 nx (aG hx hi) its.toArray;rw[show its.toArray.size=xs.length by rw[List.size_toArray,rv.length]]at D;exact⟨_,_,_,D,three hx,fun i st=>⟨⟨st,p⟩,hxo⟩,fun i h st=>st.1.1,back rv⟩
  |false=>
   have hx:=hx0;obtain⟨its,rv,p,hz⟩:=I.list (pN ht hx);have D:=vF (prog:=X.prog) (w:=X.w) (A:=X.A.in1) hh g2 g3 nx (aG hx hi) its.toArray;rw[show its.toArray.size=xs.length by rw[List.size_toArray,rv.length]]at D;exact⟨_,_,_,D,three hx,fun i st=>⟨⟨st,p.isList⟩,hxo⟩,fun i h st=>st.1.1,back rv⟩
abbrev Itz(t1 t2:SK)(l1 l2:Addr):It :=
 ⟨fun i H=>∃ xs ys x y,H l1=some (cV t1 xs)/\H l2=some (cV t2 ys)/\xs[i]?=some x/\ys[i]?=some y,
   fun i H v H'=>∃ p x y,H p=none/\v=.ref p/\H'=upd H p (.tup [x,y])/\(∀ xs,H l1=some (cV t1 xs)->xs[i]?=some x)/\∀ ys,H l2=some (cV t2 ys)->ys[i]?=some y,
   fun i H=>∃ xs ys,H l1=some (cV t1 xs)/\H l2=some (cV t2 ys)/\xs.length=i/\ys.length=i⟩
def oI(h:cV t xs=cV t ys):xs=ys:=by
 cases t with
 | t=>injection h
 | l=>injection h
 | f o=>injection h with _ h;injection h
def uU{P:Program}{w:World}{K:PySem.W.Frag}{elts:List Expr}{kx:Nat}{tp:Pos}{t1 t2:SK}{z TI TO i1 i2 l1 l2:Addr}(n1:TI≠z)(n2:TO≠z)(n3:TI≠TO)(n4:i1≠z)(n5:i2≠z)(n6:i1≠TO)(n7:i2≠TO)(n8:i1≠i2)(n9:i1≠TI)(n10:i2≠TI) :
  kd (fun _=>True) P w K (.Tuple elts kx tp) (Itz t1 t2 l1 l2) [z,TI,TO,i1,i2] z (fun i h=>IsZip h z TI TO .none/\IsPair h TI (.ref i1) (.ref i2)/\(∃ a b,IsPair h TO a b)/\gh t1.tp i1 l1 i h/\gh t2.tp i2 l2 i h) where
 mem:=by simp
 obj:=fun i h st b hb=>by
  obtain⟨h1,h2,⟨a,c,h3⟩,h4,h5⟩:=st;simp only[List.mem_cons,List.mem_nil_iff,or_false]at hb;rcases hb with rfl | rfl | rfl | rfl | rfl
  ·exact⟨_,h1,fun v q=>by cases q⟩
  ·exact⟨_,h2,fun v q=>by cases q⟩
  ·exact⟨_,h3,fun v q=>by cases q⟩
  ·exact h4.obj
  ·exact h5.obj
 keep:=fun i h h' st k=>by
  obtain⟨h1,h2,⟨a,c,h3⟩,h4,h5⟩:=st;exact⟨k z (by simp) _ h1,k TI (by simp) _ h2,⟨a,c,k TO (by simp) _ h3⟩,h4.keep fun o q=>k i1 (by simp) o q,h5.keep fun o q=>k i2 (by simp) o q⟩
 item:=by
  intro X hP hw hK hc i pins s σ H E I hf st hg;subst hP hw hK;obtain⟨h1,h2,⟨a,c,h3⟩,h4,h5⟩:=st;obtain⟨xs,ys,x,y,hx,hy,ex,ey⟩:=hg;have f:∀ b∈[z,TI,TO,i1,i2],H b=none:=fun b hb=>(hf b hb).1;obtain⟨fp1,Pv1,St1,D1,m1,a1,a2,a3⟩:=gf I (f i1 (by simp)) hx rfl;obtain⟨fp2,Pv2,St2,D2,m2,b1,b2,b3⟩:=gf I (f i2 (by simp)) hy rfl;have no:∀ {fp:List Addr} {i b:Addr},(∀ b∈fp,b=i\/H b≠none)->b∈[z,TI,TO,i1,i2]->b≠i->b∉fp:=fun m hb n z=>(m _ z).elim n fun q=>q (f _ hb)
  have Z:gr z TI TO i1 i2 fp1 fp2:=⟨n1,n2,n3,n4,n5,n6,n7,n8,no m1 (by simp) (Ne.symm n4),no m2 (by simp) (Ne.symm n5),no m1 (by simp) (Ne.symm n6),no m2 (by simp) (Ne.symm n7),no m2 (by simp) n8,no m1 (by simp) (Ne.symm n8)⟩
  refine uY Z D1 D2 h1 h2 h3 (a1 i h4) (b1 i h5) (List.getElem?_eq_some_iff.mp ex).1 (List.getElem?_eq_some_iff.mp ey).1 fun u v g tk pu pv g1 g2 g3 g4 g5 g6 g7=>?_;obtain⟨x',ex',rx⟩:=a3 i u pu;obtain⟨y',ey',ry⟩:=b3 i v pv;rw[ex]at ex';rw[ey]at ey';cases ex';cases ey';refine⟨.ref s.heap.objs.size,rfl,wpAny_letOwnedTupleGo_zip g1 fun g' gz' sb=>?_⟩;have hn:H s.heap.objs.size=none:=I.hok.fresh (Nat.le_refl _)
  have I1:Inv X pins σ (upd H s.heap.objs.size (.tup [x,y])) { s with heap:=s.heap.push { cls:=.type "tuple",data:=.seq #[u,v] },toks:=tk } :=
   I.laid (t':=tk) (fun b o q=>Heap.get?_push_of_some _ q) (Nat.le_refl _) ⟨by show 2<=sizeLine;decide,[u,v],.cons rx (.cons ry .nil),⟨_,Heap.get?_push_size _ rfl,rfl,_,rfl⟩⟩
  have lt:∀ b∈[z,TI,TO,i1,i2],b≠s.heap.objs.size:=fun b hb=>by
   have:∃ o,s.heap.get? b=some o:=by
    simp only[List.mem_cons,List.mem_nil_iff,or_false]at hb;rcases hb with rfl | rfl | rfl | rfl | rfl
    ·exact⟨_,h1⟩
    ·exact⟨_,h2⟩
    ·exact⟨_,h3⟩
    ·exact let ⟨o,q,_⟩:=h4.obj;⟨o,q⟩
    ·exact let ⟨o,q,_⟩:=h5.obj;⟨o,q⟩
   obtain⟨o,q⟩:=this;exact Nat.ne_of_lt (Heap.lt_size q)
  have stat:∀ b∈[z,TI,TO,i1,i2],upd H s.heap.objs.size (.tup [x,y]) b=none/\(b∈X.ex\/X.s₀.heap.objs.size<=b)/\b≠X.env.locals/\(∀ x c,X.env.cells.lookup x=some c->c≠b)/\∀ p∈X.pn++pins,p.1≠b:=fun b hb=>by
   obtain⟨f0,f1,f2,f3,f4,f5⟩:=hf b hb;exact⟨by rw[aB (lt b hb)];exact f0,f3,f1,f4,f5⟩
  have I2:Inv X pins σ (upd H s.heap.objs.size (.tup [x,y])) { s with heap:=g',toks:=tk }:=by
   refine Inv.l3 (s:={ s with heap:=s.heap.push { cls:=.type "tuple",data:=.seq #[u,v] },toks:=tk }) (h':=g') (t':=tk) (fp:=[z,TI,TO,i1,i2]) I1 (fun b o hb q=>?_) stat;simp only[List.mem_cons,List.mem_nil_iff,or_false,not_or]at hb;refine sb.extBut b o hb.1 ?_;by_cases hbT:b=s.heap.objs.size
   ·subst hbT;have q':(s.heap.push { cls:=.type "tuple",data:=.seq #[u,v] }).get? s.heap.objs.size=some o:=q;rw[Heap.get?_push_size _ rfl]at q';cases q';exact g5
   ·exact g7 b o hb.1 hb.2.2.1 hb.2.2.2.1 hb.2.2.2.2 ((Heap.get?_push_ne _ _ _ hbT).symm.trans q)
  have kp:∀ b∈[TI,TO,i1,i2],∀ o,g.get? b=some o->g'.get? b=some o:=fun b hb o q=>sb.extBut b o (fun e=>by
   subst e;simp only[List.mem_cons,List.mem_nil_iff,or_false]at hb;rcases hb with e | e | e | e
   ·exact n1 e.symm
   ·exact n2 e.symm
   ·exact n4 e.symm
   ·exact n5 e.symm) q
  refine⟨.ref s.heap.objs.size,_,I2,rfl,⟨s.heap.objs.size,x,y,hn,rfl,rfl,fun xs' hx'=>?_,fun ys' hy'=>?_⟩,⟨gz',kp TI (by simp) _ (g7 TI _ n1 n3 (Ne.symm n9) (Ne.symm n10) h2),⟨u,v,kp TO (by simp) _ g2⟩,(a2 _ _ g3).keep fun o q=>kp i1 (by simp) o q,(b2 _ _ g4).keep fun o q=>kp i2 (by simp) o q⟩,fun b hb=>(stat b hb).1⟩
  ·rw[hx]at hx';rw[<-oI (Option.some.inj hx')];exact ex
  ·rw[hy]at hy';rw[<-oI (Option.some.inj hy')];exact ey
 done:=by
  intro X hP hw hK hc i pins s σ H E I hf st hg;subst hP hw hK;obtain⟨h1,h2,⟨a,c,h3⟩,h4,h5⟩:=st;obtain⟨xs,ys,hx,hy,ex,ey⟩:=hg;have f:∀ b∈[z,TI,TO,i1,i2],H b=none:=fun b hb=>(hf b hb).1;obtain⟨fp1,Pv1,St1,D1,m1,a1,a2,a3⟩:=gf I (f i1 (by simp)) hx rfl;obtain⟨fp2,_,_,_,m2,_⟩:=gf I (f i2 (by simp)) hy rfl;have no:∀ {fp:List Addr} {i b:Addr},(∀ b∈fp,b=i\/H b≠none)->b∈[z,TI,TO,i1,i2]->b≠i->b∉fp:=fun m hb n z=>(m _ z).elim n fun q=>q (f _ hb)
  have Z:gr z TI TO i1 i2 fp1 fp2:=⟨n1,n2,n3,n4,n5,n6,n7,n8,no m1 (by simp) (Ne.symm n4),no m2 (by simp) (Ne.symm n5),no m1 (by simp) (Ne.symm n6),no m2 (by simp) (Ne.symm n7),no m2 (by simp) n8,no m1 (by simp) (Ne.symm n8)⟩
  subst ex
  refine vn Z D1 h1 h2 h3 (a1 _ h4) fun g hk=>⟨rfl,?_⟩
  refine Inv.l3 (h':=g) (t':=s.toks) (fp:=[z,i1]) I (fun b o hb q=>?_) fun b hb=>?_
  ·simp only[List.mem_cons,List.mem_nil_iff,or_false,not_or]at hb;exact hk b o hb.1 hb.2 q
  ·have hb':b∈[z,TI,TO,i1,i2]:=by
    simp only[List.mem_cons,List.mem_nil_iff,or_false]at hb ⊢;rcases hb with q | q
    ·exact .inl q
    ·exact .inr (.inr (.inr (.inl q)))
   obtain⟨f0,f1,f2,f3,f4,f5⟩:=hf b hb';exact⟨f0,f3,f1,f4,f5⟩
 self:=fun A i s Q E st h=>wpAny_pyIter_zip st.1 h
def kd.calm{P:Program}{w:World}{K:PySem.W.Frag}(T:kd (fun _=>True) P w K tg J fp it tn):Turn P w K tg J fp it tn where
 mem:=T.mem
 obj:=T.obj
 keep:=T.keep
 item:=fun X a b c hc i pins s σ H E I=>T.item X a b c trivial i pins s σ H E I
 done:=fun X a b c hc i pins s σ H E I=>T.done X a b c trivial i pins s σ H E I
 self:=T.self
def PI'.calm(h:PI' (fun _=>True) X tg iter wi):PI X tg iter wi:=fun pins s σ H R I q =>
 thn (h pins s σ H R I q) fun v s1 h1=>thn h1 fun itv s2 ⟨it,fp,tn,J,H',e,I',T,r⟩=>⟨it,fp,tn,J,H',e,I',T.calm,r⟩
abbrev cQ(t:Bool)(l:Addr):Obj:=if t then { cls:=.type "tuple_iterator",data:=.fields #[.ref l,rawInt 0] } else { cls:=.type "list_iterator",data:=.fields #[.ref l,.int 0 0] }
def mQ(e:h.get? it=some (cQ t l)):gh t it l 0 h:=by
 cases t with
 | true=>exact⟨_,e,rfl,rfl⟩
 | false=>exact⟨_,e,rfl,rfl⟩
def nv{t:SK}(I:Inv X pins σ H s)(hx:H l=some (cV t xs))(q:Q (.ref s.heap.objs.size) { s with heap:=s.heap.push (cQ t.tp l) }):wpAny (model X.prog X.w) A (pyIter (.ref l)) Q E s:=by
 cases t with
 |t=>
  obtain⟨its,rv,p,hz⟩:=I.tuple (SqT.of (show H l=some (.tup xs)from hx));exact wpAny_pyIter_tuple p q
 |l=>
  obtain⟨its,rv,p,hz⟩:=I.list (SqL.of (show H l=some (.lst xs)from hx));exact wpAny_pyIter_list p.isList q
 |f o=>
  obtain⟨its,rv,p,hz⟩:=I.list (show SqL X.K H l xs from .inl (.inr ⟨o,hx⟩));exact wpAny_pyIter_list p.isList q
section
abbrev Eu(ta:TA):TI:=fun σ H R=>ta σ H fun vs H1=>∃ t1 t2 l1 l2 xs ys,vs=[.ref l1,.ref l2]/\H1 l1=some (cV t1 xs)/\H1 l2=some (cV t2 ys)/\R (Itz t1 t2 l1 l2) H1
def far(n a b:Nat)(h:a≠b):n+a≠n+b:=fun q=>h (Nat.add_left_cancel q)
def uc:bootBuiltins "zip" = some (.type "zip"):=by decide +kernel
def BR(hg:Gl X "zip")(hm:X.mg "zip" = none)(ha:PA X [a,b] ta)(hs:starEach [a,b] X.env=[(false,eval a X.env),(false,eval b X.env)])(hs2:starEach [b] X.env=[(false,eval b X.env)]):PI' (fun _=>True) X (.Tuple elts kx tp) (.Call (.Name "zip" p) [a,b] [] pos) (Eu ta):=by
 intro pins s0 σ H0 R I0 h;refine Call_ (fF I0 hg hm uc (PyProof.Rows.callWith_type1 (thn (ha pos pins s0 σ H0 _ I0 h) fun us s ⟨vs,H,I,r1,q1⟩=>?_) (by rw[hs,hs2]) (by rw[hs2];rfl)) (by decide) (by decide));obtain⟨t1,t2,l1,l2,xs,ys,rfl,hx,hy,q⟩:=q1
 cases r1 with
 |cons r rr=>
  cases rr with
  |cons r2 rr=>
   cases rr;cases r;cases r2;have I1:Inv X pins σ H { s with heap:=s.heap.push (cQ t1.tp l1) }:=I.kept (t':=s.toks) fun b o e=>Heap.get?_push_of_some _ e
   refine xy (S1:=fun it z1=>it=s.heap.objs.size/\z1={ s with heap:=s.heap.push (cQ t1.tp l1) }) (S2:=fun it jt z2=>it=s.heap.objs.size/\jt=(s.heap.push (cQ t1.tp l1)).objs.size/\z2={ s with heap:=(s.heap.push (cQ t1.tp l1)).push (cQ t2.tp l2) })
    (fun A=>nv I hx ⟨_,rfl,rfl,rfl⟩) (fun it z1 h1 A=>?_) fun it jt z2 h2=>?_
   ·obtain⟨rfl,rfl⟩:=h1;exact nv I1 hy ⟨_,rfl,rfl,rfl,rfl⟩
   ·obtain⟨rfl,rfl,rfl⟩:=h2;have z1:(s.heap.push (cQ t1.tp l1)).objs.size=s.heap.objs.size+1:=Heap.size_push ..;generalize e1:s.heap.push (cQ t1.tp l1)=g1 at *
    have p1:g1.get? s.heap.objs.size=some (cQ t1.tp l1):=by
     rw[<-e1];exact Heap.get?_push_size _ (by cases t1<;>rfl)
    have k1:∀ b o,s.heap.get? b=some o->g1.get? b=some o:=fun b o e=>by rw[<-e1];exact Heap.get?_push_of_some _ e
    have z2:(g1.push (cQ t2.tp l2)).objs.size=s.heap.objs.size+2:=by rw[Heap.size_push,z1]
    have p2:(g1.push (cQ t2.tp l2)).get? (s.heap.objs.size+1)=some (cQ t2.tp l2):=by
     rw[<-z1];exact Heap.get?_push_size _ (by cases t2<;>rfl)
    have k2:∀ b o,g1.get? b=some o->(g1.push (cQ t2.tp l2)).get? b=some o:=fun b o e=>Heap.get?_push_of_some _ e;generalize e2:g1.push (cQ t2.tp l2)=g2 at *;dsimp only;rw[z1]
    have z3:(g2.push { cls:=.type "tuple",data:=.seq #[.ref s.heap.objs.size,.ref (s.heap.objs.size+1)] }).objs.size=s.heap.objs.size+3:=by rw[Heap.size_push,z2]
    have p3:(g2.push { cls:=.type "tuple",data:=.seq #[.ref s.heap.objs.size,.ref (s.heap.objs.size+1)] }).get? (s.heap.objs.size+2)=some { cls:=.type "tuple",data:=.seq #[.ref s.heap.objs.size,.ref (s.heap.objs.size+1)] }:=by
     rw[<-z2];exact Heap.get?_push_size _ rfl
    have k3:∀ b o,g2.get? b=some o->(g2.push { cls:=.type "tuple",data:=.seq #[.ref s.heap.objs.size,.ref (s.heap.objs.size+1)] }).get? b=some o:=fun b o e=>Heap.get?_push_of_some _ e;rw[z2];generalize e3:g2.push { cls:=.type "tuple",data:=.seq #[.ref s.heap.objs.size,.ref (s.heap.objs.size+1)] }=g3 at *;rw[z3]
    have z4:(g3.push { cls:=.type "tuple",data:=.seq #[.none,.none] }).objs.size=s.heap.objs.size+4:=by rw[Heap.size_push,z3]
    have p4:(g3.push { cls:=.type "tuple",data:=.seq #[.none,.none] }).get? (s.heap.objs.size+3)=some { cls:=.type "tuple",data:=.seq #[.none,.none] }:=by
     rw[<-z3];exact Heap.get?_push_size _ rfl
    have k4:∀ b o,g3.get? b=some o->(g3.push { cls:=.type "tuple",data:=.seq #[.none,.none] }).get? b=some o:=fun b o e=>Heap.get?_push_of_some _ e;generalize e4:g3.push { cls:=.type "tuple",data:=.seq #[.none,.none] }=g4 at *;rw[z4]
    have p5:(g4.push { cls:=.type "zip",data:=.fields #[.none,.bool false,.bool false,.ref (s.heap.objs.size+2),.ref (s.heap.objs.size+3)] }).get? (s.heap.objs.size+4)=some { cls:=.type "zip",data:=.fields #[.none,.bool false,.bool false,.ref (s.heap.objs.size+2),.ref (s.heap.objs.size+3)] }:=by
     rw[<-z4];exact Heap.get?_push_size _ rfl
    have k5:∀ b o,g4.get? b=some o->(g4.push { cls:=.type "zip",data:=.fields #[.none,.bool false,.bool false,.ref (s.heap.objs.size+2),.ref (s.heap.objs.size+3)] }).get? b=some o:=fun b o e=>Heap.get?_push_of_some _ e;generalize e5:g4.push { cls:=.type "zip",data:=.fields #[.none,.bool false,.bool false,.ref (s.heap.objs.size+2),.ref (s.heap.objs.size+3)] }=g5 at *
    refine wpAny_pyIter_zip (TI:=s.heap.objs.size+2) (TO:=s.heap.objs.size+3) (f0:=.none) p5 ⟨s.heap.objs.size+4,[s.heap.objs.size+4,s.heap.objs.size+2,s.heap.objs.size+3,s.heap.objs.size,s.heap.objs.size+1],_,Itz t1 t2 l1 l2,H,rfl,I.kept (t':=s.toks) fun b o e=>k5 _ _ (k4 _ _ (k3 _ _ (k2 _ _ (k1 _ _ e)))),uU (far _ 2 4 (by decide)) (far _ 3 4 (by decide)) (far _ 2 3 (by decide)) (far _ 0 4 (by decide)) (far _ 1 4 (by decide)) (far _ 0 3 (by decide)) (far _ 1 3 (by decide)) (far _ 0 1 (by decide)) (far _ 0 2 (by decide)) (far _ 1 2 (by decide)),
     ⟨p5,k5 _ _ (k4 _ _ p3),⟨_,_,k5 _ _ p4⟩,mQ (k5 _ _ (k4 _ _ (k3 _ _ (k2 _ _ p1)))),mQ (k5 _ _ (k4 _ _ (k3 _ _ p2)))⟩,fun b hb=>?_,q⟩
    have hb':s.heap.objs.size<=b:=by
     simp only[List.mem_cons,List.mem_nil_iff,or_false]at hb
     rcases hb with rfl | rfl | rfl | rfl | rfl<;>first | exact Nat.le_refl _ | exact Nat.le_add_right _ _
    exact I.kB hb' (I.hok.fresh hb')
end
end L2
namespace RS
open PySem PySem.Spec PyProof.Rows L2
def ie:∀ (ds es:List RL.D),ds.length=es.length->(RL.eh ds es).length=ds.length
 | [],[],_=>rfl
 | [],_::_,h=>by cases h
 | _::_,[],h=>by cases h
 | d::ds,e::es,h=>by rw[RL.eh,List.length_cons,List.length_cons,ie ds es (by simpa using h)]
def o9:∀ (ds es:List RL.D) (i:Nat) (d:RL.D),(RL.eh ds es)[i]?=some d->∃ x y,ds[i]?=some x/\es[i]?=some y/\d=.tup [x,y]
 | [],es,i,d,h=>by cases es<;>simp[RL.eh]at h
 | _::_,[],i,d,h=>by simp[RL.eh]at h
 | x::ds,y::es,0,d,h=>by simp[RL.eh]at h;exact⟨x,y,rfl,rfl,h.symm⟩
 | x::ds,y::es,i+1,d,h=>by
  obtain⟨x',y',h1,h2,h3⟩:=o9 ds es i d h;exact⟨x',y',by simpa using h1,by simpa using h2,h3⟩
def sN{K:PySem.W.Frag}(hl:ds.length=es.length)(h1:H l1=some (cV t1 xs))(h2:H l2=some (cV t2 ys))(n1:¬ P l1)(n2:¬ P l2)(r1:af nP K H ds xs)(r2:af nP K H es ys)(hm:∀ b o,P b->H b=some o->c8 o) :
  gH K (Itz t1 t2 l1 l2) (RL.eh ds es) P H where
 go:=fun H' i k hi=>by
  rw[ie ds es hl]at hi;obtain⟨x,e,_⟩:=r1.get (i:=i) (d:=ds[i]) (by simp[]);obtain⟨y,e',_⟩:=r2.get (i:=i) (d:=es[i]'(by lia)) (by simp);exact⟨xs,ys,x,y,k _ _ n1 h1,k _ _ n2 h2,e,e'⟩
 stop:=fun H' k=>⟨xs,ys,k _ _ n1 h1,k _ _ n2 h2,by rw[ie ds es hl,r1.length],by rw[ie ds es hl,hl,r2.length]⟩
 yld:=fun H' i d v H2 k e y=>by
  obtain⟨p,x,w,hp,rfl,rfl,hx,hw⟩:=y;obtain⟨dx,dw,g1,g2,rfl⟩:=o9 ds es i d e;obtain⟨x',g3,g4⟩:=r1.get g1;obtain⟨w',g5,g6⟩:=r2.get g2;rw[hx xs (k _ _ n1 h1)]at g3;rw[hw ys (k _ _ n2 h2)]at g5;cases g3;cases g5;refine⟨ax.bY hp,fun q=>?_⟩
  have re:Rep nP K H' dx x/\Rep nP K H' dw w:=by
   rcases q with q | q
   ·have q:(dx.imm&&(dw.imm&&true))=true:=q;rw[Bool.and_true,Bool.and_eq_true]at q;exact⟨ee hm k g4 q.1,ee hm k g6 q.2⟩
   ·exact⟨g4.same q,g6.same q⟩
  exact⟨p,[x,w],rfl,aR,af.cons (re.1.same (ax.bY hp)) (af.cons (re.2.same (ax.bY hp)) af.nil)⟩
def lU{P:Addr->Prop}{K:PySem.W.Frag}(h:RL.items d=some ds)(r:Rep P K H d v):∃ t l xs,v=.ref l/\H l=some (cV t xs)/\af P K H ds xs/\(t=.l->d=.lst ds):=by
 obtain⟨p,xs,rfl,hp,rs⟩:=hJ h r
 rcases hp with⟨q,rfl⟩ | ⟨q,rfl⟩ | ⟨⟨o,q⟩,rfl⟩
 ·exact⟨.l,p,xs,rfl,q,rs,fun _=>rfl⟩
 ·exact⟨.t,p,xs,rfl,q,rs,fun z=>by cases z⟩
 ·exact⟨.f o,p,xs,rfl,q,rs,fun z=>by cases z⟩
section rules
def tH(hg:Gl X "zip")(hm:X.mg "zip" = none)(ha:SE X cl a a')(hb:SE X cl b b')(hn:noStar a=true)(hn2:noStar b=true):PI' (fun _=>True) X (.Tuple elts kx tp) (.Call (.Name "zip" p) [a,b] [] pos) (tI X.K cl (.zip a' b')):=by
 intro pins s σ H R I h;obtain⟨σD,ds,rv,e,k⟩:=h;obtain⟨x,ea,e⟩:=bind_some e;obtain⟨y,eb,e⟩:=bind_some e;obtain⟨xs,e1,e⟩:=bind_some e;obtain⟨ys,e2,e⟩:=bind_some e;split at e
 ·rename_i hl;cases e;have hpa:=bb ha (bb hb cK (au [] hn2)) (au _ hn);refine BR hg hm hpa (by rw[au _ hn,au _ hn2];rfl) (au [] hn2) pins s σ H R I ?_;refine⟨σD,x,rv,ea,fun v H1 r1=>⟨σD,y,rv.same r1.same,eb,fun u H2 r2=>?_⟩⟩;obtain⟨t1,l1,vs,rfl,h1,p1,c1⟩:=lU e1 (r1.rep.same r2.same);obtain⟨t2,l2,us,rfl,h2,p2,c2⟩:=lU e2 r2.rep;refine⟨t1,t2,l1,l2,vs,us,rfl,h1,h2,k _ _ (r1.same.trans r2.same) ⟨sN hl h1 h2 (fun z=>z) (fun z=>z) p1 p2 eH,fun M P z hP av=>?_⟩⟩;have hP2:=da (r1.same.trans r2.same) hP;unfold RL.oO at z;rw[Bool.and_eq_true]at z
  have notT:∀ (t:SK) l zs,H2 l=some (cV t zs)->t≠.l->¬ P l:=fun t l zs hl ht q=>by
   cases t with
   | l=>exact ht rfl
   | _=>rcases hP2 l _ q hl with⟨_,q⟩ | ⟨_,q⟩ | ⟨_,q⟩<;>cases q
  refine sN hl h1 h2 ?_ ?_ p1 p2 hP2
  ·by_cases ht:t1=.l
   ·exact kh r1 z.1 hP av _ _ (c1 ht) rfl
   ·exact notT t1 l1 vs h1 ht
  ·by_cases ht:t2=.l
   ·refine kh r2 z.2 (fun b q=>?_) (fun j dj vj hj h3 h4=>(av j dj vj hj h3 h4).same r1.same) _ _ (c2 ht) rfl;obtain⟨o,ho,hmu⟩:=hP b q;exact⟨o,r1.same _ _ ho,hmu⟩
   ·exact notT t2 l2 us h2 ht
 ·cases e
end rules
end RS
namespace L2
open PySem PySem.Spec PyProof.Rows
section
end
end L2
namespace RS
open PySem PySem.Spec PyProof.Rows L2
section
def vg{c:Expr}{body:List Stmt}{b:RL.Ss}(hx:X.xe=fun _ _=>False)(hc:ST X cl c c')(hb:SSs X cl M body b):SS X cl M (.While c body [] pos) (.whil c' b):=by
 refine PS.weak (vp (by rw[hx];exact PassesOwn.never) hc hb) fun D σ H h=>?_;obtain⟨σD,r,σD',rv,e,k⟩:=h;refine⟨fun m σ2 H2=>∃ σD2,RVm X.K M σD2 σ2 H2/\Fr' M σ H σ2 H2/\RL.whF (fun σ=>(RL.ev cl σ c').bind RL.truth) (RL.ai cl M b) m σD2=some (r,σD'),⟨_,σD,rv,Fr'.same (ax.refl _),e⟩,?_⟩;rintro m σ2 H2 ⟨σD2,rv2,fr2,hl⟩
 cases m with
 | zero=>rw[RL.whF]at hl;cases hl
 |succ m=>
  obtain⟨t,e1,hl⟩:=bind_some hl;refine⟨σD2,t,rv2.rv0,e1,fun H3 s3=>?_⟩;have fr3:=fr2.trans (Fr'.same (σ:=σ2) s3)
  cases t with
  |true=>
   obtain⟨⟨o,σD3⟩,e2,hl⟩:=bind_some hl;refine⟨fun σ' H'=>∃ m',m'<m+1/\∃ σDx,RVm X.K M σDx σ' H'/\Fr' M σ H σ' H'/\RL.whF (fun σ=>(RL.ev cl σ c').bind RL.truth) (RL.ai cl M b) m' σDx=some (r,σD'),fun _ _ h=>h,σD2,o,σD3,rv2.same s3,e2,?_⟩
   cases o with
   | nx=>exact fun σ' H' rv' fr'=>⟨m,by lia,σD3,rv',fr3.trans fr',hl⟩
   |rt d=>
    cases hl;exact fun σ' H' v H4 rv' fr' sm rp=>k σ' H' v H4 rv' (fr3.trans fr') sm rp
  |false=>
   cases hl;exact k σ2 H3 (rv2.same s3) fr3
end
end RS
namespace L2
open PySem PySem.Spec PyProof.Rows
section
end
section
end
end L2
namespace RS
open PySem PySem.Spec PyProof.Rows L2
section
end
section
variable{st:Stmt}
end
section
variable{X:Cx}
end
end RS
namespace L2
open PySem PySem.Spec PyProof.Rows
def sD{o:Obj}:(o.mapFields f).dict=o.dict:=by
 obtain⟨c,d,dt,sl⟩:=o;cases dt<;>rfl
abbrev Exc(P:Addr->Prop)(e:Addr)(C:Addr)(od:Option Addr)(tb:Bool)(h:Heap):Prop :=
 ∃ oe vs,h.get? e=some oe/\(oe.cls=.ref C/\oe.dict=od)/\oe.data=.fields vs/\vs[2]?=some .none/\¬ P e /\
  ((tb=false/\vs[1]?=some .none)\/∃ T oT ts,vs[1]?=some (.ref T)/\T≠e/\h.get? T=some oT/\oT.data=.fields ts/\ts[3]?=some .none/\¬ P T)
structure Off1(P:Addr->Prop)(fs:List Addr)(h h':Heap):Prop where
 sz:h.objs.size<=h'.objs.size
 keep:∀ b o,P b->b∉fs->h.get? b=some o->h'.get? b=some o
 slot:∀ b o,P b->b∈fs->h.get? b=some o->∃ sl,h'.get? b=some { o with slots:=sl }
def Off1.trans(a:Off1 P fs h h1)(b:Off1 P fs h1 h2):Off1 P fs h h2 where
 sz:=Nat.le_trans a.sz b.sz
 keep:=fun c o p n e=>b.keep c o p n (a.keep c o p n e)
 slot:=fun c o p n e=>by
  obtain⟨sl,e1⟩:=a.slot c o p n e;obtain⟨sl2,e2⟩:=b.slot c _ p n e1;exact⟨sl2,e2⟩
def Off1.rQ(n:¬ P a)(f:Obj->Obj):Off1 P fs h (h.update a f) where
 sz:=by rw[(Heap.SameBut.update ..).1];exact Nat.le_refl _
 keep:=fun b o p _ e=>by rw[Heap.get?_update_other _ _ (show a≠b from fun z=>n (z.symm▸p))];exact e
 slot:=fun b o p _ e=>⟨o.slots,by rw[Heap.get?_update_other _ _ (show a≠b from fun z=>n (z.symm▸p))];exact e⟩
def Off1.ext(o:Obj):Off1 P fs h (h.push o) where
 sz:=by rw[Heap.size_push];exact Nat.le_succ _
 keep:=fun b _ _ _ e=>Heap.get?_push_of_some _ e
 slot:=fun b o _ _ e=>⟨o.slots,Heap.get?_push_of_some _ e⟩
def Off1.slots(x:Heap.SlotsOnly fs h h'):Off1 P fs h h' where
 sz:=Nat.le_of_eq x.1.symm
 keep:=fun b o _ n e=>(x.2.1 b n).trans e
 slot:=fun b o _ _ e=>x.2.2 b o e
section
def og(hfr:A.frames=some (env::outer))(hl:s.heap.FunFrames base (env::outer))(hf:env.frame=some L)(he:s.heap.get? e=some oe)(hc:oe.cls=.ref C/\oe.dict=od)(hd:oe.data=.fields vs)(h2:vs[2]?=some .none)
 (ne:¬ P e)(hP:∀ b,P b->b<s.heap.objs.size)(k:∀ h',Exc P e C od true h'->Off1 P (frs (env::outer)) s.heap h'->Q () { s with heap:=h' }) :
  wpAny M A (do let fr <- frameOf env;let q <- entryPlaceOf L had;let t <- EntryCells.newEntry head fr .none (rawInt L) .none q;setField (.ref e) 1 t) (fun _ s2=>wpAny M A (setFlight (.ref e) none) Q E s2) E s:=by
 have efr:e∉(env::outer).filterMap (·.frame):=fun z=>by
  obtain⟨_,o,ho,hn⟩:=hl.mem z;rw[he]at ho;cases ho;exact hn vs hd
 have z1:1<vs.size:=Nat.lt_trans (by decide) (Array.getElem?_eq_some_iff.mp h2).1;apply wpAny_bind;refine wpAny_frameOf_fun hfr hl hf fun g1 sl=>?_;apply wpAny_bind;refine wpAny_entryPlaceOf fun q hq=>?_;unfold EntryCells.newEntry newFields;apply wpAny_bind;refine wpAny_newObj_type ?_ (hq.sizeOk5 _ _ _ _ _);have e1:g1.get? e=some oe:=(sl.2.1 e efr).trans he;generalize hto:({ cls:=.type "traceback",dict:=none,data:=.fields ([head,.ref L,.none,rawInt L,.none]++(if q.isEmpty then List.replicate 6 Value.none else q)).toArray }:Obj)=to;have e2:(g1.push to).get? e=some oe:=Heap.get?_push_of_some _ e1;have te:g1.objs.size≠e:=Nat.ne_of_gt (Heap.lt_size e1);refine wpAny_setField e2 hd z1 ?_;have d3:=Obj.data_mapFields hd (·.setIfInBounds 1 (Value.ref g1.objs.size));have e3:=Heap.get?_update_self (Obj.mapFields (·.setIfInBounds 1 (Value.ref g1.objs.size))) e2 (Obj.isFreed_of_fields d3)
 have tod:to.data=.fields ([head,.ref L,.none,rawInt L,.none]++(if q.isEmpty then List.replicate 6 Value.none else q)).toArray:=by rw[<-hto]
 have t3:=(Heap.get?_update_other (g1.push to) (Obj.mapFields (·.setIfInBounds 1 (Value.ref g1.objs.size))) (Ne.symm te)).trans (Heap.get?_push_size g1 (by rw[<-hto];rfl));unfold setFlight;apply wpAny_bind;refine wpAny_field e3 d3 (x:=.ref g1.objs.size) (by simp[z1]) ?_;rw[if_pos (show(Value.ref g1.objs.size != Value.none)=true from by simp)];refine wpAny_setField t3 tod (by simp only[List.size_toArray,List.length_append,List.length_cons,List.length_nil]<;>omega) (k _ ?_ ?_)
 ·refine⟨_,_,(Heap.get?_update_other _ _ te).trans e3,⟨(Obj.cls_mapFields _ _).trans hc.1,sD.trans hc.2⟩,d3,by rw[Array.getElem?_setIfInBounds_ne (by decide)];exact h2,ne,.inr ⟨g1.objs.size,_,_,by simp[z1],te,Heap.get?_update_self _ t3 (Obj.isFreed_of_fields (Obj.data_mapFields tod _)),Obj.data_mapFields tod _,?_,fun z=>?_⟩⟩
  ·rw[Array.getElem?_setIfInBounds_self_of_lt (by simp only[List.size_toArray,List.length_append,List.length_cons,List.length_nil]<;>omega)];rfl
  ·have:=hP _ z;rw[sl.1]at this;exact Nat.lt_irrefl _ this
 ·refine(((Off1.slots sl).trans (Off1.ext _)).trans (Off1.rQ ne _)).trans (Off1.rQ (fun z=>?_) _);have:=hP _ z;rw[sl.1]at this;exact Nat.lt_irrefl _ this
def l9(hfr:A.frames=some (env::outer))(hl:s.heap.FunFrames base (env::outer))(hf:env.frame=some L)(x:Exc P e C od tb s.heap)(hP:∀ b,P b->b<s.heap.objs.size)
 (k:∀ h',Exc P e C od true h'->Off1 P (frs (env::outer)) s.heap h'->Q () { s with heap:=h' }) :
  wpAny M A (noteFrame (.ref e) env) (fun _ s2=>wpAny M A (setFlight (.ref e) none) Q E s2) E s:=by
 obtain⟨oe,vs,he,hc,hd,h2,ne,x⟩:=x;unfold noteFrame;simp only[hf];apply wpAny_bind
 rcases x with⟨_,h1⟩ | ⟨T,oT,ts,h1,hTe,hT,hdT,h3,nT⟩
 ·refine wpAny_field he hd h1 ?_;exact og hfr hl hf he hc hd h2 ne hP k
 ·refine wpAny_field he hd h1 ?_;apply wpAny_bind;refine wpAny_field hT hdT h3 ?_;apply wpAny_bind;refine wpAny_setField hT hdT (Array.getElem?_eq_some_iff.mp h3).1 ?_;have oth:∀ b,b≠T->(s.heap.update T (Obj.mapFields (·.setIfInBounds 3 Value.none))).get? b=s.heap.get? b:=fun b hb=>Heap.get?_update_other _ _ (Ne.symm hb);have up:Off1 P (frs (env::outer)) s.heap (s.heap.update T (Obj.mapFields (·.setIfInBounds 3 Value.none))):=Off1.rQ nT _
  have hl':=hl.of_keeps fun b o hb hn=>⟨o,(oth b fun z=>by
   rw[z,hT]at hb;cases hb
   exact hn ts hdT).trans hb,rfl⟩
  exact og hfr hl' hf ((oth e (Ne.symm hTe)).trans he) hc hd h2 ne (fun b hb=>Nat.lt_of_lt_of_le (hP b hb) up.sz) fun h' x' o'=>k h' x' (up.trans o')
def uI(hfr:A.frames=some (env::outer))(hl:s.heap.FunFrames base (env::outer))(hf:env.frame=some L)(x:Exc P e C od tb s.heap)(hP:∀ b,P b->b<s.heap.objs.size)
 (k:∀ h',Exc P e C od true h'->Off1 P (frs (env::outer)) s.heap h'->Q () { s with heap:=h' }):wpAny M A (leaving env (.ref e)) Q E s:=by
 exact wpAny_bind (l9 hfr hl hf x hP k)
end
def bu.there(x:bu P w H h a o):∃ u,h.get? a=some u:=by
 cases o with
 | lst xs=>obtain⟨_,_,_,_,e⟩:=x;exact⟨_,e⟩
 | tup xs=>obtain⟨_,_,_,o,e,_⟩:=x;exact⟨_,e⟩
 | dK kvs=>obtain⟨_,_,_,_,o,_,_,e,_⟩:=x;exact⟨_,e⟩
 | dT kvs=>obtain⟨_,_,_,_,o,_,_,e,_⟩:=x;exact⟨_,e⟩
 | set S n=>obtain⟨o,_,_,_,e,_⟩:=x;exact⟨_,e⟩
 | ins C dx fs=>obtain⟨_,_,_,e,_⟩:=x;exact⟨_,e⟩
 | own y=>exact x
 | xd fs=>obtain⟨_,⟨_,_,_,e,_⟩,_⟩:=x;exact⟨_,e⟩
 | rng lo hi=>obtain⟨_,_,_,e⟩:=x;exact⟨_,e⟩
 | frz ob u=>exact⟨_,x.1⟩
 | tbl ps=>exact⟨_,x⟩
 | met f y=>exact⟨_,x⟩
 | ext φ=>exact x.2.1
abbrev dX(h:Heap)(H:Hp)(b:Addr):Prop:=(∃ o,h.get? b=some o)\/H b≠none
def Exc.mono(x:Exc P e C od tb h)(k:∀ b,P' b->P b):Exc P' e C od tb h:=by
 obtain⟨oe,vs,h1,h2,h3,h4,h5,h6⟩:=x;refine⟨oe,vs,h1,h2,h3,h4,fun z=>h5 (k _ z),h6.imp (fun z=>z) fun⟨T,oT,ts,a1,a2,a3,a4,a5,a6⟩=>⟨T,oT,ts,a1,a2,a3,a4,a5,fun z=>a6 (k _ z)⟩⟩
abbrev CXE(P:Program)(w:World):CXT:=fun outer H s E e s'=>∃ x C od H',e=.ref x/\E (.ref C) od H'/\s'.os=s.os/\AllBare s'.gens/\Un (frs outer) [] H H' s.heap s'.heap/\HOk P w H' s'.heap/\Exc (dX s.heap H') x C od true s'.heap
section
def Inv.old(I:Inv X pins σ H s)(hex:X.ex=[])(e:X.s₀.heap.get? b=some o):∃ o',s.heap.get? b=some o':=I.base.there b o e (by rw[hex];simp)
def j9(I:Inv X pins σ H s)(hst:X.stack=X.env::X.outer)(hfrm:X.env.frame=some X.env.locals)(hex:X.ex=[])(x:Exc (dX X.s₀.heap H) e C od tb s.heap)(hE:EE (.ref C) od H)(hA:A.frames=some (X.env::X.outer)) :
  wpAny (model X.prog X.w) A (leaving X.env (.ref e)) (fun _ s2=>CXE X.prog X.w X.outer X.H₀ X.s₀ EE (.ref e) s2) E' s:=by
 have hl:=I.stack;rw[hst]at hl
 have hfr:∀ b∈frs (X.env::X.outer),H b=none:=by
  have:=I.iR;rw[hst]at this;exact this
 have hP:∀ b,dX X.s₀.heap H b->b<s.heap.objs.size:=fun b hb=>by
  rcases hb with⟨o,e⟩ | hb
  ·exact Nat.lt_of_lt_of_le (Heap.lt_size e) I.sz
  ·obtain⟨o,ho⟩:=Option.ne_none_iff_exists'.mp hb;exact I.hok.lt ho
 refine uI hA hl hfrm x hP fun h' x' o'=>?_;have fsE:X.fs=frs X.outer:=rfl
 have mem:∀ b o,X.s₀.heap.get? b=some o->b∉frs X.outer->b∉frs (X.env::X.outer):=fun b o e n z=>by
  unfold frs at z;rw[List.filterMap_cons,hfrm]at z;rcases List.mem_cons.mp z with z | z
  ·have h1:=Heap.lt_size e;have h2:=I.ok.above;rw[z]at h1;exact Nat.lt_irrefl _ (Nat.lt_of_lt_of_le h1 h2)
  ·exact n z
 have mem2:∀ b,b∈frs X.outer->b∈frs (X.env::X.outer):=fun b z=>by
  unfold frs;rw[List.filterMap_cons,hfrm];exact List.mem_cons_of_mem _ z
 have nex:∀ b:Addr,b∉X.ex:=fun b=>by rw[hex];simp
 refine⟨e,C,od,H,rfl,hE,I.os,I.bare,⟨fun b o q n hb _=>?_,fun b o q n hb _=>?_,fun b o q n _=>I.base.free b o q n (nex b),fun b o q _=>?_,I.base.dJ,I.base.cI,I.base.dH⟩,fun a o q=>?_,x'⟩
 ·exact o'.keep b o (.inl ⟨o,q⟩) (mem b o q hb) (I.base.keep b o q n hb (nex b))
 ·obtain⟨sl,q2⟩:=I.base.slot b o q n hb (nex b);obtain⟨sl2,q3⟩:=o'.slot b _ (.inl ⟨o,q⟩) (mem2 b hb) q2;exact⟨sl2,q3⟩
 ·obtain⟨o1,q1⟩:=I.base.there b o q (nex b);by_cases hb:b∈frs (X.env::X.outer)
  ·obtain⟨sl,q2⟩:=o'.slot b _ (.inl ⟨o,q⟩) hb q1;exact⟨_,q2⟩
  ·exact⟨_,o'.keep b _ (.inl ⟨o,q⟩) hb q1⟩
 ·refine(I.hok a o q).bQ (fun b u hb r=>?_) (fun _ z=>z) fun _ _ z=>z
  have hn:H b≠none:=by
   rcases hb with rfl | hb
   ·rw[q];exact fun z=>nomatch z
   ·rw[hb];exact fun z=>nomatch z
  exact o'.keep b u (.inr hn) (fun z=>hn (hfr b z)) r
def Inv.refused(I:Inv X pins σ H s)(hex:X.ex=[])(h:CXE X.prog X.w X.stack H s E e s'):∃ x C od H',e=.ref x/\E (.ref C) od H'/\Inv X pins σ H' s'/\Exc (dX X.s₀.heap H') x C od true s'.heap/\Exc (dX s.heap H') x C od true s'.heap/\Un (frs X.stack) [] H H' s.heap s'.heap:=by
 obtain⟨x,C,od,H',rfl,hE,os,bare,un,hok,ex⟩:=h;obtain⟨hh,g,d,t,os'⟩:=s';obtain rfl:os'=s.os:=os;refine⟨x,C,od,H',rfl,hE,I.call (h':=hh) (g':=g) (d':=d) (t':=t) (ch:=[]) un hok bare (fun b z=>absurd z (by simp)),ex.mono fun b hb=>?_,ex,un⟩;rcases hb with⟨o,q⟩ | hb
 ·exact .inl (I.old hex q)
 ·exact .inr hb
def mW(hok:HOk P w H h)(m:Heap.MadeExcOf h h' e (.ref C) vs):Exc (dX h H) e C none false h':=by
 obtain⟨t,he,_,_⟩:=m.there;refine⟨_,_,he,⟨rfl,rfl⟩,rfl,rfl,fun z=>?_,.inl ⟨rfl,rfl⟩⟩;have hn:=m.new;rcases z with⟨o,q⟩ | z
 ·rw[hn]at q;cases q
 ·obtain⟨o,ho⟩:=Option.ne_none_iff_exists'.mp z;obtain⟨u,q⟩:=(hok e o ho).there;rw[hn]at q;cases q
def Inv.newExc(I:Inv X pins σ H s)(hex:X.ex=[])(m:Heap.MadeExcOf s.heap h' e (.ref C) vs):Inv X pins σ H { s with heap:=h' }/\Exc (dX X.s₀.heap H) e C none false h' :=
 ⟨I.kept m.keeps,(mW I.hok m).mono fun b hb=>hb.imp (fun⟨o,q⟩=>I.old hex q) fun z=>z⟩
end
open PySem.W
section
variable{K:PySem.W.Frag}
structure mV(K:PySem.W.Frag)(D:Addr):Prop where
 ga:findIn K (.ref D) "__getattribute__" = some (some (.builtin "BaseException.__getattribute__"))
 gn:findIn K (.ref D) "__getattr__" = some none
 fo:findObj K D none "__class__" = some (.bind (.builtin "getset_descriptor.__get__") (.builtin "object.__class__"))
 mo:mroIn K D (.type "object")=some true
 mb:subIn K (.ref D) (.type "BaseException")=some true
 is:(clsIn K D).isSome=true
def p7:takesIn K (.builtin "object.__class__")=some true:=by kernel_rfl
def qT(h:findObj K D none "__class__" = some (.bind (.builtin "getset_descriptor.__get__") (.builtin "object.__class__"))):findObj K D od "__class__" = some (.bind (.builtin "getset_descriptor.__get__") (.builtin "object.__class__")):=by
 unfold findObj at h ⊢;obtain⟨cd,hcd,h⟩:=Option.bind_eq_some_iff.mp h;obtain⟨attr,ha,h⟩:=Option.bind_eq_some_iff.mp h;obtain⟨get,hg,h⟩:=Option.bind_eq_some_iff.mp h;obtain⟨data,hd,h⟩:=Option.bind_eq_some_iff.mp h;rw[hcd,Option.bind_some,ha,Option.bind_some,hg,Option.bind_some,hd,Option.bind_some]
 cases data with
 |true=>
  cases attr with
  | none=>cases get<;>cases hd
  |some a=>
   cases get with
   | none=>cases hd
   | some g=>exact h
 |false=>
  exfalso;obtain⟨own,ho,h⟩:=Option.bind_eq_some_iff.mp (show((PySem.W.ownOf cd none "__class__").bind _)=_ from h)
  have hn:own=none:=by
   unfold PySem.W.ownOf at ho;split at ho<;>exact(Option.some.inj ho).symm
  subst hn;dsimp only at h;split at h
  ·cases h
  ·cases attr with
   | none=>cases h
   |some a=>
    cases get with
    |none=>
     dsimp only at h;split at h
     ·cases h
     ·cases h
    |some g=>
     cases h;dsimp only at hd;rw[p7]at hd;cases hd
def Ao(F:mV K D)(X:K.In s.heap)(I:InstAt s.heap x ox D od)(h:Q (some (.ref D)) { s with toks:=s.toks+1 }):wpAny (model prog w) A (getAttr? (.ref x) "__class__") Q E s:=by
 have L0:=I.type (M:=model prog w);have L1:=looks_findIn (M:=model prog w) X F.ga;have L2:=looks_findIn (M:=model prog w) X F.gn;have L3:=looks_find (M:=model prog w) X I (qT F.fo);have L4:=looks_subIn (M:=model prog w) X F.mb;have cg:=fun(A:Around) (R:Result->Shared->Prop) (t:Nat)=>class_get (prog:=prog) (w:=w) (A:=A) (R:=R) (tp:=.ref D) (s:={ s with toks:=t }) X I F.mo;obtain⟨hh,g,d,t,os⟩:=s;refine wpAny_bind (wpAny_mkText (wpAny_bind (wpAny_attempt (wpAny_holding (wpAny_bind (L0.at (wpAny_bind (L1.at ?_))))))))
 have n0:¬ ((onTheHeap (Value.ref D)&&(Value.builtin "BaseException.__getattribute__" == Value.builtin "object.__getattribute__"))=true):=by
  have:(Value.builtin "BaseException.__getattribute__" == Value.builtin "object.__getattribute__")=false:=by decide +kernel
  exact Bool.false_ne_true
 dsimp only;refine wpAny_bind (L2.at ?_);refine wpAny_bind (wpAny_attempt (wpAny_holding (wpAny_bind (wpAny_of_eq (PySem.F.attrBase_ValueError.ga.bind (.ref x)) ?_))));refine wpAny_call (codeAny_call_builtin PySem.F.attrBase_ValueError.ga.plain PySem.F.entry_bexc_ga ?_)
 have hk:builtinKind "BaseException.__getattribute__" = some .slot:=by decide +kernel
 have hsplit:splitId "BaseException.__getattribute__" = some ("BaseException", "__getattribute__"):=by decide +kernel
 simp only[checkBuiltinCall,hk,hsplit]
 repeat (any_goals (first | assumption | exact L0 | (with_reducible refine L0.at ?_) | (with_reducible refine L4.at ?_) | (with_reducible refine L3.at ?_) | (with_reducible refine wpAny_bind (L3.at ?_)) | wp_step))
 refine cg _ _ _ ?_;refine wpAny_pure ?_;exact wpAny_of_eq (handedOut_of rfl) (wpAny_pure h)
def oQ(F:mV K D):KitX K (.ref x) (.ref D) (fun h=>InstAt h x ox D od) where
 ty:=fun _ _ _ I=>I.type
 it:=fun M h X _=>by
  have z:=F.is;unfold clsIn at z;split at z
  ·rename_i ho;intro A' Q' E' s' k q;exact wpAny_bind (wpAny_loadPart (k _ _ (X _ _ ho)) (wpAny_pure q))
  ·cases z
 ne:=fun h tp dd its n sl X htp=>by
  refine Bool.eq_false_iff.mpr fun q=>?_;have e:=Value.ref.inj (beq_iff_eq.mp q);subst e;have z:=F.is;unfold clsIn at z;split at z
  ·rename_i ho;cases(X _ _ ho).symm.trans htp
  ·cases z
 ca:=fun X I k=>Ao F X I k
end
section
def kH(h:PGs X es t)(hn:(assignEach es X.env).length=n)(hst:(assignEach es X.env).findIdx? (·.1)=none):PG X (.Tuple es k pos) (kG X.K n t):=by
 intro pins s σ H v u Q I r hw;obtain⟨a,xs,e1,hq,hl,hw⟩:=hw;subst e1;cases r;obtain⟨its,rv,ht,hz⟩:=I.tuple hq
 have hsz:(assignEach es X.env).length=its.toArray.size:=by rw[hn,<-hl,rv.length,List.size_toArray]
 rw[PyProof.Rows.assign_Tuple];refine wpAny_bind (wpAny_standAt ?_);unfold unpack;rw[hsz,hst];refine wpAny_bind (wpAny_holding (qQ I.hd ht fun h' hx=>?_));exact h pins _ σ H xs _ Q (I.kept (t':=s.toks) fun b o e=>hx b o (Nat.ne_of_lt (Heap.lt_size e)) e) (by simpa using rv) hw
def kD(h:PGs X es t)(hn:(assignEach es X.env).length=n)(hst:(assignEach es X.env).findIdx? (·.1)=none):PG X (.Tuple es k pos) (RS.l7 X.K n t):=by
 intro pins s σ H v u Q I r hw;obtain⟨a,xs,e1,hq,hl,hw⟩:=hw;subst e1;cases r;obtain⟨its,rv,ht,hz⟩:=I.list hq
 have hsz:(assignEach es X.env).length=its.toArray.size:=by rw[hn,<-hl,rv.length,List.size_toArray]
 rw[PyProof.Rows.assign_Tuple];refine wpAny_bind (wpAny_standAt ?_);unfold unpack;rw[hsz,hst];refine wpAny_bind (wpAny_holding (qL I.hd ht.isList fun h' hx=>?_));exact h pins _ σ H xs _ Q (I.kept (t':=s.toks) fun b o e=>hx b o (Nat.ne_of_lt (Heap.lt_size e)) e) (by simpa using rv) hw
end
section
def PA.nox(h:PA X.nox es t):PA X es t:=fun pos pins s σ H Q I hw =>
 wpAny_mono (h pos pins s σ H Q (I.d6 _) hw) (fun _ _ ⟨v,H',I',r,q⟩=>⟨v,H',I'.cx,r,q⟩) fun _ _ z=>False.elim z
def PS.nox{st:Stmt}(h:PS X.nox st t):PS X st t:=fun pins s σ H D I hw =>
 wpAny_mono (h pins s σ H D (I.d6 _) hw) (fun _ _ q=>q.cx) fun _ _ z=>False.elim z
def PG.nox(h:PG X.nox tg t):PG X tg t:=fun pins s σ H v u Q I r hw =>
 wpAny_mono (h pins s σ H v u Q (I.d6 _) r hw) (fun _ _ ⟨σ',H',I',q⟩=>⟨σ',H',I'.cx,q⟩) fun _ _ z=>False.elim z
def PI.nox(h:PI X.nox tg iter wi):PI X tg iter wi:=fun pins s σ H R I hw =>
 wpAny_mono (h pins s σ H R (I.d6 _) hw) (fun _ _ h1=>wpAny_mono h1 (fun _ _ ⟨it,fp,tn,J,H',e,I',T,t0,f,r⟩=>⟨it,fp,tn,J,H',e,I'.cx,T,t0,f,r⟩) fun _ _ z=>False.elim z) fun _ _ z=>False.elim z
def nV{CX:CXT}{k:Nat}{f:Addr}{fd:FuncData}{ps:List Str}{sp:Sp}{EX:St->XK}{x:Str}{p pos:Pos}{e:Expr}{es:List Expr}{t:TA}(F:dz X.prog X.w X.K X.mg X.base CX k f fd ps sp)(hr:bP k X.A)(hg:Gl X x)(hm:X.mg x=some (.ref f))(hk:PySem.W.keepIn X.K (.ref f)=true)
 (hb:Binds X.K fd ps [])(hx:∀ pins σ H s e s',Inv X pins σ H s->CX X.stack H s (EX σ) e s'->X.xe e s')(ha:PA X (e::es) t)(hdb:(x == ("__debug__" : Str))=false)(he:starEach (e::es) X.env=(false,eval e X.env)::starEach es X.env)(hpl:(backTo pos (starEach es X.env)).any (·.1)=false) :
  PE X (.Call (.Name x p) (e::es) [] pos) (fun σ H Q=>t σ H fun vs H1=>sp vs H1 Q (EX σ)):=by
 intro pins s σ H Q I h;refine wpAny_Call_Name_kw (fm I hg hm ?_ hdb);refine PySem.W.callWith_K (h₀:=X.base) I.ok.mod.kin hk (thn (ha pos pins s σ H _ I h) fun us s1 ⟨vs,H1,I1,r,q⟩=>⟨I1.kIn,?_⟩) he hpl
 have hl:us.length=ps.length:=by rw[<-r.length];exact F.len _ _ _ _ q
 have hbb:=hb s1 us I1.kIn (by rw[List.append_nil];exact hl);rw[List.append_nil]at hbb;refine wpAny_call (codeAny_mono (F.run X.A X.stack s1 H1 ⟨us,[]⟩ us vs Q (EX σ) hr I1.vi hbb r q) fun r s' hq=>?_)
 cases r with
 | error e=>exact hx pins σ H1 s1 e s' I1 hq
 |ok fl=>
  cases fl with
  | ret u=>exact I1.after hq
  | next=>exact False.elim hq
  | brk=>exact False.elim hq
  | cont=>exact False.elim hq
end
end L2
namespace RS
open PySem PySem.Spec PyProof.Rows L2
abbrev CO(K:PySem.W.Frag)(x:Str)(C:Addr)(od:Option Addr)(H:Hp):Prop:=Cls K (RL.baseOf x) C/\gU H (RL.fR x) od
abbrev spX(K:PySem.W.Frag)(cl:RL.Cl)(f:Nat):Sp:=fun vs H _ E=>∃ ds x,af nP K H ds vs/\RL.clX cl f ds=some x/\∀ C od H',CO K x C od H'->ax H H'->E (.ref C) od H'
abbrev tXE(K:PySem.W.Frag)(cl:RL.Cl)(EX:L2.St->XK)(e:RL.E):TE:=fun σ H _=>∃ σD x,RV0 K σD σ H/\RL.evX cl σD e=some x/\∀ C od H1,CO K x C od H1->ax H H1->EX σ (.ref C) od H1
abbrev tXA(K:PySem.W.Frag)(cl:RL.Cl)(EX:L2.St->XK)(es:RL.Es):TA:=fun σ H _=>∃ σD x,RV0 K σD σ H/\RL.iC cl σD es=some x/\∀ C od H1,CO K x C od H1->ax H H1->EX σ (.ref C) od H1
abbrev RE(X:Cx)(EX:L2.St->XK)(cl:RL.Cl)(e:Expr)(e':RL.E):Prop:=PE X e (tXE X.K cl EX e')
abbrev RA(X:Cx)(EX:L2.St->XK)(cl:RL.Cl)(es:List Expr)(es':RL.Es):Prop:=PA X es (tXA X.K cl EX es')
abbrev tXS(K:PySem.W.Frag)(M:List Nat)(EX:L2.St->XK)(r:RL.St->Option (Str × RL.St)):TS:=fun _ σ H=>∃ σD x σD',RVm K M σD σ H/\r σD=some (x,σD')/\∀ σ1 H1 C od,CO K x C od H1->RVm K M σD' σ1 H1->Fr' M σ H σ1 H1->EX σ1 (.ref C) od H1
abbrev RZ(X:Cx)(EX:L2.St->XK)(cl:RL.Cl)(M:List Nat)(st:Stmt)(s:RL.S):Prop:=PS X st (tXS X.K M EX (RL.la cl M s))
abbrev RZs(X:Cx)(EX:L2.St->XK)(cl:RL.Cl)(M:List Nat)(st:List Stmt)(s:RL.Ss):Prop:=PSs X st (tXS X.K M EX (RL.bI cl M s))
section
variable{st:Stmt}
def bg(h:∀ σD,RL.evX cl σD e'=none):RE X EX cl e e':=fun pins s σ H Q I ⟨σD,x,_,z,_⟩=>by
 rw[h]at z;cases z
def jh(h:∀ σD,RL.la cl M s' σD=none):RZ X EX cl M st s':=fun pins s σ H Q I ⟨σD,x,_,_,z,_⟩=>by
 rw[h]at z;cases z
def Aa:RA X EX cl es .nil:=fun pos pins s σ H Q I ⟨σD,x,_,z,_⟩=>by
 cases z
def yD(he:SE X cl e e')(hx:RE X EX cl e e')(hr:RA X EX cl es es')(hs:starEach (e::es) X.env=(false,eval e X.env)::starEach es X.env):RA X EX cl (e::es) (.cons e' es'):=by
 intro pos pins s σ H Q I h;obtain⟨σD,x,rv,z,k⟩:=h;rw[RL.iC]at z
 cases hev:RL.ev cl σD e' with
 |some d=>
  rw[hev]at z;exact bb he hr hs pos pins s σ H Q I ⟨σD,d,rv,hev,fun v H1 r1=>⟨σD,x,rv.same r1.same,z,fun C od H2 hc sm=>k C od H2 hc (r1.same.trans sm)⟩⟩
 |none=>
  rw[hev]at z;exact bb hx hr hs pos pins s σ H Q I ⟨σD,x,rv,z,k⟩
def yV(F:dz X.prog X.w X.K X.mg X.base (CXE X.prog X.w) k fa fd ps (spX X.K cl f))(hr:bP k X.A)(hg:Gl X x)
 (hm:X.mg x=some (.ref fa))(hk:PySem.W.keepIn X.K (.ref fa)=true)(hb:Binds X.K fd ps [])(hx:∀ pins σ H s e s',Inv X pins σ H s->CXE X.prog X.w X.stack H s (EX σ) e s'->X.xe e s')(he:SEs X cl (e::es) es')(ha:RA X EX cl (e::es) es')(hdb:(x == ("__debug__" : Str))=false)(hn:noStar e=true)(hns:es.all noStar=true) :
  RE X EX cl (.Call (.Name x p) (e::es) [] pos) (.call f es'):=by
 intro pins s σ H Q I h;obtain⟨σD,y,rv,z,k⟩:=h;rw[RL.evX]at z
 cases hev:RL.evs cl σD es' with
 |some ds=>
  rw[hev]at z;exact nV F hr hg hm hk hb hx he hdb (au es hn) (cB hns) pins s σ H Q I ⟨σD,ds,rv,hev,fun vs H1 s1 r1=>⟨ds,y,r1,z,fun C od H2 hc sm=>k C od H2 hc (s1.trans sm)⟩⟩
 |none=>
  rw[hev]at z;exact nV F hr hg hm hk hb hx ha hdb (au es hn) (cB hns) pins s σ H Q I ⟨σD,y,rv,z,k⟩
def m5{s':RL.S}{g:Ends->L2.St->VK}(h:PS X st (fun D σ H=>tXE X.K cl EX e' σ H (g D σ)))(he:∀ σD,RL.la cl M s' σD=(RL.evX cl σD e').map fun x=>(x,σD)):RZ X EX cl M st s':=by
 refine PS.weak h fun D σ H h=>?_;obtain⟨σD,x,σD',rv,z,k⟩:=h;rw[he]at z;obtain⟨y,z1,z2⟩:=map_some z;cases z2;exact⟨σD,x,rv.rv0,z1,fun C od H1 hc sm=>k σ H1 C od hc (rv.same sm) (Fr'.same sm)⟩
def x4:RZs X EX cl M sts .nil:=fun pins s σ H Q I ⟨σD,x,_,_,z,_⟩=>by
 cases z
def yt:RZs X EX cl M sts (.opn j e' r):=fun pins s σ H Q I ⟨σD,x,_,_,z,_⟩=>by
 cases z
def yy:RZs X EX cl M sts (.act i g tbl a es):=fun pins s σ H Q I ⟨σD,x,_,_,z,_⟩=>by
 cases z
def uO:RZs X EX cl M sts (.tell i f es t a r):=fun pins s σ H Q I ⟨σD,x,_,_,z,_⟩=>by
 cases z
def wj(h1:SS X cl M st s)(h2:RZ X EX cl M st s)(h3:RZs X EX cl M sts r):RZs X EX cl M (st::sts) (.cons s r):=by
 intro pins sh σ H D I h;obtain⟨σD,x,σD',rv,z,k⟩:=h;rw[RL.bI]at z
 cases hev:RL.evS cl M s σD with
 |some p=>
  obtain⟨o,σ1⟩:=p;rw[hev]at z
  cases o with
  | nx=>exact eB h1 h3 pins sh σ H D I ⟨σD,.nx,σ1,rv,hev,fun σ2 H2 rv2 fr2=>⟨σ1,x,σD',rv2,z,fun σ3 H3 C od hc rv3 fr3=>k σ3 H3 C od hc rv3 (fr2.trans fr3)⟩⟩
  | rt d=>cases z
 |none=>
  rw[hev]at z;exact eB h2 h3 pins sh σ H D I ⟨σD,x,σD',rv,z,k⟩
def C4(hc:ST X cl c c')(ha:RZs X EX cl M a a')(hb:RZs X EX cl M b b'):RZ X EX cl M (.If c a b pos) (.ife c' a' b'):=by
 refine PS.weak (rP hc ha hb) fun D σ H h=>?_;obtain⟨σD,x,σD',rv,z,k⟩:=h;obtain⟨t,z1,z2⟩:=bind_some z;refine⟨σD,t,rv.rv0,z1,fun H1 sm=>?_⟩;have kk:=fun σ1 H2 C od hc r f=>k σ1 H2 C od hc r ((Fr'.same sm).trans f)
 cases t with
 | true=>exact dU ⟨σD,x,σD',rv.same sm,z2,kk⟩
 | false=>exact eC ⟨σD,x,σD',rv.same sm,z2,kk⟩
end
section
def rB(h:RL.fX f fx tg (d::ds) σ=some p):d.imm=true/\∃ σ1,RL.aW tg d σ=some σ1 /\
  ((∃ σ2,f σ1=some (.nx,σ2)/\RL.fX f fx tg ds σ2=some p)\/fx σ1=some p):=by
 rw[RL.fX]at h;by_cases him:d.imm=true
 case neg=>rw[if_neg him]at h;cases h
 rw[if_pos him]at h;obtain⟨σ1,h1,h⟩:=bind_some h;refine⟨him,σ1,h1,?_⟩
 cases hf:f σ1 with
 | none=>rw[hf]at h;exact .inr h
 |some q=>
  obtain⟨o,σ2⟩:=q;rw[hf]at h
  cases o with
  | nx=>exact .inl ⟨σ2,rfl,h⟩
  | rt d=>cases h
def A3(hp:PassesOwn (model X.prog X.w) X.A X.env X.xe)(hc:X.calm=true)(hi:SI X cl tgE iter it)(hg:PG X tgE (gT X.K tg))(hb:SSs X cl M body b)(hbx:RZs X EX cl M body b)(hs:∀ x,foldedSetIterable iter X.env x=pure x)(hav:RL.oO M it=true)(hM:∀ i∈tg,M.contains i=false) :
  RZ X EX cl M (.For tgE iter body [] pos) (.forr tg it b):=by
 have both:PSs X body (fun D σ H=>tS X.K M (RL.ai cl M b) D σ H\/tXS X.K M EX (RL.bI cl M b) D σ H):=fun pins s σ H D I h=>h.elim (hb pins s σ H D I) (hbx pins s σ H D I);refine PS.weak (uF hp hc hi hg both hs) fun D σ H h=>?_;obtain⟨σD,x,σD',rv,e,k⟩:=h;obtain⟨ds,e1,e2⟩:=bind_some e;refine⟨σD,ds,rv.rv0,e1,fun J H1 s1 src=>?_⟩
 have ok:=src.2 M (ba M σ) hav rv.vI fun j dj vj hj h1 h2=>by
  obtain⟨v',h3,h4⟩:=rv.val j dj h1;rw[h2]at h3;cases h3;rw[if_neg (by rw[hj];decide)]at h4;exact h4
 refine⟨fun i m σ2 H2=>∃ σD2,m=ds.length-i/\i<=ds.length/\RVm X.K M σD2 σ2 H2/\Fr' M σ H1 σ2 H2/\RL.fX (RL.ai cl M b) (RL.bI cl M b) tg (ds.drop i) σD2=some (x,σD'),⟨_,σD,rfl,Nat.zero_le _,rv.same s1,Fr'.same (ax.refl _),e2⟩,?_⟩;rintro i m σ2 H2 ⟨σD2,rfl,hi2,rv2,fr2,hl⟩;have off:=fun b o n e=>(fr2.1 b o e n).1;by_cases hlt:i<ds.length
 ·refine .inr ⟨ok.go H2 i off hlt,fun σ' H'=>∃ m',m'<ds.length-i/\∃ σD2,m'=ds.length-(i+1)/\i+1<=ds.length/\RVm X.K M σD2 σ' H'/\Fr' M σ H1 σ' H'/\RL.fX (RL.ai cl M b) (RL.bI cl M b) tg (ds.drop (i+1)) σD2=some (x,σD'),fun σ' H' z=>z,fun y H3 yl=>?_⟩;rw[List.drop_eq_getElem_cons hlt]at hl;obtain⟨him,σ3,h1,h2⟩:=rB hl;obtain⟨s3,rp⟩:=ok.yld H2 i ds[i] y H3 off (by simp[]) yl;obtain⟨dv,vs,q1,q2,q3,q4,q5⟩:=qA h1 (rp (.inl him));refine q5 _ _ ?_;obtain⟨rv3,as3⟩:=(rv2.same s3).cj hM q2 (q4 him) q3
  have fr3:Fr' M σ H1 (cM tg vs σ2) H3:=⟨fun b o e n=>⟨s3 _ _ (fr2.1 b o e n).1,by rw[as3];exact(fr2.1 b o e n).2⟩,fun j hj=>(jw hM hj).trans (fr2.2 j hj)⟩
  rcases h2 with⟨σ4,h2,h3⟩ | h2
  ·exact .inl ⟨σ3,.nx,σ4,by rw[q1];exact rv3,h2,fun σ' H' rv' fr'=>⟨_,by lia,σ4,rfl,hlt,rv',fr3.trans fr',h3⟩⟩
  ·exact .inr ⟨σ3,x,σD',by rw[q1];exact rv3,h2,fun σ' H' C od hc rv' fr'=>k σ' H' C od hc rv' (((Fr'.same s1).trans fr3).trans fr')⟩
 ·have e:i=ds.length:=by lia
  subst e;rw[List.drop_length,RL.fX]at hl;cases hl
end
end RS
namespace L2
open PySem PySem.Spec PyProof.Rows
open RS (VE)
def yu{K:PySem.W.Frag}(X:K.In h)(q:PySem.W.excIn K C VE "ValueError.__new__" = true):∃ bm N nm qn bs hdct sn sub ab col dd k0 k1 k2 k3 k5 mN,h.get? C=some (excClassObj nm qn C N bs bm hdct sn sub ab col dd k0 k1 k2 k3 k5 "ValueError.__new__")/\h.Ns N mN/\mN "__init__" = none/\OwnTail h VE bm:=by
 unfold PySem.W.excIn at q;split at q
 ·rename_i dd cd sl ho;split at q
  ·rename_i C' bm k0 k1 k2 k3 n k5 hm hs;simp only[Bool.and_eq_true,beq_iff_eq,Bool.not_eq_true']at q;obtain⟨⟨⟨⟨⟨rfl,rfl⟩,hdel⟩,ht⟩,hok⟩,hni⟩:=q;obtain⟨nm,bs,mro,ns,qn,hd,sn,sub,ab,col,del⟩:=cd;subst hm hdel;obtain⟨l⟩:=sl;subst hs;exact⟨bm,ns,nm,qn,bs,hd,sn,sub,ab,col,dd,k0,k1,k2,k3,k5,_,X _ _ ho,.of_isNs (PySem.W.isNs_of_in X hok),PySem.W.nsMap_none_of_in X hok hni,PySem.W.tail_of_in X ht⟩
  ·cases q
 ·cases q
def vU{K:PySem.W.Frag}(X:K.In h)(q:RS.qR K C=true):∃ bm N nm qn bs hdct sn sub ab col dd k0 k1 k2 k3 k5,h.get? C=some (excClassObj nm qn C N bs bm hdct sn sub ab col dd k0 k1 k2 k3 k5 "ValueError.__new__")/\OwnTail h VE bm:=by
 replace q:=(Bool.and_eq_true_iff.mp q).1
 unfold RS.jW at q;split at q
 ·rename_i dd cd sl ho;split at q
  ·rename_i C' bm k0 k1 k2 k3 n k5 hm hs;simp only[Bool.and_eq_true,beq_iff_eq,Bool.not_eq_true']at q;obtain⟨⟨⟨rfl,rfl⟩,hdel⟩,ht⟩:=q;obtain⟨nm,bs,mro,ns,qn,hd,sn,sub,ab,col,del⟩:=cd;subst hm hdel;obtain⟨l⟩:=sl;subst hs;exact⟨bm,ns,nm,qn,bs,hd,sn,sub,ab,col,dd,k0,k1,k2,k3,k5,X _ _ ho,PySem.W.tail_of_in X ht⟩
  ·cases q
 ·cases q
section
variable{EX:St->XK}
def vR(hh:X.A.handled=none)(hg:Gl X x)(hm:X.mg x=some (.ref C))(hdb:(x == ("__debug__" : Str))=false)(q:PySem.W.excIn X.K C VE "ValueError.__new__" = true)(hk:∀ pins σ H s h' e vs,Inv X pins σ H s->Heap.MadeExcOf s.heap h' e (.ref C) vs->EX σ (.ref C) none H->X.xe (.ref e) { s with heap:=h' })
 (ha:PA X [arg] (mh ta nE))(hs:starEach [arg] X.env=[(false,eval arg X.env)]):PS X (.Raise (some (.Call (.Name x np) [arg] [] cpos)) none pos) (fun _ σ H=>ta σ H fun v H1=>[v].length<=sizeLine/\EX σ (.ref C) none H1):=by
 intro pins s σ H D I h;obtain⟨bm,N,nm,qn,bs,hdct,sn,sub,ab,col,dd,k0,k1,k2,k3,k5,mN,hC,hN,hni,T⟩:=yu I.ok.mod.kin q;refine wpAny_Raise_call_subT (C:=C) (nm:=nm) (q:=qn) (N:=N) (bs:=bs) (hdct:=hdct) (sn:=sn) (sub:=sub) (ab:=ab) (col:=col) (dd:=dd) (k0:=k0) (k1:=k1) (k2:=k2) (k3:=k3) (k5:=k5) PySem.F.excBase_ValueError (T.hasType PySem.F.excBase_ValueError.hasBase) hh (by rw[hs];rfl) hni (fm I hg hm ⟨rfl,?_⟩ hdb);have ha':=ha cpos pins s σ H (fun vs H1=>vs.length<=sizeLine/\EX σ (.ref C) none H1) I h;rw[hs]at ha' ⊢;refine Calls.evalArgs_plain (thn ha' fun us s1 ⟨vs,H1,I1,r,q1⟩=>?_);exact⟨rfl,by rw[<-r.length];exact q1.1,I1.bk _ _ hC,hN.keeps I1.bk,T.keeps I1.bk,fun h' e m=>hk pins σ H1 s1 h' e us I1 m q1.2⟩
abbrev PJ(X:Cx)(vs:List Expr)(t:TA):Prop:=∀ (pins:List (Addr × Obj)) (s:Shared) (σ:St) (H:Hp) (Q:Hp->Prop) (out:Str),Inv X pins σ H s->t σ H (fun _ H1=>Q H1)->out.length+3000*vs.length<=sizeLine->wpAny (model X.prog X.w) X.A (joinParts out (evalEach vs X.env)) (EP X pins σ fun v H1=>(∃ x,v=.str x)/\Q H1) X.xe s
def Ac:PJ X [] nE:=fun pins s σ H Q out I h z=>joinParts_nil ⟨.str out,H,I.tok _,⟨_,rfl⟩,⟨_,rfl⟩,h⟩ (by simpa using z)
def xP(h:PJ X vs t)(hy:y.length<=3000):PJ X (.Constant (.str y) k p::vs) t:=fun pins s σ H Q out I q z=>by
 have hz:(out++y).length+3000*vs.length<=sizeLine:=by
  rw[strLen_append];rw[List.length_cons]at z;omega
 refine joinParts_cons (Calls.Constant_str ⟨by omega,?_⟩);exact h pins _ σ H Q (out++y) (I.tok _) q hz
abbrev tG(te:TE)(t:TA):TA:=fun σ H Q=>te σ H fun v H1=>∃ i,v=.int i/\i.natAbs<2 ^ 1900/\t σ H1 Q
def AX(he:PE X e te)(h:PJ X vs t):PJ X (.FormattedValue e (-1) none p::vs) (tG te t):=fun pins s σ H Q out I q z=>by
 refine joinParts_cons (FormattedValue_plain (thn (he pins s σ H _ I q) fun u s1 ⟨v,H1,I1,r1,i,hv,hi,q1⟩=>?_));subst hv;obtain⟨tk,rfl⟩:=r1
 have hl:i.natAbs.log2<1920:=by
  by_cases h0:i.natAbs=0
  ·rw[h0];decide
  ·exact Nat.lt_trans ((Nat.log2_lt h0).mpr hi) (by decide)
 have hy:(Str.ofString (toString i)).length<=1921:=by
  rw[PySem.ofString_length];exact int_text_length_le (by decide) hl
 have hz:(out++Str.ofString (toString i)).length+3000*vs.length<=sizeLine:=by
  rw[strLen_append];rw[List.length_cons]at z;omega
 refine formatField_int_small hl ⟨?_,?_⟩
 ·exact Nat.le_trans (Nat.le_add_right _ _) hz
 ·exact h pins _ σ H1 Q _ ((I1.tok _).tok _) q1 hz
def ug(h:PJ X (v::v2::vs) t)(hn:vs.length<=100):PE X (.JoinedStr (v::v2::vs) pos) (fun σ H Q=>t σ H fun _ H1=>∀ x,Q (.str x) H1):=by
 intro pins s σ H Q I q;refine JoinedStr_many (thn (h pins s σ H (fun H1=>∀ x,Q (.str x) H1) Str.empty I q ?_) fun u s1 ⟨v,H1,I1,r1,⟨x,hv⟩,q1⟩=>⟨v,H1,I1,r1,by rw[hv];exact q1 x⟩);rw[List.length_cons,List.length_cons,sizeLine_eq];have:Str.empty.length=0:=rfl;omega
end
open PySem.Builtin PySem.Builtin.ObjectAttr PySem.W
open Sem (wp)
open Sem (wp)
section
variable{prog:Program}{w:World}{A:Around}{E:Value->Shared->Prop}{h:Heap}{g:Array GenState}{d:Drawn}{t:Nat}{os:OsState}
variable{nm q:Str}{C N:Addr}{bs bm bmB:List Value}{hdct:Bool}{sn:List Str}{sub:List Value}{ab:Bool}{col:Option Bool}{dd:Option Addr}{k0 k1 k2 k3 k5:Option Value}{B newId initId:String}
end
section
variable{K:Frag}{prog:Program}{w:World}{A:Around}{E:Value->Shared->Prop}{s:Shared}{D x:Addr}{ox od:Obj}{Q:Value->Shared->Prop}
end
section
variable{prog:Program}{w:World}{A:Around}{E:Value->Shared->Prop}{h:Heap}{g:Array GenState}{d:Drawn}{t:Nat}{os:OsState}
variable{nm q:Str}{C N:Addr}{bs bm bmB:List Value}{hdct:Bool}{sn:List Str}{sub:List Value}{ab:Bool}{col:Option Bool}{dd:Option Addr}{k0 k1 k2 k3 k5:Option Value}{B newId initId:String}
end
open RS (VE)
section
variable{K:PySem.W.Frag}
end
section
end
end L2
set_option exponentiation.threshold 2000
namespace L2
open PySem PySem.Spec PyProof.Rows
open RS (VE)
end L2
set_option exponentiation.threshold 2000
namespace L2
open PySem PySem.Spec PyProof.Rows
open RS (VE gU)
structure vv(X:Cx)(H:Hp)(s:Shared)(C:Addr)(f:Option Nat)(e:Addr)(od:Option Addr)(H':Hp)(s':Shared):Prop where
 os:s'.os=s.os
 bare:AllBare s'.gens
 un:Un (frs X.stack) [] H H' s.heap s'.heap
 hok:HOk X.prog X.w H' s'.heap
 fld:gU H' f od
 ex:Exc (dX s.heap H') e C od false s'.heap
 sm:ax H H'
 ob:∃ t,s'.heap.get? e=some { cls:=.ref C,dict:=od,data:=.fields #[.ref t,.none,.none,.none,.bool false,.none] }
def Inv.newX(I:Inv X pins σ H s)(hex:X.ex=[])(nx:vv X H s C f e od H' s'):Inv X pins σ H' s'/\Exc (dX X.s₀.heap H') e C od false s'.heap :=
 ⟨I.mj nx.os nx.un nx.hok nx.bare (fun b z=>absurd z (by simp)),nx.ex.mono fun b hb=>hb.imp (fun⟨o,q⟩=>I.old hex q) fun z=>z⟩
section
end
open RS (VE)
section
variable{K:PySem.W.Frag}{k0 k1 k2 k3 k5:Option Value}{es:Array DictEntry}{hdct:Bool}{od:Option Addr}{ep:Nat}{sl:Array (Option Value)}
end
end L2
namespace TM
open PySem PySem.W PyProof.Rows
abbrev yd:Bool->Keyed->Array Keyed->Nat->Nat->Nat->StateT SortSt Sem (Option Nat):=sortPriv% PySem.Builtin.gallop
abbrev mO:Array Keyed->Array Keyed->StateT SortSt Sem (Array Keyed):=sortPriv% PySem.Builtin.mergeLo
section
variable{M:Model}{A:Around}{E:Value->Shared->Prop}{s:Shared}{σ:Type}{β γ:Type}
def tU{body:Nat->β->StateT σ Sem (ForInStep β)}(e:γ->β)(S:γ->σ)(f:γ->Option (Bool × γ))(hb:∀ x c b d,f c=some (b,d)->∀ Q:ForInStep β->σ->Prop,Q (if b then .yield (e d)else .done (e d)) (S d)->wpS M A E s (body x (e c)) Q (S c)) :
  ∀ (l:List Nat) (c r:γ),iter f l.length c=some r->∀ Q:β->σ->Prop,Q (e r) (S r)->wpS M A E s (forIn l (e c) body) Q (S c)
 | [],c,r,h,Q,q=>by
  cases h;rw[List.forIn_nil];exact wpS_pure q
 | x::l,c,r,h,Q,q=>by
  rw[List.forIn_cons];rw[List.length_cons,iter]at h;split at h
  ·rename_i d hd;exact wpS_bind (hb x c true d hd _ (tU e S f hb l d r h Q q))
  ·rename_i d hd;cases h;exact wpS_bind (hb x c false _ hd _ (wpS_pure q))
  ·cases h
def ck{body:Nat->β->StateT σ Sem (ForInStep β)}{a b:Nat}(e:γ->β)(S:γ->σ)(f:γ->Option (Bool × γ))(hb:∀ x c b d,f c=some (b,d)->∀ Q:ForInStep β->σ->Prop,Q (if b then .yield (e d)else .done (e d)) (S d)->wpS M A E s (body x (e c)) Q (S c))
 {c r:γ}(h:iter f (b-a) c=some r){Q:β->σ->Prop}(q:Q (e r) (S r)){i:β}(hi:i=e c){st:σ}(hs:st=S c):wpS M A E s (forIn [a:b] i body) Q st:=by
 subst hi hs;rw[Std.Legacy.Range.forIn_eq_forIn_range']
 have hsz:([a:b]:Std.Legacy.Range).size=b-a:=by simp[Std.Legacy.Range.size]
 show wpS M A E s (forIn (List.range' a ([a:b]:Std.Legacy.Range).size 1) (e c) body) Q (S c);rw[hsz];exact tU e S f hb _ c r (by rw[List.length_range'];exact h) Q q
end
section
variable{prog:Program}{w:World}{A:Around}{E:Value->Shared->Prop}{s:Shared}{κ:SortKind}{it:Array Keyed}{cm:Nat->Nat->Option Bool}
abbrev eV(prog:Program)(w:World)(A:Around)(s:Shared)(κ:SortKind)(it:Array Keyed)(cm:Nat->Nat->Option Bool):Prop:=∀ i j b,cm i j=some b->wpAny (model prog w) A (keyLt' κ (kas_item it i).1 (kas_item it j).1) (fun c s'=>s'=s/\c=b) (fun _ _=>False) s
def mE(K:eV prog w A s κ it cm){st:SortSt}(hk:kindOf st=κ)(h:cm i j=some b){Q:Option Bool->SortSt->Prop}(q:Q (some b) st):wpS (model prog w) A E s (lt' (kas_item it i) (kas_item it j)) Q st:=by
 rw[lt'_eq];refine wpS_bind (wpS_get ?_);refine wpS_bind (wpS_lift (wpAny_attempt (wpAny_mono (by rw[hk];exact K i j b h) (fun c s' hc=>?_) fun _ _ hF=>False.elim hF)));obtain⟨rfl,rfl⟩:=hc;exact⟨rfl,wpS_pure q⟩
def aL{p:Array Nat}{st:SortSt}(h:p[i]?=some k){Q:Keyed->SortSt->Prop}(q:Q (kas_item it k) st):wpS (model prog w) A E s (elem' (p.map (kas_item it)) i) Q st:=by
 rw[elem'_eq,Array.getElem?_map,h];exact wpS_pure q
def ob{o:Option α}{f:α->Option β}{y:β}(h:o.bind f=some y):∃ x,o=some x/\f x=some y:=Option.bind_eq_some_iff.mp h
def om{o:Option α}{f:α->β}{y:β}(h:o.map f=some y):∃ x,o=some x/\f x=y:=Option.map_eq_some_iff.mp h
def xY{σ:Type}{M:Model}{st st':σ}{Q:PUnit->σ->Prop}(h:Q ⟨⟩ st'):wpS M A E s (set st':StateT σ Sem PUnit) Q st:=by
 unfold wpS;rw[StateT.run_set];exact wpAny_pure ⟨rfl,h⟩
def eL(K:eV prog w A s κ it cm){p:Array Nat}{st:SortSt}(hk:kindOf st=κ)(h:gal cm left k p base n hint=some r){Q:Option Nat->SortSt->Prop}(q:Q (some r) st):wpS (model prog w) A E s (yd left (kas_item it k) (p.map (kas_item it)) base n hint) Q st:=by
 obtain⟨t,h1,h⟩:=ob h;obtain⟨c,h2,h⟩:=ob h;obtain⟨d,h3,h⟩:=om h;subst h
 have by':∀ {i b} {Q:Option Bool->SortSt->Prop},bey cm left k p base i=some b->Q (some b) st->wpS (model prog w) A E s (elem' (p.map (kas_item it)) (base+i) >>= fun x=>if left=true then lt' x (kas_item it k)else lt' (kas_item it k) x >>= fun y=>pure (y.map (!·))) Q st:=fun {i b Q} hb hq=>by
  obtain⟨x,e1,e2⟩:=ob hb;refine wpS_bind (aL e1 ?_)
  cases left with
  | true=>exact mE K hk e2 hq
  |false=>
   obtain⟨y,e3,e4⟩:=om (show(cm k x).map not=some b from e2);subst e4;exact wpS_bind (mE K hk e3 (wpS_pure hq))
 refine wpS_bind (by' h1 ?_)
 cases t with
 |true=>
  obtain⟨c',h4,h5⟩:=om (show(iter _ n (0,1)).map _=some c from h2);subst h5;refine wpS_bind (ck (fun c:Nat × Nat=>((none,c.1,c.2):Option (Option Nat) × Nat × Nat)) (fun _=>st) (gF1 (fun o=>bey cm left k p base (hint+o)) (n-hint)) (fun x c b d hd Q hq=>?_) (c:=(0,1)) (r:=c') (by rw[Nat.sub_zero];exact h4) ?_ rfl rfl)
  case refine_2 =>
   refine wpS_bind (ck (fun c:Nat × Nat=>((none,c.1,c.2):Option (Option Nat) × Nat × Nat)) (fun _=>st) (gF2 (bey cm left k p base)) (fun x c b d hd Q hq=>?_) (r:=d) (by rw[Nat.sub_zero];exact h3) (wpS_pure q) rfl rfl);obtain⟨l,o⟩:=c;by_cases ho:l≥o
   ·rw[gF2,if_pos ho]at hd;cases hd;dsimp only;rw[if_pos ho];exact wpS_pure hq
   ·rw[gF2,if_neg ho]at hd;obtain⟨t,e1,e2⟩:=om hd;dsimp only;rw[if_neg ho];refine wpS_bind (by' e1 ?_);cases t<;>cases e2<;>exact wpS_pure hq
  obtain⟨l,o⟩:=c;by_cases ho:o≥n-hint
  ·rw[gF1,if_pos ho]at hd;cases hd;dsimp only;rw[if_pos ho];exact wpS_pure hq
  ·rw[gF1,if_neg ho]at hd;obtain⟨t,e1,e2⟩:=om hd;dsimp only;rw[if_neg ho];refine wpS_bind (by' e1 ?_);cases t<;>cases e2<;>exact wpS_pure hq
 |false=>
  obtain⟨c',h4,h5⟩:=om (show(iter _ n (0,1)).map _=some c from h2);subst h5;refine wpS_bind (ck (fun c:Nat × Nat=>((none,c.1,c.2):Option (Option Nat) × Nat × Nat)) (fun _=>st) (gF1 (fun o=>(bey cm left k p base (hint-o)).map not) (hint+1)) (fun x c b d hd Q hq=>?_) (c:=(0,1)) (r:=c') (by rw[Nat.sub_zero];exact h4) ?_ rfl rfl)
  case refine_2 =>
   refine wpS_bind (ck (fun c:Nat × Nat=>((none,c.1,c.2):Option (Option Nat) × Nat × Nat)) (fun _=>st) (gF2 (bey cm left k p base)) (fun x c b d hd Q hq=>?_) (r:=d) (by rw[Nat.sub_zero];exact h3) (wpS_pure q) rfl rfl);obtain⟨l,o⟩:=c;by_cases ho:l≥o
   ·rw[gF2,if_pos ho]at hd;cases hd;dsimp only;rw[if_pos ho];exact wpS_pure hq
   ·rw[gF2,if_neg ho]at hd;obtain⟨t,e1,e2⟩:=om hd;dsimp only;rw[if_neg ho];refine wpS_bind (by' e1 ?_);cases t<;>cases e2<;>exact wpS_pure hq
  obtain⟨l,o⟩:=c;by_cases ho:o≥hint+1
  ·rw[gF1,if_pos ho]at hd;cases hd;dsimp only;rw[if_pos ho];exact wpS_pure hq
  ·rw[gF1,if_neg ho]at hd;obtain⟨t,e1,e2⟩:=om hd;obtain⟨u,e3,e4⟩:=om e1;dsimp only;rw[if_neg ho];refine wpS_bind (by' e3 ?_);cases u<;>cases e4<;>cases e2<;>exact wpS_pure hq
@[reducible]noncomputable def setG(st:SortSt)(g:Nat):SortSt:=SortSt.mk' (kindOf st) (arrOf st) (pendingOf st) g (failedOf st)
def zF(K:eV prog w A s κ it cm){x y:Array Nat}{st:SortSt}(hk:kindOf st=κ)(h:mlo cm x y (gallopOf st)=some (r,g')){Q:Array Keyed->SortSt->Prop}(q:Q (r.map (kas_item it)) (setG st g')):wpS (model prog w) A E s (mO (x.map (kas_item it)) (y.map (kas_item it))) Q st:=by
 obtain⟨u,h1,h⟩:=ob h;split at h
 ·cases h
 rename_i hn;obtain⟨c,h2,h⟩:=ob h;obtain⟨r',h3,h⟩:=om h;cases h;refine wpS_bind (wpS_lift (wpAny_rule ⟨rfl,?_⟩));refine wpS_bind (aL h1 ?_)
 have n1:¬ (1 == (y.map (kas_item it)).size)=true:=by rw[Array.size_map];exact fun z=>hn (.inl z)
 have n2:¬ (0+1 == (x.map (kas_item it)).size)=true:=by rw[Array.size_map];exact fun z=>hn (.inr z)
 dsimp only;rw[if_neg n1,if_neg n2];refine wpS_bind (wpS_get ?_);refine wpS_bind (ck (fun c:C0=>((c.1.1.map (·.map (kas_item it)),c.1.2.1.map (kas_item it),c.1.2.2):Option (Array Keyed) × Array Keyed × Nat × Nat × Nat)) (fun c=>setG st c.2) (mF0 cm x y) (fun _ c b d hd Q hq=>?_) (a:=0) (b:=(x.map (kas_item it)).size+(y.map (kas_item it)).size) (c:=((none,#[u],0,1,gallopOf st),gallopOf st)) (r:=c) (by rw[Nat.sub_zero,Array.size_map,Array.size_map];exact h2) ?_ (by simp) rfl)
 case refine_2 =>
  obtain⟨⟨r0,c0⟩,sg⟩:=c;cases h3;exact wpS_pure q
 obtain⟨⟨r0,out,ia,ib,mg⟩,sg⟩:=c;obtain⟨c1,e1,hd⟩:=ob hd;refine wpS_bind (ck (fun c:C1=>((c.1.map (·.map (kas_item it)),c.2.1.map (kas_item it),c.2.2):Option (Array Keyed) × Array Keyed × Nat × Nat × Nat × Nat)) (fun _=>setG st sg) (mF1 cm x y mg) (fun _ c b d hd Q hq=>?_) (a:=0) (b:=(x.map (kas_item it)).size+(y.map (kas_item it)).size) (c:=(none,out,ia,ib,0,0)) (r:=c1) (by rw[Nat.sub_zero,Array.size_map,Array.size_map];exact e1) ?_ rfl rfl)
 ·obtain⟨r0,out,ia,ib,ac,bc⟩:=c;obtain⟨u,f1,hd⟩:=ob hd;obtain⟨v,f2,hd⟩:=ob hd;obtain⟨t,f3,hd⟩:=om hd;refine wpS_bind (aL f1 (wpS_bind (aL f2 (wpS_bind (mE (st:=setG st sg) K hk f3 ?_)))))
  cases t with
  |true=>
   refine wpS_bind (aL f1 ?_);simp only[Array.size_map,if_true]at hd ⊢;by_cases g1:(ib+1 == y.size)=true
   ·rw[if_pos g1]at hd ⊢;cases hd;exact wpS_pure (by simpa[Array.map_append,Array.map_push,Array.map_extract]using hq)
   ·rw[if_neg g1]at hd ⊢;by_cases g2:bc+1≥mg
    ·rw[if_pos g2]at hd ⊢;cases hd;exact wpS_pure (by simpa[Array.map_push]using hq)
    ·rw[if_neg g2]at hd ⊢;cases hd;exact wpS_pure (by simpa[Array.map_push]using hq)
  |false=>
   refine wpS_bind (aL f2 ?_);simp only[Array.size_map,Bool.false_eq_true,if_false]at hd ⊢;by_cases g1:(ia+1+1 == x.size)=true
   ·rw[if_pos g1]at hd ⊢;cases hd;exact wpS_pure (by simpa[Array.map_append,Array.map_push,Array.map_extract]using hq)
   ·rw[if_neg g1]at hd ⊢;by_cases g2:ac+1≥mg
    ·rw[if_pos g2]at hd ⊢;cases hd;exact wpS_pure (by simpa[Array.map_push]using hq)
    ·rw[if_neg g2]at hd ⊢;cases hd;exact wpS_pure (by simpa[Array.map_push]using hq)
 obtain⟨r1,out,ia,ib,ac,bc⟩:=c1
 cases r1 with
 |some r=>
  cases hd;exact wpS_pure hq
 |none=>
  obtain⟨c2,e2,hd⟩:=om hd;refine wpS_bind (wpS_lift (wpAny_rule ⟨rfl,?_⟩));refine wpS_bind (ck (fun c:C2=>((c.1.1.map (·.map (kas_item it)),c.1.2.1.map (kas_item it),c.1.2.2):Option (Array Keyed) × Array Keyed × Nat × Nat × Nat × Nat × Nat)) (fun c=>setG st c.2) (mF2 cm x y) (fun _ c b d hd Q hq=>?_) (a:=0) (b:=(x.map (kas_item it)).size+(y.map (kas_item it)).size) (c:=((none,out,ia,ib,mg+1,ac,bc),sg)) (r:=c2) (by rw[Nat.sub_zero,Array.size_map,Array.size_map];exact e2) ?_ rfl rfl)
  case refine_2 =>
   obtain⟨⟨r2,out,ia,ib,mg2,ac,bc⟩,sg2⟩:=c2
   cases r2 with
   |some r=>
    cases hd;exact wpS_pure hq
   |none=>
    cases hd;exact wpS_bind (wpS_modify (wpS_pure hq))
  obtain⟨⟨r0,out,ia,ib,mg,ac,bc⟩,sg⟩:=c;obtain⟨u,f1,hd⟩:=ob hd;obtain⟨k,f2,hd⟩:=ob hd;dsimp only;generalize hm:(if mg > 1 then mg-1 else mg)=mg' at hd;by_cases hg:mg > 1
  ·rw[if_pos hg]at hm ⊢;rw[hm];refine wpS_bind (wpS_modify (wpS_bind (aL f1 ?_)));simp only[Array.size_map];refine wpS_bind (eL K (by exact hk) f2 ?_);dsimp only;by_cases k0:k > 0
   ·rw[if_pos k0]at hd ⊢;split at hd
    ·cases hd
    rename_i b1;rw[if_neg fun z=>b1 (.inl z),if_neg fun z=>b1 (.inr z)];refine wpS_bind (aL f1 ?_);unfold mT2 at hd;split at hd
    ·rename_i b2;rw[if_pos b2];cases hd;exact wpS_pure (by simpa[Array.map_append,Array.map_push,Array.map_extract]using hq)
    rename_i b2;rw[if_neg b2];obtain⟨v,f3,hd⟩:=ob hd;obtain⟨l,f4,hd⟩:=ob hd;refine wpS_bind (aL f3 (wpS_bind (eL K (by exact hk) f4 ?_)));dsimp only;by_cases l0:l > 0
    ·rw[if_pos l0]at hd ⊢;split at hd
     ·cases hd
     rename_i a1;rw[if_neg a1];refine wpS_bind (aL f3 ?_);unfold mT2.mE2 at hd;split at hd
     ·cases hd
     rename_i a2;rw[if_neg a2];split at hd
     ·rename_i a3;rw[if_pos a3];cases hd;exact wpS_pure (by simpa[Array.map_append,Array.map_push,Array.map_extract]using hq)
     ·rename_i a3;rw[if_neg a3];cases hd;exact wpS_pure (by simpa[Array.map_append,Array.map_push,Array.map_extract]using hq)
    ·rw[if_neg l0]at hd ⊢;refine wpS_bind (aL f3 ?_);unfold mT2.mE2 at hd;split at hd
     ·cases hd
     rename_i a2;rw[if_neg a2];split at hd
     ·rename_i a3;rw[if_pos a3];cases hd;exact wpS_pure (by simpa[Array.map_append,Array.map_push,Array.map_extract]using hq)
     ·rename_i a3;rw[if_neg a3];cases hd;exact wpS_pure (by simpa[Array.map_append,Array.map_push,Array.map_extract]using hq)
   ·rw[if_neg k0]at hd ⊢;refine wpS_bind (aL f1 ?_);unfold mT2 at hd;split at hd
    ·rename_i b2;rw[if_pos b2];cases hd;exact wpS_pure (by simpa[Array.map_append,Array.map_push,Array.map_extract]using hq)
    rename_i b2;rw[if_neg b2];obtain⟨v,f3,hd⟩:=ob hd;obtain⟨l,f4,hd⟩:=ob hd;refine wpS_bind (aL f3 (wpS_bind (eL K (by exact hk) f4 ?_)));dsimp only;by_cases l0:l > 0
    ·rw[if_pos l0]at hd ⊢;split at hd
     ·cases hd
     rename_i a1;rw[if_neg a1];refine wpS_bind (aL f3 ?_);unfold mT2.mE2 at hd;split at hd
     ·cases hd
     rename_i a2;rw[if_neg a2];split at hd
     ·rename_i a3;rw[if_pos a3];cases hd;exact wpS_pure (by simpa[Array.map_append,Array.map_push,Array.map_extract]using hq)
     ·rename_i a3;rw[if_neg a3];cases hd;exact wpS_pure (by simpa[Array.map_append,Array.map_push,Array.map_extract]using hq)
    ·rw[if_neg l0]at hd ⊢;refine wpS_bind (aL f3 ?_);unfold mT2.mE2 at hd;split at hd
     ·cases hd
     rename_i a2;rw[if_neg a2];split at hd
     ·rename_i a3;rw[if_pos a3];cases hd;exact wpS_pure (by simpa[Array.map_append,Array.map_push,Array.map_extract]using hq)
     ·rename_i a3;rw[if_neg a3];cases hd;exact wpS_pure (by simpa[Array.map_append,Array.map_push,Array.map_extract]using hq)
  ·rw[if_neg hg]at hm ⊢;subst hm;refine wpS_bind (wpS_modify (wpS_bind (aL f1 ?_)));simp only[Array.size_map];refine wpS_bind (eL K (by exact hk) f2 ?_);dsimp only;by_cases k0:k > 0
   ·rw[if_pos k0]at hd ⊢;split at hd
    ·cases hd
    rename_i b1;rw[if_neg fun z=>b1 (.inl z),if_neg fun z=>b1 (.inr z)];refine wpS_bind (aL f1 ?_);unfold mT2 at hd;split at hd
    ·rename_i b2;rw[if_pos b2];cases hd;exact wpS_pure (by simpa[Array.map_append,Array.map_push,Array.map_extract]using hq)
    rename_i b2;rw[if_neg b2];obtain⟨v,f3,hd⟩:=ob hd;obtain⟨l,f4,hd⟩:=ob hd;refine wpS_bind (aL f3 (wpS_bind (eL K (by exact hk) f4 ?_)));dsimp only;by_cases l0:l > 0
    ·rw[if_pos l0]at hd ⊢;split at hd
     ·cases hd
     rename_i a1;rw[if_neg a1];refine wpS_bind (aL f3 ?_);unfold mT2.mE2 at hd;split at hd
     ·cases hd
     rename_i a2;rw[if_neg a2];split at hd
     ·rename_i a3;rw[if_pos a3];cases hd;exact wpS_pure (by simpa[Array.map_append,Array.map_push,Array.map_extract]using hq)
     ·rename_i a3;rw[if_neg a3];cases hd;exact wpS_pure (by simpa[Array.map_append,Array.map_push,Array.map_extract]using hq)
    ·rw[if_neg l0]at hd ⊢;refine wpS_bind (aL f3 ?_);unfold mT2.mE2 at hd;split at hd
     ·cases hd
     rename_i a2;rw[if_neg a2];split at hd
     ·rename_i a3;rw[if_pos a3];cases hd;exact wpS_pure (by simpa[Array.map_append,Array.map_push,Array.map_extract]using hq)
     ·rename_i a3;rw[if_neg a3];cases hd;exact wpS_pure (by simpa[Array.map_append,Array.map_push,Array.map_extract]using hq)
   ·rw[if_neg k0]at hd ⊢;refine wpS_bind (aL f1 ?_);unfold mT2 at hd;split at hd
    ·rename_i b2;rw[if_pos b2];cases hd;exact wpS_pure (by simpa[Array.map_append,Array.map_push,Array.map_extract]using hq)
    rename_i b2;rw[if_neg b2];obtain⟨v,f3,hd⟩:=ob hd;obtain⟨l,f4,hd⟩:=ob hd;refine wpS_bind (aL f3 (wpS_bind (eL K (by exact hk) f4 ?_)));dsimp only;by_cases l0:l > 0
    ·rw[if_pos l0]at hd ⊢;split at hd
     ·cases hd
     rename_i a1;rw[if_neg a1];refine wpS_bind (aL f3 ?_);unfold mT2.mE2 at hd;split at hd
     ·cases hd
     rename_i a2;rw[if_neg a2];split at hd
     ·rename_i a3;rw[if_pos a3];cases hd;exact wpS_pure (by simpa[Array.map_append,Array.map_push,Array.map_extract]using hq)
     ·rename_i a3;rw[if_neg a3];cases hd;exact wpS_pure (by simpa[Array.map_append,Array.map_push,Array.map_extract]using hq)
    ·rw[if_neg l0]at hd ⊢;refine wpS_bind (aL f3 ?_);unfold mT2.mE2 at hd;split at hd
     ·cases hd
     rename_i a2;rw[if_neg a2];split at hd
     ·rename_i a3;rw[if_pos a3];cases hd;exact wpS_pure (by simpa[Array.map_append,Array.map_push,Array.map_extract]using hq)
     ·rename_i a3;rw[if_neg a3];cases hd;exact wpS_pure (by simpa[Array.map_append,Array.map_push,Array.map_extract]using hq)
abbrev stq(κ:SortKind)(it:Array Keyed)(p:Array Nat)(pd:Array (Nat × Nat × Nat))(g:Nat):SortSt:=SortSt.mk' κ (p.map (kas_item it)) pd g none
def gy(K:eV prog w A s κ it cm){p:Array Nat}(h:ltp cm p i j=some b){Q:Option Bool->SortSt->Prop}(q:Q (some b) (stq κ it p pd g)):wpS (model prog w) A E s (ltAt' i j) Q (stq κ it p pd g):=by
 obtain⟨u,h1,h⟩:=ob h;obtain⟨v,h2,h⟩:=ob h;rw[ltAt'_eq];exact wpS_bind (wpS_get (wpS_bind (aL h1 (wpS_bind (aL h2 (mE K rfl h q))))))
def Ba{p:Array Nat}{Q:Unit->SortSt->Prop}(q:Q () (stq κ it (kas_rev p i j) pd g)):wpS (model prog w) A E s (reverseSlice' i j) Q (stq κ it p pd g):=by
 rw[reverseSlice'_eq];refine wpS_modify ?_;have e1:mirror (p.map (kas_item it)) i j ((j-i) / 2)=(kas_rev p i j).map (kas_item it):=kas_swaps_map (kas_item it) (fun k=>i+k) (fun k=>j-1-k) _ p;show Q () (SortSt.mk' κ (mirror (p.map (kas_item it)) i j ((j-i) / 2)) pd g none);rw[e1];exact q
def B2{p:Array Nat}{Q:Unit->SortSt->Prop}(q:Q () (stq κ it (bubble p k (k-l)) pd g)):wpS (model prog w) A E s (moveDown' k l) Q (stq κ it p pd g):=by
 rw[moveDown'_eq];refine wpS_modify ?_;have e1:bubble (p.map (kas_item it)) k (k-l)=(bubble p k (k-l)).map (kas_item it):=kas_swaps_map (kas_item it) (fun i=>k-i) (fun i=>k-i-1) _ p;show Q () (SortSt.mk' κ (bubble (p.map (kas_item it)) k (k-l)) pd g none);rw[e1];exact q
def xC(K:eV prog w A s κ it cm){p p':Array Nat}{lo nrem n g:Nat}{pd:Array (Nat × Nat × Nat)}(h:By cm lo nrem p=some (n,p')){Q:Option Nat->SortSt->Prop}(q:Q (some n) (stq κ it p' pd g)):wpS (model prog w) A E s (countRun' lo nrem) Q (stq κ it p pd g):=by
 obtain⟨m,h1,h⟩:=ob h;refine wpS_bind (ck (fun c:Nat=>((none,c):Option (Option Nat) × Nat)) (fun _=>stq κ it p pd g) (cF1 cm lo p) (fun _ c b d hd Q hq=>?_) (a:=1) (c:=1) (r:=m) h1 ?_ rfl rfl)
 ·obtain⟨t,e1,e2⟩:=om hd;refine wpS_bind (gy K e1 ?_);cases t<;>cases e2<;>exact wpS_pure hq
 dsimp only;by_cases g1:(m == nrem)=true
 ·rw[if_pos g1]at h ⊢;cases h;exact wpS_pure q
 rw[if_neg g1]at h ⊢;by_cases g2:m > 1
 ·rw[if_pos g2]at h ⊢;obtain⟨t,e1,e2⟩:=ob h;refine wpS_bind (gy K e1 ?_)
  cases t with
  | true=>cases e2;exact wpS_pure q
  | false=>cases e2
 rw[if_neg g2]at h ⊢;obtain⟨m2,h2,h⟩:=ob h;obtain⟨m3,h3,h⟩:=om h;cases h;refine wpS_bind (wpS_lift (wpAny_rule ⟨rfl,?_⟩));refine wpS_bind (ck (fun c:Nat=>((none,c,0):Option (Option Nat) × Nat × Nat)) (fun _=>stq κ it p pd g) (cF2 cm lo p) (fun _ c b d hd Q hq=>?_) (a:=m+1) (c:=m+1) (r:=m2) h2 ?_ rfl rfl)
 ·obtain⟨t,e1,e2⟩:=ob hd;refine wpS_bind (gy K e1 ?_)
  cases t with
  | true=>cases e2;exact wpS_pure hq
  |false=>
   obtain⟨u,e3,e4⟩:=ob (show(ltp cm p (lo+c-1) (lo+c)).bind _=_ from e2);refine wpS_bind (gy K e3 ?_)
   cases u with
   | true=>cases e4;exact wpS_pure hq
   | false=>cases e4
 refine wpS_bind (Ba ?_);refine wpS_bind (ck (fun c:Nat=>((none,c):Option (Option Nat) × Nat)) (fun _=>stq κ it (kas_rev p lo (lo+m2)) pd g) (cF1 cm lo (kas_rev p lo (lo+m2))) (fun _ c b d hd Q hq=>?_) (a:=m2) (c:=m2) (r:=n) h3 (wpS_pure q) rfl rfl);obtain⟨t,e1,e2⟩:=om hd;refine wpS_bind (gy K e1 ?_);cases t<;>cases e2<;>exact wpS_pure hq
def yo(K:eV prog w A s κ it cm){p p':Array Nat}{lo n ok g:Nat}{pd:Array (Nat × Nat × Nat)}(h:qV cm lo (List.range' (max ok 1) (n-max ok 1)) p=some p'){Q:Bool->SortSt->Prop}(q:Q true (stq κ it p' pd g)):wpS (model prog w) A E s (binarySort' lo n ok) Q (stq κ it p pd g):=by
 have go:∀ {body:Nat->Option Bool × Unit->StateT SortSt Sem (ForInStep (Option Bool × Unit))} (hb:∀ k (p p2:Array Nat) (c:Nat × Nat),iter (bF1 cm lo k p) k (0,k)=some c->p2=bubble p (lo+k) (lo+k-(lo+c.1))->∀ Q:ForInStep (Option Bool × Unit)->SortSt->Prop,Q (.yield (none,())) (stq κ it p2 pd g)->wpS (model prog w) A E s (body k (none,())) Q (stq κ it p pd g)),
   ∀ (l:List Nat) (p p':Array Nat),qV cm lo l p=some p'->∀ Q:Option Bool × Unit->SortSt->Prop,Q (none,()) (stq κ it p' pd g)->wpS (model prog w) A E s (forIn l (none,()) body) Q (stq κ it p pd g):=by
  intro body hb l
  induction l with
  |nil=>
   intro p p' h Q q;cases h;rw[List.forIn_nil];exact wpS_pure q
  |cons k l ih=>
   intro p p' h Q q;obtain⟨c,h1,h⟩:=ob h;rw[List.forIn_cons];exact wpS_bind (hb k p _ c h1 rfl _ (ih _ _ h Q q))
 have rng:∀ {body:Nat->Option Bool × Unit->StateT SortSt Sem (ForInStep (Option Bool × Unit))} {Q:Option Bool × Unit->SortSt->Prop} {st:SortSt} {a b:Nat},wpS (model prog w) A E s (forIn (List.range' a (b-a)) (none,()) body) Q st->wpS (model prog w) A E s (forIn [a:b] (none,()) body) Q st:=fun {body Q st a b} h=>by
  rw[Std.Legacy.Range.forIn_eq_forIn_range']
  have hsz:([a:b]:Std.Legacy.Range).size=b-a:=by simp[Std.Legacy.Range.size]
  show wpS _ _ _ _ (forIn (List.range' a ([a:b]:Std.Legacy.Range).size 1) _ body) Q st;rw[hsz];exact h
 refine wpS_bind (rng (go (fun k p p2 c h1 h2 Q q=>?_) _ _ _ h _ (wpS_pure q)));subst h2;refine wpS_bind (ck (fun c:Nat × Nat=>((none,c.1,c.2):Option Bool × Nat × Nat)) (fun _=>stq κ it p pd g) (bF1 cm lo k p) (fun _ c b d hd Q hq=>?_) (a:=0) (b:=k) (c:=(0,k)) (r:=c) h1 ?_ rfl rfl)
 case refine_2=>exact wpS_bind (B2 (wpS_pure q))
 obtain⟨l,r⟩:=c;by_cases ho:l≥r
 ·rw[bF1,if_pos ho]at hd;cases hd;dsimp only;rw[if_pos ho];exact wpS_pure hq
 ·rw[bF1,if_neg ho]at hd;obtain⟨t,e1,e2⟩:=om hd;dsimp only;rw[if_neg ho];refine wpS_bind (gy K e1 ?_);cases t<;>cases e2<;>exact wpS_pure hq
def ym(f:Nat->Keyed)(p:Array Nat)(i x:Nat):(p.map f).setIfInBounds i (f x)=(p.setIfInBounds i x).map f:=by
 rw[Array.map_setIfInBounds]
def sV(f:Nat->Keyed)(sa:Nat):∀ (l:List Nat) (n:Nat) (p:Array Nat),((l.map f).zipIdx n).foldl (fun a (q:Keyed × Nat)=>a.setIfInBounds (sa+q.2) q.1) (p.map f)=(zs sa (l.zipIdx n) p).map f
 | [],_,_=>rfl
 | x::l,n,p=>by
  show((l.map f).zipIdx (n+1)).foldl _ ((p.map f).setIfInBounds (sa+n) (f x))=_;rw[ym];exact sV f sa l (n+1) _
def zM(K:eV prog w A s κ it cm){p p':Array Nat}{g g' sa na pw sb nb pv:Nat}(h:mat cm p g sa na sb nb=some (p',g')){Q:Bool->SortSt->Prop}(q:Q true (stq κ it p' #[(sa,na+nb,pw)] g')):wpS (model prog w) A E s (mergeAt' 0) Q (stq κ it p #[(sa,na,pw),(sb,nb,pv)] g):=by
 obtain⟨u,h1,h⟩:=ob h;obtain⟨k,h2,h⟩:=ob h;split at h
 ·cases h
 rename_i n1;obtain⟨v,h3,h⟩:=ob h;obtain⟨l,h4,h⟩:=ob h;split at h
 ·cases h
 rename_i n2;split at h
 case isFalse=>cases h
 rename_i n3;obtain⟨r,h5,h⟩:=om h;cases h;refine wpS_bind (wpS_get ?_);refine wpS_bind (xY ?_);refine wpS_bind (aL h1 (wpS_bind (eL K (by rfl) h2 ?_)));dsimp only;rw[if_neg n1];refine wpS_bind (aL h3 (wpS_bind (eL K (by rfl) h4 ?_)));dsimp only;rw[if_neg n2,if_pos n3]
 have ex:∀ i j,(p.map (kas_item it)).extract i j=(p.extract i j).map (kas_item it):=fun i j=>by rw[Array.map_extract]
 show wpS _ _ _ _ (mO ((p.map (kas_item it)).extract (sa+k) sb) ((p.map (kas_item it)).extract sb (sb+l)) >>= _) _ _;rw[ex,ex];refine wpS_bind (zF K (by rfl) h5 ?_);refine wpS_bind (wpS_modify (wpS_bind (wpS_get (wpS_pure ?_))))
 have e:((r.1.map (kas_item it)).toList.zipIdx).foldl (fun a (x:Keyed × Nat)=>a.setIfInBounds (sa+k+x.2) x.1) (p.map (kas_item it))=(zs (sa+k) (r.1.toList.zipIdx 0) p).map (kas_item it):=by
  rw[Array.toList_map];exact sV (kas_item it) (sa+k) r.1.toList 0 p
 have ep:((#[(sa,na,pw),(sb,nb,pv)]:Array (Nat × Nat × Nat)).setIfInBounds 0 (sa,na+nb,pw)).eraseIdxIfInBounds (0+1)=#[(sa,na+nb,pw)]:=by simp[Array.eraseIdxIfInBounds,Array.setIfInBounds]
 show Q true (SortSt.mk' κ (((r.1.map (kas_item it)).toList.zipIdx).foldl (fun a (x:Keyed × Nat)=>a.setIfInBounds (sa+k+x.2) x.1) (p.map (kas_item it))) (((#[(sa,na,pw),(sb,nb,pv)]:Array (Nat × Nat × Nat)).setIfInBounds 0 (sa,na+nb,pw)).eraseIdxIfInBounds (0+1)) r.2 none);rw[e,ep];exact q
def Bs(K:eV prog w A s κ it cm){p p':Array Nat}(h:srt cm p=some p'){Q:Unit->SortSt->Prop}(q:∀ pd g,Q () (stq κ it p' pd g)):wpS (model prog w) A E s sortRuns' Q (stq κ it p #[] 7):=by
 obtain⟨c,h1,h⟩:=ob h;obtain⟨d,h2,h⟩:=om h;subst h;refine wpS_bind (wpS_get ?_);have hz:(arrOf (stq κ it p #[] 7)).size=p.size:=Array.size_map;show wpS _ _ _ _ (forIn [:(arrOf (stq κ it p #[] 7)).size] ((none,0):Option Unit × Nat) _ >>= _) _ _;rw[hz];refine wpS_bind (ck (fun c:Nat × Array Nat × Pd=>((none,c.1):Option Unit × Nat)) (fun c=>stq κ it c.2.1 c.2.2 7) (sF cm p.size (minRun' p.size p.size 0)) (fun _ c b d hd Q hq=>?_) (a:=0) (c:=(0,p,#[])) (r:=c) h1 ?_ rfl rfl)
 case refine_2 =>
  dsimp only;refine wpS_bind (ck (fun _=>((none,()):Option Unit × Unit)) (fun c=>stq κ it c.1 c.2.1 c.2.2) (sG cm) (fun _ c b d hd Q hq=>?_) (a:=0) (c:=(c.2.1,c.2.2,7)) (r:=d) h2 (wpS_pure (q _ _)) rfl rfl);obtain⟨p,pd,g⟩:=c;refine wpS_bind (wpS_get ?_);show wpS _ _ _ _ (if pd.size<=1 then _ else _) _ _;by_cases hp:pd.size<=1
  ·rw[sG,if_pos hp]at hd;cases hd;rw[if_pos hp];exact wpS_pure hq
  ·rw[sG,if_neg hp]at hd;rw[if_neg hp];unfold sM at hd;split at hd
   ·rename_i sa na pw sb nb pv he;have he:pd=⟨[(sa,na,pw),(sb,nb,pv)]⟩:=he;subst he;obtain⟨r,e1,e2⟩:=om hd;cases e2;show wpS _ _ _ _ (mergeAt' 0 >>= _) _ _;exact wpS_bind (zM K e1 (wpS_pure hq))
   ·cases hd
 obtain⟨lo,p1,pd⟩:=c;show wpS _ _ _ _ (if lo≥p.size then _ else _) _ _;by_cases hlo:lo≥p.size
 ·rw[sF,if_pos hlo]at hd;cases hd;rw[if_pos hlo];exact wpS_pure hq
 rw[sF,if_neg hlo]at hd;rw[if_neg hlo];obtain⟨⟨n,p2⟩,e1,hd⟩:=ob hd;refine wpS_bind (xC K e1 ?_);dsimp only;by_cases hn:n<minRun' p.size p.size 0
 ·rw[if_pos hn]at hd;obtain⟨p3,e4,hd⟩:=ob hd;obtain⟨pd',e2,e3⟩:=om hd;cases e3;have hn':n<(sortPriv% PySem.Builtin.minRun) p.size p.size 0:=hn;rw[if_pos hn'];refine wpS_bind (wpS_lift (wpAny_rule ⟨rfl,wpS_bind (yo K e4 ?_)⟩));refine wpS_bind (wpS_get ?_);unfold sP at e2
  cases hbk:Array.back? pd with
  |none=>
   rw[hbk]at e2;cases e2;have hb':(pendingOf (stq κ it p3 pd 7)).back?=none:=hbk;rw[hb'];exact wpS_bind (wpS_modify (wpS_pure hq))
  |some x=>
   obtain⟨s1,n1,x3⟩:=x;rw[hbk]at e2
   try dsimp only at e2
   split at e2
   ·cases e2
   rename_i hsz;cases e2;have hb':(pendingOf (stq κ it p3 pd 7)).back?=some (s1,n1,x3):=hbk;rw[hb'];refine wpS_bind (ck (fun _:Unit=>((none,()):Option Unit × Unit)) (fun _=>stq κ it p3 pd 7) (fun _=>some (false,())) (fun _ c b d hd Q hq=>?_) (a:=0) (b:=p.size) (c:=()) (r:=()) (by rw[Nat.sub_zero];cases p.size<;>rfl) ?_ rfl rfl)
   ·cases hd;refine wpS_bind (wpS_get ?_);have hs':¬ (pendingOf (stq κ it p3 pd 7)).size > 1:=hsz
    try dsimp only
    rw[if_neg hs'];exact wpS_pure hq
   ·exact wpS_bind (wpS_modify (wpS_bind (wpS_modify (wpS_pure hq))))
 ·rw[if_neg hn]at hd;obtain⟨pd',e2,e3⟩:=om hd;cases e3;have hn':¬ n<(sortPriv% PySem.Builtin.minRun) p.size p.size 0:=hn;rw[if_neg hn'];refine wpS_bind (wpS_get ?_);unfold sP at e2
  cases hbk:Array.back? pd with
  |none=>
   rw[hbk]at e2;cases e2;have hb':(pendingOf (stq κ it p2 pd 7)).back?=none:=hbk;rw[hb'];exact wpS_bind (wpS_modify (wpS_pure hq))
  |some x=>
   obtain⟨s1,n1,x3⟩:=x;rw[hbk]at e2
   try dsimp only at e2
   split at e2
   ·cases e2
   rename_i hsz;cases e2;have hb':(pendingOf (stq κ it p2 pd 7)).back?=some (s1,n1,x3):=hbk;rw[hb'];refine wpS_bind (ck (fun _:Unit=>((none,()):Option Unit × Unit)) (fun _=>stq κ it p2 pd 7) (fun _=>some (false,())) (fun _ c b d hd Q hq=>?_) (a:=0) (b:=p.size) (c:=()) (r:=()) (by rw[Nat.sub_zero];cases p.size<;>rfl) ?_ rfl rfl)
   ·cases hd;refine wpS_bind (wpS_get ?_);have hs':¬ (pendingOf (stq κ it p2 pd 7)).size > 1:=hsz
    try dsimp only
    rw[if_neg hs'];exact wpS_pure hq
   ·exact wpS_bind (wpS_modify (wpS_bind (wpS_modify (wpS_pure hq))))
end
end TM
namespace L2
open PySem PySem.Spec PyProof.Rows
end L2
namespace RS
open PySem PySem.Spec PyProof.Rows L2
end RS
namespace L2
open PySem PySem.Spec PyProof.Rows
section
variable{prog:Program}{w:World}{A:Around}{E:Value->Shared->Prop}{s:Shared}
def pj{R:List Value->Shared->Prop}{r:Addr}{a b c:Int}{t u v:Tok}{n:Nat}(hh:A.handled=none)(hr:IsRange s.heap r a b c t u v)(hs:Builtin.Range.small a b c=true)(hn:Builtin.Range.rangeSize a b c=n)(hl:n<=2 ^ 24)
 (k:∀ g tk acc,(∀ q o,s.heap.get? q=some o->g.get? q=some o)->ItemsOf (fun i x=>∃ t,x=.int (a+i*c) t) acc n->R acc.toList { s with heap:=g,toks:=tk }):wpAny (model prog w) A (collect (.ref r)) R E s:=by
 unfold collect;refine wpAny_bind (wpAny_runValue (codeAny_builtin PySem.F.entry_proto_collect ?_));rw[Around.under_plainId PySem.F.plain_proto_collect _];refine wpAny_bind (wpAny_newObj_type ?_);refine wpAny_pure ⟨plainId_quiet PySem.F.plain_list_iadd _,codeAny_builtin PySem.F.entry_list_iadd ?_⟩;rw[Around.under_plainId PySem.F.plain_list_iadd _];have e0:(s.heap.push { cls:=.type "list",data:=.seq ([]:List Value).toArray }).get? s.heap.objs.size=some { cls:=.type "list",data:=.seq #[] 0 }:=Heap.get?_push_size _ rfl;show wpAny _ A.in1 (Builtin.List.listExtendWith (.ref s.heap.objs.size) (.ref r) (.ref s.heap.objs.size)) _ _ _
 have fin:∀ s',(∃ g tk acc c',s'={ s with heap:=g,toks:=tk }/\(∀ q o,s.heap.get? q=some o->g.get? q=some o)/\g.get? s.heap.objs.size=some { cls:=.type "list",dict:=none,data:=.seq acc c',slots:=#[] }/\ItemsOf (fun i x=>∃ t,x=.int (a+i*c) t) acc n) ->
   wpAny (model prog w) A (match Value.ref s.heap.objs.size with
   | Value.ref a=>do
    match(<- load a).data with
     | Data.seq xs _=>pure xs.toList
     | _=>unsupported "internal:collect"
   | _=>unsupported "internal:collect") R E s':=by
  rintro s' ⟨g,tk,acc,c',rfl,g1,g2,g3⟩;exact wpAny_bind (wpAny_load g2 (wpAny_pure (k g tk acc g1 g3)))
 refine wpAny_mono (wpAny_extend_range (A:=A) (R:=fun r s'=>r=.ok (.ret (.ref s.heap.objs.size))/\∃ g tk acc c',s'={ s with heap:=g,toks:=tk }/\(∀ q o,s.heap.get? q=some o->g.get? q=some o)/\g.get? s.heap.objs.size=some { cls:=.type "list",dict:=none,data:=.seq acc c',slots:=#[] }/\ItemsOf (fun i x=>∃ t,x=.int (a+i*c) t) acc n)
  (s:={ s with heap:=s.heap.push { cls:=.type "list",data:=.seq ([]:List Value).toArray } }) hh (Heap.get?_push_of_some _ hr) hs hn hl s.heap.objs.size _ 0 e0 fun g tk acc c' g1 g2 g3=>⟨rfl,g,tk,acc,c',rfl,fun q o e=>g1 q o (Nat.ne_of_lt (Heap.lt_size e)) (Heap.get?_push_of_some _ e),g2,g3⟩) (fun f s' h=>?_) (fun e s' h=>?_)
 ·cases f with
  |done f=>
   obtain⟨e,h⟩:=h;cases e;exact fin s' h
  | again c'=>exact⟨h.1,codeAny_mono h.2 fun r s'' hr=>by obtain⟨rfl,h⟩:=hr;exact fin s'' h⟩
 ·exact absurd h.1 (by simp)
def tf(r:Addr){a b c:Int}{t u v:Tok}{n:Nat}(hs:Builtin.Range.small a b c=true)(hn:Builtin.Range.rangeSize a b c=n)(hl:n<=2 ^ 24) :
  Meets (Builtin.«tuple.__new__» ⟨[.type "tuple",.ref r],[]⟩) (fun A R s=>A.handled=none/\IsRange s.heap r a b c t u v /\
   ∀ (g:Heap) (tk:Nat) (acc:Array Value),(∀ q o,s.heap.get? q=some o->g.get? q=some o)->ItemsOf (fun i x=>∃ t,x=.int (a+i*c) t) acc n->R (.ok (.ret (.ref g.objs.size))) { s with heap:=g.push { cls:=.type "tuple",data:=.seq acc },toks:=tk }) :=
 .of_wp fun prog w A R s h=>by
  obtain⟨hh,hr,h⟩:=h;have q1:=sub_tuple_self;have q2:=init_tuple_lookup;have q3:=madeHere_tuple
  have hT:s.TypeIs (.ref r) "range" := ⟨_,hr,rfl⟩
  obtain⟨hp,g,d,tk,os⟩:=s
  wp_walk using wpAny_loadPart' hr,wpAny_typeOf hT,pj (A:=A.in1) hh hr hs hn hl
  intro g1 tk1 acc hk hI
  have es:acc.size<=sizeLine:=by rw[hI.1];exact Nat.le_trans hl (by decide)
  show wpAny _ _ (Builtin.Tuple.tupleExact acc.toList.toArray >>= fun v=>ret v) _ _ _;exact wpAny_bind (wpAny_newObj_type (wpAny_pure ⟨_,rfl,h g1 tk1 acc hk hI⟩) es)
end
end L2
namespace RS
open PySem PySem.Spec PyProof.Rows L2
def nY{X:Cx}(hc:X.calm=true):br X (.type "tuple") (fun xs H Q=>∃ p a b c,xs=[.ref p]/\H p=some (jy p a b c)/\Builtin.Range.small a b c=true/\RL.bq c a b<=RL.most /\
  ∀ l,H l=none->Q (.ref l) (upd H l (.tup (bT a c (RL.bq c a b))))):=by
 intro pins s σ H xs us Q I r h;obtain⟨p,a,b,c,rfl,hp,hs,hn,q⟩:=h
 cases r with
 |cons r rr=>
  cases rr;cases r;obtain⟨⟨t,u,v,hR⟩,_,_⟩:=I.hok p _ hp;refine callType_new PySem.F.called_tuple (by decide) (PySem.F.typeCall_tuple_1 _) (PySem.F.newCall_tuple_1 _) (fun obj=>PySem.F.args_object_init_2 obj _) PySem.F.entry_tuple_new (tf p hs (fP a b c).symm (Nat.le_trans hn (by decide))) ⟨I.ok.hd.1 hc,hR,fun g tk acc hk hI=>⟨⟨_,Heap.get?_push_size _ rfl,rfl⟩,?_⟩⟩;have I1:=I.kept (t':=tk) hk
  have I2:Inv X pins σ (upd H g.objs.size (.tup (bT a c (RL.bq c a b)))) { s with heap:=g.push { cls:=.type "tuple",data:=.seq acc },toks:=tk } :=
   I1.laid (fun b o e=>Heap.get?_push_of_some _ e) (Nat.le_refl _) (show bu X.prog X.w _ _ _ (.tup (bT a c (RL.bq c a b)))from⟨by simp only[bT,List.length_map,List.length_range];exact Nat.le_trans hn c7,acc.toList,qc hI,by rw[Array.toArray_toList];exact IsTup.new _ _⟩)
  exact⟨.ref g.objs.size,_,I2,rfl,q _ (I1.hok.fresh (Nat.le_refl _))⟩
def xw{X:Cx}{cl:RL.Cl}{a:Expr}{a':RL.E}{p pos p2 pos2:Pos}(hc:X.calm=true)(hgl:Gl X "tuple")(hml:X.mg "tuple" = none)(hg:Gl X "range")(hm:X.mg "range" = none)(ha:SE X cl a a')(hn:noStar a=true):SE X cl (.Call (.Name "tuple" p2) [.Call (.Name "range" p) [a] [] pos] [] pos2) (.rngT a'):=by
 refine PE.weak (bX (nY hc) hgl hml (by decide +kernel) (bb (bX fB hg hm boot_range (bx ha cG hn) (by decide) (by decide) (au [] hn) rfl) cK rfl) (by decide) (by decide) rfl rfl) fun σ H Q h=>?_;obtain⟨σD,d,rv,e,k⟩:=h;obtain⟨x,ea,e⟩:=bind_some (show(RL.ev cl σD a').bind _=some d from e);obtain⟨ds,e1,e2⟩:=map_some e;subst e2;obtain⟨i,j,e3,rfl,hb,hm2,rfl⟩:=iv e1;cases e3
 have hb2:-(2 ^ 60)<=j/\j<2 ^ 60:=by
  simp only[RL.cz]at e1;split at e1
  ·lia
  ·cases e1
 refine one rv ea fun v H1 s1 r1=>⟨0,j,1,.inl ⟨by rw[ah r1],rfl,rfl⟩,fun p hp=>⟨p,0,j,1,rfl,aR,fZ (by decide) (by decide) hb2.1 hb2.2 (by decide) (by decide),by rw[dk];exact hm2,fun l hl=>k _ _ ?_⟩⟩
 rw[hW,<-dk];exact eu (s1.trans (ax.bY hp)) hl (iE _ _ _) fun _=>rfl
end RS
namespace L2
open PySem PySem.Spec PyProof.Rows
end L2
namespace RS
open PySem PySem.Spec PyProof.Rows L2
end RS
namespace L2
open PySem PySem.Spec PyProof.Rows
end L2
namespace RS
open PySem PySem.Spec PyProof.Rows L2
section
open PySem.Builtin.Str
end
section
variable{X:Cx}{cl:RL.Cl}{a b:Expr}{a' b' e':RL.E}{pos p2:Pos}{M:List Nat}{st:Stmt}{i:Nat}
end
section
variable{X:Cx}{cl:RL.Cl}{a b c d:Expr}{a' b' c' d':RL.E}{pos apos p p2 p3:Pos}
end
section
open PySem.W
variable{prog:Program}{w:World}{A:Around}{E:Value->Shared->Prop}{s:Shared}
variable{vs:List Value}{xs:List Str}
end
variable{X:Cx}
section
variable{K:PySem.W.Frag}
def RVm.Bq(h:RVm K N1 σD σ H)(sub:∀ i,N2.contains i=true->N1.contains i=true):RVm K N2 σD σ H where
 len:=h.len
 val:=fun i d e=>by
  obtain⟨v,h1,h2⟩:=h.val i d e;refine⟨v,h1,?_⟩;by_cases hm:N2.contains i=true
  ·rw[if_pos hm];rw[if_pos (sub i hm)]at h2;exact h2
  ·rw[if_neg hm];by_cases hn:N1.contains i=true
   ·rw[if_pos hn]at h2;obtain⟨a,o,rfl,_,_⟩:=h2.ref;have np:¬ ba N2 σ a:=fun⟨k,hk,ek⟩=>hm ((h.sep i k a hn (sub k hk) h1 ek)▸hk);obtain⟨q1,q2,q3⟩:=h2
    exact q3.top q2 fun _ b z=>by cases z;exact np
   ·rw[if_neg hn]at h2
    exact h2.weak fun b ⟨k,hk,ek⟩=>⟨k,sub k hk,ek⟩
 non:=h.non
 sep:=fun i j a hi hj=>h.sep i j a (sub i hi) (sub j hj)
def cY{M:List Nat}{i j:Nat}(h:(j::M).contains i=true):i=j\/M.contains i=true:=by simpa using h
def dF{M:List Nat}{j:Nat}:(j::M).contains j=true:=by simp
def c9{M:List Nat}{i j:Nat}(h:M.contains i=true):(j::M).contains i=true:=by simp at h ⊢;exact .inr h
def RVm.open(h:RVm K M σD σ H)(s:ax H H1)(ha:H a=none)(r:Own K H1 d (.ref a)):RVm K (i::M) (σD.set i (some d)) (σ.set i (some (.ref a))) H1 /\
  ∀ b,ba (i::M) (σ.set i (some (.ref a))) b->ba M σ b\/b=a:=by
 have sub:∀ b,ba (i::M) (σ.set i (some (.ref a))) b->ba M σ b\/b=a:=fun b ⟨j,hj,e⟩=>by
  by_cases hji:j=i
  ·subst hji
   have hlt:j<σ.length:=by simpa using(List.getElem?_eq_some_iff.mp e).1
   rw[List.getElem?_set_self hlt]at e;cases e;exact .inr rfl
  ·rw[List.getElem?_set_ne (Ne.symm hji)]at e;exact .inl ⟨j,(cY hj).resolve_left hji,e⟩
 have old:∀ b,ba M σ b->b≠a:=fun b p z=>h.qS b p (z▸ha);refine⟨⟨by simpa using h.len,fun j dj e=>?_,fun j w e=>?_,fun j k b hj hk e1 e2=>?_⟩,sub⟩
 ·by_cases hj:j=i
  ·subst hj
   have hlt:j<σD.length:=by simpa using(List.getElem?_eq_some_iff.mp e).1
   rw[List.getElem?_set_self hlt]at e;cases e;refine⟨.ref a,by rw[List.getElem?_set_self (by rw[<-h.len];exact hlt)],?_⟩;rw[if_pos dF];exact r
  ·rw[List.getElem?_set_ne (Ne.symm hj)]at e ⊢;obtain⟨v,h1,h2⟩:=h.val j dj e;refine⟨v,h1,?_⟩;by_cases hm:M.contains j=true
   ·rw[if_pos (c9 hm)];rw[if_pos hm]at h2;exact h2.same s
   ·rw[if_neg fun z=>hm ((cY z).resolve_left hj)];rw[if_neg hm]at h2;exact((h2.cS ha).weak sub).same s
 ·by_cases hj:j=i
  ·subst hj
   have hlt:j<σ.length:=by simpa using(List.getElem?_eq_some_iff.mp e).1
   exact⟨d,by rw[List.getElem?_set_self (by rw[h.len];exact hlt)]⟩
  ·rw[List.getElem?_set_ne (Ne.symm hj)]at e ⊢;exact h.non j w e
 ·by_cases h1:j=i
  ·by_cases h2:k=i
   ·rw[h1,h2]
   ·subst h1
    have hlt:j<σ.length:=by simpa using(List.getElem?_eq_some_iff.mp e1).1
    rw[List.getElem?_set_self hlt]at e1;rw[List.getElem?_set_ne (Ne.symm h2)]at e2;cases e1;exact absurd rfl (old _ ⟨k,(cY hk).resolve_left h2,e2⟩)
  ·rw[List.getElem?_set_ne (Ne.symm h1)]at e1;by_cases h2:k=i
   ·subst h2
    have hlt:k<σ.length:=by simpa using(List.getElem?_eq_some_iff.mp e2).1
    rw[List.getElem?_set_self hlt]at e2;cases e2;exact absurd rfl (old _ ⟨j,(cY hj).resolve_left h1,e1⟩)
   ·rw[List.getElem?_set_ne (Ne.symm h2)]at e2;exact h.sep j k b ((cY hj).resolve_left h1) ((cY hk).resolve_left h2) e1 e2
end
abbrev FrX(M N1:List Nat)(σ0:L2.St)(H0:Hp)(σ:L2.St)(H:Hp):Prop:=(∀ b o,H0 b=some o->¬ ba M σ0 b->H b=some o/\¬ ba N1 σ b)/\∀ j,2<=M.count j->σ[j]?=σ0[j]?
abbrev tQ(K:PySem.W.Frag)(M N1:List Nat)(f:RL.St->Option (RL.Out × RL.St)):TS:=fun D σ H=>∃ σ0 H0 σD r σD',RVm K N1 σD σ H/\FrX M N1 σ0 H0 σ H/\f σD=some (r,σD')/\ly K M D σ0 H0 r σD'
abbrev SQ(X:Cx)(cl:RL.Cl)(M N1:List Nat)(st:List Stmt)(s:RL.Sq):Prop:=PSs X st (tQ X.K M N1 (RL.iM cl M N1 s))
section
variable{X:Cx}{M N1:List Nat}{st:Stmt}{sts:List Stmt}{j:Nat}
def AB(h:SSs X cl M sts r)(sub:∀ i,M.contains i=true->N1.contains i=true):SQ X cl M N1 sts (.cls r):=by
 refine PSs.weak h fun D σ H h=>?_;obtain⟨σ0,H0,σD,o,σD',rv,fr,e,k⟩:=h;exact⟨σD,o,σD',rv.Bq sub,e,k.from ⟨fun b u eb n=>⟨(fr.1 b u eb n).1,fun⟨j,hj,ej⟩=>(fr.1 b u eb n).2 ⟨j,sub j hj,ej⟩⟩,fr.2⟩⟩
def yG(h1:SS X cl N1 st s)(h2:SQ X cl M N1 sts r)(cnt:∀ j,2<=M.count j->2<=N1.count j):SQ X cl M N1 (st::sts) (.cons s r):=by
 refine PSs.weak (eB h1 h2) fun D σ H h=>?_;obtain⟨σ0,H0,σD,o,σD',rv,fr,e,k⟩:=h;obtain⟨p,e1,e2⟩:=bind_some e;obtain⟨o1,σ1⟩:=p
 cases o1 with
 | rt d=>cases e2
 | nx=>exact⟨σD,.nx,σ1,rv,e1,fun σ' H' rv' fr'=>⟨σ0,H0,σ1,o,σD',rv',⟨fun b u eb n=>fr'.1 b u (fr.1 b u eb n).1 (fr.1 b u eb n).2,fun j hj=>(fr'.2 j (cnt j hj)).trans (fr.2 j hj)⟩,e2,k⟩⟩
def qp{K:PySem.W.Frag}(rv:RVm K N1 σD σ H)(fr:FrX M N1 σ0 H0 σ H)(hj:M.count j<2)(ok:(RL.aS d&&RL.aD e')=true)(r1:Res K σD σ H e' d v H1):RVm K (j::N1) (σD.set j (some d)) (σ.set j (some v)) H1/\FrX M (j::N1) σ0 H0 (σ.set j (some v)) H1:=by
 rw[Bool.and_eq_true]at ok
 have m:jz d=true:=by
  cases d with
  | lst _=>rfl
  | dK _ _=>rfl
  | dT _ _=>rfl
  | _=>cases ok.1
 have ow:Own K H1 d v:=⟨m,ok.1,r1.rep⟩
 obtain⟨a,ob,rfl,_,_⟩:=ow.ref;have hn:=r1.fresh ok.2 m a rfl;obtain⟨g1,g2⟩:=rv.open (i:=j) r1.same hn ow;refine⟨g1,fun b u eb n=>⟨r1.same _ _ (fr.1 b u eb n).1,fun z=>(g2 b z).elim (fr.1 b u eb n).2 fun q=>aG (fr.1 b u eb n).1 hn q⟩,fun k hk=>?_⟩;rw[List.getElem?_set_ne (fun z=>by subst z;lia)];exact fr.2 k hk
def zu(h:SA X cl st j e')(hj:M.count j<2)(h2:SQ X cl M (j::N1) sts r):SQ X cl M N1 (st::sts) (.opn j e' r):=by
 refine PSs.weak (eB h h2) fun D σ H h=>?_;obtain⟨σ0,H0,σD,o,σD',rv,fr,e,k⟩:=h;obtain⟨d,e1,e2⟩:=bind_some e;split at e2
 ·rename_i ok;refine⟨σD,d,rv.rv0,e1,fun v H1 r1=>?_⟩;obtain⟨g1,g2⟩:=qp rv fr hj ok r1;exact⟨σ0,H0,_,o,σD',g1,g2,e2,k⟩
 ·cases e2
def y4(h:SA X cl st j e')(hj:M.contains j=false)(h2:SQ X cl M (j::M) sts r):SSs X cl M (st::sts) (.opn j e' r):=by
 refine PSs.weak (eB h h2) fun D σ H h=>?_;obtain⟨σD,o,σD',rv,e,k⟩:=h;obtain⟨d,e1,e2⟩:=bind_some e;split at e2
 ·rename_i ok;refine⟨σD,d,rv.rv0,e1,fun v H1 r1=>?_⟩
  have c0:M.count j<2:=by
   have:M.count j=0:=List.count_eq_zero.mpr (by simpa using hj);lia
  obtain⟨g1,g2⟩:=qp (M:=M) (σ0:=σ) (H0:=H) rv ⟨fun b u eb n=>⟨eb,n⟩,fun _ _=>rfl⟩ c0 ok r1;exact⟨σ,H,_,o,σD',g1,g2,e2,k⟩
 ·cases e2
end
section
variable{X:Cx}
variable{M:List Nat}{st:Stmt}{i:Nat}{cl:RL.Cl}
end
open PySem.W
section
variable{prog:Program}{w:World}{A:Around}{E:Value->Shared->Prop}{s:Shared}
abbrev uW(h:Heap)(v:Value)(ns:List Int):Prop:=∃ a o xs n,v=.ref a/\h.get? a=some o/\o.cls=.type "tuple" /\ o.data=.seq xs n/\Vals (ns.map V.int) xs.toList
def rV{fin:Bool}{Q:Bool->Shared->Prop}:∀ {as bs:List Int} {xs ys:List Value} (i:Nat),Vals (as.map V.int) xs->Vals (bs.map V.int) ys->Q (TM.qZ fin (as.zip bs)) s->KatLex prog w A true fin Q (xs.zip ys) i s
 | [],_,_,_,i,.nil,_,q=>kat_nil q
 | _::_,[],_,_,i,.cons _ _,.nil,q=>kat_nil q
 | a::as,b::bs,_,_,i,.cons ha hx,.cons hb hy,q=>by
  obtain⟨t,rfl⟩:=ha;obtain⟨u,rfl⟩:=hb;refine kat_cons (wpAny_eqBool_int ?_);have q:Q (if a == b then TM.qZ fin (as.zip bs)else decide (a<b)) s:=q
  cases e:a == b with
  |true=>
   rw[e]at q;exact kat_yes (rV (i+1) hx hy q)
  |false=>
   rw[e]at q;refine kat_no ?_
   cases i with
   | zero=>exact oneLt_int q
   | succ i=>exact kat_one _ _ (lt_int q)
def A1{a b:List Int}{x y:Value}(hx:uW s.heap x a)(hy:uW s.heap y b){Q:Bool->Shared->Prop}(q:Q (TM.AS a b) s):wpAny (model prog w) A (keyLt' (tuples' true) x y) Q E s:=by
 obtain⟨x,ox,xs,n,rfl,h1,_,h2,rx⟩:=hx;obtain⟨y,oy,ys,m,rfl,h3,_,h4,ry⟩:=hy;refine kat_lt h1 h2 h3 h4 (rV 0 rx ry ?_);have e1:=rx.length;have e2:=ry.length;rw[List.length_map]at e1 e2;rw[<-Array.length_toList,<-Array.length_toList,<-e1,<-e2];exact q
structure di(h:Heap)(vs:List Value)(ts:List (List Int)):Prop where
 len:vs.length=ts.length
 at':∀ i t,ts[i]?=some t->uW h (vs.getD i Value.none) t/\t≠[]
def di.CI{vs:List Value}{ts:List (List Int)}(T:di s.heap vs ts):TM.eV prog w A s (tuples' true) (pairsOf vs) (TM.cmT ts):=fun i j b h=>by
 obtain⟨x,h1,h⟩:=TM.ob h;obtain⟨y,h2,h⟩:=TM.om h;subst h;rw[kas_item_eq,kas_item_eq];exact A1 (T.at' i x h1).1 (T.at' j y h2).1 ⟨rfl,rfl⟩
def di.uA:∀ {vs:List Value} {ts:List (List Int)} {h:Heap},di h vs ts->∃ fs,KatTups h vs fs/\fs.length=vs.length/\∀ f∈fs,∃ k t,f=.int k t
 | [],_,_,_=>⟨[],.nil,rfl,fun _ z=>nomatch z⟩
 | v::vs,[],h,T=>by cases T.len
 | v::vs,t::ts,h,T=>by
  have T':di h vs ts:=⟨by simpa using T.len,fun i x e=>by simpa using T.at' (i+1) x (by simpa using e)⟩
  obtain⟨fs,a1,a2,a3⟩:=T'.uA;obtain⟨⟨a,o,xs,n,e1,e2,e3,e4,rv⟩,ne⟩:=T.at' 0 t rfl
  cases t with
  | nil=>exact absurd rfl ne
  |cons k t=>
   obtain⟨u,h1,tk,rfl⟩:=rv.get (i:=0) (x:=.int k) rfl;have e1:v=.ref a:=e1;subst e1
   exact⟨.int k tk::fs,KatTups.cons e2 e3 e4 (by rw[<-Array.getElem?_toList];exact h1) a1,by simp[a2],fun f hf=>by
    rcases List.mem_cons.mp hf with z | z
    ·exact⟨_,_,z⟩
    ·exact a3 f z⟩
def di.keep{vs:List Value}{ts:List (List Int)}{h h':Heap}(T:di h vs ts)(k:∀ b o,h.get? b=some o->o.cls=.type "tuple" -> h'.get? b=some o):di h' vs ts :=
 ⟨T.len,fun i t e=>by
  obtain⟨⟨a,o,xs,n,e1,e2,e3,e4,rv⟩,ne⟩:=T.at' i t e
  exact⟨⟨a,o,xs,n,e1,k a o e2 e3,e3,e4,rv⟩,ne⟩⟩
def mf{a:Addr}{n:Nat}{vs:List Value}{ts:List (List Int)}{ps:List Nat}{P:PySem.Fin->Shared->Prop}(ho:s.heap.get? a=some (seqObj "list" vs.toArray n))(T:di s.heap vs ts)(hp:TM.eN ts=some ps)(hz:vs.length<=sizeLine)
 (h:P (.done (.ret .none)) { s with heap:=sortedHeap s.heap a vs (ps.map fun i=>vs.getD i Value.none).toArray }):wpAny (model prog w) A (Builtin.«list.sort» ⟨[.ref a],[]⟩) P E s:=by
 obtain⟨e1,ho1⟩:∃ e1,(s.heap.update a (Obj.mapSeq fun _=>(#[]:Array Value))).get? a=some (seqObj "list" #[] e1):=⟨_,get?_update_seq ho fun _=>#[]⟩
 have ho3:(((s.heap.update a (Obj.mapSeq fun _=>(#[]:Array Value))).push (seqObj "tuple" vs.toArray 0)).push (seqObj "list" #[] 0)).get? a=some (seqObj "list" #[] e1):=Heap.get?_push_of_some _ (Heap.get?_push_of_some _ ho1)
 have T3:di (((s.heap.update a (Obj.mapSeq fun _=>(#[]:Array Value))).push (seqObj "tuple" vs.toArray 0)).push (seqObj "list" #[] 0)) vs ts:=T.keep fun b o e c=>by
  have hb:b≠a:=fun z=>by
   subst z;rw[ho]at e;cases e;injection (show Value.type "list" = Value.type "tuple" from c)with z;exact absurd z (by decide)
  exact Heap.get?_push_of_some _ (Heap.get?_push_of_some _ (by rw[Heap.get?_update_ne _ _ _ _ hb];exact e))
 have pl:ps.length=vs.length:=by
  unfold TM.eN at hp;rw[T.len];split at hp
  ·cases hp;simp
  ·obtain⟨p,_,h2⟩:=TM.ob hp;split at h2
   ·rename_i q;cases h2;rw[Bool.and_eq_true,beq_iff_eq]at q;rw[Array.length_toList,q.1]
   ·cases h2
 have fin:∀ st:SortSt,(arrOf st).map (·.2)=(ps.map fun i=>vs.getD i Value.none).toArray->failedOf st=none->wpAny (model prog w) A (do
   let sorted:=(arrOf st).map (·.2)
   let touched:=(<- seqEpoch a) != e1
   Builtin.List.listUpdate (.ref a) fun _=>sorted
   if let some e:=failedOf st then do rule "list.sort.comparison-raised";throw e
   if touched then do rule "list.sort.modified";raiseError "ValueError" "list modified during sort"
   ret .none) P E { s with heap:=((s.heap.update a (Obj.mapSeq fun _=>(#[]:Array Value))).push (seqObj "tuple" vs.toArray 0)).push (seqObj "list" #[] 0) }:=fun st hs hf=>by
  dsimp only;rw[hs,hf];refine wpAny_bind (seqEpoch_at ho3 rfl (wpAny_bind (listUpdate_at ho3 rfl ?_ (Nat.zero_le _) (by rw[List.size_toArray,List.length_map,pl];lia))));simp only[bne_self_eq_false,Bool.false_eq_true,if_false];exact wpAny_pure h
 rw[list_sort_plain];refine wpAny_bind (listItems_at ho rfl (wpAny_bind (listUpdate_at ho rfl ?_ (by rw[List.size_toArray];exact hz) (Nat.zero_le _))));refine wpAny_bind (seqEpoch_at ho1 rfl (wpAny_bind (wpAny_newTuple ?_ (by show vs.length<=_;exact hz))));refine wpAny_bind (wpAny_newList (wpAny_holding ?_) (Nat.zero_le _));show wpAny (model prog w) A _ P E { s with heap:=((s.heap.update a (Obj.mapSeq fun _=>(#[]:Array Value))).push (seqObj "tuple" vs.toArray 0)).push (seqObj "list" #[] 0) };dsimp only
 have sn:∀ (k:SortKind) (p:Array Nat),((p.map (kas_item (pairsOf vs))).map (·.2))=(p.toList.map fun i=>vs.getD i Value.none).toArray:=fun k p=>by
  apply Array.toList_inj.mp;rw[Array.map_map,Array.toList_map]
  exact List.map_congr_left fun i _=>by show(kas_item (pairsOf vs) i).2=_;rw[kas_item_eq]
 have est:∀ κ,SortSt.mk' κ (vs.toArray.zip vs.toArray) #[] 7 none=TM.stq κ (pairsOf vs) (List.toArray (List.range vs.length)) #[] 7:=fun κ=>by
  have e:=kas_range (pairsOf vs);rw[pairsOf_size]at e;unfold TM.stq;rw[e];rfl
 unfold TM.eN at hp;by_cases hn:vs.length<2
 ·have hn':vs.toArray.size<2:=by simpa using hn
  rw[if_pos (by rw[<-T.len];exact hn)]at hp;cases hp;rw[if_pos hn',if_pos hn'];refine wpAny_bind (wpAny_pure (wpAny_bind (wpAny_pure (fin _ ?_ rfl))));rw[est,<-T.len];exact sn general' _
 ·have hn':¬ vs.toArray.size<2:=by simpa using hn
  rw[if_neg (by rw[<-T.len];exact hn)]at hp;obtain⟨p,h1,h2⟩:=TM.ob hp;split at h2
  case isFalse=>cases h2
  cases h2;rw[if_neg hn',if_neg hn'];obtain⟨fs,f1,f2,f3⟩:=T3.uA;refine wpAny_bind (kat_kind (T:=.type "int") f1 (by lia) (fun v hv=>?_) rfl ?_)
  ·obtain⟨k,t,rfl⟩:=f3 v hv;exact .of_pure rfl
  ·rw[show(Value.type "int" != Value.type "tuple")=true from rfl,est];rw[<-T.len]at h1;refine wpAny_bind (wpAny_mono (TM.Bs (E:=E) (T3.CI (w:=w) (prog:=prog) (A:=A)) h1 (Q:=fun _ st=>arrOf st=p.map (kas_item (pairsOf vs))/\failedOf st=none) fun pd g=>⟨rfl,rfl⟩) ?_ fun _ _ e=>e);rintro⟨⟨⟩,st⟩ s' ⟨rfl,e1,e2⟩;refine fin st ?_ e2;rw[e1];exact sn general' p
def rO{l:Addr}{vs:List Value}{ts:List (List Int)}{ps:List Nat}{Q:Value->Shared->Prop}(hl:s.heap.IsList l vs.toArray)(T:di s.heap vs ts)(hp:TM.eN ts=some ps)(hz:vs.length<=sizeLine)
 (h:Q (.ref (s.heap.objs.size+1)) { s with heap:=sortedAll s.heap vs (ps.map fun i=>vs.getD i Value.none).toArray }):wpAny (model prog w) A (call (.builtin "sorted") [.ref l]) Q E s:=by
 have hsz:((s.heap.push (seqObj "list" #[] 0)).update s.heap.objs.size (Obj.mapSeq (· ++ vs.toArray))).objs.size=s.heap.objs.size+1:=by rw[Heap.size_update,size_push']
 have hoL:(((s.heap.push (seqObj "list" #[] 0)).update s.heap.objs.size (Obj.mapSeq (· ++ vs.toArray))).push (seqObj "list" vs.toArray 0)).get? (s.heap.objs.size+1)=some (seqObj "list" vs.toArray 0):=by
  rw[<-hsz];exact Heap.get?_push_size _ rfl
 have T3:di (((s.heap.push (seqObj "list" #[] 0)).update s.heap.objs.size (Obj.mapSeq (· ++ vs.toArray))).push (seqObj "list" vs.toArray 0)) vs ts:=T.keep fun b o e _=>by
  have hlt:b<s.heap.objs.size:=Heap.lt_size e;exact Heap.get?_push_of_some _ (by rw[Heap.get?_update_ne _ _ _ _ (Nat.ne_of_lt hlt)];exact Heap.get?_push_of_some _ e)
 refine Calls.call_function_entry kind_sorted plain_sorted entry_sorted (args_sorted1 _) ?_;unfold Builtin.«sorted»;refine wpAny_bind (m:=checkCount "sorted" 1 1 _) (wpAny_pure (wpAny_bind (collect_list hl (wpAny_bind (wpAny_newList ?_ hz)) hz)));show wpAny _ _ _ _ _ { s with heap:=((s.heap.push (seqObj "list" #[] 0)).update s.heap.objs.size (Obj.mapSeq (· ++ vs.toArray))).push (seqObj "list" vs.toArray 0) };rw[hsz];exact wpAny_bind (wpAny_holding (wpAny_call_entry slot_list_sort ⟨_,hoL,rfl⟩ entry_list_sort (mf hoL T3 hp hz ⟨_,rfl,wpAny_pure ⟨_,rfl,h⟩⟩) (args_list_sort _)))
end
section
variable{X:Cx}{cl:RL.Cl}
def mM:br X (.builtin "sorted") (fun xs H Q=>∃ (p:Addr) (vs:List V) (ts:List (List Int)) (ps:List Nat),xs=[.ref p]/\H p=some (.lst vs)/\vs.length=ts.length/\(∀ (i:Nat) (t:List Int),ts[i]?=some t->∃ a,vs[i]?=some (.ref a)/\H a=some (.tup (t.map V.int))/\t≠[])/\TM.eN ts=some ps/\(∀ i∈ps,i<vs.length)/\ps.length=vs.length/\∀ l,H l=none->Q (.ref l) (upd H l (.lst (ps.map fun i=>vs.getD i .non)))):=by
 intro pins s σ H xs us Q I r h;obtain⟨p,vs,ts,ps,rfl,hp,hlen,ht,hs,hps,hpl,q⟩:=h
 cases r with
 |cons r rr=>
  cases rr;cases r;obtain⟨its,rv,hl,hz⟩:=I.list (SqL.of hp)
  have hz':its.length<=sizeLine:=by rw[<-rv.length];exact hz
  have T:di s.heap its ts:=⟨by rw[<-rv.length,hlen],fun i t e=>by
   obtain⟨a,g1,g2,g3⟩:=ht i t e;obtain⟨u,g4,g5⟩:=rv.get g1;have g5:u=.ref a:=g5;obtain⟨_,its',rt,o,go,gc,n,gd⟩:=I.hok a _ g2
   exact⟨⟨a,o,its'.toArray,n,by rw[List.getD,g4,g5];rfl,go,gc,gd,rt⟩,g3⟩⟩
  refine rO hl.isList T hs hz' ?_;obtain⟨en,he⟩:=sortedAll_at s.heap its (ps.map fun i=>its.getD i Value.none).toArray
  have rp:∀ (l:List Nat),(∀ i∈l,i<vs.length)->Vals (l.map fun i=>vs.getD i .non) (l.map fun i=>its.getD i Value.none):=fun l=>by
   induction l with
   | nil=>exact fun _=>.nil
   |cons i l ih=>
    intro hi;obtain⟨u,g4,g5⟩:=rv.get (i:=i) (x:=vs[i]'(hi i (.head _))) (by simp);refine .cons ?_ (ih fun j hj=>hi j (.tail _ hj));show RelV ((vs[i]?).getD .non) ((its[i]?).getD Value.none);rw[g4,List.getElem?_eq_getElem (hi i (.head _))];exact g5
  refine⟨.ref (s.heap.objs.size+1),_,I.laid (t':=s.toks) (o:=.lst (ps.map fun i=>vs.getD i .non)) (fun b ob q=>sortedAll_old q) (by lia) ?_,rfl,q _ (I.hok.fresh (by lia))⟩;exact⟨by rw[List.length_map,hpl];exact hz,_,en,rp ps hps,he⟩
def BB{ts:List (List Int)}{ps:List Nat}(h:TM.eN ts=some ps):(∀ i∈ps,i<ts.length)/\ps.length=ts.length:=by
 unfold TM.eN at h;split at h
 ·cases h;simp
 ·obtain⟨p,_,h2⟩:=TM.ob h;split at h2
  ·rename_i q;cases h2;rw[Bool.and_eq_true,beq_iff_eq,List.all_eq_true]at q;exact⟨fun i hi=>by simpa using q.2 i hi,by rw[Array.length_toList,q.1]⟩
  ·cases h2
def pI{P:Addr->Prop}{K:PySem.W.Frag}:∀ {ds:List RL.D} {ts:List (List Int)} {xs:List V},RL.jJ ds=some ts->af P K H ds xs->xs.length=ts.length/\∀ (i:Nat) (t:List Int),ts[i]?=some t->∃ a,xs[i]?=some (.ref a)/\H a=some (.tup (t.map V.int))/\t≠[]
 | [],ts,xs,h,r=>by
  cases h;rw[af]at r;subst r;exact⟨rfl,fun i t e=>by simp at e⟩
 | .tup (d::ds)::r,ts,xs,h,q=>by
  obtain⟨t,h1,h⟩:=bind_some (show(RL.cE (d::ds)).bind _=some ts from h);obtain⟨us,h2,h3⟩:=map_some h;subst h3;rw[af]at q;obtain⟨x,xs',rfl,r1,r2⟩:=q;obtain⟨a1,a2⟩:=pI h2 r2;obtain⟨a,zs,rfl,e2,e3⟩:=aX r1;have ez:=pU h1 e3;refine⟨by simp[a1],fun i u e=>?_⟩
  cases i with
  |zero=>
   have e:t=u:=by simpa using e
   subst e;refine⟨a,rfl,by rw[e2,ez],fun z=>?_⟩;subst z;have:=e3.length;rw[ez]at this;simp at this
  | succ i=>simpa using a2 i u (by simpa using e)
def rL{a:Expr}{a':RL.E}{p pos:Pos}(hg:Gl X "sorted")(hm:X.mg "sorted" = none)(ha:SE X cl a a')(hn:noStar a=true):SE X cl (.Call (.Name "sorted" p) [a] [] pos) (.bi .sortedT a'):=by
 refine iH mM hg hm (by decide +kernel) ha hn (by decide) (by decide) fun σD σ H H1 y d v Q e s1 r1 k=>?_
 cases y<;>first | (cases e;done) | skip
 case lst ds =>
  rw[RL.xa]at e;obtain⟨ts,e1,e2⟩:=bind_some e;obtain⟨ps,e3,e4⟩:=map_some e2;subst e4;obtain⟨q,xs,rfl,_,f2,f3⟩:=aP r1;obtain⟨g1,g2⟩:=pI e1 f3;obtain⟨g3,g4⟩:=BB e3;refine⟨q,xs,ts,ps,rfl,f2,g1,g2,e3,fun i hi=>by rw[g1];exact g3 i hi,by rw[g1,g4],fun l hl=>k _ _ (eD s1 hl ?_ fun _=>rfl)⟩
  have go:∀ (l:List Nat),(∀ i∈l,i<xs.length)->af nP X.K H1 (l.map fun i=>ds.getD i .non) (l.map fun i=>xs.getD i .non):=fun l=>by
   induction l with
   | nil=>exact fun _=>af.nil
   |cons i l ih=>
    intro hi;obtain⟨v,g5,g6⟩:=f3.get (i:=i) (d:=ds[i]'(by rw[f3.length];exact hi i (.head _))) (by simp);refine af.cons ?_ (ih fun j hj=>hi j (.tail _ hj));show Rep nP X.K H1 ((ds[i]?).getD .non) ((xs[i]?).getD .non);rw[g5,List.getElem?_eq_getElem (by rw[f3.length];exact hi i (.head _))];exact g6
  exact go ps fun i hi=>by rw[g1];exact g3 i hi
end
section
variable{bt:Bool}{t:SetTable}{m:Nat}
end
section
variable{prog:Program}{w:World}{A:Around}{E:Value->Shared->Prop}{s:Shared}
end
section
variable{prog:Program}{w:World}{A:Around}{E:Value->Shared->Prop}{s:Shared}
variable{R:Result->Shared->Prop}{I:Addr}{fp wr:List Addr}{G:Array GenState->Array GenState->Prop}{n:Nat}{P:Nat->Value->Prop}{St:Nat->Shared->Prop}
end
section
variable{prog:Program}{w:World}{A:Around}{E:Value->Shared->Prop}{s:Shared}{S I:Addr}{o:Obj}{es:Array (Int × Value)}{ep m i j:Nat}{t:SetTable}
end
section
variable{prog:Program}{w:World}{A:Around}{E:Value->Shared->Prop}{s:Shared}{S I:Addr}{o:Obj}{es:Array (Int × Value)}{ep m i j:Nat}{t:SetTable}
end
section
variable{X:Cx}
end
open Sem (wp)
section
variable{prog:Program}{w:World}{A:Around}{E:Value->Shared->Prop}{s:Shared}{it d:Addr}{es:Array DictEntry}{ep i:Nat}
end
end RS
namespace L2
open PySem PySem.Spec PyProof.Rows
end L2
namespace RS
open PySem PySem.Spec PyProof.Rows L2
def qm{X:Cx}{sts:List Stmt}{t t':TS}(h:PSs X sts t')(w:∀ D σ H,t D σ H->∃ a kvs,H a=some (.dT kvs)/\∀ o,t' D σ (upd H a (.frz o (.dT kvs)))):PSs X sts t:=by
 intro pins s σ H D I q;obtain⟨a,kvs,hH,k⟩:=w D σ H q;obtain⟨z,hs,xs,pr,o,es,ep,g,rest⟩:=id (I.hok a _ hH);have I':Inv X pins σ (upd H a (.frz o (.dT kvs))) { s with heap:=s.heap,toks:=s.toks }:=I.write (x:=a) (e:=a) (h':=s.heap) (t':=s.toks) (by rw[hH];trivial) (.inl rfl) (fun b u _ e=>e) ⟨o,g⟩ ⟨g,z,hs,xs,?_,o,es,ep,g,rest⟩
 ·exact h pins s σ _ D I' (k o)
 ·exact Paired.mono (fun p q ⟨h1,h2,h3⟩=>⟨h1,by rw[aB (jd h2 hH (by intro z;cases z))];exact h2,h3⟩) pr
def RVm.freeze{K:PySem.W.Frag}{M:List Nat}(h:RVm K (j::M) σD σ H)(hM:M.contains j=false)(h1:σ[j]?=some (some (.ref a)))(f2:H a=some (.dT (ks.zip xs)))(fl:ks.length=ds.length)(f3:af nP K H ds xs)(him:RL.az ds=true):RVm K M (σD.set j (some (.fT ks ds))) σ (upd H a (.frz o (.dT (ks.zip xs)))):=by
 have pa:ba (j::M) σ a:=⟨j,dF,h1⟩
 have mu:c8 (.dT (ks.zip xs)):=.inr (.inr ⟨_,rfl⟩);refine⟨by simpa using h.len,fun i d ei=>?_,fun i w e=>?_,fun i k b hi hk=>h.sep i k b (c9 hi) (c9 hk)⟩
 ·by_cases hij:i=j
  ·subst hij
   have hlt:i<σD.length:=by simpa using(List.getElem?_eq_some_iff.mp ei).1
   rw[List.getElem?_set_self hlt]at ei;cases ei;refine⟨.ref a,h1,?_⟩;rw[if_neg (by rw[hM];exact Bool.false_ne_true),Rep];exact⟨a,o,xs,rfl,aR,fl,(af.upd (P:=fun p=>p=a) f2 mu rfl (f3.imm him)).imm him⟩
  ·rw[List.getElem?_set_ne (Ne.symm hij)]at ei;obtain⟨v,g1,g2⟩:=h.val i d ei;refine⟨v,g1,?_⟩;by_cases hm:M.contains i=true
   ·rw[if_pos hm];rw[if_pos (c9 hm)]at g2;obtain⟨b,ob,rfl,_,_⟩:=g2.ref;exact g2.off (P:=fun x=>x=a) (fun x u e e'=>by subst e;rw[f2]at e';cases e';exact mu) (fun x u n e=>by rw[aB n];exact e) fun z=>hij (h.sep i j a (c9 hm) dF (z▸g1) h1)
   ·rw[if_neg hm];rw[if_neg fun z=>hm ((cY z).resolve_left hij)]at g2
    exact(g2.upd f2 mu pa).weak fun b ⟨k,hk,ek⟩=>⟨k,c9 hk,ek⟩
 ·obtain⟨d,hd⟩:=h.non i w e;by_cases hij:i=j
  ·subst hij;exact⟨_,List.getElem?_set_self (List.getElem?_eq_some_iff.mp hd).1⟩
  ·exact⟨d,by rw[List.getElem?_set_ne (Ne.symm hij)];exact hd⟩
def zB{X:Cx}{M:List Nat}{sts:List Stmt}(h:SSs X cl M sts r)(hM:M.contains j=false):SQ X cl M (j::M) sts (.frz j r):=by
 refine qm h fun D σ H h=>?_;obtain⟨σ0,H0,σD,o,σD',rv,fr,e,k⟩:=h;obtain⟨d,e1,e2⟩:=bind_some e;obtain⟨dj,e3,e4⟩:=bind_some e1
 cases dj with
 |dT ks vs=>
  cases e4;obtain⟨v,h1,h2⟩:=rv.val j _ (slot_get e3);rw[if_pos dF]at h2;obtain⟨q1,q2,q3⟩:=h2;rw[Rep]at q3;obtain⟨a,xs,rfl,_,f2,fl,f3⟩:=q3;refine⟨a,ks.zip xs,f2,fun ob=>⟨_,o,σD',rv.freeze hM h1 f2 fl f3 q2,e2,k.from ⟨fun b u eb n=>⟨?_,fun⟨i,hi,ei⟩=>(fr.1 b u eb n).2 ⟨i,c9 hi,ei⟩⟩,fr.2⟩⟩⟩;rw[aB (fun z=>(fr.1 b u eb n).2 ⟨j,dF,by rw[z];exact h1⟩)];exact(fr.1 b u eb n).1
 | _=>cases e4
def DG{X:Cx}{M N:List Nat}{sts:List Stmt}{r:RL.Sq}{j:Nat}(h:SQ X cl M N sts r)(hN:N.contains j=false):SQ X cl M (j::N) sts (.fz j r):=by
 refine qm h fun D σ H h=>?_;obtain⟨σ0,H0,σD,o,σD',rv,fr,e,k⟩:=h;obtain⟨d,e1,e2⟩:=bind_some e;obtain⟨dj,e3,e4⟩:=bind_some e1
 cases dj with
 |dT ks vs=>
  cases e4;obtain⟨v,h1,h2⟩:=rv.val j _ (slot_get e3);rw[if_pos dF]at h2;obtain⟨q1,q2,q3⟩:=h2;rw[Rep]at q3;obtain⟨a,xs,rfl,_,f2,fl,f3⟩:=q3;refine⟨a,ks.zip xs,f2,fun ob=>⟨σ0,H0,_,o,σD',rv.freeze hN h1 f2 fl f3 q2,⟨fun b u eb n=>⟨?_,fun⟨i,hi,ei⟩=>(fr.1 b u eb n).2 ⟨i,c9 hi,ei⟩⟩,fr.2⟩,e2,k⟩⟩;rw[aB (fun z=>(fr.1 b u eb n).2 ⟨j,dF,by rw[z];exact h1⟩)];exact(fr.1 b u eb n).1
 | _=>cases e4
end RS
namespace L2
open PySem PySem.Spec PyProof.Rows
section
variable{X:Cx}
end
end L2
namespace RS
open PySem PySem.Spec PyProof.Rows L2
section
variable{X:Cx}{cl:RL.Cl}{a b:Expr}{a' b':RL.E}
end
section
variable{prog:Program}{w:World}{A:Around}{R:Result->Shared->Prop}{I S:Addr}{fp wr:List Addr}{n:Nat}{P:Nat->Value->Prop}{St:Nat->Heap->Prop}{Ok:Heap->Prop}{bt:Nat->Nat->Bool}
end
section
variable{prog:Program}{w:World}{A:Around}{E:Value->Shared->Prop}{s:Shared}
end
end RS
namespace L2
open PySem PySem.Spec PyProof.Rows
section
variable{X:Cx}
end
end L2
namespace RS
open PySem PySem.Spec PyProof.Rows L2
section
variable{X:Cx}{cl:RL.Cl}{a b:Expr}{a' b':RL.E}{p pos:Pos}
end
section
variable{prog:Program}{w:World}{A:Around}{E:Value->Shared->Prop}{s:Shared}{I t:Addr}{items:Array Value}
end
end RS
namespace L2
open PySem PySem.Spec PyProof.Rows
section
variable{X:Cx}
abbrev GDc(X:Cx)(d:Addr)(kvs:List (Str × Addr)):Prop:=(d == sysModules)=false/\∀ h:Heap,X.K.In h->h.DictOf (bO X.prog X.w) d (kvs.map fun q=>((Sum.inr q.1:Key),Value.ref q.2))
end
end L2
namespace RS
open PySem PySem.Spec PyProof.Rows L2
section
variable{X:Cx}{cl:RL.Cl}{a b e:Expr}{a' b' e':RL.E}{p pos:Pos}{M:List Nat}{st:Stmt}{i j:Nat}
end
end RS
namespace L2
open PySem PySem.Spec PyProof.Rows
section
variable{prog:Program}{w:World}{A:Around}{E:Value->Shared->Prop}{s:Shared}
end
section
variable{X:Cx}
end
section
variable{X:Cx}
end
end L2
namespace RS
open PySem PySem.Spec PyProof.Rows L2
section
end
def nos{α:Type}{P:Prop}{x:α}(h:(none:Option α)=some x):P:=by cases h
def ao{α:Type}{o:Option α}{f:α->Bool}(h:o.any f=true):∃ x,o=some x/\f x=true:=by
 cases o with
 | none=>cases h
 | some x=>exact⟨x,rfl,h⟩
def ae{a b:Bool}(h:(a&&b)=true):a=true/\b=true:=by rw[Bool.and_eq_true]at h;exact h
abbrev vw{α:Type}{n:Nat}(k:Nat)(f:n=k->α):Option α:=if z:n=k then some (f z)else none
def bJ{α:Type}{n k:Nat}{f:n=k->α}{x:α}(h:vw k f=some x):∃ (_:n=k) (z:n=k),f z=x:=by
 unfold vw at h;split at h
 ·rename_i z;cases h;exact⟨z,z,rfl⟩
 ·cases h
abbrev dB(e:Expr):Option Str:=vw 23 fun z=>Expr.Name.elim e z fun x _=>x
def cC{e:Expr}{x:Str}(h:dB e=some x):∃ p,e=.Name x p:=by
 obtain⟨y,z,h⟩:=bJ h
 revert z
 exact Expr.Name.elim e y fun _ _ _ h=>by cases h;exact⟨_,rfl⟩
abbrev kT(e:Expr):Option Const:=vw 19 fun z=>Expr.Constant.elim e z fun k _ _=>k
def gq{e:Expr}{k:Const}(h:kT e=some k):∃ j p,e=.Constant k j p:=by
 obtain⟨y,z,h⟩:=bJ h
 revert z
 exact Expr.Constant.elim e y fun _ _ _ _ h=>by cases h;exact⟨_,_,rfl⟩
abbrev BN(e:Expr):Option (Expr × Operator × Expr):=vw 2 fun z=>Expr.BinOp.elim e z fun l o r _=>(l,o,r)
def xV{e:Expr}{l r:Expr}{o:Operator}(h:BN e=some (l,o,r)):∃ p,e=.BinOp l o r p:=by
 obtain⟨y,z,h⟩:=bJ h
 revert z
 exact Expr.BinOp.elim e y fun _ _ _ _ _ h=>by cases h;exact⟨_,rfl⟩
abbrev vUn(e:Expr):Option (UnaryOp × Expr):=vw 3 fun z=>Expr.UnaryOp.elim e z fun o x _=>(o,x)
def nO{e x:Expr}{o:UnaryOp}(h:vUn e=some (o,x)):∃ p,e=.UnaryOp o x p:=by
 obtain⟨y,z,h⟩:=bJ h
 revert z
 exact Expr.UnaryOp.elim e y fun _ _ _ _ h=>by cases h;exact⟨_,rfl⟩
abbrev oz(e:Expr):Option (Expr × List CmpOp × List Expr):=vw 15 fun z=>Expr.Compare.elim e z fun l o r _=>(l,o,r)
def iV{e l:Expr}{r:List Expr}{o:List CmpOp}(h:oz e=some (l,o,r)):∃ p,e=.Compare l o r p:=by
 obtain⟨y,z,h⟩:=bJ h
 revert z
 exact Expr.Compare.elim e y fun _ _ _ _ _ h=>by cases h;exact⟨_,rfl⟩
abbrev vBool(e:Expr):Option (BoolOp × List Expr × Pos):=vw 0 fun z=>Expr.BoolOp.elim e z fun o es p=>(o,es,p)
def hV{e:Expr}{es:List Expr}{o:BoolOp}{p:Pos}(h:vBool e=some (o,es,p)):e=.BoolOp o es p:=by
 obtain⟨y,z,h⟩:=bJ h
 revert z
 exact Expr.BoolOp.elim e y fun _ _ _ _ h=>by cases h;exact rfl
abbrev Bt(e:Expr):Option (Expr × Expr × Expr):=vw 5 fun z=>Expr.IfExp.elim e z fun c a b _=>(c,a,b)
def y8{e a b c:Expr}(h:Bt e=some (c,a,b)):∃ p,e=.IfExp c a b p:=by
 obtain⟨y,z,h⟩:=bJ h
 revert z
 exact Expr.IfExp.elim e y fun _ _ _ _ _ h=>by cases h;exact⟨_,rfl⟩
abbrev kK(e:Expr):Option (List Expr):=vw 25 fun z=>Expr.Tuple.elim e z fun es _ _=>es
def e7{e:Expr}{es:List Expr}(h:kK e=some es):∃ k p,e=.Tuple es k p:=by
 obtain⟨y,z,h⟩:=bJ h
 revert z
 exact Expr.Tuple.elim e y fun _ _ _ _ h=>by cases h;exact⟨_,_,rfl⟩
abbrev Cr(e:Expr):Option (List Expr):=vw 24 fun z=>Expr.List.elim e z fun es _=>es
def xE{e:Expr}{es:List Expr}(h:Cr e=some es):∃ p,e=.List es p:=by
 obtain⟨y,z,h⟩:=bJ h
 revert z
 exact Expr.List.elim e y fun _ _ _ h=>by cases h;exact⟨_,rfl⟩
abbrev qB(e:Expr):Option (Expr × Expr):=vw 21 fun z=>Expr.Subscript.elim e z fun a b _=>(a,b)
def iW{e a b:Expr}(h:qB e=some (a,b)):∃ p,e=.Subscript a b p:=by
 obtain⟨y,z,h⟩:=bJ h
 revert z
 exact Expr.Subscript.elim e y fun _ _ _ _ h=>by cases h;exact⟨_,rfl⟩
abbrev vSl(e:Expr):Option (Option Expr × Option Expr × Option Expr):=vw 26 fun z=>Expr.Slice.elim e z fun a b c _=>(a,b,c)
def tX{e:Expr}{a b c:Option Expr}(h:vSl e=some (a,b,c)):∃ p,e=.Slice a b c p:=by
 obtain⟨y,z,h⟩:=bJ h
 revert z
 exact Expr.Slice.elim e y fun _ _ _ _ _ h=>by cases h;exact⟨_,rfl⟩
abbrev iP(e:Expr):Option (Expr × List Expr × List Keyword × Pos):=vw 16 fun z=>Expr.Call.elim e z fun f as ks p=>(f,as,ks,p)
def dZ{e f:Expr}{as:List Expr}{ks:List Keyword}{p:Pos}(h:iP e=some (f,as,ks,p)):e=.Call f as ks p:=by
 obtain⟨y,z,h⟩:=bJ h
 revert z
 exact Expr.Call.elim e y fun _ _ _ _ _ h=>by cases h;exact rfl
abbrev rK(e:Expr):Option (Expr × Str × Pos):=vw 20 fun z=>Expr.Attribute.elim e z fun o x p=>(o,x,p)
def oH{e o:Expr}{x:Str}{p:Pos}(h:rK e=some (o,x,p)):e=.Attribute o x p:=by
 obtain⟨y,z,h⟩:=bJ h
 revert z
 exact Expr.Attribute.elim e y fun _ _ _ _ h=>by cases h;exact rfl
abbrev r9(e:Expr):Option (Expr × List Comprehension × Scope × Pos):=vw 8 fun z=>Expr.ListComp.elim e z fun e gs sc p=>(e,gs,sc,p)
def ng{e x:Expr}{gs:List Comprehension}{sc:Scope}{p:Pos}(h:r9 e=some (x,gs,sc,p)):e=.ListComp x gs sc p:=by
 obtain⟨y,z,h⟩:=bJ h
 revert z
 exact Expr.ListComp.elim e y fun _ _ _ _ _ h=>by cases h;exact rfl
abbrev of1{α:Type}(xs:List α)(f:α->Bool):Bool:=match xs with
 | [a]=>f a
 | _=>false
abbrev of2{α:Type}(xs:List α)(f:α->α->Bool):Bool:=match xs with
 | [a,b]=>f a b
 | _=>false
abbrev of3{α:Type}(xs:List α)(f:α->α->α->Bool):Bool:=match xs with
 | [a,b,c]=>f a b c
 | _=>false
def aM{α:Type}:∀ {xs:List α} {f:α->Bool},of1 xs f=true->∃ a,xs=[a]/\f a=true
 | [a],_,h=>⟨a,rfl,h⟩
def d8{α:Type}:∀ {xs:List α} {f:α->α->Bool},of2 xs f=true->∃ a b,xs=[a,b]/\f a b=true
 | [a,b],_,h=>⟨a,b,rfl,h⟩
def rT{α:Type}:∀ {xs:List α} {f:α->α->α->Bool},of3 xs f=true->∃ a b c,xs=[a,b,c]/\f a b c=true
 | [a,b,c],_,h=>⟨a,b,c,rfl,h⟩
abbrev ofM{α:Type}(xs:List α)(f:α->α->List α->Bool):Bool:=match xs with
 | a::b::r=>f a b r
 | _=>false
def jK{α:Type}:∀ {xs:List α} {f:α->α->List α->Bool},ofM xs f=true->∃ a b r,xs=a::b::r/\f a b r=true
 | a::b::r,_,h=>⟨a,b,r,rfl,h⟩
abbrev mG(e:Stmt):Option (List Expr × Expr):=vw 5 fun z=>Stmt.Assign.elim e z fun ts e _=>(ts,e)
def ed{st:Stmt}{ts:List Expr}{e:Expr}(h:mG st=some (ts,e)):∃ p,st=.Assign ts e p:=by
 obtain⟨y,z,h⟩:=bJ h
 revert z
 exact Stmt.Assign.elim st y fun _ _ _ _ h=>by cases h;exact⟨_,rfl⟩
abbrev B5(e:Stmt):Option (Expr × Operator × Expr):=vw 7 fun z=>Stmt.AugAssign.elim e z fun t o e _=>(t,o,e)
def x6{st:Stmt}{t e:Expr}{o:Operator}(h:B5 st=some (t,o,e)):∃ p,st=.AugAssign t o e p:=by
 obtain⟨y,z,h⟩:=bJ h
 revert z
 exact Stmt.AugAssign.elim st y fun _ _ _ _ _ h=>by cases h;exact⟨_,rfl⟩
abbrev uQ(e:Stmt):Option Expr:=vw 24 fun z=>Stmt.Expr.elim e z fun e _=>e
def kF{st:Stmt}{e:Expr}(h:uQ st=some e):∃ p,st=.Expr e p:=by
 obtain⟨y,z,h⟩:=bJ h
 revert z
 exact Stmt.Expr.elim st y fun _ _ _ h=>by cases h;exact⟨_,rfl⟩
abbrev wIf(e:Stmt):Option (Expr × List Stmt × List Stmt):=vw 12 fun z=>Stmt.If.elim e z fun c a b _=>(c,a,b)
def oY{st:Stmt}{c:Expr}{a b:List Stmt}(h:wIf st=some (c,a,b)):∃ p,st=.If c a b p:=by
 obtain⟨y,z,h⟩:=bJ h
 revert z
 exact Stmt.If.elim st y fun _ _ _ _ _ h=>by cases h;exact⟨_,rfl⟩
abbrev Cs(e:Stmt):Option (Expr × Expr × List Stmt × List Stmt):=vw 9 fun z=>Stmt.For.elim e z fun t i b o _=>(t,i,b,o)
def qw{st:Stmt}{t i:Expr}{b o:List Stmt}(h:Cs st=some (t,i,b,o)):∃ p,st=.For t i b o p:=by
 obtain⟨y,z,h⟩:=bJ h
 revert z
 exact Stmt.For.elim st y fun _ _ _ _ _ _ h=>by cases h;exact⟨_,rfl⟩
abbrev zQ(e:Stmt):Option (Expr × List Stmt × List Stmt):=vw 11 fun z=>Stmt.While.elim e z fun c b o _=>(c,b,o)
def xJ{st:Stmt}{c:Expr}{b o:List Stmt}(h:zQ st=some (c,b,o)):∃ p,st=.While c b o p:=by
 obtain⟨y,z,h⟩:=bJ h
 revert z
 exact Stmt.While.elim st y fun _ _ _ _ _ h=>by cases h;exact⟨_,rfl⟩
abbrev zX(e:Stmt):Option (Option Expr):=vw 3 fun z=>Stmt.Return.elim e z fun e _=>e
def pO{st:Stmt}{e:Option Expr}(h:zX st=some e):∃ p,st=.Return e p:=by
 obtain⟨y,z,h⟩:=bJ h
 revert z
 exact Stmt.Return.elim st y fun _ _ _ h=>by cases h;exact⟨_,rfl⟩
end RS
namespace L2
open PySem PySem.Spec PyProof.Rows
section
variable{os:OsState}
def ve
 (hR:h.get? R=some (excClassObj nm q R N bs bm hdct sn sub ab col dd k0 k1 k2 k3 k5 newId))(he:h.get? e=some oe)(hc:oe.cls=.ref C)(hb:bm.contains (.type "BaseException")=true)(L:PySem.W.Looks M h (isSubtype (.ref C) (.ref R)) b)(hq:Q b ⟨h,g,d,t,os⟩) :
  wpAny M A (excMatches (.ref e) (.ref R)) Q E ⟨h,g,d,t,os⟩:=by
 have hcB:(Value.ref R::bm).contains (.type "BaseException")=true:=by rw[List.contains_cons,hb,Bool.or_true]
 have f:=tc_notTuple;unfold excMatches
 repeat (first | (with_reducible refine wpAny_loadPart_at he ?_;rw[hc]) | with_reducible refine wpAny_loadPart_at hR ?_ | (with_reducible refine wpAny_isSubtype_exc hR ?_;rw[hcB]) | (with_reducible refine L.at ?_) | wp_step)
 cases b<;>(wp_walk;exact hq)
end
section
def qh(I:Inv X pins σ H s)(hN:X.N.Nodup)(hi:X.N[i]?=some n)(hl:X.env.scope.names.lookup n=some .local)
 (k:∀ s',Inv X pins (σ.set i none) H s'->Q () s'):wpAny M A (do bindName X.env n .none;unbindBehindTheSuite X.env n pos) Q E s:=by
 obtain⟨m,hn,hlk⟩:=id I.loc
 have hcls:(X.env.scope.kind == .class || (X.env.scope.kind == .module&&X.env.locals != X.env.globals))=false:=by rw[I.ok.kind];rfl
 refine wpAny_nameGoes_keeps hl hn hcls fun h' v hn' hs=>k _ ?_;have up:∀ b o,X.s₀.heap.get? b=some o->b≠X.env.locals:=fun b o e=>Nat.ne_of_lt (Nat.lt_of_lt_of_le (Heap.lt_size e) I.ok.above);have cne:=I.cne;refine⟨I.ok,I.os,I.bare,⟨fun b o e nn hb hx=>(hs.2 b (up b o e)).trans (I.base.keep b o e nn hb hx),fun b o e nn hb hx=>?_,I.base.free,fun b o e hx=>?_,I.base.dJ,I.base.cI,I.base.dH⟩,⟨_,hn',fun j y v' e1 e2 e3=>?_⟩,fun y c e=>?_,I.free,I.cy,fun p hp=>?_,fun a o e=>?_,by simpa using I.len⟩
 ·obtain⟨sl,e1⟩:=I.base.slot b o e nn hb hx;exact⟨sl,(hs.2 b (up b o e)).trans e1⟩
 ·obtain⟨o',e1⟩:=I.base.there b o e hx;exact⟨o',(hs.2 b (up b o e)).trans e1⟩
 ·have hj:j≠i:=fun z=>by
   subst z;rw[List.getElem?_set_self (by rw[I.len];exact(List.getElem?_eq_some_iff.mp hi).1)]at e2;cases e2
  rw[List.getElem?_set_ne (Ne.symm hj)]at e2;obtain⟨u,r,lk⟩:=hlk j y v' e1 e2 e3;refine⟨u,r,?_⟩
  rcases lk with⟨a1,a2⟩ | ⟨a1,c,a2,a3⟩
  ·have hy:y≠n:=fun z=>hj (j6 hN e1 (z▸hi));exact .inl ⟨a1,by simp[hy,a2]⟩
  ·exact .inr ⟨a1,c,a2,a3.sameBut hs (cne y c a2)⟩
 ·obtain⟨v,q⟩:=I.cell y c e;exact⟨v,q.sameBut hs (cne y c e)⟩
 ·obtain⟨p1,p2,p3,p4⟩:=I.pin p hp;exact⟨(hs.2 p.1 p3).trans p1,p2,p3,p4⟩
 ·refine(I.hok a o e).bQ (fun c w hc q=>(hs.2 c fun z=>?_).trans q) (fun _ z=>z) fun _ _ z=>z;subst z;rcases hc with z | z
  ·rw[<-z,I.free]at e;cases e
  ·rw[I.free]at z;cases z
@[reducible]noncomputable def Fz(oe:Obj):HO:=.frz oe (.ext fun _=>True)
@[reducible]noncomputable def Cx.bh(X:Cx)(e:Addr)(oe:Obj):Cx:={ X with A:=X.A.mark (some (.ref e)),calm:=false,H₀:=upd X.H₀ e (Fz oe) }
def lJ(I0:Inv X pins σ H0 s0)(hst:X.stack=X.env::X.outer)(hex:X.ex=[])(un:Un (frs X.stack) [] H0 H' s0.heap h1)(hok:HOk X.prog X.w H' h1)(bare:AllBare g)
 (o:Off1 (dX s0.heap H') (frs (X.env::X.outer)) h1 h2)(he:h2.get? e=some oe)(hd:oe.data=.fields vs)(hv:vs[2]?=some .none)(ne:¬ dX s0.heap H' e) :
  Inv (X.bh e oe) pins σ (upd H' e (Fz oe)) ⟨h2,g,dr,tk,s0.os⟩:=by
 have hne:H' e=none:=Classical.byContradiction fun z=>ne (.inr z);have n0:∀ b u,s0.heap.get? b=some u->b≠e:=fun b u q z=>ne (.inl ⟨u,z▸q⟩);have n1:∀ b u,X.s₀.heap.get? b=some u->b≠e:=fun b u q=>let ⟨u',q'⟩:=I0.old hex q;n0 b u' q';have off:∀ {b:Addr},b≠e->upd H' e (Fz oe) b=H' b:=fun z=>aB z
 have nfr:∀ b,H' b≠none->b∉frs (X.env::X.outer):=fun b hb z=>by
  rw[<-hst]at z;obtain⟨_,ob,hob,_⟩:=I0.stack.mem z;exact hb (un.free b ob hob (I0.iR b z) (by simp))
 have un2:Un (frs X.stack) [] H0 (upd H' e (Fz oe)) s0.heap h2:=by
  refine⟨fun b u q n hb hx=>?_,fun b u q n hb hx=>?_,fun b u q n hx=>by rw[off (n0 b u q)];exact un.free b u q n hx,fun b u q hx=>?_,fun b xs q=>?_,fun b ob u q=>?_,fun b ps q=>?_⟩
  ·exact o.keep b u (.inl ⟨u,q⟩) (by rw[<-hst];exact hb) (un.keep b u q n hb hx)
  ·obtain⟨sl,q1⟩:=un.slot b u q n hb hx;obtain⟨sl2,q2⟩:=o.slot b _ (.inl ⟨u,q⟩) (by rw[<-hst];exact hb) q1;exact⟨sl2,q2⟩
  ·obtain⟨u1,q1⟩:=un.there b u q hx;by_cases hb:b∈frs (X.env::X.outer)
   ·obtain⟨sl,q2⟩:=o.slot b _ (.inl ⟨u,q⟩) hb q1;exact⟨_,q2⟩
   ·exact⟨_,o.keep b _ (.inl ⟨u,q⟩) hb q1⟩
  ·have:=un.dJ b xs q;rw[off (fun z=>by rw[z,hne]at this;cases this)];exact this
  ·have:=un.cI b ob u q;rw[off (fun z=>by rw[z,hne]at this;cases this)];exact this
  ·obtain⟨more,this⟩:=un.dH b ps q;rw[off (fun z=>by rw[z,hne]at this;cases this)];exact⟨more,this⟩
 have hok2:HOk X.prog X.w (upd H' e (Fz oe)) h2:=fun a ob q=>by
  by_cases ha:a=e
  ·subst ha;rw[aR]at q;cases q;exact⟨he,trivial,⟨_,he⟩,fun _ _ _ _=>trivial⟩
  ·rw[off ha]at q
   have up:∀ (b:Addr) (u:HO),H' b=some u->upd H' e (Fz oe) b=some u:=fun b u z=>by rw[off (aG z hne)];exact z
   refine(hok a ob q).bQ (fun b u hb r=>?_) (fun b z=>up b _ z) fun b xs z=>up b _ z
   have hn:H' b≠none:=by
    rcases hb with rfl | hb
    ·rw[q];exact fun z=>nomatch z
    ·rw[hb];exact fun z=>nomatch z
   exact o.keep b u (.inr hn) (nfr b hn) r
 have J:=I0.call (h':=h2) (g':=g) (d':=dr) (t':=tk) (ch:=[]) un2 hok2 bare (fun b z=>absurd z (by simp));have offH:∀ {b:Addr} {u:Obj},X.s₀.heap.get? b=some u->upd X.H₀ e (Fz oe) b=X.H₀ b:=fun q=>aB (n1 _ _ q);refine⟨⟨J.ok.mod,J.ok.kind,J.ok.glob,J.ok.blt,J.ok.above,J.ok.inj,J.ok.has,J.ok.cab,⟨fun z=>(nomatch z),.inr ⟨e,oe,_,vs,rfl,aR,hd,hv⟩⟩,J.ok.frames,J.ok.stk,J.ok.exf,fun b ob q=>?_,J.ok.bsz,J.ok.gN,J.ok.gS,J.ok.de,fun b hb=>?_⟩,J.os,J.bare,⟨fun b u q n=>?_,fun b u q n=>?_,fun b u q n=>?_,J.base.there,fun b xs q=>?_,fun b ob u q=>?_,fun b ps q=>?_⟩,J.loc,J.cell,J.free,J.cy,J.pin,J.hok,J.len⟩
 ·obtain⟨q1,q2⟩:=J.ok.bs b ob q;exact⟨q1,(offH q1).trans q2⟩
 ·obtain⟨_,ob,q,_⟩:=J.ok.de.mem hb;exact(offH q).trans (J.ok.frf b hb)
 ·exact J.base.keep b u q ((offH q).symm.trans n)
 ·exact J.base.slot b u q ((offH q).symm.trans n)
 ·exact J.base.free b u q ((offH q).symm.trans n)
 ·by_cases hb:b=e
  ·subst hb;rw[show(X.bh b oe).H₀ b=some (Fz oe)from aR]at q;cases q
  ·exact J.base.dJ b xs ((aB hb).symm.trans q)
 ·by_cases hb:b=e
  ·subst hb;rw[show(X.bh b oe).H₀ b=some (Fz oe)from aR]at q;cases q;exact aR
  ·exact J.base.cI b ob u ((aB hb).symm.trans q)
 ·by_cases hb:b=e
  ·subst hb;rw[show(X.bh b oe).H₀ b=some (Fz oe)from aR]at q;cases q
  ·exact J.base.dH b ps ((aB hb).symm.trans q)
def jO(J:Inv (X.bh e oe) pins σ H s)(ok:X.Ok)(hn:X.s₀.heap.get? e=none)(h1:∀ xs,X.H₀ e≠some (.tup xs))(h2:∀ o u,X.H₀ e≠some (.frz o u))(h3:∀ ps,X.H₀ e≠some (.tbl ps)):Inv X pins σ H s:=by
 have offH:∀ {b:Addr} {u:Obj},X.s₀.heap.get? b=some u->upd X.H₀ e (Fz oe) b=X.H₀ b:=fun {b u} q=>aB fun z=>by rw[z,hn]at q;cases q
 have up:∀ (b:Addr) (u:HO),b≠e->X.H₀ b=some u->(X.bh e oe).H₀ b=some u:=fun b u hb z=>(aB hb).trans z
 exact⟨ok,J.os,J.bare,⟨fun b u q n=>J.base.keep b u q ((offH q).trans n),fun b u q n=>J.base.slot b u q ((offH q).trans n),fun b u q n=>J.base.free b u q ((offH q).trans n),J.base.there,
  fun b xs q=>J.base.dJ b xs (up b _ (fun z=>h1 xs (z▸q)) q),fun b o u q=>J.base.cI b o u (up b _ (fun z=>h2 o u (z▸q)) q),fun b ps q=>J.base.dH b ps (up b _ (fun z=>h3 ps (z▸q)) q)⟩,J.loc,J.cell,J.free,J.cy,J.pin,J.hok,J.len⟩
end
end L2
namespace RS
open PySem PySem.Spec PyProof.Rows L2
def Cls.kin{K:PySem.W.Frag}(h:Cls K x C):mV K C:=by
 have:=h.ok;simp only[fQ,Bool.and_eq_true,beq_iff_eq]at this;obtain⟨⟨⟨⟨⟨⟨⟨⟨_,a1⟩,a2⟩,a3⟩,a4⟩,a5⟩,a6⟩,_⟩,_⟩:=this;refine⟨a1,a2,?_,a4,a5,a6⟩;unfold oB at a3;split at a3
 ·rename_i a b e;simp only[Bool.and_eq_true,beq_iff_eq]at a3;rw[e,a3.1,a3.2]
 ·cases a3
section
def rf(I0:Inv X pins σ H0 s0)(hst:X.stack=X.env::X.outer)(hfrm:X.env.frame=some X.env.locals)(hex:X.ex=[])
 (os:s1.os=s0.os)(bare:AllBare s1.gens)(un:Un (frs X.stack) [] H0 H' s0.heap s1.heap)(hok:HOk X.prog X.w H' s1.heap)(xx:Exc (dX s0.heap H') e C od tb s1.heap)(hc:Cls X.K (RL.baseOf x) C)(hR:Cls X.K c R)(hcr:c∈cA)(hsub:RL.fM x c=true)(hg:Gl X c)(hm:X.mg c=some (.ref R))(hdb:(c == ("__debug__" : Str))=false)
 (hN:X.N.Nodup)(hi:X.N[i]?=some n)(hl:X.env.scope.names.lookup n=some .local)
 (hpre:∀ oe H s,Inv (X.bh e oe) pins σ H s->s.heap.get? e=some oe->oe.cls=.ref C->wpAny (model X.prog X.w) X.A (handleBy (.ref e) X.env (.ExceptHandler (some (.Name c np)) (some n) (b0::bh) hpos::hrest)) Q E s->wpAny (model X.prog X.w) X.A (handleBy (.ref e) X.env hs) Q E s)
 (k:∀ oe vs s4,(oe.cls=.ref C/\oe.dict=od)->oe.data=.fields vs->vs[2]?=some .none->H' e=none->X.s₀.heap.get? e=none->(∀ xs,X.H₀ e≠some (.tup xs))->(∀ o u,X.H₀ e≠some (.frz o u))->(∀ ps,X.H₀ e≠some (.tbl ps))->Inv (X.bh e oe) pins (σ.set i (some (.ref e))) (upd H' e (Fz oe)) s4 ->
   wpAny (model X.prog X.w) (X.A.mark (some (.ref e))) (execs (b0::bh) X.env) (fun f s5=>wpAny (model X.prog X.w) X.A (do bindName X.env n .none;unbindBehindTheSuite X.env n hpos) (fun _ s6=>Q f s6) E s5) (fun _ _=>False) s4) :
  wpAny (model X.prog X.w) X.A (noteFrame (.ref e) X.env) (fun _ s2=>wpAny (model X.prog X.w) X.A (setFlight (.ref e) none) (fun _ s3=>wpAny (model X.prog X.w) X.A (handleBy (.ref e) X.env hs) Q E s3) E s2) E s1:=by
 have I1:=I0.mj (ch:=[]) os un hok bare (fun b z=>absurd z (by simp));have hls:=I1.stack;have hfr:=I1.ok.frames;rw[hst]at hls hfr
 have hP:∀ b,dX s0.heap H' b->b<s1.heap.objs.size:=fun b hb=>by
  rcases hb with⟨o,q⟩ | hb
  ·obtain⟨o',q'⟩:=un.there b o q (by simp);exact Heap.lt_size q'
  ·obtain⟨o,ho⟩:=Option.ne_none_iff_exists'.mp hb;exact hok.lt ho
 refine l9 hfr hls hfrm xx hP fun h2 x2 o2=>?_;obtain⟨oe,vs,he,hcd,hd,hv,ne,xt⟩:=x2;obtain⟨hp,g,d,tk,os'⟩:=s1;obtain rfl:os'=s0.os:=os;have J2:Inv (X.bh e oe) pins σ (upd H' e (Fz oe)) ⟨h2,g,d,tk,s0.os⟩:=lJ I0 hst hex un hok bare o2 he hd hv ne;refine hpre oe _ _ J2 he hcd.1 ?_;refine wpAny_handleBy_cons (codeAny_handlers_test ?_) (by intro q;cases q);refine fm J2 hg hm ?_ hdb;obtain⟨bm,N,nm,qn,bs,hdct,sn,sub,ab,col,dd,k0,k1,k2,k3,k5,g1,T⟩:=vU J2.kIn hR.exc;have L:=PySem.W.looks_subIn (M:=model X.prog X.w) J2.kIn (hc.ref hcr hR.ns).2;rw[show RL.cJ (RL.baseOf x) c=true from hsub]at L;refine ve g1 he hcd.1 (T.hasType PySem.F.excBase_ValueError.hasBase) L ?_;refine codeAny_handlers_suite_as ?_
 rcases xt with⟨z,_⟩ | ⟨T,oT,ts,h1,hTe,hT,hdT,h3,nT⟩
 ·cases z
 unfold setFlight;refine wpAny_bind (wpAny_field he hd h1 ?_);refine wpAny_setField hT hdT (Array.getElem?_eq_some_iff.mp h3).1 ?_;have he3:(h2.update T (Obj.mapFields (·.setIfInBounds 3 Value.none))).get? e=some oe:=(Heap.get?_update_other _ _ hTe).trans he;have J3:Inv (X.bh e oe) pins σ (upd H' e (Fz oe)) ⟨h2.update T (Obj.mapFields (·.setIfInBounds 3 Value.none)),g,d,tk,s0.os⟩:=lJ I0 hst hex un hok bare (o2.trans (Off1.rQ nT _)) he3 hd hv ne;have hne:H' e=none:=Classical.byContradiction fun z=>ne (.inr z)
 have tup:∀ u,X.H₀ e=some u->(∀ b,X.H₀ b=some u->H' b=some u)->False:=fun u q z=>by
  have:=z e q;rw[hne]at this;cases this
 refine ig (X:=X.bh e oe) (v:=.ref e) J3 hN hi (.inl hl) rfl (fun s4 J4=>?_) (.inr hl);refine wpAny_mono (k oe vs s4 hcd hd hv hne ?_ (fun xs q=>?_) (fun o u q=>?_) (fun ps q=>?_) J4) (fun f s5 z=>z) fun _ _ z=>z.elim
 ·cases q:X.s₀.heap.get? e with
  | none=>rfl
  |some u=>
   obtain⟨u',q'⟩:=I0.old hex q;exact(ne (.inl ⟨u',q'⟩)).elim
 ·have:=un.dJ e xs (I0.base.dJ e xs q);rw[hne]at this;cases this
 ·have:=un.cI e o u (I0.base.cI e o u q);rw[hne]at this;cases this
 ·obtain⟨m1,q1⟩:=I0.base.dH e ps q;obtain⟨m2,q2⟩:=un.dH e _ q1;rw[hne]at q2;cases q2
end
section
variable{K:PySem.W.Frag}
def ba.unset(hi:M.contains i=false):ba M (σ.set i none)=ba M σ:=by
 funext a;apply propext
 have hne:∀ {j},M.contains j=true->i≠j:=fun hj z=>by subst z;rw[hi]at hj;cases hj
 constructor
 ·rintro⟨j,hj,e⟩;rw[List.getElem?_set_ne (hne hj)]at e;exact⟨j,hj,e⟩
 ·rintro⟨j,hj,e⟩;exact⟨j,hj,by rw[List.getElem?_set_ne (hne hj)];exact e⟩
def gY{α:Type}{l:List (Option α)}{i j:Nat}{v:α}(h:(l.set i none)[j]?=some (some v)):i≠j/\l[j]?=some (some v):=by
 by_cases hj:i=j
 ·subst hj;rw[List.getElem?_set]at h;split at h
  ·split at h<;>cases h
  ·exact absurd rfl ‹_›
 ·rw[List.getElem?_set_ne hj]at h;exact⟨hj,h⟩
def RVm.unset(h:RVm K M σD σ H)(hi:M.contains i=false):RVm K M (σD.set i none) (σ.set i none) H where
 len:=by simpa using h.len
 val:=fun j d e=>by
  obtain⟨hj,e⟩:=gY e;obtain⟨v,e1,e2⟩:=h.val j d e;exact⟨v,by rw[List.getElem?_set_ne hj];exact e1,by rw[ba.unset hi];exact e2⟩
 non:=fun j v e=>by
  obtain⟨hj,e⟩:=gY e;obtain⟨d,e1⟩:=h.non j v e;exact⟨d,by rw[List.getElem?_set_ne hj];exact e1⟩
 sep:=fun j k a hj hk e1 e2=>h.sep j k a hj hk (gY e1).2 (gY e2).2
def Fr'.unset(hi:M.contains i=false):Fr' M σ H (σ.set i none) H:=⟨fun b o e n=>⟨e,by rw[ba.unset hi];exact n⟩,fun j hj=>List.getElem?_set_ne fun z=>by subst z;rw[gE hj]at hi;cases hi⟩
end
section
@[reducible]noncomputable def CxX(X:Cx)(pn:List (Addr × Obj))(E:Value->Shared->Prop):Cx:={ X with pn:=pn,xe:=E }
abbrev vX(X:Cx)(EX:L2.St->XK):Prop:=(∀ pins σ H s e s',Inv X pins σ H s->CXE X.prog X.w X.stack H s (EX σ) e s'->X.xe e s')/\(∀ pins σ H s h' e C vs,Inv X pins σ H s->Heap.MadeExcOf s.heap h' e (.ref C) vs->EX σ (.ref C) none H->X.xe (.ref e) { s with heap:=h' }) /\
 ∀ pins σ H s C i e od H' s',Inv X pins σ H s->vv X H s C (some i) e od H' s'->EX σ (.ref C) od H'->X.xe (.ref e) s'
abbrev wC(cl:RL.Cl)(M:List Nat)(b:RL.Ss)(i:Nat)(sel:Str->Option RL.Ss)(σ:RL.St):Option (RL.Out × RL.St):=match RL.ai cl M b σ with
 | some p=>some p
 | none=>(RL.bI cl M b σ).bind fun q=>(sel q.1).bind fun h=>(RL.ai cl M h (q.2.set i (some (.exc q.1)))).map fun r=>(r.1,r.2.set i none)
abbrev CK(X:Cx)(cl:RL.Cl)(M:List Nat)(hs:List ExceptHandler)(n:Str)(x:Str)(h:RL.Ss):Prop:=∃ c R b0 bh np hpos hrest,(∀ e oe,SSs (X.bh e oe) cl M (b0::bh) h)/\Cls X.K c R/\c∈cA/\RL.fM x c=true/\Gl X c/\X.mg c=some (.ref R)/\(c == ("__debug__" : Str))=false /\
 ∀ C,Cls X.K (RL.baseOf x) C->∀ pins σ Q E e oe H s,Inv (X.bh e oe) pins σ H s->s.heap.get? e=some oe->oe.cls=.ref C->wpAny (model X.prog X.w) X.A (handleBy (.ref e) X.env (.ExceptHandler (some (.Name c np)) (some n) (b0::bh) hpos::hrest)) Q E s->wpAny (model X.prog X.w) X.A (handleBy (.ref e) X.env hs) Q E s
def xI(hx:X.xe=fun _ _=>False)(hst:X.stack=X.env::X.outer)(hfrm:X.env.frame=some X.env.locals)(hex:X.ex=[])(hb:SSs X cl M body b)
 (hbx:∀ (pn:List (Addr × Obj)) (E:Value->Shared->Prop) (EX:L2.St->XK),vX (CxX X pn E) EX->PassesOwn (model X.prog X.w) X.A X.env E->RZs (CxX X pn E) EX cl M body b)
 (hsel:∀ x h,sel x=some h->CK X cl M (h0::hs) n x h)(hev:∀ σ,RL.evS cl M st' σ=wC cl M b i sel σ)(hN:X.N.Nodup)(hi:X.N[i]?=some n)(hl:X.env.scope.names.lookup n=some .local)(hM:M.contains i=false) :
  SS X cl M (.Try body (h0::hs) [] [] pos) st':=by
 intro pins s σ H D I hh;obtain⟨σD,r,σD',rv,ev,post⟩:=hh;rw[hev]at ev;unfold wC at ev;clear hev;refine wpAny_Try_except ?_
 cases hev:RL.ai cl M b σD with
 |some p=>
  rw[hev]at ev;cases ev
  refine wpAny_mono (hb pins s σ H D I ⟨σD,r,σD',rv,hev,post⟩) (fun f s1 q=>?_) fun e s1 z=>by rw[hx]at z;exact z.elim
  cases f with
  | next=>exact wpAny_execs_nil q
  | ret u=>exact q
  | brk=>exact q
  | cont=>exact q
 |none=>
  rw[hev]at ev;obtain⟨⟨x,σD1⟩,hev2,ev⟩:=bind_some ev;obtain⟨h,hsx,ev⟩:=bind_some ev;obtain⟨c,R,b0,bh,np,hpos,hrest,hsu,hR,hcr,hsub,hg,hm,hdb,hpre⟩:=hsel x h hsx;obtain⟨⟨rr,σ5⟩,hev3,ev⟩:=map_some ev;cases ev;generalize hE:(fun(e:Value) (s₁:Shared)=>wpAny (model X.prog X.w) X.A (noteFrame e X.env) (fun _ s₂=>wpAny (model X.prog X.w) X.A (setFlight e none) (fun _ s₃=>wpAny (model X.prog X.w) X.A (handleBy e X.env (h0::hs)) (SP X pins D) X.xe s₃) X.xe s₂) X.xe s₁)=E1
  have own:PassesOwn (model X.prog X.w) X.A X.env E1:=by
   rw[<-hE];exact PassesOwn.looking
  have hand:∀ (pins':List (Addr × Obj)) (σ1:L2.St) (H0 H':Hp) (s0 s1:Shared) (e C:Addr) (od:Option Addr) (tb:Bool),Inv (CxX X (X.pn++pins) E1) pins' σ1 H0 s0->s1.os=s0.os->AllBare s1.gens->Un (frs X.stack) [] H0 H' s0.heap s1.heap->HOk X.prog X.w H' s1.heap->Exc (dX s0.heap H') e C od tb s1.heap ->
    (CO X.K x C od H'/\RVm X.K M σD1 σ1 H'/\Fr' M σ H σ1 H')->E1 (.ref e) s1:=by
   intro pins' σ1 H0 H' s0 s1 e C od tb J os bare un hok ex ⟨hc,rv1,fr1⟩
   have I0:Inv X pins σ1 H0 s0:=⟨⟨J.ok.mod,J.ok.kind,J.ok.glob,J.ok.blt,J.ok.above,J.ok.inj,J.ok.has,J.ok.cab,J.ok.hd,J.ok.frames,J.ok.stk,J.ok.exf,J.ok.bs,J.ok.bsz,J.ok.gN,J.ok.gS,J.ok.de,J.ok.frf⟩,J.os,J.bare,J.base,J.loc,J.cell,J.free,J.cy,fun p hp=>J.pin p (List.mem_append_left _ hp),J.hok,J.len⟩
   rw[<-hE];refine rf I0 hst hfrm hex os bare un hok ex hc.1 hR hcr hsub hg hm hdb hN hi hl (fun oe H s=>hpre C hc.1 pins σ1 _ _ e oe H s) fun oe vs s4 hcd hd hv hne hn0 n1 n2 n3 J4=>?_
   have sm:ax H' (upd H' e (Fz oe)):=fun a u q=>by rw[aB (aG q hne)];exact q
   have rv4:RVm X.K M (σD1.set i (some (.exc x))) (σ1.set i (some (.ref e))) (upd H' e (Fz oe)):=(rv1.same sm).bind hM (by
    exact⟨e,oe,_,C,vs,rfl,aR,⟨hcd.1,by rw[hcd.2];exact hc.2.keep fun b o u q=>sm b _ q⟩,hd,hv,hc.1⟩)
   have fr4:Fr' M σ H (σ1.set i (some (.ref e))) (upd H' e (Fz oe)):=fr1.trans (Fr'.bind hM sm)
   have post2:ly X.K M { nx:=fun σ' H5=>D.nx (σ'.set i none) H5,rt:=D.rt } (σ1.set i (some (.ref e))) (upd H' e (Fz oe)) rr σ5:=by
    cases rr with
    | nx=>exact fun σ' H5 rv5 fr5=>post (σ'.set i none) H5 (rv5.unset hM) ((fr4.trans fr5).trans (Fr'.unset hM))
    | rt d=>exact fun σ' H5 v H6 rv5 fr5 sm5 rp=>post (σ'.set i none) H5 v H6 (rv5.unset hM) ((fr4.trans fr5).trans (Fr'.unset hM)) sm5 fun P hP=>rp P fun p hp=>by rw[<-ba.unset hM];exact hP p hp
   refine wpAny_mono (hsu e oe pins s4 _ _ _ J4 ⟨_,rr,σ5,rv4,hev3,post2⟩) (fun f s5 q=>?_) fun e s5 z=>by
    have z:X.xe e s5:=z;rw[hx]at z;exact z.elim
   cases f with
   |next=>
    obtain⟨σ',H5,J5,q⟩:=q
    exact qh (jO J5 I0.ok hn0 n1 n2 n3) hN hi hl fun s6 J6=>⟨_,H5,J6,q⟩
   |ret u=>
    obtain⟨v,σ',H5,J5,rel,q⟩:=q
    exact qh (jO J5 I0.ok hn0 n1 n2 n3) hN hi hl fun s6 J6=>⟨v,_,H5,J6,rel,q⟩
   |brk=>
    obtain⟨_,_,_,q⟩:=q;exact q.elim
   |cont=>
    obtain⟨_,_,_,q⟩:=q;exact q.elim
  have rz:=hbx (X.pn++pins) E1 (fun σ1 Cv od H1=>∃ C,Cv=.ref C/\CO X.K x C od H1/\RVm X.K M σD1 σ1 H1/\Fr' M σ H σ1 H1) ⟨fun pins' σ1 H0 s0 e s1 J z=>by
    obtain⟨x',C,od,H',rfl,⟨C',q,hc⟩,os,bare,un,hok,ex⟩:=z;cases q
    exact hand pins' σ1 H0 H' s0 s1 x' C od true J os bare un hok ex hc,fun pins' σ1 H0 s0 h' e C vs J m z=>by
    obtain⟨C',q,hc⟩:=z;cases q
    exact hand pins' σ1 H0 H0 s0 _ e C none false J rfl J.bare (Un.kept m.keeps) (J.hok.kept m.keeps) (mW J.hok m) hc,fun pins' σ1 H0 s0 C j e od H' s1 J nx z=>by
    obtain⟨C',q,hc⟩:=z;cases q
    exact hand pins' σ1 H0 H' s0 s1 e C od false J nx.os nx.bare nx.un nx.hok nx.ex hc⟩ own
  have I1:Inv (CxX X (X.pn++pins) E1) [] σ H s:=⟨⟨I.ok.mod,I.ok.kind,I.ok.glob,I.ok.blt,I.ok.above,I.ok.inj,I.ok.has,I.ok.cab,I.ok.hd,I.ok.frames,I.ok.stk,I.ok.exf,I.ok.bs,I.ok.bsz,I.ok.gN,I.ok.gS,I.ok.de,I.ok.frf⟩,I.os,I.bare,I.base,I.loc,I.cell,I.free,I.cy,fun p hp=>I.pin p (by rw[List.append_nil]at hp;exact hp),I.hok,I.len⟩
  refine wpAny_mono (rz [] s σ H { nx:=fun _ _=>False,rt:=fun _ _=>False } I1 ⟨σD,x,σD1,rv,hev2,fun σ1 H1 C od hc rv1 fr1=>⟨C,rfl,hc,rv1,fr1⟩⟩) (fun f s1 q=>?_) fun e s1 z=>by
   have z:E1 e s1:=z;subst hE;exact z
  cases f with
  |next=>
   obtain⟨_,_,_,q⟩:=q;exact q.elim
  |ret u=>
   obtain⟨_,_,_,_,_,q⟩:=q;exact q.elim
  |brk=>
   obtain⟨_,_,_,q⟩:=q;exact q.elim
  |cont=>
   obtain⟨_,_,_,q⟩:=q;exact q.elim
def Ap(hx:X.xe=fun _ _=>False)(hst:X.stack=X.env::X.outer)(hfrm:X.env.frame=some X.env.locals)(hex:X.ex=[])(hb:SSs X cl M body b)
 (hbx:∀ (pn:List (Addr × Obj)) (E:Value->Shared->Prop) (EX:L2.St->XK),vX (CxX X pn E) EX->PassesOwn (model X.prog X.w) X.A X.env E->RZs (CxX X pn E) EX cl M body b)
 (hsu:∀ e oe,SSs (X.bh e oe) cl M (b0::bh) h)(hR:Cls X.K c R)(hcr:c∈cA)(hg:Gl X c)(hm:X.mg c=some (.ref R))(hdb:(c == ("__debug__" : Str))=false)(hN:X.N.Nodup)(hi:X.N[i]?=some n)(hl:X.env.scope.names.lookup n=some .local)(hM:M.contains i=false) :
  SS X cl M (.Try body [.ExceptHandler (some (.Name c np)) (some n) (b0::bh) hpos] [] [] pos) (.tryc b c i h):=by
 refine xI (sel:=fun x=>if RL.fM x c then some h else none) hx hst hfrm hex hb hbx (fun x h' e=>?_) (fun σ=>?_) hN hi hl hM
 ·obtain⟨hs,e⟩:=cb e;subst e;exact⟨c,R,b0,bh,np,hpos,[],hsu,hR,hcr,hs,hg,hm,hdb,fun C hc pins σ Q E e oe H s J he hc' k=>k⟩
 ·rw[RL.sx];unfold wC
  cases RL.ai cl M b σ with
  | some p=>rfl
  |none=>
   show(RL.bI cl M b σ).bind _=(RL.bI cl M b σ).bind _;congr 1;funext q;dsimp only;by_cases hs:RL.fM q.1 c=true
   ·rw[if_pos hs,if_pos hs];rfl
   ·rw[if_neg hs,if_neg hs];rfl
end
section
variable{X:Cx}
def nq:br X (.builtin "isinstance") (fun xs H Q=>∃ b o u C vs t k f,xs=[.ref b,t]/\H b=some (.frz o u)/\(o.cls=.ref C/\gU H f o.dict)/\o.data=.fields vs/\mV X.K C/\((∃ D,t=.ref D/\PySem.W.kitOne X.K (.ref C) (.ref D)=some k)\/∃ T,t=.ty T/\PySem.W.kitOne X.K (.ref C) (.type T)=some k)/\Q (.bl k) H):=by
 intro pins s σ H xs us Q I r h;obtain⟨b,o,u,C,vs,t,k,f,rfl,hb,hcd,hd,F,hk,q⟩:=h
 cases r with
 |cons r1 r2=>
  cases r2 with
  |cons r2 r3=>
   cases r3;cases r1
   obtain⟨od,J⟩:∃ od,PySem.W.InstAt s.heap b o C od:=by
    cases f with
    | none=>exact⟨none,(I.hok _ _ hb).1,hcd.1,by unfold PySem.W.notCls;rw[hd],by rw[show o.dict=none from hcd.2];trivial⟩
    |some m=>
     obtain⟨n,u',hh,tk,tk',h1,h2⟩:=hcd.2;exact⟨some _,(I.hok _ _ hb).1,hcd.1,by unfold PySem.W.notCls;rw[hd],by rw[h1];exact(I.hok _ _ h2).1⟩
   rcases hk with⟨D,rfl,e⟩ | ⟨T,rfl,e⟩
   ·cases r2
    exact PySem.W.kia_one (oQ F) I.kIn J e (fun z=>nomatch z) fun tk=>⟨.bl k,H,I.tok tk,rfl,q⟩
   ·cases r2
    exact PySem.W.kia_one (oQ F) I.kIn J e (fun z=>nomatch z) fun tk=>⟨.bl k,H,I.tok tk,rfl,q⟩
def ud(ht:∀ x C,Cls X.K x C->(∃ D,t=.ref D/\PySem.W.kitOne X.K (.ref C) (.ref D)=some (RL.cJ x c))\/∃ T,t=.ty T/\PySem.W.kitOne X.K (.ref C) (.type T)=some (RL.cJ x c))(h:tE X.K cl (.isx a' c) σ H Q) :
  tCB (fun xs H Q=>∃ b o u C vs t k f,xs=[.ref b,t]/\H b=some (.frz o u)/\(o.cls=.ref C/\gU H f o.dict)/\o.data=.fields vs/\mV X.K C/\((∃ D,t=.ref D/\PySem.W.kitOne X.K (.ref C) (.ref D)=some k)\/∃ T,t=.ty T/\PySem.W.kitOne X.K (.ref C) (.type T)=some k)/\Q (.bl k) H) (mh (tE X.K cl a') (mh (tC t) nE)) σ H Q:=by
 obtain⟨σD,d,rv,e,k⟩:=h;obtain⟨x,ea,e⟩:=bind_some e
 cases x with
 |exc n=>
  cases e;refine⟨σD,_,rv,ea,fun v H1 r1=>?_⟩;have rp:=r1.rep;obtain⟨b,o,u,C,vs,rfl,h1,h2,h3,h4,h5⟩:=rp;exact⟨b,o,u,C,vs,t,_,_,rfl,h1,h2,h3,h5.kin,ht _ C h5,k _ _ (dM r1.same)⟩
 | _=>cases e
def AJ(hg:Gl X "isinstance")(hm:X.mg "isinstance" = none)(hgc:Gl X c)(hmc:X.mg c=some (.ref D))(hns:PySem.W.nsIn X.K mainGlobals c=some (some (.ref D)))(hcr:c∈cA)(hdb:(c == ("__debug__" : Str))=false)(ha:SE X cl a a')(hn:noStar a=true) :
  SE X cl (.Call (.Name "isinstance" p) [a,.Name c p2] [] pos) (.isx a' c) :=
 PE.weak (e6 nq hg hm (by decide +kernel) (bb ha (bb (qt (v:=.ref D) hgc hmc rfl hdb) cK rfl) (au _ hn)) (by decide) (by decide) (au _ hn) rfl) fun σ H Q h=>ud (fun x C hc=>.inl ⟨D,rfl,(hc.ref hcr hns).1⟩) h
def Ar(hg:Gl X "isinstance")(hm:X.mg "isinstance" = none)(hgc:Gl X "ValueError")(hmc:X.mg "ValueError" = none)(ha:SE X cl a a')(hn:noStar a=true):SE X cl (.Call (.Name "isinstance" p) [a,.Name "ValueError" p2] [] pos) (.isx a' "ValueError") :=
 PE.weak (e6 nq hg hm (by decide +kernel) (bb ha (bb (ql (v:=.ty "ValueError") hgc hmc PyProof.Rows.Boot.«ValueError» rfl (by decide) (by decide)) cK rfl) (au _ hn)) (by decide) (by decide) (au _ hn) rfl) fun σ H Q h=>ud (fun x C hc=>.inr ⟨_,rfl,by rw[hc.val];simp[RL.cJ]⟩) h
end
def lB:∀ ys:List Str,Str.join ⟨#[]⟩ ys=⟨(ys.flatMap fun s=>s.cps.toList).toArray⟩
 | []=>rfl
 | [x]=>by simp[Str.join]
 | x::y::r=>by
  have ih:=lB (y::r);show x++(⟨#[]⟩:Str)++Str.join ⟨#[]⟩ (y::r)=_;rw[ih];show(⟨(x.cps ++ #[])++(List.flatMap (fun s=>s.cps.toList) (y::r)).toArray⟩:Str)=_;simp
def pX:∀ {ys:List Str} {us:List Value},Vals (ys.map V.str) us->StrsAre us ys
 | [],_,r=>by cases r;exact .nil
 | y::ys,_,r=>by
  cases r with
  |cons a b=>
   obtain⟨t,rfl⟩:=a;exact .cons y t (pX b)
def nU{P:Addr->Prop}{K:PySem.W.Frag}:∀ {ds:List RL.D} {ss:List Str} {xs:List V},RL.strs? ds=some ss->af P K H ds xs->xs=ss.map V.str
 | [],ss,xs,h,r=>by
  cases h;exact r
 | d::ds,ss,xs,h,r=>by
  obtain⟨x,t,rfl,r1,r2⟩:=r
  cases d with
  |str y=>
   obtain⟨q,h1,h2⟩:=map_some h;subst h2;rw[aN r1,nU h1 r2];rfl
  | _=>cases h
section
def y9:MtR X "str.join" (fun x xs H Q=>∃ b ys,x=.str ⟨#[]⟩/\xs=[.ref b]/\H b=some (.lst (ys.map V.str))/\(ys.map (·.length)).sum<=16777216/\Q (.str (Str.join ⟨#[]⟩ ys)) H):=by
 intro pins s σ H x xs v us Q I rx r h;obtain⟨b,ys,rfl,rfl,hb,hz,q⟩:=h;obtain⟨t,rfl⟩:=rx;obtain⟨u,rfl,ru⟩:=vals1 r;cases ru;obtain⟨its,rv,ht,_⟩:=I.list (SqL.of hb)
 refine join_list ht.isList (by simpa using pX rv) (by show _+_*0<=_;rw[Nat.mul_zero];exact hz) fun t' k=>⟨.str (Str.join ⟨#[]⟩ ys),H,I.tok _,⟨t',?_⟩,q⟩
 show Value.str (Builtin.Str.glued ⟨#[]⟩ ys) t'=_;rw[PySem.StrLaws.glued_eq_join]
def tL:∀ {ss:List Str},ss.all (fun s=>decide (s.length<=100))=true->(ss.map (·.length)).sum<=100*ss.length
 | [],_=>Nat.le_refl _
 | x::r,h=>by
  rw[List.all_cons,Bool.and_eq_true,decide_eq_true_eq]at h;have:=tL h.2;rw[List.map_cons,List.sum_cons,List.length_cons];omega
def y6(ha:SE X cl a a')(hn:noStar a=true)(hline:(apos.endLine == pos.line)=true):SE X cl (.Call (.Attribute (.Constant (.str ⟨#[]⟩) j p) "join" apos) [a] [] pos) (.join a'):=by
 refine PE.weak (wM PySem.F.plainAttrs_str PySem.F.slot_str_join PySem.F.type_str_join y9 mI (bb ha cK (au [] hn)) rfl ?_ hline (au [] hn) rfl) fun σ H Q h=>?_
 ·rw[au [] hn];rfl
 obtain⟨σD,d,rv,e,k⟩:=h;obtain⟨x,ea,e⟩:=bind_some e
 cases x with
 |lst ds=>
  obtain⟨ss,e1,e2⟩:=bind_some e;split at e2
  ·rename_i hz;cases e2;refine⟨rfl,σD,_,rv,ea,fun v H1 r1=>?_⟩;obtain⟨b,xs,rfl,_,f2,f3⟩:=aP r1.rep;rw[nU e1 f3]at f2;have hs:=tL hz.2;have hm:RL.most=100000:=rfl;refine⟨b,ss,rfl,rfl,f2,by omega,?_⟩;rw[lB];exact k _ _ (cu r1.same eZ rfl)
  ·cases e2
 | _=>cases e
end
end RS
namespace L2
open PySem PySem.Spec PyProof.Rows
structure eE(k:Nat)(A:Around):Prop where
 dp:A.depth+3*k+5<recursionLimit
 un:A.units+16*k+200<cLine
def bP.h(r:bP k A):eE k A:=⟨r.dp,r.un⟩
def eE.mono(r:eE k A)(h:j<=k):eE j A:=⟨by have:=r.dp;omega,by have:=r.un;omega⟩
abbrev HXH(A:Around)(H:Hp):Prop:=A.handled=none\/∃ h o u vs,A.handled=some (.ref h)/\H h=some (.frz o u)/\o.data=.fields vs/\vs[2]?=some .none
structure jF(P:Program)(w:World)(K:PySem.W.Frag)(mg:Str->Option Value)(base:Heap)(k:Nat)(f:Addr)(fd:FuncData)(ps:List Str)(sp:Sp):Prop where
 len:∀ vs H Q,sp vs H Q E0->vs.length=ps.length
 run:∀ (A:Around) (outer:List Env) (s:Shared) (H:Hp) (us:List Value) (vs:List V) (Q:VK),eE k A->HXH A H->mT P w K mg base A outer s H->BindsTo s fd ⟨us,[]⟩ (ps.zip us)->Vals vs us->sp vs H Q E0->codeAny (model P w) A (.call (.ref f) ⟨us,[]⟩) (CR CX0 outer P w H s Q E0) s
@[reducible]noncomputable def cxH(P:Program)(w:World)(K:PySem.W.Frag)(mg:Str->Option Value)(base:Heap)(N:List Str)(qual:Str)(scope:Scope)(f:Addr)(cd:Value)(A:Around)(outer:List Env)(s:Shared)(H:Hp):Cx:={ (fG CX0 P w K mg base N qual scope f cd A outer s H E0).nox with calm:=false }
section
variable{K:PySem.W.Frag}{st:Stmt}
def Fun.okH(F:Fun K x qual st f fd)(S:eA N ps (aH st))(len:∀ vs H Q,sp vs H Q E0->vs.length=ps.length)
 (hbody:∀ (cdv:Value) (A:Around) (outer:List Env) (s:Shared) (H:Hp) (vs:List V) (Q:VK),eE k (A.deeper (envOfC qual (aH st) s.heap.objs.size f cdv))->sp vs H Q E0->∃ t,PSs (cxH P w K mg base N qual (aH st) f cdv A outer s H) (bZ st) t/\t { nx:=fun _ H'=>Q .non H',rt:=Q } (start N vs) H):jF P w K mg base (k+1) f fd ps sp:=by
 obtain⟨oc,od,kV,doc,pm,an,cdv,ct,osl,rfl,lk,hcd⟩:=F.ex;refine⟨len,fun A outer s H us vs Q hr hx e0 hb r hsp=>?_⟩;have hl:=len _ _ _ hsp;have KX:=e0.mod.kin.keeps fun b o e=>(e0.bs b o e).1
 have kinds:∀ y∈ps.zip us,(aH st).names.lookup y.1=some .local\/((aH st).names.lookup y.1=some .cell/\((cellsFrom (s.heap.objs.size+1) (aH st).names []).lookup y.1).isSome=true):=fun⟨n,v⟩ hy=>(S.par n (List.of_mem_zip hy).1).imp (fun q=>q) fun q=>⟨q,PySem.W.cellsFrom_some _ _ _ (.inl q)⟩
 refine codeAny_call_function (by have:=hr.dp;omega) (KX _ _ lk) rfl S.co S.gen rfl (PySem.W.codeRec_of KX hcd) (hb _ _ _ _ ?_);refine wpAny_newFunctionEnv_cells S.kind kinds fun env he s1 y=>?_;subst he;refine⟨(e0.mod.nolimit.keeps fun b o e=>(e0.bs b o e).1).keeps y.toInCall.keep,codeAny_func ?_⟩
 have hr':eE k (A.deeper (envOfC qual (aH st) s.heap.objs.size f cdv)):=⟨by have:=hr.dp;show A.depth+1+3*k+5<_;omega,by have:=hr.un;show A.units+3+16*k+200<_;omega⟩
 obtain⟨t,ht,hq⟩:=hbody cdv A outer s H vs Q hr' hsp;have I0:Inv (fG CX0 P w K mg base N qual (aH st) f cdv { A with handled:=none } outer s H E0) [] (start N vs) H s1:=lD S rfl ⟨e0.frames,e0.mod,e0.bs,e0.bsz,e0.de,e0.frf,e0.hok,e0.bare⟩ hl r y
 have I:Inv (cxH P w K mg base N qual (aH st) f cdv A outer s H) [] (start N vs) H s1:=⟨⟨I0.ok.mod,I0.ok.kind,I0.ok.glob,I0.ok.blt,I0.ok.above,I0.ok.inj,I0.ok.has,I0.ok.cab,⟨fun z=>(nomatch z),hx⟩,Around.frames_deeper e0.frames,I0.ok.stk,I0.ok.exf,I0.ok.bs,I0.ok.bsz,I0.ok.gN,I0.ok.gS,I0.ok.de,I0.ok.frf⟩,I0.os,I0.bare,I0.base,I0.loc,I0.cell,I0.free,I0.cy,I0.pin,I0.hok,I0.len⟩
 refine wpAny_mono (ht [] s1 (start N vs) H _ I hq) (fun fl s' hs=>?_) fun e s' hs=>hs.elim
 cases fl with
 |ret u=>
  obtain⟨v,σ',H',J,rv,q⟩:=hs;exact⟨v,H',J.os,J.bare,J.base,J.hok,rv,q⟩
 |next=>
  obtain⟨σ',H',J,q⟩:=hs;exact⟨.non,H',J.os,J.bare,J.base,J.hok,rfl,q⟩
 |brk=>
  obtain⟨_,_,_,q⟩:=hs;exact q.elim
 |cont=>
  obtain⟨_,_,_,q⟩:=hs;exact q.elim
def Fun.okX(F:Fun K x qual st f fd)(S:eA N ps (aH st))(len:∀ vs H Q E,sp vs H Q E->vs.length=ps.length)
 (hbody:∀ (cdv:Value) (A:Around) (outer:List Env) (s:Shared) (H:Hp) (vs:List V) (Q:VK) (E:XK),bP k (A.deeper (envOfC qual (aH st) s.heap.objs.size f cdv))->sp vs H Q E->∃ t,PSs (fG (CXE P w) P w K mg base N qual (aH st) f cdv A outer s H E) (bZ st) t/\t { nx:=fun _ H'=>Q .non H',rt:=Q } (start N vs) H):dz P w K mg base (CXE P w) (k+1) f fd ps sp:=by
 obtain⟨oc,od,kV,doc,pm,an,cdv,ct,osl,rfl,lk,hcd⟩:=F.ex;exact xn lk hcd S len fun A outer s H vs Q E hr hsp=>hbody cdv A outer s H vs Q E hr hsp
end
def wc(F:jF X.prog X.w X.K X.mg X.base k f fd ps sp)(hr:eE k X.A)(hg:Gl X x)(hm:X.mg x=some (.ref f))(hk:PySem.W.keepIn X.K (.ref f)=true)
 (hb:Binds X.K fd ps [])(ha:PA X (e::es) t)(hdb:(x == ("__debug__" : Str))=false)(he:starEach (e::es) X.env=(false,eval e X.env)::starEach es X.env)(hpl:(backTo pos (starEach es X.env)).any (·.1)=false) :
  PE X (.Call (.Name x p) (e::es) [] pos) (fun σ H Q=>t σ H fun vs H1=>sp vs H1 Q E0):=by
 intro pins s σ H Q I h;refine wpAny_Call_Name_kw (fm I hg hm ?_ hdb);refine PySem.W.callWith_K I.ok.mod.kin hk (thn (ha pos pins s σ H _ I h) fun us s1 ⟨vs,H1,I1,r,q⟩=>⟨I1.kIn,?_⟩) he hpl
 have hl:us.length=ps.length:=by rw[<-r.length];exact F.len _ _ _ q
 have hbb:=hb s1 us I1.kIn (by rw[List.append_nil];exact hl);rw[List.append_nil]at hbb
 have hx:HXH X.A H1:=by
  rcases I1.ok.hd.2 with z | ⟨h,o,u,vs,h1,h2,h3⟩
  ·exact .inl z
  ·exact .inr ⟨h,o,u,vs,h1,I1.base.cI _ _ _ h2,h3⟩
 refine wpAny_call (codeAny_mono (F.run X.A X.stack s1 H1 us vs Q hr hx I1.vi hbb r q) fun r s' hq=>?_)
 cases r with
 | error e=>exact hq.elim
 |ok fl=>
  cases fl with
  | ret u=>exact I1.after hq
  | next=>exact False.elim hq
  | brk=>exact False.elim hq
  | cont=>exact False.elim hq
end L2
namespace RS
open PySem PySem.Spec PyProof.Rows L2
abbrev xk:Expr->Option (List Expr)
 | .JoinedStr vs _=>some vs
 | _=>none
def vk{e:Expr}{vs:List Expr}(h:xk e=some vs):∃ p,e=.JoinedStr vs p:=by
 cases e
 case JoinedStr=>cases h;exact⟨_,rfl⟩
 all_goals exact nos h
abbrev BF:Expr->Option (Expr × Int × Option Expr)
 | .FormattedValue e c s _=>some (e,c,s)
 | _=>none
def xQ{e x:Expr}{c:Int}{s:Option Expr}(h:BF e=some (x,c,s)):∃ p,e=.FormattedValue x c s p:=by
 cases e
 case FormattedValue=>cases h;exact⟨_,rfl⟩
 all_goals exact nos h
abbrev ui:Stmt->Option (Option Expr × Option Expr)
 | .Raise e c _=>some (e,c)
 | _=>none
def si{st:Stmt}{e c:Option Expr}(h:ui st=some (e,c)):∃ p,st=.Raise e c p:=by
 cases st
 case Raise=>cases h;exact⟨_,rfl⟩
 all_goals exact nos h
abbrev B0:Stmt->Option (List Stmt × List ExceptHandler × List Stmt × List Stmt)
 | .Try b h o f _=>some (b,h,o,f)
 | _=>none
def yQ{st:Stmt}{b o f:List Stmt}{h:List ExceptHandler}(z:B0 st=some (b,h,o,f)):∃ p,st=.Try b h o f p:=by
 cases st
 case Try=>cases z;exact⟨_,rfl⟩
 all_goals exact nos z
abbrev m6:ExceptHandler->Option Expr × Option Str × List Stmt
 | .ExceptHandler t n b _=>(t,n,b)
structure CC where
 N:List Str
 sc:Scope
 B:List Str
 G:List (Str × Int)
 F:List (Str × List Nat)
 calm:Bool
 hf:List Nat
 Xr:List Str
 Xs:List Str
 Xi:List Str
 Xo:List (Str × Nat)
 W:List (Str × List (Str × Nat))
abbrev Cm(scope sc:Scope):Scope:={ scope with names:=scope.names.map fun(n,k)=>if(k == NameKind.free&&sc.kind == .function&&sc.names.lookup n == some .cell)then(n,NameKind.cell)else(n,k) }
abbrev CC.inner(C:CC)(scope:Scope):CC:={ C with sc:=Cm scope C.sc }
abbrev gC(x:Str):Bool:=!(x == ("__debug__" : Str)) && !(x == ("__classdict__" : Str))
abbrev vt(C:CC)(x:Str):Bool:=C.sc.names.lookup x == some .local || C.sc.names.lookup x == some .cell
abbrev vQ(C:CC)(x:Str):Bool:=C.sc.names.lookup x == some .local || C.sc.names.lookup x == some .cell || C.sc.names.lookup x == some .free
abbrev glB(C:CC)(x:Str):Bool:=C.sc.names.lookup x == some .globalImplicit&&gC x
abbrev jA(C:CC)(x:Str):Bool:=glB C x&&C.B.contains x
abbrev nmB(C:CC)(i:Nat)(x:Str):Bool:=C.N[i]? == some x&&gC x
structure XOk(C:CC)(X:Cx)(cl:RL.Cl):Prop where
 scope:X.env.scope=C.sc
 names:X.N=C.N
 nd:C.N.Nodup
 calm:C.calm=true->X.calm=true
 xe:X.xe=fun _ _=>False
 hu:X.A.units+100<cLine
 blt:∀ x∈C.B,X.mg x=none
 glb:∀ x i,C.G.lookup x=some i->∃ u,X.mg x=some u/\RelV (.int i) u
 fns:∀ (f:Nat) (x:Str) (mp:List Nat),C.calm=true->C.F[f]?=some (x,mp)->∃ k fa fd ps,dz X.prog X.w X.K X.mg X.base CX0 k fa fd ps (if mp=[]then spF X.K cl f else spM X.K cl mp f)/\bP k X.A/\X.mg x=some (.ref fa)/\PySem.W.keepIn X.K (.ref fa)=true/\Binds X.K fd ps []
 gds:∀ x tbl,C.W.lookup x=some tbl->∃ d kvs,X.mg x=some (.ref d)/\GDc X d kvs/\kvs.map (·.1)=tbl.map (·.1)/\∀ y m,RL.v7 tbl (.str y)=some m->∃ q nm,(kvs.find? fun q=>decide (q.1=y))=some q/\C.F[m]?=some (nm,[])/\X.mg nm=some (.ref q.2)
 hfn:∀ (f:Nat) (x:Str),C.hf.contains f=true->C.F[f]?=some (x,[])->∃ k fa fd ps,jF X.prog X.w X.K X.mg X.base k fa fd ps (spF X.K cl f)/\eE k X.A/\X.mg x=some (.ref fa)/\PySem.W.keepIn X.K (.ref fa)=true/\Binds X.K fd ps []
 cls:∀ c,C.Xr.contains c=true->∃ D,X.mg c=some (.ref D)/\Cls X.K c D/\PySem.W.excIn X.K D VE "ValueError.__new__" = true
 ref:∀ c,C.Xs.contains c=true->∃ D,X.mg c=some (.ref D)/\PySem.W.nsIn X.K mainGlobals c=some (some (.ref D))
section
variable{C:CC}{X:Cx}{cl:RL.Cl}{e:Expr}
def XOk.vis(h:XOk C X cl){x:Str}(v:vQ C x=true):Vis X.env.scope x:=by
 unfold vQ at v;rw[<-h.scope,Bool.or_eq_true,Bool.or_eq_true,beq_iff_eq,beq_iff_eq,beq_iff_eq]at v;rcases v with(v | v) | v
 ·exact .inl v
 ·exact .inr (.inl v)
 ·exact .inr (.inr v)
def XOk.loc(h:XOk C X cl){x:Str}(v:vt C x=true):Loc X.env.scope x:=by
 unfold vt at v;rw[<-h.scope,Bool.or_eq_true,beq_iff_eq,beq_iff_eq]at v;exact v
def bV{x:Str}(h:gC x=true):(x == ("__debug__" : Str))=false/\(x == ("__classdict__" : Str))=false:=by
 unfold gC at h;rw[Bool.and_eq_true,Bool.not_eq_true',Bool.not_eq_true']at h;exact h
def XOk.gl(h:XOk C X cl){x:Str}(v:glB C x=true):Gl X x/\gC x=true:=by
 unfold glB at v;rw[<-h.scope,Bool.and_eq_true,beq_iff_eq]at v;exact v
def XOk.bl(h:XOk C X cl){x:Str}(v:jA C x=true):Gl X x/\X.mg x=none:=by
 unfold jA at v;rw[Bool.and_eq_true]at v;exact⟨(h.gl v.1).1,h.blt x (by simpa using v.2)⟩
def XOk.nm(h:XOk C X cl){i:Nat}{x:Str}(v:nmB C i x=true):X.N[i]?=some x/\gC x=true:=by
 unfold nmB at v;rw[<-h.names,Bool.and_eq_true,beq_iff_eq]at v;exact v
def XOk.ndX(h:XOk C X cl):X.N.Nodup:=by rw[h.names];exact h.nd
def XOk.blk(h:XOk C X cl){scope:Scope}(cls:List (Str × Addr))(Ca:Addr)(fp:List Addr)(s:Shared)(H:Hp):XOk (C.inner scope) (L2.blk X scope cls Ca fp s H) cl where
 scope:=by
  show relabel scope X.env=Cm scope C.sc;rw[<-h.scope];rfl
 names:=h.names
 nd:=h.nd
 calm:=h.calm
 xe:=rfl
 hu:=h.hu
 blt:=h.blt
 glb:=h.glb
 fns:=h.fns
 hfn:=h.hfn
 cls:=h.cls
 ref:=h.ref
 gds:=h.gds
abbrev fS:RL.D->Const->Bool
 | .int i,.int j=>i == j
 | .bl i,.bool j=>i == j
 | .non,.none=>true
 | .str x,.str y=>x == y
 | _,_=>false
abbrev plainT:Expr->Bool
 | .UnaryOp .Not _ _=>false
 | .BoolOp _ _ _=>false
 | .IfExp _ _ _ _=>false
 | .Compare _ _ _ _=>false
 | _=>true
abbrev oh:Expr->Bool
 | .BoolOp _ _ _=>true
 | _=>false
abbrev jI:Expr->Bool
 | .Set _ _ _=>false
 | _=>true
abbrev rh:RL.Bi->Option Str
 | .len=>some "len"
 | .int=>some "int"
 | .all=>some "all"
 | .sortedT=>some "sorted"
 | _=>none
abbrev oF:RL.Ty->Str
 | .int => "int"
 | .bool => "bool"
 | .list => "list"
 | .tuple => "tuple"
 | .str => "str"
abbrev DR(neg:Bool):CmpOp:=if neg then .IsNot else .Is
abbrev ri(C:CC)(i:Nat)(e:Expr):Bool:=(dB e).any fun x=>nmB C i x&&vQ C x
abbrev eX(C:CC)(i:Nat)(e:Expr):Bool:=(dB e).any fun x=>nmB C i x&&vt C x
abbrev iZ(C:CC):List Nat->List Expr->Bool
 | [],es=>es.isEmpty
 | i::is,es=>match es with
  | e::es=>eX C i e&&iZ C is es
  | []=>false
abbrev l5(C:CC)(tg:List Nat)(e:Expr):Bool :=
 match tg with
 | [i]=>eX C i e
 | tg=>(kK e).any fun es=>iZ C tg es
abbrev jT(C:CC)(scope:Scope)(tg:List Nat):Bool:=tg.all fun i=>match C.N[i]? with
 | some x=>scope.names.lookup x == some .local || scope.names.lookup x == some .cell
 | none=>false
abbrev ky(C:CC)(scope:Scope)(tg:List Nat):Bool:=(List.range C.N.length).all fun i=>match C.N[i]? with
 | some x=>!(scope.names.lookup x == some .local || scope.names.lookup x == some .cell) || tg.contains i
 | none=>true
abbrev scB(scope sc:Scope):Bool:=scope.kind == .function&&scope.names.all (fun x=>(!(x.2 == .cell) || scope.names.lookup x.1 == some .cell)&&(!(x.2 == .local) || scope.names.lookup x.1 == some .local)&&(!(x.2 == .free) || sc.names.lookup x.1 == some .cell || sc.names.lookup x.1 == some .free))
abbrev bo(C:CC)(e:Expr)(nm:Str)(f:List Expr->Bool):Bool:=(iP e).any fun q=>(dB q.1).any (fun x=>x == nm&&jA C x)&&q.2.2.1.isEmpty&&q.2.1.all noStar&&f q.2.1
def aY{nm:Str}{f:List Expr->Bool}(h:XOk C X cl)(z:bo C e nm f=true):∃ p as pos,e=.Call (.Name nm p) as [] pos/\Gl X nm/\X.mg nm=none/\as.all noStar=true/\f as=true:=by
 unfold bo at z;obtain⟨⟨g,as,ks,pos⟩,z0,z⟩:=ao z;have e0:=dZ z0;subst e0;obtain⟨z,z4⟩:=ae z;obtain⟨z,z3⟩:=ae z;obtain⟨z1,z2⟩:=ae z;obtain⟨x,y0,z1⟩:=ao z1;obtain⟨p,rfl⟩:=cC y0;obtain⟨y1,y2⟩:=ae z1;rw[beq_iff_eq]at y1;subst y1;obtain⟨b1,b2⟩:=h.bl y2;rw[List.isEmpty_iff]at z2;subst z2;exact⟨p,as,pos,rfl,b1,b2,z3,z4⟩
def all1{a:Expr}(h:[a].all noStar=true):noStar a=true:=by simpa using h
def all2{a b:Expr}(h:[a,b].all noStar=true):noStar a=true/\noStar b=true:=by simpa using h
def kI{a b c:Expr}(h:[a,b,c].all noStar=true):noStar a=true/\noStar b=true/\noStar c=true:=by simpa using h
end
abbrev qY:RL.It->Bool
 | .zip _ _=>true
 | _=>false
mutual
noncomputable def chk(C:CC)(t:Bool):RL.E->Expr->Bool
 | .var i=>fun e=>ri C i e
 | .cst d=>fun e=>(kT e).any fun k=>fS d k
 | .glb y i=>fun e=>(dB e).any fun x=>x == y&&glB C x&&C.G.lookup x == some i
 | .bin o a b=>fun e=>(BN e).any fun q=>q.2.1 == nJ o&&chk C false a q.1&&chk C false b q.2.2
 | .neg a=>fun e=>(vUn e).any fun q=>q.1 == .USub&&chk C false a q.2
 | .cmp c a b=>fun e=>(oz e).any fun q=>of1 q.2.1 fun op=>of1 q.2.2 fun r=>op == du c&&chk C false a q.1&&chk C false b r
 | .chain c c' a b d=>fun e=>(oz e).any fun q=>of2 q.2.1 fun op op'=>of2 q.2.2 fun r s=>op == du c&&op' == du c'&&chk C false a q.1&&chk C false b r&&chk C false d s
 | .isN neg a=>fun e=>(oz e).any fun q=>of1 q.2.1 fun op=>of1 q.2.2 fun r=>op == DR neg&&(kT r).any (fun k=>fS .non k)&&chk C false a q.1
 | .and a b=>fun e=>(vBool e).any fun q=>ofM q.2.1 fun l r rest=>q.1 == .And&&chk C t a l&&(if rest.isEmpty then chk C t b r else chk C t b (.BoolOp .And (r::rest) q.2.2))
 | .or a b=>fun e=>(vBool e).any fun q=>ofM q.2.1 fun l r rest=>q.1 == .Or&&chk C t a l&&(if rest.isEmpty then chk C t b r else chk C t b (.BoolOp .Or (r::rest) q.2.2))
 | .not a=>fun e=>(vUn e).any fun q=>q.1 == .Not&&chk C t a q.2
 | .ifx c a b=>fun e=>(Bt e).any fun q=>!t&&chk C true c q.1&&chk C false a q.2.1&&chk C false b q.2.2
 | .tup es=>fun e=>(kK e).any fun xs=>iQ C es xs&&decide (dD es<=1000)
 | .lst es=>fun e=>(Cr e).any fun xs=>iQ C es xs&&decide (dD es<=1000)
 | .ix a b=>fun e=>(qB e).any fun q=>vE q.2&&chk C false a q.1&&chk C false b q.2
 | .slT a b=>fun e=>(qB e).any fun q=>chk C false a q.1&&(vSl q.2).any fun s=>s.1.isNone&&s.2.2.isNone&&s.2.1.any fun r=>chk C false b r
 | .slF a b=>fun e=>(qB e).any fun q=>chk C false a q.1&&(vSl q.2).any fun s=>s.2.1.isNone&&s.2.2.isNone&&s.1.any fun r=>chk C false b r
 | .call f es=>fun e=>(C.calm || C.hf.contains f)&&(iP e).any fun q=>(dB q.1).any (fun x=>glB C x&&C.F[f]? == some (x,[]))&&q.2.2.1.isEmpty && !q.2.1.isEmpty&&iQ C es q.2.1
 | .bi b a=>fun e=>C.calm&&match b with
  | .lenSet=>false
  | b=>(rh b).any fun x=>bo C e x fun ys=>of1 ys fun y=>chk C false a y
 | .max a b=>fun e=>C.calm&&bo C e "max" fun ys=>of2 ys fun y z=>chk C false a y&&chk C false b z
 | .dvm a b=>fun e=>bo C e "divmod" fun ys=>of2 ys fun y z=>chk C false a y&&chk C false b z
 | .isi a ty=>fun e=>bo C e "isinstance" fun ys=>of2 ys fun y z=>(dB z).any (fun x=>x == oF ty&&jA C x)&&chk C false a y
 | .rng1 a=>fun e=>C.calm&&bo C e "list" fun ys=>of1 ys fun y=>bo C y "range" fun zs=>of1 zs fun z=>chk C false a z
 | .rngT a=>fun e=>C.calm&&bo C e "tuple" fun ys=>of1 ys fun y=>bo C y "range" fun zs=>of1 zs fun z=>chk C false a z
 | .rng2 a b=>fun e=>C.calm&&bo C e "list" fun ys=>of1 ys fun y=>bo C y "range" fun zs=>of2 zs fun z u=>chk C false a z&&chk C false b u
 | .rng3 c a b=>fun e=>C.calm&&bo C e "list" fun ys=>of1 ys fun y=>bo C y "range" fun zs=>of3 zs fun z u q=>fY c q&&chk C false a z&&chk C false b u
 | .comp d tg it c=>fun e=>(r9 e).any fun q=>of1 q.2.1 fun g=>of1 g.ifs fun w=>g.is_async == 0&&scB q.2.2.1 C.sc&&ky C q.2.2.1 tg&&jI g.iter&&l5 (C.inner q.2.2.1) tg g.target&&jT C q.2.2.1 tg&&nK C it g.target g.iter&&chk (C.inner q.2.2.1) false d q.1&&chk (C.inner q.2.2.1) true c w&&(C.calm || qY it)
 | .compA d tg it=>fun e=>(r9 e).any fun q=>of1 q.2.1 fun g=>g.ifs.isEmpty&&g.is_async == 0&&scB q.2.2.1 C.sc&&ky C q.2.2.1 tg&&jI g.iter&&l5 (C.inner q.2.2.1) tg g.target&&jT C q.2.2.1 tg&&nK C it g.target g.iter&&chk (C.inner q.2.2.1) false d q.1&&C.calm
 | .join a=>fun e=>(iP e).any fun q=>(rK q.1).any (fun u=>u.2.1 == ("join" : Str)&&u.2.2.endLine == q.2.2.2.line&&(kT u.1).any fun k=>fS (.str ⟨#[]⟩) k)&&q.2.2.1.isEmpty&&of1 q.2.1 fun y=>noStar y&&chk C false a y
 | .isx a c=>fun e=>bo C e "isinstance" fun ys=>of2 ys fun y z=>(dB z).any (fun x=>x == c&&(if c == ("ValueError" : Str)then jA C x else glB C x&&C.Xs.contains x&&cA.contains x))&&chk C false a y
noncomputable def iQ(C:CC):RL.Es->List Expr->Bool
 | .nil=>fun xs=>xs.isEmpty
 | .cons e es=>fun xs=>match xs with
  | x::xs=>noStar x&&chk C false e x&&iQ C es xs
  | []=>false
noncomputable def nK(C:CC):RL.It->Expr->Expr->Bool
 | .seq a=>fun _ e=>chk C false a e
 | .rng1 a=>fun _ e=>bo C e "range" fun ys=>of1 ys fun y=>chk C false a y
 | .rng2 a b=>fun _ e=>bo C e "range" fun ys=>of2 ys fun y z=>chk C false a y&&chk C false b z
 | .rng3 c a b=>fun _ e=>bo C e "range" fun ys=>of3 ys fun y z q=>fY c q&&chk C false a y&&chk C false b z
 | .enm a=>fun tg e=>(kK tg).isSome&&bo C e "enumerate" fun ys=>of1 ys fun y=>chk C false a y
 | .zip a b=>fun tg e=>(kK tg).isSome&&bo C e "zip" fun ys=>of2 ys fun y z=>chk C false a y&&chk C false b z
end
abbrev mZ(X:Cx)(cl:RL.Cl)(e:Expr)(e':RL.E)(b b':Bool):Prop:=(b=true->SE X cl e e')/\(b'=true->ST X cl e e'/\(oh e=true->SW X cl e e'))
section
variable{C:CC}{X:Cx}{cl:RL.Cl}{e:Expr}{e':RL.E}{b:Bool}
def rJ{env:Env}(h:plainT e=true)(whole:Sem Value):isTrue e env whole=(do let v <- whole;standAt e.pos;holding [v] (truthy v)):=by
 cases e<;>first
  | rfl
  | (cases h;done)
  | (rename_i op _ _;cases op<;>first | rfl | (cases h;done))
def aF(h:b=true->SE X cl e e'/\plainT e=true):mZ X cl e e' b b :=
 ⟨fun z=>(h z).1,fun z=>⟨vZ (h z).1 (rJ (h z).2),fun q=>by
  have:=(h z).2
  cases e<;>first | (cases q;done) | (cases this;done)⟩⟩
def jr(h:b=true->SE X cl e e'/\ST X cl e e'/\oh e=false):mZ X cl e e' b b :=
 ⟨fun z=>(h z).1,fun z=>⟨(h z).2.1,fun q=>by rw[(h z).2.2]at q;cases q⟩⟩
def C3(h:b=false){b':Bool}(h':b'=false):mZ X cl e e' b b':=⟨fun z=>(by rw[h]at z;cases z),fun z=>(by rw[h']at z;cases z)⟩
def Al{d:RL.D}{k:Const}{j:Nat}{pos:Pos}(h:fS d k=true):SE X cl (.Constant k j pos) (.cst d):=by
 cases d<;>cases k<;>simp only[fS]at h<;>first | (cases h;done) | skip
 case non.none=>exact jH nI (fun P H=>by rw[Rep]) rfl
 case bl.bool i j=>rw[beq_iff_eq]at h;subst h;exact jH C5 (fun P H=>nH) rfl
 case int.int i j=>rw[beq_iff_eq]at h;subst h;exact jH mJ (fun P H=>aO) rfl
 case str.str i j=>rw[beq_iff_eq]at h;subst h;exact jH mI (fun P H=>eZ) rfl
def yv{k:Const}(h:fS .non k=true):k=.none:=by
 cases k<;>simp only[fS]at h<;>first | (cases h;done) | rfl
def tK(t:RL.Ty):bootBuiltins (oF t)=some (.type (tyN t))/\oF t ≠ "__name__" /\ (oF t == ("__debug__" : Str))=false:=by
 cases t<;>exact⟨by decide +kernel,by decide +kernel,by decide +kernel⟩
def cZ(h:jI e=true)(env:Env)(x:Value):foldedSetIterable e env x=pure x:=by
 cases e<;>first | rfl | (cases h;done)
def D7(hcalm:X.calm=true){o:RL.Bi}{x:Str}{p pos:Pos}{y:Expr}{a':RL.E}(hx:rh o=some x)(hb:Gl X x)(hb2:X.mg x=none)(ha:SE X cl y a')(hn:noStar y=true):SE X cl (.Call (.Name x p) [y] [] pos) (.bi o a'):=by
 cases o<;>simp only[rh]at hx<;>first | (cases hx;done) | skip
 case len=>cases hx;exact AE hb hb2 ha hn
 case int=>cases hx;exact Cd hb hb2 ha hn
 case all=>cases hx;exact BD hcalm hb hb2 ha hn
 case sortedT=>cases hx;exact rL hb hb2 ha hn
def kX{i:Nat}(h:XOk C X cl)(z:ri C i e=true):∃ x p,e=.Name x p/\X.N[i]?=some x/\Vis X.env.scope x/\(x == ("__debug__" : Str))=false/\(x == ("__classdict__" : Str))=false:=by
 obtain⟨x,z0,z⟩:=ao z;obtain⟨p,rfl⟩:=cC z0;obtain⟨z1,z2⟩:=ae z;obtain⟨g1,g2⟩:=h.nm z1;exact⟨x,p,rfl,g1,h.vis z2,(bV g2).1,(bV g2).2⟩
def fE{i:Nat}(h:XOk C X cl)(z:eX C i e=true):∃ x p,e=.Name x p/\X.N[i]?=some x/\Loc X.env.scope x:=by
 obtain⟨x,z0,z⟩:=ao z;obtain⟨p,rfl⟩:=cC z0;obtain⟨z1,z2⟩:=ae z;exact⟨x,p,rfl,(h.nm z1).1,h.loc z2⟩
def je(h:XOk C X cl){T:List Nat}(hf:∀ i x,i∈T->X.N[i]?=some x->X.fn x=true\/X.env.scope.names.lookup x=some .local):∀ {is:List Nat} {es:List Expr},(∀ i∈is,i∈T)->iZ C is es=true->PGs X es (gs is)/\(assignEach es X.env).length=is.length/\(assignEach es X.env).findIdx? (·.1)=none
 | [],es,_,z=>by
  rw[iZ,List.isEmpty_iff]at z;subst z;exact⟨x9,rfl,rfl⟩
 | i::is,[],_,z=>by cases z
 | i::is,e::es,hs,z=>by
  rw[iZ]at z;obtain⟨z1,z2⟩:=ae z;obtain⟨x,p,rfl,g1,g2⟩:=fE h z1;obtain⟨h1,h2,h3⟩:=je h hf (fun j hj=>hs j (List.mem_cons_of_mem _ hj)) z2;refine⟨wA (pY h.ndX g1 g2 (hf i x (hs i List.mem_cons_self) g1)) h1 rfl,?_,?_⟩
  ·show(assignEach es X.env).length+1=is.length+1;rw[h2]
  ·show List.findIdx? (·.1) ((false,assign (.Name x p) X.env)::assignEach es X.env)=none;rw[List.findIdx?_cons];simp only[Bool.false_eq_true,if_false,h3,Option.map_none]
def nD{tg:List Nat}{tgE:Expr}(h:XOk C X cl)(hf:∀ i x,i∈tg->X.N[i]?=some x->X.fn x=true\/X.env.scope.names.lookup x=some .local)(hc:l5 C tg tgE=true):PG X tgE (gT X.K tg):=by
 unfold l5 at hc;split at hc
 ·obtain⟨x,p,rfl,g1,g2⟩:=fE h hc;exact pY h.ndX g1 g2 (hf _ x (by simp) g1)
 ·rename_i hne;obtain⟨es,z0,z⟩:=ao hc;obtain⟨k,p,rfl⟩:=e7 z0;obtain⟨h1,h2,h3⟩:=je h hf (fun i hi=>hi) z
  have e:gT X.K tg=fun v σ H Q=>kG X.K tg.length (gs tg) v σ H Q\/l7 X.K tg.length (gs tg) v σ H Q:=by
   unfold gT;split
   ·rename_i i;exact absurd rfl (hne i)
   ·rfl
  rw[e];exact nF (kH h1 h2 h3) (kD h1 h2 h3)
section rulesH
variable{pos:Pos}
def vx(F:jF X.prog X.w X.K X.mg X.base k fa fd ps (spF X.K cl f))(hr:eE k X.A)(hg:Gl X x)
 (hm:X.mg x=some (.ref fa))(hk:PySem.W.keepIn X.K (.ref fa)=true)(hb:Binds X.K fd ps [])(he:SEs X cl (e::es) (.cons e' es'))(hdb:(x == ("__debug__" : Str))=false)(hn:noStar e=true)(hns:es.all noStar=true) :
  SE X cl (.Call (.Name x p) (e::es) [] pos) (.call f (.cons e' es')):=by
 refine PE.weak (wc F hr hg hm hk hb he hdb (au es hn) (cB hns)) fun σ H Q h=>?_;obtain⟨σD,d,rv,ev,q⟩:=h;obtain⟨ds,e1,e2⟩:=bind_some ev;refine⟨σD,ds,rv,e1,fun vs H1 s1 r1=>?_⟩;refine⟨ds,d,r1,e2,fun v H2 s2 r2=>q v H2 ⟨s1.trans s2,r2.none,fun _ m a z=>?_,fun M _ P hP _=>?_⟩⟩
 ·subst z
  have hh:H1 a=none:=by
   cases d with
   | lst ds=>obtain⟨p,xs,e1,e2,_⟩:=aP r2;cases e1;exact Classical.byContradiction e2
   | dK ks ds=>rw[Rep]at r2;obtain⟨p,xs,e1,e2,_⟩:=r2;cases e1;exact Classical.byContradiction e2
   | dT ks ds=>rw[Rep]at r2;obtain⟨p,xs,e1,e2,_⟩:=r2;cases e1;exact Classical.byContradiction e2
   | _=>cases m
  exact s1.free hh
 ·refine r2.weak fun a z=>?_;obtain⟨o,ho⟩:=Option.ne_none_iff_exists'.mp (hP a z);rw[s1 _ _ ho]
  exact fun q=>nomatch q
end rulesH
def A0{x:Str}{i:Int}{pos:Pos}(h:XOk C X cl)(hg:glB C x=true)(hl:C.G.lookup x=some i):SE X cl (.Name x pos) (.glb x i):=by
 obtain⟨u,h1,h2⟩:=h.glb x i hl;obtain⟨g1,g2⟩:=h.gl hg;exact AQ (u:=u) (qt g1 h1 h2 (bV g2).1)
def yT{x:Str}{f:Nat}(hcal:(C.calm || C.hf.contains f)=true){p pos:Pos}{y:Expr}{ys:List Expr}{es:RL.Es}(h:XOk C X cl)(hg:glB C x=true)(hf:C.F[f]?=some (x,[]))(he:SEs X cl (y::ys) es)(hl:dD es=ys.length+1)(hn:noStar y=true)(hns:ys.all noStar=true) :
  SE X cl (.Call (.Name x p) (y::ys) [] pos) (.call f es):=by
 obtain⟨g1,g2⟩:=h.gl hg;by_cases hc:C.calm=true
 ·obtain⟨k,fa,fd,ps,F,hr,hm,hk,hb⟩:=h.fns f x [] hc hf;rw[if_pos rfl]at F
  cases es with
  | nil=>simp[dD]at hl
  | cons e' es'=>exact xH F hr g1 hm hk hb he (bV g2).1 hn hns
 ·have hh:C.hf.contains f=true:=by simpa[hc]using hcal
  obtain⟨k,fa,fd,ps,F,hr,hm,hk,hb⟩:=h.hfn f x hh hf
  cases es with
  | nil=>simp[dD]at hl
  | cons e' es'=>exact vx F hr g1 hm hk hb he (bV g2).1 hn hns
def ku{scope sc:Scope}(h:scB scope sc=true):lh scope sc:=by
 unfold scB at h;obtain⟨h1,h2⟩:=ae h;rw[List.all_eq_true]at h2;refine⟨by simpa using h1,fun x hx z=>?_,fun x hx z=>?_,fun x hx z=>?_⟩
 ·have:=h2 x hx;rw[z]at this;simpa using this
 ·have:=h2 x hx;rw[z]at this;simpa using this
 ·have:=h2 x hx;rw[z]at this;simpa using this
def gQ{scope:Scope}{tg:List Nat}(h:ky C scope tg=true)(i:Nat)(x:Str)(hx:C.N[i]?=some x)(hl:scope.names.lookup x=some .local\/scope.names.lookup x=some .cell):tg.contains i=true:=by
 unfold ky at h;rw[List.all_eq_true]at h;have:=h i (List.mem_range.mpr (List.getElem?_eq_some_iff.mp hx).1);rw[hx]at this;rcases hl with hl | hl
 ·simp only[hl,beq_self_eq_true,Bool.true_or,Bool.not_true,Bool.false_or]at this;exact this
 ·simp only[hl,beq_self_eq_true,Bool.or_true,Bool.not_true,Bool.false_or]at this;exact this
def lH{X:Cx}{cls:List (Str × Addr)}{scope:Scope}{Ca:Addr}{fp:List Addr}{s:Shared}{H:Hp}{pins:List (Addr × Obj)}{s':Shared}{σ:L2.St}{H':Hp}{Q:Bool->Hp->Prop}(I:Inv (L2.blk X scope cls Ca fp s H) pins σ H' s')(q:kn σ H' Q) :
  wpAny (model X.prog X.w) X.A (fA [] (compEnvC scope cls Ca X.env)) (TP (L2.blk X scope cls Ca fp s H) pins σ Q) (fun _ _=>False) s':=by
 unfold fA;exact wpAny_pure ⟨H',I,q⟩
def lI{X:Cx}{cls:List (Str × Addr)}{scope:Scope}{Ca:Addr}{fp:List Addr}{s:Shared}{H:Hp}{pins:List (Addr × Obj)}{s':Shared}{σ:L2.St}{H':Hp}{Q:Bool->Hp->Prop}{c:Expr}{t:TT}(hc:PT (L2.blk X scope cls Ca fp s H) c t)(I:Inv (L2.blk X scope cls Ca fp s H) pins σ H' s')(q:t σ H' Q) :
  wpAny (model X.prog X.w) X.A (fA [c] (compEnvC scope cls Ca X.env)) (TP (L2.blk X scope cls Ca fp s H) pins σ Q) (fun _ _=>False) s':=by
 have h:=hc pins s' σ H' Q I q;unfold fA;simp only[List.forIn_cons,List.forIn_nil,if_true];refine wpAny_bind (wpAny_bind (thn h fun b s1 hb=>wpAny_pure ?_));exact wpAny_pure hb
def jL(h:XOk C X cl){scope:Scope}{cls:List (Str × Addr)}{Ca:Addr}{fp:List Addr}{s:Shared}{H:Hp}{tg:List Nat}(ha:jT C scope tg=true){tgE:Expr}(hc:l5 (C.inner scope) tg tgE=true):PG (L2.blk X scope cls Ca fp s H) tgE (gT X.K tg):=by
 have hb:=h.blk (scope:=scope) cls Ca fp s H;unfold jT at ha;rw[List.all_eq_true]at ha;refine nD hb (fun i x hi hx=>?_) hc;have:=ha i hi;have hx:X.N[i]?=some x:=hx;rw[h.names]at hx;rw[hx]at this;simp only[Bool.or_eq_true,beq_iff_eq]at this;rcases this with z | z
 ·exact .inr (lookup_relabel_local z)
 ·exact .inl (by show(scope.names.lookup x == some .cell)=true;rw[z];rfl)
def fg{α:Type}{o:Option α}(h:o.isNone=true):o=none:=by
 cases o with
 | none=>rfl
 | some _=>cases h
end
mutual
theorem aj{cl:RL.Cl}:∀ (e':RL.E) {C:CC} {X:Cx} (h:XOk C X cl) (e:Expr),mZ X cl e e' (chk C false e' e) (chk C true e' e)
 | .var i,C,X,h,e=>aF (b:=chk C false (.var i) e) fun z=>by
  obtain⟨x,p,rfl,g1,g2,g3,g4⟩:=kX h z;exact⟨Af g1 g2 g3 g4,rfl⟩
 | .cst d,C,X,h,e=>aF (b:=chk C false (.cst d) e) fun z=>by
  obtain⟨k,z0,z⟩:=ao z;obtain⟨j,p,rfl⟩:=gq z0;exact⟨Al z,rfl⟩
 | .glb y i,C,X,h,e=>aF (b:=chk C false (.glb y i) e) fun z=>by
  obtain⟨x,z0,z⟩:=ao z;obtain⟨p,rfl⟩:=cC z0;obtain⟨z,z3⟩:=ae z;obtain⟨z1,z2⟩:=ae z;rw[beq_iff_eq]at z1 z3;subst z1;exact⟨A0 h z2 z3,rfl⟩
 | .bin o a b,C,X,h,e=>aF (b:=chk C false (.bin o a b) e) fun z=>by
  obtain⟨⟨l,op,r⟩,z0,z⟩:=ao z;obtain⟨p,rfl⟩:=xV z0;obtain⟨z,z3⟩:=ae z;obtain⟨z1,z2⟩:=ae z;rw[beq_iff_eq]at z1;have z1:op=nJ o:=z1;subst z1;exact⟨zL ((aj a h l).1 z2) ((aj b h r).1 z3),rfl⟩
 | .neg a,C,X,h,e=>aF (b:=chk C false (.neg a) e) fun z=>by
  obtain⟨⟨op,x⟩,z0,z⟩:=ao z;obtain⟨p,rfl⟩:=nO z0;obtain⟨z1,z2⟩:=ae z;rw[beq_iff_eq]at z1;have z1:op=.USub:=z1;subst z1;exact⟨BY ((aj a h x).1 z2),rfl⟩
 | .cmp c a b,C,X,h,e=>jr (b:=chk C false (.cmp c a b) e) fun z=>by
  obtain⟨⟨l,os,rs⟩,z0,z⟩:=ao z;obtain⟨p,rfl⟩:=iV z0;obtain⟨op,y1,z⟩:=aM z;obtain⟨r,y2,z⟩:=aM z;have y1:os=[op]:=y1;have y2:rs=[r]:=y2;subst y1 y2;obtain⟨z,z3⟩:=ae z;obtain⟨z1,z2⟩:=ae z;rw[beq_iff_eq]at z1;subst z1;exact⟨BW h.hu ((aj a h l).1 z2) ((aj b h r).1 z3),BA h.hu ((aj a h l).1 z2) ((aj b h r).1 z3),rfl⟩
 | .chain c c' a b d,C,X,h,e=>jr (b:=chk C false (.chain c c' a b d) e) fun z=>by
  obtain⟨⟨l,os,rs⟩,z0,z⟩:=ao z;obtain⟨p,rfl⟩:=iV z0;obtain⟨op,op',y1,z⟩:=d8 z;obtain⟨r,s,y2,z⟩:=d8 z;have y1:os=[op,op']:=y1;have y2:rs=[r,s]:=y2;subst y1 y2;obtain⟨z,z5⟩:=ae z;obtain⟨z,z4⟩:=ae z;obtain⟨z,z3⟩:=ae z;obtain⟨z1,z2⟩:=ae z;rw[beq_iff_eq]at z1 z2;subst z1 z2;exact⟨vB h.hu ((aj a h l).1 z3) ((aj b h r).1 z4) ((aj d h s).1 z5),uP h.hu ((aj a h l).1 z3) ((aj b h r).1 z4) ((aj d h s).1 z5),rfl⟩
 | .isN neg a,C,X,h,e=>jr (b:=chk C false (.isN neg a) e) fun z=>by
  obtain⟨⟨l,os,rs⟩,z0,z⟩:=ao z;obtain⟨p,rfl⟩:=iV z0;obtain⟨op,y1,z⟩:=aM z;obtain⟨r,y2,z⟩:=aM z;have y1:os=[op]:=y1;have y2:rs=[r]:=y2;subst y1 y2;obtain⟨z,z3⟩:=ae z;obtain⟨z1,z2⟩:=ae z;rw[beq_iff_eq]at z1;subst z1;obtain⟨k,w0,w⟩:=ao z2;obtain⟨j,q,rfl⟩:=gq w0;have w:=yv w;subst w;exact⟨Aq ((aj a h l).1 z3),zd ((aj a h l).1 z3),rfl⟩
 | .and a b,C,X,h,e=>⟨(fun z=>by
   obtain⟨⟨op,es,p⟩,z0,z⟩:=ao z;obtain⟨l,r,rest,y1,z⟩:=jK z;have e0:=hV z0;have y1:es=l::r::rest:=y1;obtain⟨z,z3⟩:=ae z;obtain⟨z1,z2⟩:=ae z;rw[beq_iff_eq]at z1;have z1:op=.And:=z1;subst y1 z1 e0;refine AR ((aj a h l).1 z2) ?_;split at z3
   ·rename_i hr;rw[List.isEmpty_iff]at hr;subst hr;exact rW ((aj b h r).1 z3)
   ·exact(aj b h _).1 z3),(fun z=>by
   obtain⟨⟨op,es,p⟩,z0,z⟩:=ao z;obtain⟨l,r,rest,y1,z⟩:=jK z;have e0:=hV z0;have y1:es=l::r::rest:=y1;obtain⟨z,z3⟩:=ae z;obtain⟨z1,z2⟩:=ae z;rw[beq_iff_eq]at z1;have z1:op=.And:=z1;subst y1 z1 e0
   have w:SW X cl (.BoolOp .And (l::r::rest) p) (.and a b):=by
    refine Bg ((aj a h l).2 z2).1 ?_;split at z3
    ·rename_i hr;rw[List.isEmpty_iff]at hr;subst hr;exact sJ ((aj b h r).2 z3).1
    ·exact((aj b h _).2 z3).2 rfl
   exact⟨w.pt,fun _=>w⟩)⟩
 | .or a b,C,X,h,e=>⟨(fun z=>by
   obtain⟨⟨op,es,p⟩,z0,z⟩:=ao z;obtain⟨l,r,rest,y1,z⟩:=jK z;have e0:=hV z0;have y1:es=l::r::rest:=y1;obtain⟨z,z3⟩:=ae z;obtain⟨z1,z2⟩:=ae z;rw[beq_iff_eq]at z1;have z1:op=.Or:=z1;subst y1 z1 e0;refine CD ((aj a h l).1 z2) ?_;split at z3
   ·rename_i hr;rw[List.isEmpty_iff]at hr;subst hr;exact rW ((aj b h r).1 z3)
   ·exact(aj b h _).1 z3),(fun z=>by
   obtain⟨⟨op,es,p⟩,z0,z⟩:=ao z;obtain⟨l,r,rest,y1,z⟩:=jK z;have e0:=hV z0;have y1:es=l::r::rest:=y1;obtain⟨z,z3⟩:=ae z;obtain⟨z1,z2⟩:=ae z;rw[beq_iff_eq]at z1;have z1:op=.Or:=z1;subst y1 z1 e0
   have w:SW X cl (.BoolOp .Or (l::r::rest) p) (.or a b):=by
    refine CN ((aj a h l).2 z2).1 ?_;split at z3
    ·rename_i hr;rw[List.isEmpty_iff]at hr;subst hr;exact sJ ((aj b h r).2 z3).1
    ·exact((aj b h _).2 z3).2 rfl
   exact⟨w.pt,fun _=>w⟩)⟩
 | .not a,C,X,h,e=>⟨(fun z=>by
   obtain⟨⟨op,x⟩,z0,z⟩:=ao z;obtain⟨p,rfl⟩:=nO z0;obtain⟨z1,z2⟩:=ae z;rw[beq_iff_eq]at z1;have z1:op=.Not:=z1;subst z1
   exact zV ((aj a h x).1 z2)),(fun z=>by
   obtain⟨⟨op,x⟩,z0,z⟩:=ao z;obtain⟨p,rfl⟩:=nO z0;obtain⟨z1,z2⟩:=ae z;rw[beq_iff_eq]at z1;have z1:op=.Not:=z1;subst z1
   exact⟨zY ((aj a h x).2 z2).1,fun q=>by cases q⟩)⟩
 | .ifx c a b,C,X,h,e=>⟨(fun z=>by
   obtain⟨⟨q,l,r⟩,z0,z⟩:=ao z;obtain⟨p,rfl⟩:=y8 z0;obtain⟨z,z4⟩:=ae z;obtain⟨z,z3⟩:=ae z;obtain⟨z1,z2⟩:=ae z
   exact A6 ((aj c h q).2 z2).1 ((aj a h l).1 z3) ((aj b h r).1 z4)),(fun z=>by
   obtain⟨⟨q,l,r⟩,z0,z⟩:=ao z;obtain⟨z,z4⟩:=ae z;obtain⟨z,z3⟩:=ae z;obtain⟨z1,z2⟩:=ae z
   cases z1)⟩
 | .tup es,C,X,h,e=>aF (b:=chk C false (.tup es) e) fun z=>by
  obtain⟨xs,z0,z⟩:=ao z;obtain⟨k,p,rfl⟩:=e7 z0;obtain⟨z1,z2⟩:=ae z;exact⟨B8 (f7 es h _ z1).1 (by simpa using z2),rfl⟩
 | .lst es,C,X,h,e=>aF (b:=chk C false (.lst es) e) fun z=>by
  obtain⟨xs,z0,z⟩:=ao z;obtain⟨p,rfl⟩:=xE z0;obtain⟨z1,z2⟩:=ae z;exact⟨zt (f7 es h _ z1).1 (by simpa using z2),rfl⟩
 | .ix a b,C,X,h,e=>aF (b:=chk C false (.ix a b) e) fun z=>by
  obtain⟨⟨l,r⟩,z0,z⟩:=ao z;obtain⟨p,rfl⟩:=iW z0;obtain⟨z,z3⟩:=ae z;obtain⟨z1,z2⟩:=ae z;exact⟨C9 ((aj a h l).1 z2) ((aj b h r).1 z3) z1,rfl⟩
 | .slT a b,C,X,h,e=>aF (b:=chk C false (.slT a b) e) fun z=>by
  obtain⟨⟨l,s⟩,z0,z⟩:=ao z;obtain⟨p,rfl⟩:=iW z0;obtain⟨z1,z⟩:=ae z;obtain⟨⟨s1,s2,s3⟩,z0,z⟩:=ao z;obtain⟨q,e0⟩:=tX z0;have e0:s=.Slice s1 s2 s3 q:=e0;obtain⟨z,z4⟩:=ae z;obtain⟨z2,z3⟩:=ae z;have w2:s1=none:=fg z2;have w3:s3=none:=fg z3;obtain⟨r,y0,z4⟩:=ao z4;have y1:s2=some r:=y0;rw[w2,w3,y1]at e0;subst e0;exact⟨zq ((aj a h l).1 z1) ((aj b h r).1 z4),rfl⟩
 | .slF a b,C,X,h,e=>aF (b:=chk C false (.slF a b) e) fun z=>by
  obtain⟨⟨l,s⟩,z0,z⟩:=ao z;obtain⟨p,rfl⟩:=iW z0;obtain⟨z1,z⟩:=ae z;obtain⟨⟨s1,s2,s3⟩,z0,z⟩:=ao z;obtain⟨q,e0⟩:=tX z0;have e0:s=.Slice s1 s2 s3 q:=e0;obtain⟨z,z4⟩:=ae z;obtain⟨z2,z3⟩:=ae z;have w2:s2=none:=fg z2;have w3:s3=none:=fg z3;obtain⟨r,y0,z4⟩:=ao z4;have y1:s1=some r:=y0;rw[w2,w3,y1]at e0;subst e0;exact⟨Ci ((aj a h l).1 z1) ((aj b h r).1 z4),rfl⟩
 | .call f es,C,X,h,e=>aF (b:=chk C false (.call f es) e) fun z=>by
  obtain⟨zc,z⟩:=ae z;obtain⟨⟨g,as,ks,p⟩,z0,z⟩:=ao z;have z0:=dZ z0;subst z0;obtain⟨z,z4⟩:=ae z;obtain⟨z,z3⟩:=ae z;obtain⟨z1,z2⟩:=ae z;obtain⟨x,y0,z1⟩:=ao z1;obtain⟨q,e0⟩:=cC y0;have e0:g=.Name x q:=e0;obtain⟨y1,y2⟩:=ae z1;rw[beq_iff_eq]at y2
  have w2:ks=[]:=by rw[List.isEmpty_iff]at z2;exact z2
  subst e0 w2;obtain⟨q1,q2,q3⟩:=f7 es h _ z4;dsimp only at z3 q1 q2 q3
  cases as with
  | nil=>cases z3
  |cons y ys=>
   rw[List.all_cons]at q3;exact⟨yT zc h y1 y2 q1 q2 (ae q3).1 (ae q3).2,rfl⟩
 | .bi o a,C,X,h,e=>by
  have gen:(∀ t,chk C t (.bi o a) e=(C.calm&&(rh o).any fun x=>bo C e x fun ys=>of1 ys fun y=>chk C false a y))->mZ X cl e (.bi o a) (chk C false (.bi o a) e) (chk C true (.bi o a) e):=fun heq=>by
   rw[heq,heq];refine aF fun z=>?_;obtain⟨zc,z⟩:=ae z;obtain⟨x,y0,z⟩:=ao z;obtain⟨p,as,pos,rfl,b1,b2,z3,z4⟩:=aY h z;obtain⟨y,rfl,z4⟩:=aM z4;exact⟨D7 (h.calm zc) y0 b1 b2 ((aj a h y).1 z4) (all1 z3),rfl⟩
  cases o
  case lenSet=>exact C3 (Bool.and_false _) (Bool.and_false _)
  all_goals exact gen fun t=>rfl
 | .max a b,C,X,h,e=>aF (b:=chk C false (.max a b) e) fun z=>by
  obtain⟨zc,z⟩:=ae z;obtain⟨p,as,pos,rfl,b1,b2,z3,z4⟩:=aY h z;obtain⟨y,u,rfl,z4⟩:=d8 z4;exact⟨Bv (h.calm zc) b1 b2 ((aj a h y).1 (ae z4).1) ((aj b h u).1 (ae z4).2) (all2 z3).1 (all2 z3).2,rfl⟩
 | .dvm a b,C,X,h,e=>aF (b:=chk C false (.dvm a b) e) fun z=>by
  have z:(bo C e "divmod" fun ys=>of2 ys fun y z=>chk C false a y&&chk C false b z)=true:=z;obtain⟨p,as,pos,rfl,b1,b2,z3,z4⟩:=aY h z;obtain⟨y,u,rfl,z4⟩:=d8 z4;exact⟨Ct b1 b2 ((aj a h y).1 (ae z4).1) ((aj b h u).1 (ae z4).2) (all2 z3).1 (all2 z3).2,rfl⟩
 | .isi a ty,C,X,h,e=>aF (b:=chk C false (.isi a ty) e) fun z=>by
  have z:(bo C e "isinstance" fun ys=>of2 ys fun y z=>(dB z).any (fun x=>x == oF ty&&jA C x)&&chk C false a y)=true:=z;obtain⟨p,as,pos,rfl,b1,b2,z3,z4⟩:=aY h z;obtain⟨y,u,rfl,z4⟩:=d8 z4;obtain⟨z5,z6⟩:=ae z4;obtain⟨x,w0,w⟩:=ao z5;obtain⟨q,rfl⟩:=cC w0;obtain⟨w1,w2⟩:=ae w;rw[beq_iff_eq]at w1;subst w1;obtain⟨t1,t2,t3⟩:=tK ty;exact⟨B3 b1 b2 (h.bl w2).1 (h.bl w2).2 t1 t2 t3 ((aj a h y).1 z6) (all2 z3).1,rfl⟩
 | .rng1 a,C,X,h,e=>aF (b:=chk C false (.rng1 a) e) fun z=>by
  obtain⟨zc,z⟩:=ae z;obtain⟨p,as,pos,rfl,b1,b2,z3,z4⟩:=aY h z;obtain⟨y,rfl,z5⟩:=aM z4;obtain⟨p',as',pos',rfl,b1',b2',z3',z6⟩:=aY h z5;obtain⟨y,rfl,z7⟩:=aM z6;exact⟨xX (h.calm zc) b1 b2 b1' b2' ((aj a h y).1 z7) (all1 z3'),rfl⟩
 | .rngT a,C,X,h,e=>aF (b:=chk C false (.rngT a) e) fun z=>by
  obtain⟨zc,z⟩:=ae z;obtain⟨p,as,pos,rfl,b1,b2,z3,z4⟩:=aY h z;obtain⟨y,rfl,z5⟩:=aM z4;obtain⟨p',as',pos',rfl,b1',b2',z3',z6⟩:=aY h z5;obtain⟨y,rfl,z7⟩:=aM z6;exact⟨xw (h.calm zc) b1 b2 b1' b2' ((aj a h y).1 z7) (all1 z3'),rfl⟩
 | .rng2 a b,C,X,h,e=>aF (b:=chk C false (.rng2 a b) e) fun z=>by
  obtain⟨zc,z⟩:=ae z;obtain⟨p,as,pos,rfl,b1,b2,z3,z4⟩:=aY h z;obtain⟨y,rfl,z5⟩:=aM z4;obtain⟨p',as',pos',rfl,b1',b2',z3',z6⟩:=aY h z5;obtain⟨y,u,rfl,z7⟩:=d8 z6;exact⟨xM (h.calm zc) b1 b2 b1' b2' ((aj a h y).1 (ae z7).1) ((aj b h u).1 (ae z7).2) (all2 z3').1 (all2 z3').2,rfl⟩
 | .rng3 c a b,C,X,h,e=>aF (b:=chk C false (.rng3 c a b) e) fun z=>by
  obtain⟨zc,z⟩:=ae z;obtain⟨p,as,pos,rfl,b1,b2,z3,z4⟩:=aY h z;obtain⟨y,rfl,z5⟩:=aM z4;obtain⟨p',as',pos',rfl,b1',b2',z3',z6⟩:=aY h z5;obtain⟨y,u,q,rfl,z7⟩:=rT z6;obtain⟨z7,z9⟩:=ae z7;obtain⟨z7,z8⟩:=ae z7;exact⟨yN (h.calm zc) b1 b2 b1' b2' ((aj a h y).1 z8) ((aj b h u).1 z9) (kI z3').1 (kI z3').2.1 z7,rfl⟩
 | .comp d tg it c,C,X,h,e=>aF (b:=chk C false (.comp d tg it c) e) fun z=>by
  obtain⟨⟨elt,gens,scope,p⟩,z0,z⟩:=ao z;have z0:=ng z0;subst z0;obtain⟨⟨tgE,iter,ifs,asy⟩,y1,z⟩:=aM z;have y1:gens=[⟨tgE,iter,ifs,asy⟩]:=y1;obtain⟨w,y2,z⟩:=aM z;have y2:ifs=[w]:=y2;obtain⟨z,zc⟩:=ae z;obtain⟨z,z8⟩:=ae z;obtain⟨z,z7⟩:=ae z;obtain⟨z,z6⟩:=ae z;obtain⟨z,z5⟩:=ae z;obtain⟨z,z4⟩:=ae z;obtain⟨z,z3⟩:=ae z;obtain⟨z,z2⟩:=ae z;obtain⟨z0,z1⟩:=ae z;rw[beq_iff_eq]at z0;have w0:asy=0:=z0;subst y1 w0;subst y2
  have B:hX X cl scope tgE tg elt d (tT X.K cl c) [w]:=⟨fun cls Ca fp s H=>jL h z5 z4,fun cls Ca fp s H pins s' σ H' Q I q=>lI ((aj c (h.blk cls Ca fp s H) _).2 z8).1 I q,fun cls Ca fp s H=>(aj d (h.blk cls Ca fp s H) _).1 z7,fun i x hx hl=>gQ z2 i x (by rw[<-h.names];exact hx) hl⟩
  by_cases hc:C.calm=true
  ·exact⟨mL (fun _ _ _ _=>h.calm hc) (by rw[h.scope];exact ku z1) (fj it h _ _ z6) B (cZ z3 _),rfl⟩
  ·have hz:qY it=true:=by simpa[hc]using zc
   exact⟨mL (CM:=fun _=>True) (fun _ _ _ _=>trivial) (by rw[h.scope];exact ku z1) (yc it h _ _ z6 hz) B (cZ z3 _),rfl⟩
 | .compA d tg it,C,X,h,e=>aF (b:=chk C false (.compA d tg it) e) fun z=>by
  obtain⟨⟨elt,gens,scope,p⟩,z0,z⟩:=ao z;have z0:=ng z0;subst z0;obtain⟨⟨tgE,iter,ifs,asy⟩,y1,z⟩:=aM z;have y1:gens=[⟨tgE,iter,ifs,asy⟩]:=y1;obtain⟨z,zc⟩:=ae z;obtain⟨z,z7⟩:=ae z;obtain⟨z,z6⟩:=ae z;obtain⟨z,z5⟩:=ae z;obtain⟨z,z4⟩:=ae z;obtain⟨z,z3⟩:=ae z;obtain⟨z,z2⟩:=ae z;obtain⟨z,z1⟩:=ae z;obtain⟨y2,z0⟩:=ae z;rw[beq_iff_eq]at z0;have w0:asy=0:=z0
  have w2:ifs=[]:=by rw[List.isEmpty_iff]at y2;exact y2
  subst y1 w0;subst w2;refine⟨vD (h.calm zc) (by rw[h.scope];exact ku z1) (fj it h _ _ z6) ?_ (cZ z3 _),rfl⟩;exact⟨fun cls Ca fp s H=>jL h z5 z4,fun cls Ca fp s H pins s' σ H' Q I q=>lH I q,fun cls Ca fp s H=>(aj d (h.blk cls Ca fp s H) _).1 z7,fun i x hx hl=>gQ z2 i x (by rw[<-h.names];exact hx) hl⟩
 | .join a,C,X,h,e=>aF (b:=chk C false (.join a) e) fun z=>by
  obtain⟨⟨g,as,ks,p⟩,z0,z⟩:=ao z;have z0:=dZ z0;obtain⟨z,z3⟩:=ae z;obtain⟨z1,z2⟩:=ae z;obtain⟨⟨o,nm,apos⟩,y0,z1⟩:=ao z1;have e1:=oH y0;have e1:g=.Attribute o nm apos:=e1;obtain⟨z1,y3⟩:=ae z1;obtain⟨y1,y2⟩:=ae z1;rw[beq_iff_eq]at y1;have y1:nm = "join" := y1;obtain⟨kk,w0,w⟩:=ao y3;obtain⟨j,q,e2⟩:=gq w0;have e2:o=.Constant kk j q:=e2
  have e4:kk=.str ⟨#[]⟩:=by
   cases kk<;>simp only[fS]at w<;>first | (cases w;done) | skip
   rw[beq_iff_eq]at w;rw[<-w]
  have w2:ks=[]:=by rw[List.isEmpty_iff]at z2;exact z2
  obtain⟨y,e3,z3⟩:=aM z3;have e3:as=[y]:=e3;obtain⟨z3,z5⟩:=ae z3;rw[e1,y1,e2,e4,w2,e3]at z0;subst z0;exact⟨y6 ((aj a h y).1 z5) z3 y2,rfl⟩
 | .isx a c,C,X,h,e=>aF (b:=chk C false (.isx a c) e) fun z=>by
  have z:(bo C e "isinstance" fun ys=>of2 ys fun y z=>(dB z).any (fun x=>x == c&&(if c == ("ValueError" : Str)then jA C x else glB C x&&C.Xs.contains x&&cA.contains x))&&chk C false a y)=true:=z;obtain⟨p,as,pos,rfl,b1,b2,z3,z4⟩:=aY h z;obtain⟨y,u,rfl,z4⟩:=d8 z4;obtain⟨z5,z6⟩:=ae z4;obtain⟨x,w0,w⟩:=ao z5;obtain⟨q,rfl⟩:=cC w0;obtain⟨w1,w2⟩:=ae w;rw[beq_iff_eq]at w1;subst w1;split at w2
  ·rename_i hv;rw[beq_iff_eq]at hv;subst hv;exact⟨Ar b1 b2 (h.bl w2).1 (h.bl w2).2 ((aj a h y).1 z6) (all2 z3).1,rfl⟩
  ·obtain⟨w2,w4⟩:=ae w2;obtain⟨w2,w3⟩:=ae w2;obtain⟨D,d1,d2⟩:=h.ref x w3;exact⟨AJ b1 b2 (h.gl w2).1 d1 d2 (by simpa using w4) (bV (h.gl w2).2).1 ((aj a h y).1 z6) (all2 z3).1,rfl⟩
theorem f7{cl:RL.Cl}:∀ (es':RL.Es) {C:CC} {X:Cx} (h:XOk C X cl) (es:List Expr),iQ C es' es=true->SEs X cl es es'/\dD es'=es.length/\es.all noStar=true
 | .nil,C,X,h,es,z=>by
  have z:es=[]:=List.isEmpty_iff.mp z;subst z;exact⟨cG,rfl,rfl⟩
 | .cons e' es',C,X,h,es,z=>by
  cases es with
  | nil=>cases z
  |cons e es=>
   obtain⟨z,z3⟩:=ae z;obtain⟨z1,z2⟩:=ae z;obtain⟨q1,q2,q3⟩:=f7 es' h es z3;exact⟨bx ((aj e' h e).1 z2) q1 z1,by rw[dD,q2,List.length_cons],by rw[List.all_cons,z1,q3];rfl⟩
theorem fj{cl:RL.Cl}:∀ (it:RL.It) {C:CC} {X:Cx} (h:XOk C X cl) (tg e:Expr),nK C it tg e=true->SI X cl tg e it
 | .seq a,C,X,h,tg,e,z=>ya ((aj a h e).1 z)
 | .rng1 a,C,X,h,tg,e,z=>by
  have z:(bo C e "range" fun ys=>of1 ys fun y=>chk C false a y)=true:=z;obtain⟨p,as,pos,rfl,b1,b2,z3,z4⟩:=aY h z;obtain⟨y,rfl,z4⟩:=aM z4;exact xN b1 b2 ((aj a h y).1 z4) (all1 z3)
 | .rng2 a b,C,X,h,tg,e,z=>by
  have z:(bo C e "range" fun ys=>of2 ys fun y z=>chk C false a y&&chk C false b z)=true:=z;obtain⟨p,as,pos,rfl,b1,b2,z3,z4⟩:=aY h z;obtain⟨y,u,rfl,z4⟩:=d8 z4;exact yz b1 b2 ((aj a h y).1 (ae z4).1) ((aj b h u).1 (ae z4).2) (all2 z3).1 (all2 z3).2
 | .rng3 c a b,C,X,h,tg,e,z=>by
  have z:(bo C e "range" fun ys=>of3 ys fun y z q=>fY c q&&chk C false a y&&chk C false b z)=true:=z;obtain⟨p,as,pos,rfl,b1,b2,z3,z4⟩:=aY h z;obtain⟨y,u,q,rfl,z4⟩:=rT z4;obtain⟨z4,z6⟩:=ae z4;obtain⟨z4,z5⟩:=ae z4;exact yP b1 b2 ((aj a h y).1 z5) ((aj b h u).1 z6) (kI z3).1 (kI z3).2.1 z4
 | .enm a,C,X,h,tg,e,z=>by
  obtain⟨z0,zz⟩:=ae z;obtain⟨ts,z0⟩:=Option.isSome_iff_exists.mp z0;obtain⟨k,tp,rfl⟩:=e7 z0;obtain⟨p,as,pos,rfl,b1,b2,z3,z4⟩:=aY h zz;obtain⟨y,rfl,z4⟩:=aM z4;exact xG b1 b2 ((aj a h y).1 z4) (all1 z3)
 | .zip a b,C,X,h,tg,e,z=>by
  obtain⟨z0,zz⟩:=ae z;obtain⟨ts,z0⟩:=Option.isSome_iff_exists.mp z0;obtain⟨k,tp,rfl⟩:=e7 z0;obtain⟨p,as,pos,rfl,b1,b2,z3,z4⟩:=aY h zz;obtain⟨y,u,rfl,z4⟩:=d8 z4;exact PI'.calm (tH b1 b2 ((aj a h y).1 (ae z4).1) ((aj b h u).1 (ae z4).2) (all2 z3).1 (all2 z3).2)
theorem yc{cl:RL.Cl}:∀ (it:RL.It) {C:CC} {X:Cx} (h:XOk C X cl) (tg e:Expr),nK C it tg e=true->qY it=true->PI' (fun _=>True) X tg e (tI X.K cl it)
 | .zip a b,C,X,h,tg,e,z,_=>by
  obtain⟨z0,zz⟩:=ae z;obtain⟨ts,z0⟩:=Option.isSome_iff_exists.mp z0;obtain⟨k,tp,rfl⟩:=e7 z0;obtain⟨p,as,pos,rfl,b1,b2,z3,z4⟩:=aY h zz;obtain⟨y,u,rfl,z4⟩:=d8 z4;exact tH b1 b2 ((aj a h y).1 (ae z4).1) ((aj b h u).1 (ae z4).2) (all2 z3).1 (all2 z3).2
 | .seq _,C,X,h,tg,e,z,w=>by cases w
 | .rng1 _,C,X,h,tg,e,z,w=>by cases w
 | .rng2 _ _,C,X,h,tg,e,z,w=>by cases w
 | .rng3 _ _ _,C,X,h,tg,e,z,w=>by cases w
 | .enm _,C,X,h,tg,e,z,w=>by cases w
end
end RS
namespace L2
open PySem PySem.Spec PyProof.Rows
open Classical in
open Classical in
section
variable{X:Cx}
end
end L2
namespace RS
open PySem PySem.Spec PyProof.Rows L2
section
variable{K:PySem.W.Frag}{P:Addr->Prop}
end
section
variable{X:Cx}{cl:RL.Cl}{a' b':RL.E}{M:List Nat}{st:Stmt}{i j:Nat}
end
abbrev dq:Expr->Bool
 | .ListComp _ _ _ _=>false
 | .SetComp _ _ _ _=>false
 | .DictComp _ _ _ _ _=>false
 | _=>true
abbrev ny:Expr->Bool
 | .Tuple vs _ _=>vs.all (foldedForSure 8)
 | _=>true
abbrev l6(e:Expr):Bool:=match e with
 | .SetComp _ _ _ _=>false
 | .DictComp _ _ _ _ _=>false
 | _=>true
abbrev pE(M:List Nat):RL.E->Bool
 | .var i=>M.contains i
 | _=>false
abbrev xf:RL.Bop->Operator->Bool
 | .add,.Add=>true
 | .sub,.Sub=>true
 | _,_=>false
abbrev nj:Expr->Option (Str × Pos)
 | .Name x p=>some (x,p)
 | _=>none
def t8{e:Expr}{x:Str}{p:Pos}(h:nj e=some (x,p)):e=.Name x p:=by
 cases e
 case Name=>cases h;rfl
 all_goals exact nos h
abbrev mw(C:CC)(i:Nat)(nm:Str)(e:Expr)(f:List Expr->Bool):Bool:=(iP e).any fun q=>(rK q.1).any (fun a=>ri C i a.1&&a.2.1 == nm&&a.2.2.endLine == q.2.2.2.line)&&q.2.2.1.isEmpty&&f q.2.1
abbrev wt(C:CC)(i:Nat)(e':RL.E)(st:Stmt):Bool:=(mG st).any fun q=>of1 q.1 fun t=>eX C i t&&l6 q.2&&chk C false e' q.2&&(C.calm || dq q.2)
abbrev oU(C:CC):List Expr->RL.Es->Bool
 | [],ps=>match ps with
  | .nil=>true
  | _=>false
 | v::vs,ps=>match kT v with
  | some (.str y)=>decide (y.length<=3000)&&oU C vs ps
  | some _=>false
  | none=>(BF v).any fun q=>q.2.1 == -1&&q.2.2.isNone&&match ps with
   | .cons e es=>chk C false e q.1&&oU C vs es
   | .nil=>false
abbrev za:Const->Bool
 | .str _=>true
 | _=>false
abbrev isNil:RL.Es->Bool
 | .nil=>true
 | _=>false
abbrev v8(C:CC)(ps:RL.Es)(a:Expr):Bool:=((kT a).any za&&isNil ps) || (xk a).any fun vs=>decide (2<=vs.length)&&decide (vs.length<=100)&&oU C vs ps
abbrev Av(C:CC)(c:Str):Bool:=C.Xr.contains c
mutual
noncomputable def qK(C:CC)(M:List Nat):RL.S->Stmt->Bool
 | .asg i e'=>fun st=>(mG st).any fun q=>of1 q.1 fun t=>eX C i t && !M.contains i&&l6 q.2&&chk C false e' q.2&&(C.calm || dq q.2)
 | .own i e'=>fun st=>(mG st).any fun q=>of1 q.1 fun t=>eX C i t&&M.contains i&&decide (M.count i<2)&&l6 q.2&&chk C false e' q.2&&(C.calm || dq q.2)
 | .unp is e'=>fun st=>(mG st).any fun q=>of1 q.1 fun t=>(kK t).any fun ts=>iZ C is ts&&is.all (fun i=>!M.contains i)&&(ny q.2 || ts.any fun t=>(nj t).any fun x=>C.sc.names.lookup x.1 == some .cell)&&chk C false e' q.2
 | .app i e'=>fun st=>(uQ st).any fun e=>mw C i "append" e fun as=>of1 as fun y=>M.contains i&&noStar y&&chk C false e' y
 | .aug i o e'=>fun st=>(B5 st).any fun q=>eX C i q.1 && !M.contains i&&xf o q.2.1&&chk C false e' q.2.2
 | .ife c' a' b'=>fun st=>(wIf st).any fun q=>chk C true c' q.1&&bW C M a' q.2.1&&bW C M b' q.2.2
 | .forr tg it b'=>fun st=>(Cs st).any fun q=>q.2.2.2.isEmpty&&nK C it q.1 q.2.1&&l5 C tg q.1&&jI q.2.1&&RL.oO M it&&tg.all (fun i=>!M.contains i)&&bW C M b' q.2.2.1&&C.calm
 | .ret e'=>fun st=>(zX st).any fun o=>o.any fun e=>chk C false e' e
 | .exc e'=>fun st=>(uQ st).any fun e=>dq e&&chk C false e' e
 | .ifp i e' a' b'=>fun st=>(wIf st).any fun q=>(oz q.1).any fun u=>of1 u.2.1 fun op=>of1 u.2.2 fun e=>op == .NotEq&&M.contains i&&chk C false e' e&&bW C M a' q.2.1&&bW C M b' q.2.2&&mw C i "pop" u.1 fun as=>as.isEmpty
 | .whil c' b'=>fun st=>(zQ st).any fun q=>q.2.2.isEmpty&&chk C true c' q.1&&bW C M b' q.2.1
 | .rais c ps=>fun st=>(ui st).any fun q=>C.calm&&C.Xr.contains c&&(glB C c&&(RL.fR c).isNone)&&q.2.isNone&&q.1.any fun e=>(iP e).any fun u=>(dB u.1).any (fun x=>x == c)&&u.2.2.1.isEmpty&&of1 u.2.1 fun a=>noStar a&&v8 C ps a
 | .tryc b c i hh=>fun st=>(B0 st).any fun q=>C.calm&&q.2.2.1.isEmpty&&q.2.2.2.isEmpty&&Av C c&&cA.contains c&&glB C c && !M.contains i&&of1 q.2.1 (fun hd=>(m6 hd).1.any (fun t=>(dB t).any fun x=>x == c)&&(m6 hd).2.1.any (fun n=>nmB C i n&&C.sc.names.lookup n == some .local) && !(m6 hd).2.2.isEmpty&&bW { C with calm:=false } M hh (m6 hd).2.2)&&bW C M b q.1
noncomputable def bW(C:CC)(M:List Nat):RL.Ss->List Stmt->Bool
 | .nil=>fun xs=>xs.isEmpty
 | .cons s r=>fun xs=>match xs with
  | x::xs=>qK C M s x&&bW C M r xs
  | []=>false
 | .act _ _ _ _ _=>fun _=>false
 | .tell _ _ _ _ _ _=>fun _=>false
 | .opn j e' r=>fun xs=>match xs with
  | x::xs=>wt C j e' x && !M.contains j&&ko C M (j::M) r xs
  | []=>false
noncomputable def ko(C:CC)(M:List Nat)(N:List Nat):RL.Sq->List Stmt->Bool
 | .cls r=>fun xs=>bW C M r xs
 | .cons s r=>fun xs=>match xs with
  | x::xs=>qK C N s x&&ko C M N r xs
  | []=>false
 | .opn j e' r=>fun xs=>match xs with
  | x::xs=>wt C j e' x&&decide (M.count j<2)&&ko C M (j::N) r xs
  | []=>false
 | .frz j r=>fun xs=>bW C M r xs&&(!M.contains j&&decide (N=j::M))
 | .fz j r=>fun xs=>ko C M N.tail r xs&&(!N.tail.contains j && !M.contains j&&decide (N=j::N.tail))
end
structure YOk(C:CC)(X:Cx)(cl:RL.Cl):Prop extends XOk C X cl where
 fn:∀ x,X.fn x=true
 st:X.stack=X.env::X.outer/\X.env.frame=some X.env.locals/\X.ex=[]
 fnx:∀ (f:Nat) (x:Str),C.calm=true->C.F[f]?=some (x,[])->∃ k fa fd ps,dz X.prog X.w X.K X.mg X.base (CXE X.prog X.w) k fa fd ps (spX X.K cl f)/\bP k X.A/\X.mg x=some (.ref fa)/\PySem.W.keepIn X.K (.ref fa)=true/\Binds X.K fd ps []
structure ROk(C:CC)(X:Cx)(cl:RL.Cl)(EX:L2.St->XK):Prop where
 y:YOk C X.nox cl
 cal:C.calm=true
 pass:∀ pins σ H s e s',Inv X pins σ H s->CXE X.prog X.w X.stack H s (EX σ) e s'->X.xe e s'
 made:∀ pins σ H s h' e C vs,Inv X pins σ H s->Heap.MadeExcOf s.heap h' e (.ref C) vs->EX σ (.ref C) none H->X.xe (.ref e) { s with heap:=h' }
 Bm:∀ pins σ H s C i e od H' s',Inv X pins σ H s->vv X H s C (some i) e od H' s'->EX σ (.ref C) od H'->X.xe (.ref e) s'
 own:PassesOwn (model X.prog X.w) X.A X.env X.xe
section
variable{C:CC}{X:Cx}{cl:RL.Cl}{M:List Nat}{st:Stmt}{e:Expr}{e' k':RL.E}{i:Nat}
def gX{t:Option Expr}{l:Nat}{env:Env}(h:dq e=true):swapsWith e t l env=pure false:=by
 cases e<;>first | rfl | (cases h;done)
def xj{e:Expr}(h:¬ dq e=true)(ha:l6 e=true):∃ elt gens scope p,e=.ListComp elt gens scope p:=by
 cases e<;>first | exact absurd rfl h | exact Bool.noConfusion ha | exact⟨_,_,_,_,rfl⟩
def Dm{elt:Expr}{gens:List Comprehension}{scope:Scope}{p:Pos}(hc:chk C false e' (.ListComp elt gens scope p)=true):(∃ d tg it c,e'=.comp d tg it c)\/∃ d tg it,e'=.compA d tg it:=by
 cases e'<;>first | exact Bool.noConfusion hc | exact .inl ⟨_,_,_,_,rfl⟩ | exact .inr ⟨_,_,_,rfl⟩ | (obtain⟨_,hc⟩:=ae hc;exact Bool.noConfusion hc) | (rename_i b a;cases b<;>(obtain⟨_,hc⟩:=ae hc;exact Bool.noConfusion hc))
def rH{t:Expr}{spos:Pos}(hcal:(C.calm || dq e)=true)(h:YOk C X cl)(hn:eX C i t=true)(ha:l6 e=true)(hc:chk C false e' e=true):SA X cl (.Assign [t] e spos) i e':=by
 obtain⟨y,py,rfl,hN,hl⟩:=fE h.toXOk hn
 have plain:swapsWith e (some (.Name y py)) spos.line X.env=pure false->SA X cl (.Assign [.Name y py] e spos) i e':=fun z =>
  vA h.ndX hN hl ((aj e' h.toXOk e).1 hc) (.inl (h.fn y)) z trivial
 by_cases hcomp:dq e=true
 ·exact plain (gX hcomp)
 ·have hcm:X.calm=true:=h.calm (by simpa[hcomp]using hcal);obtain⟨elt,gens,scope,p,rfl⟩:=xj hcomp ha;have hsw:swapsWith (.ListComp elt gens scope p) (some (.Name y py)) spos.line X.env=pure (X.env.blockKind == .function&&X.env.kindOf y == some .local&&py.line == p.line && !(scope.names.any fun(n,k)=>n == y&&(k == .local || k == .cell))):=rfl;by_cases hb:(X.env.blockKind == .function&&X.env.kindOf y == some .local&&py.line == p.line && !(scope.names.any fun(n,k)=>n == y&&(k == .local || k == .cell)))=true
  ·have hy:X.env.scope.names.lookup y=some .local:=by
    obtain⟨q,_⟩:=ae (ae hb).1;have q2:=(ae q).2;rw[beq_iff_eq]at q2;exact q2
   rw[hb]at hsw
   rcases Dm hc with⟨d,tg,it,c,rfl⟩ | ⟨d,tg,it,rfl⟩
   ·obtain⟨⟨tgE,iter,ifs,asy⟩,y1,z⟩:=aM hc;have y1:gens=[⟨tgE,iter,ifs,asy⟩]:=y1;obtain⟨w,y2,z⟩:=aM z;have y2:ifs=[w]:=y2;obtain⟨z,zc⟩:=ae z;obtain⟨z,z8⟩:=ae z;obtain⟨z,z7⟩:=ae z;obtain⟨z,z6⟩:=ae z;obtain⟨z,z5⟩:=ae z;obtain⟨z,z4⟩:=ae z;obtain⟨z,z3⟩:=ae z;obtain⟨z,z2⟩:=ae z;obtain⟨z0,z1⟩:=ae z;rw[beq_iff_eq]at z0;have w0:asy=0:=z0;subst y1 w0;subst y2;refine wu hcm h.ndX hN hy (by rw[h.scope];exact ku z1) (fj it h.toXOk _ _ z6) ?_ (cZ z3 _) hsw;exact⟨fun cls Ca fp s H=>jL h.toXOk z5 z4,fun cls Ca fp s H pins s' σ H' Q I q=>lI ((aj c (h.toXOk.blk cls Ca fp s H) _).2 z8).1 I q,fun cls Ca fp s H=>(aj d (h.toXOk.blk cls Ca fp s H) _).1 z7,fun i x hx hl=>gQ z2 i x (by rw[<-h.names];exact hx) hl⟩
   ·obtain⟨⟨tgE,iter,ifs,asy⟩,y1,z⟩:=aM hc;have y1:gens=[⟨tgE,iter,ifs,asy⟩]:=y1;obtain⟨z,zc⟩:=ae z;obtain⟨z,z7⟩:=ae z;obtain⟨z,z6⟩:=ae z;obtain⟨z,z5⟩:=ae z;obtain⟨z,z4⟩:=ae z;obtain⟨z,z3⟩:=ae z;obtain⟨z,z2⟩:=ae z;obtain⟨z,z1⟩:=ae z;obtain⟨y2,z0⟩:=ae z;rw[beq_iff_eq]at z0;have w0:asy=0:=z0
    have w2:ifs=[]:=by rw[List.isEmpty_iff]at y2;exact y2
    subst y1 w0;subst w2;refine vW hcm h.ndX hN hy (by rw[h.scope];exact ku z1) (fj it h.toXOk _ _ z6) ?_ (cZ z3 _) hsw;exact⟨fun cls Ca fp s H=>jL h.toXOk z5 z4,fun cls Ca fp s H pins s' σ H' Q I q=>lH I q,fun cls Ca fp s H=>(aj d (h.toXOk.blk cls Ca fp s H) _).1 z7,fun i x hx hl=>gQ z2 i x (by rw[<-h.names];exact hx) hl⟩
  ·have hb':=Bool.not_eq_true _▸hb;rw[hb']at hsw;exact plain hsw
def sE{st:Stmt}(h:YOk C X cl)(z:wt C i e' st=true):SA X cl st i e':=by
 obtain⟨⟨ts,e⟩,z0,z⟩:=ao z;obtain⟨p,rfl⟩:=ed z0;obtain⟨t,y1,z⟩:=aM z;have y1:ts=[t]:=y1;obtain⟨z,zc⟩:=ae z;obtain⟨z,z3⟩:=ae z;obtain⟨z1,z2⟩:=ae z;subst y1;exact rH zc h z1 z2 z3
def kU{is:List Nat}(h:is.all (fun i=>!M.contains i)=true):∀ i∈is,M.contains i=false:=fun i hi=>by
 rw[List.all_eq_true]at h;simpa using h i hi
def eK{b:Bool}(h:(!b)=true):b=false:=by simpa using h
def pR{nm:Str}{f:List Expr->Bool}(h:XOk C X cl)(z:mw C i nm e f=true):∃ x p apos as pos,e=.Call (.Attribute (.Name x p) nm apos) as [] pos/\X.N[i]?=some x/\Vis X.env.scope x/\(x == ("__debug__" : Str))=false/\(x == ("__classdict__" : Str))=false/\(apos.endLine == pos.line)=true/\f as=true:=by
 unfold mw at z;obtain⟨⟨g,as,ks,pos⟩,z0,z⟩:=ao z;have e0:=dZ z0;obtain⟨z,z3⟩:=ae z;obtain⟨z1,z2⟩:=ae z;obtain⟨⟨o,a,apos⟩,y0,z1⟩:=ao z1;have e1:=oH y0;have e1:g=.Attribute o a apos:=e1;obtain⟨z1,y3⟩:=ae z1;obtain⟨y1,y2⟩:=ae z1;rw[beq_iff_eq]at y2;have y2:a=nm:=y2
 have w2:ks=[]:=by rw[List.isEmpty_iff]at z2;exact z2
 obtain⟨x,p,e2,g1,g2,g3,g4⟩:=kX h y1;have e2:o=.Name x p:=e2;rw[e1,w2,y2,e2]at e0;exact⟨x,p,apos,as,pos,e0,g1,g2,g3,g4,y3,z3⟩
def uz{us:List Expr}{kk:Nat}{tp:Pos}{env:Env}(h:ny e=true):swappedStores [.Tuple us kk tp] e env=pure none:=by
 cases e with
 |Tuple vs k p=>
  have h:vs.all (foldedForSure 8)=true:=h;unfold swappedStores;dsimp only;split
  ·rfl
  ·split
   ·rfl
   ·split
    ·rfl
    ·first | rfl | (rw[if_pos h];rfl)
 | _=>rfl
def wG{α β:Type}{f:α->Option β}:∀ {l:List α} {a:α},a∈l->f a=none->(l.filterMap f).length<l.length
 | b::l,a,h,e=>by
  rw[List.filterMap_cons];rcases List.mem_cons.mp h with rfl | h
  ·rw[e];exact Nat.lt_succ_of_le (List.length_filterMap_le ..)
  ·have:=wG h e;split
   all_goals
    simp only[List.length_cons];omega
def ue{us:List Expr}{kk:Nat}{tp:Pos}{env:Env}(h:env.scope=C.sc)(z:(ny e || us.any fun t=>(nj t).any fun x=>C.sc.names.lookup x.1 == some .cell)=true):swappedStores [.Tuple us kk tp] e env=pure none:=by
 rcases Bool.or_eq_true_iff.mp z with z | z
 ·exact uz z
 obtain⟨t,ht,z⟩:=List.any_eq_true.mp z;obtain⟨⟨x,p⟩,z1,z2⟩:=ao z;have z1:=t8 z1;subst z1;rw[beq_iff_eq]at z2
 have hk:env.kindOf x=some .cell:=by rw[<-h]at z2;exact z2
 cases e with
 |Tuple vs k q=>
  unfold swappedStores;dsimp only;split
  ·rfl
  ·split
   ·rfl
   ·refine Eq.trans (if_pos ?_) rfl;rw[Bool.or_eq_true];left;rw[bne_iff_ne];exact Nat.ne_of_lt (wG ht (by dsimp only;rw[hk];rfl))
 | _=>rfl
end
section
variable{cl:RL.Cl}
def yR{X:Cx}{C:CC}{EX:L2.St->XK}{x:Str}{f:Nat}{p pos:Pos}{y:Expr}{ys:List Expr}{es:RL.Es}(h:ROk C X cl EX)(hg:glB C x=true)(hf:C.F[f]?=some (x,[]))(he:SEs X.nox cl (y::ys) es)(ha:RA X EX cl (y::ys) es)(hn:noStar y=true)(hns:ys.all noStar=true) :
  RE X EX cl (.Call (.Name x p) (y::ys) [] pos) (.call f es):=by
 obtain⟨k,fa,fd,ps,F,hr,hm,hk,hb⟩:=h.y.fnx f x h.cal hf;obtain⟨g1,g2⟩:=h.y.gl hg;exact yV F hr g1 hm hk hb h.pass (PA.nox he) ha (bV g2).1 hn hns
mutual
theorem fy:∀ (e':RL.E) {X:Cx} {C:CC} {EX:L2.St->XK} (h:ROk C X cl EX) (e:Expr),chk C false e' e=true->RE X EX cl e e'
 | .call f es,X,C,EX,h,e,z=>by
  obtain⟨zc,z⟩:=ae z;obtain⟨⟨g,as,ks,p⟩,z0,z⟩:=ao z;have z0:=dZ z0;subst z0;obtain⟨z,z4⟩:=ae z;obtain⟨z,z3⟩:=ae z;obtain⟨z1,z2⟩:=ae z;obtain⟨x,y0,z1⟩:=ao z1;obtain⟨q,e0⟩:=cC y0;have e0:g=.Name x q:=e0;obtain⟨y1,y2⟩:=ae z1;rw[beq_iff_eq]at y2
  have w2:ks=[]:=by rw[List.isEmpty_iff]at z2;exact z2
  subst e0 w2;obtain⟨q1,q2,q3⟩:=f7 es h.y.toXOk _ z4;have ha:=lF es h _ z4;dsimp only at z3 q1 q2 q3 ha
  cases as with
  | nil=>cases z3
  |cons y ys=>
   rw[List.all_cons]at q3;exact yR h y1 y2 q1 ha (ae q3).1 (ae q3).2
 | .ix a b,X,C,EX,h,e,z=>by
  obtain⟨⟨l,r⟩,z0,z⟩:=ao z;obtain⟨p,rfl⟩:=iW z0;obtain⟨z,z3⟩:=ae z;obtain⟨z1,z2⟩:=ae z;exact PE.weak (xh sQ (fy a h l z2) (PE.nox ((aj b h.y.toXOk r).1 z3)) (pH z1)) fun σ H Q q=>q
 | .var _,X,C,EX,h,e,z=>bg fun _=>rfl
 | .cst _,X,C,EX,h,e,z=>bg fun _=>rfl
 | .glb _ _,X,C,EX,h,e,z=>bg fun _=>rfl
 | .bin _ _ _,X,C,EX,h,e,z=>bg fun _=>rfl
 | .cmp _ _ _,X,C,EX,h,e,z=>bg fun _=>rfl
 | .chain _ _ _ _ _,X,C,EX,h,e,z=>bg fun _=>rfl
 | .isN _ _,X,C,EX,h,e,z=>bg fun _=>rfl
 | .and _ _,X,C,EX,h,e,z=>bg fun _=>rfl
 | .or _ _,X,C,EX,h,e,z=>bg fun _=>rfl
 | .not _,X,C,EX,h,e,z=>bg fun _=>rfl
 | .ifx _ _ _,X,C,EX,h,e,z=>bg fun _=>rfl
 | .tup _,X,C,EX,h,e,z=>bg fun _=>rfl
 | .lst _,X,C,EX,h,e,z=>bg fun _=>rfl
 | .slT _ _,X,C,EX,h,e,z=>bg fun _=>rfl
 | .slF _ _,X,C,EX,h,e,z=>bg fun _=>rfl
 | .bi _ _,X,C,EX,h,e,z=>bg fun _=>rfl
 | .max _ _,X,C,EX,h,e,z=>bg fun _=>rfl
 | .dvm _ _,X,C,EX,h,e,z=>bg fun _=>rfl
 | .isi _ _,X,C,EX,h,e,z=>bg fun _=>rfl
 | .rng1 _,X,C,EX,h,e,z=>bg fun _=>rfl
 | .rngT _,X,C,EX,h,e,z=>bg fun _=>rfl
 | .rng2 _ _,X,C,EX,h,e,z=>bg fun _=>rfl
 | .rng3 _ _ _,X,C,EX,h,e,z=>bg fun _=>rfl
 | .neg _,X,C,EX,h,e,z=>bg fun _=>rfl
 | .comp _ _ _ _,X,C,EX,h,e,z=>bg fun _=>rfl
 | .compA _ _ _,X,C,EX,h,e,z=>bg fun _=>rfl
 | .join _,X,C,EX,h,e,z=>bg fun _=>rfl
 | .isx _ _,X,C,EX,h,e,z=>bg fun _=>rfl
theorem lF:∀ (es':RL.Es) {X:Cx} {C:CC} {EX:L2.St->XK} (h:ROk C X cl EX) (es:List Expr),iQ C es' es=true->RA X EX cl es es'
 | .nil,X,C,EX,h,es,z=>Aa
 | .cons e' es',X,C,EX,h,es,z=>by
  cases es with
  | nil=>cases z
  |cons e es=>
   obtain⟨z,z3⟩:=ae z;obtain⟨z1,z2⟩:=ae z;exact yD (PE.nox ((aj e' h.y.toXOk e).1 z2)) (fy e' h e z2) (lF es' h es z3) (au es z1)
end
section
variable{X:Cx}{C:CC}{EX:L2.St->XK}{M:List Nat}
def yU{X:Cx}{st:Stmt}{c:Str}{ps:RL.Es}:SS X cl M st (.rais c ps):=fun pins s σ H D I ⟨σD,r,σD',_,e,_⟩=>by
 cases e
def tB{t e:Expr}{spos:Pos}{i:Nat}{e':RL.E}{s:RL.S}(h:ROk C X cl EX)(hn:eX C i t=true)(ha:l6 e=true)(hc:chk C false e' e=true)(he:∀ σD,RL.la cl M s σD=(RL.evX cl σD e').map fun x=>(x,σD)):RZ X EX cl M (.Assign [t] e spos) s:=by
 obtain⟨y,py,rfl,hN,hl⟩:=fE h.y.toXOk hn;by_cases hcomp:dq e=true
 ·exact m5 (rX (X:=X) h.y.ndX hN hl (fy e' h e hc) (gX hcomp) (.inl (h.y.fn y))) he
 ·refine jh fun σD=>?_;rw[he];obtain⟨elt,gens,scope,p,rfl⟩:=xj hcomp ha
  cases e' with
  |call f es=>
   obtain⟨_,z⟩:=ae hc;exact Bool.noConfusion z
  | ix a b=>exact Bool.noConfusion hc
  | _=>rfl
abbrev tW(K:PySem.W.Frag)(cl:RL.Cl):RL.Es->TA
 | .nil=>nE
 | .cons e es=>tG (tE K cl e) (tW K cl es)
def wR{K:PySem.W.Frag}{σD:RL.St}{σ:L2.St}:∀ {ps:RL.Es} {ds:List RL.D} {H:Hp} {Q:List V->Hp->Prop},RV0 K σD σ H->RL.evs cl σD ps=some ds->ds.all RL.written=true->(∀ vs H1,ax H H1->Q vs H1)->tW K cl ps σ H Q
 | .nil,ds,H,Q,rv,e,w,k=>k [] H (ax.refl _)
 | .cons p ps,ds,H,Q,rv,e,w,k=>by
  rw[RL.evs]at e;obtain⟨d,e1,e⟩:=bind_some e;obtain⟨ds',e2,e3⟩:=map_some e;subst e3;rw[List.all_cons,Bool.and_eq_true]at w
  cases d with
  |int i=>
   refine⟨σD,.int i,rv,e1,fun v H1 r1=>⟨i,ah r1.rep,by simpa[RL.written]using w.1,wR (rv.same r1.same) e2 w.2 fun vs H2 sm=>k vs H2 (r1.same.trans sm)⟩⟩
  | _=>cases w.1
def kM{X:Cx}(h:XOk C X cl):∀ {vs:List Expr} {ps:RL.Es},oU C vs ps=true->PJ X vs (tW X.K cl ps)
 | [],.nil,z=>Ac
 | [],.cons _ _,z=>by cases z
 | v::vs,ps,z=>by
  rw[oU]at z;split at z
  ·rename_i y hv;obtain⟨j,p,rfl⟩:=gq hv;obtain⟨z1,z2⟩:=ae z;exact xP (kM h z2) (by simpa using z1)
  ·cases z
  ·obtain⟨⟨e,cv,sp⟩,z0,z⟩:=ao z;obtain⟨p,rfl⟩:=xQ z0;obtain⟨z,z3⟩:=ae z;obtain⟨z1,z2⟩:=ae z;rw[beq_iff_eq]at z1;have y1:cv=-1:=z1;have y2:sp=none:=fg z2;clear z1 z2 z z0;subst y1 y2
   cases ps with
   | nil=>cases z3
   |cons q qs=>
    obtain⟨z4,z5⟩:=ae z3;exact AX ((aj q h e).1 z4) (kM h z5)
def uL{c:Str}{ps:RL.Es}{a:Expr}{np cpos pos:Pos}(h:ROk C X cl EX)(z1:C.calm=true)(z2:C.Xr.contains c=true)(z3:(glB C c&&(RL.fR c).isNone)=true)(hn:noStar a=true)(z4:v8 C ps a=true):RZ X EX cl M (.Raise (some (.Call (.Name c np) [a] [] cpos)) none pos) (.rais c ps):=by
 obtain⟨D,d1,d2,d3⟩:=h.y.cls c z2;obtain⟨z3,zf⟩:=Bool.and_eq_true_iff.mp z3;have zf:RL.fR c=none:=Option.isNone_iff_eq_none.mp zf;obtain⟨g1,g2⟩:=h.y.gl z3
 have key:∀ {ta:TE},PE X a ta->(∀ σD σ H ds (Q:VK),RV0 X.K σD σ H->RL.evs cl σD ps=some ds->ds.all RL.written=true->(∀ v H1,ax H H1->Q v H1)->ta σ H Q)->RZ X EX cl M (.Raise (some (.Call (.Name c np) [a] [] cpos)) none pos) (.rais c ps):=fun {ta} pe rd=>by
  intro pins s σ H Dn I q;refine PS.weak (vR (np:=np) (cpos:=cpos) (pos:=pos) (I.ok.hd.1 (h.y.calm z1)) g1 d1 (bV g2).1 d3 (fun pins σ H s h' e vs I m q=>h.made pins σ H s h' e D vs I m q) (bb pe cK (au [] hn)) (au [] hn)) (fun Dn σ H q=>?_) pins s σ H Dn I q;obtain⟨σD,x,σD',rv,e,k⟩:=q;obtain⟨ds,e1,e2⟩:=bind_some e;obtain⟨hw,e2⟩:=cb e2;cases e2
  exact rd σD σ H ds _ rv.rv0 e1 hw fun v H1 sm=>⟨by show 1<=sizeLine;decide,k σ H1 D none ⟨by rw[RL.yp zf];exact d2,by rw[zf];rfl⟩ (rv.same sm) (Fr'.same sm)⟩
 unfold v8 at z4;rcases Bool.or_eq_true_iff.mp z4 with z | z
 ·obtain⟨w1,w2⟩:=ae z;obtain⟨kk,q0,q⟩:=ao w1;obtain⟨j,p,rfl⟩:=gq q0
  cases kk with
  | str y=>exact key mI fun σD σ H ds Q rv e w k=>k _ H (ax.refl _)
  | _=>cases q
 ·obtain⟨vs,q0,z⟩:=ao z;obtain⟨p,rfl⟩:=vk q0;obtain⟨z,w3⟩:=ae z;obtain⟨w1,w2⟩:=ae z;rw[decide_eq_true_eq]at w1 w2
  match vs,w1,w2,w3 with
  |v::v2::vs,_,w2,w3=>
   exact key (PE.nox (ug (kM h.y.toXOk w3) (by simp at w2;omega))) fun σD σ H ds Q rv e w k=>wR rv e w fun vs H1 sm x=>k _ H1 sm
end
def YOk.Er{C:CC}{X:Cx}(h:YOk C X cl){c:Str}(z:Av C c=true):∃ D,X.mg c=some (.ref D)/\Cls X.K c D:=by
 obtain⟨D,d1,d2,_⟩:=h.cls c z;exact⟨D,d1,d2⟩
def YOk.rok{C:CC}{X:Cx}(h:YOk C X cl)(pn:List (Addr × Obj))(E:Value->Shared->Prop)(EX:L2.St->XK)(hc:C.calm=true)(ou:vX (CxX X pn E) EX)(ow:PassesOwn (model X.prog X.w) X.A X.env E):ROk C (CxX X pn E) cl EX where
 y:={ scope:=h.scope,names:=h.names,nd:=h.nd,calm:=h.calm,xe:=rfl,hu:=h.hu,blt:=h.blt,glb:=h.glb,fns:=h.fns,gds:=h.gds,hfn:=h.hfn,cls:=h.cls,ref:=h.ref,fn:=h.fn,st:=h.st,fnx:=h.fnx }
 cal:=hc
 pass:=ou.1
 made:=ou.2.1
 Bm:=ou.2.2
 own:=ow
def YOk.bh{C:CC}{X:Cx}(h:YOk C X cl)(e:Addr)(oe:Obj):YOk { C with calm:=false } (X.bh e oe) cl where
 scope:=h.scope
 names:=h.names
 nd:=h.nd
 calm:=fun z=>nomatch z
 xe:=h.xe
 hu:=h.hu
 blt:=h.blt
 glb:=h.glb
 fns:=fun _ _ _ z=>nomatch z
 gds:=h.gds
 hfn:=fun f x a b=>by
  obtain⟨k,fa,fd,ps,F,hr,r⟩:=h.hfn f x a b;exact⟨k,fa,fd,ps,F,⟨hr.dp,hr.un⟩,r⟩
 cls:=h.cls
 ref:=h.ref
 fn:=h.fn
 st:=h.st
 fnx:=fun _ _ z=>nomatch z
end
section
variable{cl:RL.Cl}
mutual
theorem ll:∀ (s:RL.S) {X:Cx} {C:CC} {M:List Nat} (h:YOk C X cl) (st:Stmt),qK C M s st=true->SS X cl M st s
 | .asg i e',X,C,M,h,st,z=>by
  obtain⟨⟨ts,e⟩,z0,z⟩:=ao z;obtain⟨p,rfl⟩:=ed z0;obtain⟨t,y1,z⟩:=aM z;have y1:ts=[t]:=y1;obtain⟨z,zc⟩:=ae z;obtain⟨z,z4⟩:=ae z;obtain⟨z,z3⟩:=ae z;obtain⟨z1,z2⟩:=ae z;subst y1;exact BG (rH zc h z1 z3 z4) (eK z2)
 | .own i e',X,C,M,h,st,z=>by
  obtain⟨⟨ts,e⟩,z0,z⟩:=ao z;obtain⟨p,rfl⟩:=ed z0;obtain⟨t,y1,z⟩:=aM z;have y1:ts=[t]:=y1;obtain⟨z,zc⟩:=ae z;obtain⟨z,z5⟩:=ae z;obtain⟨z,z4⟩:=ae z;obtain⟨z,z3⟩:=ae z;obtain⟨z1,z2⟩:=ae z;subst y1;exact AG (rH zc h z1 z4 z5) z2 (by simpa using z3)
 | .unp is e',X,C,M,h,st,z=>by
  obtain⟨⟨ts,e⟩,z0,z⟩:=ao z;obtain⟨p,rfl⟩:=ed z0;obtain⟨t,y1,z⟩:=aM z;have y1:ts=[t]:=y1;obtain⟨us,y2,z⟩:=ao z;obtain⟨k,tp,rfl⟩:=e7 y2;obtain⟨z,z4⟩:=ae z;obtain⟨z,z3⟩:=ae z;obtain⟨z1,z2⟩:=ae z;subst y1;obtain⟨g1,g2,g3⟩:=je h.toXOk (T:=is) (fun i x _ _=>.inl (h.fn x)) (fun _ h=>h) z1;refine ye (sI ((aj e' h.toXOk e).1 z4) (nF (kH g1 g2 g3) (kD g1 g2 g3)) ?_ (ue h.scope z3) rfl) (kU z2);cases e<;>rfl
 | .app i e',X,C,M,h,st,z=>by
  obtain⟨e,z0,z8⟩:=ao z;obtain⟨p0,rfl⟩:=kF z0;obtain⟨x,p,apos,as,pos,rfl,g1,g2,g3,g4,z6,z7⟩:=pR h.toXOk z8;obtain⟨y,rfl,z9⟩:=aM z7;obtain⟨z9,z7⟩:=ae z9;obtain⟨z4,z5⟩:=ae z9;refine BI (kZ (wM PySem.F.plainAttrs_list PySem.F.slot_list_append PySem.F.type_list_append lN (jV g1 g2 g3 g4) (bx (cl:=cl) ((aj e' h.toXOk y).1 z7) cG z5) rfl ?_ z6 (au [] z5) rfl) rfl) z4;rw[au [] z5];rfl
 | .aug i o e',X,C,M,h,st,z=>by
  obtain⟨⟨t,op,e⟩,z0,z⟩:=ao z;obtain⟨p,rfl⟩:=x6 z0;obtain⟨z,z4⟩:=ae z;obtain⟨z,z3⟩:=ae z;obtain⟨z1,z2⟩:=ae z;obtain⟨x,px,e1,l1,l2⟩:=fE h.toXOk z1;have e1:t=.Name x px:=e1;subst e1;have z3:xf o op=true:=z3;have z4:chk C false e' e=true:=z4;clear z0 z1 z
  cases o<;>cases op<;>first | (cases z3;done) | skip
  ·exact tw (f:=fun a b=>a+b) (fun a b=>rfl) (tR h.ndX l1 l2 ((aj e' h.toXOk e).1 z4) zN (.inl (h.fn x))) (eK z2)
  ·exact tw (f:=fun a b=>a-b) (fun a b=>rfl) (tR h.ndX l1 l2 ((aj e' h.toXOk e).1 z4) BX (.inl (h.fn x))) (eK z2)
 | .ife c' a' b',X,C,M,h,st,z=>by
  obtain⟨⟨c,a,b⟩,z0,z⟩:=ao z;obtain⟨p,rfl⟩:=oY z0;obtain⟨z,z3⟩:=ae z;obtain⟨z1,z2⟩:=ae z;exact Dy ((aj c' h.toXOk c).2 z1).1 (bC a' h a z2) (bC b' h b z3)
 | .forr tg it b',X,C,M,h,st,z=>by
  obtain⟨⟨t,it',b,o⟩,z0,z⟩:=ao z;obtain⟨p,rfl⟩:=qw z0;obtain⟨z,zc⟩:=ae z;obtain⟨z,z7⟩:=ae z;obtain⟨z,z6⟩:=ae z;obtain⟨z,z5⟩:=ae z;obtain⟨z,z4⟩:=ae z;obtain⟨z,z3⟩:=ae z;obtain⟨z1,z2⟩:=ae z;have z1:o=[]:=List.isEmpty_iff.mp z1;subst z1;exact Bu h.xe (h.calm zc) (fj it h.toXOk t it' z2) (nD h.toXOk (fun i x _ _=>.inl (h.fn x)) z3) (bC b' h b z7) (cZ z4 _) z5 (kU z6)
 | .ret e',X,C,M,h,st,z=>by
  obtain⟨o,z0,z⟩:=ao z;obtain⟨p,rfl⟩:=pO z0;obtain⟨e,rfl,zz⟩:=ao z;by_cases hv:pE M e'=true
  ·have:∃ i,e'=.var i:=by
    cases e'<;>first | exact⟨_,rfl⟩ | exact Bool.noConfusion hv
   obtain⟨i,rfl⟩:=this;obtain⟨x,q,rfl,g1,g2,g3,g4⟩:=kX h.toXOk zz;exact xU g1 g2 g3 g4 hv
  ·exact Cq ((aj e' h.toXOk e).1 zz) fun i hi=>by
    subst hi;simpa[pE]using hv
 | .exc e',X,C,M,h,st,z=>by
  obtain⟨e,z0,z⟩:=ao z;obtain⟨p0,rfl⟩:=kF z0;obtain⟨z1,z2⟩:=ae z;exact AF (kZ ((aj e' h.toXOk e).1 z2) (gX z1))
 | .ifp i e' a' b',X,C,M,h,st,z=>by
  obtain⟨⟨c,a,b⟩,z0,z⟩:=ao z;obtain⟨p,rfl⟩:=oY z0;obtain⟨⟨l,os,rs⟩,z0,z⟩:=ao z;obtain⟨cp,ec⟩:=iV z0;have ec:c=.Compare l os rs cp:=ec;obtain⟨op,y1,z⟩:=aM z;obtain⟨e,y2,z⟩:=aM z;have y1:os=[op]:=y1;have y2:rs=[e]:=y2;obtain⟨z,z6⟩:=ae z;obtain⟨z,z5⟩:=ae z;obtain⟨z,z4⟩:=ae z;obtain⟨z,z3⟩:=ae z;obtain⟨z1,z2⟩:=ae z;rw[beq_iff_eq]at z1;obtain⟨x,px,apos,as,pos,e2,g1,g2,g3,g4,z7,z8⟩:=pR h.toXOk z6;have e2:l=.Call (.Attribute (.Name x px) "pop" apos) as [] pos:=e2;have z8:as=[]:=List.isEmpty_iff.mp z8;rw[z8]at e2;rw[y1,y2,z1,e2]at ec;subst ec;exact BC (BZ PySem.F.plainAttrs_list PySem.F.slot_list_pop PySem.F.type_list_pop B4 (jV g1 g2 g3 g4) rfl z7) ((aj e' h.toXOk e).1 z3) (bC a' h a z4) (bC b' h b z5) z2
 | .whil c' b',X,C,M,h,st,z=>by
  obtain⟨⟨c,b,o⟩,z0,z⟩:=ao z;obtain⟨p,rfl⟩:=xJ z0;obtain⟨z,z3⟩:=ae z;obtain⟨z1,z2⟩:=ae z;have z1:o=[]:=List.isEmpty_iff.mp z1;subst z1;exact vg h.xe ((aj c' h.toXOk c).2 z2).1 (bC b' h b z3)
 | .rais _ _,X,C,M,h,st,z=>yU
 | .tryc b c i hh,X,C,M,h,st,z=>by
  obtain⟨⟨bd,hs,oe,fi⟩,z0,z⟩:=ao z;obtain⟨p,rfl⟩:=yQ z0;obtain⟨z,z9⟩:=ae z;obtain⟨z,z8⟩:=ae z;obtain⟨z,z7⟩:=ae z;obtain⟨z,z6⟩:=ae z;obtain⟨z,z5⟩:=ae z;obtain⟨z,z4⟩:=ae z;obtain⟨z,z3⟩:=ae z;obtain⟨z1,z2⟩:=ae z;have v2:oe=[]:=List.isEmpty_iff.mp z2;have v3:fi=[]:=List.isEmpty_iff.mp z3;obtain⟨hd,y1,z8⟩:=aM z8;have v1:hs=[hd]:=y1;obtain⟨ht,hn,hb,hp⟩:=hd;obtain⟨w,w4⟩:=ae z8;obtain⟨w,w3⟩:=ae w;obtain⟨w1,w2⟩:=ae w;obtain⟨te,q1,w5⟩:=ao w1;have u1:ht=some te:=q1;obtain⟨x,q2,w6⟩:=ao w5;obtain⟨np,q4⟩:=cC q2;rw[beq_iff_eq]at w6;clear w1 w5 q2;subst q4 w6;obtain⟨n,q3,w7⟩:=ao w2;have u3:hn=some n:=q3;obtain⟨n1,n2⟩:=ae w7;rw[beq_iff_eq]at n2;have z9:bW C M b bd=true:=z9;have w4:bW { C with calm:=false } M hh hb=true:=w4;have w3:(!hb.isEmpty)=true:=w3;clear z2 z3 y1 q1 q3 z0 z;subst v2 v3 u1 u3
  cases hb with
  | nil=>cases w3
  |cons b0 bh=>
   subst v1;obtain⟨R,r1,r2⟩:=h.Er z4;refine Ap h.xe h.st.1 h.st.2.1 h.st.2.2 (bC b h bd z9) (fun pn E EX ou ow=>dN b (h.rok pn E EX z1 ou ow) bd z9) (fun e oe=>bC hh (h.bh e oe) (b0::bh) w4) r2 (by simpa using z5) (h.gl z6).1 r1 (bV (h.gl z6).2).1 h.ndX (h.nm n1).1 (by rw[h.scope];exact n2) (eK z7)
theorem bC:∀ (s:RL.Ss) {X:Cx} {C:CC} {M:List Nat} (h:YOk C X cl) (st:List Stmt),bW C M s st=true->SSs X cl M st s
 | .nil,X,C,M,h,st,z=>by
  have z:st=[]:=List.isEmpty_iff.mp z;subst z;exact yh
 | .cons s r,X,C,M,h,st,z=>by
  cases st with
  | nil=>cases z
  |cons x xs=>
   obtain⟨z1,z2⟩:=ae z;exact vd (ll s h x z1) (bC r h xs z2)
 | .act _ _ _ _ _,X,C,M,h,st,z=>by cases z
 | .tell _ _ _ _ _ _,X,C,M,h,st,z=>by cases z
 | .opn j e' r,X,C,M,h,st,z=>by
  cases st with
  | nil=>cases z
  |cons x xs=>
   obtain⟨z,z3⟩:=ae z;obtain⟨z1,z2⟩:=ae z;exact y4 (sE h z1) (eK z2) (hZ r h xs z3 (fun _=>c9) fun k hk=>Nat.le_trans hk (List.count_le_count_cons ..))
theorem hZ:∀ (s:RL.Sq) {X:Cx} {C:CC} {M N:List Nat} (h:YOk C X cl) (st:List Stmt),ko C M N s st=true->(∀ i,M.contains i=true->N.contains i=true)->(∀ j,2<=M.count j->2<=N.count j)->SQ X cl M N st s
 | .cls r,X,C,M,N,h,st,z,hs,hc=>AB (bC r h st z) hs
 | .cons s r,X,C,M,N,h,st,z,hs,hc=>by
  cases st with
  | nil=>cases z
  |cons x xs=>
   obtain⟨z1,z2⟩:=ae z;exact yG (ll s h x z1) (hZ r h xs z2 hs hc) hc
 | .opn j e' r,X,C,M,N,h,st,z,hs,hc=>by
  cases st with
  | nil=>cases z
  |cons x xs=>
   obtain⟨z,z3⟩:=ae z;obtain⟨z1,z2⟩:=ae z;exact zu (sE h z1) (by simpa using z2) (hZ r h xs z3 (fun i hi=>c9 (hs i hi)) fun k hk=>Nat.le_trans (hc k hk) (List.count_le_count_cons ..))
 | .frz j r,X,C,M,N,h,st,z,hs,hc=>by
  obtain⟨z1,z⟩:=ae z;obtain⟨z2,z3⟩:=ae z
  have e:N=j::M:=by simpa using z3
  subst e;exact zB (bC r h st z1) (eK z2)
 | .fz j r,X,C,M,N,h,st,z,hs,hc=>by
  obtain⟨z1,z⟩:=ae z;obtain⟨z,z3⟩:=ae z;obtain⟨z2,z4⟩:=ae z
  have e:N=j::N.tail:=by simpa using z3
  have z4:=eK z4;generalize N.tail=N' at *;subst e;refine DG (hZ r h st z1 (fun i hi=>?_) fun i hi=>?_) (eK z2)
  ·exact(cY (hs i hi)).resolve_left fun q=>by subst q;rw[z4]at hi;cases hi
  ·have:=hc i hi;rw[List.count_cons]at this;split at this
   ·rename_i q
    have q:j=i:=by simpa using q
    subst q;have:M.count j=0:=List.count_eq_zero.mpr (by simpa using z4);omega
   ·exact this
theorem uK:∀ (s:RL.S) {X:Cx} {C:CC} {M:List Nat} {EX:L2.St->XK} (h:ROk C X cl EX) (st:Stmt),qK C M s st=true->RZ X EX cl M st s
 | .asg i e',X,C,M,EX,h,st,z=>by
  obtain⟨⟨ts,e⟩,z0,z⟩:=ao z;obtain⟨p,rfl⟩:=ed z0;obtain⟨t,y1,z⟩:=aM z;have y1:ts=[t]:=y1;obtain⟨z,zc⟩:=ae z;obtain⟨z,z4⟩:=ae z;obtain⟨z,z3⟩:=ae z;obtain⟨z1,z2⟩:=ae z;subst y1;exact tB h z1 z3 z4 (fun _=>rfl)
 | .own i e',X,C,M,EX,h,st,z=>by
  obtain⟨⟨ts,e⟩,z0,z⟩:=ao z;obtain⟨p,rfl⟩:=ed z0;obtain⟨t,y1,z⟩:=aM z;have y1:ts=[t]:=y1;obtain⟨z,zc⟩:=ae z;obtain⟨z,z5⟩:=ae z;obtain⟨z,z4⟩:=ae z;obtain⟨z,z3⟩:=ae z;obtain⟨z1,z2⟩:=ae z;subst y1;exact tB h z1 z4 z5 (fun _=>rfl)
 | .unp is e',X,C,M,EX,h,st,z=>by
  obtain⟨⟨ts,e⟩,z0,z⟩:=ao z;obtain⟨p,rfl⟩:=ed z0;obtain⟨t,y1,z⟩:=aM z;have y1:ts=[t]:=y1;obtain⟨us,y2,z⟩:=ao z;obtain⟨k,tp,rfl⟩:=e7 y2;obtain⟨z,z4⟩:=ae z;obtain⟨z,z3⟩:=ae z;obtain⟨z1,z2⟩:=ae z;subst y1;obtain⟨g1,g2,g3⟩:=je h.y.toXOk (T:=is) (fun i x _ _=>.inl (h.y.fn x)) (fun _ h=>h) z1;refine m5 (sI (fy e' h e z4) (PG.nox (nF (kH g1 g2 g3) (kD g1 g2 g3))) ?_ (ue (env:=X.env) h.y.scope z3) rfl) fun _=>rfl;cases e<;>rfl
 | .exc e',X,C,M,EX,h,st,z=>by
  obtain⟨e,z0,z⟩:=ao z;obtain⟨p0,rfl⟩:=kF z0;obtain⟨z1,z2⟩:=ae z;exact m5 (kZ (fy e' h e z2) (gX z1)) fun _=>rfl
 | .ret e',X,C,M,EX,h,st,z=>by
  obtain⟨o,z0,z⟩:=ao z;obtain⟨p,rfl⟩:=pO z0;obtain⟨e,rfl,zz⟩:=ao z;exact m5 (g:=fun D _=>D.rt) (mH (fy e' h e zz)) fun _=>rfl
 | .ife c' a' b',X,C,M,EX,h,st,z=>by
  obtain⟨⟨c,a,b⟩,z0,z⟩:=ao z;obtain⟨p,rfl⟩:=oY z0;obtain⟨z,z3⟩:=ae z;obtain⟨z1,z2⟩:=ae z;exact C4 (PT.nox ((aj c' h.y.toXOk c).2 z1).1) (dN a' h a z2) (dN b' h b z3)
 | .forr tg it b',X,C,M,EX,h,st,z=>by
  obtain⟨⟨t,it',b,o⟩,z0,z⟩:=ao z;obtain⟨p,rfl⟩:=qw z0;obtain⟨z,zc⟩:=ae z;obtain⟨z,z7⟩:=ae z;obtain⟨z,z6⟩:=ae z;obtain⟨z,z5⟩:=ae z;obtain⟨z,z4⟩:=ae z;obtain⟨z,z3⟩:=ae z;obtain⟨z1,z2⟩:=ae z;have z1:o=[]:=List.isEmpty_iff.mp z1;subst z1;exact A3 h.own (h.y.calm zc) (PI.nox (fj it h.y.toXOk t it' z2)) (PG.nox (nD h.y.toXOk (fun i x _ _=>.inl (h.y.fn x)) z3)) (PSs.nox (bC b' h.y b z7)) (dN b' h b z7) (cZ z4 _) z5 (kU z6)
 | .rais c ps,X,C,M,EX,h,st,z=>by
  obtain⟨⟨eo,co⟩,z0,z⟩:=ao z;obtain⟨p,rfl⟩:=si z0;obtain⟨z,z5⟩:=ae z;obtain⟨z,z4⟩:=ae z;obtain⟨z,z3⟩:=ae z;obtain⟨z1,z2⟩:=ae z;have z4:co=none:=fg z4;obtain⟨e,q1,z5⟩:=ao z5;have q1:eo=some e:=q1;obtain⟨⟨g,as,ks,cp⟩,w0,w⟩:=ao z5;have w0:=dZ w0;obtain⟨w,w3⟩:=ae w;obtain⟨w1,w2⟩:=ae w;obtain⟨x,q2,w1⟩:=ao w1;obtain⟨np,q3⟩:=cC q2;have q3:g=.Name x np:=q3;rw[beq_iff_eq]at w1;subst w1;have w2:ks=[]:=List.isEmpty_iff.mp w2;obtain⟨a,q4,w3⟩:=aM w3;have q4:as=[a]:=q4;obtain⟨w3,w4⟩:=ae w3;rw[q3,w2,q4]at w0;subst w0 z4 q1;exact uL h z1 z2 z3 w3 w4
 | .app _ _,X,C,M,EX,h,st,z=>jh fun _=>rfl
 | .aug _ _ _,X,C,M,EX,h,st,z=>jh fun _=>rfl
 | .ifp _ _ _ _,X,C,M,EX,h,st,z=>jh fun _=>rfl
 | .whil _ _,X,C,M,EX,h,st,z=>jh fun _=>rfl
 | .tryc _ _ _ _,X,C,M,EX,h,st,z=>jh fun _=>rfl
theorem dN:∀ (s:RL.Ss) {X:Cx} {C:CC} {M:List Nat} {EX:L2.St->XK} (h:ROk C X cl EX) (st:List Stmt),bW C M s st=true->RZs X EX cl M st s
 | .nil,X,C,M,EX,h,st,z=>x4
 | .opn j e' r,X,C,M,EX,h,st,z=>yt
 | .act _ _ _ _ _,X,C,M,EX,h,st,z=>yy
 | .tell _ _ _ _ _ _,X,C,M,EX,h,st,z=>uO
 | .cons s r,X,C,M,EX,h,st,z=>by
  cases st with
  | nil=>cases z
  |cons x xs=>
   obtain⟨z1,z2⟩:=ae z;exact wj (PS.nox (ll s h.y x z1)) (uK s h x z1) (dN r h xs z2)
end
end
structure d5 where
 name:Str
 st:Stmt
 ps:List Str
 N:List Str
 h:Bool
structure PT' where
 B:List Str
 G:List (Str × Int)
 Ds:List d5
 T:List RL.Fn
 Xr:List Str
 Xs:List Str
 Xi:List Str
 Xo:List (Str × Nat)
 W:List (Str × List (Str × Nat)):=[]
abbrev PT'.F(p:PT'):List (Str × List Nat):=(p.Ds.zip p.T).map fun q=>(q.1.name,q.2.mp)
abbrev PT'.hf(p:PT'):List Nat:=(List.range p.Ds.length).filter fun f=>(p.Ds[f]?).any (·.h)
abbrev PT'.cc(p:PT')(d:d5):CC:=⟨d.N,aH d.st,p.B,p.G,p.F,true,p.hf,p.Xr,p.Xs,p.Xi,p.Xo,p.W⟩
abbrev nW(N ps:List Str)(sc:Scope):Bool :=
 sc.kind == .function && !sc.isCoroutine && !sc.isGenerator&&decide N.Nodup&&N.take ps.length == ps&&ps.all (fun x=>sc.names.lookup x == some .local || sc.names.lookup x == some .cell)&&sc.names.all (fun y=>!(y.2 == .free))
abbrev fnB(p:PT')(d:d5)(fn:RL.Fn):Bool :=
 nW d.N d.ps (aH d.st)&&fn.ps == d.ps.length&&fn.nn == d.N.length&&decide (d.ps.length<=d.N.length)&&(List.range fn.ps).all (fun i=>!fn.M.contains i || fn.mp.contains i)&&fn.mp.all (fun i=>decide (i<fn.ps)&&decide (2<=fn.M.count i))&&bW (p.cc d) fn.M fn.body (bZ d.st)&&(!d.h || bW { p.cc d with calm:=false } fn.M fn.body (bZ d.st))
abbrev PT'.ok(p:PT'):Bool:=decide (p.T.length<=1000)&&p.Ds.length == p.T.length&&(p.Ds.zip p.T).all fun q=>fnB p q.1 q.2
def wx{N ps:List Str}{sc:Scope}(h:nW N ps sc=true):eA N ps sc:=by
 unfold nW at h;obtain⟨h,h7⟩:=ae h;obtain⟨h,h6⟩:=ae h;obtain⟨h,h5⟩:=ae h;obtain⟨h,h4⟩:=ae h;obtain⟨h,h3⟩:=ae h;obtain⟨h1,h2⟩:=ae h;refine⟨by simpa using h1,by simpa using h2,by simpa using h3,by simpa using h4,by simpa using h5,fun x hx=>?_,fun y hy=>?_⟩
 ·rw[List.all_eq_true]at h6;have:=h6 x hx;rw[Bool.or_eq_true,beq_iff_eq,beq_iff_eq]at this;exact this
 ·rw[List.all_eq_true]at h7;have:=h7 y hy;intro z;rw[z]at this;simp at this
structure rj(p:PT')(w:World)(K:PySem.W.Frag)(mg:Str->Option Value):Prop where
 defs:∀ (f:Nat) (d:d5),p.Ds[f]?=some d->∃ fa fd,mg d.name=some (.ref fa)/\Fun K d.name d.name d.st fa fd/\PySem.W.keepIn K (.ref fa)=true/\Binds K fd d.ps []
 blt:∀ x∈p.B,mg x=none
 glb:∀ x i,p.G.lookup x=some i->∃ u,mg x=some u/\RelV (.int i) u
 cls:∀ c,p.Xr.contains c=true->∃ D,mg c=some (.ref D)/\Cls K c D/\PySem.W.excIn K D VE "ValueError.__new__" = true
 ref:∀ c,p.Xs.contains c=true->∃ D,mg c=some (.ref D)/\PySem.W.nsIn K mainGlobals c=some (some (.ref D))
 gds:∀ x tbl,p.W.lookup x=some tbl->∃ (d:Addr) (kvs:List (Str × Addr)),mg x=some (.ref d)/\((d == sysModules)=false/\∀ (P:Program) (h:Heap),K.In h->h.DictOf (bO P w) d (kvs.map fun q=>((Sum.inr q.1:Key),Value.ref q.2)))/\kvs.map (·.1)=tbl.map (·.1)/\∀ y m,RL.v7 tbl (.str y)=some m->∃ q nm,(kvs.find? fun q=>decide (q.1=y))=some q/\p.F[m]?=some (nm,[])/\mg nm=some (.ref q.2)
section
variable{p:PT'}{K:PySem.W.Frag}{mg:Str->Option Value}{base:Heap}{P:Program}{w:World}
abbrev lu(K:PySem.W.Frag)(cl:RL.Cl)(mp:List Nat)(f:Nat):Sp:=if mp=[]then spF K cl f else spM K cl mp f
def aV{α:Type}(vs:List α)(k:Nat)(i:Nat)(v:α):(vs.map some++List.replicate k none)[i]?=some (some v)↔vs[i]?=some v:=by
 by_cases h:i<vs.length
 ·rw[List.getElem?_append_left (by simpa using h)];simp[h]
 ·rw[List.getElem?_append_right (by simpa using h)];constructor
  ·intro e;rw[List.getElem?_replicate]at e;split at e<;>cases e
  ·intro e;have:=(List.getElem?_eq_some_iff.mp e).1;lia
def pC{ds:List RL.D}{vs:List V}{H:Hp}{M:List Nat}{k n:Nat}(r:af nP K H ds vs)(hM:∀ i,i<n->M.contains i=false)(hn:ds.length=n):RVm K M (ds.map some++List.replicate k none) (vs.map some++List.replicate k none) H:=by
 have nA:∀ a,¬ ba M (vs.map some++List.replicate k none) a:=fun a ⟨i,hi,e⟩=>by
  rw[aV]at e;have:=(List.getElem?_eq_some_iff.mp e).1;rw[hM i (by rw[<-hn,r.length];exact this)]at hi;cases hi
 refine⟨by simp[r.length],fun i d e=>?_,fun i v e=>?_,fun i j a hi hj e1 e2=>(nA a ⟨i,hi,e1⟩).elim⟩
 ·rw[aV]at e;obtain⟨v,h1,h2⟩:=r.get e;have hl:=(List.getElem?_eq_some_iff.mp e).1;refine⟨v,(aV _ _ _ _).mpr h1,?_⟩;rw[if_neg (by rw[hM i (by lia)];decide)];exact h2.weak fun a ha=>nA a ha
 ·rw[aV]at e;have hl:=(List.getElem?_eq_some_iff.mp e).1;exact⟨ds[i]'(by rw[r.length];exact hl),(aV _ _ _ _).mpr (by simp)⟩
def xT{ds:List RL.D}{vs:List V}{H:Hp}{M mp:List Nat}{k n:Nat}(a:A5 K mp ds vs H)(hM:∀ i,i<n->M.contains i=true->i∈mp)(hp:∀ i∈mp,M.contains i=true)(hn:ds.length=n):RVm K M (ds.map some++List.replicate k none) (vs.map some++List.replicate k none) H:=by
 have r:=a.vy
 have inM:∀ i v,(vs.map some++List.replicate k none)[i]?=some (some v)->M.contains i=true->i∈mp/\vs[i]?=some v:=fun i v e hi=>by
  rw[aV]at e;have:=(List.getElem?_eq_some_iff.mp e).1;exact⟨hM i (by rw[<-hn,r.length];exact this) hi,e⟩
 refine⟨by simp[r.length],fun i d e=>?_,fun i v e=>?_,fun i j b hi hj e1 e2=>?_⟩
 ·rw[aV]at e;obtain⟨v,h1,h2⟩:=r.get e;have hl:=(List.getElem?_eq_some_iff.mp e).1;refine⟨v,(aV _ _ _ _).mpr h1,?_⟩;by_cases hm:M.contains i=true
  ·rw[if_pos hm];obtain⟨d',b,g1,g2,g3⟩:=a.own i (hM i (by lia) hm);rw[e]at g1;cases g1;rw[h1]at g2;cases g2;exact g3
  ·rw[if_neg hm];refine(a.oth i d v (fun z=>hm (hp i z)) e h1).weak fun b ⟨j,hj,ej⟩=>?_;obtain⟨q1,q2⟩:=inM j _ ej hj;exact⟨j,q1,q2⟩
 ·rw[aV]at e;have hl:=(List.getElem?_eq_some_iff.mp e).1;exact⟨ds[i]'(by rw[r.length];exact hl),(aV _ _ _ _).mpr (by simp)⟩
 ·obtain⟨q1,q2⟩:=inM i _ e1 hi;obtain⟨q3,q4⟩:=inM j _ e2 hj;exact a.sep i q1 j q3 b q2 q4
def nC{σ:RL.St}:∀ {mp:List Nat} {outs:List RL.D},RL.gz σ mp=some outs->outs.length=mp.length/\∀ (k i:Nat) o,mp[k]?=some i->outs[k]?=some o->σ[i]?=some (some o)
 | [],outs,h=>by
  rw[RL.gz]at h;cases h;exact⟨rfl,fun k i o e=>by simp at e⟩
 | m::mp,outs,h=>by
  rw[RL.gz]at h;obtain⟨d,h1,h⟩:=bind_some h;obtain⟨os,h2,h3⟩:=map_some h;subst h3;obtain⟨g1,g2⟩:=nC h2;refine⟨by simp[g1],fun k i o e1 e2=>?_⟩
  cases k with
  |zero=>
   simp at e1 e2;subst e1 e2;exact slot_get h1
  | succ k=>exact g2 k i o (by simpa using e1) (by simpa using e2)
def sT{fn:RL.Fn}{d r:RL.D}{σ:RL.St}(h:RL.bU fn d σ=some r)(hm:fn.mp=[]):r=d:=by
 unfold RL.bU at h;rw[hm]at h;simpa using h.symm
def A9{fn:RL.Fn}{d r:RL.D}{σ:RL.St}(h:RL.bU fn d σ=some r)(hm:fn.mp≠[]):d.imm=true/\∃ outs,RL.gz σ fn.mp=some outs/\r=.tup (d::outs):=by
 unfold RL.bU at h;rw[if_neg (by simpa using hm)]at h;split at h
 ·rename_i im;obtain⟨os,h1,h2⟩:=map_some h;exact⟨im,os,h1,h2.symm⟩
 ·cases h
structure FnB(p:PT')(d:d5)(fn:RL.Fn):Prop where
 sc:eA d.N d.ps (aH d.st)
 ps:fn.ps=d.ps.length
 nn:fn.nn=d.N.length
 hM:∀ i,i<fn.ps->fn.M.contains i=true->i∈fn.mp
 mp:∀ i∈fn.mp,i<fn.ps/\2<=fn.M.count i
 body:bW (p.cc d) fn.M fn.body (bZ d.st)=true
 hb:d.h=true->bW { p.cc d with calm:=false } fn.M fn.body (bZ d.st)=true
def Bj{d:d5}{fn:RL.Fn}(hB:fnB p d fn=true):FnB p d fn:=by
 unfold fnB at hB;obtain⟨hB,b8⟩:=ae hB;obtain⟨hB,b7⟩:=ae hB;obtain⟨hB,b6⟩:=ae hB;obtain⟨hB,b5⟩:=ae hB;obtain⟨hB,b4⟩:=ae hB;obtain⟨hB,b3⟩:=ae hB;obtain⟨b1,b2⟩:=ae hB;rw[beq_iff_eq]at b2 b3;rw[List.all_eq_true]at b5 b6;refine⟨wx b1,b2,b3,fun i hi hm=>?_,fun i hi=>by simpa using b6 i hi,b7,fun hh=>by simpa[hh]using b8⟩;have:=b5 i (List.mem_range.mpr hi);rw[hm]at this;simpa using this
def sY{f:Nat}(h:p.hf.contains f=true):∃ d,p.Ds[f]?=some d/\d.h=true:=by
 unfold PT'.hf at h;rw[List.contains_iff_mem,List.mem_filter]at h;exact ao h.2
def uh{cl:RL.Cl}{f:Nat}{d:d5}{fn:RL.Fn}{vs:List V}{H:Hp}{Q:VK}{ds:List RL.D}{r:RL.D}{o:RL.Out}{σ':RL.St}(B:FnB p d fn)(hmp:fn.mp=[])(r1:af nP K H ds vs)(hlen:ds.length=fn.ps)(e2:(match o with | .nx=>RL.bU fn .non σ' | .rt d=>RL.bU fn d σ')=some r)(e1:RL.ai cl fn.M fn.body (ds.map some++List.replicate (fn.nn-fn.ps) none)=some (o,σ'))
 (k:∀ v H',ax H H'->Rep (fun p=>H p≠none) K H' r v->Q v H'):tS K fn.M (RL.ai cl fn.M fn.body) { nx:=fun _ H'=>Q .non H',rt:=Q } (start d.N vs) H:=by
 have hst:start d.N vs=vs.map some++List.replicate (d.N.length-vs.length) none:=rfl
 have hvl:vs.length=fn.ps:=by rw[<-r1.length];exact hlen
 refine⟨_,o,σ',?_,e1,?_⟩
 ·rw[hst,hvl,<-B.nn]
  exact pC r1 (fun i hi=>by
   cases hc:fn.M.contains i with
   | false=>rfl
   |true=>
    have:=B.hM i hi hc;rw[hmp]at this
    cases this) hlen
 ·have noA:∀ a,¬ ba fn.M (start d.N vs) a:=fun a ⟨i,hi,ei⟩=>by
   rw[hst,aV]at ei;have h3:=(List.getElem?_eq_some_iff.mp ei).1;have:=B.hM i (by lia) hi;rw[hmp]at this;cases this
  cases o with
  |nx=>
   have hr':=sT (d:=.non) e2 hmp;subst hr';intro σ1 H1 rv1 fr1;refine k .non H1 (fun b u eb=>(fr1.1 b u eb (noA b)).1) (by rw[Rep])
  |rt d0=>
   have hr':=sT (d:=d0) e2 hmp;subst hr';intro σ1 H1 v H' rv1 fr1 sm rp;refine k v H' (fun b u eb=>sm _ _ (fr1.1 b u eb (noA b)).1) (rp _ fun q hq=>?_);obtain⟨u,hu⟩:=Option.ne_none_iff_exists'.mp hq;have:=fr1.1 q u hu (noA q);exact⟨(by rw[this.1];exact fun z=>nomatch z),this.2⟩
def A8{cl:RL.Cl}{d:d5}{fn:RL.Fn}{vs:List V}{H:Hp}{E:XK}{ds:List RL.D}{x:Str}{σ':RL.St}{D:Ends}(B:FnB p d fn)(hmp:fn.mp=[])(r1:af nP K H ds vs)(hlen:ds.length=fn.ps)(e1:RL.bI cl fn.M fn.body (ds.map some++List.replicate (fn.nn-fn.ps) none)=some (x,σ'))
 (k:∀ C od H',CO K x C od H'->ax H H'->E (.ref C) od H'):tXS K fn.M (fun _=>E) (RL.bI cl fn.M fn.body) D (start d.N vs) H:=by
 have hst:start d.N vs=vs.map some++List.replicate (d.N.length-vs.length) none:=rfl
 have hvl:vs.length=fn.ps:=by rw[<-r1.length];exact hlen
 refine⟨_,x,σ',?_,e1,fun σ1 H1 C od hc rv1 fr1=>k C od H1 hc fun b u eb=>(fr1.1 b u eb fun⟨i,hi,ei⟩=>?_).1⟩
 ·rw[hst,hvl,<-B.nn]
  exact pC r1 (fun i hi=>by
   cases hc:fn.M.contains i with
   | false=>rfl
   |true=>
    have:=B.hM i hi hc;rw[hmp]at this
    cases this) hlen
 ·rw[hst,aV]at ei;have h3:=(List.getElem?_eq_some_iff.mp ei).1;have:=B.hM i (by lia) hi;rw[hmp]at this;cases this
structure Ej(P:Program)(w:World)(K:PySem.W.Frag)(mg:Str->Option Value)(base:Heap)(p:PT')(n f:Nat)(d:d5)(fn:RL.Fn)(fa:Addr)(fd:FuncData):Prop where
 nor:dz P w K mg base CX0 (6*n+9) fa fd d.ps (lu K (RL.aq p.T n) fn.mp f)
 ref:fn.mp=[]->dz P w K mg base (CXE P w) (6*n+9) fa fd d.ps (spX K (RL.aq p.T n) f)
 sui:d.h=true->fn.mp=[]->jF P w K mg base (6*n+9) fa fd d.ps (spF K (RL.aq p.T n) f)
def gu(hok:p.ok=true)(tp:rj p w K mg):∀ (n f:Nat) (d:d5) (fn:RL.Fn),p.Ds[f]?=some d->p.T[f]?=some fn->∀ fa fd,Fun K d.name d.name d.st fa fd->Ej P w K mg base p n f d fn fa fd
 | 0,f,d,fn,hd,hf,fa,fd,F=>by
  have no:∀ vs H Q E,¬ lu K (RL.aq p.T 0) fn.mp f vs H Q E:=fun vs H Q E h=>by
   unfold lu at h;split at h
   ·obtain⟨ds,r,_,e,_⟩:=h;cases e
   ·obtain⟨ds,r,o,e,_⟩:=h;cases e
  have noF:∀ vs H Q E,¬ spF K (RL.aq p.T 0) f vs H Q E:=fun vs H Q E h=>by
   obtain⟨ds,r,_,e,_⟩:=h;cases e
  have noX:∀ vs H Q E,¬ spX K (RL.aq p.T 0) f vs H Q E:=fun vs H Q E h=>by
   obtain⟨ds,r,_,e,_⟩:=h;cases e
  exact⟨⟨fun vs H Q E h=>(no vs H Q E h).elim,fun A outer s H args us vs Q E _ _ _ _ h=>(no vs H Q E h).elim⟩,fun _=>⟨fun vs H Q E h=>(noX vs H Q E h).elim,fun A outer s H args us vs Q E _ _ _ _ h=>(noX vs H Q E h).elim⟩,fun _ _=>⟨fun vs H Q h=>(noF vs H Q E0 h).elim,fun A outer s H us vs Q _ _ _ _ _ h=>(noF vs H Q E0 h).elim⟩⟩
 | n+1,f,d,fn,hd,hf,fa,fd,F=>by
  have hok':=hok;unfold PT'.ok at hok';obtain⟨hok',hall⟩:=ae hok';obtain⟨hT,hl⟩:=ae hok';rw[beq_iff_eq]at hl;rw[decide_eq_true_eq]at hT;rw[List.all_eq_true]at hall
  have hz:(p.Ds.zip p.T)[f]?=some (d,fn):=by
   rw[List.getElem?_zip_eq_some];exact⟨hd,hf⟩
  have B:=Bj (hall (d,fn) (List.mem_of_getElem? hz))
  have unf:∀ ds r,RL.aq p.T (n+1) f ds=some r->ds.length=fn.ps/\∃ o σ',RL.ai (RL.aq p.T n) fn.M fn.body (ds.map some++List.replicate (fn.nn-fn.ps) none)=some (o,σ')/\(match o with | .nx=>RL.bU fn .non σ' | .rt d=>RL.bU fn d σ')=some r:=by
   intro ds r h;rw[RL.aq,hf]at h;dsimp only at h;split at h
   ·rename_i hlen;obtain⟨⟨o,σ'⟩,h1,h2⟩:=bind_some h;exact⟨hlen,o,σ',h1,h2⟩
   ·cases h
  have unx:∀ ds x,RL.clX (RL.aq p.T (n+1)) f ds=some x->ds.length=fn.ps/\fn.mp=[]/\∃ σ',RL.bI (RL.aq p.T n) fn.M fn.body (ds.map some++List.replicate (fn.nn-fn.ps) none)=some (x,σ'):=by
   intro ds x h;unfold RL.clX at h;obtain⟨r,h1,h2⟩:=bind_some h;have hT2:p.T[f+1000]?=none:=List.getElem?_eq_none_iff.mpr (by lia);rw[RL.aq,hT2]at h1;dsimp only at h1;rw[Nat.add_sub_cancel,hf]at h1;dsimp only[Option.bind_some]at h1;split at h1
   ·rename_i hlen;obtain⟨⟨y,σ'⟩,h3,h4⟩:=map_some h1;subst h4;cases h2;exact⟨hlen.1,hlen.2,σ',h3⟩
   ·cases h1
  have look:∀ {g:Nat} {x:Str} {mp:List Nat},p.F[g]?=some (x,mp)->∃ d' fn',p.Ds[g]?=some d'/\p.T[g]?=some fn'/\d'.name=x/\fn'.mp=mp:=fun {g x mp} hg=>by
   unfold PT'.F at hg;rw[List.getElem?_map]at hg;obtain⟨⟨d',fn'⟩,q1,q2⟩:=map_some hg;cases q2;rw[List.getElem?_zip_eq_some]at q1;exact⟨d',fn',q1.1,q1.2,rfl,rfl⟩
  have Y:∀ (CX:CXT) (E:XK) (cdv:Value) (A:Around) (outer:List Env) (s:Shared) (H:Hp),bP (6*n+14) (A.deeper (envOfC d.name (aH d.st) s.heap.objs.size fa cdv))->YOk (p.cc d) (fG CX P w K mg base d.N d.name (aH d.st) fa cdv A outer s H E).nox (RL.aq p.T n):=fun CX E cdv A outer s H hr=>{
   scope:=rfl
   names:=rfl
   nd:=B.sc.nd
   calm:=fun _=>rfl
   xe:=rfl
   hu:=by
    have:=hr.un;show(A.deeper _).units+100<cLine;lia
   blt:=tp.blt
   glb:=tp.glb
   gds:=fun x tbl hx=>let ⟨d,kvs,a,b,c⟩:=tp.gds x tbl hx;⟨d,kvs,a,⟨b.1,fun h q=>b.2 _ h q⟩,c⟩
   fns:=fun g x mp _ hg=>by
    obtain⟨d',fn',q1,q2,rfl,rfl⟩:=look hg;obtain⟨fa',fd',t1,t2,t3,t4⟩:=tp.defs g d' q1;exact⟨6*n+9,fa',fd',d'.ps,(gu hok tp n g d' fn' q1 q2 fa' fd' t2).nor,hr.mono (by lia),t1,t3,t4⟩
   hfn:=fun g x hh hg=>by
    obtain⟨d',fn',q1,q2,rfl,q3⟩:=look hg;obtain⟨d2,q4,q5⟩:=sY hh;rw[q1]at q4;cases q4;obtain⟨fa',fd',t1,t2,t3,t4⟩:=tp.defs g d' q1;exact⟨6*n+9,fa',fd',d'.ps,(gu hok tp n g d' fn' q1 q2 fa' fd' t2).sui q5 q3,(hr.mono (by lia)).h,t1,t3,t4⟩
   cls:=tp.cls
   ref:=tp.ref
   fn:=fun _=>rfl
   st:=⟨rfl,rfl,rfl⟩
   fnx:=fun g x _ hg=>by
    obtain⟨d',fn',q1,q2,rfl,q3⟩:=look hg;obtain⟨fa',fd',t1,t2,t3,t4⟩:=tp.defs g d' q1
    exact⟨6*n+9,fa',fd',d'.ps,(gu hok tp n g d' fn' q1 q2 fa' fd' t2).ref q3,hr.mono (by lia),t1,t3,t4⟩ }
  refine⟨?_,fun hmp=>?_,fun hh hmp=>?_⟩
  ·refine Fun.ok F B.sc (fun vs H Q E h=>?_) fun cdv A outer s H vs Q E hr h=>?_
   ·unfold lu at h;split at h
    ·obtain⟨ds,r,r1,e,_⟩:=h;rw[<-r1.length,(unf ds r e).1,B.ps]
    ·obtain⟨ds,r,o,e,a,_⟩:=h;rw[<-a.vy.length,(unf ds _ e).1,B.ps]
   ·refine⟨_,bC fn.body (Y CX0 E cdv A outer s H hr) (M:=fn.M) _ B.body,?_⟩;have hst:start d.N vs=vs.map some++List.replicate (d.N.length-vs.length) none:=rfl;unfold lu at h;split at h
    ·rename_i hmp;obtain⟨ds,r,r1,e,k⟩:=h;obtain⟨hlen,o,σ',e1,e2⟩:=unf ds r e;exact uh (f:=f) B hmp r1 hlen e2 e1 k
    ·rename_i hmp;obtain⟨ds,r,outs,e,a,k⟩:=h;obtain⟨hlen,o,σ',e1,e2⟩:=unf ds _ e
     have hvl:vs.length=fn.ps:=by rw[<-a.vy.length];exact hlen
     refine⟨_,o,σ',?_,e1,?_⟩
     ·rw[hst,hvl,<-B.nn];exact xT a B.hM (fun i hi=>gE (B.mp i hi).2) hlen
     ·-- the lists behind it
      have fin:∀ (d0:RL.D) (σ1:L2.St) (H1 H':Hp) (v:V),RL.bU fn d0 σ'=some (.tup (r::outs))->RVm K fn.M σ' σ1 H1->Fr' fn.M (start d.N vs) H σ1 H1->ax H1 H'->(d0.imm=true->Rep nP K H' d0 v)->Q v H':=by
       intro d0 σ1 H1 H' v ht rv1 fr1 sm rp;obtain⟨im,os,g1,g2⟩:=A9 ht hmp;cases g2;obtain⟨l1,l2⟩:=nC g1;refine k v H' (fun b u nb eb=>sm _ _ (fr1.1 b u eb fun⟨i,hi,ei⟩=>?_).1) (rp im) im ⟨l1,fun kk pp oo hk ho=>?_⟩
       ·rw[hst,aV]at ei;have h3:=(List.getElem?_eq_some_iff.mp ei).1;exact nb ⟨i,B.hM i (by lia) hi,ei⟩
       ·have hpm:=List.mem_of_getElem? hk;obtain⟨dp,ap,g3,g4,g5⟩:=a.own pp hpm;have g6:=fr1.2 pp (B.mp pp hpm).2
        have g7:(start d.N vs)[pp]?=some (some (.ref ap)):=by rw[hst,aV];exact g4
        rw[g7]at g6;obtain⟨v',g8,g9⟩:=rv1.val pp oo (l2 kk pp oo hk ho);rw[g6]at g8;cases g8;rw[if_pos (gE (B.mp pp hpm).2)]at g9;exact⟨ap,g4,g9.same sm⟩
      cases o with
      |nx=>
       intro σ1 H1 rv1 fr1
       exact fin .non σ1 H1 H1 .non e2 rv1 fr1 (ax.refl _) fun _=>by rw[Rep]
      |rt d0=>
       intro σ1 H1 v H' rv1 fr1 sm rp;exact fin d0 σ1 H1 H' v e2 rv1 fr1 sm fun im=>rp nP fun _ z=>z.elim
  ·refine Fun.okX F B.sc (fun vs H Q E h=>?_) fun cdv A outer s H vs Q E hr h=>?_
   ·obtain⟨ds,x,r1,e,_⟩:=h;rw[<-r1.length,(unx ds x e).1,B.ps]
   ·have R:ROk (p.cc d) (fG (CXE P w) P w K mg base d.N d.name (aH d.st) fa cdv A outer s H E) (RL.aq p.T n) (fun _=>E):={
     y:=Y (CXE P w) E cdv A outer s H hr
     cal:=rfl
     pass:=fun pins σ H1 s1 e s' I z=>by
      obtain⟨x,C,od,H',rfl,hE,I',ex,_⟩:=I.refused rfl z;exact j9 I' rfl rfl rfl ex hE I'.ok.frames
     made:=fun pins σ H1 s1 h' e C vs I m z=>by
      obtain⟨I',ex⟩:=I.newExc rfl m;exact j9 I' rfl rfl rfl ex z I'.ok.frames
     Bm:=fun pins σ H1 s1 C i e od H' s' I nx z=>by
      obtain⟨I',ex⟩:=I.newX rfl nx;exact j9 I' rfl rfl rfl ex z I'.ok.frames
     own:=PassesOwn.leaving }
    obtain⟨ds,x,r1,e,k⟩:=h;obtain⟨hlen,_,σ',e1⟩:=unx ds x e;exact⟨_,dN fn.body R (M:=fn.M) _ B.body,A8 B hmp r1 hlen e1 k⟩
  ·refine Fun.okH F B.sc (fun vs H Q h=>?_) fun cdv A outer s H vs Q hr h=>?_
   ·obtain⟨ds,r,r1,e,_⟩:=h;rw[<-r1.length,(unf ds r e).1,B.ps]
   ·have Z:YOk { p.cc d with calm:=false } (cxH P w K mg base d.N d.name (aH d.st) fa cdv A outer s H) (RL.aq p.T n):={
     scope:=rfl
     names:=rfl
     nd:=B.sc.nd
     calm:=fun z=>(nomatch z)
     xe:=rfl
     hu:=by
      have:=hr.un;show(A.deeper _).units+100<cLine;lia
     blt:=tp.blt
     glb:=tp.glb
     gds:=fun x tbl hx=>let ⟨d,kvs,a,b,c⟩:=tp.gds x tbl hx;⟨d,kvs,a,⟨b.1,fun h q=>b.2 _ h q⟩,c⟩
     fns:=fun _ _ _ z=>(nomatch z)
     hfn:=fun g x hh hg=>by
      obtain⟨d',fn',q1,q2,rfl,q3⟩:=look hg;obtain⟨d2,q4,q5⟩:=sY hh;rw[q1]at q4;cases q4;obtain⟨fa',fd',t1,t2,t3,t4⟩:=tp.defs g d' q1;exact⟨6*n+9,fa',fd',d'.ps,(gu hok tp n g d' fn' q1 q2 fa' fd' t2).sui q5 q3,hr.mono (by lia),t1,t3,t4⟩
     cls:=tp.cls
     ref:=tp.ref
     fn:=fun _=>rfl
     st:=⟨rfl,rfl,rfl⟩
     fnx:=fun _ _ z=>(nomatch z) }
    obtain⟨ds,r,r1,e,k⟩:=h;obtain⟨hlen,o,σ',e1,e2⟩:=unf ds r e;exact⟨_,bC fn.body Z (M:=fn.M) _ (B.hb hh),uh (f:=f) B hmp r1 hlen e2 e1 k⟩
def AD(hok:p.ok=true)(tp:rj p w K mg):∀ (n f:Nat) (d:d5) (fn:RL.Fn),p.Ds[f]?=some d->p.T[f]?=some fn->∀ fa fd,Fun K d.name d.name d.st fa fd->dz P w K mg base CX0 (6*n+9) fa fd d.ps (lu K (RL.aq p.T n) fn.mp f):=fun n f d fn a b fa fd F=>(gu hok tp n f d fn a b fa fd F).nor
end
abbrev spL(n:Nat)(p:PT')(f:Nat)(K:PySem.W.Frag):Sp:=spF K (RL.aq p.T n) f
def Ab{n:Nat}{p:PT'}{f:Nat}{K:PySem.W.Frag}{H:Hp}{a:Addr}{ns:List Int}(hO:oG H)(hS:SqL K H a (ns.map V.int))(h:RL.aq p.T n f [.scr (ns.map RL.D.int)]=some (.bl true)):spL n p f K [.ref a] H (fun v _=>v=.bl true) fun _ _ _=>False:=by
 refine⟨_,_,?_,h,fun v H' _ r=>aT r⟩;refine af.cons ?_ af.nil;rw[Rep];refine⟨a,ns.map V.int,rfl,?_,?_⟩
 ·rcases hS with(z | ⟨o,z⟩) | z
  ·rcases hO a with q | ⟨o,xs,q⟩
   ·rw[q]at z;cases z
   ·rw[q]at z;cases z
  ·exact .inl ⟨o,z⟩
  ·exact .inr (.inr z)
 ·clear hS h
  induction ns with
  | nil=>exact af.nil
  | cons i r ih=>exact af.cons aO ih
end RS
namespace K19
open PySem PySem.Spec PyProof.Rows L2
abbrev top(i:Nat):Stmt:=PySem.Challenge.pw_ribbonloft_k19_halves_numbered.main.body.getD i (.Pass ⟨0,0,0,0⟩)
abbrev mkD(x:Str)(i n:Nat)(N:List Str)(b:Bool:=false):RS.d5:=⟨x,top i,N.take n,N,b⟩
abbrev Ds:List RS.d5:=[
 mkD "is_number" 19 1 ["value"],
 mkD "is_peg_count" 20 1 ["value"],
 mkD "check_pegs" 21 1 ["pegs"],
 mkD "is_pairing" 23 1 ["row", "place"],
 mkD "names_back" 24 2 ["row", "place", "other"],
 mkD "is_uncrossed" 25 1 ["row", "waiting", "place", "other"],
 mkD "is_half" 27 1 ["half"],
 mkD "check_half" 28 1 ["half"],
 mkD "through_of" 29 1 ["half"],
 mkD "going" 30 1 ["half", "peg", "other"],
 mkD "how_many_halves" 32 2 ["pegs", "going"],
 mkD "half_of" 33 3 ["pegs", "going", "number"],
 mkD "half_number" 34 1 ["half"],
 mkD "half_from" 35 4 ["first", "many", "going", "number", "ahead", "width", "other", "behind", "within", "inner", "outer"],
 mkD "number_from" 36 4 ["half", "first", "end", "going", "other", "many", "ahead", "width"],
 mkD "tied_around" 37 3 ["many", "going", "width"],
 mkD "ways" 38 2 ["steps", "height", "downward"],
 mkD "choices" 39 2 ["many", "chosen", "found", "at"],
 mkD "check_number" 40 2 ["number", "many"],
 mkD "_law_is_half" 42 1 ["_law_told", "_law_size", "_law_peg", "_law_other", "_law_inner"],
 mkD "_law_kin" 43 1 ["_law_e", "_law_found", "_law_words", "_law_word_here", "_law_kin_here"] true,
 mkD "_law_mix" 44 1 ["_law_seed", "_law_one", "_law_two"],
 mkD "_law_raw" 45 2 ["_law_script", "_law_k", "_law_cell", "_law_found", "_law_turn"],
 mkD "_law_digits" 46 3 ["_law_script", "_law_k", "_law_sizes", "_law_rest", "_law_found", "_law_size"],
 mkD "_law_same" 47 2 ["_law_told", "_law_due", "_law_one", "_law_other"],
 mkD "_law_halves" 48 2 ["_law_pegs", "_law_open_pegs", "_law_found", "_law_peg", "_law_longer", "_law_told", "_law_left"],
 mkD "_law_word" 49 3 ["_law_pegs", "_law_open_pegs", "_law_number", "_law_word_here", "_law_e"],
 mkD "_law_refused" 50 1 ["_law_told", "_law_word_here", "_law_e"],
 mkD "law" 51 1 ["_law_script", "_law_due", "_law_drawn", "_law_number", "_law_words", "_law_bad", "_law_pegs", "_law_open_pegs", "_law_one", "_law_far", "_law_told"]]
abbrev p:RS.PT':=⟨["ValueError", "all", "bool", "divmod", "enumerate", "int", "isinstance", "len", "list", "max", "range", "sorted", "str", "tuple", "zip"],[("MOST_PEGS",10)],Ds,T,["BadHalf", "BadPegs", "NoNumber", "RibbonError"],["BadFrame", "BadHalf", "BadHook", "BadName", "BadPage", "BadPegs", "BadTrade", "Full", "Hangs", "NoFrame", "NoNumber", "NoPlace", "NoStack", "NothingThere", "Taken"],[],[],[]⟩
def DL:p.ok=true:=by decide +kernel
def gm{P:List Value->Prop}{n:Nat}(h:∀ a t,t.length=n->P (a::t))(us:List Value)(hl:us.length=n+1):P us:=by
 cases us with
 | nil=>cases hl
 | cons a t=>exact h a t (Nat.succ.inj hl)
def qM{P:List Value->Prop}(h:P [])(us:List Value)(hl:us.length=0):P us:=by
 rw[List.eq_nil_of_length_eq_zero hl];exact h
def all1{P:List Value->Prop}(h:∀ a0,P [a0]):∀ us:List Value,us.length=1->P us :=
 gm fun a0=>qM (h a0)
def all2{P:List Value->Prop}(h:∀ a0 a1,P [a0,a1]):∀ us:List Value,us.length=2->P us :=
 gm fun a0=>gm fun a1=>qM (h a0 a1)
def kI{P:List Value->Prop}(h:∀ a0 a1 a2,P [a0,a1,a2]):∀ us:List Value,us.length=3->P us :=
 gm fun a0=>gm fun a1=>gm fun a2=>qM (h a0 a1 a2)
def Ew{P:List Value->Prop}(h:∀ a0 a1 a2 a3,P [a0,a1,a2,a3]):∀ us:List Value,us.length=4->P us :=
 gm fun a0=>gm fun a1=>gm fun a2=>gm fun a3=>qM (h a0 a1 a2 a3)
section
variable{K:PySem.W.Frag}{h:Heap}{mg:Str->Option Value}{x:Str}{st:Stmt}{f:Addr}{oc kV dc pm cd ct:Value}{od an:Option Addr}{sl:Array (Option Value)}{ps:List Str}
abbrev At(K:PySem.W.Frag)(mg:Str->Option Value)(x:Str)(st:Stmt)(ps:List Str):Prop:=∃ f fd,mg x=some (.ref f)/\Fun K x x st f fd/\PySem.W.keepIn K (.ref f)=true/\Binds K fd ps []
def zg(X:K.In h)(G:h.Ns mainGlobals mg)(a:PySem.W.nsIn K mainGlobals x=some (some (.ref f)))(l:K.lookup f=some ⟨oc,od,.func (PySem.W.fnOf x x (fk st) (bZ st) (aH st) .none kV dc pm an cd ct),sl⟩)(c:PySem.W.codeIn K cd x=true)(k:PySem.W.keepIn K (.ref f)=true)
 (b:∀ (kV doc pm:Value) (an:Option Addr) (cdv ct:Value) (us:List Value),us.length=ps.length->bindArgs (PySem.W.fnOf x x (fk st) (bZ st) (aH st) .none kV doc pm an cdv ct) ⟨us,[]⟩=pure (ps.zip us)):At K mg x st ps :=
 ⟨f,_,PySem.W.mg_of X G a,se (st:=st) l c k,k,(se (st:=st) l c k).binds b⟩
abbrev kN(K:PySem.W.Frag)(mg:Str->Option Value):List RS.d5->Prop
 | []=>True
 | d::r=>At K mg d.name d.st d.ps/\kN K mg r
def kN.get:∀ {l:List RS.d5} {f:Nat} {d:RS.d5},kN K mg l->l[f]?=some d->At K mg d.name d.st d.ps
 | [],_,_,_,e=>by cases e
 | _::_,0,_,h,e=>by cases e;exact h.1
 | _::_,f+1,_,h,e=>kN.get (f:=f) h.2 e
abbrev AllP(P:Str->Prop):List Str->Prop
 | []=>True
 | x::r=>P x/\AllP P r
def AllP.get{P:Str->Prop}:∀ {l:List Str},AllP P l->x∈l->P x
 | _::_,h,e=>(List.mem_cons.mp e).elim (fun z=>z▸h.1) fun z=>AllP.get h.2 z
abbrev kL(K:PySem.W.Frag):List (Str × Int)->Prop
 | []=>True
 | q::r=>(∃ t,PySem.W.nsIn K mainGlobals q.1=some (some (.int q.2 t)))/\kL K r
def kL.get{i:Int}:∀ {l:List (Str × Int)},kL K l->l.lookup x=some i->∃ t,PySem.W.nsIn K mainGlobals x=some (some (.int i t))
 | [],_,e=>by cases e
 | q::_,h,e=>by
  rw[List.lookup_cons]at e
  cases hb:x == q.1 with
  | true=>rw[hb]at e;cases e;rw[eq_of_beq hb];exact h.1
  | false=>rw[hb]at e;exact kL.get h.2 e
structure Tp(w:World)(K:PySem.W.Frag)(mg:Str->Option Value):Prop where
 t1:kN K mg Ds
 t2:AllP (fun x=>PySem.W.nsIn K mainGlobals x=some none) p.B
 t3:kL K p.G
 t4:AllP (fun c=>∃ D,PySem.W.nsIn K mainGlobals c=some (some (.ref D))/\RS.fQ K c D=true/\PySem.W.excIn K D RS.VE "ValueError.__new__" = true) p.Xr
 t5:AllP (fun c=>∃ D,PySem.W.nsIn K mainGlobals c=some (some (.ref D))) p.Xs
def BM{w:World}(X:K.In h)(G:h.Ns mainGlobals mg)(A:Tp w K mg):RS.rj p w K mg where
 gds:=fun x t e=>by cases e
 defs:=fun f d e=>A.t1.get e
 blt:=fun x hx=>PySem.W.mg_none_of X G (A.t2.get hx)
 glb:=fun x i hx=>let ⟨t,ht⟩:=A.t3.get hx;⟨_,PySem.W.mg_of X G ht,t,rfl⟩
 cls:=fun c hc=>let ⟨D,a,b,e⟩:=A.t4.get (by simpa using hc);⟨D,PySem.W.mg_of X G a,⟨a,b⟩,e⟩
 ref:=fun c hc=>let ⟨D,a⟩:=A.t5.get (by simpa using hc);⟨D,PySem.W.mg_of X G a,a⟩
end
end K19
end
open PySem PySem.W PyProof.Rows
set_option maxRecDepth 100000 in
set_option maxHeartbeats 0 in
theorem PySem.Challenge.cw_ribbonloft_k19_halves_numbered_holds : PySem.Challenge.rw_ribbonloft_k19_halves_numbered.Holds := by
 refine hdTop ?_
 k_fill
 refine L2.uV (l:=PySem.Challenge.rw_ribbonloft_k19_halves_numbered) (n:=63) (k:=189) (x := "_law_script") (CX:=L2.CX0) (sp:=RS.spL 30 K19.p 28) rfl (by decide) rfl ⟨rfl,by decide,by decide⟩ (fun w h Y=>HK.in_of Y) ?F ?S ?C
 case F =>
  intro w mg fa h KX G hmg
  have T:K19.Tp w (L2.KOf KX) mg:=by
   dsimp only[L2.KOf];constructor
   ·dsimp only[K19.kN,K19.Ds,K19.mkD,List.take]
    iterate 29 (refine' ⟨K19.zg KX G ?a ?l ?c ?k ?b,?_⟩;(case a=>k_is);(case l=>k_is);(case c=>k_is);(case k=>k_is);(case b=>first | exact fun _ _ _ _ _ _=>K19.all1 fun _=>rfl | exact fun _ _ _ _ _ _=>K19.all2 fun _ _=>rfl | exact fun _ _ _ _ _ _=>K19.kI fun _ _ _=>rfl | exact fun _ _ _ _ _ _=>K19.Ew fun _ _ _ _=>rfl))
    exact True.intro
   ·dsimp only[K19.AllP,K19.p]
    iterate 15 (refine' ⟨?a,?_⟩;(case a=>k_is))
    exact True.intro
   ·dsimp only[K19.kL,K19.p]
    iterate 1 (refine⟨⟨_,by k_is⟩,?_⟩)
    exact True.intro
   ·dsimp only[K19.AllP,K19.p]
    iterate 4 (refine' ⟨⟨_,?n,RS.Bo ?c,?exc1⟩,?_⟩;(case n=>k_is);(case exc1=>k_exc);(case c=>constructor;(refine RS.yO ?_;k_exc);(iterate 9 k_is);kit_is;(iterate 16 (refine' RS.Ag ?n ?k ?s ?e;(case n=>k_is);(case k=>kit_is);(case s=>k_is);(case e=>decide +kernel)))))
    exact True.intro
   ·dsimp only[K19.AllP,K19.p]
    iterate 15 (refine⟨⟨_,by k_is⟩,?_⟩)
    exact True.intro
  have tp:=K19.BM KX G T;obtain⟨fa',fd,h1,h2,h3,h4⟩:=tp.defs 28 _ rfl;have e0:=hmg.symm.trans h1;cases e0;refine⟨fd,fun s u=>?_,fun base kb nb=>RS.AD K19.DL tp 30 28 _ _ rfl rfl _ _ h2⟩;obtain⟨oc,od,kV,doc,pm,an,cdv,ct,osl,e9,_,_⟩:=h2.ex;subst e9;exact .of_eq rfl
 case S=>exact fun K H a ns hl hO hS=>RS.Ab hO hS (K19.main ns hl)
 case C=>exact fun _ _ _ _ h=>h
