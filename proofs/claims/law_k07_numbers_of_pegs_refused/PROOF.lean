import PyProof.Rows.All
import OpenK.KLine
import Wide.FinOn
import OpenK.KOwn
import KE.RegKIsAll
import KE.KItem
import KE.KDictOf
import PyProof.EqAt
import PyProof.EqKinds
import PyProof.TupleCall
import PySem.Str
import KE.KUnpack
import PyProof.NeKinds
import PyProof.CompMap
import PyProof.CompFree
import PyProof.EnumMake
import PyProof.Draws
import PyProof.ListRange
import PyProof.ConsumeWalk
import PyProof.Rows.SetFrom
import PyProof.SetRoads
import PyProof.ZipIter
import PyProof.Rows.SumAny
import PyProof.Rows.SortWalk
import PyProof.Rows.SeqMore2
import PyProof.ExcAttrAll.ValueError
import PyProof.ExcBaseAll.ValueError
import PyProof.Rows.FStr
import OpenK.KMake
import PyProof.InstStoreFacts
import PyProof.ExcClass3
import KE.KSortAsk
import PyProof.Rows.SeqMore
import PyProof.StrWalks
import PyProof.SliceStr2
import PyProof.StrBlockI
import PyProof.StrOps2
import PySem.SetOps
import PyProof.SetScanFacts
import KE.KDictSum
import PyProof.DictWalks
import PyProof.DictRoadsH
import PyProof.MeetsSeq3
import PyProof.MinMaxWalk
import PyProof.WalkInts
import PyProof.MeetsIn
import PyProof.Rows.TupDisplay
import PyProof.Rows.TupIter
import PyProof.CollectIter
import PyProof.WalksS
import PyProof.WalksMore
import PyProof.Rows.StrJoin2
import PyProof.TableCode
import PySem.Challenge.RW_ribbonloft_k07_numbers_of_pegs_refused
set_option Elab.async false
set_option linter.all false
set_option maxRecDepth 100000
set_option maxHeartbeats 4000000
set_option autoImplicit true
set_option relaxedAutoImplicit true
set_option genSizeOf false
set_option genSizeOfSpec false
set_option genInjectivity false
namespace HK
open PySem PySem.W
noncomputable def live : Obj → Bool
  | ⟨_, _, .freed, _⟩ => false
  | _ => true
noncomputable def pick : List Nat → Nat → List Obj → List (Nat × Obj)
  | a :: as, i, o :: os => cond (Nat.beq a i) (cond (live o) ((a, o) :: pick as (i + 1) os) []) (pick (a :: as) (i + 1) os)
  | _, _, _ => []
theorem sub_step {a i : Nat} (h : i + 1 ≤ a) : a - i = (a - (i + 1)) + 1 := by omega
theorem pick_in : ∀ {as : List Nat} {i : Nat} {os : List Obj} {a : Nat} {o : Obj}, (pick as i os).lookup a = some o → i ≤ a ∧ os[a - i]? = some o ∧ live o = true
  | [], _, [], _, _, h => nomatch h
  | [], _, _ :: _, _, _, h => nomatch h
  | _ :: _, _, [], _, _, h => nomatch h
  | b :: as, i, u :: os, a, o, h => by
    rw [pick] at h
    have go : ∀ {l : List Nat}, (pick l (i + 1) os).lookup a = some o → i ≤ a ∧ (u :: os)[a - i]? = some o ∧ live o = true := fun h => by
      obtain ⟨h1, h2, h3⟩ := pick_in h
      refine ⟨Nat.le_of_succ_le h1, ?_, h3⟩
      rw [sub_step h1, List.getElem?_cons_succ]
      exact h2
    cases hb : Nat.beq b i with
    | true =>
      rw [hb] at h
      have e := Nat.eq_of_beq_eq_true hb
      subst e
      cases hl : live u with
      | false => rw [hl] at h; cases h
      | true =>
        rw [hl] at h
        have h : ((b, u) :: pick as (b + 1) os).lookup a = some o := h
        rw [List.lookup_cons] at h
        cases hc : a == b with
        | true =>
          rw [hc] at h
          cases h
          have e := eq_of_beq hc
          subst e
          exact ⟨Nat.le_refl _, by rw [Nat.sub_self]; rfl, hl⟩
        | false =>
          rw [hc] at h
          exact go h
    | false =>
      rw [hb] at h
      exact go h
noncomputable def hook (K : Params → Frag) (as : List Nat) : Hook :=
  ⟨List (Nat × Obj), fun s => pick as 0 s.heap.objs.toList, fun w => K w.params, InK K, fun w s e a o l => by
    rw [← show pick as 0 s.heap.objs.toList = K w.params from e] at l
    obtain ⟨_, h, v⟩ := pick_in l
    rw [Nat.sub_zero, Array.getElem?_toList] at h
    unfold Heap.get?
    rw [h]
    unfold live at v
    split at v
    · cases v
    · rename_i h'
      split
      · rename_i h1
        cases h1
        exact absurd rfl (h' _ _ _)
      · rfl, InK.keeps⟩
theorem in_of {K : Params → Frag} {as : List Nat} {w : World} {h : Heap} (Y : (hook K as).says w h) : (K w.params).In h := Y
end HK
namespace PySem.W.Fast
local macro_rules|`(universe $x*)=>do pure (Lean.mkNullNode (<-x.mapM fun x=>`(theorem $(Lean.mkIdent (.mkSimple s!"tw{x.getId.toString.foldl (fun a c=>52*a+c.toNat-if c.toNat<97 then 65 else 71) 0}")) :True:=trivial)))
universe BUOkuaHRtSkA CRXCmdTQJjbk BJrHLmcZhGYQ BwLZYYNmRLOo eUIsJWKvMhc BrwkMUXFsths CIprUwewqLHU BIMmBFRImzmo CTMkKKYYUsVM CSDbyNpaeQw BRTFrmhZdlcQ CHlzmSUFxSGY BfcsGpFpEJqY BPcjARjNzofE BxVoQxOtlvwA uvpdbnMyqkA BIljETaJOPWI BCzBTctqTPU CStdTgCzKbWo nNQXwLLNakA Dzeflvbvwpc BFSffqpGvuzU CNyNqPeDvDlc CCvfAdsYFgXE FhxSDzfcpIg BhgnxXwxuqgQ CNPuvQCQNmPE BKMuDvdOYBxs WossMdbAmUA CLQAYCAEbSWY BMePOawiMaXE BwoiNZhmDQHE MYdodIiRfuo oljuZLgCLuo BOdcobwLhEHk CHkfZXhWsVGI XXIHCdXFvLk BihQqJVIZByY FVVgPOEukKI tWiXAtKCUnE BTOPVchLUzsQ BdaLFWGpUuls BgrvDVxyCyNs BgBTbhKeEPwg BZbBXmnmhBM LyZNLNkWTiY BiYqZNSUlYQw yGpILBnAfWo BbXIsPpnhXmo BQWajxuKPLKY nPdbkvQNRQA MJKVbhGopJs BgxRJiFotanE RjrGOMniOao BqmfcWtBtMhc BOTkudFWqJZs qcmhFxCVEtt BazmbfSXJNAh IqjmtUYcwcB qxHeFQySOZ CVGfqJJTbaUh BlRUUPmUnWLV BAFhWsqmgYnF EmmetTqHDEx BlNodGxXaGBd BuGgDhEBVnTl iyzbsAKutUx uJIHMOsuBht BBSqBlwvPAZd QOKnImDpbkR lPiGmcPNfoB YpyXNiKmGdN KfQjPlyrvMR fJVaNYggGPl BTdcidUvjWQR OgGOFBHFfwB fmklRBUfQgR EnBHNvneffV oCiECpMLCQx FbcdJVnOoip BdoCKabhWtt VQuUzLJhrbF CBblUCdsfbcx BGRyzllGDfWp BoOmWNORIoUh lONmOnhttsR JjwnAlJnqAx BBhYJrgHhOaJ BQjPQRWpqUWZ mUAxoXDbFmJ CVEwAhEWinYB WmNhlMSTraZ BqYXyGOcpDeJ XPUjCzuWuIR CBBIxPtzKTrF BOnveCEQUoaJ BBMBtbILCRkR ShrRiSfiBd rTGNKkWXWFN bNHEcdnkEdN BUAEssWIagvl BriCBeuNeeXl VThOantWdFd BKZAbwTSkqGZ BdffvotORlcx BCoGMHkDwcFt BlSLsubDzasC BDhrLlLRjxTm BLijnrBXGKdu BCUWktndDXMS KpeoFDZHSyK pIJCpNJDwyq rKuMysNFsKK BTOnkbOpKiGa BffKgvlXrCAS CQxYVdfXvzaa BwqKmzyGhnMS BtaWCKXxJSPG BpiFBIfKipTG bmMIkaoCVYi COEknpSwfMlu dJZjvZOnHCa BKcNHhXkodrm BpvUXpiWMhky BDdoMnUnghHW BssEhVQGlLpu hEFCPEAdoKq gAJLTLxWtsy CWydXfUHMQci CPDLyoowEPte BGnyTXGfbBuK qGHfvdzANUy ByJFfKSfcBAC tbJkubSIHgC CQxJPXclJiFO BfmEHXswhszW BOvyCDtnoGnG BHtygANtMHfW CQWePYULzdjG COakzUyedZcS mFmBcWuGTcS CQGPpyLdZVwC LmSriHDBEtu CIuysimnIrqa PiLnZNzcJMy COYvQrwHiLxO BSCGHlTiBMvG rvgAqTKQTDm YSunCsvXDnW CQfsQQvuktYi CHKgflABuDZO nTlLSjjfHRO BBOMCDLJvfTm somyewXCvZO BtzuHWRftuwS BekNNfhfHrEy sFKMzRENkzW CRyypQPxBFmK CDCFUgCFnWCq BAIAyUHYTTxu WSvMHLmsHky BJuimmZjvcQT CIlRZxfHereL CRgukFDgPKoz aYifkTpWnUz BmmPXDNaafgj rBBbcyExYcD SWbcZwBfkBf QXuHXbBbdQD CTPXBHxSXoir BhzFaJZHAaNP BljomlIcEqRf BUxPTsfLTQCL xJNiPWTVvzn CHNToLFaBQTX BgBwOjwRPsSL avBOlHjUvlf buOzWQkHFeL BUWmMrfFxDcT BxxrHVToZgfn gnGsdXnhclv aVNTFCXCHBP BoSRZcjWKvDH BnuSkZrqkbQj jpjQYzKamSL vEGfesKJLdf CAzlOwxUglWL BgNYAACUkOfn ziLyDKZvur BZeosaYjEQyL BaTuokYLzEyL bmWxcUetzeL CAdflnBClRib lnTleXizMyr BncoDZRdHAYz yNnnGTciUsD BmNMkGqWOIgz yLCwaKxfrXX jrHagdeMlOL BiEHHrJGpUJf BRaGxWDdWuAT CQvbPJgmiXOr CyIFccWISoz tJiYEtbXSWb BzjFxYwWROkD hYqTSRjiArX CSQPGEmCoZLH oqftzVNUPJP IOcFRJsGoVP BLTiVRfLSMwz BYGYPCnKxOir DvPgCMwZpJP QzAJtveifxv BUIoDFrfQFyb BSFUBzZMtZIj NhnOslvcDBP MNNTvVAePwj lVrhCLSmwGb jlLadJHHGNP BxWWsUaMTndf BEhlmUyEKuQT BhNYBOJJwMwT BDNQNhvOHUlP XjAVDmIlAPn CQHKZBeTYnpv CKJTmzAgCkMj dlnETzaobTn CLzixboEWgSL fyLzRBRfQj BmclDUUIbLjH BvZjaLXEPZLH salnAAHtwNP OImoMcIvAKr BHzHJHcgOioz WhrpbrhiGCM BWdWKBvsSdzo COKHYKKbiHTI szXRJFtrDEU BkLDvCJVsoDY BTsRxhPejLtA CRKCWDEFoBus QMjTjSFoGpg CJjFwnYIJiCM ZnALAEYbSiM slExnIXFZuM cOJdfSRKtGs odrvvcTplZQ BeWyjIGjZwXo BQtPdfwbBCqs iUUzazdPbZQ ygWCmagnqbY vxCpoFiZbQk WesKbFufVQE BMzElVyKsnrI IdwNyEnZSaM NaNrNOFmeVQ mOgrMEhILzo BoOaqaNApYEk CDoVPEChmPxQ KNSWFeTDJjI CRbaCamVHtSc ddDNsNfppus BbocgRwVWUFQ uPMZHDdmRWM BsOuSBdhsExg ZBXlLVvbVwE BRFHLZcAoetw BazPHyLepmbY tuBxSFcbhIk BitjvDfUcXdA QzbqjNxUWuc IZBtcILxVg BGKqsfdrjJdA dGEXmpHdAVw HUIGIPXoIBh CJswhKAYPrYF CGVaYflhymYV BEUqjasspWyN BuYtHrFEqUdx CUdeEbnXPySt mQhXmNdyZxx BKOrPMFnjet BIziRnWbJLjJ xmeHRKwbjKd FqWJbQjgzSd BIbbJBLqpHyd CEAekmlLvkQV BzjudHiLIEdx VLXEYZWOrRR BNgAItHGYKlR CAVVmFNHxmlR EwAPTobADMV CWLhdROOFDZx RKkuJfbolad NHizjrQbXCd BEOrpMXfMNIl CCtMVdIparZx CBdIYtyaAhzJ BRRDBCqiNKFR CROmAQtZjgxh BogJytERqnPZ aGqRrhQNMHp BRnhlmurumMl NtqvEMRaBBR LXyuMMXeZlh CKnfdRLffsbZ BkZWNlgPNldB BBfEDwCpZubZ BCGtHhBEebYl FCjRZRvccxB YOoSIaxkUl BrEoMBkeEfZx BIwkEHiFPXYF BhbvYHDrVFHZ BQYovMikjChB CKdxaNPeDlOt RDToRPAGUXp sIBzlmDKSIV BEZegXagpIRh BbCAJLFHAjgF XULXJwxDdTp BQyLKiQTglth BgZbZvRSJHlh CVjSUBNbRBTp BjHRxolkqKDZ XGBYMkYCJZR yKGwvmBtZuN hFqchIynQhh BNEMoADFCDQF BCtYfaVMIRrp BxXKvCCKutlh CCPmtdHEtAxB oDihhLWHKHp BACsNfbdmOHp BymgsqczumAV BrtegJlaUedx ulXwJGbRBUW LkqkXXgWXCe BllvyvACIopi BvyoxQodqrjq vRTpmwYnHUW BUgUWEuEosTa BvDdoFavDsPq BnvUGRmartRS CRZyDvcaowlS oAOjRXqFmoW BJaBQLpqYDJy CKFeoTgoVvOu yVvEhITSaau BqUdtBHQFVuu BfaNfWiWtAkG BOLmOZeTQgBi PbptMcPQCtS lczPFRqOssG BOppBiDYiciO BejiQJhQWXhS BYACYCHJeEpC BonzgGvfdDdC BxjhsqwjrNgm BvnaelKoxRSe CDrPkeqjRqWe METPzeBVZYm RlelXIUgqpi sxGGlJBtfjq BhPSBRViHWra BEjjBsZVyBIm BWzucMMFLidS CSGBmfPnorWu BIsZkdsKvVFi BRZtamYMLdRy FhyVzOnWtcW BEZqbJbpvFie CBzjQZnNKgW BZnJaRtzuHFC CDfGvhkioQfq BsNumQPgGrva iRLJHreBgUn BRpxtDnoFDkX BweOyfKOyByf SSREnfNZspD CCAsAmahDzJT BBPbdEkdqEuf qQawlFOatQn CDNjrsWYVfRT CJvPfHwXDbtD RaWyaxEHLUX CSjCqKdXwOyP BTVnAtvthEBj UHojpyXQXND yWkGWOiGbJT TscnHmWBcHr BteLlshtEbGv CBBIEXqKmSEn CTgQKAHZAORj BovLkKzyjHDr BswOFXvQkbKf jouVkyElOdz IHyeheJHtOP BELqBakrCIcn BHknfSMmAItz CCfurvQkCiKv BzqXHBjnahmP BLZTmVwkQAmf KhyrtENrmRj BvyunQrbwVhz BcFxsWyGKoMn PASJfBZUUKv xIFWHKkaYav BNVoPzDPwJGv CUjyrmRLlgmf BMNFSWUoUihj fYziLHgjnQH BvwYVfrBkhBT BadPudtquszb BfJezKtNeaHr BxfgUWTUzmvL BUXEglaUBLFD CDOmRbEzNvNj eSzpFYgBFUX BosSbItAnLtj jwonCwVZElT CHUQcFTBZYUH BvDePwksnbTL CIpgXIEmPIpj XotsvrZUQhD ySIsCHZriSv QHfscKeGDVj qqUthdredhT CVaMqMXFeGKQ CABmzkGvujIo zsNWRZXpTEY BXcQTDJGRJag BujQCqhJwsxE ahTMNTtgyw OOiSVLsEbuQ CFalUGyVcBYo CDiqqJYHwLoI ulbybpxoVLs qJUTuTSQzLM tKvEXZqHKMo CUmYCNdeoco CFCsftAkDmcI ByBnwGtVucqQ BROduRStrZTs BqqADDeiIVYI CNdpJoClLaGg BkCxUoBcKUNU HNxHeeiMHkY CDGmYWSkDhdE CQDiMUCGPKSw xyOjYWuKkQY BkyjIgtNmpCg BtUPkpPmEutU jfCeERimhTM CXffqgFKNsOg BOjWnLKAxVNE BsfzjoTnRJLM CNfXHgjDniNU WqcGMSfYUGg IUfhqNmExrs BKoTeLyeDlqA BSAmDfiXutGQ BjasVeTnrLTs CVIDHLpGeboo HamyzvVQztE BGgZaMfzmcMI CRbcZyYefWRk CJYSsZYSIYPs BRgEeNZJzwrc sVqTKVBeWvs BhJVNOoyFxhU BeuERqumSOBE BixdIJEnOJrs CNsEJcAPzvEY sbnidirnzTt BvyrGaZZajd BClMEQaEbnBV BJKKiqndxHwJ BfJIpDUvxIFV UnjJXaEhLBV CUEoDIqmQTih CJxBEYOaxnfd iVEhByzNIcp rRlrzykBvmR CDQeyxMXCFih HpGRtDtoYEJ sHWuILkIpeR kkIRHZbkctV CDEzTMuFKwVV CBQShzsjlZlF BDSMTLWljwEp BYBUwpsQYxFl ZQRYHmtXqjd WKaDsaBikrd wiKyqcgNVfd iwnhWjRERNF LqjFTdCLBcZ BpRhCfHqtKnt BIfhweCgQYMJ COshyDTknSEp CIfzJjBowiXN BfxLJvgdbex CUxGhTGFUwhF zxYbPSrgRYJ PBdGVreqMJl CGTyHPEHpsUJ rxbizJrmPxV CMhSlrkJRHNl BwRtyZjGlrCh BjJbOMOncaLd BAeteoosTmIZ VihnIkmmAFV CQBZUdbsDgXt BawcqXdBDmOC BfKyyijWBgSS wTsJidBPVG BvHultUbvFyi CdmHNqVJqEq CKXUGXHwPdSC xfBXCXksUze iPxKAehDgwa BcmjfRqWqzka iHQNGkPXxii PbbVppXaPzO CEXAOSxtmDoK BOqtJIuohbIq ChyuuIQoHVG XVLmfzOPzDO OzBWRcERVYq vPXUSUAKgvO BXIqoNsNTbdG CPDmzPwrhxKC BNBWxoBkXdXe BHkKbeUuIaZm BbPpcYrKZaTe CPCTogiRjsxm BSWDMNyTIxYq BhBYnFVzhoCy BrMFYekcSTTu BRIbJYRMZChm CUvPdQwxHukK BhgViJSjlERG ydajJTDXrFG BzDnyuklYIRG BDlqOuIINLLu BPizTpwXvoga BoZprVNdLrbu lqbpJgKCnyC sUlQsFPxyKS BGeUAuuOyjBW BWFahZWdlDQq BWivcEYvNyC tdIcncNHfFG CWtxhCaYQZxW BeJzbSxyyWtW onOFfvZXqXO BPzKtXEzjWS VKMbHVdHfDu CInKrYeMPqkq BfDMfJCEnFoK CMZgtOwjEEkK SAxuiwHJsMq CBwmVXCNLoUK HniaDnMnvUa BZUvRcoeRYCS BGaRQGFCFfai BttzbCjSsfqi BZZrOUjpdBaC BeicsLBYXMHu KQbdZQsjxrP pTyizfrIOZH ilIuFqEmqhn KLdBPmRzXyD CPojyiRzQHrv BBuTJqqFXtWz ROOAbpamYNX CAHmGOOrtKWj CVKPtswkJQZn BlnJyjkdlLdH BlXJxbGkpIbf BOxdDXQzwYDf BjEoPXQKgKbf CMELvKYFpkXP PjmhUBxSNVH qOnpwdxMxlH VGgdllwEHKD BDQQocBJRFdH BwpYoZMKJYKz CGPOioxctVhX vbyudGRyWYb BwmYbaMwEiWj CEufEefqaeuD BbfeNkfuXhaj RchSFeqkAHv CVUaWKYefPaj BglGBCdLXwwb blKGFturIpH CRjMlVkjOjyj BCoeGfABcMHv BomEmqTPFdqD BCbkoQNxdEWj BeSlAAgPGxmz BsRnjvuVTdYL BeEjwwNCUNRX OtjLbhsRpuT CMkvXJCKLaGj BtuBeYlYjvkb CRVioGeuaTVn CWlTUfDTXuwb seNQhOsAmKT tQvBeadNJOz WTOFKQiNcuD gliGfRNjROT CCCszubYXmsL CWAlnlaATHGz CCPftVsNUMyT CGaoiNwkFdez BtHguJPVMfQr BcbyMsBFJSpn kMzfXJomWiT BGUWFlYcAZgL cmFHWkMFHLv xPtzKNtSKGj BDyMMlVNNrYs CFfnfRMfwXfA CFEzYVkWRXKE BXXiNoeMJSho BMjRuZyojBvg DxMksEmoYLg CRElOkvqVwDA akwibkzHCiU BMVoipTMvAFY BvdwsFAvjOZo BkpEysdxBXgs BERIvxaDKImE hIjGjsQFuRo BrtXgENGFYdY BTyxfrMiZUjg BpknXQGXwMJI BslbEJQQBpto qKTweWpgmZI BMJSqbyyrBYM DaDKZTNIGDg CDIEuXiuakpI CNjVQGYCvczg CPICOTDPDrdo EqDqKGfiOuE BPxnnVTuLDQM qtEyLXptvrw CPsDmWjbfXbw zkonfOjyUHw CTymjucsLFmU cZpAyalTZHA CGZwHRCetEvw COAZnyJfQcjg BlhvmfEpHfrQ CTbhFaVeVpqE BkYsIAkHMWRI JpXyKtBxkQc SYVJwTFKfrQ BqbywZrgppuU wJJzxpzdvJY BdeALMOwsQvQ eITQMNFvGzg CBcXSYDloFbw CIHenFMkcXlI bQhfHgMZNrw CJniUvWxuniE FTkkakMHzwM fRNGHmwtMek BTMAZYZLnLaE jAAwnLOwJUc CABUBNZcVWyU BvRNLIDdIjUc SgRyteuUBp BADancNKzzgN iYuLutyUSId CFEjCahnTMuF BtragjjgDxbR MxpEmduQuOF CRuVzpqeLTfB JZfdffcUGl BSYJzpyGUpyl CQacchiOBJTR BpYysOvymVhZ BGfsDBUucpnB FjsWPuUPpKl CXAleADpAQml GMGbFYzTjaF MfNHkQlvxpZ CIqiLAJqWcCV BUJSDLdZUQNZ BCnhXdZqQeMN ChkbBgXnHlp CJGUsEdmLqdZ BaYFEQTNPHkd BVxsNSHvTUjB BjpfTPNLpheV lzfatbkfOzB BicEQfOVwlYt vAMKTRJsfuV nEeYHblhnNJ CJCBRmqiHbXB BFTVnElSenFp keYderwtuLh BVILVOFubcEN BbGQXzEyOPfB BnTbYuRCBGul YnsmMUFXmsN BjHmSuyCPsgd BEBTUlLMbqNZ CFOBhLqzZsEt BSqaXRjhVPyl rBDuScDyhwt xrmTwGymzmV BFWMHzSLkYzh OmgNqtrgRFp CBPGWGJvtAWF ZROjIFQJITB osUirPWxRrR BoJWGIZQlbTx BtrVtcbGhzal BRrwxpcykzHh VNFDOdRirvB CQwjpgTxsHlq BbxsIVRuZdxa CSihpEEGVpou oaPHHSTFWTC CHtCfJpvKqfS CGclcaLwgGxK CWmMukkuKwmG zTNIIWOQTgO msboJoWCLAu BziuAmVSOObC CEvGoxZswXwu BaNfcXJKKYXy BhChBIxEGGwe SHRgqDBCdiG BJoYHDiIfCXS ByyscqvVynse vIkSKTnJkda rUzwlIAgkUu RkKhtJkJFou BkkUmvTOtsta hVcFedsrhwu BFtjYgxrFusO WWGmRXzSgqW PCRqYCzoYHy HvhPtXTxYem BidVXOvjQOFa CCjcZdZudHSm BnozfCgeybfC CROQenVsxYsu mpzUFqeROXS CSFGMqhcbrnC BzPSkXCdfWRK CRfmiAIQxkeG BxzdmwZmWLce BrIXnqAtmflK CBpDzvizfJgu BmIwWRyPxSEu ByKxyKkVsKcO OkHjQtqVYbC BJdElQetlgxK bhAWiOkgZPC BoszDJDbMjPC MBzKwsOQqsu VkmShKhVfni cTdNTlBmOLi fmSFJMbYqeG dLoSKxlNZaG YCSexAQJPEe bQYAWozHVYu BOsdbweLniSW BjXFCxwxqXyG CFUNRFhuKEcO yvtyFuijCRq BDOnpQxXundq xrxThyBYfnC XIulpgjWiDi BjZoAQyRGBPi CMhYnTVlQyFa PavcqJQMtmW ByhBDBLveOvy LUYRyunNBBa CCzRCyNAxsUO BiFaHXNQmZfi BsJheMGmPTqG CVieqkLctxni zxOWExkKtKG BByZAEUaWGsO jlUYKMYVHSn BePlGYCRXkxL HDNiGWFrFVr BifmdrQeKRIv cAuSchIxONb KdRelwgzYv BtIkmSDtxmnz CKelEFqDEmfT KAUxwOnxpLz BXjeeBaNVbPj BKJNhPcGkttr BHRIjQCHckaX BjjdfQeeNFqH pbSqvAOdMgf FFWXLFFunFr NMWwuMXXjKn ZvYIdLdFABL efXIXlOTtxb CTwIyMDlYdIP bJMbXQqzjlL BDykOSjsvaun XWEWFRgpbLT ddDsrxJqksP CSBwTwycxsCX BTPXtxiPcKOH ckWPTqZahVr yQAFGLqwCkP CMwRVnHFGhtr ByhQLpUXjjwP BbYpegbLHLeX ogSahXMhtvD wyeRjvFbIhr CBCLnwsmbQGn BKCcnbcYnfdL bzWKaKnMrdL neSlyNpJcJr SWlJCkMHVkf BVFeHjMqEPqH BBOJBnKSElUf krUphBtlCun BXJpmUkxpRKH qAZDjLiOVWX jgTwzkWfzfj hQNZqxXNsIf PaIppoZZNoP bynKEQVenjT BheYvVbRvGMP DlEQxAzyUrD BcQwBSEwgNUf BzZpJmHYKlxb vXRyEommhPj uAdJZWYdXwv evYwEfzbfEf SHXcitgzqbj BFqgAkXrcTyn BVgjhfTMmMgf CDMfKIQwOdYv BgCOrTWUageH BUKictXTLYzD CXYKyLhGIcXz CGggwxsoljCH CNEmoCqYGIBr BhgUkRFTNTCH CKHNnlCTbJpb BHFDXZDcegXT mnDgSToGxHk BblKuVfKrMAg CDfHzKdzYoA VElqSMhvTwQ LKMrCdaKUCY qPeSDibrkZM RhhtZefoCTk BMJxCOevaQvU BZwMjoGybSAg BXiUaJFpgkXU CAXwSSgtbpc UgrptMpaXuY kaKSVdiOyLE LSvJtQOmZow mHEgyyNjozk OlXuhDCGkTk BjaFnlidqVfk BKfPdAHymAmI BvHuhDEGIVQw ceomIfKptWY PwPtFKHHOZs BfsqKtVtTmMw CArcAuOckrvE KXwfPTnSkOI CPFlTvJuUvtM BoflJdPOyjfE rZobMsOjFwQ BykEVEFhwpyo FCQoQzqIwGI CWtcTsCpAgtc lIMeCnLiLMA CJAzLHKRKhdM IrmaNgomZVM CHIeuaCOHbTU fvSeXMYhgDE CIhOebgIWNOY BUMwQAZYPogA ktIqXvpuagg OpRVGNHkjww ZJylrNLcRKI BnfAjSjpphNM McVwXxXhErE arwxjMEgdrU BBiRIEtTnMps ISFoXXXmBdM knFwapeukQA BakZlApGkehs CFgqqQArGnaJ BYQdeplnnScx BKwpmrHGwSRt BAHzKwxKsfkB BkQZKGZHGVQR BcKqzPEeUjNt xVMyCtyTEkx CCvMsXNQLVTV BgMXnROxaxVN mQVwTiCIEFd rfMsEnvAcWJ JsoNltiolpd onKnkJCRXYR BpfSLHARrVMh jbUORluABzV CNGhUibNWzRd BJaAXEpnmfEB BztXdmUOEOJ ritOFXfCTVt BnVXuTyQyGDl rHKPdkIaywB BlnlfdzfJSwh BqlieElBbWPV YraVXqvULJd BBFCWVWNIszF BXwFMUOPexTV hPBGpRaVwhN taAxVCkbiYh BGtrHMANFwkx CUWmmrTcOTkh BvpqnJGXpcld CAvApDtwNYmJ sfHIUHIouGp HabCsQiCRtN LTaqVFWriep BzJUwZurwFtt BqQUDrQuJAmJ CXHdETVxxrCp BtJlbCmZVhFN BvkbmuGZEgrl ummYXmeBqcx BUmGgQhnFXVt nAZGgaXNqcR CVgbxuoTRxNN CWAvttDMtuep BjHASSJtkIwh BqoTegnPyRkB BKkRhDAcBKaZ BEDMKancHSGp bjFYELGPJox BfpfZMrEMFBd etlkuSSmKZ CVeDkgPWWyep iaFKbkpNsAi wQgRoStcGzm FdbRaUYekAC BwkuetmKLwOK WitaxOrbyDm RCpkSytunjW CCuFTeIzBIDm BKLfChylMPOa CThIbGTKykDG XyiXiTbLCRO BqfUisdBjPdu BPXWswjWUMRO CJYWsLoawDki BYYfvhEyXgpO BzcYyEvkRzsC KVnqYKxsoeq uDGeqhpzDUC CQGeYjXamexO mAaUMQcsSPW TDINJKmyHwS BGcbYFOVKxZe dnLMpqDbqSa BYaVYBiMHSte UrHnOAhkAeK CNbqLjXCbawC YYtfVBjLSsy BzyLMrcgxrqK imslCRxLCAi rIxaUooUxaK xOaHUcqCjHm BamhrRgJmute CVYQBowtrDtO CJrDfnquOmNe BtHGeHdGQcwi BvRLcmMLuxHG BNBuCOztWjtO CUEnXhIESblO YzmmmEEqLgS BZpKxpgVFRVu BSKpGRfMcCjG qipcqnOQvqq CQIPCvYpObQy CJlIkWfFeoxu nmrvcxUYRtO BtBNxirYRFDW CWTZsPlWKGYC BvpoXBYCrfki BDiXqnLVNagi bsGyKfDoeqa meQUbhmwFwz qzIMgpyQRjX gVksAvkQXIT CLgHksTOWqib CSGsNmkjNivX IKvmyXphVlv RxBtkrvbsyb CPrmcmRZIXbX CVhTNChcunKL kONKTUfEaET BvwMLPSYngWr NiNoHATTMJP ZYFbCCzGuib uKeJWQHvcID EHXfuSdymyb DjeZNLxPNdP sjJKNSHxEpv qeFsOAkXHoT zMSKXpmzsBP OSltNGqdcXX CHSETdhhvuFf COPOvyeHrnwz hpwopvxVJAz BWNUTEWxgbBf CBNbZFOObyMT BpbiBJlUcWOr HSXegMhlvgz zFWmZOjbJMD CKhpMAYeYsur MmzxtvlEocT nSkEdypZhZf BfkHnSPUYJXn ORBMJcgwUgj BvXZDFFUNoPX ghtYqRXzMpP pZhwTHOqefX biQcDjIxDrX GbtdwuhHEIj BnvlGhpcEBxf CBEdWPtacfFv CXMSEDPwMgpv CQgJDvinDdpf jVLKfmgrtv CVcoulTYjCCb CGEBbXXPrvoT BJedGYqUFyNf hjKDmWKIOGL CEpyvALDxsoD BPWDfZCkKiHX BWXNrloRUIMT RDIHVVEkcoD BCXKqRmUYeVA CVEpXOFXXFgU BfbBafdjTHo jDOhNqyhYKc CStZBiaYUstA BhKNnZpZnUcU BVhaTYaSvpXo CVwnEauapcvY BKtIHLdJSszI CEbacXyQIkBQ BPhBazcVVNdQ BFxSbGQPScZw BhpNzMjwhFCM BHJatLAXHIes FAgdBeWycdg BuIUsGYIgOfY BBCjTkusLPJA eQaYOSXiKNA WCQeeKkbAnY BKrTlZVTWjvI XScKzEiOAes BXMJoajqzsjI COkqLSylxVvI BFqIQWJAUZCM CNNwFdRvHfys BryGElturCWs gVaZoVpilPo CHKZYwgBFyxQ BNfARMYhUUAk BxUoRNHZaVg BtjjpJDThUcU NIrOSjlexZA fiGezBrbExw BrheQGSmbLFw thKWkHwZKM CCtAijJfQuoE BMmZzFrrMgFA CKuRBpVXJBUE BSPaDWTXuSxw BmCsOJkzhrys NjzlbuBIgkU BdDXHQXriTKM bawVgqJCrgU BpqFZDQaGVEE vOjRNHGCoFA gxFCFYEZcYk BlvHVrolEkIE CBBDvghOIjdw BfqIdLkqtLFw CEYBwRfyogHY wySsBpyjwNA oxEwbVbAtsk BfYlTQPfJfUF QRZbTmnIQRx BgBqKvULGUTJ iulxmLqZEKd BVxRHqmciMol CLeZbOcGBXQV CFKHQRZdGPMl BuwdlycuUket BQDIgeBaVWrJ BvUREbRyJTRB BfcmXqBeCqZR BovZVFdLapDZ ukHoARnQPSt BsciqtkLLtEl kjEMzpsPfNx SZRqkvJgqAl BoejajAzTYWN bYyOWeEsKAF CWTctsjuRtxh keUKDoDjIGN BvAqlnUjiuZR tTsqIJHvILJ BTHDnqtzqfbZ BLtcYQNzrXrZ fNoNvIeQdUF ibeWRSYqLlx CRlZkzqFQiUV BTiucBvyOcFB CGqEdNHllShx FdFHLrSFltR BELEWAbAJKkV BbFTwTrQhaBR mBqhqUDouFh hJItHxqJNHJ LGJcfjEVXhh UjxdQNoOVVx CTSrnpSyYUAl BrrIKujRyOmt BLPgxKOrsXyt BcynjMpBbLBh cIPpUCDzTlx jlIIaQqAFBB BJfWWZVvVhsl CNVhotuaQblx BCtgzMlGGiyd BAuLMGiazrhh BtpeyQwzssAF ICTtVVxBPxB BNcGmFqiiYWN BMeZLApDOrSt BygOjDHpTjTZ BdjlOFLYJiTp qgCuGUIDSpx BDEbhAPhglMF sVcrvZkGbud BFyvDslMVqol CSRfFyePasJR BugEAKRmEAid BlcRukyvlhsm DIlMWMdcbba BdBrFyZsbzLa nMtzWHTEhKO CBcAXgPoNAeu BrjHoEMCLjZC CHxJhhaTGmNC WgYUBcpNtJC KVurmvnXROe BXoEnBABipvK aNsMOSXpOTq CQWzqUgUIXFy wTxGfBCRseO GiCQlFtAmQm UDuNtJGCGIm RReGUjBixWe CJfOvQMvnERS CXJwnwFySHiu CUSGWchmBtOe NtvzPvKvhoW hJImGIVyNDa BjcPOilZgBvK nmlEBALDmFC BFdTswiMkiEW BNYNdrnhUyhS lBFpnmumwBS BrSDHZjdXbcG tQVkiuGxtdy JcyIduFvjPq CUHUAZjlxmXa CANCjMcWkeWO CVINfnaHRWmO BNqBsougsGJS pUvMcLjLdFy BiFHTwBRUNXq qhkquUSArTa ZalUjKahVNy yHmoiCRWlCO hunfaasszxC PiqZDVfyczK BppAjQiBUoie CSdZRJXiQCna BPHbcrkYSLpC CSEomhfOBcAG IbnQzcuAbKv CNufoUkGBsuP ZuDEKfQPaRz CWsyAXLgdkWP BwRIecBrLFkH BYNMZXojWetj BAdcttFJKgZT BMLPGLatOPRD IYOvcXrcroX BaWMGLWbkImP wMyIPMLhySf BBGmjmGjUBuf CGDEFZJtmWif nSJnhEwbKpz BmQLEgWApyWP CRLAHhoeRMwH BRipVPZIikDr CIgYqeJrfsYn mXuRabfXTiv BfHTORDPesLL BWrlwwuVicUX BaodwroFMKvb CCsoPapnoBlT BoMTrytyjVRD BSXRmrGhhFSv CBGVDpXXMMcX KSIVJLuyNqv CvtbuDPixkn gpVftlonFEn BREcaoHBdtdT BzERAqZijzxj BbVRfUVAnIsX JjdlEKVqXcH BwOVPNktVTdz BGDIGPxIOWAn BzlKiDPSDgyf pZDYiPvNzTb pyrPVTdNHNT ewUctBdwZEH ijZtWAqMkCf CGuhCArKcGaf BoDJpyHmmuzL BxEzijFgsnhj dLtOgTesyWP BdwoysWRmioI BQjmsuPjCZeA JESCDSwhIJU gWXZvyBZAY CFsIGHbDGJco BgSTClQzxYuw LmgDDRRjWyA BIxnahNwjGTs BdWNTEpuKIoI BOPpEauVFTjc BetpEwQSfthk WDwLaRiJAaA PgknlAlNKRU BLluQVgRRobs ZXzktyYaPkI BIOJnfDBLoFE CWKeSvNtrtoY CNxmetKXAaWw QGdbnPOxhLc CEcJRfuhNxPs SdCyeGBuMqg CQWnknxhHUYI uYRDUlMKnuA BwSpRrjZByPc BFWqjTUXHkbM BiyBarkYhmiA BcpBbLehAnCQ qsXNFBbCcoI rQMyKgHJKHc BkhGvscMQkYo CAtosYiFbFIY BhRdaoHEVCIo CAFiKyZXDFbc GZnqDUwlIKg BmwhnLDiRUeQ RbzryCRenyQ BGiUqHYFmEIo BZvlqHdnxbiw BrPBYiLtnrpE mShMSskXmeQ BGhSoZzBvQlE BVhPGrztuxAY BDzKSjJRIaDt BWEmrroZVuB CUoFmNYSdlGB CNpJNVJwaTYZ euZGPHHFrNV CKCFkHmCMzft CIIMTybpPyeR BZOaOrJEOJax CQzvtTOOTfrd BqgBUvUUJpbd BxshVcTTVkpV BStwSbVdqwaB sUssxUXPVKR CRKOaDFNpwzN BevAOcBZrNax BUvEhlvDkIrt BuFwaLNahHUp CDIYyTXWMiGR SAomySsiRPt CHQjxQZRKGpV CNUxnwnkjOvd jPQyCfZasOR BAUVjPpXCVuh yTfPYOStWIp yaHIZzqcYdF WJiLUEXSdqR BIAtFXHhpfqx BRLPTWYRPITt BrUpPeZQEUTt HgWktpKIWTN UGcYfefKQSB BmPYaLEEffvt BLZeyrKBaGOx MnWJuyEjnUJ CAbwUBvEvnZF ueviTHkaSFl BOdntKXQxLeh BOYEFvGoWGWx lXYRbarqkll horXnXMXAgp BvnJLvbLUYwJ rXnlMhszvhF UYeXqIkvmNl CQbXmggIkWx VoBfUvQyll CVdyVmPIuFpF BcfqccUdtWYp CJNcMyBOLxGh CWORwogUkjnN BSYnmAIlQWZV BNgGZEfLKNcJ BxFoUYQyxigK BvNmztDFfIDO lAfclBMwQSi BCSCKAEpHYuS BiTKkYYAFsuy BKihHUTRfDZG CMGZdScUJyEa WOfvpaubhnO sLhzghVkCFG NsZrvEHWoPe SGzrTwIQZUK BWOHQqhEhniS CANtIvNWKMhW dmapjtsMByy CFkCZycEPSOy vCdIVYlaczu bmADjyGOISi BItfLBGICZGC IsKAfNfbgru BKJPkCbrnqVG BLCkNxurmSiC fXblvKqrwDO CFqiysGOKnYa fdcMbgjSUgq KewCNwQfiai BuzUdwsqmulG ezYKfarQxLe BfnHdMDpkvWC BeLIzrTXxSCi YkYNloEzWNm nKjhLKkIxQa hyStPoUmaDO COfzJULfQPuC BdtAazgSupxG CSWNimoTLGyi ranjQiyhSru BtIaKXIdjJze CILFUcDycwKi BgbbuweBlaAq BMpgTzfgpjFW BMuDKbspsUgq YgMmYRLEmWS BoQrnPIdXFPu BINYpvApLPWC BfYEynskovje dpTtmAfRIYK BeICdudAqHiy txZclqgWVoa QvmEPjHeRaS MYThmUKREmy BpoVEWNMpdSS kTUQoRyZxze XtgMBUCAbKS OjzrLVMYCKC LlttoTnVzFW BCAglQALnKSC orqNwbbcAOy BIXBzircVVxH bwzbkNNodCz KgInJVubvcL eXMuQAFOWiD BnYJVfuWVwgL CJUlHSTQYWQr ByhzHgaIWRMr HTvUrjWSRvP gDFDBzwWjpn kGZGzEKytIb BPwHrsKYaoyj jnhouUrVhQb SIiHaFTOrML BhiiOiVrVDUr CVMtHSIJuDOD BxMjAaZrOFkr BnlEtaUUEQNH BHHKGiLdYBOj BplkyNdxQfnv CPKKHiQsJcaj xoGUxcXTCpX hviusuRcSxX BgWBlqavNViz BPebneGFcQjP CJNkTFGdjkOT COjyMAGcwAmT lQwbhiWlrZn BpzvKEkFGmIr BVmKBfRNRhqT bBKEVOKXZWj BTndywGgBQFH BBXmPsoydogL CLVvEapDbmFH CStKQLbgLepX BXmKzTVatMKD SkXcxUJTxWj VTXozPXazDf CHhZyLvjYyIr GrEHUVXQZmj hcGKnPdFSGT BCBytrrGDsoL BgrlfwaXkIyD mqVSHSubWzP JlJHKIyeRRH ocvndPZLJDf BswdRPOFZvcr BzungvVnzIjP BDgMPiuiVOyj CFOmokUascbP ikwvpUthsjP VZzuhrIPMDP qZVbPtpxrUM BLlsNqnwZKSE BhTAStooqsjQ CDnEkqailMak fjOPSWQkfRo BlNzGegNmpfw BQrgIvSAmqE BTohDDxEyEPA BvSrHXIoCNTA CFwyqHMxILWE BxcaFBzUkrpI CDgBiRfgBjCU jfBAwlSZYXA PAtRbLsRdSU CObXCJAjDodo UXFuqKMkpGE CKdNWMYuIJoc SberYdfUdXw WhyTMdKekjw yPJkxMOUMGU xbwwIUmxFho XqRrkSPMKQM rIBWDqUWefg BAWErMlRgCCk BzBJTByyAMIs DlgzLBTSeAM REloBVpemzQ CyzmcKREUYs TyeeKPsENmk CQZHTQLQDQHA hehUWnJpRLg QmuvmYrNKFo BugvzMImRWLw kZzpqlQJwmU KXiGOQMWTcs TNyOFUdziws BXGeUWWdzemU BBjCPpXrZOjQ BkqlIXwEhkSk ylhGyYoHbQc GgweryrLjNY PaNZJGrADMM IdIPvOZvGdo zINTYQbwWIs BWtedagmZhjg CSaAdHNCRmVo JZtPgrCFivA BsSDcTYMVVrg CHHhprwUXwYM ZzHlWZcxWPA BQBHJHaTTwiE BnxHKkwiKkVJ zoZfhzeCkyl BNWlGlbNEpml tFyCtTfhHrB BaeACuHWgOEd xKuDATkpbzB TOGXpoPCVQd BsmMQbvRrvRJ BFmDtRuyWBMt BSGiMjqtFBDh FBcdWdJbMFJ vqkoGYOwACl bXgSaobsxOF CIlVjcNUUfJJ BgkLXAMVaIBZ BtBtYYHPBvHR BZLIioVKjiaF YVqiswqLgCF TpFtscZJGzR BMLCupqfAHZJ CHpNDzhsZFdZ BRkOoFltikLR tunXgZPNWfB BwdhNxfuEjsN CVbCRZCQgUzR UiDIVDOtVbB IBvsedjLwIN BvpMsYIuDxeF BLehnQULyzZp BPoDKkUthFyV VSBRSWaIPMt gVHiyYiBeDx CSfwNldaIyrR CDRNcoCBhTJJ hmPfiBQpjml tCsBouZeEAN BlBeGMZLvlUN MDqTiNdRVDB CRHeUCIvOisd BOaceJHfyMBZ BarKGMEVtxId QwDPASdzOTR BqqUWqurtHPx CDlOIdBGCxLB tVwPhknuVJJ BpPjoqqmyMEd BKsyBCFghvfx CObSuBAdmeNJ kvPnVdRVeTR LeAZgSGanHx COOShMNQZLqV BoscynSHqHh CUPAEkcljrYd CPKTltyjglxJ uqCwqODCPRp iUzyvcCPPUt BVVBuJSlpzCV clqqKJiwTDh uAlPzMRYaIN jOZeKgtlIce CRNySSAkDKAu CQGPVyNwkMce xspzkNmeBPy BzuxpbDWRvbi BzjjABbIkvTC bhdpUUgNFBK CAMptGXTnMNq rATbxYfNjUu emguGHjJniW CLeCSHVzZFJq CXSTPjaEXImW gvycdZuSJbC CUBCMonBZnXS tCLtqWHABQe BRyCvIsvACXi qDRWGdkNqYu hXLLvSpXPXS CCXECfYcIzAe QlNcBTNWBHy QRzCtbsxBEO TDxUHPhmpiW BgkgUeycGLri aKWyqDrkkoO BfzaHEnaZszS mlJDlZgyKVK CMpUBSHQceCG BxGYPKdAZmlq BXDapYITHeRa CBGkxVlrnqWW CBrbskTBBRKW CBtZxUXDshGG BmXBiCfzGkFK CKfsAPiNlZWG BIZHbmmaGmrS zvHHCytoSzS uFBOYVmchcu CUZkhyUdvfoe BgtGFUrxbVNa CXaMCKQohbXy CDLrNKYjeijy BtBMvVoLhJRK CQfQSPiQfsiG BtKVTUriPhsu CWgRcouxjfLC pPwzPwYMgGW BufjuZxwCmfi SLbOXpOGUbS ENvSeEVRiXi BWHMdJGPyPeG szoDUlgSha CPaubYJzElOm oSzFjRODXEu BpFylhnvPHJq VJrJcYhbtRq BRpaHrGlXTHz TXUxZYQCTXz BHLlKboTLDRr zgjocUQbJjj ReYKKdSGmsf bQYRCbKBqrT BABVLMfyWljj BRxiLPURkAuX CKAIMjwKegvj OwkgwUXdJrj CRNRXtGEeyuX eDWXScickvD YdNlcFKwblb cTNQKunKhMv uOXIYkgtbGH BJBMLKjSkLkP HimdNyaqDnT BXvMytvmcmSH YNCatgdWnun BTSlflhOTOUf BrxNnRCXtpFb BQQhwkhAADIf fEQJdXIvCvD BtHcOwSdkuan BlfGCybIgOuX BSNHblUPFZmn BAqnyHUhxbHz iufsWXFZDsv XuHJsVttklL CAKEZSOtJTTj BsSoUvAODVFb BfwPvspmAUf kSNeKLWKVBr VVHtFppYZvT CVFOLbdzMkfj ieVqERSStEP BnGDjqGSedNb gzHlULBcGsf ZfVUMBMqVKX CThDCAPQXFet LyqOXAtbBLN
end PySem.W.Fast
section
open PySem PySem.W PyProof.Rows
local macro_rules | `(tactic| o_head (kHook $k $a $e)) => `(tactic| o_head (HK.hook $k $a))
set_option maxHeartbeats 0 in
open_top hdTop for PySem.Challenge.rw_ribbonloft_k07_numbers_of_pegs_refused
end
section
local macro_rules
|`(def $d $s:optDeclSig $v:declVal)=>`(theorem $d $(Lean.TSyntax.mk (Lean.mkNode ``Lean.Parser.Command.declSig #[s.raw[0],s.raw[1][0]])):declSig $v:declVal)
|`(abbrev $d $s:optDeclSig $v:declVal)=>`(noncomputable def $d $s:optDeclSig $v:declVal)
namespace RL
open PySem
abbrev mkR(c:Str)(k:Nat):Str:=⟨c.cps.push (1114112+k)⟩
abbrev fM(x:Str):Option Nat:=match x.cps.back? with
 | some n=>if 1114112<=n then some (n-1114112)else none
 | none=>none
abbrev baseOf(x:Str):Str:=if(fM x).isSome then⟨x.cps.pop⟩else x
def yj(h:fM x=none):baseOf x=x:=by
 unfold baseOf;rw[h];rfl
open PySem (Str)
@[reducible]noncomputable def Ky:=Sum Int Str
set_option genInjectivity true in
inductive D where
 | non
 | bl (b:Bool)
 | int (i:Int)
 | str (x:Str)
 | tup (xs:List D)
 | lst (xs:List D)
 | dK (ks:List Ky) (vs:List D)
 | dT (ks:List (List Ky)) (vs:List D)
 | scr (xs:List D)
 | exc (c:Str)
 | fT (ks:List (List Ky)) (vs:List D)
 | fL (xs:List D)
 | obj
 deriving Inhabited
mutual
noncomputable def D.imm:D->Bool
 | .tup xs=>ar xs
 | .lst _=>false
 | .dK _ _=>false
 | .dT _ _=>false
 | .scr xs=>ar xs
 | .fT _ vs=>ar vs
 | .fL xs=>ar xs
 | _=>true
noncomputable def ar:List D->Bool
 | []=>true
 | d::r=>d.imm&&ar r
end
inductive Bop where | add | sub | mul | fdiv | mod | pow
 deriving DecidableEq
inductive Cop where | lt | le | gt | ge | eq | ne
 deriving DecidableEq
inductive Bi where | len | list | tuple | int | all | any | lenSet | sorted | sortedSet | abs | sum | sortedS
 deriving DecidableEq
inductive Ty where | int | bool | list | tuple | str
 deriving DecidableEq
mutual
inductive E where
 | var (i:Nat)
 | cst (d:D)
 | glb (x:Str) (i:Int)
 | bin (o:Bop) (a b:E)
 | cmp (c:Cop) (a b:E)
 | chain (c c':Cop) (a b e:E)
 | inn (neg:Bool) (a b:E)
 | and (a b:E)
 | or (a b:E)
 | not (a:E)
 | ifx (t a b:E)
 | tup (es:Es)
 | lst (es:Es)
 | ix (a b:E)
 | slT (a b:E)
 | call (f:Nat) (es:Es)
 | bi (b:Bi) (a:E)
 | isi (a:E) (t:Ty)
 | rng1 (a:E)
 | rng2 (a b:E)
 | rng3 (c:Int) (a b:E)
 | neg (a:E)
 | comp (e:E) (tg:List Nat) (it:It) (c:E)
 | compA (e:E) (tg:List Nat) (it:It)
 | join (a:E)
 | isx (a:E) (c:Str)
 | mkO (c:Str) (f:Nat) (a:E)
 | frz (a:E)
inductive Es where
 | nil
 | cons (e:E) (es:Es)
inductive It where
 | seq (e:E)
 | rng1 (a:E)
 | rng2 (a b:E)
 | rng3 (c:Int) (a b:E)
 | chr (e:E)
 | enm (e:E)
 | zip (a b:E)
end
mutual
inductive S where
 | asg (i:Nat) (e:E)
 | own (i:Nat) (e:E)
 | unp (is:List Nat) (e:E)
 | app (i:Nat) (e:E)
 | put (i:Nat) (k e:E)
 | aug (i:Nat) (o:Bop) (e:E)
 | augs (i:Nat) (e:E)
 | ife (t:E) (a b:Ss)
 | ifp (i:Nat) (e:E) (a b:Ss)
 | forr (tg:List Nat) (it:It) (b:Ss)
 | tie3 (f r p w:Nat)
 | ret (e:E)
 | exc (e:E)
 | never
 | rais (c:Str) (ps:Es)
 | tryc (b:Ss) (c:Str) (i:Nat) (h:Ss)
 | ifr (c:Cop) (x y:E) (a b:Ss)
inductive Ss where
 | nil
 | cons (s:S) (r:Ss)
 | act (i:Nat) (g:Str) (tbl:List (Str × Nat)) (a:E) (es:Es)
 | opn (j:Nat) (e:E) (r:Sq)
inductive Sq where
 | cls (r:Ss)
 | cons (s:S) (r:Sq)
 | opn (j:Nat) (e:E) (r:Sq)
 | frz (j:Nat) (r:Ss)
 | fz (j:Nat) (r:Sq)
end
@[reducible]noncomputable def St:=List (Option D)
@[reducible]noncomputable def Cl:=Nat->List D->Option D
abbrev most:Nat:=100000
abbrev cz{α:Type}(xs:List α)(i:Int):Option α :=
 if 0<=i then xs[i.toNat]? else if -(xs.length:Int)<=i then xs[(i+xs.length).toNat]? else none
abbrev uJ(n:Nat)(i:Int):Option Nat :=
 if 0<=i then(if i<n then some i.toNat else none)else if -(n:Int)<=i then some (i+n).toNat else none
abbrev cutAt(n:Nat)(i:Int):Nat:=if 0<=i then min i.toNat n else(i+n).toNat
abbrev bg:Bop->D->D->Option D
 | .add,.int a,.int b=>some (.int (a+b))
 | .add,.str a,.str b=>if a.length+b.length<=most then some (.str (a++b))else none
 | .add,.lst a,.lst b=>if a.length+b.length<=most then some (.lst (a++b))else none
 | .add,.tup a,.tup b=>if a.length+b.length<=most/\0<a.length then some (.tup (a++b))else none
 | .sub,.int a,.int b=>some (.int (a-b))
 | .mul,.int a,.int b=>if(-(2 ^ 64)<a/\a<2 ^ 64)\/(-(2 ^ 64)<b/\b<2 ^ 64)then some (.int (a*b))else none
 | .mul,.lst a,.int b=>if 0<=b/\b<=most/\a.length*b.toNat<=most then some (.lst (List.replicate b.toNat a).flatten)else none
 | .fdiv,.int a,.int b=>if 0<b/\b<2 ^ 200 then some (.int (a / b))else none
 | .mod,.int a,.int b=>if 0<b then some (.int (a%b))else none
 | .pow,.int a,.int b=>if 0<=b/\b<=1000/\a.natAbs<2 ^ 64 then some (.int (a ^ b.toNat))else none
 | _,_,_=>none
abbrev eqs(f:D->D->Option Bool):List D->List D->Option Bool
 | a::r,b::s=>(f a b).bind fun e=>(eqs f r s).map fun k=>e&&k
 | _,_=>some true
abbrev eqD:Nat->D->D->Option Bool
 | _,.int a,.int b=>some (a == b)
 | _,.str a,.str b=>some (a == b)
 | _,.bl a,.bl b=>some (a == b)
 | n+1,.tup a,.tup b=>(eqs (eqD n) a b).map fun k=>k&&a.length == b.length
 | n+1,.lst a,.lst b=>(eqs (eqD n) a b).map fun k=>k&&a.length == b.length
 | n+1,.fL a,.fL b=>(eqs (eqD n) a b).map fun k=>k&&a.length == b.length
 | n+1,.lst a,.fL b=>(eqs (eqD n) a b).map fun k=>k&&a.length == b.length
 | n+1,.fL a,.lst b=>(eqs (eqD n) a b).map fun k=>k&&a.length == b.length
 | _,_,_=>none
abbrev bN:Cop->D->D->Option Bool
 | .lt,.int a,.int b=>some (decide (a<b))
 | .le,.int a,.int b=>some (decide (a<=b))
 | .gt,.int a,.int b=>some (decide (b<a))
 | .ge,.int a,.int b=>some (decide (b<=a))
 | .eq,a,b=>eqD 8 a b
 | .ne,a,b=>(eqD 8 a b).map not
 | _,_,_=>none
abbrev truth:D->Option Bool
 | .bl b=>some b
 | .lst xs=>some (!xs.isEmpty)
 | .tup xs=>some (!xs.isEmpty)
 | .int i=>some (i != 0)
 | _=>none
abbrev gr:List D->Option (List Int)
 | []=>some []
 | .int i::r=>(gr r).map (i :: ·)
 | _=>none
abbrev fW:List D->Option (List Bool)
 | []=>some []
 | .bl i::r=>(fW r).map (i :: ·)
 | _=>none
abbrev strs?:List D->Option (List Str)
 | []=>some []
 | .str i::r=>(strs? r).map (i :: ·)
 | _=>none
abbrev o9(a:Int):List Int->List Int
 | []=>[a]
 | b::r=>if a<=b then a::b::r else b::o9 a r
abbrev sortI:List Int->List Int
 | []=>[]
 | a::r=>o9 a (sortI r)
abbrev jI(xs:List Int):List Int:=xs.foldl (fun m k=>if m.any (· == k)then m else m++[k]) []
abbrev items:D->Option (List D)
 | .lst xs=>some xs
 | .tup xs=>some xs
 | .fL xs=>some xs
 | _=>none
abbrev j5:D->Option (List D)
 | .fL xs=>some xs
 | .lst xs=>some xs
 | .tup xs=>some xs
 | _=>none
@[simp] theorem itemsS_lst:j5 (.lst xs)=some xs:=rfl
@[simp] theorem itemsS_tup:j5 (.tup xs)=some xs:=rfl
abbrev j4:D->Option (List D)
 | .lst xs=>some xs
 | .tup xs=>some xs
 | .str x=>some (x.cps.toList.map fun c=>.str ⟨#[c]⟩)
 | _=>none
abbrev Al:List Str->Bool
 | a::b::r=>!decide (b.cps.toList<a.cps.toList)&&Al (b::r)
 | _=>true
abbrev biV:Bi->D->Option D
 | .len,.str x=>if x.length<=most then some (.int x.length)else none
 | .len,.dK ks _=>some (.int ks.length)
 | .len,.dT ks _=>some (.int ks.length)
 | .len,.fT ks _=>some (.int ks.length)
 | .len,d=>(items d).map fun xs=>.int xs.length
 | .list,d=>(items d).map .lst
 | .tuple,d=>(items d).map .tup
 | .int,.bl b=>some (.int (if b then 1 else 0))
 | .int,.int i=>some (.int i)
 | .int,_=>none
 | .all,.lst xs=>(fW xs).map fun bs=>.bl (bs.all id)
 | .any,.lst xs=>(fW xs).map fun bs=>.bl (bs.any id)
 | .all,_=>none
 | .any,_=>none
 | .lenSet,.lst xs=>if xs.length<=1000 then(gr xs).map fun is=>.int (jI is).length else none
 | .lenSet,_=>none
 | .sorted,.lst xs=>if xs.length<64 then(gr xs).map fun is=>.lst ((sortI is).map .int)else none
 | .sorted,_=>none
 | .sortedSet,.lst xs=>if xs.length<=5 then(gr xs).map fun is=>.lst ((sortI (jI is)).map .int)else(gr xs).bind fun is=>if(jI is).length<=4 then some (.lst ((sortI (jI is)).map .int))else none
 | .sortedSet,_=>none
 | .abs,.int i=>some (.int (if i<0 then -i else i))
 | .abs,_=>none
 | .sortedS,.lst xs=>(strs? xs).bind fun ss=>if Al ss then some (.lst xs)else none
 | .sortedS,_=>none
 | .sum,.lst xs=>(gr xs).map fun is=>.int is.sum
 | .sum,_=>none
abbrev zo:Ty->D->Option Bool
 | .int,.int _=>some true
 | .int,.bl _=>some true
 | .bool,.bl _=>some true
 | .list,.lst _=>some true
 | .list,.fL _=>some true
 | .tuple,.tup _=>some true
 | .str,.str _=>some true
 | _,.non=>some false
 | _,.bl _=>some false
 | _,.int _=>some false
 | _,.str _=>some false
 | _,.tup _=>some false
 | _,.lst _=>some false
 | _,.fL _=>some false
 | _,_=>none
abbrev keyOf:D->Option Ky
 | .int i=>some (.inl i)
 | .str x=>some (.inr x)
 | _=>none
abbrev keysOf:List D->Option (List Ky)
 | []=>some []
 | d::r=>(keyOf d).bind fun k=>(keysOf r).map (k :: ·)
abbrev fJ{κ:Type} [DecidableEq κ]:List κ->List D->κ->Option D
 | k::ks,v::vs,x=>if k=x then some v else fJ ks vs x
 | _,_,_=>none
abbrev putD{κ:Type} [DecidableEq κ](ks:List κ)(vs:List D)(x:κ)(d:D):List κ × List D :=
 if x∈ks then(ks,List.zipWith (fun k v=>if k=x then d else v) ks vs)else(ks++[x],vs++[d])
abbrev ixV:D->D->Option D
 | .lst xs,.int i=>cz xs i
 | .tup xs,.int i=>cz xs i
 | .str x,.int i=>if x.length<=most then(cz x.cps.toList i).map fun c=>.str ⟨#[c]⟩else none
 | .fL xs,.int i=>if ar xs then cz xs i else none
 | _,_=>none
abbrev Ef:D->D->Option D
 | .dK ks vs,k=>(keyOf k).bind (fJ ks vs)
 | .dT ks vs,.tup k=>(keysOf k).bind (fJ ks vs)
 | .fT ks vs,.tup k=>(keysOf k).bind (fJ ks vs)
 | _,_=>none
abbrev Ec:D->D->D->Option D
 | .dK ks vs,k,z=>(keyOf k).map fun q=>(fJ ks vs q).getD z
 | .dT ks vs,.tup k,z=>(keysOf k).map fun q=>(fJ ks vs q).getD z
 | _,_,_=>none
abbrev Ed:D->D->Option Bool
 | .dK ks vs,k=>(keyOf k).map fun k=>(fJ ks vs k).isSome
 | .dT ks vs,.tup k=>(keysOf k).map fun k=>(fJ ks vs k).isSome
 | .fT ks _,.tup k=>(keysOf k).map fun k=>ks.any fun x=>decide (x=k)
 | _,_=>none
abbrev flat:D->Bool
 | .int _=>true
 | .str _=>true
 | _=>false
abbrev eqF:D->D->Bool
 | .int a,.int b=>a == b
 | .str a,.str b=>a == b
 | _,_=>false
abbrev inV(a b:D):Option Bool :=
 (items b).bind fun xs=>if flat a&&xs.all flat then some (xs.any fun x=>eqF x a)else none
abbrev mM:D->D->Option D
 | .fL xs,.int k=>some (.lst (xs.take (cutAt xs.length k)))
 | .scr xs,.int k=>some (.lst (xs.take (cutAt xs.length k)))
 | .lst xs,.int k=>some (.lst (xs.take (cutAt xs.length k)))
 | .tup xs,.int k=>if cutAt xs.length k<xs.length then some (.tup (xs.take (cutAt xs.length k)))else none
 | _,_=>none
abbrev bw(lo:Int):Nat->List D
 | 0=>[]
 | n+1=>.int lo::bw (lo+1) n
abbrev bQ(c lo:Int):Nat->List D
 | 0=>[]
 | n+1=>.int lo::bQ c (lo+c) n
abbrev bM(c a b:Int):Nat:=(if c > 0 then(if a<b then(b-a-1) / c+1 else 0)else(if a > b then(a-b-1) / (-c)+1 else 0)).toNat
abbrev dX:D->D->Option (List D)
 | .int a,.int b=>if(b-a).toNat<=most/\-(2 ^ 60)<=a/\a<2 ^ 60/\-(2 ^ 60)<=b/\b<2 ^ 60 then some (bw a (b-a).toNat)else none
 | _,_=>none
abbrev lE(c:Int):D->D->Option (List D)
 | .int a,.int b=>if c≠0/\-(2 ^ 60)<c/\c<2 ^ 60/\bM c a b<=most/\-(2 ^ 60)<=a/\a<2 ^ 60/\-(2 ^ 60)<=b/\b<2 ^ 60 then some (bQ c a (bM c a b))else none
 | _,_=>none
abbrev eV(i:Int):List D->List D
 | []=>[]
 | d::r=>.tup [.int i,d]::eV (i+1) r
abbrev fS:List D->List D->List D
 | a::r,b::s=>.tup [a,b]::fS r s
 | _,_=>[]
abbrev bR:List Nat->List D->St->Option St
 | [],[],σ=>some σ
 | i::is,d::ds,σ=>bR is ds (σ.set i (some d))
 | _,_,_=>none
abbrev bY(tg:List Nat)(d:D)(σ:St):Option St :=
 match tg with
 | [i]=>some (σ.set i (some d))
 | tg=>match d with
  | .tup ds=>bR tg ds σ
  | .lst ds=>bR tg ds σ
  | _=>none
abbrev pZ(y:Option D)(ys:List D):Option (List D) :=
 match y with
 | some e=>if e.imm then some (e::ys)else none
 | none=>some ys
abbrev dU(f:St->Option (Option D))(tg:List Nat)(σ:St):List D->Option (List D)
 | []=>some []
 | d::r=>(bY tg d σ).bind fun σ1=>(f σ1).bind fun y=>(dU f tg σ r).bind (pZ y)
abbrev bF:D->Bool
 | .lst xs=>ar xs
 | .dK _ vs=>ar vs
 | .dT _ vs=>ar vs
 | _=>false
abbrev Dx(f:St->Option D)(fr:Bool)(tg:List Nat)(σ:St):List D->Option (List D)
 | []=>some []
 | d::r=>(bY tg d σ).bind fun σ1=>(f σ1).bind fun y=>if bF y&&fr then(Dx f fr tg σ r).map (y :: ·)else none
abbrev fits(xs:List D):Option (List D):=if xs.length<=most then some xs else none
abbrev aI:E->Bool
 | .lst _=>true
 | .tup _=>true
 | .comp _ _ _ _=>true
 | .compA _ _ _=>true
 | .bin _ _ _=>true
 | .slT _ _=>true
 | .call _ _=>true
 | .bi _ _=>true
 | .rng1 _=>true
 | .rng2 _ _=>true
 | .rng3 _ _ _=>true
 | _=>false
abbrev c8(n c:Str):Bool:=n == c || c == "RibbonError" || c == "ValueError"
abbrev fE(n c:Str):Bool:=c8 (baseOf n) c
abbrev qz(y:Option D):D->Option D
 | .bl true=>y
 | .bl false=>some (.bl false)
 | _=>none
abbrev orV(y:Option D):D->Option D
 | .bl false=>y
 | .bl true=>some (.bl true)
 | _=>none
abbrev vS:D->Option D
 | .int i=>some (.int (-i))
 | _=>none
abbrev DX:D->D->Option D
 | .str x,.str y=>match y.cps.toList with
  | [c]=>some (.int (x.cps.toList.count c:Nat))
  | _=>none
 | _,_=>none
abbrev Ej:D->D->Option D
 | .str x,.int k=>if 0<=k/\x.length<=most then some (.str ⟨(x.cps.toList.take k.toNat).toArray⟩)else none
 | _,_=>none
abbrev Er:D->D->Option D
 | .str x,.int k=>if 0<=k/\x.length<=most then some (.str ⟨(x.cps.toList.drop k.toNat).toArray⟩)else none
 | _,_=>none
abbrev Eb:D->D->D->D->Option D
 | .str x,y,.str z,w=>if x≠z/\y.imm=true/\w.imm=true then some (.dK [.inr x,.inr z] [y,w])else none
 | _,_,_,_=>none
abbrev DZ:D->D->Option D
 | .str x,.int n=>if 1<n/\n<=1000/\0<x.length/\x.length<=100 then some (.str ⟨(List.replicate n.toNat x.cps.toList).flatten.toArray⟩)else none
 | _,_=>none
abbrev Cg:D->Option D
 | .lst xs=>(strs? xs).bind fun ss=>if ss.length<=most/\ss.all (fun s=>s.length<=100)then some (.str ⟨(ss.flatMap fun s=>s.cps.toList).toArray⟩)else none
 | _=>none
abbrev DT(c:Str):D->Option D
 | .exc n=>some (.bl (fE n c))
 | _=>none
abbrev Em:D->Option D
 | .exc n=>(fM n).bind fun k=>some (.int (Int.ofNat k))
 | _=>none
abbrev kyD:Ky->D
 | .inl i=>.int i
 | .inr x=>.str x
abbrev Ek:D->Option (List D)
 | .fT ks _=>some (ks.map fun k=>.tup (k.map kyD))
 | _=>none
abbrev DP:D->Option D
 | .lst xs=>if ar xs then some (.fL xs)else none
 | _=>none
abbrev Ep:D->D->Option D
 | .fL a,.lst b=>if a.length+b.length<=most then some (.lst (a++b))else none
 | .lst a,.fL b=>if a.length+b.length<=most then some (.lst (a++b))else none
 | _,_=>none
abbrev Ee:D->D->Option D
 | .tup k,v=>(keysOf k).bind fun q=>if v.imm then some (.dT [q] [v])else none
 | _,_=>none
abbrev wC:List D->Option (List (List Int))
 | []=>some []
 | .fL ds::r=>(gr ds).bind fun is=>(wC r).map (is :: ·)
 | _=>none
abbrev ltL:List Int->List Int->Bool
 | [],[]=>false
 | [],_::_=>true
 | _::_,[]=>false
 | a::r,b::s=>if a=b then ltL r s else decide (a<b)
abbrev Am:List Int->List (List Int)->List Int
 | b,[]=>b
 | b,x::r=>Am (if ltL x b then x else b) r
abbrev DY:D->Option D
 | .lst xs=>(wC xs).bind fun rs=>match rs with
  | []=>none
  | x::r=>some (.fL ((Am x r).map .int))
 | _=>none
abbrev En(ks:List Str):D->Option D
 | .str w=>some (.bl (ks.any fun k=>decide (k=w)))
 | _=>none
abbrev mi(tbl:List (Str × Nat)):D->Option Nat
 | .str w=>(tbl.find? fun q=>decide (q.1=w)).map (·.2)
 | _=>none
abbrev Ea:D->Option (D × D)
 | .tup (d::r)=>if d.imm&&ar r then some (d,.fL r)else none
 | _=>none
abbrev A7:D->Option D
 | .dT ks vs=>some (.fT ks vs)
 | _=>none
abbrev Dz:D->Option (List D)
 | .str x=>j4 (.str x)
 | _=>none
@[simp] theorem sv_andt {y:Option D}:qz y (.bl true)=y:=rfl
@[simp] theorem sv_andf {y:Option D}:qz y (.bl false)=some (.bl false):=rfl
@[simp] theorem sv_ort {y:Option D}:orV y (.bl true)=some (.bl true):=rfl
@[simp] theorem sv_orf {y:Option D}:orV y (.bl false)=y:=rfl
@[simp] theorem sv_neg {i:Int}:vS (.int i)=some (.int (-i)):=rfl
mutual
noncomputable def ev(cl:Cl)(σ:St):E->Option D
 | .var i=>(σ[i]?).bind id
 | .cst d=>some d
 | .glb _ i=>some (.int i)
 | .bin o a b=>(ev cl σ a).bind fun x=>(ev cl σ b).bind fun y=>bg o x y
 | .cmp c a b=>(ev cl σ a).bind fun x=>(ev cl σ b).bind fun y=>(bN c x y).map .bl
 | .chain c c' a b e=>(ev cl σ a).bind fun x=>(ev cl σ b).bind fun y=>(bN c x y).bind fun k=>if k then(ev cl σ e).bind fun z=>(bN c' y z).map .bl else some (.bl false)
 | .inn neg a b=>(ev cl σ a).bind fun x=>(ev cl σ b).bind fun y=>(inV x y).map fun k=>.bl (if neg then !k else k)
 | .and a b=>(ev cl σ a).bind (qz (ev cl σ b))
 | .or a b=>(ev cl σ a).bind (orV (ev cl σ b))
 | .not a=>((ev cl σ a).bind truth).map fun k=>.bl (!k)
 | .ifx t a b=>((ev cl σ t).bind truth).bind fun k=>if k then ev cl σ a else ev cl σ b
 | .tup es=>(evs cl σ es).map .tup
 | .lst es=>(evs cl σ es).map .lst
 | .ix a b=>(ev cl σ a).bind fun x=>(ev cl σ b).bind fun y=>ixV x y
 | .slT a b=>(ev cl σ a).bind fun x=>(ev cl σ b).bind fun y=>mM x y
 | .call f es=>(evs cl σ es).bind fun ds=>cl f ds
 | .bi b a=>(ev cl σ a).bind fun x=>biV b x
 | .isi a t=>(ev cl σ a).bind fun x=>(zo t x).map .bl
 | .rng1 a=>(ev cl σ a).bind fun x=>(dX (.int 0) x).map .lst
 | .rng2 a b=>(ev cl σ a).bind fun x=>(ev cl σ b).bind fun y=>(dX x y).map .lst
 | .rng3 c a b=>(ev cl σ a).bind fun x=>(ev cl σ b).bind fun y=>(lE c x y).map .lst
 | .neg a=>(ev cl σ a).bind vS
 | .comp e tg it c=>(dS cl σ it).bind fun ds=>(fits ds).bind fun ds=>(dU (fun σ1=>((ev cl σ1 c).bind truth).bind fun k=>if k then(ev cl σ1 e).map some else some none) tg σ ds).map .lst
 | .compA e tg it=>(dS cl σ it).bind fun ds=>(fits ds).bind fun ds=>(dU (fun σ1=>(ev cl σ1 e).map some) tg σ ds).map .lst
 | .join a=>(ev cl σ a).bind Cg
 | .isx a c=>(ev cl σ a).bind (DT c)
 | .mkO _ f a=>(ev cl σ a).bind fun x=>(cl f [x]).bind fun _=>some .obj
 | .frz a=>(ev cl σ a).bind fun x=>if aI a then DP x else none
noncomputable def evs(cl:Cl)(σ:St):Es->Option (List D)
 | .nil=>some []
 | .cons e es=>(ev cl σ e).bind fun d=>(evs cl σ es).map (d :: ·)
noncomputable def dS(cl:Cl)(σ:St):It->Option (List D)
 | .seq e=>(ev cl σ e).bind j5
 | .rng1 a=>(ev cl σ a).bind fun x=>dX (.int 0) x
 | .rng2 a b=>(ev cl σ a).bind fun x=>(ev cl σ b).bind fun y=>dX x y
 | .rng3 c a b=>(ev cl σ a).bind fun x=>(ev cl σ b).bind fun y=>lE c x y
 | .chr e=>(ev cl σ e).bind Dz
 | .enm e=>(ev cl σ e).bind fun x=>(j4 x).map (eV 0)
 | .zip a b=>(ev cl σ a).bind fun x=>(ev cl σ b).bind fun y=>(items x).bind fun xs=>(items y).bind fun ys=>if xs.length=ys.length then some (fS xs ys)else none
end
abbrev clX(cl:Cl)(f:Nat)(ds:List D):Option Str:=(cl (f+1000) ds).bind fun d=>match d with
 | .str x=>some x
 | _=>none
mutual
noncomputable def evX(cl:Cl)(σ:St):E->Option Str
 | .call f es=>match evs cl σ es with
  | some ds=>clX cl f ds
  | none=>gW cl σ es
 | .ix a _=>evX cl σ a
 | .mkO _ f a=>(ev cl σ a).bind fun x=>clX cl f [x]
 | _=>none
noncomputable def gW(cl:Cl)(σ:St):Es->Option Str
 | .nil=>none
 | .cons e es=>match ev cl σ e with
  | some _=>gW cl σ es
  | none=>evX cl σ e
end
abbrev written:D->Bool
 | .int i=>decide (i.natAbs<2 ^ 1900)
 | _=>false
abbrev Eh(c:Str):D->Option Str
 | .int i=>if 0<=i/\written (.int i)then some (mkR c i.toNat)else none
 | _=>none
inductive Out where
 | nx
 | rt (d:D)
abbrev avE(M:List Nat):E->Bool
 | .var j=>!M.contains j
 | .ix a _=>avE M a
 | .call _ _=>true
 | .ifx _ a b=>avE M a&&avE M b
 | _=>false
abbrev mw(M:List Nat):It->Bool
 | .seq e=>avE M e || aI e
 | .enm e=>avE M e || aI e
 | .zip a b=>(avE M a || aI a)&&(avE M b || aI b)
 | _=>true
abbrev ed(M:List Nat)(e:E)(d:D):Bool :=
 d.imm || (bF d&&(aI e || match e with | .var i=>M.contains i | _=>false))
abbrev eU(M:List Nat)(e:E)(d:D):Bool:=d.imm || (bF d&&aI e) || avE M e
abbrev isVar:E->Bool
 | .var _=>true
 | _=>false
abbrev Ae(M ps:List Nat):Nat->Es->List D->Bool
 | _,.nil,[]=>true
 | q,.cons e es,d::ds=>(if ps.contains q then isVar e else eU M e d)&&Ae M ps (q+1) es ds
 | _,_,_=>false
abbrev ub:D->D->D->Option D
 | .lst xs,.int k,d=>(uJ xs.length k).map fun j=>.lst (xs.set j d)
 | .dK ks vs,k,d=>(keyOf k).bind fun k=>if ks.length<most then some (.dK (putD ks vs k d).1 (putD ks vs k d).2)else none
 | .dT ks vs,.tup k,d=>(keysOf k).bind fun k=>if ks.length<most then some (.dT (putD ks vs k d).1 (putD ks vs k d).2)else none
 | _,_,_=>none
abbrev bL(f:St->Option (Out × St))(tg:List Nat):List D->St->Option (Out × St)
 | [],σ=>some (.nx,σ)
 | d::r,σ=>if d.imm then(bY tg d σ).bind fun σ1=>(f σ1).bind fun p=>match p.1 with
   | .nx=>bL f tg r p.2
   | .rt d=>some (.rt d,p.2)
  else none
abbrev whF(t:St->Option Bool)(f:St->Option (Out × St)):Nat->St->Option (Out × St)
 | 0,_=>none
 | n+1,σ=>(t σ).bind fun k=>if k then(f σ).bind fun p=>match p.1 with
   | .nx=>whF t f n p.2
   | .rt d=>some (.rt d,p.2)
  else some (.nx,σ)
abbrev fC(f:St->Option (Out × St))(fx:St->Option (Str × St))(tg:List Nat):List D->St->Option (Str × St)
 | [],_=>none
 | d::r,σ=>if d.imm then(bY tg d σ).bind fun σ1=>match f σ1 with
   | some p=>match p.1 with
    | .nx=>fC f fx tg r p.2
    | .rt _=>none
   | none=>fx σ1
  else none
abbrev Dk:D->Option (D × D)
 | .lst xs=>(xs[xs.length-1]?).map fun d=>(d,.lst xs.dropLast)
 | _=>none
abbrev Ei:D->Option D
 | .lst xs=>some (.lst xs.reverse)
 | _=>none
abbrev Cr(σ:St)(r w:Nat)(l:D):D->Option (Out × St)
 | .tup [_,R]=>some (.nx,(σ.set w (some l)).set r (some R))
 | _=>none
abbrev CZ:D->D->Option D
 | .str a,.str b=>if a.length+b.length<=most then some (.str (a++b))else none
 | _,_=>none
mutual
noncomputable def evS(cl:Cl)(M:List Nat):S->St->Option (Out × St)
 | .asg i e,σ=>(ev cl σ e).bind fun d=>if eU M e d then some (.nx,σ.set i (some d))else none
 | .own i e,σ=>(ev cl σ e).bind fun d=>if bF d&&aI e then some (.nx,σ.set i (some d))else none
 | .unp is e,σ=>(ev cl σ e).bind fun d=>(items d).bind fun ds=>if ar ds then(bR is ds σ).map fun σ1=>(.nx,σ1)else none
 | .app i e,σ=>(ev cl σ e).bind fun d=>((σ[i]?).bind id).bind fun l=>match l with
  | .lst xs=>if d.imm&&decide (xs.length<most)then some (.nx,σ.set i (some (.lst (xs++[d]))))else none
  | _=>none
 | .put i k e,σ=>(ev cl σ e).bind fun d=>(ev cl σ k).bind fun kk=>((σ[i]?).bind id).bind fun l=>if d.imm then(ub l kk d).map fun l'=>(.nx,σ.set i (some l'))else none
 | .aug i o e,σ=>((σ[i]?).bind id).bind fun x=>(ev cl σ e).bind fun y=>match x,y with
  | .int a,.int b=>(bg o (.int a) (.int b)).map fun z=>(.nx,σ.set i (some z))
  | _,_=>none
 | .augs i e,σ=>((σ[i]?).bind id).bind fun x=>(ev cl σ e).bind fun y=>(CZ x y).map fun z=>(.nx,σ.set i (some z))
 | .ife t a b,σ=>((ev cl σ t).bind truth).bind fun k=>if k then aB cl M a σ else aB cl M b σ
 | .ifp i e a b,σ=>((σ[i]?).bind id).bind fun l=>match l with
  | .lst xs=>(xs[xs.length-1]?).bind fun d=>(ev cl (σ.set i (some (.lst xs.dropLast))) e).bind fun y=>match d,y with
   | .int p,.int q=>if decide (p=q)then aB cl M b (σ.set i (some (.lst xs.dropLast)))else aB cl M a (σ.set i (some (.lst xs.dropLast)))
   | _,_=>none
  | _=>none
 | .forr tg it b,σ=>(dS cl σ it).bind fun ds=>bL (aB cl M b) tg ds σ
 | .tie3 f r p w,σ=>((σ[r]?).bind id).bind fun R=>((σ[p]?).bind id).bind fun x=>((σ[w]?).bind id).bind fun l=>(Dk l).bind fun q=>if x.imm then(cl f [R,x,q.1]).bind (Cr σ r w q.2)else none
 | .ret e,σ=>(ev cl σ e).bind fun d=>if ed M e d then some (.rt d,σ)else none
 | .exc e,σ=>(ev cl σ e).map fun _=>(.nx,σ)
 | .never,_=>none
 | .rais _ _,_=>none
 | .tryc b c i h,σ=>match aB cl M b σ with
  | some p=>some p
  | none=>(bj cl M b σ).bind fun q=>if fE q.1 c then(aB cl M h (q.2.set i (some (.exc q.1)))).map fun r=>(r.1,r.2.set i none)else none
 | .ifr c x y a b,σ=>((ev cl σ (.cmp c x y)).bind truth).bind fun k=>if k then aB cl M a σ else aB cl M b σ
noncomputable def aB(cl:Cl)(M:List Nat):Ss->St->Option (Out × St)
 | .nil,σ=>some (.nx,σ)
 | .cons s r,σ=>(evS cl M s σ).bind fun p=>match p.1 with
  | .nx=>aB cl M r p.2
  | .rt d=>some (.rt d,p.2)
 | .opn j e r,σ=>(ev cl σ e).bind fun d=>if bF d&&aI e then qq cl M (j::M) r (σ.set j (some d))else none
 | .act i _ tbl a es,σ=>((ev cl σ a).bind (mi tbl)).bind fun f=>(evs cl (σ.set i none) es).bind fun ds=>(cl f ds).bind fun d=>if d.imm then some (.rt d,σ)else none
noncomputable def qq(cl:Cl)(M:List Nat):List Nat->Sq->St->Option (Out × St)
 | _,.cls r,σ=>aB cl M r σ
 | M1,.cons s r,σ=>(evS cl M1 s σ).bind fun p=>match p.1 with
  | .nx=>qq cl M M1 r p.2
  | .rt _=>none
 | M1,.opn j e r,σ=>(ev cl σ e).bind fun d=>if bF d&&aI e then qq cl M (j::M1) r (σ.set j (some d))else none
 | _,.frz j r,σ=>(((σ[j]?).bind id).bind A7).bind fun d=>aB cl M r (σ.set j (some d))
 | M1,.fz j r,σ=>(((σ[j]?).bind id).bind A7).bind fun d=>qq cl M M1.tail r (σ.set j (some d))
noncomputable def ip(cl:Cl)(M:List Nat):S->St->Option (Str × St)
 | .asg _ e,σ=>(evX cl σ e).map fun x=>(x,σ)
 | .own _ e,σ=>(evX cl σ e).map fun x=>(x,σ)
 | .unp _ e,σ=>(evX cl σ e).map fun x=>(x,σ)
 | .exc e,σ=>(evX cl σ e).map fun x=>(x,σ)
 | .ret e,σ=>(evX cl σ e).map fun x=>(x,σ)
 | .ife t a b,σ=>((ev cl σ t).bind truth).bind fun k=>if k then bj cl M a σ else bj cl M b σ
 | .forr tg it b,σ=>(dS cl σ it).bind fun ds=>fC (aB cl M b) (bj cl M b) tg ds σ
 | .rais c ps,σ=>(evs cl σ ps).bind fun ds=>if ds.all written then some (c,σ)else none
 | .ifr _ x y _ _,σ=>match ev cl σ x with
  | some _=>(evX cl σ y).map fun z=>(z,σ)
  | none=>(evX cl σ x).map fun z=>(z,σ)
 | _,_=>none
noncomputable def bj(cl:Cl)(M:List Nat):Ss->St->Option (Str × St)
 | .nil,_=>none
 | .cons s r,σ=>match evS cl M s σ with
  | some p=>match p.1 with
   | .nx=>bj cl M r p.2
   | .rt _=>none
  | none=>ip cl M s σ
 | .opn _ _ _,_=>none
 | .act _ _ _ _ _,_=>none
end
def lJ:ev cl σ (.var i)=((σ[i]?).bind id):=rfl
def wx:ev cl σ (.cst d)=(some d):=rfl
def wF:ev cl σ (.glb y1 i)=(some (.int i)):=rfl
def wN:ev cl σ (.bin o a b)=((ev cl σ a).bind fun x=>(ev cl σ b).bind fun y=>bg o x y):=rfl
def wK:ev cl σ (.cmp c a b)=((ev cl σ a).bind fun x=>(ev cl σ b).bind fun y=>(bN c x y).map .bl):=rfl
def jR:ev cl σ (.chain c c' a b e)=((ev cl σ a).bind fun x=>(ev cl σ b).bind fun y=>(bN c x y).bind fun k=>if k then(ev cl σ e).bind fun z=>(bN c' y z).map .bl else some (.bl false)):=rfl
def lQ:ev cl σ (.and a b)=((ev cl σ a).bind (qz (ev cl σ b))):=rfl
def uX:ev cl σ (.or a b)=((ev cl σ a).bind (orV (ev cl σ b))):=rfl
def CP:ev cl σ (.not a)=(((ev cl σ a).bind truth).map fun k=>.bl (!k)):=rfl
def CQ:ev cl σ (.tup es)=((evs cl σ es).map .tup):=rfl
def wo:ev cl σ (.lst es)=((evs cl σ es).map .lst):=rfl
def zd:ev cl σ (.ix a b)=((ev cl σ a).bind fun x=>(ev cl σ b).bind fun y=>ixV x y):=rfl
def CN:ev cl σ (.slT a b)=((ev cl σ a).bind fun x=>(ev cl σ b).bind fun y=>mM x y):=rfl
def ik:ev cl σ (.call f es)=((evs cl σ es).bind fun ds=>cl f ds):=rfl
def DE:ev cl σ (.bi b a)=((ev cl σ a).bind fun x=>biV b x):=rfl
def C1:ev cl σ (.neg a)=((ev cl σ a).bind vS):=rfl
def yS:ev cl σ (.compA e tg it)=((dS cl σ it).bind fun ds=>(fits ds).bind fun ds=>(dU (fun σ1=>(ev cl σ1 e).map some) tg σ ds).map .lst):=rfl
def CV:ev cl σ (.mkO y1 f a)=((ev cl σ a).bind fun x=>(cl f [x]).bind fun _=>some .obj):=rfl
def qm:evS cl M (.asg i e) σ=((ev cl σ e).bind fun d=>if eU M e d then some (.nx,σ.set i (some d))else none):=rfl
def Co:evS cl M (.own i e) σ=((ev cl σ e).bind fun d=>if bF d&&aI e then some (.nx,σ.set i (some d))else none):=rfl
def qA:evS cl M (.unp is e) σ=((ev cl σ e).bind fun d=>(items d).bind fun ds=>if ar ds then(bR is ds σ).map fun σ1=>(.nx,σ1)else none):=rfl
def C2:evS cl M (.app i e) σ=((ev cl σ e).bind fun d=>((σ[i]?).bind id).bind fun l=>match l with
  | .lst xs=>if d.imm&&decide (xs.length<most)then some (.nx,σ.set i (some (.lst (xs++[d]))))else none
  | _=>none):=rfl
def jE:evS cl M (.ife t a b) σ=(((ev cl σ t).bind truth).bind fun k=>if k then aB cl M a σ else aB cl M b σ):=rfl
def sA:evS cl M (.forr tg it b) σ=((dS cl σ it).bind fun ds=>bL (aB cl M b) tg ds σ):=rfl
def lK:evS cl M (.ret e) σ=((ev cl σ e).bind fun d=>if ed M e d then some (.rt d,σ)else none):=rfl
def wM:evS cl M (.exc e) σ=((ev cl σ e).map fun _=>(.nx,σ)):=rfl
def Bp:evS cl M (.rais y1 y2) σ=(none):=rfl
def lR:evS cl M (.tryc b c i h) σ=(match aB cl M b σ with
  | some p=>some p
  | none=>(bj cl M b σ).bind fun q=>if fE q.1 c then(aB cl M h (q.2.set i (some (.exc q.1)))).map fun r=>(r.1,r.2.set i none)else none):=rfl
def C4:evS cl M (.ifr c x y a b) σ=(((ev cl σ (.cmp c x y)).bind truth).bind fun k=>if k then aB cl M a σ else aB cl M b σ):=rfl
def Bg:bg .mul (.int a) (.int b)=(if(-(2 ^ 64)<a/\a<2 ^ 64)\/(-(2 ^ 64)<b/\b<2 ^ 64)then some (.int (a*b))else none):=rfl
def Dl:bg .fdiv (.int a) (.int b)=(if 0<b/\b<2 ^ 200 then some (.int (a / b))else none):=rfl
def D8:bg .mod (.int a) (.int b)=(if 0<b then some (.int (a%b))else none):=rfl
def Ck:bg .pow (.int a) (.int b)=(if 0<=b/\b<=1000/\a.natAbs<2 ^ 64 then some (.int (a ^ b.toNat))else none):=rfl
def nt:bY [i] d σ=some (σ.set i (some d)):=rfl
def CB:biV .len (.str x)=if x.length<=most then some (.int x.length)else none:=rfl
def DV:avE M (.var j)=!M.contains j:=rfl
set_option autoImplicit false
structure Fn where
 ps:Nat
 nn:Nat
 M:List Nat
 mp:List Nat
 body:Ss
abbrev fX(σ:St):List Nat->Option (List D)
 | []=>some []
 | i::is=>((σ[i]?).bind id).bind fun d=>(fX σ is).map (d :: ·)
abbrev bU(fn:Fn)(d:D)(σ:St):Option D :=
 if fn.mp.isEmpty then some d else if d.imm then(fX σ fn.mp).map fun os=>.tup (d::os)else none
abbrev ax(T:List Fn):Nat->Cl
 | 0,_,_=>none
 | n+1,f,ds=>match T[f]? with
  | some fn=>if ds.length=fn.ps then(aB (ax T n) fn.M fn.body (ds.map some++List.replicate (fn.nn-fn.ps) none)).bind fun p=>match p.1 with
   | .nx=>bU fn .non p.2
   | .rt d=>bU fn d p.2
   else none
  | none=>(T[f-1000]?).bind fun fn=>if ds.length=fn.ps/\fn.mp=[]then(bj (ax T n) fn.M fn.body (ds.map some++List.replicate (fn.nn-fn.ps) none)).map fun p=>.str p.1 else none
end RL
namespace RT
open RL
abbrev fQ:Fn :=
 ⟨1,1,[],[],(.cons (.ret (.and (.isi (.var 0) .int) (.not (.isi (.var 0) .bool)))) .nil)⟩
abbrev cV(f_is_number:Nat):Fn :=
 ⟨1,1,[],[],(.cons (.ret (.and (.call f_is_number (.cons (.var 0) .nil)) (.chain .le .le (.cst (.int 1)) (.var 0) (.glb "MOST_PEGS" 10)))) .nil)⟩
abbrev ie(f_is_peg_count:Nat):Fn :=
 ⟨1,1,[],[],(.cons (.ife (.not (.call f_is_peg_count (.cons (.var 0) .nil))) (.cons (.rais "BadPegs" (.cons (.glb "MOST_PEGS" 10) .nil)) .nil) .nil) .nil)⟩
abbrev iw:Fn :=
 ⟨1,3,[],[],(.cons (.asg 1 (.bin .mod (.bin .add (.bin .mul (.var 0) (.cst (.int 48271))) (.cst (.int 11))) (.cst (.int 2147483647)))) (.cons (.asg 2 (.bin .mod (.bin .add (.bin .add (.bin .mul (.var 1) (.var 1)) (.bin .mul (.cst (.int 40692)) (.var 1))) (.var 0)) (.cst (.int 2147483399)))) (.cons (.ret (.bin .mod (.bin .add (.bin .add (.bin .mul (.var 2) (.var 2)) (.bin .mul (.cst (.int 69621)) (.var 2))) (.var 1)) (.cst (.int 2147483563)))) .nil)))⟩
abbrev gw(f_law_mix:Nat):Ss :=
 (.cons (.asg 3 (.bin .add (.bin .mul (.var 3) (.cst (.int 2147483563))) (.call f_law_mix (.cons (.bin .add (.bin .add (.var 2) (.bin .mul (.cst (.int 1009)) (.var 1))) (.bin .mul (.cst (.int 7919)) (.var 4))) .nil)))) .nil)
abbrev hW(f_law_mix:Nat):Fn :=
 ⟨2,5,[],[],(.cons (.asg 2 (.bin .add (.bin .mul (.cst (.int 7)) (.var 1)) (.cst (.int 3)))) (.cons (.ife (.cmp .gt (.bi .len (.var 0)) (.cst (.int 0))) (.cons (.asg 2 (.bin .add (.ix (.var 0) (.bin .mod (.var 1) (.bi .len (.var 0)))) (.bin .mul (.cst (.int 9973)) (.bin .fdiv (.var 1) (.bi .len (.var 0)))))) .nil) .nil) (.cons (.ife (.and (.cmp .lt (.var 1) (.bi .len (.var 0))) (.cmp .ge (.var 2) (.bin .pow (.cst (.int 10)) (.cst (.int 18))))) (.cons (.ret (.bin .sub (.var 2) (.bin .pow (.cst (.int 10)) (.cst (.int 18))))) .nil) .nil) (.cons (.asg 3 (.cst (.int 0))) (.cons (.forr [4] (.rng1 (.cst (.int 40))) (gw f_law_mix)) (.cons (.ret (.var 3)) .nil))))))⟩
abbrev eI(f_law_raw:Nat):Ss :=
 (.cons (.app 4 (.bin .mod (.var 3) (.var 5))) (.cons (.asg 3 (.bin .fdiv (.var 3) (.var 5))) .nil))
abbrev dG(f_law_raw:Nat):Fn :=
 ⟨3,6,[4],[],(.cons (.asg 3 (.call f_law_raw (.cons (.var 0) (.cons (.var 1) .nil)))) (.cons (.own 4 (.lst .nil)) (.cons (.forr [5] (.seq (.var 2)) (eI f_law_raw)) (.cons (.ret (.var 4)) .nil))))⟩
end RT
namespace M
section
end
end M
namespace RL
abbrev evF(cl:Cl)(fn:Fn)(ds:List D):Option D:=if ds.length=fn.ps then(aB cl fn.M fn.body (ds.map some++List.replicate (fn.nn-fn.ps) none)).bind fun p=>match p.1 with
  | .nx=>bU fn .non p.2
  | .rt d=>bU fn d p.2
  else none
def bP(h:T[f]?=some fn):ax T (n+1) f ds=evF (ax T n) fn ds:=by
 rw[ax,h];rfl
abbrev L(xs:List Nat):List D:=xs.map fun(i:Nat)=>.int (i:Int)
def pB(I:List D->St->Prop):∀ (ds done:List D) (σ:St),(∀ pre d post σ,done++ds=pre++d::post->I pre σ->d.imm=true/\∃ σ2,(bY tg d σ).bind f=some (.nx,σ2)/\I (pre++[d]) σ2)->I done σ->∃ σ',bL f tg ds σ=some (.nx,σ')/\I (done++ds) σ'
 | [],done,σ,_,h=>⟨σ,rfl,by simpa using h⟩
 | d::ds,done,σ,hs,h=>by
  obtain⟨im,σ2,h1,h3⟩:=hs done d ds σ rfl h;obtain⟨σ',h4,h5⟩:=pB I ds (done++[d]) σ2 (fun pre e post σ he=>hs pre e post σ (by simpa using he)) h3;refine⟨σ',?_,by simpa using h5⟩;rw[bL,if_pos im]
  cases hb:bY tg d σ with
  | none=>rw[hb]at h1;cases h1
  |some σ1=>
   rw[hb]at h1;simp only[Option.bind_some]at h1 ⊢;rw[h1];exact h4
def yy(I:List D->St->Prop)(h0:I [] σ)(hs:∀ pre d post σ,ds=pre++d::post->I pre σ->d.imm=true/\∃ σ2,(bY tg d σ).bind f=some (.nx,σ2)/\I (pre++[d]) σ2):∃ σ',bL f tg ds σ=some (.nx,σ')/\I ds σ' :=
 pB I ds [] σ (by simpa using hs) h0
@[simp] theorem tf_lst:aI (.lst a)=true:=rfl
@[simp] theorem tf_tup:aI (.tup a)=true:=rfl
@[simp] theorem tf_comp:aI (.comp a b c d)=true:=rfl
@[simp] theorem tf_compA:aI (.compA a b c)=true:=rfl
@[simp] theorem tf_bin:aI (.bin a b c)=true:=rfl
@[simp] theorem tf_slT:aI (.slT a b)=true:=rfl
@[simp] theorem tf_call:aI (.call a b)=true:=rfl
@[simp] theorem tf_bi:aI (.bi a b)=true:=rfl
@[simp] theorem tf_rng1:aI (.rng1 a)=true:=rfl
@[simp] theorem tf_rng2:aI (.rng2 a b)=true:=rfl
@[simp] theorem tf_rng3:aI (.rng3 a b c)=true:=rfl
end RL
namespace RM
open RL RT
section basics
def uM:bN .lt (.int a) (.int b)=some (decide (a<b)):=rfl
def DM:bN .le (.int a) (.int b)=some (decide (a<=b)):=rfl
def zj:bN .gt (.int a) (.int b)=some (decide (b<a)):=rfl
def BL:bN .ge (.int a) (.int b)=some (decide (b<=a)):=rfl
def Eo:bN .eq (.int a) (.int b)=some (a == b):=rfl
def El:bN .ne (.int a) (.int b)=some (!(a == b)):=rfl
def dY:bg .add (.int a) (.int b)=some (.int (a+b)):=rfl
def CF:bg .sub (.int a) (.int b)=some (.int (a-b)):=rfl
def iE(h:0<b):bg .mod (.int a) (.int b)=some (.int (a%b)):=D8.trans (if_pos h)
def wz(h:0<b)(h':b<2 ^ 200):bg .fdiv (.int a) (.int b)=some (.int (a / b)):=Dl.trans (if_pos ⟨h,h'⟩)
def et(h1:-(2 ^ 64)<a)(h2:a<2 ^ 64):bg .mul (.int a) (.int b)=some (.int (a*b)):=Bg.trans (if_pos (.inl ⟨h1,h2⟩))
def sO(h1:-(2 ^ 64)<b)(h2:b<2 ^ 64):bg .mul (.int a) (.int b)=some (.int (a*b)):=Bg.trans (if_pos (.inr ⟨h1,h2⟩))
def Eg(k:Bool):truth (.bl k)=some k:=rfl
end basics
def yF(h:L xs=pre++d::post):∃ p x q,xs=p++x::q/\pre=L p/\d=.int (x:Nat)/\post=L q:=by
 unfold L at h;obtain⟨p,r,rfl,h1,h2⟩:=List.map_eq_append_iff.mp h;obtain⟨x,q,rfl,h3,h4⟩:=List.map_eq_cons_iff.mp h2;exact⟨p,x,q,rfl,h1.symm,h3.symm,h4.symm⟩
def qN:∀ {a b:List Nat},L a=L b->a=b
 | [],[],_=>rfl
 | [],_::_,h=>by simp[L]at h
 | _::_,[],h=>by simp[L]at h
 | x::a,y::b,h=>by
  unfold L at h;rw[List.map_cons,List.map_cons,List.cons.injEq]at h
  have h1:(x:Int)=y:=by injection h.1
  rw[qN (a:=a) (b:=b) h.2,Int.ofNat_inj.mp h1]
def jF(I:List Nat->St->Prop)(h0:I [] σ)(hs:∀ p x q σ,xs=p++x::q->I p σ->∃ σ2,(bY tg (.int (x:Nat)) σ).bind f=some (.nx,σ2)/\I (p++[x]) σ2):∃ σ',bL f tg (L xs) σ=some (.nx,σ')/\I xs σ':=by
 obtain⟨σ',e,p,hp,hi⟩:=yy (f:=f) (tg:=tg) (ds:=L xs) (σ:=σ) (fun pre σ=>∃ p,pre=L p/\I p σ) ⟨[],rfl,h0⟩ (by
  rintro pre d post σ hd ⟨p',hp',hi⟩;obtain⟨p,x,q,rfl,rfl,rfl,rfl⟩:=yF hd;have:=qN hp';subst this;obtain⟨σ2,h1,h2⟩:=hs p x q σ rfl hi
  exact⟨rfl,σ2,h1,p++[x],by simp[L],h2⟩)
 have:=qN hp;subst this;exact⟨σ',e,hi⟩
def CS(xs:List Nat):(L xs).length=xs.length:=by simp[L]
def wm:∀ xs:List Nat,ar (L xs)=true
 | []=>rfl
 | x::xs=>by
  show((D.int x).imm&&ar (L xs))=true;rw[wm xs];rfl
def v8(xs ys:List Nat):L (xs++ys)=L xs++L ys:=by simp[L]
def vx(xs:List α)(i:Nat):cz xs (i:Int)=xs[i]?:=by
 unfold cz;rw[if_pos (Int.natCast_nonneg i)];rfl
def nX(a:Nat):∀ n:Nat,bw (a:Int) n=L (List.range' a n)
 | 0=>rfl
 | n+1=>by
  rw[bw,List.range'_succ];have:=nX (a+1) n;rw[show((a+1:Nat):Int)=(a:Int)+1 by lia]at this;rw[this];rfl
section
def lD(i:Int):evF cl fQ [.int i]=some (.bl true):=rfl
def je(h:∀ i:Int,cl f [.int i]=some (.bl true))(i:Int):evF cl (cV f) [.int i]=some (.bl (decide (1<=i/\i<=10))):=by
 simp[evF,cV,aB,lK,lQ,ik,jR,wx,wF,lJ,evs,h,DM,ed,D.imm,bU];by_cases h1:1<=i<;>simp[h1,ed,D.imm,bU]
end
section
end
end RM
namespace RL
section
def cY:aB cl M .nil σ=some (.nx,σ):=by rw[aB]
def fB(h:evS cl M s σ=some (.nx,σ'))(k:aB cl M r σ'=res):aB cl M (.cons s r) σ=res:=by
 rw[aB,h];exact k
def wA(h:evS cl M s σ=some (.rt d,σ')):aB cl M (.cons s r) σ=some (.rt d,σ'):=by
 rw[aB,h];rfl
def bJ(h:ev cl σ e=some d)(ok:eU M e d=true)(k:aB cl M r (σ.set i (some d))=res):aB cl M (.cons (.asg i e) r) σ=res :=
 fB (by rw[qm,h];show(if eU M e d=true then _ else _)=_;rw[if_pos ok]) k
def sf(h:ev cl σ e=some d)(k:aB cl M r σ=res):aB cl M (.cons (.exc e) r) σ=res :=
 fB (by rw[wM,h];rfl) k
def eE(h:ev cl σ e=some d)(ok:ed M e d=true):aB cl M (.cons (.ret e) r) σ=some (.rt d,σ) :=
 wA (by rw[lK,h];show(if ed M e d=true then _ else _)=_;rw[if_pos ok])
def r0(h:(ev cl σ t).bind truth=some true)(h1:aB cl M a σ=some (.nx,σ'))(k:aB cl M r σ'=res):aB cl M (.cons (.ife t a b) r) σ=res :=
 fB (by rw[jE,h];exact h1) k
def oG(h:(ev cl σ t).bind truth=some true)(h1:aB cl M a σ=some (.rt d,σ')):aB cl M (.cons (.ife t a b) r) σ=some (.rt d,σ') :=
 wA (by rw[jE,h];exact h1)
def zJ(h:(ev cl σ t).bind truth=some false)(h1:aB cl M b σ=some (.nx,σ'))(k:aB cl M r σ'=res):aB cl M (.cons (.ife t a b) r) σ=res :=
 fB (by rw[jE,h];exact h1) k
def da(h:(ev cl σ t).bind truth=some false)(k:aB cl M r σ=res):aB cl M (.cons (.ife t a .nil) r) σ=res:=zJ h cY k
def zx(h:ev cl σ e=some d)(hd:items d=some ds)(im:ar ds=true)(hs:bR is ds σ=some σ')(k:aB cl M r σ'=res):aB cl M (.cons (.unp is e) r) σ=res :=
 fB (by rw[qA,h,Option.bind_some,hd];show(if ar ds=true then _ else _)=_;rw[if_pos im,hs];rfl) k
def nq(h:dS cl σ it=some ds)(h1:bL (aB cl M b) tg ds σ=some (.nx,σ'))(k:aB cl M r σ'=res):aB cl M (.cons (.forr tg it b) r) σ=res :=
 fB (by rw[sA,h];exact h1) k
def aa(h:(σ[i]?).bind id=some d):ev cl σ (.var i)=some d:=by rw[lJ];exact h
def af:ev cl σ (.cst d)=some d:=by rw[wx]
def C7:ev cl σ (.glb x k)=some (.int k):=by rw[wF]
def x_call(h:evs cl σ es=some ds)(hc:cl f ds=some d):ev cl σ (.call f es)=some d:=by rw[ik,h];exact hc
def aP:evs cl σ .nil=some []:=by rw[evs]
def au(h:ev cl σ e=some d)(hr:evs cl σ es=some ds):evs cl σ (.cons e es)=some (d::ds):=by rw[evs,h,Option.bind_some,hr];rfl
def kI(h:ev cl σ e=some d)(hc:cl f [d]=some x):ev cl σ (.call f (.cons e .nil))=some x:=x_call (au h aP) hc
def qH(h:ev cl σ e=some d)(h':ev cl σ e'=some d')(hc:cl f [d,d']=some x):ev cl σ (.call f (.cons e (.cons e' .nil)))=some x:=x_call (au h (au h' aP)) hc
def D6(h:ev cl σ e=some d)(h':ev cl σ e'=some d')(h'':ev cl σ e''=some d'')(hc:cl f [d,d',d'']=some x):ev cl σ (.call f (.cons e (.cons e' (.cons e'' .nil))))=some x:=x_call (au h (au h' (au h'' aP))) hc
def aN(h:ev cl σ e=some x)(h':ev cl σ e'=some y)(hb:bg o x y=some d):ev cl σ (.bin o e e')=some d:=by rw[wN,h,Option.bind_some,h'];exact hb
def ah(h:ev cl σ e=some x)(h':ev cl σ e'=some y)(hb:bN o x y=some k):ev cl σ (.cmp o e e')=some (.bl k):=by rw[wK,h,Option.bind_some,h',Option.bind_some,hb];rfl
def pW(h:ev cl σ e=some x)(h':ev cl σ e'=some y)(hb:ixV x y=some d):ev cl σ (.ix e e')=some d:=by rw[zd,h,Option.bind_some,h'];exact hb
def hG(h:ev cl σ e=some x)(hb:biV o x=some d):ev cl σ (.bi o e)=some d:=by rw[DE,h];exact hb
def Cd(h:ev cl σ e=some x)(h':ev cl σ e'=some y)(hb:mM x y=some d):ev cl σ (.slT e e')=some d:=by rw[CN,h,Option.bind_some,h'];exact hb
def wO(h:ev cl σ e=some (.int k)):ev cl σ (.neg e)=some (.int (-k)):=by rw[C1,h];rfl
def pF(h:ev cl σ e=some x)(h':ev cl σ e'=some y)(h'':ev cl σ e''=some z)(b1:bN c x y=some true)(b2:bN c' y z=some k):ev cl σ (.chain c c' e e' e'')=some (.bl k):=by rw[jR,h,Option.bind_some,h',Option.bind_some,b1,Option.bind_some,if_pos rfl,h'',Option.bind_some,b2];rfl
def vL(h:ev cl σ e=some x)(h':ev cl σ e'=some y)(b1:bN c x y=some false):ev cl σ (.chain c c' e e' e'')=some (.bl false):=by rw[jR,h,Option.bind_some,h',Option.bind_some,b1];rfl
def cE(h:evs cl σ es=some ds):ev cl σ (.lst es)=some (.lst ds):=by rw[wo,h];rfl
def iD(h:evs cl σ es=some ds):ev cl σ (.tup es)=some (.tup ds):=by rw[CQ,h];rfl
def qW(h:ev cl σ e=some (.bl true))(h':ev cl σ e'=some d):ev cl σ (.and e e')=some d:=by rw[lQ,h];exact h'
def mP(h:ev cl σ e=some (.bl false)):ev cl σ (.and e e')=some (.bl false):=by rw[lQ,h];rfl
def D0(h:ev cl σ e=some (.bl false))(h':ev cl σ e'=some d):ev cl σ (.or e e')=some d:=by rw[uX,h];exact h'
def CT(h:ev cl σ e=some (.bl true)):ev cl σ (.or e e')=some (.bl true):=by rw[uX,h];rfl
def Cm(h:(ev cl σ e).bind truth=some k):ev cl σ (.not e)=some (.bl (!k)):=by rw[CP,h];rfl
def ma(h:ev cl σ e=some (.bl k)):ev cl σ (.not e)=some (.bl (!k)):=Cm (by rw[h];rfl)
def ao(h:ev cl σ e=some (.bl k)):(ev cl σ e).bind truth=some k:=by rw[h];rfl
def x8(h:dS cl σ it=some ds)(hf:ds.length<=most)(hm:dU (fun σ1=>(ev cl σ1 e).map some) tg σ ds=some ys):ev cl σ (.compA e tg it)=some (.lst ys):=by
 rw[yS,h,Option.bind_some,fits,if_pos hf,Option.bind_some,hm];rfl
def jo(h:ev cl σ e=some x)(hr:dX (.int 0) x=some ds):dS cl σ (.rng1 e)=some ds:=by rw[dS,h];exact hr
end
def AL:bL f tg [] σ=some (.nx,σ):=rfl
def cZ(hl:ds.length=fn.ps)(hm:fn.mp=[])(h:aB cl fn.M fn.body (ds.map some++List.replicate (fn.nn-fn.ps) none)=some (.rt d,σ')):evF cl fn ds=some d:=by
 unfold evF;rw[if_pos hl,h];show bU fn d σ'=_;unfold bU;rw[hm];rfl
end RL
namespace RM
open RL RT
abbrev LI(xs:List Int):List D:=xs.map D.int
def rW(xs:List Int):(LI xs).length=xs.length:=by simp[LI]
def sr:∀ xs:List Int,ar (LI xs)=true
 | []=>rfl
 | x::xs=>by
  show((D.int x).imm&&ar (LI xs))=true;rw[sr xs];rfl
section
def mod_lt{a b:Int}(h:0<b):0<=a%b/\a%b<b:=⟨Int.emod_nonneg _ (by lia),Int.emod_lt_of_pos _ h⟩
def xW(s:Int):∃ m:Int,evF cl iw [.int s]=some (.int m):=by
 have a1:=mod_lt (a:=s*48271+11) (b:=2147483647) (by decide);generalize h1:(s*48271+11)%2147483647=one at a1;have a2:=mod_lt (a:=one*one+40692*one+s) (b:=2147483399) (by decide);generalize h2:(one*one+40692*one+s)%2147483399=two at a2
 exact⟨_,cZ rfl rfl (bJ (d:=.int one) (aN (aN (aN (aa rfl) af (sO (by decide) (by decide))) af dY) af (by rw[iE (by decide),h1])) rfl
  (bJ (d:=.int two) (aN (aN (aN (aN (aa rfl) (aa rfl) (et (by lia) (by lia))) (aN af (aa rfl) (et (by decide) (by decide))) dY) (aa rfl) dY) af (by rw[iE (by decide),h2])) rfl
  (eE (aN (aN (aN (aN (aa rfl) (aa rfl) (et (by omega) (by omega))) (aN af (aa rfl) (et (by decide) (by decide))) dY) (aa rfl) dY) af (iE (by decide))) rfl)))⟩
def x6{f:Nat}(h:∀ s:Int,∃ m:Int,cl f [.int s]=some (.int m)){ns:List Int}(hl:ns.length<=63){k:Nat}(hk:k<=1000):∃ r:Int,evF cl (hW f) [.lst (LI ns),.int k]=some (.int r):=by
 have pw:bg .pow (.int 10) (.int 18)=some (.int 1000000000000000000):=rfl
 have rest:∀ c:Int,∃ r σ',aB cl [] (.cons (.asg 3 (.cst (.int 0))) (.cons (.forr [4] (.rng1 (.cst (.int 40))) (gw f)) (.cons (.ret (.var 3)) .nil))) [some (.lst (LI ns)),some (.int k),some (.int c),none,none]=some (.rt (.int r),σ'):=by
  intro c;have hr:dX (.int 0) (.int 40)=some (L (List.range' 0 40)):=congrArg some (nX 0 40)
  obtain⟨σ',e,r,o,rfl⟩:=jF (f:=aB cl [] (gw f)) (tg:=[4]) (xs:=List.range' 0 40) (σ:=[some (.lst (LI ns)),some (.int k),some (.int c),some (.int 0),none])
   (fun p σ=>∃ (r:Int) (o:Option D),σ=[some (.lst (LI ns)),some (.int k),some (.int c),some (.int r),o]) ⟨0,none,rfl⟩ (by
    rintro p x q σ hx ⟨r,o,rfl⟩;obtain⟨m,hm⟩:=h (c+1009*k+7919*x)
    exact⟨_,bJ (aN (aN (aa rfl) af (sO (by decide) (by decide))) (kI (aN (aN (aa rfl) (aN af (aa rfl) (et (by decide) (by decide))) dY) (aN af (aa rfl) (et (by decide) (by decide))) dY) hm) dY) rfl cY,_,_,rfl⟩)
  exact⟨r,_,bJ af rfl (nq (jo af hr) e (eE (aa rfl) rfl))⟩
 have len:biV .len (.lst (LI ns))=some (.int ns.length):=congrArg (fun n:Nat=>some (D.int n)) (rW ns)
 have first:ev cl [some (.lst (LI ns)),some (.int k),none,none,none] (.bin .add (.bin .mul (.cst (.int 7)) (.var 1)) (.cst (.int 3)))=some (.int (7*k+3)):=aN (aN af (aa rfl) (et (by decide) (by decide))) af dY
 by_cases h0:0<ns.length
 ·have hmod:=mod_lt (a:=(k:Int)) (b:=(ns.length:Int)) (by lia);obtain⟨j,hj⟩:=Int.eq_ofNat_of_zero_le hmod.1
  have hjl:j<ns.length:=by lia
  have ix:ixV (.lst (LI ns)) (.int ((k:Int)%ns.length))=some (.int ns[j]):=by
   show cz (LI ns) _=_;rw[hj,vx];simp[LI,hjl]
  obtain⟨r,σ',hr⟩:=rest (ns[j]+9973*((k:Int) / ns.length));generalize hc:ns[j]+9973*((k:Int) / ns.length)=cell at hr
  have cel:∀ {r':Ss} {res:Option (Out × St)},aB cl [] r' [some (.lst (LI ns)),some (.int k),some (.int cell),none,none]=res->aB cl [] (.cons (.asg 2 (.bin .add (.bin .mul (.cst (.int 7)) (.var 1)) (.cst (.int 3)))) (.cons (.ife (.cmp .gt (.bi .len (.var 0)) (.cst (.int 0))) (.cons (.asg 2 (.bin .add (.ix (.var 0) (.bin .mod (.var 1) (.bi .len (.var 0)))) (.bin .mul (.cst (.int 9973)) (.bin .fdiv (.var 1) (.bi .len (.var 0)))))) .nil) .nil) r')) [some (.lst (LI ns)),some (.int k),none,none,none]=res:=fun z =>
   bJ first rfl (r0 (ao (ah (hG (aa rfl) len) af (by rw[zj,decide_eq_true (by lia)]))) (bJ (d:=.int cell) (aN (pW (aa rfl) (aN (aa rfl) (hG (aa rfl) len) (iE (by lia))) ix) (aN af (aN (aa rfl) (hG (aa rfl) len) (wz (by lia) (by lia))) (et (by decide) (by decide))) (by rw[dY,hc])) rfl cY) z)
  by_cases h1:k<ns.length
  ·have c1:bN .lt (.int (k:Nat)) (.int (ns.length:Nat))=some true:=by rw[uM,decide_eq_true (by lia)]
   by_cases h2:(1000000000000000000:Int)<=cell
   ·exact⟨_,cZ rfl rfl (cel (oG (ao (qW (ah (aa rfl) (hG (aa rfl) len) c1) (ah (aa rfl) (aN af af pw) (by rw[BL,decide_eq_true h2])))) (eE (aN (aa rfl) (aN af af pw) CF) rfl)))⟩
   ·exact⟨r,cZ rfl rfl (cel (da (ao (qW (ah (aa rfl) (hG (aa rfl) len) c1) (ah (aa rfl) (aN af af pw) (by rw[BL,decide_eq_false h2])))) hr))⟩
  ·exact⟨r,cZ rfl rfl (cel (da (ao (mP (ah (aa rfl) (hG (aa rfl) len) (by rw[uM,decide_eq_false (by lia)])))) hr))⟩
 ·obtain⟨r,σ',hr⟩:=rest (7*k+3);exact⟨r,cZ rfl rfl (bJ first rfl (da (ao (ah (hG (aa rfl) len) af (by rw[zj,decide_eq_false (by lia)]))) (da (ao (mP (ah (aa rfl) (hG (aa rfl) len) (by rw[uM,decide_eq_false (by lia)])))) hr)))⟩
end
section
abbrev iY(ds sizes:List Nat):Prop:=ds.length=sizes.length/\∀ (i d s:Nat),ds[i]?=some d->sizes[i]?=some s->d<s
def iY.snoc(h:iY ds sizes)(hd:d<s):iY (ds++[d]) (sizes++[s]):=by
 refine⟨by simp[h.1],fun i x y h1 h2=>?_⟩;by_cases hi:i<ds.length
 ·rw[List.getElem?_append_left hi]at h1;rw[List.getElem?_append_left (by rw[<-h.1];exact hi)]at h2;exact h.2 i x y h1 h2
 ·rw[List.getElem?_append_right (by lia)]at h1;rw[List.getElem?_append_right (by rw[<-h.1];lia)]at h2;rw[h.1]at h1
  cases hk:i-sizes.length with
  | zero=>rw[hk]at h1 h2;simp at h1 h2;lia
  | succ k=>rw[hk]at h1;simp at h1
def qR(h:cl f [scr,.int k]=some (.int r))(hp:∀ s∈sizes,0<s/\s<2 ^ 200)(hlen:sizes.length<=1000):∃ ds:List Nat,iY ds sizes/\evF cl (dG f) [scr,.int k,.lst (L sizes)]=some (.lst (L ds)):=by
 obtain⟨σ',e,r',ds,o,hds,rfl⟩:=jF (f:=aB cl [4] (eI f)) (tg:=[5]) (xs:=sizes) (σ:=[some scr,some (.int k),some (.lst (L sizes)),some (.int r),some (.lst []),none])
  (fun p σ=>∃ (r:Int) (ds:List Nat) (o:Option D),iY ds p/\σ=[some scr,some (.int k),some (.lst (L sizes)),some (.int r),some (.lst (L ds)),o]) ⟨r,[],none,⟨rfl,by simp⟩,rfl⟩ (by
   rintro p x q σ hx ⟨r,ds,o,hds,rfl⟩;have hx0:=hp x (by rw[hx];simp)
   have hpl:p.length<1000:=by
    have:=congrArg List.length hx;simp at this;lia
   have hx1:(0:Int)<x:=by lia
   have hx2:(x:Int)<2 ^ 200:=by
    have:=hx0.2;lia
   obtain⟨d,hd⟩:=Int.eq_ofNat_of_zero_le (Int.emod_nonneg r (show(x:Int)≠0 by lia))
   have hdx:d<x:=by
    have:=Int.emod_lt_of_pos r hx1;lia
   refine⟨[some scr,some (.int k),some (.lst (L sizes)),some (.int (r / x)),some (.lst (L (ds++[d]))),some (.int x)],?_,_,_,_,hds.snoc hdx,rfl⟩
   have hl:(L ds).length<most:=by
    rw[CS,hds.1];unfold most;lia
   simp[nt,eI,aB,C2,qm,wN,lJ,iE hx1,wz hx1 hx2,hd,D.imm,hl,eU,v8]
   rfl)
 refine⟨ds,hds,?_⟩;simp[evF,dG,aB,qm,sA,Co,lK,wo,lJ,ik,evs,dS,items,h,eU,D.imm,bF,ar];simp[e,ed,bF,wm,bU]
end
section
end
section
end
section dicts
variable [DecidableEq κ]
end dicts
section
end
section
end
section
end
section
variable{n:Nat}
end
section
end
section
end
section
end
end RM
set_option maxHeartbeats 1000000
namespace RM
open RL RT
section
end
end RM
set_option maxHeartbeats 1000000
namespace RM
open RL RT
section
end
structure Dg(T:List Fn)(mx rw dg:Nat):Prop where
 D5:T[mx]?=some iw
 DQ:T[rw]?=some (hW mx)
 Dm:T[dg]?=some (dG rw)
def Dg.digits{T:List Fn}{mx rw dg:Nat}(h:Dg T mx rw dg){ns:List Int}(hl:ns.length<=63)(n:Nat){k:Nat}{sizes:List Nat}(hk:k<=1000)(hp:∀ s∈sizes,0<s/\s<2 ^ 200)(hz:sizes.length<=1000) :
  ∃ ds:List Nat,iY ds sizes/\ax T (n+3) dg [.lst (LI ns),.int k,.lst (L sizes)]=some (.lst (L ds)):=by
 obtain⟨r,hr⟩:=x6 (cl:=ax T (n+1)) (f:=mx) (fun s=>by
  obtain⟨m,hm⟩:=xW (cl:=ax T n) s
  exact⟨m,(bP h.D5).trans hm⟩) hl hk
 obtain⟨ds,h1,h2⟩:=qR (cl:=ax T (n+2)) (f:=rw) ((bP h.DQ).trans hr) hp hz;exact⟨ds,h1,(bP h.Dm).trans h2⟩
section
variable{T:List Fn}{mx rw dg pl hk ci ft tx rg hu ov fr:Nat}
end
section
variable{T:List Fn}{nu pc pa nb un if' cf po rp ir mv:Nat}
end
section
end
section
variable{nu pc pa nb un if' cf po rp ir mv:Nat}
end
end RM
set_option maxHeartbeats 1000000
namespace RT
open RL
end RT
namespace RM
open RL RT
section
end
section
end
section
end
section
variable{cl:Cl}
end
section
end
section
end
section
end
section
end
section
variable{nu pc pa nb un if' cf po rp ir mv rn mk rg jb pu c2 hu:Nat}
end
section
variable{mx rw dg pl hk ci ft tx rg hu ov fr:Nat}
end
section
end
section
end
section
end
section
variable{mx rw dg pl hk ci ft tx rg hu ov fr:Nat}
end
section
end
section
end
section
end
section
end
end RM
set_option maxHeartbeats 1000000
namespace RM
open RL RT
section
end
end RM
set_option maxHeartbeats 1000000
namespace RT
open RL
end RT
namespace RM
open RL RT
section
variable{nu pc pa nb un if' cf po rp ir mv rn mk rg jb pu c2 hu:Nat}
end
section
end
end RM
set_option maxHeartbeats 1000000
namespace RT
open RL
end RT
namespace RM
open RL RT
section
end
section
variable{nu pc pa nb un if' cf po rp ir mv:Nat}
end
section
end
section
end
end RM
set_option maxHeartbeats 1000000
namespace RM
open RL RT
section
variable{n:Nat}{f h a b:List Nat}
end
end RM
set_option maxHeartbeats 1000000
namespace RM
open RL RT
section
end
end RM
set_option maxHeartbeats 1000000
namespace RM
open RL RT
section
variable{n:Nat}{f g A B:List Nat}
end
end RM
set_option maxHeartbeats 1000000
namespace RM
open RL RT
section
variable{cl:Cl}{xs:List Int}
end
end RM
set_option maxHeartbeats 1000000
namespace RT
open RL
end RT
namespace RM
open RL RT
section
variable{cl:Cl}{n:Nat}{h a b:List Nat}
end
end RM
set_option maxHeartbeats 1000000
namespace RL
open PySem (Str)
abbrev Rx(cl:Cl)(σ:St)(e:E)(c:Str):Prop:=ev cl σ e=none/\evX cl σ e=some c
abbrev Rr(cl:Cl)(M:List Nat)(b:Ss)(σ:St)(c:Str)(σ':St):Prop:=aB cl M b σ=none/\bj cl M b σ=some (c,σ')
abbrev Rc(cl:Cl)(f:Nat)(ds:List D)(c:Str):Prop:=cl f ds=none/\cl (f+1000) ds=some (.str c)
section
def Bj(h:evS cl M s σ=some (.nx,σ1))(k:Rr cl M r σ1 c σ'):Rr cl M (.cons s r) σ c σ':=by
 refine⟨?_,?_⟩
 ·rw[aB,h];exact k.1
 ·rw[bj,h];exact k.2
def gh(h:evS cl M s σ=none)(k:ip cl M s σ=some (c,σ')):Rr cl M (.cons s r) σ c σ':=by
 refine⟨?_,?_⟩
 ·rw[aB,h];rfl
 ·rw[bj,h];exact k
def zK(h:evs cl σ ps=some ds)(w:ds.all written=true):Rr cl M (.cons (.rais c ps) r) σ c σ:=gh (by rw[Bp]) (by show(evs cl σ ps).bind _=_;rw[h,Option.bind_some,if_pos w])
def dJ(h:Rx cl σ e c):Rr cl M (.cons (.exc e) r) σ c σ:=gh (by rw[wM,h.1];rfl) (by show(evX cl σ e).map _=_;rw[h.2];rfl)
def bo(h:Rx cl σ e c):Rr cl M (.cons (.ret e) r) σ c σ:=gh (by rw[lK,h.1];rfl) (by show(evX cl σ e).map _=_;rw[h.2];rfl)
def cG(h:(ev cl σ t).bind truth=some true)(k:Rr cl M a σ c σ'):Rr cl M (.cons (.ife t a b) r) σ c σ':=gh (by rw[jE,h];exact k.1) (by show((ev cl σ t).bind truth).bind _=_;rw[h];exact k.2)
def ay(h:(ev cl σ t).bind truth=some false)(k:Rr cl M r σ c σ'):Rr cl M (.cons (.ife t a .nil) r) σ c σ':=Bj (by rw[jE,h];exact cY (cl:=cl) (M:=M)) k
def eC(h:evs cl σ es=some ds)(k:Rc cl f ds c):Rx cl σ (.call f es) c:=by
 refine⟨?_,?_⟩
 ·rw[ik,h];exact k.1
 ·show(match evs cl σ es with | some ds=>clX cl f ds | none=>gW cl σ es)=_;rw[h];show clX cl f ds=_;unfold clX;rw[k.2];rfl
def fO(h:ev cl σ e=some d)(k:Rc cl f [d] c):Rx cl σ (.call f (.cons e .nil)) c:=eC (au h aP) k
def cy(h:ev cl σ e=some d)(h':ev cl σ e'=some d')(k:Rc cl f [d,d'] c):Rx cl σ (.call f (.cons e (.cons e' .nil))) c:=eC (au h (au h' aP)) k
def DJ(h:Rx cl σ e c):Rx cl σ (.ix e e') c:=by
 refine⟨?_,?_⟩
 ·rw[zd,h.1];rfl
 ·exact h.2
def B1(h1:aB cl M b σ=some (.nx,σ1))(k:aB cl M r σ1=res):aB cl M (.cons (.tryc b c i h) r) σ=res:=fB (by rw[lR,h1]) k
def yE(h1:Rr cl M b σ n σ1)(hs:fE n c=true)(h2:aB cl M h (σ1.set i (some (.exc n)))=some (.nx,σ2))(k:aB cl M r (σ2.set i none)=res):aB cl M (.cons (.tryc b c i h) r) σ=res:=fB (by
 rw[lR,h1.1];show(bj cl M b σ).bind _=_;rw[h1.2,Option.bind_some,if_pos hs,h2]
 rfl) k
end
def aO(h:T[f]?=some fn)(hT:T.length<=1000)(hl:ds.length=fn.ps)(hm:fn.mp=[])(k:Rr (ax T n) fn.M fn.body (ds.map some++List.replicate (fn.nn-fn.ps) none) c σ'):Rc (ax T (n+1)) f ds c:=by
 refine⟨?_,?_⟩
 ·rw[ax,h];show(if ds.length=fn.ps then _ else none)=none;rw[if_pos hl,k.1];rfl
 ·rw[ax,List.getElem?_eq_none (by omega)];show(T[f+1000-1000]?).bind _=_;rw[Nat.add_sub_cancel,h,Option.bind_some,if_pos ⟨hl,hm⟩,k.2];rfl
end RL
namespace RT
open RL
abbrev il:Fn :=
 ⟨1,5,[1],[],(.cons (.own 1 (.lst (.cons (.isx (.var 0) "BadPegs") (.cons (.isx (.var 0) "BadFrame") (.cons (.isx (.var 0) "BadHalf") (.cons (.isx (.var 0) "BadHook") .nil)))))) (.cons (.own 1 (.bin .add (.var 1) (.lst (.cons (.isx (.var 0) "BadName") (.cons (.isx (.var 0) "NoNumber") (.cons (.isx (.var 0) "NoFrame") (.cons (.isx (.var 0) "NoStack") .nil))))))) (.cons (.own 1 (.bin .add (.var 1) (.lst (.cons (.isx (.var 0) "NoPlace") (.cons (.isx (.var 0) "Taken") (.cons (.isx (.var 0) "Full") (.cons (.isx (.var 0) "NothingThere") .nil))))))) (.cons (.own 1 (.bin .add (.var 1) (.lst (.cons (.isx (.var 0) "BadTrade") (.cons (.isx (.var 0) "Hangs") (.cons (.isx (.var 0) "BadPage") .nil)))))) (.cons (.app 1 (.not (.isx (.var 0) "ValueError"))) (.cons (.asg 2 (.lst (.cons (.cst (.str "BadPegs")) (.cons (.cst (.str "BadFrame")) (.cons (.cst (.str "BadHalf")) (.cons (.cst (.str "BadHook")) (.cons (.cst (.str "BadName")) (.cons (.cst (.str "NoNumber")) (.cons (.cst (.str "NoFrame")) (.cons (.cst (.str "NoStack")) (.cons (.cst (.str "NoPlace")) .nil))))))))))) (.cons (.asg 2 (.bin .add (.var 2) (.lst (.cons (.cst (.str "Taken")) (.cons (.cst (.str "Full")) (.cons (.cst (.str "NothingThere")) (.cons (.cst (.str "BadTrade")) (.cons (.cst (.str "Hangs")) (.cons (.cst (.str "BadPage")) (.cons (.cst (.str "odd")) .nil)))))))))) (.cons (.ret (.join (.comp (.var 3) [3,4] (.zip (.var 2) (.var 1)) (.var 4)))) .nil))))))))⟩
end RT
namespace RM
open RL RT
def Bq(h:c∈(["BadPegs", "BadFrame", "BadHalf", "BadHook", "BadName", "NoNumber", "NoFrame", "NoStack"]:List PySem.Str)):evF cl il [.exc c]=some (.str c):=by
 simp only[List.mem_cons,List.not_mem_nil,or_false]at h;rcases h with rfl | rfl | rfl | rfl | rfl | rfl | rfl | rfl<;>rfl
end RM
set_option maxHeartbeats 1000000
namespace RM
open RL RT
end RM
set_option maxHeartbeats 1000000
namespace RT
open RL
end RT
namespace RM
open RL RT
section
variable{cl:Cl}
end
end RM
set_option maxHeartbeats 1000000
namespace RM
open RL RT
section
variable{T:List Fn}{hf nf td wy ch:Nat}
end
end RM
set_option maxHeartbeats 1000000
namespace RM
open RL RT
section
variable{T:List Fn}{hf nf td wy ch:Nat}
end
end RM
set_option maxHeartbeats 1000000
namespace RM
open RL RT
section
variable{cl:Cl}{n:Nat}{f h:List Nat}
end
section
variable{T:List Fn}{nu pc pa nb un if' cf po rp ir mv hf nf td wy ch cn ih chf go to hmh ho hnm cp n:Nat}{h:List Nat}
end
end RM
set_option maxHeartbeats 1000000
namespace RT
open RL
end RT
namespace RM
open RL RT
section
variable{cl:Cl}{n:Nat}{a b:List Nat}
end
end RM
set_option maxHeartbeats 1000000
namespace RM
open RL RT
end RM
set_option maxHeartbeats 1000000
namespace RM
open RL RT
section
end
section
variable{nu pc pa nb un if' cf po rp ir mv:Nat}
end
end RM
set_option maxHeartbeats 1000000
namespace RM
open RL RT
section
variable{cl:Cl}
def so{n:Nat}(h:n<=100):written (.int (n:Nat))=true:=by
 show decide (_<_)=true;rw[decide_eq_true_eq];refine Nat.lt_of_le_of_lt (show((n:Int)).natAbs<=100 by omega) (Nat.lt_of_lt_of_le (show 100<2 ^ 7 by decide) (Nat.pow_le_pow_right (by decide) (by decide)))
end
section
variable{T:List Fn}{nu pc:Nat}
end
def Cn:bg .pow (.int 10) (.int 29)=some (.int ((10 ^ 29:Nat):Int)):=by
 rw[Ck];rw[if_pos (by decide)];rfl
end RM
namespace K07
open RL RT
abbrev mn(f_names_back:Nat):Fn :=
 ⟨1,2,[],[],(.cons (.ret (.and (.isi (.var 0) .tuple) (.bi .all (.compA (.call f_names_back (.cons (.var 0) (.cons (.var 1) .nil))) [1] (.rng1 (.bi .len (.var 0))))))) .nil)⟩
abbrev my(f_is_number:Nat):Fn :=
 ⟨2,3,[],[],(.cons (.asg 2 (.ix (.var 0) (.var 1))) (.cons (.ret (.and (.call f_is_number (.cons (.var 2) .nil)) (.and (.chain .le .lt (.cst (.int 0)) (.var 2) (.bi .len (.var 0))) (.cmp .eq (.ix (.var 0) (.var 2)) (.var 1))))) .nil))⟩
abbrev jD:Ss :=
 (.cons (.ife (.cmp .gt (.var 3) (.var 2)) (.cons (.app 1 (.var 2)) .nil) (.cons (.ife (.cmp .eq (.var 3) (.var 2)) (.cons (.ife (.var 1) (.cons (.ret (.cst (.bl false))) .nil) .nil) .nil) (.cons (.ifp 1 (.var 3) (.cons (.ret (.cst (.bl false))) .nil) .nil) .nil)) .nil)) .nil)
abbrev jU:Fn :=
 ⟨1,4,[1],[],(.cons (.own 1 (.lst .nil)) (.cons (.forr [2,3] (.enm (.var 0)) (jD)) (.cons (.ret (.cst (.bl true))) .nil)))⟩
abbrev Cu:Fn :=
 ⟨3,3,[0,0],[0],(.cons (.put 0 (.var 1) (.var 2)) (.cons (.put 0 (.var 2) (.var 1)) .nil))⟩
abbrev qZ(f_is_uncrossed f_in_round f_is_pairing f_is_peg_count f_pegs_of:Nat):Fn :=
 ⟨1,5,[],[],(.cons (.asg 1 (.call f_pegs_of (.cons (.var 0) .nil))) (.cons (.ife (.or (.cmp .ne (.bi .len (.var 0)) (.bin .mul (.cst (.int 2)) (.var 1))) (.or (.not (.call f_is_peg_count (.cons (.var 1) .nil))) (.not (.call f_is_pairing (.cons (.var 0) .nil))))) (.cons (.ret (.cst (.bl false))) .nil) .nil) (.cons (.asg 2 (.comp (.var 3) [3,4] (.enm (.var 0)) (.cmp .eq (.var 3) (.var 4)))) (.cons (.ret (.and (.not (.var 2)) (.call f_is_uncrossed (.cons (.call f_in_round (.cons (.var 0) .nil)) .nil)))) .nil))))⟩
abbrev lC(f_is_frame:Nat):Fn :=
 ⟨1,1,[],[],(.cons (.ife (.not (.call f_is_frame (.cons (.var 0) .nil))) (.cons (.rais "BadFrame" .nil) .nil) .nil) .nil)⟩
abbrev tY:Fn :=
 ⟨1,1,[],[],(.cons (.ret (.bin .fdiv (.bi .len (.var 0)) (.cst (.int 2)))) .nil)⟩
abbrev pL(f_check_pegs:Nat):Fn :=
 ⟨1,1,[],[],(.cons (.exc (.call f_check_pegs (.cons (.var 0) .nil))) (.cons (.ret (.bi .tuple (.bin .add (.rng2 (.var 0) (.bin .mul (.cst (.int 2)) (.var 0))) (.rng1 (.var 0))))) .nil))⟩
abbrev iP(f_in_round f_tie f_is_brackets:Nat):Ss :=
 (.cons (.ife (.cmp .eq (.var 4) (.cst (.str "("))) (.cons (.app 2 (.var 3)) .nil) (.cons (.tie3 f_tie 1 3 2) .nil)) .nil)
abbrev jC(f_in_round f_tie f_is_brackets:Nat):Fn :=
 ⟨1,5,[1,2],[],(.cons (.ife (.not (.call f_is_brackets (.cons (.var 0) .nil))) (.cons (.rais "BadFrame" .nil) .nil) .nil) (.cons (.own 1 (.bin .mul (.lst (.cons (.cst (.int 0)) .nil)) (.bi .len (.var 0)))) (.cons (.own 2 (.lst .nil)) (.cons (.forr [3,4] (.enm (.var 0)) (iP f_in_round f_tie f_is_brackets)) (.cons (.ret (.call f_in_round (.cons (.var 1) .nil))) .nil)))))⟩
abbrev kB(f_is_peg_count:Nat):Ss :=
 (.cons (.ife (.inn true (.var 2) (.tup (.cons (.cst (.str "(")) (.cons (.cst (.str ")")) .nil)))) (.cons (.ret (.cst (.bl false))) .nil) .nil) (.cons (.aug 1 .add (.ifx (.cmp .eq (.var 2) (.cst (.str "("))) (.cst (.int 1)) (.neg (.cst (.int 1))))) (.cons (.ife (.cmp .lt (.var 1) (.cst (.int 0))) (.cons (.ret (.cst (.bl false))) .nil) .nil) .nil)))
abbrev l6(f_is_peg_count:Nat):Fn :=
 ⟨1,3,[],[],(.cons (.ife (.not (.call f_is_peg_count (.cons (.bin .fdiv (.bi .len (.var 0)) (.cst (.int 2))) .nil))) (.cons (.ret (.cst (.bl false))) .nil) .nil) (.cons (.asg 1 (.cst (.int 0))) (.cons (.forr [2] (.chr (.var 0)) (kB f_is_peg_count)) (.cons (.ret (.cmp .eq (.var 1) (.cst (.int 0)))) .nil))))⟩
abbrev lB:Fn :=
 ⟨2,2,[],[],(.cons (.ret (.ifx (.cmp .lt (.var 1) (.var 0)) (.var 1) (.bin .sub (.bin .sub (.bin .mul (.cst (.int 3)) (.var 0)) (.cst (.int 1))) (.var 1)))) .nil)⟩
abbrev pR(f_moved f_round_place f_pegs_of:Nat):Fn :=
 ⟨1,3,[],[],(.cons (.asg 1 (.call f_pegs_of (.cons (.var 0) .nil))) (.cons (.ret (.call f_moved (.cons (.var 0) (.cons (.compA (.call f_round_place (.cons (.var 1) (.cons (.var 2) .nil))) [2] (.rng1 (.bin .mul (.cst (.int 2)) (.var 1)))) .nil)))) .nil))⟩
abbrev vU:Ss :=
 (.cons (.put 2 (.ix (.var 1) (.var 3)) (.ix (.var 1) (.var 4))) .nil)
abbrev wZ:Fn :=
 ⟨2,5,[2],[],(.cons (.own 2 (.bin .mul (.lst (.cons (.cst (.int 0)) .nil)) (.bi .len (.var 0)))) (.cons (.forr [3,4] (.enm (.var 0)) (vU)) (.cons (.ret (.bi .tuple (.var 2))) .nil)))⟩
abbrev qc(f_check_frame f_check_pegs:Nat):Ss :=
 (.cons (.exc (.call f_check_frame (.cons (.var 2) .nil))) .nil)
abbrev lr(f_check_frame f_check_pegs:Nat):Fn :=
 ⟨2,6,[],[],(.cons (.exc (.call f_check_pegs (.cons (.var 0) .nil))) (.cons (.forr [2] (.seq (.var 1)) (qc f_check_frame f_check_pegs)) (.cons .never (.cons .never (.cons .never (.cons .never (.cons .never .nil)))))))⟩
abbrev sx(f_made:Nat):Fn :=
 ⟨2,2,[],[],(.cons (.ret (.ix (.call f_made (.cons (.var 0) (.cons (.lst (.cons (.var 1) .nil)) .nil))) (.cst (.int 0)))) .nil)⟩
abbrev wY(f_plain f_check_row:Nat):Ss :=
 (.cons .never .nil)
abbrev sU(f_plain f_check_row:Nat):Fn :=
 ⟨2,5,[],[],(.cons (.exc (.call f_check_row (.cons (.var 0) (.cons (.var 1) .nil)))) (.cons (.asg 2 (.bi .list (.call f_plain (.cons (.var 0) .nil)))) (.cons (.asg 3 (.cst (.int 0))) (.cons (.forr [4] (.seq (.var 1)) (wY f_plain f_check_row)) (.cons (.ret (.tup (.cons (.bi .tuple (.var 2)) (.cons (.var 3) .nil)))) .nil)))))⟩
abbrev tV(f_is_number:Nat):Fn :=
 ⟨2,2,[],[],(.cons (.ret (.and (.call f_is_number (.cons (.var 1) .nil)) (.chain .le .le (.cst (.int 0)) (.var 1) (.bin .sub (.var 0) (.cst (.int 2)))))) .nil)⟩
abbrev lZ(f_is_hook f_check_pegs:Nat):Ss :=
 (.cons (.ife (.not (.call f_is_hook (.cons (.var 0) (.cons (.var 2) .nil)))) (.cons (.rais "BadHook" (.cons (.var 2) (.cons (.var 0) .nil))) .nil) .nil) .nil)
abbrev iJ(f_is_hook f_check_pegs:Nat):Fn :=
 ⟨2,3,[],[],(.cons (.exc (.call f_check_pegs (.cons (.var 0) .nil))) (.cons (.forr [2] (.seq (.var 1)) (lZ f_is_hook f_check_pegs)) .nil))⟩
abbrev jL(f_ways f_check_pegs:Nat):Fn :=
 ⟨1,1,[],[],(.cons (.exc (.call f_check_pegs (.cons (.var 0) .nil))) (.cons (.ret (.call f_ways (.cons (.bin .mul (.cst (.int 2)) (.var 0)) (.cons (.cst (.int 0)) .nil)))) .nil))⟩
abbrev oq(f_from_brackets f_ways f_check_number f_how_many:Nat):Ss :=
 (.cons (.asg 6 (.call f_ways (.cons (.var 5) (.cons (.bin .add (.var 3) (.cst (.int 1))) .nil)))) (.cons (.ife (.cmp .lt (.var 1) (.bin .add (.var 4) (.var 6))) (.cons (.augs 2 (.cst (.str "("))) (.cons (.aug 3 .add (.cst (.int 1))) .nil)) (.cons (.augs 2 (.cst (.str ")"))) (.cons (.aug 3 .sub (.cst (.int 1))) (.cons (.aug 4 .add (.var 6)) .nil)))) .nil))
abbrev j9(f_from_brackets f_ways f_check_number f_how_many:Nat):Fn :=
 ⟨2,7,[],[],(.cons (.exc (.call f_check_number (.cons (.var 1) (.cons (.call f_how_many (.cons (.var 0) .nil)) .nil)))) (.cons (.asg 2 (.cst (.str ""))) (.cons (.asg 3 (.cst (.int 0))) (.cons (.asg 4 (.cst (.int 0))) (.cons (.forr [5] (.rng3 (-1) (.bin .sub (.bin .mul (.cst (.int 2)) (.var 0)) (.cst (.int 1))) (.neg (.cst (.int 1)))) (oq f_from_brackets f_ways f_check_number f_how_many)) (.cons (.ret (.call f_from_brackets (.cons (.var 2) .nil))) .nil))))))⟩
abbrev kF(f_numbered f_how_many f_check_pegs:Nat):Fn :=
 ⟨1,2,[],[],(.cons (.exc (.call f_check_pegs (.cons (.var 0) .nil))) (.cons (.ife (.cmp .gt (.var 0) (.glb "MOST_PEGS_OF_EVERY" 6)) (.cons (.rais "BadPegs" (.cons (.glb "MOST_PEGS_OF_EVERY" 6) .nil)) .nil) .nil) (.cons (.ret (.compA (.call f_numbered (.cons (.var 0) (.cons (.var 1) .nil))) [1] (.rng1 (.call f_how_many (.cons (.var 0) .nil))))) .nil)))⟩
abbrev eQ(f_is_number f_ways f_check_pegs:Nat):Fn :=
 ⟨2,2,[],[],(.cons (.exc (.call f_check_pegs (.cons (.var 0) .nil))) (.cons (.ret (.ifx (.call f_is_number (.cons (.var 1) .nil)) (.call f_ways (.cons (.var 0) (.cons (.var 1) .nil))) (.cst (.int 0)))) .nil))⟩
abbrev ly(f_check_number f_how_many_halves:Nat):Fn :=
 ⟨3,3,[],[],(.cons (.exc (.call f_check_number (.cons (.var 2) (.cons (.call f_how_many_halves (.cons (.var 0) (.cons (.var 1) .nil))) .nil)))) (.cons .never .nil))⟩
abbrev B6(f_choices:Nat):Fn :=
 ⟨2,3,[],[],(.cons (.ife (.or (.cmp .lt (.var 1) (.cst (.int 0))) (.or (.cmp .gt (.var 1) (.var 0)) (.cmp .eq (.bin .mod (.bin .sub (.var 0) (.var 1)) (.cst (.int 2))) (.cst (.int 1))))) (.cons (.ret (.cst (.int 0))) .nil) .nil) (.cons (.asg 2 (.bin .fdiv (.bin .sub (.var 0) (.var 1)) (.cst (.int 2)))) (.cons (.ret (.bin .sub (.call f_choices (.cons (.var 0) (.cons (.var 2) .nil))) (.call f_choices (.cons (.var 0) (.cons (.bin .sub (.var 2) (.cst (.int 1))) .nil))))) .nil)))⟩
abbrev qa:Ss :=
 (.cons (.asg 2 (.bin .fdiv (.bin .mul (.var 2) (.bin .sub (.var 0) (.var 3))) (.bin .add (.var 3) (.cst (.int 1))))) .nil)
abbrev rG:Fn :=
 ⟨2,4,[],[],(.cons (.ife (.cmp .lt (.var 1) (.cst (.int 0))) (.cons (.ret (.cst (.int 0))) .nil) .nil) (.cons (.asg 2 (.cst (.int 1))) (.cons (.forr [3] (.rng1 (.var 1)) (qa)) (.cons (.ret (.var 2)) .nil))))⟩
abbrev kH(f_is_number:Nat):Fn :=
 ⟨2,2,[],[],(.cons (.ife (.or (.not (.call f_is_number (.cons (.var 0) .nil))) (.not (.chain .le .lt (.cst (.int 0)) (.var 0) (.var 1)))) (.cons (.rais "NoNumber" (.cons (.var 1) .nil)) .nil) .nil) .nil)⟩
abbrev nI(f_walked:Nat):Fn :=
 ⟨4,4,[],[],(.cons (.ret (.call f_walked (.cons (.var 0) (.cons (.var 1) (.cons (.var 2) (.cons (.lst (.cons (.var 3) .nil)) .nil)))))) .nil)⟩
abbrev nZ(f_check_row:Nat):Fn :=
 ⟨4,7,[],[],(.cons (.exc (.call f_check_row (.cons (.var 0) (.cons (.var 2) .nil)))) (.cons .never (.cons .never (.cons .never .nil))))⟩
abbrev lX(f_what_is_made:Nat):Fn :=
 ⟨3,7,[],[],(.cons (.ifr .ne (.call f_what_is_made (.cons (.var 0) (.cons (.var 1) .nil))) (.call f_what_is_made (.cons (.var 0) (.cons (.var 2) .nil))) (.cons (.ret (.cst .non)) .nil) .nil) (.cons .never (.cons .never (.cons .never .nil))))⟩
abbrev gg(f_made:Nat):Fn :=
 ⟨2,6,[],[],(.cons (.unp [2,3] (.var 1)) (.cons (.unp [4,5] (.call f_made (.cons (.var 0) (.cons (.var 3) .nil)))) (.cons (.ret (.tup (.cons (.var 4) (.cons (.bin .add (.var 2) (.var 5)) .nil)))) .nil)))⟩
abbrev aS(f_law_ask_more f_half_of f_how_many_halves f_every f_numbered f_how_many f_stacked f_plain:Nat):Fn :=
 ⟨2,2,[],[],(.cons (.ife (.cmp .eq (.var 0) (.cst (.int 0))) (.cons (.ret (.call f_plain (.cons (.var 1) .nil))) .nil) .nil) (.cons (.ife (.cmp .eq (.var 0) (.cst (.int 1))) (.cons (.ret (.call f_stacked (.cons (.var 1) (.cons (.lst (.cons (.tup (.cons (.cst (.int 0)) (.cons (.cst (.int 0)) .nil))) .nil)) .nil)))) .nil) .nil) (.cons (.ife (.cmp .eq (.var 0) (.cst (.int 2))) (.cons (.ret (.call f_how_many (.cons (.var 1) .nil))) .nil) .nil) (.cons (.ife (.cmp .eq (.var 0) (.cst (.int 3))) (.cons (.ret (.call f_numbered (.cons (.var 1) (.cons (.neg (.cst (.int 1))) .nil)))) .nil) .nil) (.cons (.ife (.cmp .eq (.var 0) (.cst (.int 4))) (.cons (.ret (.call f_every (.cons (.var 1) .nil))) .nil) .nil) (.cons (.ife (.cmp .eq (.var 0) (.cst (.int 5))) (.cons (.ret (.call f_how_many_halves (.cons (.var 1) (.cons (.cst (.int 3)) .nil)))) .nil) .nil) (.cons (.ife (.cmp .eq (.var 0) (.cst (.int 6))) (.cons (.ret (.call f_half_of (.cons (.var 1) (.cons (.cst (.int 0)) (.cons (.neg (.cst (.int 1))) .nil))))) .nil) .nil) (.cons (.ret (.call f_law_ask_more (.cons (.var 0) (.cons (.var 1) .nil)))) .nil))))))))⟩
abbrev bb(f_check_pegs f_bridge f_walked f_traded f_made f_hook:Nat):Fn :=
 ⟨2,2,[],[],(.cons (.ife (.cmp .eq (.var 0) (.cst (.int 7))) (.cons (.ret (.call f_hook (.cons (.var 1) (.cons (.cst (.int 99)) .nil)))) .nil) .nil) (.cons (.ife (.cmp .eq (.var 0) (.cst (.int 8))) (.cons (.ret (.call f_made (.cons (.var 1) (.cons (.lst (.cons (.cst (.int 99)) .nil)) .nil)))) .nil) .nil) (.cons (.ife (.cmp .eq (.var 0) (.cst (.int 9))) (.cons (.ret (.call f_traded (.cons (.var 1) (.cons (.cst (.int 0)) (.cons (.lst (.cons (.cst (.int 99)) .nil)) (.cons (.tup (.cons (.cst (.str "swap")) (.cons (.cst (.int 0)) .nil))) .nil)))))) .nil) .nil) (.cons (.ife (.cmp .eq (.var 0) (.cst (.int 10))) (.cons (.ret (.call f_walked (.cons (.var 1) (.cons (.cst (.int 0)) (.cons (.lst (.cons (.cst (.int 99)) .nil)) (.cons (.lst .nil) .nil)))))) .nil) .nil) (.cons (.ife (.cmp .eq (.var 0) (.cst (.int 11))) (.cons (.ret (.call f_bridge (.cons (.var 1) (.cons (.tup (.cons (.cst (.int 0)) (.cons (.frz (.lst (.cons (.cst (.int 99)) .nil))) .nil))) (.cons (.tup (.cons (.cst (.int 0)) (.cons (.frz (.lst .nil)) .nil))) .nil))))) .nil) .nil) (.cons (.ife (.cmp .eq (.var 0) (.cst (.int 12))) (.cons (.ret (.mkO "Loft" f_check_pegs (.var 1))) .nil) .nil) (.cons (.ife (.cmp .eq (.var 0) (.cst (.int 13))) (.cons (.ret (.call f_bridge (.cons (.var 1) (.cons (.tup (.cons (.cst (.int 0)) (.cons (.frz (.lst .nil)) .nil))) (.cons (.tup (.cons (.cst (.int 0)) (.cons (.frz (.lst (.cons (.cst (.int 99)) .nil))) .nil))) .nil))))) .nil) .nil) (.cons (.ret (.mkO "Desk" f_check_pegs (.var 1))) .nil))))))))⟩
abbrev gJ(f_law_ask f_law_kin:Nat):Fn :=
 ⟨2,4,[],[],(.cons (.asg 2 (.cst (.str ""))) (.cons (.tryc (.cons (.exc (.call f_law_ask (.cons (.var 0) (.cons (.var 1) .nil)))) .nil) "RibbonError" 3 (.cons (.asg 2 (.call f_law_kin (.cons (.var 3) .nil))) .nil)) (.cons (.ret (.var 2)) .nil)))⟩
abbrev js(f_law_word f_law_digits:Nat):Ss :=
 (.cons (.asg 7 (.ix (.var 1) (.var 4))) (.cons (.ife (.or (.not (.chain .lt .lt (.cst (.int 0)) (.var 3) (.cst (.int 11)))) (.and (.cmp .eq (.var 4) (.cst (.int 4))) (.cmp .gt (.var 3) (.cst (.int 6))))) (.cons (.asg 7 (.cst (.str "BadPegs"))) .nil) .nil) (.cons (.ife (.cmp .ne (.call f_law_word (.cons (.var 4) (.cons (.var 3) .nil))) (.var 7)) (.cons (.ret (.cst (.bl false))) .nil) .nil) .nil)))
abbrev rA(f_law_word f_law_digits:Nat):Ss :=
 (.cons (.unp [5,6] (.call f_law_digits (.cons (.var 0) (.cons (.var 2) (.cons (.lst (.cons (.cst (.int 6)) (.cons (.bin .pow (.cst (.int 10)) (.cst (.int 29))) .nil))) .nil))))) (.cons (.asg 3 (.ix (.lst (.cons (.cst (.int 0)) (.cons (.cst (.int 11)) (.cons (.bin .add (.cst (.int 11)) (.var 6)) (.cons (.bin .sub (.bin .sub (.cst (.int 0)) (.cst (.int 1))) (.var 6)) (.cons (.bin .add (.cst (.int 1)) (.bin .mod (.var 6) (.cst (.int 10)))) (.cons (.bin .add (.cst (.int 1)) (.bin .mod (.var 6) (.cst (.int 6)))) .nil))))))) (.var 5))) (.cons (.forr [4] (.rng1 (.cst (.int 15))) (js f_law_word f_law_digits)) .nil)))
abbrev wk(f_law_word f_law_digits:Nat):Fn :=
 ⟨1,8,[],[],(.cons (.asg 0 (.slT (.var 0) (.cst (.int 63)))) (.cons (.asg 1 (.lst (.cons (.cst (.str "")) (.cons (.cst (.str "BadFrame")) (.cons (.cst (.str "")) (.cons (.cst (.str "NoNumber")) (.cons (.cst (.str "")) (.cons (.cst (.str "")) (.cons (.cst (.str "NoNumber")) (.cons (.cst (.str "BadHook")) (.cons (.cst (.str "BadHook")) (.cons (.cst (.str "BadHook")) (.cons (.cst (.str "BadHook")) (.cons (.cst (.str "BadHook")) .nil)))))))))))))) (.cons (.asg 1 (.bin .add (.var 1) (.lst (.cons (.cst (.str "")) (.cons (.cst (.str "BadHook")) (.cons (.cst (.str "")) .nil)))))) (.cons (.forr [2] (.rng1 (.cst (.int 4))) (rA f_law_word f_law_digits)) (.cons (.ret (.cst (.bl true))) .nil)))))⟩
abbrev T:List Fn:=[fQ,cV 0,ie 1,mn 4,my 0,jU,Cu,qZ 5 14 3 1 9,lC 7,tY,pL 2,jC 14 6 12,l6 1,lB,pR 15 13 9,wZ,lr 8 2,sx 18,sU 10 20,tV 0,iJ 19 2,jL 26 2,j9 11 26 28 21,kF 22 21 2,eQ 0 26 2,ly 28 24,B6 27,rG,kH 0,nI 30,nZ 20,lX 32,gg 18,il,iw,hW 34,dG 35,aS 38 25 24 23 22 21 16 10,bb 2 31 30 29 18 17,gJ 37 33,wk 39 36]
abbrev cj:D:=.lst [.str "",.str "BadFrame",.str "",.str "NoNumber",.str "",.str "",.str "NoNumber",.str "BadHook",.str "BadHook",.str "BadHook",.str "BadHook",.str "BadHook",.str "",.str "BadHook",.str ""]
abbrev cT(n:Int):Prop:=∀ o0 o2 o4 o5 o6 o7:Option D,bL (aB (ax T 19) [] (js 39 36)) [4] (bw 0 15) [o0,some cj,o2,some (.int n),o4,o5,o6,o7]=some (.nx,[o0,some cj,o2,some (.int n),some (.int 14),o5,o6,some (.str (if 0<n/\n<11 then "" else "BadPegs"))])
def Au:cT 1:=fun o0 o2 o4 o5 o6 o7=>by kernel_rfl
def zO:cT 2:=fun o0 o2 o4 o5 o6 o7=>by kernel_rfl
def BS:cT 3:=fun o0 o2 o4 o5 o6 o7=>by kernel_rfl
def zA:cT 4:=fun o0 o2 o4 o5 o6 o7=>by kernel_rfl
def AA:cT 5:=fun o0 o2 o4 o5 o6 o7=>by kernel_rfl
abbrev g6(i:Nat):Bool:=match ax T 16 22 [.int 6,.int (i:Nat)]with
 | some d=>d.imm
 | none=>false
def D7:(List.range' 0 22).all g6=true:=by kernel_rfl
def DL:(List.range' 22 22).all g6=true:=by kernel_rfl
def Du:(List.range' 44 22).all g6=true:=by kernel_rfl
def DN:(List.range' 66 22).all g6=true:=by kernel_rfl
def Dv:(List.range' 88 22).all g6=true:=by kernel_rfl
def D4:(List.range' 110 22).all g6=true:=by kernel_rfl
end K07
set_option maxHeartbeats 1000000
namespace K32
open RL RT
open RM
section
variable{cl:Cl}
def lG(h:ev cl σ a=some (.lst xs))(tf:aI a=true)(im:ar xs=true):ev cl σ (.frz a)=some (.fL xs):=by
 show(ev cl σ a).bind _=_;rw[h,Option.bind_some,if_pos tf];exact if_pos im
end
end K32
set_option maxHeartbeats 1000000
namespace K32
open RL RT RM
section
variable{cl:Cl}{n r:Nat}{row:List Nat}
section
variable{p q:List Nat}{h:Nat}{w:PySem.Str}{bs:List Int}
end
end
end K32
set_option maxHeartbeats 1000000
namespace K32
open RL RT RM
section
variable{cl:Cl}{n r:Nat}{row:List Nat}{w:PySem.Str}{bs:List Int}
end
section
variable{cl:Cl}{n r:Nat}{row:List Nat}
variable{p q:List Nat}{h x:Nat}
end
end K32
set_option maxHeartbeats 1000000
namespace K32
open RL RT RM
section
variable{cl:Cl}{n r:Nat}{p q:List Nat}{h x:Nat}
end
section
variable{n r r':Nat}{row row':List Nat}
end
end K32
set_option maxHeartbeats 1000000
namespace K32
open RL RT RM
def rI:∀ (n a:Nat),bw (a:Int) n=L (List.range' a n)
 | 0,_=>rfl
 | n+1,a=>by
  rw[bw,List.range'_succ];show D.int (a:Int)::bw ((a:Int)+1) n=D.int (a:Int)::L (List.range' (a+1) n);rw[<-rI n (a+1)];rfl
def Bn{n:Nat}(h:n<=10000):dX (.int 0) (.int n)=some (L (List.range n)):=by
 show(if((n:Int)-0).toNat<=most/\-(2 ^ 60)<=(0:Int)/\(0:Int)<2 ^ 60/\-(2 ^ 60)<=(n:Int)/\(n:Int)<2 ^ 60 then some (bw 0 ((n:Int)-0).toNat)else none)=_
 have q:(2:Int) ^ 60=1152921504606846976:=by decide
 rw[q,if_pos ⟨by unfold most;omega,by omega,by omega,by omega,by omega⟩,show((n:Int)-0).toNat=n by omega,List.range_eq_range'];exact congrArg some (rI n 0)
def BY{ns:List Int}(hl:ns.length<=63):mM (.scr (LI ns)) (.int 63)=some (.lst (LI ns)):=by
 show some (D.lst ((LI ns).take (cutAt (LI ns).length 63)))=_;rw[List.take_of_length_le];rw[rW];unfold cutAt;rw[if_pos (by decide)];show ns.length<=min 63 ns.length;omega
section
variable{cl:Cl}{n r:Nat}{row:List Nat}{F:St->Option (Option D)}{σ:St}{i:Nat}
def md{b:Nat}(h:0<b)(far:Nat):bg .mod (.int (far:Nat)) (.int (b:Nat))=some (.int ((far%b:Nat):Int)):=by
 rw[iE (by omega)];rfl
end
end K32
namespace K07
open RL RT RM
def zZ(i:Nat)(h:i<132):g6 i=true:=by
 have key:∀ a,(List.range' a 22).all g6=true->a<=i->i<a+22->g6 i=true:=fun a e h1 h2=>List.all_eq_true.mp e i (by rw[List.mem_range'_1];exact⟨h1,h2⟩);by_cases h1:i<22
 ·exact key 0 D7 (by omega) (by omega)
 by_cases h2:i<44
 ·exact key 22 DL (by omega) (by omega)
 by_cases h3:i<66
 ·exact key 44 Du (by omega) (by omega)
 by_cases h4:i<88
 ·exact key 66 DN (by omega) (by omega)
 by_cases h5:i<110
 ·exact key 88 Dv (by omega) (by omega)
 ·exact key 110 D4 (by omega) (by omega)
def zQ:∀ (xs:List Nat),(∀ i∈xs,i<132)->∃ ys,dU (fun σ1=>(ev (ax T 16) σ1 (.call 22 (.cons (.var 0) (.cons (.var 1) .nil)))).map some) [1] [some (.int 6),none] (L xs)=some ys/\ar ys=true
 | [],_=>⟨[],rfl,rfl⟩
 | x::r,h=>by
  obtain⟨ys,e,im⟩:=zQ r fun i hi=>h i (by simp[hi]);have q:=zZ x (h x (by simp));unfold g6 at q;split at q
  ·rename_i d hd;refine⟨d::ys,?_,by rw[ar,q,im];rfl⟩;show(bY [1] (.int (x:Nat)) [some (.int 6),none]).bind _=_;rw[nt,Option.bind_some];show((ev (ax T 16) [some (.int 6),some (.int (x:Nat))] (.call 22 (.cons (.var 0) (.cons (.var 1) .nil)))).map some).bind _=_;rw[qH (aa rfl) (aa rfl) hd];show(dU _ [1] [some (.int 6),none] (L r)).bind _=_;rw[e];show(if d.imm=true then some (d::ys)else none)=_;rw[if_pos q]
  ·cases q
def cp6:ax T 16 2 [.int 6]=some .non:=by kernel_rfl
def hm6:ax T 16 21 [.int 6]=some (.int 132):=by kernel_rfl
def Ax:∃ ys,ar ys=true/\ax T 17 23 [.int 6]=some (.lst ys):=by
 obtain⟨ys,e,im⟩:=zQ (List.range 132) fun i hi=>by simpa using hi
 exact⟨ys,im,(bP (fn:=kF 22 21 2) rfl).trans (cZ rfl rfl (sf (kI (aa rfl) cp6) (da (ao (ah (aa rfl) C7 rfl)) (eE (x8 (jo (kI (aa rfl) hm6) (K32.Bn (n:=132) (by omega))) (by simp[L,most]) e) (by simp[ed,bF,im,aI])))))⟩
def xw:ax T 19 39 [.int 4,.int 6]=some (.str ""):=by
 obtain⟨ys,im,e⟩:=Ax;have ask:ax T 18 37 [.int 4,.int 6]=some (.lst ys):=(bP (fn:=aS 38 25 24 23 22 21 16 10) rfl).trans (cZ rfl rfl (da (ao (ah (aa rfl) af rfl)) (da (ao (ah (aa rfl) af rfl)) (da (ao (ah (aa rfl) af rfl)) (da (ao (ah (aa rfl) af rfl)) (oG (ao (ah (aa rfl) af rfl)) (eE (kI (aa rfl) e) (by simp[ed,bF,im,aI]))))))));exact(bP (fn:=gJ 37 33) rfl).trans (cZ rfl rfl (bJ af rfl (B1 (sf (qH (aa rfl) (aa rfl) ask) cY) (eE (aa rfl) rfl))))
def xv:ax T 19 39 [.int 0,.int 6]=some (.str ""):=by kernel_rfl
def yA:ax T 19 39 [.int 1,.int 6]=some (.str "BadFrame"):=by kernel_rfl
def xC:ax T 19 39 [.int 2,.int 6]=some (.str ""):=by kernel_rfl
def yU:ax T 19 39 [.int 3,.int 6]=some (.str "NoNumber"):=by kernel_rfl
def yp:ax T 19 39 [.int 5,.int 6]=some (.str ""):=by kernel_rfl
def ym:ax T 19 39 [.int 6,.int 6]=some (.str "NoNumber"):=by kernel_rfl
def xl:ax T 19 39 [.int 7,.int 6]=some (.str "BadHook"):=by kernel_rfl
def xi:ax T 19 39 [.int 8,.int 6]=some (.str "BadHook"):=by kernel_rfl
def yg:ax T 19 39 [.int 9,.int 6]=some (.str "BadHook"):=by kernel_rfl
def ue:ax T 19 39 [.int 10,.int 6]=some (.str "BadHook"):=by kernel_rfl
def uL:ax T 19 39 [.int 11,.int 6]=some (.str "BadHook"):=by kernel_rfl
def uz:ax T 19 39 [.int 12,.int 6]=some (.str ""):=by kernel_rfl
def vI:ax T 19 39 [.int 13,.int 6]=some (.str "BadHook"):=by kernel_rfl
def vP:ax T 19 39 [.int 14,.int 6]=some (.str ""):=by kernel_rfl
def st6(d:Nat)(s:PySem.Str)(h:ax T 19 39 [.int (d:Nat),.int 6]=some (.str s))(hs:ixV cj (.int (d:Nat))=some (.str s))(o0 o2 o4 o5 o6 o7:Option D):(bY [4] (.int (d:Nat)) [o0,some cj,o2,some (.int 6),o4,o5,o6,o7]).bind (aB (ax T 19) [] (js 39 36))=some (.nx,[o0,some cj,o2,some (.int 6),some (.int (d:Nat)),o5,o6,some (.str s)]):=by
 rw[nt,Option.bind_some]
 have no:ev (ax T 19) [o0,some cj,o2,some (.int 6),some (.int (d:Nat)),o5,o6,some (.str s)] (.and (.cmp .eq (.var 4) (.cst (.int 4))) (.cmp .gt (.var 3) (.cst (.int 6))))=some (.bl false):=by
  by_cases h4:d=4
  ·subst h4;exact qW (ah (aa rfl) af rfl) (ah (aa rfl) af rfl)
  ·exact mP (ah (aa rfl) af (by show some (_ == _)=_;rw[beq_eq_false_iff_ne.mpr (by omega)]))
 exact bJ (pW (aa rfl) (aa rfl) hs) rfl (da (ao (D0 (ma (k:=true) (pF af (aa rfl) af rfl rfl)) no)) (da (ao (ah (qH (aa rfl) (aa rfl) h) (aa rfl) (by show some (!(_ == _))=_;rw[beq_self_eq_true];rfl))) cY))
def lp1{f:St->Option (Out × St)}(h:(bY tg d σ).bind f=some (.nx,σ1))(im:d.imm=true)(k:bL f tg r σ1=res):bL f tg (d::r) σ=res:=by
 rw[bL,if_pos im];obtain⟨σ0,e1,e2⟩:=Option.bind_eq_some_iff.mp h;rw[e1,Option.bind_some,e2,Option.bind_some];exact k
def zD:cT 6:=fun o0 o2 o4 o5 o6 o7=>by
 show bL _ [4] (bw 0 15) _=some (.nx,[o0,some cj,o2,some (.int 6),some (.int 14),o5,o6,some (.str "")]);exact lp1 (st6 0 _ xv rfl o0 o2 _ o5 o6 _) rfl (lp1 (st6 1 _ yA rfl o0 o2 _ o5 o6 _) rfl (lp1 (st6 2 _ xC rfl o0 o2 _ o5 o6 _) rfl (lp1 (st6 3 _ yU rfl o0 o2 _ o5 o6 _) rfl (lp1 (st6 4 _ xw rfl o0 o2 _ o5 o6 _) rfl (lp1 (st6 5 _ yp rfl o0 o2 _ o5 o6 _) rfl (lp1 (st6 6 _ ym rfl o0 o2 _ o5 o6 _) rfl (lp1 (st6 7 _ xl rfl o0 o2 _ o5 o6 _) rfl (lp1 (st6 8 _ xi rfl o0 o2 _ o5 o6 _) rfl (lp1 (st6 9 _ yg rfl o0 o2 _ o5 o6 _) rfl (lp1 (st6 10 _ ue rfl o0 o2 _ o5 o6 _) rfl (lp1 (st6 11 _ uL rfl o0 o2 _ o5 o6 _) rfl (lp1 (st6 12 _ uz rfl o0 o2 _ o5 o6 _) rfl (lp1 (st6 13 _ vI rfl o0 o2 _ o5 o6 _) rfl (lp1 (st6 14 _ vP rfl o0 o2 _ o5 o6 _) rfl (AL)))))))))))))))
def AQ:cT 7:=fun o0 o2 o4 o5 o6 o7=>by kernel_rfl
def Ar:cT 8:=fun o0 o2 o4 o5 o6 o7=>by kernel_rfl
def Bk:cT 9:=fun o0 o2 o4 o5 o6 o7=>by kernel_rfl
def yQ:cT 10:=fun o0 o2 o4 o5 o6 o7=>by kernel_rfl
def dg:Dg T 34 35 36:=⟨rfl,rfl,rfl⟩
def num(m:Nat)(i:Int):ax T (m+1) 0 [.int i]=some (.bl true):=(bP (fn:=fQ) rfl).trans (lD i)
section
variable{z:Int}
def zW{cl:Cl}{i:Int}:ev cl σ (.glb y i)=some (.int i):=rfl
def wX{cl:Cl}(h:ev cl σ e=some d)(k:Rx cl σ e' c):Rx cl σ (.call f (.cons e (.cons e' .nil))) c:=by
 refine⟨?_,?_⟩
 ·rw[ik];show((ev cl σ e).bind fun d=>((ev cl σ e').bind fun d=>_).map _).bind _=_;rw[h,Option.bind_some,k.1];rfl
 ·have e0:evs cl σ (.cons e (.cons e' .nil))=none:=by
   show(ev cl σ e).bind _=_;rw[h,Option.bind_some];show((ev cl σ e').bind _).map _=_;rw[k.1];rfl
  show(match evs cl σ (.cons e (.cons e' .nil))with | some ds=>clX cl f ds | none=>gW cl σ (.cons e (.cons e' .nil)))=_;rw[e0];show(match ev cl σ e with | some _=>gW cl σ (.cons e' .nil) | none=>evX cl σ e)=_;rw[h];show(match ev cl σ e' with | some _=>gW cl σ .nil | none=>evX cl σ e')=_;rw[k.1];exact k.2
def BZ{cl:Cl}(h:Rx cl σ e c):Rr cl M (.cons (.unp is e) r) σ c σ:=gh (by rw[qA,h.1];rfl) (by show(evX cl σ e).map _=_;rw[h.2];rfl)
def Ce{cl:Cl}(h:Rx cl σ e c):Rr cl M (.cons (.ifr o e e' a b) r) σ c σ:=gh (by
  rw[C4,wK,h.1];rfl) (by
  show(match ev cl σ e with | some _=>(evX cl σ e').map fun z=>(z,σ) | none=>(evX cl σ e).map fun z=>(z,σ))=_
  rw[h.1,h.2];rfl)
def wL{cl:Cl}(h:ev cl σ e=some d)(k:Rc cl f [d] c):Rx cl σ (.mkO n f e) c:=by
 refine⟨?_,?_⟩
 ·rw[CV,h,Option.bind_some,k.1];rfl
 ·show(ev cl σ e).bind _=_;rw[h,Option.bind_some];unfold clX;rw[k.2];rfl
variable(hz:¬ (1<=z/\z<=10))
include hz
def bp(m:Nat):Rc (ax T (m+3)) 2 [.int z] "BadPegs" := by
 have e:ax T (m+2) 1 [.int z]=some (.bl false):=(bP (fn:=cV 0) rfl).trans ((je (num m) z).trans (by rw[decide_eq_false hz]));exact aO (fn:=ie 1) rfl (by decide) rfl rfl (cG (ao (ma (kI (aa rfl) e))) (zK (au zW aP) (by show(written (.int ((10:Nat):Int))&&true)=true;rw[so (by omega)];rfl)))
def xE(m:Nat):Rc (ax T (m+4)) 10 [.int z] "BadPegs" := aO (fn:=pL 2) rfl (by decide) rfl rfl (dJ (fO (aa rfl) (bp hz m)))
def rD(m:Nat)(d:D):Rc (ax T (m+4)) 16 [.int z,d] "BadPegs" := aO (fn:=lr 8 2) rfl (by decide) rfl rfl (dJ (fO (aa rfl) (bp hz m)))
def rC(m:Nat):Rc (ax T (m+4)) 21 [.int z] "BadPegs" := aO (fn:=jL 26 2) rfl (by decide) rfl rfl (dJ (fO (aa rfl) (bp hz m)))
def qv(m:Nat)(d:D):Rc (ax T (m+5)) 22 [.int z,d] "BadPegs" := aO (fn:=j9 11 26 28 21) rfl (by decide) rfl rfl (dJ (wX (aa rfl) (fO (aa rfl) (rC hz m))))
def ye(m:Nat):Rc (ax T (m+4)) 23 [.int z] "BadPegs" := aO (fn:=kF 22 21 2) rfl (by decide) rfl rfl (dJ (fO (aa rfl) (bp hz m)))
def nM(m:Nat)(d:D):Rc (ax T (m+4)) 24 [.int z,d] "BadPegs" := aO (fn:=eQ 0 26 2) rfl (by decide) rfl rfl (dJ (fO (aa rfl) (bp hz m)))
def As(m:Nat)(d d':D):Rc (ax T (m+5)) 25 [.int z,d,d'] "BadPegs" := aO (fn:=ly 28 24) rfl (by decide) rfl rfl (dJ (wX (aa rfl) (cy (aa rfl) (aa rfl) (nM hz m d))))
def wt(m:Nat)(d:D):Rc (ax T (m+4)) 20 [.int z,d] "BadPegs" := aO (fn:=iJ 19 2) rfl (by decide) rfl rfl (dJ (fO (aa rfl) (bp hz m)))
def mU(m:Nat)(d:D):Rc (ax T (m+5)) 18 [.int z,d] "BadPegs" := aO (fn:=sU 10 20) rfl (by decide) rfl rfl (dJ (cy (aa rfl) (aa rfl) (wt hz m d)))
def zY(m:Nat)(d:D):Rc (ax T (m+6)) 17 [.int z,d] "BadPegs" := aO (fn:=sx 18) rfl (by decide) rfl rfl (bo (DJ (cy (aa rfl) (cE (au (aa rfl) aP)) (mU hz m _))))
def lW(m:Nat)(a b c:D):Rc (ax T (m+5)) 30 [.int z,a,b,c] "BadPegs" := aO (fn:=nZ 20) rfl (by decide) rfl rfl (dJ (cy (aa rfl) (aa rfl) (wt hz m b)))
def uT(m:Nat)(a b c:D):Rc (ax T (m+6)) 29 [.int z,a,b,c] "BadPegs" := aO (fn:=nI 30) rfl (by decide) rfl rfl (bo (eC (au (aa rfl) (au (aa rfl) (au (aa rfl) (au (cE (au (aa rfl) aP)) aP)))) (lW hz m a b _)))
def BM(m:Nat)(xs:List D)(hx:ar xs=true):Rc (ax T (m+6)) 32 [.int z,.tup [.int 0,.fL xs]] "BadPegs" := by
 have im:ar [D.int 0,.fL xs]=true:=by simp[ar,D.imm,hx]
 exact aO (fn:=gg 18) rfl (by decide) rfl rfl (Bj (by rw[qA];show(some (D.tup [.int 0,.fL xs])).bind _=_;rw[Option.bind_some];show(if ar [D.int 0,.fL xs]=true then _ else none)=_;rw[if_pos im];rfl) (BZ (cy (aa rfl) (aa rfl) (mU hz m _))))
def mQ(m:Nat)(xs:List D)(hx:ar xs=true)(d:D):Rc (ax T (m+7)) 31 [.int z,.tup [.int 0,.fL xs],d] "BadPegs" := aO (fn:=lX 32) rfl (by decide) rfl rfl (Ce (cy (aa rfl) (aa rfl) (BM hz m xs hx)))
def cR:∀ d:Nat,7<=d->d<15->Rc (ax T 17) 38 [.int (d:Nat),.int z] "BadPegs"
 | 7,_,_=>aO (fn:=bb 2 31 30 29 18 17) rfl (by decide) rfl rfl (cG (ao (ah (aa rfl) af rfl)) (bo (cy (aa rfl) af (zY hz 10 _))))
 | 8,_,_=>aO (fn:=bb 2 31 30 29 18 17) rfl (by decide) rfl rfl (ay (ao (ah (aa rfl) af rfl)) (cG (ao (ah (aa rfl) af rfl)) (bo (cy (aa rfl) (cE (au af aP)) (mU hz 11 _)))))
 | 9,_,_=>aO (fn:=bb 2 31 30 29 18 17) rfl (by decide) rfl rfl (ay (ao (ah (aa rfl) af rfl)) (ay (ao (ah (aa rfl) af rfl)) (cG (ao (ah (aa rfl) af rfl)) (bo (eC (au (aa rfl) (au af (au (cE (au af aP)) (au (iD (au af (au af aP))) aP)))) (uT hz 10 _ _ _))))))
 | 10,_,_=>aO (fn:=bb 2 31 30 29 18 17) rfl (by decide) rfl rfl (ay (ao (ah (aa rfl) af rfl)) (ay (ao (ah (aa rfl) af rfl)) (ay (ao (ah (aa rfl) af rfl)) (cG (ao (ah (aa rfl) af rfl)) (bo (eC (au (aa rfl) (au af (au (cE (au af aP)) (au (cE aP) aP)))) (lW hz 11 _ _ _)))))))
 | 11,_,_=>aO (fn:=bb 2 31 30 29 18 17) rfl (by decide) rfl rfl (ay (ao (ah (aa rfl) af rfl)) (ay (ao (ah (aa rfl) af rfl)) (ay (ao (ah (aa rfl) af rfl)) (ay (ao (ah (aa rfl) af rfl)) (cG (ao (ah (aa rfl) af rfl)) (bo (eC (au (aa rfl) (au (iD (au af (au (K32.lG (cE (au af aP)) rfl rfl) aP))) (au (iD (au af (au (K32.lG (cE aP) rfl rfl) aP))) aP))) (mQ hz 9 _ rfl _))))))))
 | 12,_,_=>aO (fn:=bb 2 31 30 29 18 17) rfl (by decide) rfl rfl (ay (ao (ah (aa rfl) af rfl)) (ay (ao (ah (aa rfl) af rfl)) (ay (ao (ah (aa rfl) af rfl)) (ay (ao (ah (aa rfl) af rfl)) (ay (ao (ah (aa rfl) af rfl)) (cG (ao (ah (aa rfl) af rfl)) (bo (wL (aa rfl) (bp hz 13)))))))))
 | 13,_,_=>aO (fn:=bb 2 31 30 29 18 17) rfl (by decide) rfl rfl (ay (ao (ah (aa rfl) af rfl)) (ay (ao (ah (aa rfl) af rfl)) (ay (ao (ah (aa rfl) af rfl)) (ay (ao (ah (aa rfl) af rfl)) (ay (ao (ah (aa rfl) af rfl)) (ay (ao (ah (aa rfl) af rfl)) (cG (ao (ah (aa rfl) af rfl)) (bo (eC (au (aa rfl) (au (iD (au af (au (K32.lG (cE aP) rfl rfl) aP))) (au (iD (au af (au (K32.lG (cE (au af aP)) rfl rfl) aP))) aP))) (mQ hz 9 _ rfl _))))))))))
 | 14,_,_=>aO (fn:=bb 2 31 30 29 18 17) rfl (by decide) rfl rfl (ay (ao (ah (aa rfl) af rfl)) (ay (ao (ah (aa rfl) af rfl)) (ay (ao (ah (aa rfl) af rfl)) (ay (ao (ah (aa rfl) af rfl)) (ay (ao (ah (aa rfl) af rfl)) (ay (ao (ah (aa rfl) af rfl)) (ay (ao (ah (aa rfl) af rfl)) (bo (wL (aa rfl) (bp hz 13))))))))))
def yi:∀ d:Nat,d<15->Rc (ax T 18) 37 [.int (d:Nat),.int z] "BadPegs"
 | 0,_=>aO (fn:=aS 38 25 24 23 22 21 16 10) rfl (by decide) rfl rfl (cG (ao (ah (aa rfl) af rfl)) (bo (fO (aa rfl) (xE hz 13))))
 | 1,_=>aO (fn:=aS 38 25 24 23 22 21 16 10) rfl (by decide) rfl rfl (ay (ao (ah (aa rfl) af rfl)) (cG (ao (ah (aa rfl) af rfl)) (bo (cy (aa rfl) (cE (au (iD (au af (au af aP))) aP)) (rD hz 13 _)))))
 | 2,_=>aO (fn:=aS 38 25 24 23 22 21 16 10) rfl (by decide) rfl rfl (ay (ao (ah (aa rfl) af rfl)) (ay (ao (ah (aa rfl) af rfl)) (cG (ao (ah (aa rfl) af rfl)) (bo (fO (aa rfl) (rC hz 13))))))
 | 3,_=>aO (fn:=aS 38 25 24 23 22 21 16 10) rfl (by decide) rfl rfl (ay (ao (ah (aa rfl) af rfl)) (ay (ao (ah (aa rfl) af rfl)) (ay (ao (ah (aa rfl) af rfl)) (cG (ao (ah (aa rfl) af rfl)) (bo (cy (aa rfl) (wO af) (qv hz 12 _)))))))
 | 4,_=>aO (fn:=aS 38 25 24 23 22 21 16 10) rfl (by decide) rfl rfl (ay (ao (ah (aa rfl) af rfl)) (ay (ao (ah (aa rfl) af rfl)) (ay (ao (ah (aa rfl) af rfl)) (ay (ao (ah (aa rfl) af rfl)) (cG (ao (ah (aa rfl) af rfl)) (bo (fO (aa rfl) (ye hz 13))))))))
 | 5,_=>aO (fn:=aS 38 25 24 23 22 21 16 10) rfl (by decide) rfl rfl (ay (ao (ah (aa rfl) af rfl)) (ay (ao (ah (aa rfl) af rfl)) (ay (ao (ah (aa rfl) af rfl)) (ay (ao (ah (aa rfl) af rfl)) (ay (ao (ah (aa rfl) af rfl)) (cG (ao (ah (aa rfl) af rfl)) (bo (cy (aa rfl) af (nM hz 13 _)))))))))
 | 6,_=>aO (fn:=aS 38 25 24 23 22 21 16 10) rfl (by decide) rfl rfl (ay (ao (ah (aa rfl) af rfl)) (ay (ao (ah (aa rfl) af rfl)) (ay (ao (ah (aa rfl) af rfl)) (ay (ao (ah (aa rfl) af rfl)) (ay (ao (ah (aa rfl) af rfl)) (ay (ao (ah (aa rfl) af rfl)) (cG (ao (ah (aa rfl) af rfl)) (bo (eC (au (aa rfl) (au af (au (wO af) aP))) (As hz 12 _ _))))))))))
 | 7,_=>aO (fn:=aS 38 25 24 23 22 21 16 10) rfl (by decide) rfl rfl (ay (ao (ah (aa rfl) af rfl)) (ay (ao (ah (aa rfl) af rfl)) (ay (ao (ah (aa rfl) af rfl)) (ay (ao (ah (aa rfl) af rfl)) (ay (ao (ah (aa rfl) af rfl)) (ay (ao (ah (aa rfl) af rfl)) (ay (ao (ah (aa rfl) af rfl)) (bo (cy (aa rfl) (aa rfl) (cR hz 7 (by omega) (by omega)))))))))))
 | 8,_=>aO (fn:=aS 38 25 24 23 22 21 16 10) rfl (by decide) rfl rfl (ay (ao (ah (aa rfl) af rfl)) (ay (ao (ah (aa rfl) af rfl)) (ay (ao (ah (aa rfl) af rfl)) (ay (ao (ah (aa rfl) af rfl)) (ay (ao (ah (aa rfl) af rfl)) (ay (ao (ah (aa rfl) af rfl)) (ay (ao (ah (aa rfl) af rfl)) (bo (cy (aa rfl) (aa rfl) (cR hz 8 (by omega) (by omega)))))))))))
 | 9,_=>aO (fn:=aS 38 25 24 23 22 21 16 10) rfl (by decide) rfl rfl (ay (ao (ah (aa rfl) af rfl)) (ay (ao (ah (aa rfl) af rfl)) (ay (ao (ah (aa rfl) af rfl)) (ay (ao (ah (aa rfl) af rfl)) (ay (ao (ah (aa rfl) af rfl)) (ay (ao (ah (aa rfl) af rfl)) (ay (ao (ah (aa rfl) af rfl)) (bo (cy (aa rfl) (aa rfl) (cR hz 9 (by omega) (by omega)))))))))))
 | 10,_=>aO (fn:=aS 38 25 24 23 22 21 16 10) rfl (by decide) rfl rfl (ay (ao (ah (aa rfl) af rfl)) (ay (ao (ah (aa rfl) af rfl)) (ay (ao (ah (aa rfl) af rfl)) (ay (ao (ah (aa rfl) af rfl)) (ay (ao (ah (aa rfl) af rfl)) (ay (ao (ah (aa rfl) af rfl)) (ay (ao (ah (aa rfl) af rfl)) (bo (cy (aa rfl) (aa rfl) (cR hz 10 (by omega) (by omega)))))))))))
 | 11,_=>aO (fn:=aS 38 25 24 23 22 21 16 10) rfl (by decide) rfl rfl (ay (ao (ah (aa rfl) af rfl)) (ay (ao (ah (aa rfl) af rfl)) (ay (ao (ah (aa rfl) af rfl)) (ay (ao (ah (aa rfl) af rfl)) (ay (ao (ah (aa rfl) af rfl)) (ay (ao (ah (aa rfl) af rfl)) (ay (ao (ah (aa rfl) af rfl)) (bo (cy (aa rfl) (aa rfl) (cR hz 11 (by omega) (by omega)))))))))))
 | 12,_=>aO (fn:=aS 38 25 24 23 22 21 16 10) rfl (by decide) rfl rfl (ay (ao (ah (aa rfl) af rfl)) (ay (ao (ah (aa rfl) af rfl)) (ay (ao (ah (aa rfl) af rfl)) (ay (ao (ah (aa rfl) af rfl)) (ay (ao (ah (aa rfl) af rfl)) (ay (ao (ah (aa rfl) af rfl)) (ay (ao (ah (aa rfl) af rfl)) (bo (cy (aa rfl) (aa rfl) (cR hz 12 (by omega) (by omega)))))))))))
 | 13,_=>aO (fn:=aS 38 25 24 23 22 21 16 10) rfl (by decide) rfl rfl (ay (ao (ah (aa rfl) af rfl)) (ay (ao (ah (aa rfl) af rfl)) (ay (ao (ah (aa rfl) af rfl)) (ay (ao (ah (aa rfl) af rfl)) (ay (ao (ah (aa rfl) af rfl)) (ay (ao (ah (aa rfl) af rfl)) (ay (ao (ah (aa rfl) af rfl)) (bo (cy (aa rfl) (aa rfl) (cR hz 13 (by omega) (by omega)))))))))))
 | 14,_=>aO (fn:=aS 38 25 24 23 22 21 16 10) rfl (by decide) rfl rfl (ay (ao (ah (aa rfl) af rfl)) (ay (ao (ah (aa rfl) af rfl)) (ay (ao (ah (aa rfl) af rfl)) (ay (ao (ah (aa rfl) af rfl)) (ay (ao (ah (aa rfl) af rfl)) (ay (ao (ah (aa rfl) af rfl)) (ay (ao (ah (aa rfl) af rfl)) (bo (cy (aa rfl) (aa rfl) (cR hz 14 (by omega) (by omega)))))))))))
def vM{d:Nat}(h:d<15):ax T 19 39 [.int (d:Nat),.int z]=some (.str "BadPegs"):=by
 have k:ax T 18 33 [.exc "BadPegs"]=some (.str "BadPegs"):=(bP (fn:=il) rfl).trans (Bq (by decide));exact(bP (fn:=gJ 37 33) rfl).trans (cZ rfl rfl (bJ af rfl (yE (dJ (cy (aa rfl) (aa rfl) (yi hz d h))) rfl (bJ (kI (aa rfl) k) rfl cY) (eE (aa rfl) rfl))))
def rJ:cT z:=fun o0 o2 o4 o5 o6 o7=>by
 have hb:(if 0<z/\z<11 then("" : PySem.Str)else "BadPegs") = "BadPegs" := if_neg (by omega);rw[hb]
 obtain⟨σ',e,hi⟩:=jF (f:=aB (ax T 19) [] (js 39 36)) (tg:=[4]) (xs:=List.range 15) (σ:=[o0,some cj,o2,some (.int z),o4,o5,o6,o7])
  (fun p σ=>if p=[]then σ=[o0,some cj,o2,some (.int z),o4,o5,o6,o7]else σ=[o0,some cj,o2,some (.int z),some (.int ((p.length-1:Nat):Int)),o5,o6,some (.str "BadPegs")]) (by rw[if_pos rfl]) (by
   rintro p x q σ hx hi
   have hxr:x<15:=by
    have:x∈List.range 15:=by rw[hx];simp
    simpa using this
   have hxp:x=p.length:=by
    have e1:(List.range 15)[p.length]?=some x:=by rw[hx];simp
    rw[List.getElem?_range (by have:=congrArg List.length hx;simp at this;omega)]at e1;exact(Option.some.inj e1).symm
   have st:∃ o4 o7,σ=[o0,some cj,o2,some (.int z),o4,o5,o6,o7]:=by
    by_cases hp:p=[]
    ·rw[if_pos hp]at hi;exact⟨_,_,hi⟩
    ·rw[if_neg hp]at hi;exact⟨_,_,hi⟩
   obtain⟨o4,o7,rfl⟩:=st
   have ix:∃ s:PySem.Str,ixV cj (.int (x:Nat))=some (.str s):=by
    clear hx hxp
    have:∀ x:Fin 15,∃ s:PySem.Str,ixV cj (.int (x.1:Nat))=some (.str s):=fun
     | ⟨0,_⟩=>⟨_,rfl⟩
     | ⟨1,_⟩=>⟨_,rfl⟩
     | ⟨2,_⟩=>⟨_,rfl⟩
     | ⟨3,_⟩=>⟨_,rfl⟩
     | ⟨4,_⟩=>⟨_,rfl⟩
     | ⟨5,_⟩=>⟨_,rfl⟩
     | ⟨6,_⟩=>⟨_,rfl⟩
     | ⟨7,_⟩=>⟨_,rfl⟩
     | ⟨8,_⟩=>⟨_,rfl⟩
     | ⟨9,_⟩=>⟨_,rfl⟩
     | ⟨10,_⟩=>⟨_,rfl⟩
     | ⟨11,_⟩=>⟨_,rfl⟩
     | ⟨12,_⟩=>⟨_,rfl⟩
     | ⟨13,_⟩=>⟨_,rfl⟩
     | ⟨14,_⟩=>⟨_,rfl⟩
    exact this ⟨x,hxr⟩
   obtain⟨s,ix⟩:=ix
   have no:ev (ax T 19) [o0,some cj,o2,some (.int z),some (.int (x:Nat)),o5,o6,some (.str s)] (.chain .lt .lt (.cst (.int 0)) (.var 3) (.cst (.int 11)))=some (.bl false):=by
    by_cases h0:0<z
    ·exact pF af (aa rfl) af (by show some (decide _)=_;rw[decide_eq_true h0]) (by show some (decide _)=_;rw[decide_eq_false (by omega)])
    ·exact vL af (aa rfl) (by show some (decide _)=_;rw[decide_eq_false h0])
   refine⟨[o0,some cj,o2,some (.int z),some (.int (x:Nat)),o5,o6,some (.str "BadPegs")],?_,?_⟩
   ·rw[nt,Option.bind_some];exact bJ (pW (aa rfl) (aa rfl) ix) rfl (r0 (ao (CT (ma no))) (bJ af rfl cY) (da (ao (ah (qH (aa rfl) (aa rfl) (vM hz hxr)) (aa rfl) rfl)) cY))
   ·rw[if_neg (by simp),List.length_append,hxp]
    rfl)
 rw[if_neg (by decide)]at hi;subst hi;exact e
end
def qe(n:Nat)(h1:1<=n)(h2:n<=10):cT (n:Nat):=by
 match n,h1,h2 with
 | 1,_,_=>exact Au
 | 2,_,_=>exact zO
 | 3,_,_=>exact BS
 | 4,_,_=>exact zA
 | 5,_,_=>exact AA
 | 6,_,_=>exact zD
 | 7,_,_=>exact AQ
 | 8,_,_=>exact Ar
 | 9,_,_=>exact Bk
 | 10,_,_=>exact yQ
def sg(z:Int):cT z:=by
 by_cases hz:1<=z/\z<=10
 ·obtain⟨n,rfl⟩:∃ n:Nat,z=(n:Nat):=⟨z.toNat,by omega⟩
  exact qe n (by omega) (by omega)
 ·exact rJ hz
def Cy(h:iY ds [a,b]):∃ x y,ds=[x,y]/\x<a/\y<b:=by
 obtain⟨h1,h2⟩:=h
 match ds,h1 with
 | [x,y],_=>exact⟨x,y,rfl,h2 0 x a rfl rfl,h2 1 y b rfl rfl⟩
def six(a b c d e f:Int):∀ m:Nat,m<6->∃ v:Int,cz [D.int a,.int b,.int c,.int d,.int e,.int f] (m:Nat)=some (.int v)
 | 0,_=>⟨_,rfl⟩
 | 1,_=>⟨_,rfl⟩
 | 2,_=>⟨_,rfl⟩
 | 3,_=>⟨_,rfl⟩
 | 4,_=>⟨_,rfl⟩
 | 5,_=>⟨_,rfl⟩
def main(ns:List Int)(hl:ns.length<=63):ax T 20 40 [.scr (ns.map D.int)]=some (.bl true):=by
 obtain⟨σ',e,o2,o3,o4,o5,o6,o7,rfl⟩:=jF (f:=aB (ax T 19) [] (rA 39 36)) (tg:=[2]) (xs:=List.range 4) (σ:=[some (.lst (LI ns)),some cj,none,none,none,none,none,none])
  (fun _ σ=>∃ o2 o3 o4 o5 o6 o7,σ=[some (.lst (LI ns)),some cj,o2,o3,o4,o5,o6,o7]) ⟨none,none,none,none,none,none,rfl⟩ (by
   rintro p x q σ hx ⟨o2,o3,o4,o5,o6,o7,rfl⟩
   have hxr:x<4:=by
    have:x∈List.range 4:=by rw[hx];simp
    simpa using this
   obtain⟨ds,hd,e1⟩:=dg.digits hl 16 (k:=x) (sizes:=[6,10 ^ 29]) (by omega) (by simp) (by simp);obtain⟨way,far,rfl,hw,hf⟩:=Cy hd;have pw:bg .pow (.int 10) (.int 29)=some (.int ((10 ^ 29:Nat):Int)):=Cn;obtain⟨z,hz⟩:=six 0 11 (11+(far:Int)) (0-1-(far:Int)) (1+((far%10:Nat):Int)) (1+((far%6:Nat):Int)) way (by omega)
   have b6:∀ {σ:St},(σ[6]?).bind id=some (.int (far:Nat))->ev (ax T 19) σ (.lst (.cons (.cst (.int 0)) (.cons (.cst (.int 11)) (.cons (.bin .add (.cst (.int 11)) (.var 6)) (.cons (.bin .sub (.bin .sub (.cst (.int 0)) (.cst (.int 1))) (.var 6)) (.cons (.bin .add (.cst (.int 1)) (.bin .mod (.var 6) (.cst (.int 10)))) (.cons (.bin .add (.cst (.int 1)) (.bin .mod (.var 6) (.cst (.int 6)))) .nil)))))))=some (.lst [.int 0,.int 11,.int (11+(far:Int)),.int (0-1-(far:Int)),.int (1+((far%10:Nat):Int)),.int (1+((far%6:Nat):Int))]):=fun h6 =>
    cE (au af (au af (au (aN af (aa h6) rfl) (au (aN (aN af af rfl) (aa h6) rfl) (au (aN af (aN (aa h6) af (K32.md (b:=10) (by omega) far)) rfl) (au (aN af (aN (aa h6) af (K32.md (b:=6) (by omega) far)) rfl) aP))))))
   refine⟨_,by rw[nt,Option.bind_some];exact zx (D6 (aa rfl) (aa rfl) (cE (au af (au (aN af af pw) aP))) e1) rfl rfl rfl (bJ (pW (b6 rfl) (aa rfl) hz) rfl (nq (jo af rfl) (sg z _ _ _ _ _ _) cY)),_,_,_,_,_,_,rfl⟩)
 exact(bP (fn:=wk 39 36) rfl).trans (cZ rfl rfl (bJ (Cd (aa rfl) af (K32.BY hl)) (by simp[eU,D.imm,bF,sr])
  (bJ (cE (au af (au af (au af (au af (au af (au af (au af (au af (au af (au af (au af (au af aP))))))))))))) rfl (bJ (aN (aa rfl) (cE (au af (au af (au af aP)))) rfl) rfl
  (nq (jo af (K32.Bn (n:=4) (by omega))) e (eE af rfl))))))
end K07
namespace L2
open PySem PySem.Spec PyProof.Rows
@[reducible]noncomputable def Key:=Sum Int Str
abbrev iA:Key->Value->Bool
 | .inl k,v=>Value.isInt k v
 | .inr x,v=>Value.isStrOf x v
abbrev D9(w:World):Key->Int
 | .inl k=>hashInt k
 | .inr x=>hashStr w x
def bI:∀ {k:Key} {v:Value},iA k v=true->(∃ i t,k=Sum.inl i/\v=Value.int i t)\/(∃ x t,k=Sum.inr x/\v=Value.str x t)
 | .inl i,v,h=>by
  obtain⟨t,e⟩:=Value.isInt_shape (k:=i) (v:=v) h;exact .inl ⟨i,t,rfl,e⟩
 | .inr x,v,h=>by
  obtain⟨t,e⟩:=Value.isStrOf_shape (x:=x) (v:=v) h;exact .inr ⟨x,t,rfl,e⟩
def rR(i:Int)(t:Tok):iA (.inl i) (.int i t)=true:=by simp[iA,Value.isInt]
def sq(x:Str)(t:Tok):iA (.inr x) (.str x t)=true:=by simp[iA,Value.isStrOf]
def A4(a b:Int):decide ((Sum.inl a:Key)=Sum.inl b)=(a == b):=by
 by_cases e:a=b
 ·subst e;simp
 ·have h:¬ (Sum.inl a:Key)=Sum.inl b:=fun q=>e (Sum.inl.inj q);rw[decide_eq_false h];exact(beq_eq_false_iff_ne.mpr e).symm
def t9(a b:Str):decide ((Sum.inr a:Key)=Sum.inr b)=decide (a=b):=by
 by_cases e:a=b
 ·subst e;simp
 ·have h:¬ (Sum.inr a:Key)=Sum.inr b:=fun q=>e (Sum.inr.inj q);rw[decide_eq_false h,decide_eq_false e]
def BH(a:Int)(b:Str):decide ((Sum.inl a:Key)=Sum.inr b)=false:=decide_eq_false (fun q=>nomatch q)
def A0(a:Str)(b:Int):decide ((Sum.inr a:Key)=Sum.inl b)=false:=decide_eq_false (fun q=>nomatch q)
abbrev bB(prog:Program)(w:World):PySem.KeyKind prog w Key where
 is:=iA
 hash:=D9 w
 inj:=fun v a b ha hb=>by
  rcases bI ha with⟨i,t,rfl,rfl⟩ | ⟨x,t,rfl,rfl⟩
  ·rcases bI hb with⟨j,u,rfl,e⟩ | ⟨y,u,rfl,e⟩
   ·injection e with e1 _;rw[e1]
   ·exact nomatch e
  ·rcases bI hb with⟨j,u,rfl,e⟩ | ⟨y,u,rfl,e⟩
   ·exact nomatch e
   ·injection e with e1 _;rw[e1]
 byValue:=fun k v h=>by
  rcases bI h with⟨i,t,rfl,rfl⟩ | ⟨x,t,rfl,rfl⟩<;>rfl
 pyHash:=fun hv h=>by
  rcases bI hv with⟨i,t,rfl,rfl⟩ | ⟨x,t,rfl,rfl⟩
  ·exact wpAny_pyHash_int h
  ·exact wpAny_pyHash_str h
 eqBool:=fun hu hv h=>by
  rcases bI hu with⟨i,t,rfl,rfl⟩ | ⟨x,t,rfl,rfl⟩
  ·rcases bI hv with⟨j,u,rfl,rfl⟩ | ⟨y,u,rfl,rfl⟩
   ·rw[A4]at h;exact wpAny_eqBool_int h
   ·rw[BH]at h;exact SeqAt.EqAt.int_str i t y u _ _ _ _ h
  ·rcases bI hv with⟨j,u,rfl,rfl⟩ | ⟨y,u,rfl,rfl⟩
   ·rw[A0]at h;exact SeqAt.EqAt.str_int x t j u _ _ _ _ h
   ·rw[t9]at h;exact wpAny_eqBool_str h
 «strs»:=fun k x t v h=>by
  rcases bI h with⟨i,u,rfl,e⟩ | ⟨y,u,rfl,e⟩
  ·exact nomatch e
  ·injection e with e1 _;subst e1;cases v<;>rfl
def oy(prog:Program)(w:World)(i:Int)(t:Tok):(bB prog w).is (.inl i) (.int i t)=true:=rR i t
def o8(prog:Program)(w:World)(x:Str)(t:Tok):(bB prog w).is (.inr x) (.str x t)=true:=sq x t
set_option genInjectivity true in
inductive V where
 | non | bl (b:Bool) | int (i:Int) | str (x:Str) | byt (b:Array UInt8) | flt (b:UInt64) | ref (a:Addr) | ty (n:String)
 deriving DecidableEq
abbrev RelV:V->Value->Prop
 | .non,u=>u=Value.none
 | .bl b,u=>u=Value.bool b
 | .int i,u=>∃ t,u=Value.int i t
 | .str x,u=>∃ t,u=Value.str x t
 | .byt b,u=>∃ t,u=Value.bytes b t
 | .flt b,u=>∃ t,u=Value.float b t
 | .ref a,u=>u=Value.ref a
 | .ty n,u=>u=Value.type n
@[reducible]noncomputable def Vals:List V->List Value->Prop:=Paired RelV
def Vals.length(r:Vals xs us):xs.length=us.length:=Paired.length r
def Vals.get:∀ {xs:List V} {us:List Value} {i:Nat} {x:V},Vals xs us->xs[i]?=some x->∃ u,us[i]?=some u/\RelV x u
 | _,_,_,_,.nil,e=>by simp at e
 | _,_,0,_,.cons r _,e=>by simp at e;subst e;exact⟨_,rfl,r⟩
 | _,_,i+1,x,.cons _ t,e=>by
  obtain⟨u,h1,h2⟩:=Vals.get (i:=i) (x:=x) t (by simpa using e);exact⟨u,by simpa using h1,h2⟩
def Vals.set(r:RelV x u):∀ {xs:List V} {us:List Value} (i:Nat),Vals xs us->Vals (xs.set i x) (us.set i u)
 | _,_,_,.nil=>.nil
 | _,_,0,.cons _ t=>.cons r t
 | _,_,i+1,.cons q t=>.cons q (Vals.set r i t)
def Vals.append:∀ {xs ys:List V} {us ws:List Value},Vals xs us->Vals ys ws->Vals (xs++ys) (us++ws)
 | _,_,_,_,.nil,s=>s
 | _,_,_,_,.cons r t,s=>.cons r (Vals.append t s)
def Vals.take:∀ {xs:List V} {us:List Value} (n:Nat),Vals xs us->Vals (xs.take n) (us.take n)
 | _,_,0,_=>.nil
 | _,_,_+1,.nil=>.nil
 | _,_,n+1,.cons r t=>.cons r (Vals.take n t)
def Vals.drop:∀ {xs:List V} {us:List Value} (n:Nat),Vals xs us->Vals (xs.drop n) (us.drop n)
 | _,_,0,r=>r
 | _,_,_+1,.nil=>.nil
 | _,_,n+1,.cons _ t=>Vals.drop n t
abbrev iU:Option V->Option Value->Prop
 | some v,some u=>RelV v u
 | none,none=>True
 | _,_=>False
abbrev KV:List (κ × V)->List (κ × Value)->Prop:=Paired fun(p:κ × V) (q:κ × Value)=>p.1=q.1/\RelV p.2 q.2
abbrev kV:Key->V
 | .inl i=>.int i
 | .inr x=>.str x
inductive HO where
  | lst (xs:List V)
  | tup (xs:List V)
  | dK (kvs:List (Key × V)) | dT (kvs:List (List Key × V))
  | set (S:Int->Bool) (n:Nat)
  | ins (C dx:Addr) (fs:List (Str × V))
  | own (x:Addr)
  | xd (fs:List (Str × V))
  | met (f x:Addr)
  | rng (lo hi:Int)
  | frz (o:Obj) (u:HO)
  | tbl (ps:Array Value)
  | ext (φ:Heap->Prop)
@[reducible]noncomputable def Hp:=Addr->Option HO
abbrev upd(H:Hp)(a:Addr)(o:HO):Hp:=fun b=>if b=a then some o else H b
def aC:upd H a o a=some o:=by unfold upd;rw[if_pos rfl]
def aw(h:b≠a):upd H a o b=H b:=by unfold upd;rw[if_neg h]
def i6{H:Hp}(h:H a=some o)(h':H b=some u)(d:o≠u):a≠b:=by
 intro e;subst e;rw[h]at h';exact d (Option.some.inj h')
def aF{H:Hp}(h:H a=some o)(h':H b=none):a≠b:=by
 intro e;subst e;rw[h]at h';cases h'
section
variable(P:Program)(w:World)
abbrev aU(H:Hp)(h:Heap)(a:Addr):HO->Prop
 | .lst xs=>xs.length<=sizeLine/\∃ (its:List Value) (n:Nat),Vals xs its/\h.get? a=some { cls:=.type "list",data:=.seq its.toArray n }
 | .tup xs=>xs.length<=sizeLine/\∃ its:List Value,Vals xs its/\IsTup h a its.toArray
 | .dK kvs=>kvs.length<=sizeLine/\(a == sysModules)=false/\∃ vs,KV kvs vs/\h.DictOf (bB P w) a vs
 | .dT kvs=>kvs.length<=sizeLine/\(a == sysModules)=false/\∃ xs:List (List Key × Addr × Value),
   Paired (fun(p:List Key × V) (q:List Key × Addr × Value)=>p.1=q.1/\H q.2.1=some (.tup (p.1.map kV))/\RelV p.2 q.2.2) kvs xs /\
   ∃ o es ep,h.get? a=some o/\o.ExactDict/\o.data=.dict es ep/\es.toList=xs.map (entryOfKey (tupleKind (bB P w)))/\(xs.map (·.1)).Nodup
 | .set S n=>h.SetOf (intKind P w) a S n
 | .ins C dx fs=>H dx=some (.own a)/\fs.length<=1000/\dx≠a/\h.get? a=some (PySem.W.instObj C dx) /\
   ∃ mA,h.Ns1 dx mA/\(∀ f,iU (fs.lookup f) (mA f))/\PySem.Within mA (fs.map (·.1))
 | .own _=>∃ o,h.get? a=some o
 | .xd fs=>∃ mA,h.Ns1 a mA/\∀ f,iU (fs.lookup f) (mA f)
 | .rng lo hi=>∃ t u v,h.get? a=some { cls:=.type "range",data:=.fields #[.int lo t,.int hi u,.int 1 v] }
 | .frz o u=>h.get? a=some o/\aU H h a u
 | .tbl ps=>h.get? a=some { cls:=.none,data:=.fields ps }
 | .met f x=>h.get? a=some (PySem.W.methodObj (.ref f) (.ref x))
 | .ext φ=>φ h/\(∃ o,h.get? a=some o)/\∀ h1 h2:Heap,φ h1->(∀ o,h1.get? a=some o->h2.get? a=some o)->φ h2
abbrev HOk(H:Hp)(h:Heap):Prop:=∀ a o,H a=some o->aU P w H h a o
end
section
variable{P:Program}{w:World}{H H':Hp}{h h':Heap}{a:Addr}{o:HO}
def aU.lt(x:aU P w H h a o):a<h.objs.size:=by
 cases o with
 | lst xs=>obtain⟨_,_,_,_,e⟩:=x;exact Heap.lt_size e
 | tup xs=>obtain⟨_,_,_,p⟩:=x;exact p.lt
 | dK kvs=>obtain⟨_,_,_,_,o,_,_,e,_⟩:=x;exact Heap.lt_size e
 | dT kvs=>obtain⟨_,_,_,_,o,_,_,e,_⟩:=x;exact Heap.lt_size e
 | set S n=>obtain⟨o,_,_,_,e,_⟩:=x;exact Heap.lt_size e
 | ins C dx fs=>obtain⟨_,_,_,e,_⟩:=x;exact Heap.lt_size e
 | own y=>obtain⟨_,e⟩:=x;exact Heap.lt_size e
 | xd fs=>obtain⟨_,⟨_,_,_,e,_⟩,_⟩:=x;exact Heap.lt_size e
 | rng lo hi=>obtain⟨_,_,_,e⟩:=x;exact Heap.lt_size e
 | frz ob u=>obtain⟨e,_⟩:=x;exact Heap.lt_size e
 | tbl ps=>exact Heap.lt_size (show h.get? a=some _ from x)
 | met f y=>exact Heap.lt_size (show h.get? a=some _ from x)
 | ext φ=>obtain⟨_,⟨_,e⟩,_⟩:=x;exact Heap.lt_size e
def Paired.uA:∀ {l₁:List α} {l₂:List β},Paired F l₁ l₂->(∀ a b,F a b->G a b)->Paired G l₁ l₂
 | _,_,.nil,_=>.nil
 | _,_,.cons r t,f=>.cons (f _ _ r) (Paired.uA t f)
def aU.gG(x:aU P w H h a o)(k:∀ b u,(b=a\/H b=some (.own a))->h.get? b=some u->h'.get? b=some u)
 (ho:∀ b,H b=some (.own a)->H' b=some (.own a))(ht:∀ b xs,H b=some (.tup xs)->H' b=some (.tup xs)):aU P w H' h' a o:=by
 induction o with
 | lst xs=>obtain⟨z,its,n,r,e⟩:=x;exact⟨z,its,n,r,k _ _ (.inl rfl) e⟩
 | tup xs=>obtain⟨z,its,r,ob,e,c⟩:=x;exact⟨z,its,r,ob,k _ _ (.inl rfl) e,c⟩
 | dK kvs=>obtain⟨z,y,vs,r,ob,es,ep,e,c⟩:=x;exact⟨z,y,vs,r,ob,es,ep,k _ _ (.inl rfl) e,c⟩
 |dT kvs=>
  obtain⟨z,y,xs,r,ob,es,ep,e,c⟩:=x;exact⟨z,y,xs,Paired.uA r fun p q z=>⟨z.1,ht _ _ z.2.1,z.2.2⟩,ob,es,ep,k _ _ (.inl rfl) e,c⟩
 | set S n=>obtain⟨ob,es,ep,t,e,c⟩:=x;exact⟨ob,es,ep,t,k _ _ (.inl rfl) e,c⟩
 |ins C dx fs=>
  obtain⟨d,z,ne,e,mA,⟨od,es,ep,e2,c⟩,r⟩:=x;exact⟨ho _ d,z,ne,k _ _ (.inl rfl) e,mA,⟨od,es,ep,k _ _ (.inr d) e2,c⟩,r⟩
 | own y=>obtain⟨ob,e⟩:=x;exact⟨ob,k _ _ (.inl rfl) e⟩
 | xd fs=>obtain⟨mA,⟨od,es,ep,e,c⟩,r⟩:=x;exact⟨mA,⟨od,es,ep,k _ _ (.inl rfl) e,c⟩,r⟩
 | rng lo hi=>obtain⟨t,u,v,e⟩:=x;exact⟨t,u,v,k _ _ (.inl rfl) e⟩
 | frz ob u ih=>obtain⟨e,q⟩:=x;exact⟨k _ _ (.inl rfl) e,ih q⟩
 |tbl ps=>
  have e:h.get? a=some { cls:=.none,data:=.fields ps }:=x;show h'.get? a=some { cls:=.none,data:=.fields ps };exact k a _ (.inl rfl) e
 |met f y=>
  have e:h.get? a=some (PySem.W.methodObj (.ref f) (.ref y)):=x;show h'.get? a=some (PySem.W.methodObj (.ref f) (.ref y));exact k a _ (.inl rfl) e
 | ext φ=>obtain⟨p,⟨o,e⟩,st⟩:=x;exact⟨st _ _ p fun o q=>k _ _ (.inl rfl) q,⟨o,k _ _ (.inl rfl) e⟩,st⟩
def HOk.lt(x:HOk P w H h)(e:H a=some o):a<h.objs.size:=(x a o e).lt
def HOk.fresh(x:HOk P w H h)(e:h.objs.size<=a):H a=none:=by
 cases q:H a with
 | none=>rfl
 | some u=>exact absurd (Nat.lt_of_lt_of_le (x.lt q) e) (Nat.lt_irrefl _)
def HOk.kept(x:HOk P w H h)(k:∀ b u,h.get? b=some u->h'.get? b=some u):HOk P w H h':=fun a o e =>
 (x a o e).gG (fun b u _ q=>k b u q) (fun _ q=>q) fun _ _ q=>q
def HOk.laid(x:HOk P w H h)(k:∀ b u,h.get? b=some u->h'.get? b=some u)(hp:h.objs.size<=a)(new:aU P w (upd H a o) h' a o):HOk P w (upd H a o) h':=fun b u e=>by
 have hn:=x.fresh hp;by_cases hb:b=a
 ·subst hb;rw[aC]at e;cases e;exact new
 ·rw[aw hb]at e
  exact(x b u e).gG (fun c v _ q=>k c v q) (fun c q=>by rw[aw (aF q hn)];exact q) fun c xs q=>by rw[aw (aF q hn)];exact q
end
abbrev Rd(H:Hp)(a:Addr)(u:HO):Prop:=H a=some u\/∃ o,H a=some (.frz o u)
def Rd.ok(r:Rd H a u)(x:HOk P w H h):aU P w H h a u:=by
 rcases r with r | ⟨o,r⟩
 ·exact x a u r
 ·obtain⟨_,q⟩:=x a _ r;exact q
abbrev Mut:Option HO->Prop
 | some (.lst _)=>True
 | some (.dK _)=>True
 | some (.dT _)=>True
 | some (.set _ _)=>True
 | some (.ins _ _ _)=>True
 | some (.ext _)=>True
 | _=>False
section
variable{P:Program}{w:World}{H:Hp}{h h':Heap}{x e:Addr}{o':HO}
def HOk.write(ok:HOk P w H h)(mu:Mut (H x))(he:e=x\/H e=some (.own x))(k:∀ b u,b≠e->h.get? b=some u->h'.get? b=some u)(heo:∃ u,h'.get? e=some u)
 (new:aU P w (upd H x o') h' x o'):HOk P w (upd H x o') h':=fun b u q=>by
 have nown:∀ c y,H c=some (.own y)->c≠x:=fun c y r z=>by subst z;rw[r]at mu;exact mu
 have ntup:∀ c xs,H c=some (.tup xs)->c≠x:=fun c xs r z=>by subst z;rw[r]at mu;exact mu
 by_cases hb:b=x
 ·subst hb;rw[aC]at q;cases q;exact new
 ·rw[aw hb]at q;by_cases hbe:b=e
  ·have q':H b=some (.own x):=by
    rcases he with z | z
    ·exact absurd (hbe.trans z) hb
    ·rw[hbe];exact z
   rw[q]at q';cases q';obtain⟨v,hv⟩:=heo;exact⟨v,by rw[hbe];exact hv⟩
  ·refine(ok b u q).gG (fun c v hc r=>k c v ?_ r) (fun c r=>by rw[aw (nown c b r)];exact r) fun c xs r=>by rw[aw (ntup c xs r)];exact r
   rcases hc with rfl | hc
   ·exact hbe
   ·rintro rfl;rcases he with z | z
    ·exact nown c b hc z
    ·rw[hc]at z;cases z;exact hb rfl
end
structure Un(fs ex:List Addr)(H H':Hp)(h h':Heap):Prop where
 keep:∀ b o,h.get? b=some o->H b=none->b∉fs->b∉ex->h'.get? b=some o
 slot:∀ b o,h.get? b=some o->H b=none->b∈fs->b∉ex->∃ sl,h'.get? b=some { o with slots:=sl }
 free:∀ b o,h.get? b=some o->H b=none->b∉ex->H' b=none
 there:∀ b o,h.get? b=some o->b∉ex->∃ o',h'.get? b=some o'
 di:∀ b xs,H b=some (.tup xs)->H' b=some (.tup xs)
 c9:∀ b o u,H b=some (.frz o u)->H' b=some (.frz o u)
 dh:∀ b ps,H b=some (.tbl ps)->∃ more,H' b=some (.tbl (ps++more))
section
variable{fs fs' ex ex':List Addr}{H H1 H2:Hp}{h h1 h2 h':Heap}{a x e:Addr}{o:HO}
def Un.any(u:Un fs ex H H1 h h1)(q:h.get? b=some ob)(n:H b=none)(hx:b∉ex):∃ sl,h1.get? b=some { ob with slots:=sl }:=by
 by_cases hb:b∈fs
 ·exact u.slot b ob q n hb hx
 ·exact⟨ob.slots,u.keep b ob q n hb hx⟩
def Un.kept(k:∀ b u,h.get? b=some u->h'.get? b=some u):Un fs ex H H h h' :=
 ⟨fun b ob q _ _ _=>k b ob q,fun b ob q _ _ _=>⟨ob.slots,k b ob q⟩,fun _ _ _ n _=>n,fun b ob q _=>⟨ob,k b ob q⟩,fun _ _ q=>q,fun _ _ _ q=>q,fun _ ps q=>⟨#[],by rw[q];simp⟩⟩
def Un.refl:Un fs ex H H h h:=Un.kept fun _ _ q=>q
def Un.laid(k:∀ b u,h.get? b=some u->h'.get? b=some u)(hp:h.objs.size<=a)(hn:H a=none):Un fs ex H (upd H a o) h h' where
 keep:=fun b u q _ _ _=>k b u q
 slot:=fun b u q _ _ _=>⟨u.slots,k b u q⟩
 free:=fun b u q n _=>by rw[aw (Nat.ne_of_lt (Nat.lt_of_lt_of_le (Heap.lt_size q) hp))];exact n
 there:=fun b u q _=>⟨u,k b u q⟩
 di:=fun b xs q=>by rw[aw (aF q hn)];exact q
 c9:=fun b u xs q=>by rw[aw (aF q hn)];exact q
 dh:=fun b ps q=>⟨#[],by rw[aw (aF q hn),q];simp⟩
def Un.write(mu:Mut (H x))(he:e=x\/H e=some (.own x))(k:∀ b u,b≠e->h.get? b=some u->h'.get? b=some u)(heo:∃ u,h'.get? e=some u):Un fs ex H (upd H x o) h h':=by
 have hx:∀ b,H b=none->b≠x:=fun b n z=>by subst z;rw[n]at mu;exact mu
 have hb:∀ b,H b=none->b≠e:=fun b n z=>by
  subst z;rcases he with r | r
  ·exact hx b n r
  ·rw[n]at r;cases r
 have hm:∀ b u,H b=some u->¬ Mut (some u)->b≠x:=fun b u q nm z=>by subst z;rw[q]at mu;exact nm mu
 refine⟨fun b u q n _ _=>k b u (hb b n) q,fun b u q n _ _=>⟨u.slots,k b u (hb b n) q⟩,fun b u q n _=>by rw[aw (hx b n)];exact n,fun b u q _=>?_,
  fun b xs q=>by rw[aw (hm b _ q fun z=>z)];exact q,fun b u xs q=>by rw[aw (hm b _ q fun z=>z)];exact q,fun b ps q=>⟨#[],by rw[aw (hm b _ q fun z=>z),q];simp⟩⟩
 by_cases hbe:b=e
 ·subst hbe;exact heo
 ·exact⟨u,k b u hbe q⟩
end
abbrev trk(h:Heap)(H:Hp):List Addr:=(List.range h.objs.size).filter fun a=>(H a).isSome
abbrev gI(h:Heap)(H:Hp):Heap:=PySem.W.hideAll h (trk h H)
def sR(h:Heap)(H:Hp):(gI h H).objs.size=h.objs.size:=PySem.W.hideAll_size _ _
def uU(e:h.get? b=some o)(n:H b=none):(gI h H).get? b=some o :=
 PySem.W.hideAll_get _ e fun hm=>by
  have q:(H b).isSome=true:=(List.mem_filter.mp hm).2;rw[n]at q;simp at q
def xp(e:(gI h H).get? b=some o):h.get? b=some o/\H b=none:=by
 have e':h.get? b=some o:=PySem.W.of_hideAll (trk h H) e;refine⟨e',?_⟩
 cases q:H b with
 | none=>rfl
 |some x=>
  have hm:b∈trk h H:=List.mem_filter.mpr ⟨List.mem_range.mpr (Heap.lt_size e'),by simp[q]⟩;have z:(gI h H).get? b=none:=PySem.W.hideAll_none (trk h H) hm;rw[z]at e;cases e
structure Mod(K:PySem.W.Frag)(mg:Str->Option Value)(base:Heap):Prop where
 kin:K.In base
 glob:base.Ns mainGlobals mg
 blt:∃ mb,base.Ns builtinsNs mb/\∀ x:Str,x ≠ "__name__" -> mb x=bootBuiltins x
 nolimit:base.NoLimit
structure Cx where
 prog:Program
 w:World
 K:PySem.W.Frag
 mg:Str->Option Value
 base:Heap
 A:Around
 N:List Str
 s₀:Shared
 H₀:Hp
 env:Env
 outer:List Env
 stack:List Env
 ex:List Addr
 fn:Str->Bool
 calm:Bool
 pn:List (Addr × Obj)
 xe:Value->Shared->Prop
abbrev frs(l:List Env):List Addr:=l.filterMap (·.frame)
@[reducible]noncomputable def Cx.fs(X:Cx):List Addr:=frs X.outer
abbrev Vis(sc:Scope)(x:Str):Prop:=sc.names.lookup x=some .local\/sc.names.lookup x=some .cell\/sc.names.lookup x=some .free
abbrev Loc(sc:Scope)(x:Str):Prop:=sc.names.lookup x=some .local\/sc.names.lookup x=some .cell
abbrev Look(env:Env)(h:Heap)(m:Str->Option Value)(x:Str)(u:Value):Prop :=
 (env.kindOf x=some .local/\m x=some u)\/((env.kindOf x=some .cell\/env.kindOf x=some .free)/\∃ c,env.cells.lookup x=some c/\h.IsCell c (some u))
abbrev HX(X:Cx):Prop:=X.A.handled=none\/∃ h o u vs,X.A.handled=some (.ref h)/\X.H₀ h=some (.frz o u)/\o.data=.fields vs/\vs[2]?=some .none
structure Cx.Ok(X:Cx):Prop where
 mod:Mod X.K X.mg X.base
 kind:X.env.scope.kind=.function
 glob:X.env.globals=mainGlobals
 blt:X.env.builtins=builtinsNs
 above:X.s₀.heap.objs.size<=X.env.locals
 inj:∀ x y c,X.env.cells.lookup x=some c->X.env.cells.lookup y=some c->x=y
 has:∀ x,(X.env.kindOf x=some .cell\/X.env.kindOf x=some .free)->∃ c,X.env.cells.lookup x=some c
 cab:∀ x c,X.fn x=true->X.env.cells.lookup x=some c->X.s₀.heap.objs.size<=c
 hd:(X.calm=true->X.A.handled=none)/\HX X
 frames:X.A.frames=some X.stack
 stk:X.stack=X.outer\/(X.stack=X.env::X.outer/\X.env.frame=some X.env.locals)
 exf:∀ b∈X.ex,b≠X.env.locals/\∀ x c,X.env.cells.lookup x=some c->c≠b
 bs:∀ b o,X.base.get? b=some o->X.s₀.heap.get? b=some o/\X.H₀ b=none
 bsz:X.base.objs.size<=X.s₀.heap.objs.size
 gY:∀ b o,X.base.get? b=some o->b∉X.ex
 gv:∀ b∈X.ex,b∉X.fs
 cN:X.s₀.heap.FunFrames X.base X.outer
 frf:∀ b∈X.fs,X.H₀ b=none
structure Inv(X:Cx)(pins:List (Addr × Obj))(σ:List (Option V))(H:Hp)(s:Shared):Prop where
 ok:X.Ok
 os:s.os=X.s₀.os
 bare:AllBare s.gens
 base:Un X.fs X.ex X.H₀ H X.s₀.heap s.heap
 loc:∃ m,s.heap.Ns X.env.locals m/\∀ (i:Nat) (x:Str) (v:V),X.N[i]?=some x->σ[i]?=some (some v)->Vis X.env.scope x->∃ u,RelV v u/\Look X.env s.heap m x u
 cell:∀ x c,X.env.cells.lookup x=some c->∃ v,s.heap.IsCell c v
 free:H X.env.locals=none
 bX:∀ x c,X.env.cells.lookup x=some c->H c=none
 pin:∀ p∈X.pn++pins,s.heap.get? p.1=some p.2/\H p.1=none/\p.1≠X.env.locals/\p.1∉X.fs/\∀ v,p.2.data≠.cell v
 hok:HOk X.prog X.w H s.heap
 len:σ.length=X.N.length
section
variable{X:Cx}{pins:List (Addr × Obj)}{σ:List (Option V)}{H H':Hp}{s:Shared}{h':Heap}
def Cx.Ok.De(ok:X.Ok)(e:X.base.get? b=some o):b∉X.fs:=fun hb=>by
 have:=(ok.cN.mem hb).1;rw[e]at this;cases this
def Inv.bs(I:Inv X pins σ H s):∀ b o,X.base.get? b=some o->s.heap.get? b=some o/\H b=none:=fun b o e =>
 ⟨I.base.keep b o (I.ok.bs b o e).1 (I.ok.bs b o e).2 (I.ok.De e) (I.ok.gY b o e),I.base.free b o (I.ok.bs b o e).1 (I.ok.bs b o e).2 (I.ok.gY b o e)⟩
def Inv.bk(I:Inv X pins σ H s):∀ b o,X.base.get? b=some o->s.heap.get? b=some o:=fun b o e=>(I.bs b o e).1
def Inv.mod(I:Inv X pins σ H s):Mod X.K X.mg X.base:=I.ok.mod
def Inv.kIn(I:Inv X pins σ H s):X.K.In s.heap:=I.ok.mod.kin.keeps I.bk
def Inv.lt(I:Inv X pins σ H s):X.env.locals<s.heap.objs.size:=let ⟨_,hn,_⟩:=I.loc;hn.lt
def Inv.sz(I:Inv X pins σ H s):X.s₀.heap.objs.size<=s.heap.objs.size:=Nat.le_trans I.ok.above (Nat.le_of_lt I.lt)
def Inv.DK(I:Inv X pins σ H s)(h:s.heap.objs.size<=a):a∉X.fs:=fun hb=>by
 obtain⟨_,o,ho,_⟩:=I.ok.cN.mem hb;exact absurd (Nat.lt_of_lt_of_le (Heap.lt_size ho) (Nat.le_trans I.sz h)) (Nat.lt_irrefl _)
def Inv.cne(I:Inv X pins σ H s):∀ x c,X.env.cells.lookup x=some c->c≠X.env.locals:=fun x c e z=>by
 obtain⟨v,o,ho,hd⟩:=I.cell x c e;obtain⟨m,⟨o',es,ep,ho',hd',_⟩,_⟩:=I.loc;rw[z,ho']at ho;cases ho;rw[hd']at hd;cases hd
def Inv.cN(I:Inv X pins σ H s):s.heap.FunFrames X.base X.outer:=by
 have all:∀ (l:List Env),(∀ b∈frs l,b∈X.fs)->X.s₀.heap.FunFrames X.base l->s.heap.FunFrames X.base l:=by
  intro l
  induction l with
  | nil=>intro _ _;trivial
  |cons env r ih=>
   intro hs hl;obtain⟨hk,⟨L,o,hf,hn,ho,hd⟩,hr⟩:=hl;have hL:L∈X.fs:=hs L (by unfold frs;rw[List.filterMap_cons,hf];exact List.mem_cons_self);obtain⟨sl,e⟩:=I.base.slot L o ho (I.ok.frf L hL) hL fun z=>I.ok.gv L z hL;exact⟨hk,⟨L,_,hf,hn,e,hd⟩,ih (fun b hb=>hs b (by unfold frs;rw[List.filterMap_cons,hf];exact List.mem_cons_of_mem _ hb)) hr⟩
 exact all X.outer (fun _ hb=>hb) I.ok.cN
def Inv.stack(I:Inv X pins σ H s):s.heap.FunFrames X.base X.stack:=by
 rcases I.ok.stk with e | ⟨e,hf⟩
 ·rw[e];exact I.cN
 ·rw[e];obtain⟨m,hn,_⟩:=I.loc;refine .cons (by rw[I.ok.kind];decide) hf hn ?_ I.cN;exact Heap.get?_none_of_le (Nat.le_trans I.ok.bsz I.ok.above)
def Inv.mr(I:Inv X pins σ H s):∀ b∈frs X.stack,b∈X.env.locals::X.fs:=fun b hb=>by
 rcases I.ok.stk with e | ⟨e,hf⟩
 ·rw[e]at hb;exact List.mem_cons_of_mem _ hb
 ·rw[e]at hb;unfold frs at hb;rw[List.filterMap_cons,hf]at hb;exact hb
def Inv.iz(I:Inv X pins σ H s):∀ b∈frs X.stack,H b=none:=fun b hb=>by
 rcases List.mem_cons.mp (I.mr b hb)with e | hb
 ·rw[e];exact I.free
 ·obtain⟨_,o,ho,_⟩:=I.ok.cN.mem hb;exact I.base.free b o ho (I.ok.frf b hb) fun z=>I.ok.gv b z hb
def Inv.step{g':Array GenState}{t':Nat}{d':Drawn}{ch:List Addr}(I:Inv X pins σ H s)
 (hch:∀ b∈ch,(b∈X.ex\/X.s₀.heap.objs.size<=b)/\b≠X.env.locals/\(∀ x c,X.env.cells.lookup x=some c->c≠b)/\∀ p∈X.pn++pins,p.1≠b)
 (keep:∀ b o,b≠X.env.locals->b∉X.fs->b∉ch->s.heap.get? b=some o->H b=none->h'.get? b=some o)
 (slot:∀ b o,b≠X.env.locals->b∈X.fs->b∉ch->s.heap.get? b=some o->H b=none->∃ sl,h'.get? b=some { o with slots:=sl })(free:∀ b o,b∉ch->s.heap.get? b=some o->H b=none->H' b=none)
 (there:∀ b o,b∉ch->s.heap.get? b=some o->∃ o',h'.get? b=some o')
 (di:∀ b xs,H b=some (.tup xs)->H' b=some (.tup xs))(c9:∀ b o u,H b=some (.frz o u)->H' b=some (.frz o u))(dh:∀ b ps,H b=some (.tbl ps)->∃ more,H' b=some (.tbl (ps++more)))
 (ns:∀ m,s.heap.Ns X.env.locals m->h'.Ns X.env.locals m)(hok:HOk X.prog X.w H' h')(hg:AllBare g') :
  Inv X pins σ H' { s with heap:=h',gens:=g',drawn:=d',toks:=t' }:=by
 have neL:∀ b o,X.s₀.heap.get? b=some o->b≠X.env.locals:=fun b o e=>Nat.ne_of_lt (Nat.lt_of_lt_of_le (Heap.lt_size e) I.ok.above)
 have neC:∀ b o,X.s₀.heap.get? b=some o->b∉X.ex->b∉ch:=fun b o e hx hb=>by
  rcases(hch b hb).1 with z | z
  ·exact hx z
  ·exact absurd (Nat.lt_of_lt_of_le (Heap.lt_size e) z) (Nat.lt_irrefl _)
 have cellK:∀ x c,X.env.cells.lookup x=some c->∀ v,s.heap.IsCell c v->h'.IsCell c v:=fun x c e v ⟨o,ho,hd⟩=>by
  have nch:c∉ch:=fun z=>(hch c z).2.2.1 x c e rfl;by_cases hc:c∈X.fs
  ·obtain⟨sl,q⟩:=slot c o (I.cne x c e) hc nch ho (I.bX x c e);exact⟨_,q,hd⟩
  ·exact⟨o,keep c o (I.cne x c e) hc nch ho (I.bX x c e),hd⟩
 refine⟨I.ok,I.os,hg,⟨fun b o e n hb hx=>?_,fun b o e n hb hx=>?_,fun b o e n hx=>?_,fun b o e hx=>?_,fun b xs e=>di b xs (I.base.di b xs e),fun b o xs e=>c9 b o xs (I.base.c9 b o xs e),fun b ps e=>?_⟩,?_,fun x c e=>?_,?_,fun x c e=>?_,fun p hp=>?_,hok,I.len⟩
 ·exact keep b o (neL b o e) hb (neC b o e hx) (I.base.keep b o e n hb hx) (I.base.free b o e n hx)
 ·obtain⟨sl,e1⟩:=I.base.slot b o e n hb hx;obtain⟨sl',e2⟩:=slot b _ (neL b o e) hb (neC b o e hx) e1 (I.base.free b o e n hx);exact⟨sl',e2⟩
 ·obtain⟨o',e1⟩:=I.base.there b o e hx;exact free b o' (neC b o e hx) e1 (I.base.free b o e n hx)
 ·obtain⟨o',e1⟩:=I.base.there b o e hx;exact there b o' (neC b o e hx) e1
 ·obtain⟨m1,e1⟩:=I.base.dh b ps e;obtain⟨m2,e2⟩:=dh b _ e1;exact⟨m1++m2,by rw[e2,Array.append_assoc]⟩
 ·obtain⟨m,hn,hl⟩:=I.loc;refine⟨m,ns m hn,fun i x v e1 e2 e3=>?_⟩;obtain⟨u,r,l⟩:=hl i x v e1 e2 e3;refine⟨u,r,?_⟩
  rcases l with l | ⟨k,c,e,z⟩
  ·exact .inl l
  ·exact .inr ⟨k,c,e,cellK x c e _ z⟩
 ·obtain⟨v,z⟩:=I.cell x c e;exact⟨v,cellK x c e v z⟩
 ·obtain⟨m,⟨o,_,_,ho,_⟩,_⟩:=I.loc;exact free _ o (fun z=>(hch _ z).2.1 rfl) ho I.free
 ·obtain⟨v,o,ho,hd⟩:=I.cell x c e;exact free c o (fun z=>(hch c z).2.2.1 x c e rfl) ho (I.bX x c e)
 ·obtain⟨e,n,ne,nf,d⟩:=I.pin p hp;have nch:p.1∉ch:=fun z=>(hch p.1 z).2.2.2 p hp rfl;exact⟨keep p.1 p.2 ne nf nch e n,free p.1 p.2 nch e n,ne,nf,d⟩
def Inv.un(I:Inv X pins σ H s)(u:Un X.fs [] H H' s.heap h')(hok:HOk X.prog X.w H' h'):Inv X pins σ H' { s with heap:=h',toks:=t' }:=by
 obtain⟨m,⟨o,es,ep,ho,r⟩,_⟩:=id I.loc;obtain⟨sl,hL⟩:=u.any ho I.free (by simp)
 exact I.step (g':=s.gens) (d':=s.drawn) (ch:=[]) (fun _ z=>nomatch z) (fun b o _ hb _ e n=>u.keep b o e n hb (by simp)) (fun b o _ hb _ e n=>u.slot b o e n hb (by simp)) (fun b o _ e n=>u.free b o e n (by simp)) (fun b o _ e=>u.there b o e (by simp)) u.di u.c9 u.dh (fun m' hm=>by
  obtain⟨o',es',ep',ho',r'⟩:=hm;rw[ho]at ho';cases ho'
  exact⟨_,es',ep',hL,r'⟩) hok I.bare
def Inv.call(I:Inv X pins σ H s)(u:Un (frs X.stack) ch H H' s.heap h')(hok:HOk X.prog X.w H' h')(hg:AllBare g')
 (hch:∀ b∈ch,(b∈X.ex\/X.s₀.heap.objs.size<=b)/\b≠X.env.locals/\(∀ x c,X.env.cells.lookup x=some c->c≠b)/\∀ p∈X.pn++pins,p.1≠b) :
  Inv X pins σ H' { s with heap:=h',gens:=g',drawn:=d',toks:=t' }:=by
 obtain⟨m,⟨o,es,ep,ho,r⟩,_⟩:=id I.loc;obtain⟨sl,hL⟩:=u.any ho I.free fun z=>(hch _ z).2.1 rfl
 exact I.step (ch:=ch) hch (fun b o hL hb hc e n=>u.keep b o e n (fun z=>(List.mem_cons.mp (I.mr b z)).elim hL hb) hc) (fun b o _ _ hc e n=>u.any e n hc) (fun b o hc e n=>u.free b o e n hc) (fun b o hc e=>u.there b o e hc) u.di u.c9 u.dh (fun m' hm=>by
  obtain⟨o',es',ep',ho',r'⟩:=hm;rw[ho]at ho';cases ho'
  exact⟨_,es',ep',hL,r'⟩) hok hg
def Inv.turned(I:Inv X pins σ H s)(k:∀ b o,b≠it->s.heap.get? b=some o->h'.get? b=some o)(hn:H it=none)(hL:it≠X.env.locals)
 (h1:it∈X.ex\/X.s₀.heap.objs.size<=it)(h2:∀ x c,X.env.cells.lookup x=some c->c≠it)(h3:∀ p∈X.pn++pins,p.1≠it):Inv X pins σ H { s with heap:=h',toks:=t' }:=by
 have nit:∀ b u,H b=some u->b≠it:=fun b u e z=>by rw[z,hn]at e;cases e
 refine I.step (g':=s.gens) (d':=s.drawn) (ch:=[it]) (fun b hb=>?_) (fun b o _ _ hc e _=>k b o (fun z=>hc (by simp[z])) e) (fun b o _ _ hc e _=>⟨o.slots,k b o (fun z=>hc (by simp[z])) e⟩) (fun _ _ _ _ n=>n)
  (fun b o hc e=>⟨o,k b o (fun z=>hc (by simp[z])) e⟩) (fun _ _ e=>e) (fun _ _ _ e=>e) (fun b ps e=>⟨#[],by rw[e];simp⟩) (fun m hm=>?_) (fun b u e=>?_) I.bare
 ·have e:b=it:=by simpa using hb
  subst e;exact⟨h1,hL,h2,h3⟩
 ·obtain⟨o,es,ep,ho,r⟩:=hm;exact⟨o,es,ep,k _ o (Ne.symm hL) ho,r⟩
 ·refine(I.hok b u e).gG (fun c v hc q=>k c v ?_ q) (fun _ q=>q) fun _ _ q=>q;rcases hc with z | z
  ·rw[z];exact nit b u e
  ·exact nit c _ z
def Inv.tok(I:Inv X pins σ H s)(t:Nat):Inv X pins σ H { s with toks:=t }:=I.un (h':=s.heap) (t':=t) Un.refl I.hok
def Inv.kept(I:Inv X pins σ H s)(k:∀ b u,s.heap.get? b=some u->h'.get? b=some u):Inv X pins σ H { s with heap:=h',toks:=t' }:=I.un (Un.kept k) (I.hok.kept k)
def Inv.laid(I:Inv X pins σ H s)(k:∀ b u,s.heap.get? b=some u->h'.get? b=some u)(hp:s.heap.objs.size<=a)(new:aU X.prog X.w (upd H a o) h' a o) :
  Inv X pins σ (upd H a o) { s with heap:=h',toks:=t' }:=I.un (Un.laid k hp (I.hok.fresh hp)) (I.hok.laid k hp new)
def Inv.write(I:Inv X pins σ H s)(mu:Mut (H x))(he:e=x\/H e=some (.own x))(k:∀ b u,b≠e->s.heap.get? b=some u->h'.get? b=some u)(heo:∃ u,h'.get? e=some u)
 (new:aU X.prog X.w (upd H x o) h' x o):Inv X pins σ (upd H x o) { s with heap:=h',toks:=t' }:=I.un (Un.write mu he k heo) (I.hok.write mu he k heo new)
def Inv.weak(I:Inv X pins σ H s)(hl:σ'.length=σ.length)(w:∀ (i:Nat) v,σ'[i]?=some (some v)->σ[i]?=some (some v)):Inv X pins σ' H s :=
 ⟨I.ok,I.os,I.bare,I.base,let ⟨m,hn,hl'⟩:=I.loc;⟨m,hn,fun i x v e1 e2 e3=>hl' i x v e1 (w i v e2) e3⟩,I.cell,I.free,I.bX,I.pin,I.hok,hl.trans I.len⟩
def Inv.oR(I:Inv X pins σ H s)(h:∀ p∈pins',s.heap.get? p.1=some p.2/\H p.1=none/\p.1≠X.env.locals/\p.1∉X.fs/\∀ v,p.2.data≠.cell v):Inv X pins' σ H s :=
 ⟨I.ok,I.os,I.bare,I.base,I.loc,I.cell,I.free,I.bX,fun p hp=>(List.mem_append.mp hp).elim (fun z=>I.pin p (List.mem_append_left _ z)) (h p),I.hok,I.len⟩
def iN{N:List Str}(hN:N.Nodup){i j:Nat}(a:N[i]?=some x)(b:N[j]?=some x):i=j:=by
 obtain⟨h1,e1⟩:=List.getElem?_eq_some_iff.mp a;obtain⟨h2,e2⟩:=List.getElem?_eq_some_iff.mp b;exact(List.getElem_inj hN).mp (e1.trans e2.symm)
def kM{M:Model}{A:Around}(I:Inv X pins σ H s)(hN:X.N.Nodup)(hi:X.N[i]?=some x)(hx:Loc X.env.scope x)(r:RelV v u)
 (h:∀ s',Inv X pins (σ.set i (some v)) H s'->(∃ a,Heap.SameBut a s.heap s'.heap/\(a=X.env.locals\/X.env.cells.lookup x=some a))->Q () s')(hf:X.fn x=true\/X.env.scope.names.lookup x=some .local):wpAny M A (storeName X.env x u) Q E s:=by
 obtain⟨m,hn,hl⟩:=id I.loc
 have hcls:(X.env.scope.kind == .class || (X.env.scope.kind == .module&&X.env.locals != X.env.globals))=false:=by rw[I.ok.kind];rfl
 have hiσ:i<σ.length:=by rw[I.len];exact(List.getElem?_eq_some_iff.mp hi).1
 have cne:=I.cne
 have tracked:∀ {a:Addr} {h':Heap},(∃ o,s.heap.get? a=some o/\H a=none)->Heap.SameBut a s.heap h'->HOk X.prog X.w H h':=fun {a h'} ha hs b ob e=>by
  obtain⟨_,_,hfree⟩:=ha;refine(I.hok b ob e).gG (fun c w' hc q=>(hs.2 c ?_).trans q) (fun _ q=>q) fun _ _ q=>q;rintro rfl;rcases hc with rfl | hc
  ·rw[hfree]at e;cases e
  ·rw[hfree]at hc;cases hc
 rcases hx with hk | hk
 ·refine wpAny_storeName_local hk hn (fun h' hn' hs=>?_) hcls;obtain⟨oL,_,_,hoL,_⟩:=id hn;refine h _ ⟨I.ok,I.os,I.bare,⟨fun b o e n hb hx=>?_,fun b o e n hb hx=>?_,I.base.free,fun b o e hx=>?_,I.base.di,I.base.c9,I.base.dh⟩,⟨_,hn',fun j y v' e1 e2 e3=>?_⟩,fun y c e=>?_,I.free,I.bX,fun p hp=>?_,tracked ⟨oL,hoL,I.free⟩ hs,by simpa using I.len⟩ ⟨_,hs,.inl rfl⟩
  ·exact(hs.2 b (Nat.ne_of_lt (Nat.lt_of_lt_of_le (Heap.lt_size e) I.ok.above))).trans (I.base.keep b o e n hb hx)
  ·obtain⟨sl,e1⟩:=I.base.slot b o e n hb hx;exact⟨sl,(hs.2 b (Nat.ne_of_lt (Nat.lt_of_lt_of_le (Heap.lt_size e) I.ok.above))).trans e1⟩
  ·obtain⟨o',e1⟩:=I.base.there b o e hx;exact⟨o',(hs.2 b (Nat.ne_of_lt (Nat.lt_of_lt_of_le (Heap.lt_size e) I.ok.above))).trans e1⟩
  ·by_cases hj:j=i
   ·subst hj;rw[hi]at e1;cases e1;rw[List.getElem?_set_self hiσ]at e2;cases e2;exact⟨u,r,.inl ⟨hk,by simp⟩⟩
   ·rw[List.getElem?_set_ne (Ne.symm hj)]at e2;obtain⟨u',r',q⟩:=hl j y v' e1 e2 e3;refine⟨u',r',?_⟩
    rcases q with⟨k,e⟩ | ⟨k,c,e,z⟩
    ·refine .inl ⟨k,?_⟩;have:y≠x:=fun e=>hj (iN hN e1 (e▸hi));simp[this,e]
    ·exact .inr ⟨k,c,e,z.sameBut hs (cne y c e)⟩
  ·obtain⟨w',z⟩:=I.cell y c e;exact⟨w',z.sameBut hs (cne y c e)⟩
  ·obtain⟨e,n,ne,nf,d⟩:=I.pin p hp;exact⟨(hs.2 p.1 ne).trans e,n,ne,nf,d⟩
 ·have hfn:X.fn x=true:=by
   rcases hf with z | z
   ·exact z
   ·rw[z]at hk;cases hk
  obtain⟨c,hc⟩:=I.ok.has x (.inl hk);obtain⟨w',z⟩:=I.cell x c hc;refine wpAny_storeName_cell I.ok.kind hk hc z (fun h' hc' hs=>?_);obtain⟨oc,hoc,hocd⟩:=id z;refine h { s with heap:=h' } ⟨I.ok,I.os,I.bare,⟨fun b o e n hb hx=>?_,fun b o e n hb hx=>?_,I.base.free,fun b o e hx=>?_,I.base.di,I.base.c9,I.base.dh⟩,⟨m,hn.sameBut hs (Ne.symm (cne x c hc)),fun j y v' e1 e2 e3=>?_⟩,fun y c' e=>?_,I.free,I.bX,fun p hp=>?_,tracked ⟨oc,hoc,I.bX x c hc⟩ hs,by simpa using I.len⟩ ⟨c,hs,.inr hc⟩
  ·exact(hs.2 b (Nat.ne_of_lt (Nat.lt_of_lt_of_le (Heap.lt_size e) (I.ok.cab x c hfn hc)))).trans (I.base.keep b o e n hb hx)
  ·obtain⟨sl,e1⟩:=I.base.slot b o e n hb hx;exact⟨sl,(hs.2 b (Nat.ne_of_lt (Nat.lt_of_lt_of_le (Heap.lt_size e) (I.ok.cab x c hfn hc)))).trans e1⟩
  ·obtain⟨o',e1⟩:=I.base.there b o e hx;exact⟨o',(hs.2 b (Nat.ne_of_lt (Nat.lt_of_lt_of_le (Heap.lt_size e) (I.ok.cab x c hfn hc)))).trans e1⟩
  ·by_cases hj:j=i
   ·subst hj;rw[hi]at e1;cases e1;rw[List.getElem?_set_self hiσ]at e2;cases e2;exact⟨u,r,.inr ⟨.inl hk,c,hc,hc'⟩⟩
   ·rw[List.getElem?_set_ne (Ne.symm hj)]at e2;obtain⟨u',r',q⟩:=hl j y v' e1 e2 e3;refine⟨u',r',?_⟩
    rcases q with q | ⟨k,c',e,z'⟩
    ·exact .inl q
    ·refine .inr ⟨k,c',e,z'.sameBut hs ?_⟩;rintro rfl;exact hj (iN hN e1 (I.ok.inj _ _ _ e hc▸hi))
  ·by_cases hcc:c'=c
   ·subst hcc;exact⟨_,hc'⟩
   ·obtain⟨w2,z2⟩:=I.cell y c' e;exact⟨w2,z2.sameBut hs hcc⟩
  ·obtain⟨e,n,ne,nf,d⟩:=I.pin p hp;refine⟨(hs.2 p.1 ?_).trans e,n,ne,nf,d⟩;intro q;rw[q,hoc]at e;have q':oc=p.2:=Option.some.inj e;exact d w' (by rw[<-q'];exact hocd)
def gB(I:Inv X pins σ H s)(hN:X.N.Nodup)(hi:X.N[i]?=some x)(hx:Loc X.env.scope x)(r:RelV v u)
 (h:∀ s',Inv X pins (σ.set i (some v)) H s'->Q () s')(hf:X.fn x=true\/X.env.scope.names.lookup x=some .local):wpAny M A (storeName X.env x u) Q E s :=
 kM I hN hi hx r (fun s' I' _=>h s' I') hf
def Inv.lL(I:Inv X pins σ H s)(ho:s'.os=s.os)(u:Un (frs X.stack) ch H H' s.heap s'.heap)(hok:HOk X.prog X.w H' s'.heap)(hg:AllBare s'.gens)
 (hch:∀ b∈ch,(b∈X.ex\/X.s₀.heap.objs.size<=b)/\b≠X.env.locals/\(∀ x c,X.env.cells.lookup x=some c->c≠b)/\∀ p∈X.pn++pins,p.1≠b):Inv X pins σ H' s':=by
 obtain⟨h',g',d',t',o'⟩:=s';have e:o'=s.os:=ho;subst e;exact I.call (g':=g') (t':=t') (d':=d') u hok hg hch
end
@[reducible]noncomputable def XK:=Value->Option Addr->Hp->Prop
@[reducible]noncomputable def St:=List (Option V)
@[reducible]noncomputable def VK:=V->Hp->Prop
@[reducible]noncomputable def TE:=St->Hp->VK->Prop
@[reducible]noncomputable def TT:=St->Hp->(Bool->Hp->Prop)->Prop
@[reducible]noncomputable def TA:=St->Hp->(List V->Hp->Prop)->Prop
structure Ends where
 nx:St->Hp->Prop
 rt:VK
 bk:St->Hp->Prop:=fun _ _=>False
 ct:St->Hp->Prop:=fun _ _=>False
@[reducible]noncomputable def TS:=Ends->St->Hp->Prop
abbrev EP(X:Cx)(pins:List (Addr × Obj))(σ:St)(Q:VK)(u:Value)(s':Shared):Prop:=∃ v H',Inv X pins σ H' s'/\RelV v u/\Q v H'
abbrev TP(X:Cx)(pins:List (Addr × Obj))(σ:St)(Q:Bool->Hp->Prop)(b:Bool)(s':Shared):Prop:=∃ H',Inv X pins σ H' s'/\Q b H'
abbrev AP(X:Cx)(pins:List (Addr × Obj))(σ:St)(Q:List V->Hp->Prop)(us:List Value)(s':Shared):Prop:=∃ vs H',Inv X pins σ H' s'/\Vals vs us/\Q vs H'
abbrev SP(X:Cx)(pins:List (Addr × Obj))(D:Ends)(f:Flow)(s':Shared):Prop :=
 match f with
 | .next=>∃ σ' H',Inv X pins σ' H' s'/\D.nx σ' H'
 | .brk=>∃ σ' H',Inv X pins σ' H' s'/\D.bk σ' H'
 | .cont=>∃ σ' H',Inv X pins σ' H' s'/\D.ct σ' H'
 | .ret u=>∃ v σ' H',Inv X pins σ' H' s'/\RelV v u/\D.rt v H'
abbrev PE(X:Cx)(e:Expr)(t:TE):Prop :=
 ∀ (pins:List (Addr × Obj)) (s:Shared) (σ:St) (H:Hp) (Q:VK),Inv X pins σ H s->t σ H Q->wpAny (model X.prog X.w) X.A (eval e X.env) (EP X pins σ Q) X.xe s
abbrev PT(X:Cx)(e:Expr)(t:TT):Prop :=
 ∀ (pins:List (Addr × Obj)) (s:Shared) (σ:St) (H:Hp) (Q:Bool->Hp->Prop),Inv X pins σ H s->t σ H Q->wpAny (model X.prog X.w) X.A (isTrue e X.env (eval e X.env)) (TP X pins σ Q) X.xe s
abbrev PW(X:Cx)(e:Expr)(t:TT):Prop :=
 ∀ (whole:Sem Value) (pins:List (Addr × Obj)) (s:Shared) (σ:St) (H:Hp) (Q:Bool->Hp->Prop),Inv X pins σ H s->t σ H Q->wpAny (model X.prog X.w) X.A (isTrue e X.env whole) (TP X pins σ Q) X.xe s
def PW.pt(h:PW X e t):PT X e t:=h _
abbrev PA(X:Cx)(es:List Expr)(t:TA):Prop :=
 ∀ (pos:Pos) (pins:List (Addr × Obj)) (s:Shared) (σ:St) (H:Hp) (Q:List V->Hp->Prop),Inv X pins σ H s->t σ H Q->wpAny (model X.prog X.w) X.A (spliced (backTo pos (starEach es X.env))) (AP X pins σ Q) X.xe s
abbrev PS(X:Cx)(st:Stmt)(t:TS):Prop :=
 ∀ (pins:List (Addr × Obj)) (s:Shared) (σ:St) (H:Hp) (D:Ends),Inv X pins σ H s->t D σ H->wpAny (model X.prog X.w) X.A (exec st X.env) (SP X pins D) X.xe s
abbrev PSs(X:Cx)(st:List Stmt)(t:TS):Prop :=
 ∀ (pins:List (Addr × Obj)) (s:Shared) (σ:St) (H:Hp) (D:Ends),Inv X pins σ H s->t D σ H->wpAny (model X.prog X.w) X.A (execs st X.env) (SP X pins D) X.xe s
def thn(h:wpAny M A t Q E s)(hQ:∀ a s,Q a s->Q' a s):wpAny M A t Q' E s:=wpAny_mono h hQ fun _ _ x=>x
section
variable{X:Cx}
abbrev cA(i:Nat):TE:=fun σ H Q=>∃ v,σ[i]?=some (some v)/\Q v H
abbrev tC(v:V):TE:=fun _ H Q=>Q v H
def bz(hN:X.N[i]?=some x)(hv:Vis X.env.scope x)(hd:(x == ("__debug__" : Str))=false)(hcd:(x == ("__classdict__" : Str))=false):PE X (.Name x pos) (cA i):=by
 intro pins s σ H Q I h;obtain⟨v,e,h⟩:=h;obtain⟨m,hn,hl⟩:=I.loc;obtain⟨u,r,l⟩:=hl i x v hN e hv
 have fin:EP X pins σ Q u s:=⟨v,H,I,r,h⟩
 rcases l with⟨hk,hm⟩ | ⟨hk,c,hc,hcell⟩
 ·exact wpAny_Name (wpAny_loadName_local I.ok.kind hk hn hm fin) hd
 ·rcases hk with hk | hk
  ·exact wpAny_Name (wpAny_loadName_cell I.ok.kind hk hc hcell fin) hd
  ·exact wpAny_Name (wpAny_loadName_free I.ok.kind hk hc hcell fin hcd) hd
def mO:PE X (.Constant (.int i) j pos) (tC (.int i)):=fun _ _ _ H _ I h=>wpAny_Constant_int ⟨.int i,H,I.tok _,⟨_,rfl⟩,h⟩
def Cf:PE X (.Constant (.bool b) j pos) (tC (.bl b)):=fun _ _ _ H _ I h=>Constant_bool ⟨.bl b,H,I,rfl,h⟩
def A1:PE X (.Constant .none j pos) (tC .non):=fun _ _ _ H _ I h=>Constant_none ⟨.non,H,I,rfl,h⟩
def mW:PE X (.Constant (.str x) j pos) (tC (.str x)):=fun _ _ _ H _ I h=>Calls.Constant_str ⟨.str x,H,I.tok _,⟨_,rfl⟩,h⟩
abbrev Gl(X:Cx)(x:Str):Prop:=X.env.kindOf x=some .globalImplicit
def cJ(I:Inv X pins σ H s)(hg:Gl X x)(hm:X.mg x=some u)(h:Q u s)
 (hd:(x == ("__debug__" : Str))=false):wpAny (model X.prog X.w) X.A (eval (.Name x pos) X.env) Q E s :=
 Calls.Name_function_global I.ok.kind hg (Calls.loadGlobal_global (by rw[I.ok.glob];exact I.mod.glob.keeps I.bk) hm h) hd
def fq(I:Inv X pins σ H s)(hg:Gl X x)(hm:X.mg x=none)(hv:bootBuiltins x=some u)(h:Q u s)
 (hn:x ≠ "__name__")(hd:(x == ("__debug__" : Str))=false):wpAny (model X.prog X.w) X.A (eval (.Name x pos) X.env) Q E s:=by
 obtain⟨mb,h1,h2⟩:=I.mod.blt;exact Calls.Name_function_global I.ok.kind hg (Calls.loadGlobal_builtin (by rw[I.ok.glob];exact I.mod.glob.keeps I.bk) hm (by rw[I.ok.blt];exact h1.keeps I.bk) ((h2 x hn).trans hv) h) hd
def oO(hg:Gl X x)(hm:X.mg x=some u)(r:RelV v u)(hd:(x == ("__debug__" : Str))=false):PE X (.Name x pos) (tC v) :=
 fun _ _ _ H _ I h=>cJ I hg hm ⟨v,H,I,r,h⟩ hd
def oY(hg:Gl X x)(hm:X.mg x=none)(hv:bootBuiltins x=some u)(r:RelV v u)(hn:x ≠ "__name__")(hd:(x == ("__debug__" : Str))=false):PE X (.Name x pos) (tC v) :=
 fun _ _ _ H _ I h=>fq I hg hm hv ⟨v,H,I,r,h⟩ hn hd
variable{a b:Expr}{ta tb:TE}{pos:Pos}
variable{tA tB':TT}{rest:List Expr}
abbrev Dd(t u:TT):TT:=fun σ H Q=>t σ H fun c H1=>if c=true then u σ H1 Q else Q false H1
abbrev tOr(t u:TT):TT:=fun σ H Q=>t σ H fun c H1=>if c=true then Q true H1 else u σ H1 Q
abbrev DG(t:TT):TT:=fun σ H Q=>t σ H fun c H1=>Q (!c) H1
def xG(ha:PT X a tA):PW X (.BoolOp .And [a] pos) tA:=by
 intro wh pins s σ H Q I h;refine isTrue_and (thn (ha pins s σ H Q I h) fun c s1 e=>?_)
 cases c with
 | true=>exact isTrue_and_nil e
 | false=>exact e
def A5(ha:PT X a tA):PW X (.BoolOp .Or [a] pos) tA:=by
 intro wh pins s σ H Q I h;refine isTrue_or (thn (ha pins s σ H Q I h) fun c s1 e=>?_)
 cases c with
 | false=>exact isTrue_or_nil e
 | true=>exact e
def AD(ha:PT X a tA)(hb:PW X (.BoolOp .And (b::rest) pos) tB'):PW X (.BoolOp .And (a::b::rest) pos) (Dd tA tB'):=by
 intro wh pins s σ H Q I h;refine isTrue_and (thn (ha pins s σ H _ I h) fun c s1 ⟨H1,I1,q1⟩=>?_)
 cases c with
 | true=>exact hb wh pins s1 σ H1 Q I1 q1
 | false=>exact⟨H1,I1,q1⟩
def Cc(ha:PT X a tA)(hb:PW X (.BoolOp .Or (b::rest) pos) tB'):PW X (.BoolOp .Or (a::b::rest) pos) (tOr tA tB'):=by
 intro wh pins s σ H Q I h;refine isTrue_or (thn (ha pins s σ H _ I h) fun c s1 ⟨H1,I1,q1⟩=>?_)
 cases c with
 | true=>exact⟨H1,I1,q1⟩
 | false=>exact hb wh pins s1 σ H1 Q I1 q1
def BG(ha:PT X a tA):PT X (.UnaryOp .Not a pos) (DG tA):=by
 intro pins s σ H Q I h;exact isTrue_not (ha pins s σ H (fun c H1=>Q (!c) H1) I h)
abbrev CJ(ta tb:TE):TE:=fun σ H Q=>ta σ H fun x H1=>∃ c,x=.bl c/\if c=true then tb σ H1 Q else Q (.bl false) H1
abbrev Di(ta tb:TE):TE:=fun σ H Q=>ta σ H fun x H1=>∃ c,x=.bl c/\if c=true then Q (.bl true) H1 else tb σ H1 Q
def AN(h:PE X a t):PE X (.BoolOp op [a] pos) t:=fun pins s σ H Q I hw=>BoolOp_one (h pins s σ H Q I hw)
def zB(ha:PE X a ta)(hb:PE X (.BoolOp .And (b::rest) pos) tb):PE X (.BoolOp .And (a::b::rest) pos) (CJ ta tb):=by
 intro pins s σ H Q I h;refine BoolOp_and (thn (ha pins s σ H _ I h) fun v s1 ⟨x,H1,I1,r1,q1⟩=>?_);obtain⟨c,rfl,q1⟩:=q1;cases r1;refine wpAny_truthy_bool ?_
 cases c with
 | true=>exact hb pins s1 σ H1 Q I1 q1
 | false=>exact⟨.bl false,H1,I1,rfl,q1⟩
def C3(ha:PE X a ta)(hb:PE X (.BoolOp .Or (b::rest) pos) tb):PE X (.BoolOp .Or (a::b::rest) pos) (Di ta tb):=by
 intro pins s σ H Q I h;refine BoolOp_or (thn (ha pins s σ H _ I h) fun v s1 ⟨x,H1,I1,r1,q1⟩=>?_);obtain⟨c,rfl,q1⟩:=q1;cases r1;refine wpAny_truthy_bool ?_
 cases c with
 | false=>exact hb pins s1 σ H1 Q I1 q1
 | true=>exact⟨.bl true,H1,I1,rfl,q1⟩
abbrev tIf(t:TT)(ta tb:TE):TE:=fun σ H Q=>t σ H fun c H1=>if c=true then ta σ H1 Q else tb σ H1 Q
def uC(hc:PT X c tA)(ha:PE X a ta)(hb:PE X b tb):PE X (.IfExp c a b pos) (tIf tA ta tb):=by
 intro pins s σ H Q I h;refine wpAny_IfExp (thn (hc pins s σ H _ I h) fun d s1 ⟨H1,I1,q1⟩=>?_)
 cases d with
 | true=>exact ha pins s1 σ H1 Q I1 q1
 | false=>exact hb pins s1 σ H1 Q I1 q1
end
abbrev SqL(K:PySem.W.Frag)(H:Hp)(a:Addr)(xs:List V):Prop :=
 Rd H a (.lst xs) \/
  ∃ (o:Obj) (its:Array Value) (n:Nat),K.lookup a=some o/\o.cls=.type "list" /\ o.dict=none/\o.data=.seq its n/\its.size<=sizeLine/\Vals xs its.toList
abbrev SqT(K:PySem.W.Frag)(H:Hp)(a:Addr)(xs:List V):Prop :=
 Rd H a (.tup xs) \/
  ∃ (o:Obj) (its:Array Value) (n:Nat),K.lookup a=some o/\o.cls=.type "tuple" /\ o.data=.seq its n/\its.size<=sizeLine/\Vals xs its.toList
abbrev DA:Value->Option V
 | .none=>some .non
 | .bool b=>some (.bl b)
 | .int i _=>some (.int i)
 | .str x _=>some (.str x)
 | .bytes b _=>some (.byt b)
 | .float b _=>some (.flt b)
 | .ref a=>some (.ref a)
 | .type n=>some (.ty n)
 | _=>none
def RelV.abs(r:RelV x u):DA u=some x:=by
 cases x with
 | non=>cases r;rfl
 | bl _=>cases r;rfl
 | int _=>obtain⟨t,rfl⟩:=r;rfl
 | str _=>obtain⟨t,rfl⟩:=r;rfl
 | byt _=>obtain⟨t,rfl⟩:=r;rfl
 | flt _=>obtain⟨t,rfl⟩:=r;rfl
 | ref _=>cases r;rfl
 | ty _=>cases r;rfl
def RelV.inj(r:RelV x u)(q:RelV y u):x=y:=Option.some.inj (r.abs.symm.trans q.abs)
def Vals.inj:∀ {xs ys:List V} {us:List Value},Vals xs us->Vals ys us->xs=ys
 | _,_,_,.nil,.nil=>rfl
 | _,_,_,.cons r t,.cons r' t'=>by rw[r.inj r',Vals.inj t t']
section
variable{X:Cx}{pins:List (Addr × Obj)}{σ:St}{H:Hp}{s:Shared}{a:Addr}{xs ys:List V}
def SqL.of{K:PySem.W.Frag}(h:H a=some (.lst xs)):SqL K H a xs:=.inl (.inl h)
def SqT.of{K:PySem.W.Frag}(h:H a=some (.tup xs)):SqT K H a xs:=.inl (.inl h)
def Inv.list(I:Inv X pins σ H s)(h:SqL X.K H a xs):∃ its:List Value,Vals xs its/\PlainL s.heap a its.toArray/\xs.length<=sizeLine:=by
 rcases h with h | ⟨o,its,n,hk,hc,hd,hs,hz,r⟩
 ·obtain⟨z,its,n,r,e⟩:=h.ok I.hok;exact⟨its,r,⟨_,n,e,rfl,rfl,rfl⟩,z⟩
 ·refine⟨its.toList,r,⟨o,n,I.kIn a o hk,hc,hd,by simpa using hs⟩,?_⟩;have e:=r.length;simp only[Array.length_toList]at e;omega
def Inv.tuple(I:Inv X pins σ H s)(h:SqT X.K H a xs):∃ its:List Value,Vals xs its/\IsTup s.heap a its.toArray/\xs.length<=sizeLine:=by
 rcases h with h | ⟨o,its,n,hk,hc,hs,hz,r⟩
 ·obtain⟨z,its,r,p⟩:=h.ok I.hok;exact⟨its,r,p,z⟩
 ·refine⟨its.toList,r,⟨o,I.kIn a o hk,hc,n,by simpa using hs⟩,?_⟩;have e:=r.length;simp only[Array.length_toList]at e;omega
def Inv.uK(I:Inv X pins σ H s)(h:SqL X.K H a xs)(h':SqL X.K H a ys):xs=ys:=by
 obtain⟨its,r,⟨o,n,e,_,_,d⟩,_⟩:=I.list h;obtain⟨its',r',⟨o',n',e',_,_,d'⟩,_⟩:=I.list h';rw[e]at e';cases e';rw[d]at d';injection d' with d1 _
 have:its=its':=by simpa using congrArg Array.toList d1
 subst this;exact r.inj r'
def Inv.r9(I:Inv X pins σ H s)(h:SqT X.K H a xs)(h':SqT X.K H a ys):xs=ys:=by
 obtain⟨its,r,⟨o,e,_,n,d⟩,_⟩:=I.tuple h;obtain⟨its',r',⟨o',e',_,n',d'⟩,_⟩:=I.tuple h';rw[e]at e';cases e';rw[d]at d';injection d' with d1 _
 have:its=its':=by simpa using congrArg Array.toList d1
 subst this;exact r.inj r'
end
@[reducible]noncomputable def Cx.cW(X:Cx)(E:Value->Shared->Prop):Cx:={ X with xe:=E }
@[reducible]noncomputable def Cx.nox(X:Cx):Cx:=X.cW fun _ _=>False
def Cx.Ok.cW{X:Cx}(ok:X.Ok)(E:Value->Shared->Prop):(X.cW E).Ok :=
 ⟨ok.mod,ok.kind,ok.glob,ok.blt,ok.above,ok.inj,ok.has,ok.cab,ok.hd,ok.frames,ok.stk,ok.exf,ok.bs,ok.bsz,ok.gY,ok.gv,ok.cN,ok.frf⟩
def Cx.Ok.cb{X:Cx}(ok:(X.cW E).Ok):X.Ok :=
 ⟨ok.mod,ok.kind,ok.glob,ok.blt,ok.above,ok.inj,ok.has,ok.cab,ok.hd,ok.frames,ok.stk,ok.exf,ok.bs,ok.bsz,ok.gY,ok.gv,ok.cN,ok.frf⟩
section
variable{X:Cx}{pins:List (Addr × Obj)}{σ:St}{H:Hp}{s:Shared}{E:Value->Shared->Prop}
def Inv.cW(I:Inv X pins σ H s)(E:Value->Shared->Prop):Inv (X.cW E) pins σ H s:=⟨I.ok.cW E,I.os,I.bare,I.base,I.loc,I.cell,I.free,I.bX,I.pin,I.hok,I.len⟩
def Inv.cb(I:Inv (X.cW E) pins σ H s):Inv X pins σ H s:=⟨I.ok.cb,I.os,I.bare,I.base,I.loc,I.cell,I.free,I.bX,I.pin,I.hok,I.len⟩
def SP.cb(h:SP (X.cW E) pins D f s'):SP X pins D f s':=by
 cases f with
 | next=>obtain⟨σ',H',I,q⟩:=h;exact⟨σ',H',I.cb,q⟩
 | brk=>obtain⟨σ',H',I,q⟩:=h;exact⟨σ',H',I.cb,q⟩
 | cont=>obtain⟨σ',H',I,q⟩:=h;exact⟨σ',H',I.cb,q⟩
 | ret u=>obtain⟨v,σ',H',I,r,q⟩:=h;exact⟨v,σ',H',I.cb,r,q⟩
def PE.nox(h:PE X.nox e t):PE X e t:=fun pins s σ H Q I hw =>
 wpAny_mono (h pins s σ H Q (I.cW _) hw) (fun _ _ ⟨v,H',I',r,q⟩=>⟨v,H',I'.cb,r,q⟩) fun _ _ z=>False.elim z
def PT.nox(h:PT X.nox e t):PT X e t:=fun pins s σ H Q I hw =>
 wpAny_mono (h pins s σ H Q (I.cW _) hw) (fun _ _ ⟨H',I',q⟩=>⟨H',I'.cb,q⟩) fun _ _ z=>False.elim z
def PSs.nox{st:List Stmt}(h:PSs X.nox st t):PSs X st t:=fun pins s σ H D I hw =>
 wpAny_mono (h pins s σ H D (I.cW _) hw) (fun _ _ q=>q.cb) fun _ _ z=>False.elim z
end
section
variable{X:Cx}{st:Stmt}{rest:List Stmt}{t u:TS}{e:Expr}{te:TE}{pos:Pos}
abbrev Cz:TS:=fun D σ H=>D.nx σ H
abbrev DU(t u:TS):TS:=fun D σ H=>t { D with nx:=u D } σ H
def fk:PSs X [] Cz:=fun _ _ σ H _ I h=>wpAny_execs_nil ⟨σ,H,I,h⟩
def aY(h1:PS X st t)(h2:PSs X rest u):PSs X (st::rest) (DU t u):=by
 intro pins s σ H D I h;refine wpAny_execs_cons (thn (h1 pins s σ H { D with nx:=u D } I h) fun f s1 q=>?_)
 cases f with
 |next=>
  obtain⟨σ',H',I',q⟩:=q;exact h2 pins s1 σ' H' D I' q
 | ret v=>exact q
 | brk=>exact q
 | cont=>exact q
def yD(h1:PS X st t):PSs X [st] t:=by
 intro pins s σ H D I h;refine wpAny_execs_cons (thn (h1 pins s σ H D I h) fun f s1 q=>?_)
 cases f with
 | next=>exact wpAny_execs_nil q
 | ret v=>exact q
 | brk=>exact q
 | cont=>exact q
def Inv.quiet(I:Inv X pins σ H s):interactive X.env=false:=by simp[interactive,I.ok.kind]
abbrev lI(te:TE):TS:=fun D σ H=>te σ H fun _ H1=>D.nx σ H1
def dO(he:PE X e te)(hs:swapsWith e none pos.line X.env=pure false):PS X (.Expr e pos) (lI te):=by
 intro pins s σ H D I h;exact wpAny_Expr_any (thn (he pins s σ H _ I h) fun v s1 ⟨x,H1,I1,r1,q1⟩=>⟨σ,H1,I1,q1⟩) I.quiet hs
abbrev Dj(te:TE):TS:=fun D σ H=>te σ H D.rt
def jm(he:PE X e te):PS X (.Return (some e) pos) (Dj te):=by
 intro pins s σ H D I h;exact wpAny_Return_some (thn (he pins s σ H _ I h) fun v s1 ⟨x,H1,I1,r1,q1⟩=>⟨x,σ,H1,I1,r1,q1⟩)
abbrev DR(c:TT)(t u:TS):TS:=fun D σ H=>c σ H fun b H1=>if b=true then t D σ H1 else u D σ H1
def j3(hc:PT X c tc)(ha:PSs X a t)(hb:PSs X b u):PS X (.If c a b pos) (DR tc t u):=by
 intro pins s σ H D I h;refine wpAny_If (thn (hc pins s σ H _ I h) fun d s1 ⟨H1,I1,q1⟩=>?_)
 cases d with
 | true=>exact ha pins s1 σ H1 D I1 q1
 | false=>exact hb pins s1 σ H1 D I1 q1
abbrev AY:TS:=fun _ _ _=>False
def uR:PS X st AY:=fun _ _ _ _ _ _ h=>h.elim
end
@[reducible]noncomputable def TG:=V->St->Hp->(St->Hp->Prop)->Prop
@[reducible]noncomputable def TGs:=List V->St->Hp->(St->Hp->Prop)->Prop
abbrev PG(X:Cx)(target:Expr)(t:TG):Prop :=
 ∀ (pins:List (Addr × Obj)) (s:Shared) (σ:St) (H:Hp) (v:V) (u:Value) (Q:St->Hp->Prop),Inv X pins σ H s->RelV v u->t v σ H Q ->
  wpAny (model X.prog X.w) X.A (assign target X.env u) (fun _ s'=>∃ σ' H',Inv X pins σ' H' s'/\Q σ' H') X.xe s
abbrev PGs(X:Cx)(ts:List Expr)(t:TGs):Prop :=
 ∀ (pins:List (Addr × Obj)) (s:Shared) (σ:St) (H:Hp) (vs:List V) (us:List Value) (Q:St->Hp->Prop),Inv X pins σ H s->Vals vs us->t vs σ H Q ->
  wpAny (model X.prog X.w) X.A (assignInOrder ((assignEach ts X.env).map (·.2)) us) (fun _ s'=>∃ σ' H',Inv X pins σ' H' s'/\Q σ' H') X.xe s
@[reducible]noncomputable def AR:=V->V->V->Hp->(Hp->Prop)->Prop
abbrev Ay(X:Cx)(t:AR):Prop :=
 ∀ (pins:List (Addr × Obj)) (s:Shared) (σ:St) (H:Hp) (o i v:V) (ov iv u:Value) (Q:Hp->Prop),Inv X pins σ H s->RelV o ov->RelV i iv->RelV v u->t o i v H Q ->
  wpAny (model X.prog X.w) X.A (setItem ov iv u) (fun _ s'=>∃ H',Inv X pins σ H' s'/\Q H') X.xe s
@[reducible]noncomputable def TIp:=V->V->Hp->VK->Prop
abbrev PIp(X:Cx)(op:Operator)(t:TIp):Prop :=
 ∀ (pins:List (Addr × Obj)) (s:Shared) (σ:St) (H:Hp) (x y:V) (v u:Value) (Q:VK),Inv X pins σ H s->RelV x v->RelV y u->t x y H Q ->
  wpAny (model X.prog X.w) X.A (inplaceOp op v u) (EP X pins σ Q) X.xe s
section
variable{X:Cx}{pos:Pos}
abbrev lN(i:Nat):TG:=fun v σ H Q=>Q (σ.set i (some v)) H
def oE(hN:X.N.Nodup)(hi:X.N[i]?=some x)(hx:Loc X.env.scope x)(hf:X.fn x=true\/X.env.scope.names.lookup x=some .local):PG X (.Name x pos) (lN i):=by
 intro pins s σ H v u Q I r h;exact wpAny_assign_Name (gB I hN hi hx r (fun s' I'=>⟨_,H,I',h⟩) hf)
abbrev Ag:TGs:=fun vs σ H Q=>vs=[]/\Q σ H
abbrev wj(t:TG)(u:TGs):TGs:=fun vs σ H Q=>∃ v r,vs=v::r/\t v σ H fun σ' H'=>u r σ' H' Q
def xV:PGs X [] Ag:=by
 intro pins s σ H vs us Q I r h;obtain⟨e,h⟩:=h;subst e;cases r;exact assignInOrder_nil ⟨σ,H,I,h⟩
def vF(h1:PG X e t)(h2:PGs X es u)
 (hs:(assignEach (e::es) X.env).map (·.2)=assign e X.env::(assignEach es X.env).map (·.2)):PGs X (e::es) (wj t u):=by
 intro pins s σ H vs us Q I r h;obtain⟨v,vr,e1,h⟩:=h;subst e1
 cases r with
 |cons r rr=>
  rw[hs];refine assignInOrder_cons (thn (h1 pins s σ H _ _ _ I r h) fun _ s1 ⟨σ1,H1,I1,q1⟩=>?_);exact h2 pins s1 σ1 H1 _ _ Q I1 rr q1
abbrev jY(K:PySem.W.Frag)(n:Nat)(t:TGs):TG:=fun v σ H Q=>∃ a xs,v=.ref a/\SqT K H a xs/\xs.length=n/\t xs σ H Q
abbrev vQ(to ti:TE)(t:AR):TG:=fun v σ H Q=>to σ H fun o H1=>ti σ H1 fun i H2=>t o i v H2 fun H3=>Q σ H3
def za(ho:PE X o to)(hi:PE X i ti)(hs:Ay X t)
 (ha:∀ v,assign (.Subscript o i pos) X.env v=(do
   let ov <- holding [v] (eval o X.env)
   let iv <- holding [v,ov] (eval i X.env)
   standAt pos
   holding [v,ov,iv] (setItem ov iv v)
   release [v,ov,iv] []):=by intro _;rfl):PG X (.Subscript o i pos) (vQ to ti t):=by
 intro pins s σ H v u Q I r h;rw[ha];refine wpAny_bind (wpAny_holding (thn (ho pins s σ H _ I h) fun ov s1 ⟨x,H1,I1,r1,q1⟩=>?_));refine wpAny_bind (wpAny_holding (thn (hi pins s1 σ H1 _ I1 q1) fun iv s2 ⟨y,H2,I2,r2,q2⟩=>?_));refine wpAny_bind (wpAny_standAt (wpAny_bind (wpAny_holding (thn (hs pins s2 σ H2 x y v ov iv u _ I2 r1 r2 r q2) fun _ s3 ⟨H3,I3,q3⟩=>?_))));exact wpAny_release ⟨σ,H3,I3,q3⟩
abbrev m8(te:TE)(g:TG):TS:=fun D σ H=>te σ H fun x H1=>g x σ H1 D.nx
def nW(he:PE X e te)(hg:PG X tg g)(hs:swapsWithSole [tg] e pos.line X.env=pure false)(hw:swappedStores [tg] e X.env=pure none)
 (h1:(assignEach [tg] X.env).map (·.2)=[assign tg X.env]):PS X (.Assign [tg] e pos) (m8 te g):=by
 intro pins s σ H D I h;refine wpAny_Assign_stores (thn (he pins s σ H _ I h) fun v s1 ⟨x,H1,I1,r1,q1⟩=>?_) hs hw;rw[h1];exact thn (hg pins s1 σ H1 x v _ I1 r1 q1) fun _ s2 q=>q
def nG(hN:X.N.Nodup)(hi:X.N[i]?=some x)(hx:Loc X.env.scope x)(he:PE X e te)(hs:swapsWith e (some (.Name x pos')) pos.line X.env=pure false)(hf:X.fn x=true\/X.env.scope.names.lookup x=some .local) :
  PS X (.Assign [.Name x pos'] e pos) (m8 te (lN i)):=by
 intro pins s σ H D I h;refine wpAny_Assign_Name (thn (he pins s σ H _ I h) fun v s1 ⟨y,H1,I1,r1,q1⟩=>?_) hs;exact gB I1 hN hi hx r1 (fun s2 I2=>⟨_,H1,I2,q1⟩) hf
abbrev uD(i:Nat)(te:TE)(ti:TIp):TS:=fun D σ H=>∃ x,σ[i]?=some (some x)/\te σ H fun y H1=>ti x y H1 fun z H2=>D.nx (σ.set i (some z)) H2
def ng(hN:X.N.Nodup)(hi:X.N[i]?=some x)(hx:Loc X.env.scope x)(he:PE X e te)(ho:PIp X op ti)(hf:X.fn x=true\/X.env.scope.names.lookup x=some .local) :
  PS X (.AugAssign (.Name x pos') op e pos) (uD i te ti):=by
 intro pins s σ H D I h;obtain⟨v,e1,h⟩:=h;obtain⟨m,hn,hl⟩:=I.loc
 have vis:Vis X.env.scope x:=by rcases hx with k | k;exact .inl k;exact .inr (.inl k)
 obtain⟨u,r,l⟩:=hl i x v hi e1 vis;refine wpAny_AugAssign_Name ?_
 have go:wpAny (model X.prog X.w) X.A (eval e X.env) (fun w s₂=>wpAny (model X.prog X.w) X.A (inplaceOp op u w) (fun r s₃=>wpAny (model X.prog X.w) X.A (storeName X.env x r) (fun _=>SP X pins D .next) X.xe s₃) X.xe s₂) X.xe s:=by
  refine thn (he pins s σ H _ I h) fun w s1 ⟨y,H1,I1,r1,q1⟩=>?_;refine thn (ho pins s1 σ H1 v y u w _ I1 r r1 q1) fun z s2 ⟨zv,H2,I2,r2,q2⟩=>?_;exact gB I2 hN hi hx r2 (fun s3 I3=>⟨_,H2,I3,q2⟩) hf
 rcases l with⟨hk,hm⟩ | ⟨hk,c,hc,hcell⟩
 ·exact wpAny_loadName_local I.ok.kind hk hn hm go
 ·rcases hk with hk | hk
  ·exact wpAny_loadName_cell I.ok.kind hk hc hcell go
  ·rcases hx with k | k
   ·have:X.env.scope.names.lookup x=some .free:=hk;rw[k]at this;cases this
   ·have:X.env.scope.names.lookup x=some .free:=hk;rw[k]at this;cases this
abbrev ipI(f:Int->Int->Int):TIp:=fun x y H Q=>∃ i j,x=.int i/\y=.int j/\Q (.int (f i j)) H
def zI:PIp X .Add (ipI fun i j=>i+j):=by
 intro pins s σ H x y v u Q I r1 r2 h;obtain⟨i,j,e1,e2,q⟩:=h;subst e1;subst e2;obtain⟨t,rfl⟩:=r1;obtain⟨t',rfl⟩:=r2;exact iadd_int ⟨.int _,H,I.tok _,⟨_,rfl⟩,q⟩
def ze:PIp X .Sub (ipI fun i j=>i-j):=by
 intro pins s σ H x y v u Q I r1 r2 h;obtain⟨i,j,e1,e2,q⟩:=h;subst e1;subst e2;obtain⟨t,rfl⟩:=r1;obtain⟨t',rfl⟩:=r2;exact isub_int ⟨.int _,H,I.tok _,⟨_,rfl⟩,q⟩
end
section
variable{X:Cx}{pos:Pos}
end
structure It where
 go:Nat->Hp->Prop
 yld:Nat->Hp->V->Hp->Prop
 stop:Nat->Hp->Prop
abbrev gz(X:Cx)(pins:List (Addr × Obj))(H:Hp)(b:Addr):Prop :=
 H b=none/\b≠X.env.locals/\b∉X.fs/\(b∈X.ex\/X.s₀.heap.objs.size<=b)/\(∀ x c,X.env.cells.lookup x=some c->c≠b)/\∀ p∈X.pn++pins,p.1≠b
def Inv.ja(I:Inv X pins σ H s)(hb:s.heap.objs.size<=b)(hn:H' b=none):gz X pins H' b:=by
 refine⟨hn,Nat.ne_of_gt (Nat.lt_of_lt_of_le I.lt hb),I.DK hb,.inr (Nat.le_trans I.sz hb),fun x c e z=>?_,fun p hp z=>?_⟩
 ·obtain⟨v,q⟩:=I.cell x c e;exact absurd (Nat.lt_of_lt_of_le q.lt (by rw[z];exact hb)) (Nat.lt_irrefl _)
 ·exact absurd (Nat.lt_of_lt_of_le (Heap.lt_size (I.pin p hp).1) (by rw[z];exact hb)) (Nat.lt_irrefl _)
structure ju(CM:Cx->Prop)(P:Program)(w:World)(K:PySem.W.Frag)(tg:Expr)(J:It)(fp:List Addr)(it:Addr)(tn:Nat->Heap->Prop):Prop where
 mem:it∈fp
 obj:∀ i h,tn i h->∀ b∈fp,∃ o,h.get? b=some o/\∀ v,o.data≠.cell v
 keep:∀ i h h',tn i h->(∀ b∈fp,∀ o,h.get? b=some o->h'.get? b=some o)->tn i h'
 item:∀ (X:Cx),X.prog=P->X.w=w->X.K=K->CM X->∀ (i:Nat) (pins:List (Addr × Obj)) (s:Shared) (σ:St) (H:Hp) (E:Value->Shared->Prop),Inv X pins σ H s->(∀ b∈fp,gz X pins H b)->tn i s.heap->J.go i H ->
  wpAny (model P w) X.A (pyNext (.ref it)) (fun r s1=>∃ u,r=some u /\
   wpAny (model P w) X.A (letOwnedTupleGo tg (.ref it) u) (fun _ s2=>∃ x H',Inv X pins σ H' s2/\RelV x u/\J.yld i H x H'/\tn (i+1) s2.heap/\∀ b∈fp,H' b=none) E s1) E s
 done:∀ (X:Cx),X.prog=P->X.w=w->X.K=K->CM X->∀ (i:Nat) (pins:List (Addr × Obj)) (s:Shared) (σ:St) (H:Hp) (E:Value->Shared->Prop),Inv X pins σ H s->(∀ b∈fp,gz X pins H b)->tn i s.heap->J.stop i H ->
  wpAny (model P w) X.A (pyNext (.ref it)) (fun r s1=>r=none/\Inv X pins σ H s1) E s
 self:∀ (A:Around) (i:Nat) (s:Shared) (Q:Value->Shared->Prop) (E:Value->Shared->Prop),tn i s.heap->Q (.ref it) s->wpAny (model P w) A (pyIter (.ref it)) Q E s
@[reducible]noncomputable def Calm:Cx->Prop:=fun X=>X.calm=true
@[reducible]noncomputable def Turn:=ju Calm
@[reducible]noncomputable def TI:=St->Hp->(It->Hp->Prop)->Prop
abbrev A8(CM:Cx->Prop)(X:Cx)(pins:List (Addr × Obj))(σ:St)(tg:Expr)(R:It->Hp->Prop)(itv:Value)(s2:Shared):Prop :=
 ∃ (it:Addr) (fp:List Addr) (tn:Nat->Heap->Prop) (J:It) (H':Hp),itv=.ref it/\Inv X pins σ H' s2/\ju CM X.prog X.w X.K tg J fp it tn/\tn 0 s2.heap/\(∀ b∈fp,gz X pins H' b)/\R J H'
@[reducible]noncomputable def PIE:=A8 Calm
abbrev PI'(CM:Cx->Prop)(X:Cx)(tg iter:Expr)(wi:TI):Prop :=
 ∀ (pins:List (Addr × Obj)) (s:Shared) (σ:St) (H:Hp) (R:It->Hp->Prop),Inv X pins σ H s->wi σ H R ->
  wpAny (model X.prog X.w) X.A (eval iter X.env) (fun v s1=>wpAny (model X.prog X.w) X.A (pyIter v) (A8 CM X pins σ tg R) X.xe s1) X.xe s
@[reducible]noncomputable def PI:=PI' Calm
def j8(ho:s.heap.get? it=some o)(hc:o.cls=.type n)(hd:o.data=.fields vs)
 (hn:["enumerate", "zip", "dict_itemiterator", "dict_reverseitemiterator", "odict_iterator", "itertools.zip_longest", "itertools.pairwise"].contains n=false)(hQ:Q () s):wpAny M A (letOwnedTupleGo tg (.ref it) u) Q E s:=by
 unfold letOwnedTupleGo
 cases tg<;>first
  | exact wpAny_pure hQ
  | (cases u<;>first
    | exact wpAny_pure hQ
    | (refine wpAny_bind (wpAny_load ho ?_)
       rw[hc,hd];show wpAny M A (if(["enumerate", "zip", "dict_itemiterator", "dict_reverseitemiterator", "odict_iterator", "itertools.zip_longest", "itertools.pairwise"].contains n&&vs[0]? == some (rawInt _))=true then _ else _) Q E s;rw[if_neg (by intro h;rw[hn,Bool.false_and]at h;cases h)]
       exact wpAny_pure hQ))
abbrev Itl(K:PySem.W.Frag)(a:Addr):It :=
 ⟨fun i H=>∃ xs x,SqL K H a xs/\xs[i]?=some x,fun i H x H'=>H'=H/\∀ xs,SqL K H a xs->xs[i]?=some x,fun i H=>∃ xs,SqL K H a xs/\xs.length<=i⟩
abbrev Itt(K:PySem.W.Frag)(a:Addr):It :=
 ⟨fun i H=>∃ xs x,SqT K H a xs/\xs[i]?=some x,fun i H x H'=>H'=H/\∀ xs,SqT K H a xs->xs[i]?=some x,fun i H=>∃ xs,SqT K H a xs/\xs.length<=i⟩
abbrev Itr(lo:Int)(n:Nat):It:=⟨fun i _=>i<n,fun i H x H'=>H'=H/\x=.int (lo+i),fun i _=>n<=i⟩
def sQ{P:Program}{w:World}{K:PySem.W.Frag}(a it:Addr):Turn P w K tg (Itl K a) [it] it (fun i h=>h.IsListIter it a i) where
 mem:=by simp
 obj:=fun i h st b hb=>by
  have e:b=it:=by simpa using hb
  subst e;obtain⟨o,e,c,d⟩:=st;exact⟨o,e,fun v z=>by rw[d]at z;cases z⟩
 keep:=fun i h h' st k=>st.at fun o e=>k it (by simp) o e
 item:=by
  intro X hP hw hK hc i pins s σ H E I hf st hg;subst hP hw hK;obtain⟨xs,x,hq,hx⟩:=hg;obtain⟨its,rv,p,hz⟩:=I.list hq;obtain⟨u,hu,ru⟩:=rv.get hx;obtain⟨f0,f1,f2,f3,f4,f5⟩:=hf it (by simp);refine wpAny_pyNext_list_item st p.isList (x:=u) (by simpa using hu) fun h' st' sb=>?_;have I1:Inv X pins σ H { s with heap:=h' }:=I.turned (t':=s.toks) (fun b o hb e=>(sb.2 b hb).trans e) f0 f1 f3 f4 f5;obtain⟨o,e,c,d⟩:=id st';exact⟨u,rfl,j8 (s:={ s with heap:=h' }) e c d (by decide) ⟨x,H,I1,ru,⟨rfl,fun ys hy=>by rw[I.uK hy hq];exact hx⟩,st',fun b hb=>(hf b hb).1⟩⟩
 done:=by
  intro X hP hw hK hc i pins s σ H E I hf st hg;subst hP hw hK;obtain⟨xs,hq,hx⟩:=hg;obtain⟨its,rv,p,hz⟩:=I.list hq;obtain⟨f0,f1,f2,f3,f4,f5⟩:=hf it (by simp);have hl:=rv.length
  exact wpAny_pyNext_list_end (I.ok.hd.1 hc) st p.isList (by simp;omega) fun h' eb=>⟨rfl,I.turned (t':=s.toks) (fun b o hb e=>eb b o hb e) f0 f1 f3 f4 f5⟩
 self:=fun _ _ _ _ _ st h=>wpAny_pyIter_listiter st h
def qL{P:Program}{w:World}{K:PySem.W.Frag}(a it:Addr):Turn P w K tg (Itt K a) [it] it (fun i h=>h.IsTupleIter it a i) where
 mem:=by simp
 obj:=fun i h st b hb=>by
  have e:b=it:=by simpa using hb
  subst e;obtain⟨o,e,c,d⟩:=st;exact⟨o,e,fun v z=>by rw[d]at z;cases z⟩
 keep:=fun i h h' st k=>st.at fun o e=>k it (by simp) o e
 item:=by
  intro X hP hw hK hc i pins s σ H E I hf st hg;subst hP hw hK;obtain⟨xs,x,hq,hx⟩:=hg;obtain⟨its,rv,p,hz⟩:=I.tuple hq;obtain⟨u,hu,ru⟩:=rv.get hx;obtain⟨f0,f1,f2,f3,f4,f5⟩:=hf it (by simp);refine wpAny_pyNext_tuple_item st (show s.heap.IsTuple a its.toArray from p) (x:=u) (by simpa using hu) fun h' st' sb=>?_;have I1:Inv X pins σ H { s with heap:=h' }:=I.turned (t':=s.toks) (fun b o hb e=>(sb.2 b hb).trans e) f0 f1 f3 f4 f5;obtain⟨o,e,c,d⟩:=id st';exact⟨u,rfl,j8 (s:={ s with heap:=h' }) e c d (by decide) ⟨x,H,I1,ru,⟨rfl,fun ys hy=>by rw[I.r9 hy hq];exact hx⟩,st',fun b hb=>(hf b hb).1⟩⟩
 done:=by
  intro X hP hw hK hc i pins s σ H E I hf st hg;subst hP hw hK;obtain⟨xs,hq,hx⟩:=hg;obtain⟨its,rv,p,hz⟩:=I.tuple hq;obtain⟨f0,f1,f2,f3,f4,f5⟩:=hf it (by simp);have hl:=rv.length
  exact wpAny_pyNext_tuple_end (I.ok.hd.1 hc) st (show s.heap.IsTuple a its.toArray from p) (by simp;omega) fun h' eb=>⟨rfl,I.turned (t':=s.toks) (fun b o hb e=>eb b o hb e) f0 f1 f3 f4 f5⟩
 self:=fun _ _ _ _ _ st h=>wpAny_pyIter_tupleiter st h
def qF{P:Program}{w:World}{K:PySem.W.Frag}(it:Addr)(lo:Int)(n:Nat):Turn P w K tg (Itr lo n) [it] it (fun i h=>IsRangeIter h it (lo+(i:Nat)*1) ((n:Int)-(i:Nat)) 1) where
 mem:=by simp
 obj:=fun i h st b hb=>by
  have e:b=it:=by simpa using hb
  subst e
  exact⟨_,st,fun v z=>by
   have z':Data.fields _=Data.cell v:=z
   cases z'⟩
 keep:=fun i h h' st k=>k it (by simp) _ st
 item:=by
  intro X hP hw hK hc i pins s σ H E I hf st hg;subst hP hw hK;obtain⟨f0,f1,f2,f3,f4,f5⟩:=hf it (by simp);have W:=Walks.range (prog:=X.prog) (w:=X.w) (I.ok.hd.1 hc) it lo 1 n;refine W.item i s _ _ hg st fun v h' tk hv st' kk=>?_;obtain⟨t,rfl⟩:=hv;have I1:Inv X pins σ H { s with heap:=h',toks:=tk }:=I.turned (fun b o hb e=>kk b o (by simpa using hb) e) f0 f1 f3 f4 f5;refine⟨_,rfl,j8 (s:={ s with heap:=h',toks:=tk }) (n := "range_iterator") st' rfl rfl (by decide) ⟨.int (lo+i),H,I1,⟨t,?_⟩,⟨rfl,rfl⟩,st',fun b hb=>(hf b hb).1⟩⟩;rw[Int.mul_one]
 done:=by
  intro X hP hw hK hc i pins s σ H E I hf st hg;subst hP hw hK;obtain⟨f0,f1,f2,f3,f4,f5⟩:=hf it (by simp)
  exact wpAny_pyNext_range_end (I.ok.hd.1 hc) st (by have:n<=i:=hg;omega) fun h' eb=>⟨rfl,I.turned (t':=s.toks) (fun b o hb e=>eb b o hb e) f0 f1 f3 f4 f5⟩
 self:=fun _ _ _ _ _ st h=>wpAny_pyIter_rangeiter st h
section
variable{X:Cx}{tg:Expr}
def mR{pins:List (Addr × Obj)}{σ:St}{H:Hp}{s:Shared}{R:It->Hp->Prop}{E:Value->Shared->Prop}{lo hi:Int}{t u v:Tok}{tk:Nat}(I:Inv X pins σ H s)(h1:-(2 ^ 62)<=lo)(h2:lo<2 ^ 62)(h3:-(2 ^ 62)<=hi)(h4:hi<2 ^ 62)
 (q:R (Itr lo (hi-lo).toNat) H):wpAny (model X.prog X.w) X.A (pyIter (.ref s.heap.objs.size)) (PIE X pins σ tg R) E { s with heap:=s.heap.push { cls:=.type "range",data:=.fields #[.int lo t,.int hi u,.int 1 v] },toks:=tk }:=by
 refine wpAny_pyIter_range (IsRange.new ..) (small_one h1 h2 h3 h4) ?_;have I1:Inv X pins σ H { s with heap:=s.heap.push { cls:=.type "range",data:=.fields #[.int lo t,.int hi u,.int 1 v] },toks:=tk }:=I.kept fun b o e=>Heap.get?_push_of_some _ e
 refine⟨(s.heap.push { cls:=.type "range",data:=.fields #[.int lo t,.int hi u,.int 1 v] }).objs.size,[(s.heap.push { cls:=.type "range",data:=.fields #[.int lo t,.int hi u,.int 1 v] }).objs.size],_,_,H,rfl,
  I1.kept (t':=tk) fun b o e=>Heap.get?_push_of_some _ e,qF _ lo (hi-lo).toNat,?_,fun b hb=>?_,q⟩
 ·have e1:lo+((0:Nat):Int)*1=lo:=by simp
  have e2:(((hi-lo).toNat:Nat):Int)-((0:Nat):Int)=Builtin.Range.rangeSize lo hi 1:=by rw[rangeSize_one];split<;>omega
  show IsRangeIter _ _ (lo+((0:Nat):Int)*1) ((((hi-lo).toNat:Nat):Int)-((0:Nat):Int)) 1;rw[e1,e2];exact Heap.get?_push_size _ rfl
 ·have e:b=(s.heap.push { cls:=.type "range",data:=.fields #[.int lo t,.int hi u,.int 1 v] }).objs.size:=by simpa using hb
  subst e;exact I1.ja (Nat.le_refl _) (I1.hok.fresh (Nat.le_refl _))
abbrev Ct(ta:TA):TI:=fun σ H R=>ta σ H fun vs H1=>∃ j:Int,vs=[.int j]/\-(2 ^ 62)<=j/\j<2 ^ 62/\R (Itr 0 j.toNat) H1
abbrev Ci(ta:TA):TI:=fun σ H R=>ta σ H fun vs H1=>∃ i j:Int,vs=[.int i,.int j]/\(-(2 ^ 62)<=i/\i<2 ^ 62/\-(2 ^ 62)<=j/\j<2 ^ 62)/\R (Itr i (j-i).toNat) H1
def r8{a:Expr}{ta:TA}{p pos:Pos}(hg:Gl X "range")(hm:X.mg "range" = none)(ha:PA X [a] ta)(hs:starEach [a] X.env=[(false,eval a X.env)]):PI X tg (.Call (.Name "range" p) [a] [] pos) (Ct ta):=by
 intro pins s σ H R I h;refine Call_ (fq I hg hm boot_range (PyProof.Rows.callWith_type1 (thn (ha pos pins s σ H _ I h) fun us s1 ⟨vs,H1,I1,r1,q1⟩=>?_) hs rfl) (by decide) (by decide));obtain⟨j,e,q1,q2,q⟩:=q1;subst e
 cases r1 with
 |cons r rr=>
  cases rr;obtain⟨t,rfl⟩:=r;exact call_range_1 (mR I1 (by omega) (by omega) q1 q2 (by simpa using q))
def sG(hg:Gl X "range")(hm:X.mg "range" = none)(ha:PA X [a,b] ta)(hs:starEach [a,b] X.env=[(false,eval a X.env),(false,eval b X.env)])(hs2:starEach [b] X.env=[(false,eval b X.env)]) :
  PI X tg (.Call (.Name "range" p) [a,b] [] pos) (Ci ta):=by
 intro pins s σ H R I h;refine Call_ (fq I hg hm boot_range (PyProof.Rows.callWith_type1 (thn (ha pos pins s σ H _ I h) fun us s1 ⟨vs,H1,I1,r1,q1⟩=>?_) (by rw[hs,hs2]) (by rw[hs2];rfl)) (by decide) (by decide));obtain⟨i,j,e,⟨q1,q2,q3,q4⟩,q⟩:=q1;subst e
 cases r1 with
 |cons r rr=>
  cases rr with
  |cons r' rr=>
   cases rr;obtain⟨t,rfl⟩:=r;obtain⟨t',rfl⟩:=r';exact call_range_2 (mR I1 q1 q2 q3 q4 q)
abbrev DO(wi:TI)(g:TG)(tb:TS):TS:=fun D σ H=>wi σ H fun J H1=>∃ W:Nat->Nat->St->Hp->Prop,(∃ m,W 0 m σ H1)/\∀ i m σ H,W i m σ H ->
 (J.stop i H/\D.nx σ H)\/(J.go i H/\∃ N:St->Hp->Prop,(∀ σ' H',N σ' H'->∃ m',m'<m/\W (i+1) m' σ' H')/\∀ x H',J.yld i H x H'->g x σ H' fun σ2 H2=>tb { D with nx:=N,ct:=N,bk:=D.nx } σ2 H2)
abbrev iq(fp:List Addr)(h:Heap):List (Addr × Obj):=fp.filterMap fun b=>(h.get? b).map fun o=>(b,o)
def eX(hb:b∈fp)(e:h.get? b=some o):(b,o)∈iq fp h:=List.mem_filterMap.mpr ⟨b,hb,by rw[e];rfl⟩
def su(hp:p∈iq fp h):p.1∈fp/\h.get? p.1=some p.2:=by
 obtain⟨b,hb,e⟩:=List.mem_filterMap.mp hp
 cases q:h.get? b with
 | none=>rw[q]at e;cases e
 |some o=>
  rw[q]at e;have e':(b,o)=p:=Option.some.inj e;subst e';exact⟨hb,q⟩
def Inv.pinned(I:Inv X pins σ H s)(hf:∀ b∈fp,gz X pins H b)(ho:∀ b∈fp,∃ o,s.heap.get? b=some o/\∀ v,o.data≠.cell v):Inv X (pins++iq fp s.heap) σ H s :=
 I.oR fun p hp=>(List.mem_append.mp hp).elim (fun z=>I.pin p (List.mem_append_right _ z)) fun z=>by
  obtain⟨hb,e⟩:=su z;obtain⟨f0,f1,f2,_⟩:=hf p.1 hb;obtain⟨o,e',d⟩:=ho p.1 hb;rw[e]at e';cases e';exact⟨e,f0,f1,f2,d⟩
def Inv.gL(I:Inv X (pins++pl) σ H s):Inv X pins σ H s:=I.oR fun p hp=>I.pin p (List.mem_append_right _ (List.mem_append_left _ hp))
def tX(hp:PassesOwn (model X.prog X.w) X.A X.env X.xe)(hc:X.calm=true)(hi:PI X tg iter wi)(hg:PG X tg g)(hb:PSs X body tb)
 (hs:∀ x,foldedSetIterable iter X.env x=pure x):PS X (.For tg iter body [] pos) (DO wi g tb):=by
 intro pins s σ H D I h;refine wpAny_For (thn (hi pins s σ H _ I h) fun v s1 h1=>thn h1 fun itv s2 h2=>?_) hs;obtain⟨it,fp,tn,J,H2,e,I2,T,st2,f2,W,⟨m0,w0⟩,turn⟩:=h2;subst e
 have stat:∀ {H':Hp},(∀ b∈fp,H' b=none)->∀ b∈fp,gz X pins H' b:=fun hn b hb=>⟨hn b hb,(f2 b hb).2⟩
 refine codeAny_forLoop_any (fun n s'=>∃ i σ' H',Inv X pins σ' H' s'/\tn i s'.heap/\(∀ b∈fp,H' b=none)/\W i n σ' H') ?_ m0 ⟨0,σ,H2,I2,st2,fun b hb=>(f2 b hb).1,w0⟩;rintro n s3 ⟨i,σ3,H3,I3,st3,fr3,w3⟩
 rcases turn i n σ3 H3 w3 with⟨stop,qn⟩ | ⟨go,N,hN,step⟩
 ·refine wpAny_passesOwn hp (thn (T.done X rfl rfl rfl hc i pins s3 σ3 H3 X.xe I3 (stat fr3) st3 stop) fun r s4 ⟨hr,I4⟩=>?_);subst hr;exact wpAny_execs_nil ⟨σ3,H3,I4,qn⟩
 ·refine wpAny_passesOwn hp (thn (T.item X rfl rfl rfl hc i pins s3 σ3 H3 X.xe I3 (stat fr3) st3 go) fun r s4 ⟨u,hr,h4⟩=>?_);subst hr;refine wpAny_passesOwn hp (thn h4 fun _ s5 ⟨x,H5,I5,r5,y5,st5,fr5⟩=>?_);have I5':=I5.pinned (stat fr5) (T.obj _ _ st5);refine wpAny_passesOwn hp (thn (hg _ s5 σ3 H5 x u _ I5' r5 (step x H5 y5)) fun _ s6 ⟨σ6,H6,I6,q6⟩=>?_);refine wpAny_passesOwn hp (thn (hb _ s6 σ6 H6 _ I6 q6) fun f s7 q7=>?_)
  have again:∀ {σ7:St} {H7:Hp},Inv X (pins++iq fp s5.heap) σ7 H7 s7->N σ7 H7->∃ m,m<n/\∃ i σ' H',Inv X pins σ' H' s7/\tn i s7.heap/\(∀ b∈fp,H' b=none)/\W i m σ' H':=fun {σ7 H7} I7 n7=>by
   obtain⟨m',hm,w7⟩:=hN σ7 H7 n7;refine⟨m',hm,i+1,σ7,H7,I7.gL,T.keep _ _ _ st5 fun b hb o e=>(I7.pin (b,o) (List.mem_append_right _ (List.mem_append_right _ (eX hb e)))).1,fun b hb=>?_,w7⟩;obtain⟨o,e,d⟩:=T.obj _ _ st5 b hb;exact(I7.pin (b,o) (List.mem_append_right _ (List.mem_append_right _ (eX hb e)))).2.1
  cases f with
  | next=>obtain⟨σ7,H7,I7,n7⟩:=q7;exact again I7 n7
  | cont=>obtain⟨σ7,H7,I7,n7⟩:=q7;exact again I7 n7
  | brk=>obtain⟨σ7,H7,I7,q7⟩:=q7;exact⟨σ7,H7,I7.gL,q7⟩
  | ret v=>obtain⟨x7,σ7,H7,I7,r7,q7⟩:=q7;exact⟨x7,σ7,H7,I7.gL,r7,q7⟩
end
@[reducible]noncomputable def R2:=V->V->Hp->VK->Prop
abbrev OpR(X:Cx)(f:Value->Value->Sem Value)(r:R2):Prop :=
 ∀ (pins:List (Addr × Obj)) (s:Shared) (σ:St) (H:Hp) (x y:V) (v u:Value) (Q:VK),Inv X pins σ H s->RelV x v->RelV y u->r x y H Q ->
  wpAny (model X.prog X.w) X.A (f v u) (EP X pins σ Q) X.xe s
abbrev UnR(X:Cx)(f:Value->Sem Value)(r:V->Hp->VK->Prop):Prop :=
 ∀ (pins:List (Addr × Obj)) (s:Shared) (σ:St) (H:Hp) (x:V) (v:Value) (Q:VK),Inv X pins σ H s->RelV x v->r x H Q ->
  wpAny (model X.prog X.w) X.A (f v) (EP X pins σ Q) X.xe s
abbrev bx(X:Cx)(f:Value)(r:List V->Hp->VK->Prop):Prop :=
 ∀ (pins:List (Addr × Obj)) (s:Shared) (σ:St) (H:Hp) (xs:List V) (us:List Value) (Q:VK),Inv X pins σ H s->Vals xs us->r xs H Q ->
  wpAny (model X.prog X.w) X.A (call f us) (EP X pins σ Q) X.xe s
abbrev Dt(X:Cx)(r:V->Hp->(Bool->Hp->Prop)->Prop):Prop :=
 ∀ (pins:List (Addr × Obj)) (s:Shared) (σ:St) (H:Hp) (x:V) (v:Value) (Q:Bool->Hp->Prop),Inv X pins σ H s->RelV x v->r x H Q ->
  wpAny (model X.prog X.w) X.A (truthy v) (TP X pins σ Q) X.xe s
abbrev tOp(r:R2)(ta tb:TE):TE:=fun σ H Q=>ta σ H fun x H1=>tb σ H1 fun y H2=>r x y H2 Q
abbrev tUn(r:V->Hp->VK->Prop)(ta:TE):TE:=fun σ H Q=>ta σ H fun x H1=>r x H1 Q
abbrev rI(C:Int->Int->Prop)(g:Int->Int->V):R2:=fun x y H Q=>∃ i j,x=.int i/\y=.int j/\C i j/\Q (g i j) H
abbrev rI0(g:Int->Int->V):R2:=fun x y H Q=>∃ i j,x=.int i/\y=.int j/\Q (g i j) H
abbrev rU(g:Int->V):V->Hp->VK->Prop:=fun x H Q=>∃ i,x=.int i/\Q (g i) H
section
variable{X:Cx}{a b c:Expr}{ta tb tc:TE}{pos:Pos}
def vc(ha:PE X a ta)(hb:PE X b tb){pins:List (Addr × Obj)}{s:Shared}{σ:St}{H:Hp}{R:V->V->Hp->Prop}(I:Inv X pins σ H s)
 (h:ta σ H fun x H1=>tb σ H1 fun y H2=>R x y H2){Q:Value->Shared->Prop}{f:Value->Value->Sem Value}
 (hf:∀ v u s2 x y H2,Inv X pins σ H2 s2->RelV x v->RelV y u->R x y H2->wpAny (model X.prog X.w) X.A (f v u) Q X.xe s2) :
  wpAny (model X.prog X.w) X.A (eval a X.env) (fun v s₁=>wpAny (model X.prog X.w) X.A (eval b X.env) (fun u s₂=>wpAny (model X.prog X.w) X.A (f v u) Q X.xe s₂) X.xe s₁) X.xe s:=by
 refine thn (ha pins s σ H _ I h) fun v s1 ⟨x,H1,I1,r1,q1⟩=>?_;refine thn (hb pins s1 σ H1 _ I1 q1) fun u s2 ⟨y,H2,I2,r2,q2⟩=>?_;exact hf v u s2 x y H2 I2 r1 r2 q2
def BW{op:Operator}{r:R2}(ho:OpR X (binaryOp op) r)(ha:PE X a ta)(hb:PE X b tb):PE X (.BinOp a op b pos) (tOp r ta tb):=by
 intro pins s σ H Q I h;exact wpAny_BinOp (vc ha hb I h fun v u s2 x y H2 I2 rx ry q=>ho pins s2 σ H2 x y v u Q I2 rx ry q)
def wQ(ho:UnR X (unaryOp op) r)(ha:PE X a ta):PE X (.UnaryOp op a pos) (tUn r ta):=by
 intro pins s σ H Q I h;exact UnaryOp_ (thn (ha pins s σ H _ I h) fun v s1 ⟨x,H1,I1,r1,q1⟩=>ho pins s1 σ H1 x v Q I1 r1 q1)
def opI{f:Value->Value->Sem Value}{C:Int->Int->Prop}{g:Int->Int->Int}
 (rule:∀ (i j:Int) (t u:Tok) (s:Shared) (Q:Value->Shared->Prop) (E:Value->Shared->Prop),C i j->Q (.int (g i j) s.toks) { s with toks:=s.toks+1 }->wpAny (model X.prog X.w) X.A (f (.int i t) (.int j u)) Q E s) :
  OpR X f (rI C fun i j=>.int (g i j)):=by
 intro pins s σ H x y v u Q I rx ry h;obtain⟨i,j,rfl,rfl,hc,q⟩:=h;obtain⟨t,rfl⟩:=rx;obtain⟨t',rfl⟩:=ry;exact rule i j t t' s _ _ hc ⟨.int (g i j),H,I.tok _,⟨_,rfl⟩,q⟩
def Be{f:Value->Value->Sem Value}{g:Int->Int->Int}
 (rule:∀ (i j:Int) (t u:Tok) (s:Shared) (Q:Value->Shared->Prop) (E:Value->Shared->Prop),Q (.int (g i j) s.toks) { s with toks:=s.toks+1 }->wpAny (model X.prog X.w) X.A (f (.int i t) (.int j u)) Q E s) :
  OpR X f (rI0 fun i j=>.int (g i j)):=by
 intro pins s σ H x y v u Q I rx ry h;obtain⟨i,j,rfl,rfl,q⟩:=h;obtain⟨t,rfl⟩:=rx;obtain⟨t',rfl⟩:=ry;exact rule i j t t' s _ _ ⟨.int (g i j),H,I.tok _,⟨_,rfl⟩,q⟩
abbrev AG(i j:Int):Prop:=0<=j/\j<=1000000/\i.natAbs<2 ^ 64
abbrev qG(i j:Int):Prop:=(-(2 ^ 64)<i/\i<2 ^ 64)\/(-(2 ^ 64)<j/\j<2 ^ 64)
def qG.ok(h:qG i j):IntMulOk i j:=by
 rcases h with⟨h1,h2⟩ | ⟨h1,h2⟩
 ·exact .of_left (intBits_le_64 h1 h2)
 ·exact .of_right (intBits_le_64 h1 h2)
def zm:OpR X (binaryOp .Add) (rI0 fun i j=>.int (i+j)):=Be fun _ _ _ _ _ _ _ q=>add_int q
def zF:OpR X (binaryOp .Sub) (rI0 fun i j=>.int (i-j)):=Be fun _ _ _ _ _ _ _ q=>sub_int q
def AZ:OpR X (binaryOp .Mult) (rI qG fun i j=>.int (i*j)):=opI fun _ _ _ _ _ _ _ hc q=>mul_int q hc.ok
def Aj:OpR X (binaryOp .Mod) (rI (fun _ j=>0<j) fun i j=>.int (i%j)):=opI fun i j _ _ _ _ _ hc q=>by
 have h1:(0:Int)<j:=hc;exact mod_int' (by omega) (by rw[Int.fmod_eq_emod_of_nonneg i (by omega)];exact q)
def BO:OpR X (binaryOp .Pow) (rI AG fun i j=>.int (i ^ j.toNat)):=opI fun _ _ _ _ _ _ _ hc q=>pow_int_small hc.1 hc.2.1 hc.2.2 q
def unI{f:Value->Sem Value}{g:Int->Int}
 (rule:∀ (i:Int) (t:Tok) (s:Shared) (Q:Value->Shared->Prop) (E:Value->Shared->Prop),Q (.int (g i) s.toks) { s with toks:=s.toks+1 }->wpAny (model X.prog X.w) X.A (f (.int i t)) Q E s) :
  UnR X f (rU fun i=>.int (g i)):=by
 intro pins s σ H x v Q I rx h;obtain⟨i,rfl,q⟩:=h;obtain⟨t,rfl⟩:=rx;exact rule i t s _ _ ⟨.int (g i),H,I.tok _,⟨_,rfl⟩,q⟩
def sN:UnR X (unaryOp .USub) (rU fun i=>.int (-i)):=unI fun _ _ _ _ _ q=>neg_int q
end
abbrev Dp:V->V->Bool
 | .non,.non=>true | .non,.int _=>true | .int _,.non=>true | .non,.bl _=>true | .bl _,.non=>true | .non,.str _=>true | .str _,.non=>true
 | .int _,.int _=>true | .bl _,.bl _=>true | .str _,.str _=>true | .byt _,.byt _=>true
 | .int _,.str _=>true | .str _,.int _=>true | .bl _,.str _=>true | .str _,.bl _=>true
 | _,_=>false
abbrev rNe:R2:=fun x y H Q=>Dp x y=true/\Q (.bl (!decide (x=y))) H
def xh:decide (V.int i=V.int j)=(i == j):=by
 rw[Bool.eq_iff_iff];simp
def Az:decide (V.bl i=V.bl j)=(i == j):=by
 rw[Bool.eq_iff_iff];simp
def xJ:decide (V.str i=V.str j)=(i == j):=by
 rw[Bool.eq_iff_iff];simp
def yM:decide (V.byt i=V.byt j)=(i.toList == j.toList):=by
 rw[Bool.eq_iff_iff];cases i;cases j;simp
section
variable{X:Cx}{a b c:Expr}{ta tb tc:TE}{pos:Pos}
def bS(I:Inv X pins σ H s)(q:Q (.bl k) H)(e:k=k'):EP X pins σ Q (.bool k') s:=by
 subst e;exact⟨.bl k,H,I,rfl,q⟩
def Cp:OpR X (compareOp .NotEq) rNe:=by
 intro pins s σ H x y v u Q I rx ry h;obtain⟨hs,q⟩:=h
 cases x with
 |non=>
  cases rx
  cases y with
  | non=>cases ry;exact PySem.EqNone.ne_none_none (bS I q (by simp))
  | bl j=>cases ry;exact PySem.EqNone.ne_none_bool (bS I q (by simp))
  | int j=>obtain⟨t',rfl⟩:=ry;exact PySem.EqNone.ne_none_int (bS I q (by simp))
  | str j=>obtain⟨t',rfl⟩:=ry;exact PySem.EqNone.ne_none_str (bS I q (by simp))
  | _=>exact absurd (show false=true from hs) Bool.false_ne_true
 |bl i=>
  cases rx
  cases y with
  | non=>cases ry;exact PySem.EqNone.ne_bool_none (bS I q (by simp))
  | bl j=>cases ry;exact ne_bool (bS I q (congrArg not Az))
  | str j=>obtain⟨t',rfl⟩:=ry;exact PySem.EqMixed.ne_bool_str (bS I q (by simp))
  | _=>exact absurd (show false=true from hs) Bool.false_ne_true
 |int i=>
  obtain⟨t,rfl⟩:=rx
  cases y with
  | non=>cases ry;exact PySem.EqNone.ne_int_none (bS I q (by simp))
  | int j=>obtain⟨t',rfl⟩:=ry;exact ne_int (bS I q (congrArg not xh))
  | str j=>obtain⟨t',rfl⟩:=ry;exact PySem.EqMixed.ne_int_str (bS I q (by simp))
  | _=>exact absurd (show false=true from hs) Bool.false_ne_true
 |str i=>
  obtain⟨t,rfl⟩:=rx
  cases y with
  | non=>cases ry;exact PySem.EqNone.ne_str_none (bS I q (by simp))
  | bl j=>cases ry;exact PySem.EqMixed.ne_str_bool (bS I q (by simp))
  | int j=>obtain⟨t',rfl⟩:=ry;exact PySem.EqMixed.ne_str_int (bS I q (by simp))
  | str j=>obtain⟨t',rfl⟩:=ry;exact ne_str (bS I q (congrArg not xJ))
  | _=>exact absurd (show false=true from hs) Bool.false_ne_true
 |byt i=>
  obtain⟨t,rfl⟩:=rx
  cases y with
  | byt j=>obtain⟨t',rfl⟩:=ry;exact PySem.W.ne_bytes (bS I q (congrArg not yM))
  | _=>exact absurd (show false=true from hs) Bool.false_ne_true
 | _=>cases y<;>exact absurd (show false=true from hs) Bool.false_ne_true
def OpR.or(h:OpR X f r)(h':OpR X f r'):OpR X f (fun x y H Q=>r x y H Q\/r' x y H Q):=by
 intro pins s σ H x y v u Q I rx ry q;rcases q with q | q
 ·exact h pins s σ H x y v u Q I rx ry q
 ·exact h' pins s σ H x y v u Q I rx ry q
def tL(b:Expr)(h:op≠.In)(h2:op≠.NotIn):behindInMarks op b=false:=by
 have e1:(op == CmpOp.In)=false:=by cases op<;>first | rfl | exact absurd rfl h
 have e2:(op == CmpOp.NotIn)=false:=by cases op<;>first | rfl | exact absurd rfl h2
 cases b<;>simp[behindInMarks,e1,e2]
def pd{op:CmpOp}{r:R2}(ho:OpR X (compareOp op) r)(ha:PE X a ta)(hb:PE X b tb)(hm:behindInMarks op b=false):PE X (.Compare a [op] [b] pos) (tOp r ta tb):=by
 intro pins s σ H Q I h;exact wpAny_Compare1 (vc ha hb I h fun v u s2 x y H2 I2 rx ry q=>ho pins s2 σ H2 x y v u Q I2 rx ry q) hm
abbrev we(t:TE):TT:=fun σ H Q=>t σ H fun x H'=>∃ k,x=.bl k/\Q k H'
def gm(ho:OpR X (compareOp op) r)(ha:PE X a ta)(hb:PE X b tb)(hm:behindInMarks op b=false):PT X (.Compare a [op] [b] pos) (we (tOp r ta tb)):=by
 intro pins s σ H Q I h
 refine wpAny_isTrue_Compare1 (thn (ha pins s σ H _ I h) fun v s1 ⟨x,H1,I1,r1,q1⟩=>thn (hb pins s1 σ H1 _ I1 q1) fun u s2 ⟨y,H2,I2,r2,q2⟩ =>
  thn (ho pins s2 σ H2 x y v u _ I2 r1 r2 q2) fun c s3 ⟨z,H3,I3,r3,k,e,q3⟩=>?_) hm
 subst e;cases r3;exact wpAny_truthy_bool ⟨H3,I3,q3⟩
abbrev nk(r r':R2)(ta tb tc:TE):TE:=fun σ H Q=>ta σ H fun x H1=>tb σ H1 fun y H2=>r x y H2 fun z H3=>∃ k,z=.bl k /\
 (if k=true then tc σ H3 fun w' H4=>r' y w' H4 Q else Q (.bl false) H3)
def ud(ho:OpR X (compareOp op) r)(ho':OpR X (compareOp op') r')(ha:PE X a ta)(hb:PE X b tb)(hc:PE X c tc)
 (hm:lastMarks [op,op'] [b,c]=false):PE X (.Compare a [op,op'] [b,c] pos) (nk r r' ta tb tc):=by
 intro pins s σ H Q I h
 refine Compare_chain (thn (ha pins s σ H _ I h) fun v s1 ⟨x,H1,I1,r1,q1⟩=>chain_link (thn (hb pins s1 σ H1 _ I1 q1) fun u s2 ⟨y,H2,I2,r2,q2⟩ =>
  thn (ho pins s2 σ H2 x y v u _ I2 r1 r2 q2) fun d s3 ⟨z,H3,I3,r3,k,e,q3⟩=>?_)) hm
 subst e;cases r3;refine wpAny_truthy_bool ?_
 cases k with
 | false=>exact ite_ff ⟨.bl false,H3,I3,rfl,q3⟩
 | true=>exact ite_tt (chain_last (thn (hc pins s3 σ H3 _ I3 q3) fun w' s4 ⟨z',H4,I4,r4,q4⟩=>ho' pins s4 σ H4 y z' u w' Q I4 r2 r4 q4))
def vK(ho:OpR X (compareOp op) r)(ho':OpR X (compareOp op') r')(ha:PE X a ta)(hb:PE X b tb)(hc:PE X c tc)
 (hm:lastMarks [op,op'] [b,c]=false):PT X (.Compare a [op,op'] [b,c] pos) (we (nk r r' ta tb tc)):=by
 intro pins s σ H Q I h
 refine isTrue_chain (thn (ha pins s σ H _ I h) fun v s1 ⟨x,H1,I1,r1,q1⟩=>test_link (thn (hb pins s1 σ H1 _ I1 q1) fun u s2 ⟨y,H2,I2,r2,q2⟩ =>
  thn (ho pins s2 σ H2 x y v u _ I2 r1 r2 q2) fun d s3 ⟨z,H3,I3,r3,k,e,q3⟩=>?_)) hm
 subst e;cases r3;refine wpAny_truthy_bool ?_
 cases k with
 |false=>
  obtain⟨k',e',q'⟩:=q3;cases e';exact ite_ff ⟨H3,I3,q'⟩
 |true=>
  refine ite_tt (test_last (thn (hc pins s3 σ H3 _ I3 q3) fun w' s4 ⟨z',H4,I4,r4,q4⟩=>thn (ho' pins s4 σ H4 y z' u w' _ I4 r2 r4 q4) fun d' s5 ⟨z2,H5,I5,r5,k2,e2,q5⟩=>?_));subst e2;cases r5;exact wpAny_truthy_bool ⟨H5,I5,q5⟩
abbrev pM(K:PySem.W.Frag)(x:V)(H:Hp)(k:Bool):Prop :=
 match x with
 | .non=>k=false
 | .bl b=>k=b
 | .int i=>k=(i != 0)
 | .str y=>y.length<=sizeLine/\k=((y.length:Int) != 0)
 | .byt y=>y.size<=sizeLine/\k=((y.size:Int) != 0)
 | .ref p=>(∃ xs,SqL K H p xs/\k=!xs.isEmpty)\/(∃ xs,SqT K H p xs/\k=!xs.isEmpty)\/∃ kvs,H p=some (.dK kvs)/\k=!kvs.isEmpty
 | _=>False
def qX(r:KV kvs vs):(!vs.isEmpty)=!kvs.isEmpty:=by
 cases r<;>rfl
def jw(r:Vals xs its):(!its.toArray.isEmpty)=!xs.isEmpty:=by
 cases r<;>simp
def gd:(sizeLine:Nat)<2 ^ 63:=by rw[sizeLine_eq];decide
def rl:Dt X (fun x H Q=>∃ k,pM X.K x H k/\Q k H):=by
 intro pins s σ H x v Q I rx h;obtain⟨k,e,q⟩:=h;have hl:=gd;have hs:sizeLine=16777216:=sizeLine_eq
 cases x with
 |non=>
  cases rx;have e':k=false:=e;subst e';exact truthy_none ⟨H,I,q⟩
 |bl b=>
  cases rx;have e':k=b:=e;subst e';exact wpAny_truthy_bool ⟨H,I,q⟩
 |int i=>
  obtain⟨t,rfl⟩:=rx;have e':k=(i != 0):=e;subst e';exact PySem.P.truthy_int ⟨H,I,q⟩
 |str y=>
  obtain⟨t,rfl⟩:=rx;obtain⟨hy,e'⟩:y.length<=sizeLine/\k=((y.length:Int) != 0):=e;subst e';exact PySem.P.truthy_str (by omega) ⟨H,I.tok _,q⟩
 |byt y=>
  obtain⟨t,rfl⟩:=rx;obtain⟨hy,e'⟩:y.size<=sizeLine/\k=((y.size:Int) != 0):=e;subst e';exact PySem.W.truthy_bytes (by omega) ⟨H,I.tok _,q⟩
 |ref p=>
  cases rx;have e':(∃ xs,SqL X.K H p xs/\k=!xs.isEmpty)\/(∃ xs,SqT X.K H p xs/\k=!xs.isEmpty)\/∃ kvs,H p=some (.dK kvs)/\k=!kvs.isEmpty:=e
  rcases e' with⟨xs,hx,e'⟩ | ⟨xs,hx,e'⟩ | ⟨kvs,hx,e'⟩
  ·subst e';obtain⟨its,r,pl,hz⟩:=I.list hx;have hlen:=r.length;exact wpAny_truthy_list pl.isList (by simp only[List.size_toArray];omega) ⟨H,I.tok _,by rw[jw r];exact q⟩
  ·subst e';obtain⟨its,r,pl,hz⟩:=I.tuple hx;have hlen:=r.length;exact truthy_tuple pl (by simp only[List.size_toArray];omega) ⟨H,I.tok _,by rw[jw r];exact q⟩
  ·subst e';obtain⟨hz,hS,vs,r,m⟩:kvs.length<=sizeLine/\(p == sysModules)=false/\∃ vs,KV kvs vs/\s.heap.DictOf (bB X.prog X.w) p vs:=I.hok p _ hx;have hlen:kvs.length=vs.length:=Paired.length r;exact wpAny_truthy_dict hS m (by omega) ⟨H,I.tok _,by rw[qX r];exact q⟩
 | _=>exact(show False from e).elim
def vf(ha:PE X a ta)(he:∀ whole,isTrue a X.env whole=(do let v <- whole;standAt a.pos;holding [v] (truthy v))) :
  PT X a (fun σ H Q=>ta σ H fun x H'=>∃ k,pM X.K x H' k/\Q k H'):=by
 intro pins s σ H Q I h;exact isTrue_plain (thn (ha pins s σ H _ I h) fun v s1 ⟨x,H1,I1,r1,q1⟩=>rl pins s1 σ H1 x v Q I1 r1 q1) (he _)
def qY:OpR X (binaryOp .Add) (fun x y H Q=>∃ i j,x=.str i/\y=.str j/\i.length+j.length<=sizeLine/\Q (.str (i++j)) H):=by
 intro pins s σ H x y v u Q I rx ry h;obtain⟨i,j,rfl,rfl,hz,q⟩:=h;obtain⟨t,rfl⟩:=rx;obtain⟨t',rfl⟩:=ry;exact add_str (fun t' tk=>⟨.str (i++j),H,I.tok _,⟨_,rfl⟩,q⟩) hz
def vals1(r:Vals [x] us):∃ u,us=[u]/\RelV x u:=by
 cases r with
 | cons r1 r2=>cases r2;exact⟨_,rfl,r1⟩
def vals2(r:Vals [x,y] us):∃ u w',us=[u,w']/\RelV x u/\RelV y w':=by
 cases r with
 |cons r1 r2=>
  cases r2 with
  | cons r3 r4=>cases r4;exact⟨_,_,rfl,r1,r3⟩
abbrev BP(K:PySem.W.Frag)(x:V)(H:Hp)(n:Nat):Prop :=
 match x with
 | .str y=>y.length<=sizeLine/\n=y.length
 | .byt y=>y.size<=sizeLine/\n=y.size
 | .ref p=>(∃ xs,SqL K H p xs/\n=xs.length)\/∃ xs,SqT K H p xs/\n=xs.length
 | _=>False
def vN:bx X (.builtin "len") (fun xs H Q=>∃ x n,xs=[x]/\BP X.K x H n/\Q (.int n) H):=by
 intro pins s σ H xs us Q I r h;obtain⟨x,n,rfl,e,q⟩:=h;obtain⟨u,rfl,rx⟩:=vals1 r;have hl:=gd;have hs:sizeLine=16777216:=sizeLine_eq
 cases x with
 |str y=>
  obtain⟨t,rfl⟩:=rx;obtain⟨hy,e'⟩:y.length<=sizeLine/\n=y.length:=e;subst e';exact len_str (by omega) ⟨.int _,H,I.tok _,⟨_,rfl⟩,q⟩
 |byt y=>
  obtain⟨t,rfl⟩:=rx;obtain⟨hy,e'⟩:y.size<=sizeLine/\n=y.size:=e;subst e';exact PySem.W.len_bytes (by omega) ⟨.int _,H,I.tok _,⟨_,rfl⟩,q⟩
 |ref p=>
  cases rx;have e':(∃ xs,SqL X.K H p xs/\n=xs.length)\/∃ xs,SqT X.K H p xs/\n=xs.length:=e
  rcases e' with⟨xs,hx,e'⟩ | ⟨xs,hx,e'⟩
  ·subst e';obtain⟨its,r',pl,hz⟩:=I.list hx;have hlen:=r'.length;exact Calls.call_len_list pl.isList (by simp only[List.size_toArray];omega) ⟨.int xs.length,H,I.tok _,⟨_,by simp only[List.size_toArray];rw[hlen]⟩,q⟩
  ·subst e';obtain⟨its,r',pl,hz⟩:=I.tuple hx;have hlen:=r'.length;exact len_tuple pl (by simp only[List.size_toArray];omega) ⟨.int xs.length,H,I.tok _,⟨_,by simp only[List.size_toArray];rw[hlen]⟩,q⟩
 | _=>exact(show False from e).elim
end
structure nh(h:Heap)(x dx C:Addr)(mA:Str->Option Value):Prop where
 obj:h.get? x=some (PySem.W.instObj C dx)
 ns:h.Ns1 dx mA
 ne:dx≠x
def sZ{h:Heap}(n:h.Ns1 dx mA):∃ od,h.get? dx=some od/\∀ name,PySem.W.lookIn name od=some (mA name):=by
 obtain⟨o,es,ep,ho,hd,hk,_,hm⟩:=n;refine⟨o,ho,fun name=>?_⟩;have e:=hm name;unfold nsFind findBy at e;rw[<-Array.find?_toList]at e;unfold PySem.W.lookIn;rw[hd];dsimp only;split
 ·rename_i y q;rw[q]at e;exact congrArg some e
 ·rename_i q;rw[q]at e
  have a:es.toList.any (·.refKey)=false:=by
   rw[List.any_eq_false];intro y hy;obtain⟨z,t,hkey⟩:=hk y (Array.mem_toList_iff.mp hy);simp[DictEntry.refKey,hkey]
  have a':¬ es.toList.any (·.refKey)=true:=by rw[a];exact Bool.false_ne_true
  rw[if_neg a'];exact congrArg some e
def nh.look(I:nh h x dx C mA):∃ od,PySem.W.InstAt h x (PySem.W.instObj C dx) C (some od)/\∀ name,PySem.W.lookIn name od=some (mA name) :=
 let ⟨od,ho,hl⟩:=sZ I.ns
 ⟨od,⟨I.obj,rfl,rfl,ho⟩,hl⟩
section
variable{prog:Program}{w:World}{A:Around}{E:Value->Shared->Prop}{s:Shared}{K:PySem.W.Frag}{x dx C f:Addr}{mA:Str->Option Value}{name:Str}{v:Value}
def xN(X:K.In s.heap)(I:nh s.heap x dx C mA)
 (hs:PySem.W.findIn K (.ref C) "__setattr__" = some (some (.builtin "object.__setattr__")))(hp:PySem.W.plainOver K C=true)(ht:PySem.W.takerIn K C name=some none)(hh:PySem.W.hasDictIn K C=true)
 (hw:PySem.Within mA ns)(hsz:ns.length<=sizeLine)
 (h:∀ h',nh h' x dx C (fun y=>if y=name then some v else mA y)->Heap.SameBut dx s.heap h'->Q () { s with heap:=h',toks:=s.toks+2 }) :
  wpAny (model prog w) A (setAttr (.ref x) name v) Q E s:=by
 obtain⟨od,J,hl⟩:=I.look;refine PySem.W.set_plain X J hs (PySem.W.osa_open (s:={ s with toks:=s.toks+1 }) (r:=none) X J hp ht fun b=>?_);obtain⟨cd,hc,hd'⟩:=PySem.W.any_some hh;have hx:s.heap.get? x=some ⟨.ref C,some dx,.plain,#[]⟩:=I.obj;refine wpAny_bind (wpAny_pure (wpAny_bind (wpAny_bind (wpAny_loadPart hx (wpAny_bind (PySem.W.Looks.here (s:={ s with toks:=s.toks+1 }) (PySem.W.looks_clsIn X hc) ?_))))));rw[hd'];refine wpAny_pure (a:=some dx) (wpAny_bind (wpAny_pure (wpAny_bind ?_)));refine wpAny_nsSet1 (s:={ s with toks:=s.toks+1 }) I.ns fun h' hn2 hs2=>?_;obtain⟨oD,esD,epD,hoD,hdD,hcD⟩:=hn2.count (PySem.Within.cons name v hw);refine wpAny_bind (wpAny_lookBehind hoD (by rw[hdD];exact pastItsLine_dict (Nat.le_trans hcD (by rw[List.length_cons];omega))) ?_);exact wpAny_pure (h _ ⟨(hs2.2 _ (Ne.symm I.ne)).trans I.obj,hn2,I.ne⟩ hs2)
def ml(X:K.In s.heap)(hm:PySem.W.makesIn K C=true)
 (hi:PySem.W.findIn K (.ref C) "__init__" = some (some (.ref f)))(hf:PySem.W.typeIn K (.ref f)=some (.type "function"))
 (h:codeAny (model prog w) (A.under (.builtin "type.__call__" ⟨.ref C::vs,kw⟩)) (.call (.ref f) ⟨.ref (s.heap.objs.size+1)::vs,kw⟩) (PySem.W.InitBack (s.heap.objs.size+1) R)
   { s with heap:=(s.heap.push PySem.W.emptyDict).push (PySem.W.instObj C s.heap.objs.size) }) :
  codeAny (model prog w) A (.call (.ref C) ⟨vs,kw⟩) R s:=by
 obtain⟨hh,g,d,t,os⟩:=s;exact PySem.W.make_core (PySem.W.makes_of X hm) (PySem.W.looks_findIn X hi) (fun self=>PySem.W.bind_fn X self hf) (.inl rfl) h
end
abbrev bV(f:Str)(v:V):List (Str × V)->List (Str × V)
 | []=>[(f,v)]
 | (g,x)::r=>if g=f then(g,v)::r else(g,x)::bV f v r
def iM(f g:Str)(v:V):∀ fs:List (Str × V),(bV f v fs).lookup g=if g=f then some v else fs.lookup g
 | []=>by
  show List.lookup g [(f,v)]=_;by_cases h:g=f
  ·have hb:(g == f)=true:=beq_iff_eq.mpr h;simp only[List.lookup,hb,if_pos h]
  ·have hb:(g == f)=false:=beq_eq_false_iff_ne.mpr h;simp only[List.lookup,hb,if_neg h]
 | (k,x)::r=>by
  have ih:=iM f g v r;rw[show bV f v ((k,x)::r)=(if k=f then(k,v)::r else(k,x)::bV f v r)from rfl];by_cases hk:k=f
  ·rw[if_pos hk];by_cases h:g=k
   ·have hb:(g == k)=true:=beq_iff_eq.mpr h;simp only[List.lookup,hb,if_pos (h.trans hk)]
   ·have hb:(g == k)=false:=beq_eq_false_iff_ne.mpr h;simp only[List.lookup,hb,if_neg (fun e:g=f=>h (e.trans hk.symm))]
  ·rw[if_neg hk];by_cases h:g=k
   ·have hb:(g == k)=true:=beq_iff_eq.mpr h;simp only[List.lookup,hb,if_neg (fun e:g=f=>hk (h.symm.trans e))]
   ·have hb:(g == k)=false:=beq_eq_false_iff_ne.mpr h;simp only[List.lookup,hb];exact ih
def iu(f:Str)(v:V):∀ fs:List (Str × V),f∈(bV f v fs).map (·.1)/\∀ g,g∈fs.map (·.1)->g∈(bV f v fs).map (·.1)
 | []=>⟨by simp[bV],fun g h=>by simp at h⟩
 | (k,x)::r=>by
  obtain⟨i1,i2⟩:=iu f v r;rw[show bV f v ((k,x)::r)=(if k=f then(k,v)::r else(k,x)::bV f v r)from rfl];by_cases hk:k=f
  ·rw[if_pos hk];subst hk;exact⟨by simp,fun g h=>by simpa using h⟩
  ·rw[if_neg hk];refine⟨?_,fun g h=>?_⟩
   ·rw[List.map_cons];exact List.mem_cons_of_mem _ i1
   ·rw[List.map_cons]at h ⊢;rcases List.mem_cons.mp h with e | e
    ·exact List.mem_cons.mpr (.inl e)
    ·exact List.mem_cons_of_mem _ (i2 g e)
def iK(f:Str)(v:V):∀ fs:List (Str × V),(bV f v fs).length<=fs.length+1
 | []=>by simp[bV]
 | (k,x)::r=>by
  have ih:=iK f v r;rw[show bV f v ((k,x)::r)=(if k=f then(k,v)::r else(k,x)::bV f v r)from rfl];by_cases hk:k=f
  ·rw[if_pos hk,List.length_cons,List.length_cons];omega
  ·rw[if_neg hk,List.length_cons,List.length_cons];omega
section
variable{P:Program}{w:World}{H H':Hp}{h h':Heap}{a C dx:Addr}{fs fs':List (Str × V)}
def oQ(hok:HOk P w H h)(e:H a=some (.ins C dx fs)):∃ mA,nh h a dx C mA/\(∀ f,iU (fs.lookup f) (mA f))/\PySem.Within mA (fs.map (·.1))/\fs.length<=1000/\H dx=some (.own a):=by
 obtain⟨d,z,ne,ob,mA,n,r,q⟩:=(show aU P w H h a (.ins C dx fs)from hok a _ e)
 exact⟨mA,⟨ob,n,ne⟩,r,q,z,d⟩
end
structure Cls(K:PySem.W.Frag)(C:Addr):Prop where
 pg:PySem.W.plainGet K C Str.empty=true
 hd:PySem.W.hasDictIn K C=true
 po:PySem.W.plainOver K C=true
 sa:PySem.W.findIn K (.ref C) "__setattr__" = some (some (.builtin "object.__setattr__"))
def Cls.get{K:PySem.W.Frag}(c:Cls K C)(f:Str):PySem.W.plainGet K C f=true:=c.pg
abbrev bE(K:PySem.W.Frag)(C:Addr)(f:Str):Prop:=PySem.W.findIn K (.ref C) f=some none
def bE.BX{K:PySem.W.Frag}(n:bE K C f):PySem.W.takerIn K C f=some none:=by
 unfold PySem.W.takerIn;rw[show PySem.W.findIn K (.ref C) f=some none from n];rfl
section
variable{X:Cx}{pins:List (Addr × Obj)}{σ:St}{H:Hp}{s:Shared}{a C dx:Addr}{fs:List (Str × V)}{f:Str}{v:V}{A:Around}{E:Value->Shared->Prop}
def pV(I:Inv X pins σ H s)(e:H a=some (.ins C dx fs))(c:Cls X.K C)(n:bE X.K C f)(hl:fs.length<1000)(ry:RelV y u)
 (h:∀ s',Inv X pins σ (upd H a (.ins C dx (bV f y fs))) s'->Q () s'):wpAny (model X.prog X.w) A (setAttr (.ref a) f u) Q E s:=by
 obtain⟨mA,O,r,wi,_,ho⟩:=oQ I.hok e
 have hz:(fs.map (·.1)).length<=sizeLine:=by rw[List.length_map,sizeLine_eq];omega
 refine xN I.kIn O c.sa c.po n.BX c.hd wi hz fun h' O' sb=>h _ ?_;have hd:∃ o,h'.get? dx=some o:=let ⟨o,_,_,e',_⟩:=O'.ns;⟨o,e'⟩;refine I.write (x:=a) (e:=dx) (by rw[e];exact True.intro) (.inr ho) (fun b q hb z=>(sb.2 b hb).trans z) hd ?_;refine⟨by rw[aw O.ne];exact ho,?_,O.ne,O'.obj,_,O'.ns,fun g=>?_,fun g hg=>?_⟩
 ·have:=iK f y fs;omega
 ·show iU ((bV f y fs).lookup g) (if g=f then some u else mA g);rw[iM];by_cases q:g=f
  ·rw[if_pos q,if_pos q];exact ry
  ·rw[if_neg q,if_neg q];exact r g
 ·by_cases q:g=f
  ·rw[q];exact(iu f y fs).1
  ·refine(iu f y fs).2 g (wi g fun z=>hg ?_);show(if g=f then some u else mA g)=none;rw[if_neg q];exact z
def Inv.made(I:Inv X pins σ H s):Inv X pins σ (upd (upd H s.heap.objs.size (.own (s.heap.objs.size+1))) (s.heap.objs.size+1) (.ins C s.heap.objs.size []))
  { s with heap:=(s.heap.push PySem.W.emptyDict).push (PySem.W.instObj C s.heap.objs.size) }:=by
 have e1:(s.heap.push PySem.W.emptyDict).get? s.heap.objs.size=some PySem.W.emptyDict:=Heap.get?_push_size s.heap rfl
 have e2:((s.heap.push PySem.W.emptyDict).push (PySem.W.instObj C s.heap.objs.size)).get? (s.heap.objs.size+1)=some (PySem.W.instObj C s.heap.objs.size):=by
  have:=Heap.get?_push_size (s.heap.push PySem.W.emptyDict) (o:=PySem.W.instObj C s.heap.objs.size) rfl
  rwa [Heap.size_push]at this
 have e3:(s.heap.push PySem.W.emptyDict).Ns s.heap.objs.size (fun _=>none):=⟨PySem.W.emptyDict,#[],_,e1,rfl,(fun e he=>absurd he (by simp)),fun _=>rfl⟩
 have I1:=I.laid (a:=s.heap.objs.size) (o:=.own (s.heap.objs.size+1)) (h':=s.heap.push PySem.W.emptyDict) (t':=s.toks) (fun b u q=>Heap.get?_push_of_some _ q) (Nat.le_refl _) ⟨_,e1⟩;refine I1.laid (a:=s.heap.objs.size+1) (o:=.ins C s.heap.objs.size []) (t':=s.toks) (fun b u q=>Heap.get?_push_of_some _ q) (Nat.le_of_eq (Heap.size_push _ _)) ?_;have ne:s.heap.objs.size≠s.heap.objs.size+1:=Nat.ne_of_lt (Nat.lt_succ_self _);refine⟨by rw[aw ne,aC],Nat.zero_le _,ne,e2,fun _=>none,(Heap.Ns1.of_empty e3).at fun o q=>Heap.get?_push_of_some _ q,fun _=>True.intro,fun y hy=>absurd rfl hy⟩
end
abbrev DH(K:PySem.W.Frag)(ta tv:TE)(f:Str):TS:=fun D σ H=>tv σ H fun y H1=>ta σ H1 fun x H2=>∃ a C dx fs,x=.ref a/\H2 a=some (.ins C dx fs)/\Cls K C/\bE K C f/\fs.length<1000 /\
 D.nx σ (upd H2 a (.ins C dx (bV f y fs)))
section
variable{X:Cx}{o e value:Expr}{f:Str}{pos pos' tpos:Pos}{ta tv:TE}
def fw(ha:PE X o ta)(hv:PE X value tv)(hs:swapsWith value (some (.Attribute o f pos')) pos.line X.env=pure false):PS X (.Assign [.Attribute o f pos'] value pos) (DH X.K ta tv f):=by
 intro pins s σ H D I h;refine plainObj_wpAny_Assign_Attribute (thn (hv pins s σ H _ I h) fun u s1 ⟨y,H1,I1,ry,q⟩=>thn (ha pins s1 σ H1 _ I1 q) fun ov s2 ⟨x,H2,I2,rx,a,C,dx,fs,ex,ea,c,n,l,q2⟩=>?_) hs;subst ex;obtain rfl:ov=Value.ref a:=rx
 exact pV I2 ea c n l ry fun s3 I3=>⟨σ,_,I3,q2⟩
end
section
variable{X:Cx}{pins:List (Addr × Obj)}{σ:St}{H:Hp}{s:Shared}{A:Around}{E:Value->Shared->Prop}{Q:Value->Shared->Prop}{c:Value}{b:Bool}
inductive dI (K:PySem.W.Frag) (H:Hp):V->Value->Prop where
 | non:dI K H .non (.type "NoneType")
 | bl (x:Bool):dI K H (.bl x) (.type "bool")
 | int (i:Int):dI K H (.int i) (.type "int")
 | str (x:Str):dI K H (.str x) (.type "str")
 | flt (x:UInt64):dI K H (.flt x) (.type "float")
 | lst {a:Addr} {xs:List V} (e:H a=some (.lst xs)):dI K H (.ref a) (.type "list")
 | frz {a:Addr} {o:Obj} {xs:List V} (e:H a=some (.frz o (.lst xs))):dI K H (.ref a) (.type "list")
 | tup {a:Addr} {xs:List V} (e:H a=some (.tup xs)):dI K H (.ref a) (.type "tuple")
 | dK {a:Addr} {kvs:List (Key × V)} (e:H a=some (.dK kvs)):dI K H (.ref a) (.type "dict")
 | dT {a:Addr} {kvs:List (List Key × V)} (e:H a=some (.dT kvs)):dI K H (.ref a) (.type "dict")
 | ins {a C dx:Addr} {fs:List (Str × V)} (e:H a=some (.ins C dx fs)) (cl:Cls K C) (ha:PySem.W.findIn K (.ref C) "__class__" = some (some (.builtin "object.__class__")))
   (hn:PySem.W.specialIn K (.builtin "object.__class__") "__get__" = some (some (.builtin "getset_descriptor.__get__"))) (htk:PySem.W.takesIn K (.builtin "object.__class__")=some true)
   (hm:PySem.W.mroIn K C (.type "object")=some true):dI K H (.ref a) (.ref C)
def rE(I:Inv X pins σ H s)(rx:RelV x u)(ty:dI X.K H x t)(e:PySem.W.kitOne X.K t c=some b)(h:∀ tk,Q (.bool b) { s with toks:=tk }) :
  wpAny (model X.prog X.w) A (call (.builtin "isinstance") [u,c]) Q E s:=by
 cases ty with
 | non=>cases(show u=Value.none from rx);exact PySem.W.kia_one PySem.W.kitx_none I.kIn True.intro e (fun z=>nomatch z) h
 | bl y=>cases(show u=Value.bool y from rx);exact PySem.W.kia_one PySem.W.kitx_bool I.kIn True.intro e (fun z=>nomatch z) h
 | int i=>obtain⟨t,q⟩:=(show ∃ t,u=Value.int i t from rx);cases q;exact PySem.W.kia_one PySem.W.kitx_int I.kIn True.intro e (fun z=>nomatch z) h
 | str y=>obtain⟨t,q⟩:=(show ∃ t,u=Value.str y t from rx);cases q;exact PySem.W.kia_one PySem.W.kitx_str I.kIn True.intro e (fun z=>nomatch z) h
 | flt y=>obtain⟨t,q⟩:=(show ∃ t,u=Value.float y t from rx);cases q;exact PySem.W.kia_one PySem.W.kitx_float I.kIn True.intro e (fun z=>nomatch z) h
 |@lst a xs ea=>
  cases(show u=Value.ref a from rx)
  obtain⟨_,_,n,_,h1⟩:=(show aU X.prog X.w H s.heap a (.lst xs)from I.hok a _ ea)
  exact PySem.W.kia_one PySem.W.kitx_list I.kIn ⟨_,h1,rfl⟩ e (fun z=>nomatch z) h
 |@frz a ob xs ea=>
  cases(show u=Value.ref a from rx)
  obtain⟨_,_,_,n,_,h1⟩:=(show aU X.prog X.w H s.heap a (.frz ob (.lst xs))from I.hok a _ ea)
  exact PySem.W.kia_one PySem.W.kitx_list I.kIn ⟨_,h1,rfl⟩ e (fun z=>nomatch z) h
 |@tup a xs ea=>
  cases(show u=Value.ref a from rx)
  obtain⟨_,_,_,p⟩:=(show aU X.prog X.w H s.heap a (.tup xs)from I.hok a _ ea)
  obtain⟨o,h1,h2,_⟩:=p;exact PySem.W.kia_one PySem.W.kitx_tuple I.kIn ⟨o,h1,h2⟩ e (fun z=>nomatch z) h
 |@dK a kvs ea=>
  cases(show u=Value.ref a from rx)
  obtain⟨_,_,vs,_,p⟩:=(show aU X.prog X.w H s.heap a (.dK kvs)from I.hok a _ ea)
  obtain⟨o,es,ep,h1,h2,_⟩:=p;exact PySem.W.kia_one PySem.W.kitx_dict I.kIn ⟨o,h1,h2.1⟩ e (fun z=>nomatch z) h
 |@dT a kvs ea=>
  cases(show u=Value.ref a from rx)
  obtain⟨_,_,xs,_,o,es,ep,h1,h2,_⟩:=(show aU X.prog X.w H s.heap a (.dT kvs)from I.hok a _ ea)
  exact PySem.W.kia_one PySem.W.kitx_dict I.kIn ⟨o,h1,h2.1⟩ e (fun z=>nomatch z) h
 |@ins a C dx fs ea cl ha hn htk hm=>
  cases(show u=Value.ref a from rx);obtain⟨mA,O,_⟩:=oQ I.hok ea;obtain⟨od,J,_⟩:=O.look;exact PySem.W.kia_one (PySem.W.kitx_own (cl.get _) cl.hd ha hn htk hm) I.kIn J e (fun z=>nomatch z) h
end
structure aT(k:Nat)(A:Around):Prop where
 hd:A.handled=none
 dp:A.depth+3*k+5<recursionLimit
 un:A.units+16*k+200<cLine
def aT.mono(r:aT k A)(h:j<=k):aT j A:=⟨r.hd,by have:=r.dp;omega,by have:=r.un;omega⟩
def aT.deeper(r:aT (k+1) A)(env:Env):aT k (A.deeper env) :=
 ⟨r.hd,by have:=r.dp;show A.depth+1+3*k+5<_;omega,by have:=r.un;show A.units+3+16*k+200<_;omega⟩
def pX{A:Around}:(A.under (.builtin "type.__call__" ⟨.ref C::us,kw⟩)).depth=A.depth+1:=by
 first | rfl | simp[Around.under,Code.weight,Code.isCreation,Code.isGuard,Code.isCaller,Code.frames,Code.isFrame,guardIds]
def pO{A:Around}:(A.under (.builtin "type.__call__" ⟨.ref C::us,kw⟩)).units=A.units+1:=by
 first | rfl | simp[Around.under,Code.cUnits,Code.frames,Code.isFrame]
def aT.make(r:aT (k+1) A)(C:Addr)(us:List Value)(kw:List (Str × Value)):aT k (A.under (.builtin "type.__call__" ⟨.ref C::us,kw⟩)) :=
 ⟨r.hd,by have:=r.dp;rw[pX];omega,by have:=r.un;rw[pO];omega⟩
def aT.depth(r:aT k A):A.depth<recursionLimit:=by have:=r.dp;omega
abbrev hV:TA:=fun _ H Q=>Q [] H
abbrev dZ(ta:TE)(tr:TA):TA:=fun σ H Q=>ta σ H fun x H1=>tr σ H1 fun xs H2=>Q (x::xs) H2
section
variable{X:Cx}{e:Expr}{es:List Expr}{te:TE}{t:TA}{pos:Pos}
def bf:PA X [] hV:=fun _ _ _ _ H Q I h=>Calls.spliced_nil ⟨[],H,I,.nil,h⟩
def aG(ha:PE X e te)(hr:PA X es t)(hs:starEach (e::es) X.env=(false,eval e X.env)::starEach es X.env):PA X (e::es) (dZ te t):=by
 intro pos pins s σ H Q I h;rw[hs];show wpAny _ _ (spliced ((false,eval e X.env)::backTo pos (starEach es X.env))) _ _ s;refine Calls.spliced_cons (thn (ha pins s σ H _ I h) fun u s1 ⟨x,H1,I1,r1,q1⟩=>?_)
 exact thn (hr pos pins s1 σ H1 _ I1 q1) fun us s2 ⟨xs,H2,I2,r2,q2⟩=>⟨x::xs,H2,I2,.cons r1 r2,q2⟩
abbrev Dc(t:TA):TE:=fun σ H Q=>t σ H fun xs H1=>xs.length<=sizeLine/\∀ p,H1 p=none->Q (.ref p) (upd H1 p (.tup xs))
abbrev DB(t:TA):TE:=fun σ H Q=>t σ H fun xs H1=>xs.length<=sizeLine/\∀ p,H1 p=none->Q (.ref p) (upd H1 p (.lst xs))
def AH(h:PA X es t):PE X (.Tuple es x1 pos) (Dc t):=by
 intro pins s σ H Q I hq;refine wpAny_Tuple_spliced (thn (h pos pins s σ H _ I hq) fun us s1 ⟨xs,H1,I1,r,z,q⟩=>⟨by rw[<-r.length];exact z,?_⟩);have hf:H1 s1.heap.objs.size=none:=I1.hok.fresh (Nat.le_refl _);refine⟨.ref s1.heap.objs.size,upd H1 s1.heap.objs.size (.tup xs),I1.laid (t':=s1.toks) (fun b u e=>Heap.get?_push_of_some _ e) (Nat.le_refl _) ?_,rfl,q _ hf⟩;exact⟨z,us,r,⟨_,Heap.get?_push_size _ rfl,rfl,_,rfl⟩⟩
def oi(h:PA X es t):PE X (.List es pos) (DB t):=by
 intro pins s σ H Q I hq;refine wpAny_List_spliced (thn (h pos pins s σ H _ I hq) fun us s1 ⟨xs,H1,I1,r,z,q⟩=>⟨by rw[<-r.length];exact z,?_⟩);have hf:H1 s1.heap.objs.size=none:=I1.hok.fresh (Nat.le_refl _);refine⟨.ref s1.heap.objs.size,upd H1 s1.heap.objs.size (.lst xs),I1.laid (t':=s1.toks) (fun b u e=>Heap.get?_push_of_some _ e) (Nat.le_refl _) ?_,rfl,q _ hf⟩;exact⟨z,us,0,r,Heap.get?_push_size _ rfl⟩
end
@[reducible]noncomputable def Sp:=List V->Hp->VK->XK->Prop
@[reducible]noncomputable def CXT:=List Env->Hp->Shared->XK->Value->Shared->Prop
structure ic(P:Program)(w:World)(K:PySem.W.Frag)(mg:Str->Option Value)(base:Heap)(A:Around)(outer:List Env)(s:Shared)(H:Hp):Prop where
 frames:A.frames=some outer
 mod:Mod K mg base
 bs:∀ b o,base.get? b=some o->s.heap.get? b=some o/\H b=none
 bsz:base.objs.size<=s.heap.objs.size
 cN:s.heap.FunFrames base outer
 frf:∀ b∈frs outer,H b=none
 hok:HOk P w H s.heap
 bare:AllBare s.gens
abbrev CE(outer:List Env)(P:Program)(w:World)(H:Hp)(s:Shared)(Q:VK)(u:Value)(s':Shared):Prop :=
 ∃ v H',s'.os=s.os/\AllBare s'.gens/\Un (frs outer) [] H H' s.heap s'.heap/\HOk P w H' s'.heap/\RelV v u/\Q v H'
abbrev CR(CX:CXT)(outer:List Env)(P:Program)(w:World)(H:Hp)(s:Shared)(Q:VK)(E:XK)(r:Result)(s':Shared):Prop :=
 match r with
 | .ok (.ret u)=>CE outer P w H s Q u s'
 | .ok _=>False
 | .error e=>CX outer H s E e s'
structure aR(P:Program)(w:World)(K:PySem.W.Frag)(mg:Str->Option Value)(base:Heap)(CX:CXT)(k:Nat)(f:Addr)(fd:FuncData)(ps:List Str)(sp:Sp):Prop where
 len:∀ vs H Q E,sp vs H Q E->vs.length=ps.length
 run:∀ (A:Around) (outer:List Env) (s:Shared) (H:Hp) (args:Args) (us:List Value) (vs:List V) (Q:VK) (E:XK),aT k A->ic P w K mg base A outer s H->BindsTo s fd args (ps.zip us)->Vals vs us->sp vs H Q E ->
  codeAny (model P w) A (.call (.ref f) args) (CR CX outer P w H s Q E) s
def aR.mono{P:Program}{w:World}{K:PySem.W.Frag}(F:aR P w K mg base CX j f fd ps sp)(h:j<=k) :
  aR P w K mg base CX k f fd ps sp:=⟨F.len,fun A outer s H args us vs Q E hr=>F.run A outer s H args us vs Q E (hr.mono h)⟩
def ic.make{P:Program}{w:World}{K:PySem.W.Frag}{mg:Str->Option Value}{base:Heap}{A:Around}{outer:List Env}{s:Shared}{H:Hp}(e:ic P w K mg base A outer s H)(C:Addr)(us:List Value)(kw:List (Str × Value)) :
  ic P w K mg base (A.under (.builtin "type.__call__" ⟨.ref C::us,kw⟩)) outer s H:=⟨by first | exact e.frames | (simpa[Around.under,Code.envs,Code.isFrame,pushEnvs]using e.frames),e.mod,e.bs,e.bsz,e.cN,e.frf,e.hok,e.bare⟩
section
variable{X:Cx}{pins:List (Addr × Obj)}{σ:St}{H:Hp}{s s':Shared}
def Inv.mJ(I:Inv X pins σ H s):ic X.prog X.w X.K X.mg X.base X.A X.stack s H :=
 ⟨I.ok.frames,I.ok.mod,I.bs,Nat.le_trans I.ok.bsz I.sz,I.stack,I.iz,I.hok,I.bare⟩
def Inv.after(I:Inv X pins σ H s)(h:CE X.stack X.prog X.w H s Q u s'):EP X pins σ Q u s':=by
 obtain⟨v,H',os,bare,un,hok,r,q⟩:=h;obtain⟨hh,g,d,t,os'⟩:=s';obtain rfl:os'=s.os:=os;exact⟨v,H',I.call (h':=hh) (g':=g) (d':=d) (t':=t) (ch:=[]) un hok bare (fun b z=>absurd z (by simp)),r,q⟩
end
abbrev qB(sp:Sp)(dvs:List V)(E:XK)(t:TA):TE:=fun σ H Q=>t σ H fun vs H1=>sp (vs++dvs) H1 Q E
abbrev CW(C:Addr)(sp:Sp)(dvs:List V)(E:XK)(t:TA):TE:=fun σ H Q=>t σ H fun vs H1=>∀ x dx,H1 x=none->H1 dx=none->dx≠x ->
 sp (.ref x::(vs++dvs)) (upd (upd H1 dx (.own x)) x (.ins C dx [])) (fun v H2=>v=.non/\Q (.ref x) H2) E
abbrev Binds(K:PySem.W.Frag)(fd:FuncData)(ps:List Str)(ds:List Value):Prop :=
 ∀ (s:Shared) (us:List Value),K.In s.heap->(us++ds).length=ps.length->BindsTo s fd ⟨us,[]⟩ (ps.zip (us++ds))
def Binds.all{K:PySem.W.Frag}(h:∀ us:List Value,us.length=ps.length->bindArgs fd ⟨us,[]⟩=pure (ps.zip us)):Binds K fd ps []:=fun s us _ hl=>by
 rw[List.append_nil]at hl ⊢;exact .of_eq (h us hl)
abbrev Passes(CX:CXT)(X:Cx)(E:XK):Prop:=∀ (pins:List (Addr × Obj)) (σ:St) (H:Hp) (s:Shared) (e:Value) (s':Shared),Inv X pins σ H s->CX X.stack H s E e s'->X.xe e s'
section
variable{X:Cx}{CX:CXT}{k:Nat}{f C:Addr}{fd:FuncData}{ps:List Str}{sp:Sp}{dvs:List V}{ds:List Value}{E:XK}{x m:Str}{p pos apos:Pos}{e o:Expr}{es:List Expr}{ta:TE}{t:TA}
def rk(F:aR X.prog X.w X.K X.mg X.base CX k f fd ps sp)(hr:aT k X.A)(hb:Binds X.K fd ps ds)(hd:Vals dvs ds)(hx:Passes CX X E)
 (I:Inv X pins σ H s)(r:Vals vs us)(h:sp (vs++dvs) H Q E):wpAny (model X.prog X.w) X.A (call (.ref f) us) (EP X pins σ Q) X.xe s:=by
 have r2:Vals (vs++dvs) (us++ds):=r.append hd
 have hl:(us++ds).length=ps.length:=by rw[<-r2.length];exact F.len _ _ _ _ h
 refine wpAny_call (codeAny_mono (F.run X.A X.stack s H ⟨us,[]⟩ (us++ds) (vs++dvs) Q E hr I.mJ (hb s us I.kIn hl) r2 h) fun r s' hq=>?_)
 cases r with
 | error e=>exact hx pins σ H s e s' I hq
 |ok fl=>
  cases fl with
  | ret u=>exact I.after hq
  | next=>exact False.elim hq
  | brk=>exact False.elim hq
  | cont=>exact False.elim hq
def kg(F:aR X.prog X.w X.K X.mg X.base CX k f fd ps sp)(hr:aT k X.A)(hg:Gl X x)(hm:X.mg x=some (.ref f))(hk:PySem.W.keepIn X.K (.ref f)=true)(hb:Binds X.K fd ps ds)(hd:Vals dvs ds)(hx:Passes CX X E)
 (ha:PA X (e::es) t)(hdb:(x == ("__debug__" : Str))=false)(he:starEach (e::es) X.env=(false,eval e X.env)::starEach es X.env)(hpl:(backTo pos (starEach es X.env)).any (·.1)=false) :
  PE X (.Call (.Name x p) (e::es) [] pos) (qB sp dvs E t):=by
 intro pins s σ H Q I h;refine wpAny_Call_Name_kw (cJ I hg hm ?_ hdb);refine PySem.W.callWith_K (h₀:=X.base) I.ok.mod.kin hk (thn (ha pos pins s σ H _ I h) fun us s1 ⟨vs,H1,I1,r,q⟩=>⟨I1.kIn,?_⟩) he hpl;exact rk F hr hb hd hx I1 r q
structure Mk(K:PySem.W.Frag)(C f:Addr):Prop where
 makes:PySem.W.makesIn K C=true
 init:PySem.W.findIn K (.ref C) "__init__" = some (some (.ref f))
 fn:PySem.W.isFn K (.ref f)=true
 kp:PySem.W.keepIn K (.ref C)=true
def vq(M:Mk X.K C f)(F:aR X.prog X.w X.K X.mg X.base CX k f fd ps sp)(hr:aT (k+1) X.A)(hb:Binds X.K fd ps ds)(hd:Vals dvs ds)
 (hx:Passes CX X E)(I:Inv X pins σ H s)(r:Vals vs us)
 (h:∀ x dx,H x=none->H dx=none->dx≠x->sp (.ref x::(vs++dvs)) (upd (upd H dx (.own x)) x (.ins C dx [])) (fun v H2=>v=.non/\Q (.ref x) H2) E) :
  wpAny (model X.prog X.w) X.A (call (.ref C) us) (EP X pins σ Q) X.xe s:=by
 have hq:=h (s.heap.objs.size+1) s.heap.objs.size (I.hok.fresh (Nat.le_succ _)) (I.hok.fresh (Nat.le_refl _)) (Nat.ne_of_lt (Nat.lt_succ_self _));have I2:=Inv.made (C:=C) I;have r2:Vals (V.ref (s.heap.objs.size+1)::(vs++dvs)) (Value.ref (s.heap.objs.size+1)::(us++ds)):=.cons rfl (r.append hd)
 have hl:(Value.ref (s.heap.objs.size+1)::us++ds).length=ps.length:=by
  have e:=r2.length;rw[F.len _ _ _ _ hq]at e;exact e.symm
 refine wpAny_call (ml (f:=f) I.kIn M.makes M.init (beq_iff_eq.mp M.fn) (codeAny_mono (F.run _ X.stack _ _ ⟨Value.ref (s.heap.objs.size+1)::us,[]⟩ (Value.ref (s.heap.objs.size+1)::(us++ds)) _ _ E (hr.make C us [])
  (I2.mJ.make C us []) (hb _ (Value.ref (s.heap.objs.size+1)::us) I2.kIn hl) r2 hq) fun r s' hq'=>?_))
 cases r with
 | error e=>exact hx pins σ _ _ e s' I2 hq'
 |ok fl=>
  cases fl with
  |ret u=>
   obtain⟨v,H',I3,rv,ev,q3⟩:=I2.after hq';subst ev;exact⟨rv,⟨V.ref (s.heap.objs.size+1),H',I3,rfl,q3⟩⟩
  | next=>exact False.elim hq'
  | brk=>exact False.elim hq'
  | cont=>exact False.elim hq'
def pk(M:Mk X.K C f)(F:aR X.prog X.w X.K X.mg X.base CX k f fd ps sp)(hr:aT (k+1) X.A)(hg:Gl X x)(hm:X.mg x=some (.ref C))(hb:Binds X.K fd ps ds)(hd:Vals dvs ds)(hx:Passes CX X E)
 (ha:PA X (e::es) t)(hdb:(x == ("__debug__" : Str))=false)(he:starEach (e::es) X.env=(false,eval e X.env)::starEach es X.env)(hpl:(backTo pos (starEach es X.env)).any (·.1)=false) :
  PE X (.Call (.Name x p) (e::es) [] pos) (CW C sp dvs E t):=by
 intro pins s σ H Q I h;refine wpAny_Call_Name_kw (cJ I hg hm ?_ hdb);refine PySem.W.callWith_K (h₀:=X.base) I.ok.mod.kin M.kp (thn (ha pos pins s σ H _ I h) fun us s1 ⟨vs,H1,I1,r,q⟩=>⟨I1.kIn,?_⟩) he hpl;exact vq M F hr hb hd hx I1 r q
end
section
variable{X:Cx}{CX:CXT}{k:Nat}{f C:Addr}{fd:FuncData}{ps ks:List Str}{sp:Sp}{E:XK}{x m:Str}{p pos apos kpos:Pos}{e o:Expr}{es:List Expr}{kws:List Keyword}{te ta:TE}{t tk:TA}{nm:Option Str}
variable{g:List Value->List Value->List Value}{gV:List V->List V->List V}
end
structure cx(N P:List Str)(sc:Scope):Prop where
 kind:sc.kind=.function
 co:sc.isCoroutine=false
 gen:sc.isGenerator=false
 nd:N.Nodup
 pre:N.take P.length=P
 par:∀ x∈P,sc.names.lookup x=some .local\/sc.names.lookup x=some .cell
 B3:∀ y∈sc.names,y.2≠.free
def l0{kindOf:Str->Option NameKind}:∀ {binds:List (Str × Value)} {m:Str->Option Value},(∀ v,(x,v)∉binds)->bindL kindOf binds m x=m x
 | [],_,_=>rfl
 | (n,v)::r,m,h=>by
  unfold bindL;rw[l0 fun w hw=>h w (List.mem_cons_of_mem _ hw)];split
  ·have:x≠n:=by rintro rfl;exact h v List.mem_cons_self
   simp[this]
  ·rfl
def lq{kindOf:Str->Option NameKind}:∀ {binds:List (Str × Value)} {m:Str->Option Value},(∀ v,(x,v)∉binds)->bindC kindOf binds m x=m x
 | [],_,_=>rfl
 | (n,v)::r,m,h=>by
  unfold bindC;rw[lq fun w hw=>h w (List.mem_cons_of_mem _ hw)];split
  ·rfl
  ·have:x≠n:=by rintro rfl;exact h v List.mem_cons_self
   simp[this]
def kX{kindOf:Str->Option NameKind}:∀ {P:List Str} {vs:List Value} {i:Nat} {m:Str->Option Value},P.Nodup->P[i]?=some x->vs[i]?=some v->kindOf x=some .local ->
  bindL kindOf (P.zip vs) m x=some v
 | [],_,_,_,_,h,_,_=>by simp at h
 | _::_,[],_,_,_,_,h,_=>by simp at h
 | p::P,w::vs,0,m,nd,h1,h2,hk=>by
  simp at h1 h2;subst h1;subst h2;show bindL kindOf ((p,w)::P.zip vs) m p=_;unfold bindL;rw[l0 fun v hv=>(List.nodup_cons.mp nd).1 (List.of_mem_zip hv).1,if_pos hk];simp
 | p::P,w::vs,i+1,m,nd,h1,h2,hk=>by
  show bindL kindOf ((p,w)::P.zip vs) m x=_;unfold bindL;exact kX (i:=i) (List.nodup_cons.mp nd).2 (by simpa using h1) (by simpa using h2) hk
def l5{kindOf:Str->Option NameKind}:∀ {P:List Str} {vs:List Value} {i:Nat} {m:Str->Option Value},P.Nodup->P[i]?=some x->vs[i]?=some v->kindOf x≠some .local ->
  bindC kindOf (P.zip vs) m x=some v
 | [],_,_,_,_,h,_,_=>by simp at h
 | _::_,[],_,_,_,_,h,_=>by simp at h
 | p::P,w::vs,0,m,nd,h1,h2,hk=>by
  simp at h1 h2;subst h1;subst h2;show bindC kindOf ((p,w)::P.zip vs) m p=_;unfold bindC;rw[lq fun v hv=>(List.nodup_cons.mp nd).1 (List.of_mem_zip hv).1,if_neg hk];simp
 | p::P,w::vs,i+1,m,nd,h1,h2,hk=>by
  show bindC kindOf ((p,w)::P.zip vs) m x=_;unfold bindC;exact l5 (i:=i) (List.nodup_cons.mp nd).2 (by simpa using h1) (by simpa using h2) hk
abbrev start(N:List Str)(vs:List V):St:=vs.map some++List.replicate (N.length-vs.length) none
abbrev cM(CX:CXT)(P:Program)(w:World)(K:PySem.W.Frag)(mg:Str->Option Value)(base:Heap)(N:List Str)(qual:Str)(scope:Scope)(f:Addr)(cd:Value)(A:Around)(outer:List Env)(s:Shared)(H:Hp)(E:XK):Cx where
 prog:=P
 w:=w
 K:=K
 mg:=mg
 base:=base
 A:=A.deeper (envOfC qual scope s.heap.objs.size f cd)
 N:=N
 s₀:=s
 H₀:=H
 env:=envOfC qual scope s.heap.objs.size f cd
 outer:=outer
 stack:=envOfC qual scope s.heap.objs.size f cd::outer
 ex:=[]
 calm:=true
 fn:=fun _=>true
 pn:=[]
 xe:=fun e s'=>wpAny (model P w) (A.deeper (envOfC qual scope s.heap.objs.size f cd)) (leaving (envOfC qual scope s.heap.objs.size f cd) e) (fun _ s''=>CX outer H s E e s'') (fun e' s''=>CX outer H s E e' s'') s'
def mD{sc:Scope}(h:sc.names.lookup x=some .cell):∃ c,(cellsFrom n sc.names []).lookup x=some c:=by
 have q:=PySem.W.cellsFrom_some sc.names n [] (.inl h);exact Option.isSome_iff_exists.mp q
def kP{CX:CXT}{P:Program}{w:World}{K:PySem.W.Frag}{mg:Str->Option Value}{base:Heap}{N ps:List Str}{qual:Str}{scope:Scope}{f:Addr}{cd:Value}{A:Around}{outer:List Env}{s s1:Shared}{H:Hp}{E:XK}{us:List Value}{vs:List V}
 (S:cx N ps scope)(hd:A.handled=none)(e0:ic P w K mg base A outer s H)(hl:vs.length=ps.length)(r:Vals vs us)
 (x:InCallC s s.heap.objs.size (bindL (envOfC qual scope s.heap.objs.size f cd).kindOf (ps.zip us) fun _=>none) (cellsFrom (s.heap.objs.size+1) scope.names []) (bindC (envOfC qual scope s.heap.objs.size f cd).kindOf (ps.zip us) fun _=>none) s1) :
  Inv (cM CX P w K mg base N qual scope f cd A outer s H E) [] (start N vs) H s1:=by
 have hpl:ps.length<=N.length:=by have:=congrArg List.length S.pre;rw[List.length_take]at this;omega
 obtain⟨h1,tk,rfl,hk⟩:=x.done;have noA:∀ b:Addr,b∉(cM CX P w K mg base N qual scope f cd A outer s H E).ex:=fun b z=>absurd (show b∈([]:List Addr)from z) (by simp)
 refine⟨⟨e0.mod,S.kind,rfl,rfl,Nat.le_refl _,fun y z c h1 h2=>?_,fun y hy=>?_,fun y c _ h=>?_,⟨fun _=>hd,.inl hd⟩,Around.frames_deeper e0.frames,.inr ⟨rfl,rfl⟩,fun b z=>absurd z (noA b),e0.bs,e0.bsz,fun b _ _=>noA b,fun b z=>absurd z (noA b),e0.cN,e0.frf⟩,
  rfl,e0.bare,Un.kept hk,⟨_,x.toInCall.ns,fun i y v h1 h2 h3=>?_⟩,fun y c h=>⟨_,x.cell y c h⟩,e0.hok.fresh (Nat.le_refl _),fun y c h=>?_,fun p hp=>absurd (show p∈([]:List (Addr × Obj))from hp) (by simp),e0.hok.kept hk,?_⟩
 ·exact name_of_addr x.apart (PySem.mem_of_lookup h1) (PySem.mem_of_lookup h2)
 ·have hy:scope.names.lookup y=some .cell\/scope.names.lookup y=some .free:=hy;rcases hy with hy | hy
  ·exact mD hy
  ·exact absurd rfl (S.B3 _ (PySem.mem_of_lookup hy))
 ·exact Nat.le_of_lt (x.above y c (PySem.mem_of_lookup h))
 ·have hi:i<vs.length:=by
   unfold start at h2;by_cases hi:i<vs.length
   ·exact hi
   ·rw[List.getElem?_append_right (by simpa using hi)]at h2;rw[List.getElem?_replicate]at h2;split at h2<;>cases h2
  have ha:vs[i]?=some v:=by
   unfold start at h2;rw[List.getElem?_append_left (by simpa using hi),List.getElem?_map]at h2
   cases e:vs[i]? with
   | none=>rw[e]at h2;cases h2
   | some a=>rw[e]at h2;cases h2;rfl
  obtain⟨u,hu,rv⟩:=r.get ha
  have hp:ps[i]?=some y:=by
   rw[<-S.pre,List.getElem?_take_of_lt (by omega)];exact h1
  have ndP:ps.Nodup:=by rw[<-S.pre];exact S.nd.sublist (List.take_sublist _ _)
  refine⟨u,rv,?_⟩;rcases S.par y (List.mem_of_getElem? hp)with k | k
  ·exact .inl ⟨k,kX ndP hp hu k⟩
  ·obtain⟨c,e⟩:=mD (n:=s.heap.objs.size+1) k;refine .inr ⟨.inl k,c,e,?_⟩;have q:=x.cell y c e;rw[l5 ndP hp hu (by show scope.names.lookup y≠_;rw[k];decide)]at q;exact q
 ·exact e0.hok.fresh (Nat.le_of_lt (x.above y c (PySem.mem_of_lookup h)))
 ·unfold start;show _=N.length;rw[List.length_append,List.length_map,List.length_replicate];omega
def wb{CX:CXT}{P:Program}{w:World}{K:PySem.W.Frag}{mg:Str->Option Value}{base:Heap}{k:Nat}{f:Addr}{name qual:Str}{params:Arguments}{body:List Stmt}{scope:Scope}{dV kV doc pm cdv ct oc:Value}{an od:Option Addr}
 {osl:Array (Option Value)}{N ps:List Str}{sp:Sp}(lk:K.lookup f=some ⟨oc,od,.func (PySem.W.fnOf name qual params body scope dV kV doc pm an cdv ct),osl⟩)(hcd:PySem.W.codeIn K cdv qual=true)(S:cx N ps scope)
 (len:∀ vs H Q E,sp vs H Q E->vs.length=ps.length)
 (hbody:∀ (A:Around) (outer:List Env) (s:Shared) (H:Hp) (vs:List V) (Q:VK) (E:XK),aT k (A.deeper (envOfC qual scope s.heap.objs.size f cdv))->sp vs H Q E ->
   ∃ t,PSs (cM CX P w K mg base N qual scope f cdv A outer s H E) body t/\t { nx:=fun _ H'=>Q .non H',rt:=Q } (start N vs) H) :
  aR P w K mg base CX (k+1) f (PySem.W.fnOf name qual params body scope dV kV doc pm an cdv ct) ps sp:=by
 refine⟨len,fun A outer s H args us vs Q E hr e0 hb r hsp=>?_⟩;have hl:=len _ _ _ _ hsp;have KX:K.In s.heap:=e0.mod.kin.keeps fun b o e=>(e0.bs b o e).1;have lim:s.heap.NoLimit:=e0.mod.nolimit.keeps fun b o e=>(e0.bs b o e).1
 have hkind:∀ y∈ps.zip us,scope.names.lookup y.1=some .local\/(scope.names.lookup y.1=some .cell/\((cellsFrom (s.heap.objs.size+1) scope.names []).lookup y.1).isSome=true):=fun⟨n,v⟩ hy=>by
  rcases S.par n (List.of_mem_zip hy).1 with q | q
  ·exact .inl q
  ·exact .inr ⟨q,PySem.W.cellsFrom_some _ _ _ (.inl q)⟩
 refine codeAny_call_function hr.depth (KX _ _ lk) rfl S.co S.gen rfl (PySem.W.codeRec_of KX hcd) (hb _ _ _ _ ?_);refine wpAny_newFunctionEnv_cells S.kind hkind fun env he s1 x=>?_;subst he;refine⟨lim.keeps x.toInCall.keep,codeAny_func ?_⟩;obtain⟨t,ht,hq⟩:=hbody A outer s H vs Q E (hr.deeper _) hsp;have I:Inv (cM CX P w K mg base N qual scope f cdv A outer s H E) [] (start N vs) H s1:=kP S hr.hd e0 hl r x;refine wpAny_mono (ht [] s1 (start N vs) H _ I hq) (fun fl s' hs=>?_) fun e s' hs=>hs
 have fin:∀ {σ':St} {H':Hp} {v:V} {u:Value},Inv (cM CX P w K mg base N qual scope f cdv A outer s H E) [] σ' H' s'->RelV v u->Q v H'->CE outer P w H s Q u s' :=
  fun {σ' H' v u} J rv q=>⟨v,H',J.os,J.bare,J.base,J.hok,rv,q⟩
 cases fl with
 |ret u=>
  obtain⟨v,σ',H',J,rv,q⟩:=hs;exact fin J rv q
 |next=>
  obtain⟨σ',H',J,q⟩:=hs;exact fin (v:=V.non) (u:=Value.none) J rfl q
 |brk=>
  obtain⟨_,_,_,q⟩:=hs;exact False.elim q
 |cont=>
  obtain⟨_,_,_,q⟩:=hs;exact False.elim q
section
variable{X:Cx}{x:Str}{p pos:Pos}{e:Expr}{es:List Expr}{t:TA}{id T:String}{r:List V->Hp->VK->Prop}
abbrev tCB(r:List V->Hp->VK->Prop)(t:TA):TE:=fun σ H Q=>t σ H fun vs H1=>r vs H1 Q
def gA(hc:bx X (.builtin id) r)(hg:Gl X x)(hm:X.mg x=none)(hv:bootBuiltins x=some (.builtin id))(ha:PA X (e::es) t)(hn:x ≠ "__name__")(hdb:(x == ("__debug__" : Str))=false)
 (he:starEach (e::es) X.env=(false,eval e X.env)::starEach es X.env)(hpl:(backTo pos (starEach es X.env)).any (·.1)=false):PE X (.Call (.Name x p) (e::es) [] pos) (tCB r t):=by
 intro pins s σ H Q I h;refine wpAny_Call_Name_kw (fq I hg hm hv ?_ hn hdb);exact PyProof.Rows.callWith_builtin1 (thn (ha pos pins s σ H _ I h) fun us s1 ⟨vs,H1,I1,r1,q1⟩=>hc pins s1 σ H1 vs us Q I1 r1 q1) he hpl
def cB(hc:bx X (.type T) r)(hg:Gl X x)(hm:X.mg x=none)(hv:bootBuiltins x=some (.type T))(ha:PA X (e::es) t)(hn:x ≠ "__name__")(hdb:(x == ("__debug__" : Str))=false)
 (he:starEach (e::es) X.env=(false,eval e X.env)::starEach es X.env)(hpl:(backTo pos (starEach es X.env)).any (·.1)=false):PE X (.Call (.Name x p) (e::es) [] pos) (tCB r t):=by
 intro pins s σ H Q I h;refine wpAny_Call_Name_kw (fq I hg hm hv ?_ hn hdb);exact PyProof.Rows.callWith_type1 (thn (ha pos pins s σ H _ I h) fun us s1 ⟨vs,H1,I1,r1,q1⟩=>hc pins s1 σ H1 vs us Q I1 r1 q1) he hpl
end
end L2
namespace HT
open PySem PyProof.Rows
section
open PySem.SeqAt
open PySem.AutoSeq1 (wpAny_loadPart')
open PySem.MeetsSeq PySem.MeetsSeq2 PySem.MeetsSeq3
end
section
variable{prog:Program}{w:World}{A:Around}{E:Value->Shared->Prop}{s:Shared}
def y8(ht:IsTup s.heap t vs.toArray)(hb:IsTup s.heap b ws.toArray)(hv:vs≠[])
 (h1:ws=[]->Q (.ref t) s)(h2:ws≠[]->Q (.ref s.heap.objs.size) { s with heap:=s.heap.push { cls:=.type "tuple",data:=.seq (vs++ws).toArray } })
 (hsz:vs.length+ws.length<=sizeLine):wpAny (model prog w) A (binaryOp .Add (.ref t) (.ref b)) Q E s:=by
 obtain⟨⟨cls,dd,data,sl⟩,ho,hc,n,hd⟩:=id ht;obtain⟨⟨cls2,dd2,data2,sl2⟩,ho2,hc2,n2,hd2⟩:=id hb;simp only at hc hd hc2 hd2;subst hc hd hc2 hd2
 have e:vs.toArray++ws.toArray=(vs++ws).toArray:=by simp
 by_cases hw:ws=[]
 ·exact concat_meets ⟨_,ho,rfl⟩ ⟨_,ho2,rfl⟩ noFill_tuple_add seq_tuple_add PySem.F.slot_tuple_add PySem.F.entry_tuple_add (PySem.F.args_tuple_add_2 _ _)
   (tuple_addW1 t b vs.toArray ws.toArray n n2 dd dd2 sl sl2 (by simpa using hv) (by simp[hw])) ⟨ho,ho2,h1 hw⟩
 ·refine concat_meets ⟨_,ho,rfl⟩ ⟨_,ho2,rfl⟩ noFill_tuple_add seq_tuple_add PySem.F.slot_tuple_add PySem.F.entry_tuple_add (PySem.F.args_tuple_add_2 _ _)
   (tuple_addW2 t b vs.toArray ws.toArray n n2 dd dd2 sl sl2 (by simpa using hv) (by simpa using hw) (by rw[List.size_toArray,List.size_toArray];exact hsz)) ⟨ho,ho2,?_⟩
  rw[e];exact h2 hw
abbrev sIx(n d:Nat):Option Int->Nat
 | none=>d
 | some v=>if v<0 then(v+(n:Int)).toNat else min v.toNat n
def v5(n d:Nat):sIx n d none=d:=rfl
def B9(n d:Nat)(hd:d<=n)(o:Option Int):sIx n d o<=n:=by
 cases o with
 | none=>exact hd
 |some v=>
  show(if v<0 then(v+(n:Int)).toNat else min v.toNat n)<=n;by_cases hv:v<0
  ·rw[if_pos hv];omega
  ·rw[if_neg hv];exact Nat.min_le_right _ _
def i8(v:Int)(n d:Nat):(if v<0 then max (v+(n:Int)) 0 else min v (n:Int))=((sIx n d (some v):Nat):Int):=by
 show(if v<0 then max (v+(n:Int)) 0 else min v (n:Int))=(((if v<0 then(v+(n:Int)).toNat else min v.toNat n):Nat):Int);by_cases hv:v<0
 ·simp only[if_pos hv];omega
 ·simp only[if_neg hv];omega
def qp(lo hi:Option Int)(n:Nat):Builtin.Slice.sliceAdjust lo hi 1 (n:Int)=(((sIx n 0 lo:Nat):Int),((sIx n n hi:Nat):Int)):=by
 have h1:¬ ((1:Int)<0):=by omega
 unfold Builtin.Slice.sliceAdjust;simp only[h1,if_false];refine Prod.ext ?_ ?_
 ·cases lo with
  | none=>rfl
  | some v=>exact i8 v n 0
 ·cases hi with
  | none=>rfl
  | some v=>exact i8 v n n
def qM(i j:Nat):Builtin.Slice.slicePlaces (i:Int) (j:Int) 1=j-i:=by
 unfold Builtin.Slice.slicePlaces
 have h1:(1:Int) > 0:=by omega
 simp only[h1,if_true,Int.ediv_one];split<;>omega
def jl(p:IsPart v o)(h:Q o s):wpAny (model prog w) A (Builtin.Slice.slicePartIndex v) Q E s:=by
 cases p with
 | none=>exact slicePart_none h
 | int i t=>exact slicePart_int h
def iZ{sl:Addr}{vl vu:Value}{lo hi:Option Int}{n:Nat}{Q:Int × Int × Nat->Shared->Prop}(hs:s.heap.IsSliceOf sl vl vu .none)(pl:IsPart vl lo)(pu:IsPart vu hi)
 (h:Q (((sIx n 0 lo:Nat):Int),1,sIx n n hi-sIx n 0 lo) s):wpAny (model prog w) A (Builtin.Slice.sliceApplied (.ref sl) (pure (n:Int))) Q E s:=by
 obtain⟨os,hos,hcs,hds⟩:=id hs;unfold Builtin.Slice.sliceApplied Builtin.Slice.sliceFields;refine wpAny_bind (wpAny_bind (wpAny_field hos hds (x:=vl) rfl (wpAny_bind (wpAny_field hos hds (x:=vu) rfl (wpAny_bind (wpAny_field hos hds (x:=.none) rfl (wpAny_pure ?_)))))));refine wpAny_bind (slicePart_none ?_);show wpAny _ _ (if((1:Int) == 0)=true then _ else _) _ _ s;rw[if_neg (by decide)];refine wpAny_bind (jl pl (wpAny_bind (jl pu (wpAny_bind (wpAny_pure ?_)))));show wpAny _ _ (match Builtin.Slice.sliceAdjust lo hi 1 (n:Int)with | (lo,hi)=>pure (lo,(1:Int),Builtin.Slice.slicePlaces lo hi 1)) _ _ s;rw[qp lo hi n];show wpAny _ _ (pure (((sIx n 0 lo:Nat):Int),(1:Int),Builtin.Slice.slicePlaces ((sIx n 0 lo:Nat):Int) ((sIx n n hi:Nat):Int) 1)) _ _ s;rw[qM];exact wpAny_pure h
def um(xs:Array Value)(i k:Nat):((List.range k).filterMap fun(m:Nat)=>xs[((i:Int)+(m:Int)*1).toNat]?).toArray=((xs.toList.drop i).take k).toArray:=by
 have e:(fun(m:Nat)=>xs[((i:Int)+(m:Int)*1).toNat]?)=fun m=>xs[i+m]?:=by
  funext m
  have:((i:Int)+(m:Int)*1).toNat=i+m:=by omega
  rw[this]
 rw[e];have:=pick_run xs i k;rw[List.filterMap_map]at this;have e2:((fun x=>xs[x]?) ∘ fun x=>i+x)=fun m=>xs[i+m]?:=rfl;rw[e2]at this;rw[this]
def iG{t sl:Addr}{items:Array Value}{vl vu:Value}{lo hi:Option Int}{Q:Value->Shared->Prop}(ht:IsTup s.heap t items)(hs:s.heap.IsSliceOf sl vl vu .none)(pl:IsPart vl lo)(pu:IsPart vu hi)
 (hw:¬ (sIx items.size 0 lo=0/\sIx items.size items.size hi=items.size))
 (h:Q (.ref s.heap.objs.size) { s with heap:=s.heap.push { cls:=.type "tuple",data:=.seq ((items.toList.drop (sIx items.size 0 lo)).take (sIx items.size items.size hi-sIx items.size 0 lo)).toArray } })
 (hsz:items.size<=sizeLine):wpAny (model prog w) A (getItem (.ref t) (.ref sl)) Q E s:=by
 have htake:sizeOk (.seq ((items.toList.drop (sIx items.size 0 lo)).take (sIx items.size items.size hi-sIx items.size 0 lo)).toArray):=by
  show((items.toList.drop (sIx items.size 0 lo)).take (sIx items.size items.size hi-sIx items.size 0 lo)).toArray.size<=sizeLine;rw[List.size_toArray,List.length_take,List.length_drop,Array.length_toList];omega
 have hj:sIx items.size items.size hi<=items.size:=B9 _ _ (Nat.le_refl _) hi;obtain⟨os,hos,hcs,hds⟩:=id hs
 have hTs:s.TypeIs (.ref sl) "slice" := ⟨os,hos,hcs⟩
 unfold getItem
 try with_reducible refine wpAny_holding ?_
 first | refine wpAny_bind (wpAny_pure ?_) | skip
 refine wpAny_bind (wpAny_sequenceKey ht.typeIs (by decide) ?_)
 refine wpAny_bind (wpAny_callSpecial?_slot (name:=Str.ofString "__getitem__") ht.typeIs PyProof.Rows.slot_tuple_getitem
  (wpAny_call_entry PyProof.Rows.slot_tuple_getitem ht.typeIs entry_tuple_getitem ?_ (args_tuple_getitem _ _)))
 show wpAny _ _ (Builtin.Tuple.tupleItemsOf (.ref t) >>= _) _ _ s;refine wpAny_bind (tupleItemsOf_ ht ?_);refine wpAny_bind (wpAny_typeOf hTs ?_);rw[if_pos (by decide)];refine wpAny_bind (iZ hs pl pu ?_)
 have hno:¬ ((((sIx items.size 0 lo:Nat):Int) == 0&&(1:Int) == 1&&(sIx items.size items.size hi-sIx items.size 0 lo) == items.size)=true):=by
  intro q;rw[Bool.and_eq_true,Bool.and_eq_true]at q;have q1:((sIx items.size 0 lo:Nat):Int)=0:=eq_of_beq q.1.1;have q2:sIx items.size items.size hi-sIx items.size 0 lo=items.size:=eq_of_beq q.2;exact hw ⟨by omega,by omega⟩
 show wpAny _ _ (if(((sIx items.size 0 lo:Nat):Int) == 0&&(1:Int) == 1&&(sIx items.size items.size hi-sIx items.size 0 lo) == items.size)=true then _ else _) _ _ s;rw[if_neg hno,um]
 first
  | exact wpAny_bind (m:=Builtin.Tuple.tupleExact _) (wpAny_newObj_type (wpAny_pure ⟨_,rfl,wpAny_pure h⟩) htake)
  | exact wpAny_bind (m:=Builtin.Tuple.tupleExact _) (wpAny_newObj_type (wpAny_bind (wpAny_pure (wpAny_pure ⟨_,rfl,wpAny_pure h⟩))) htake)
  | exact wpAny_bind (wpAny_bind (m:=Builtin.Tuple.tupleExact _) (wpAny_newObj_type (wpAny_pure (wpAny_pure ⟨_,rfl,wpAny_pure h⟩)) htake))
  | exact wpAny_bind (wpAny_bind (m:=Builtin.Tuple.tupleExact _) (wpAny_newObj_type (wpAny_pure ⟨_,rfl,wpAny_pure h⟩) htake))
end
end HT
namespace L2
open PySem PySem.Spec PyProof.Rows
@[reducible]noncomputable def TO:=St->Hp->(Option Int->Hp->Prop)->Prop
abbrev PO(X:Cx)(e:Option Expr)(t:TO):Prop :=
 ∀ (pins:List (Addr × Obj)) (s:Shared) (σ:St) (H:Hp) (Q:Option Int->Hp->Prop),Inv X pins σ H s->t σ H Q ->
  wpAny (model X.prog X.w) X.A (evalPart e X.env) (fun u s'=>∃ o H',Inv X pins σ H' s'/\IsPart u o/\Q o H') X.xe s
abbrev yd:TO:=fun _ H Q=>Q none H
abbrev C6(t:TE):TO:=fun σ H Q=>t σ H fun x H1=>∃ i,x=.int i/\Q (some i) H1
section
variable{X:Cx}{e:Expr}{te:TE}{lo hi:Option Expr}{tl th:TO}{pos p2:Pos}
def yJ:PO X none yd:=by
 intro pins s σ H Q I h;rw[evalPart_none];exact wpAny_pure ⟨none,H,I,.none,h⟩
def yB(h:PE X e te):PO X (some e) (C6 te):=by
 intro pins s σ H Q I hw;rw[evalPart_some];refine thn (h pins s σ H _ I hw) fun u s1 ⟨x,H1,I1,r1,q1⟩=>?_;obtain⟨i,rfl,q⟩:=q1;obtain⟨t,rfl⟩:=r1;exact⟨some i,H1,I1,.int i t,q⟩
abbrev SlR(X:Cx)(r:V->Option Int->Option Int->Hp->VK->Prop):Prop :=
 ∀ (pins:List (Addr × Obj)) (s:Shared) (σ:St) (H:Hp) (x:V) (v vl vu:Value) (lo hi:Option Int) (sl:Addr) (Q:VK),Inv X pins σ H s->RelV x v->s.heap.IsSliceOf sl vl vu .none->IsPart vl lo->IsPart vu hi->r x lo hi H Q ->
  ∃ T id,typeLookup (.type T) "__getitem__" = pure (some (.builtin id))/\s.TypeIs v T/\wpAny (model X.prog X.w) X.A (getItem v (.ref sl)) (EP X pins σ Q) X.xe s
def SlR.or(h:SlR X r)(h':SlR X r'):SlR X (fun x lo hi H Q=>r x lo hi H Q\/r' x lo hi H Q):=by
 intro pins s σ H x v vl vu lo hi sl Q I rx hs pl pu q;rcases q with q | q
 ·exact h pins s σ H x v vl vu lo hi sl Q I rx hs pl pu q
 ·exact h' pins s σ H x v vl vu lo hi sl Q I rx hs pl pu q
abbrev tSl(r:V->Option Int->Option Int->Hp->VK->Prop)(te:TE)(tl th:TO):TE:=fun σ H Q=>te σ H fun x H1=>tl σ H1 fun l H2=>th σ H2 fun u H3=>r x l u H3 Q
def uZ(hr:SlR X r)(he:PE X e te)(hl:PO X lo tl)(hu:PO X hi th):PE X (.Subscript e (.Slice lo hi none p2) pos) (tSl r te tl th):=by
 intro pins s σ H Q I h;refine Subscript_ (thn (he pins s σ H _ I h) fun v s1 ⟨x,H1,I1,r1,q1⟩=>?_);refine wpAny_Slice (thn (hl pins s1 σ H1 _ I1 q1) fun vl s2 ⟨l,H2,I2,pl,q2⟩=>thn (hu pins s2 σ H2 _ I2 q2) fun vu s3 ⟨u,H3,I3,pu,q3⟩=>?_);rw[evalPart_none];refine wpAny_pure ?_;have I4:Inv X pins σ H3 { s3 with heap:=s3.heap.push { cls:=.type "slice",data:=.fields #[vl,vu,.none] } }:=I3.kept (t':=s3.toks) fun b ob q=>Heap.get?_push_of_some _ q;obtain⟨T,id,hT,ht,hg⟩:=hr pins { s3 with heap:=s3.heap.push { cls:=.type "slice",data:=.fields #[vl,vu,.none] } } σ H3 x v vl vu l u s3.heap.objs.size Q I4 r1 (Heap.IsSliceOf.new ..) pl pu q3;show wpAny (model X.prog X.w) X.A (subscriptTail e (.Slice lo hi none p2) v (.ref s3.heap.objs.size)) (EP X pins σ Q) X.xe { s3 with heap:=s3.heap.push { cls:=.type "slice",data:=.fields #[vl,vu,.none] } };exact tail_any (ops:=[.ref s3.heap.objs.size,v]) ht hT hg (by with_unfolding_all rfl)
abbrev fR(xs:List V)(lo hi:Option Int):List V:=(xs.drop (HT.sIx xs.length 0 lo)).take (HT.sIx xs.length xs.length hi-HT.sIx xs.length 0 lo)
def iI(xs:List V)(lo hi:Option Int):(fR xs lo hi).length<=xs.length:=by
 unfold fR;rw[List.length_take,List.length_drop];omega
abbrev Dr(K:PySem.W.Frag):V->Option Int->Option Int->Hp->VK->Prop:=fun x lo hi H Q=>∃ a xs,x=.ref a/\SqT K H a xs /\
 ¬ (HT.sIx xs.length 0 lo=0/\HT.sIx xs.length xs.length hi=xs.length)/\∀ p,H p=none->Q (.ref p) (upd H p (.tup (fR xs lo hi)))
def BB:SlR X (Dr X.K):=by
 intro pins s σ H x v vl vu lo hi sl Q I rx hs pl pu h;obtain⟨a,xs,rfl,hx,hw,q⟩:=h;cases rx;obtain⟨its,r,ht,hz⟩:=I.tuple hx
 have hlen:its.toArray.size=xs.length:=by rw[List.size_toArray];exact r.length.symm
 refine⟨"tuple",_,PyProof.Rows.slot_tuple_getitem.lookup,ht.typeIs,?_⟩;refine HT.iG ht hs pl pu (by rw[hlen];exact hw) ?_ (by rw[hlen];exact hz);rw[hlen];refine⟨.ref s.heap.objs.size,_,I.laid (t':=s.toks) (o:=.tup (fR xs lo hi)) (fun b ob q=>Heap.get?_push_of_some _ q) (Nat.le_refl _) ?_,rfl,q _ (I.hok.fresh (Nat.le_refl _))⟩;exact⟨Nat.le_trans (iI xs lo hi) hz,_,(r.drop (HT.sIx xs.length 0 lo)).take (HT.sIx xs.length xs.length hi-HT.sIx xs.length 0 lo),IsTup.new _ _⟩
abbrev BV(K:PySem.W.Frag):R2:=fun x y H Q=>∃ a b xs ys,x=.ref a/\y=.ref b/\SqT K H a xs/\SqT K H b ys/\xs≠[]/\xs.length+ys.length<=sizeLine /\
 (ys=[]->Q (.ref a) H)/\(ys≠[]->∀ p,H p=none->Q (.ref p) (upd H p (.tup (xs++ys))))
def Vals.kj(r:Vals xs us):us=[]↔xs=[]:=by
 cases r with
 | nil=>simp
 | cons _ _=>simp
def y6:OpR X (binaryOp .Add) (BV X.K):=by
 intro pins s σ H x y v u Q I rx ry h;obtain⟨a,b,xs,ys,rfl,rfl,ha,hb,hx,hz,q1,q2⟩:=h;cases rx;cases ry;obtain⟨its,r1,p1,_⟩:=I.tuple ha;obtain⟨its2,r2,p2,_⟩:=I.tuple hb;refine HT.y8 p1 p2 (fun z=>hx (r1.kj.mp z)) (fun z=>⟨.ref a,H,I,rfl,q1 (r2.kj.mp z)⟩) (fun z=>?_) (by rw[<-r1.length,<-r2.length];exact hz);refine⟨.ref s.heap.objs.size,_,I.laid (t':=s.toks) (o:=.tup (xs++ys)) (fun b ob q=>Heap.get?_push_of_some _ q) (Nat.le_refl _) ?_,rfl,q2 (fun w=>z (r2.kj.mpr w)) _ (I.hok.fresh (Nat.le_refl _))⟩;exact⟨by rw[List.length_append];exact hz,_,r1.append r2,IsTup.new _ _⟩
end
abbrev ixN(n:Nat)(i:Int):Option Nat:=if 0<=i then(if i<n then some i.toNat else none)else if -(n:Int)<=i then some (i+n).toNat else none
abbrev atI(xs:List α)(i:Int):Option α:=(ixN xs.length i).bind fun j=>xs[j]?
def oH(h:ixN n i=some j):seqIndex? i n=some j/\j<n/\-(n:Int)<=i/\i<n:=by
 unfold ixN at h;by_cases h0:0<=i
 ·rw[if_pos h0]at h;by_cases h1:i<n
  ·rw[if_pos h1]at h;have e:i.toNat=j:=Option.some.inj h;exact⟨by rw[seqIndex_of h0 h1,e],by omega,by omega,h1⟩
  ·rw[if_neg h1]at h;cases h
 ·rw[if_neg h0]at h;by_cases h1:-(n:Int)<=i
  ·rw[if_pos h1]at h;have e:(i+n).toNat=j:=Option.some.inj h;exact⟨by rw[seqIndex_neg (by omega) h1,e],by omega,h1,by omega⟩
  ·rw[if_neg h1]at h;cases h
def kl(h:atI xs i=some v):∃ j,seqIndex? i xs.length=some j/\xs[j]?=some v/\j<xs.length/\-(xs.length:Int)<=i/\i<xs.length:=by
 unfold atI at h
 cases e:ixN xs.length i with
 | none=>rw[e]at h;cases h
 |some j=>
  rw[e]at h;obtain⟨h1,h2,h3,h4⟩:=oH e;exact⟨j,h1,h,h2,h3,h4⟩
abbrev oM(b:Expr):Prop:=∀ o i,subscripted b false o i=operate [o,i] (getItem o i)
abbrev IxR(X:Cx)(r:R2):Prop :=
 ∀ (value slice:Expr) (pins:List (Addr × Obj)) (s:Shared) (σ:St) (H:Hp) (x y:V) (v u:Value) (Q:VK),Inv X pins σ H s->RelV x v->RelV y u->r x y H Q ->
  subscripted slice false v u=operate [v,u] (getItem v u)->wpAny (model X.prog X.w) X.A (subscriptTail value slice v u) (EP X pins σ Q) X.xe s
abbrev MtR(X:Cx)(id:String)(r:V->List V->Hp->VK->Prop):Prop :=
 ∀ (pins:List (Addr × Obj)) (s:Shared) (σ:St) (H:Hp) (x:V) (xs:List V) (v:Value) (us:List Value) (Q:VK),Inv X pins σ H s->RelV x v->Vals xs us->r x xs H Q ->
  wpAny (model X.prog X.w) X.A (call (.builtin id) (v::us)) (EP X pins σ Q) X.xe s
section
variable{X:Cx}{a b:Expr}{ta tb:TE}{pos:Pos}
def IxR.or(h:IxR X r)(h':IxR X r'):IxR X (fun x y H Q=>r x y H Q\/r' x y H Q):=by
 intro value slice pins s σ H x y v u Q I rx ry q hs;rcases q with q | q
 ·exact h value slice pins s σ H x y v u Q I rx ry q hs
 ·exact h' value slice pins s σ H x y v u Q I rx ry q hs
def wU{r:R2}(hr:IxR X r)(ha:PE X a ta)(hb:PE X b tb)(hs:oM b):PE X (.Subscript a b pos) (tOp r ta tb):=by
 intro pins s σ H Q I h;exact Subscript_ (vc ha hb I h fun v u s2 x y H2 I2 rx ry q=>hr a b pins s2 σ H2 x y v u Q I2 rx ry q (hs _ _))
abbrev BC(K:PySem.W.Frag):R2:=fun x y H Q=>∃ p xs i v,x=.ref p/\y=.int i/\SqL K H p xs/\atI xs i=some v/\Q v H
abbrev Aa(K:PySem.W.Frag):R2:=fun x y H Q=>∃ p xs i v,x=.ref p/\y=.int i/\SqT K H p xs/\atI xs i=some v/\Q v H
abbrev Bx:R2:=fun x y H Q=>∃ z i c,x=.str z/\y=.int i/\z.length<=sizeLine/\atI z.cps.toList i=some c/\Q (.str ⟨#[c]⟩) H
def yO:IxR X (BC X.K):=by
 intro value slice pins s σ H x y v u Q I rx ry h hs;obtain⟨p,xs,i,z,rfl,rfl,hq,he,q⟩:=h;cases rx;obtain⟨t,rfl⟩:=ry;obtain⟨its,r,pl,hz⟩:=I.list hq;obtain⟨j,h1,h2,h3,h4,h5⟩:=kl he;obtain⟨w,ew,rw'⟩:=r.get h2;have hl:=r.length;have hn:=gd
 have fin:EP X pins σ Q w s:=⟨z,H,I,rw',q⟩
 by_cases h0:0<=i
 ·have hj:i.toNat=j:=by
   rw[seqIndex_of h0 h5]at h1;exact Option.some.inj h1
  exact item_listR pl.isList h0 (by omega) (by rw[hj];simpa using ew) fin hs
 ·have hj:(i+(its.toArray.size:Int)).toNat=j:=by
   rw[seqIndex_neg (by omega) h4]at h1;rw[List.size_toArray,<-hl];exact Option.some.inj h1
  exact subscriptTail_builtinR (x:=w) pl.isList.typeIs slot_list_getitem.lookup
   (wpAny_getItem_list_neg (Q:=fun r s'=>r=w/\EP X pins σ Q r s') pl.isList (by omega) (by rw[List.size_toArray]<;>omega) (by omega) (by rw[hj];simpa using ew) ⟨rfl,fin⟩) hs
def B8:IxR X (Aa X.K):=by
 intro value slice pins s σ H x y v u Q I rx ry h hs;obtain⟨p,xs,i,z,rfl,rfl,hq,he,q⟩:=h;cases rx;obtain⟨t,rfl⟩:=ry;obtain⟨its,r,pl,hz⟩:=I.tuple hq;obtain⟨j,h1,h2,h3,h4,h5⟩:=kl he;obtain⟨w,ew,rw'⟩:=r.get h2;have hl:=r.length;have hn:=gd
 have fin:EP X pins σ Q w s:=⟨z,H,I,rw',q⟩
 exact subscriptTail_builtinR (x:=w) pl.typeIs slot_tuple_getitem.lookup
  (getItem_tuple (j:=j) (Q:=fun r s'=>r=w/\EP X pins σ Q r s') pl (by omega) (by omega) (by rw[List.size_toArray,<-hl];exact h1) (by simpa using ew) ⟨rfl,fin⟩) hs
def AO:IxR X Bx:=by
 intro value slice pins s σ H x y v u Q I rx ry h hs;obtain⟨z,i,c,rfl,rfl,hz,he,q⟩:=h;obtain⟨t,rfl⟩:=rx;obtain⟨t',rfl⟩:=ry;obtain⟨j,h1,h2,h3,h4,h5⟩:=kl he
 have hl:z.cps.toList.length=z.length:=by simp[Str.length]
 rw[hl]at h1 h4 h5;have hn:=gd
 exact tail_any (typeIs_str s z t) slot_str_getitem.lookup (getItem_str (c:=c) (by
  have e1:decide (i < -(2 ^ 63:Int))=false:=decide_eq_false (by omega);have e2:decide (i≥2 ^ 63)=false:=decide_eq_false (by omega)
  rw[e1,e2,Bool.or_false]) (by rw[h1];simpa using h2) ⟨.str ⟨#[c]⟩,H,I.tok _,⟨_,rfl⟩,q⟩) hs
abbrev rIx(K:PySem.W.Frag):R2:=fun x y H Q=>BC K x y H Q\/Aa K x y H Q\/Bx x y H Q
def rF:IxR X (rIx X.K):=yO.or (B8.or AO)
def qI(its:List Value)(n j:Nat)(u:Value):Obj.mapSeq (·.setIfInBounds j u) { cls:=.type "list",data:=.seq its.toArray n }={ cls:=.type "list",data:=.seq (its.set j u).toArray n }:=by
 simp[Obj.mapSeq]
def Inv.lst{pins:List (Addr × Obj)}{σ:St}{H:Hp}{s:Shared}{p:Addr}{xs:List V}(I:Inv X pins σ H s)(h:H p=some (.lst xs)) :
  ∃ (its:List Value) (n:Nat),Vals xs its/\s.heap.get? p=some { cls:=.type "list",data:=.seq its.toArray n }/\xs.length<=sizeLine:=by
 obtain⟨z,its,n,r,e⟩:=I.hok p _ h;exact⟨its,n,r,e,z⟩
def Inv.zE{pins:List (Addr × Obj)}{σ:St}{H:Hp}{s:Shared}{p:Addr}{xs ys:List V}{its its':List Value}{n n':Nat}{f:Obj->Obj}(I:Inv X pins σ H s)(h:H p=some (.lst xs))
 (ho:s.heap.get? p=some { cls:=.type "list",data:=.seq its.toArray n })(hf:f { cls:=.type "list",data:=.seq its.toArray n }={ cls:=.type "list",data:=.seq its'.toArray n' })(r:Vals ys its')(hz:ys.length<=sizeLine)(t:Nat) :
  Inv X pins σ (upd H p (.lst ys)) { s with heap:=s.heap.update p f,toks:=t }:=by
 have e:(s.heap.update p f).get? p=some { cls:=.type "list",data:=.seq its'.toArray n' }:=by
  rw[Heap.get?_update_self f ho (by rw[hf]<;>rfl),hf]
 refine I.write (x:=p) (e:=p) (by rw[h];trivial) (.inl rfl) (fun b u hb q=>(Heap.get?_update_other _ _ (Ne.symm hb)).trans q) ⟨_,e⟩ ?_;exact⟨hz,its',n',r,e⟩
abbrev qj:V->V->V->Hp->(Hp->Prop)->Prop:=fun o i v H Q=>∃ p xs k j,o=.ref p/\i=.int k/\H p=some (.lst xs)/\ixN xs.length k=some j/\Q (upd H p (.lst (xs.set j v)))
def set_list:Ay X qj:=by
 intro pins s σ H o i v ov iv u Q I ro ri rv h;obtain⟨p,xs,k,j,rfl,rfl,hp,hj,q⟩:=h;cases ro;obtain⟨t,rfl⟩:=ri;obtain⟨its,n,r,ho,hz⟩:=I.lst hp;obtain⟨h1,h2,h3,h4⟩:=oH hj;have hl:=r.length;have hn:=gd
 have I':Inv X pins σ (upd H p (.lst (xs.set j v))) { s with heap:=s.heap.update p (Obj.mapSeq (·.setIfInBounds j u)) } :=
  I.zE hp ho (qI its n j u) (r.set rv j) (by rw[List.length_set];exact hz) s.toks
 by_cases h0:0<=k
 ·have hk:k.toNat=j:=by
   rw[seqIndex_of h0 h4]at h1;exact Option.some.inj h1
  exact PySem.W.ki_setAt ho h0 (by omega) (by rw[List.size_toArray,<-hl];exact h4) (by rw[hk];exact⟨_,I',q⟩)
 ·have hk:(k+(its.toArray.size:Int)).toNat=j:=by
   rw[seqIndex_neg (by omega) h3]at h1;rw[List.size_toArray,<-hl];exact Option.some.inj h1
  exact PySem.W.ki_setBack ho (by omega) (by rw[List.size_toArray,<-hl];exact h3) (by omega) (by rw[hk];exact⟨_,I',q⟩)
def nV(lo hi:Option Int)(n:Nat):(sliceBounds lo hi none n).1=((HT.sIx n 0 lo:Nat):Int)/\(sliceBounds lo hi none n).2.1=((HT.sIx n n hi:Nat):Int)/\(sliceBounds lo hi none n).2.2=1:=by
 refine⟨?_,?_,rfl⟩
 ·cases lo with
  | none=>simp[sliceBounds,HT.sIx]
  |some i=>
   simp only[sliceBounds,HT.sIx,Option.getD_none,show(1:Int) > 0 by decide,if_true];by_cases h:i<0
   ·simp only[h,if_true]<;>omega
   ·simp only[h,if_false]<;>omega
 ·cases hi with
  | none=>simp[sliceBounds,HT.sIx]
  |some i=>
   simp only[sliceBounds,HT.sIx,Option.getD_none,show(1:Int) > 0 by decide,if_true];by_cases h:i<0
   ·simp only[h,if_true]<;>omega
   ·simp only[h,if_false]<;>omega
def l8(its:List Value)(lo hi:Option Int):slicePick its.toArray lo hi none=((its.drop (HT.sIx its.length 0 lo)).take (HT.sIx its.length its.length hi-HT.sIx its.length 0 lo)).toArray:=by
 obtain⟨h1,h2,h3⟩:=nV lo hi its.toArray.size;unfold slicePick;rw[h1,h2,h3];simp only[sliceRange_one,pick_run,List.size_toArray]<;>rfl
abbrev Df(K:PySem.W.Frag):V->Option Int->Option Int->Hp->VK->Prop:=fun x lo hi H Q=>∃ a xs,x=.ref a/\SqL K H a xs/\∀ p,H p=none->Q (.ref p) (upd H p (.lst (fR xs lo hi)))
def xT:SlR X (Df X.K):=by
 intro pins s σ H x v vl vu lo hi sl Q I rx hs pl pu h;obtain⟨a,xs,rfl,hx,q⟩:=h;cases rx;obtain⟨its,r,ht,hz⟩:=I.list hx;have hlen:=r.length;refine⟨"list",_,slot_list_getitem.lookup,ht.isList.typeIs,?_⟩;refine wpAny_getItem_list_slice ht.isList hs pl pu .none (by simp) ?_ (by rw[List.size_toArray]<;>omega);rw[l8,<-hlen];refine⟨.ref s.heap.objs.size,_,I.laid (t':=s.toks) (o:=.lst (fR xs lo hi)) (fun b ob q=>Heap.get?_push_of_some _ q) (Nat.le_refl _) ?_,rfl,q _ (I.hok.fresh (Nat.le_refl _))⟩;exact⟨Nat.le_trans (iI xs lo hi) hz,_,0,(r.drop (HT.sIx xs.length 0 lo)).take (HT.sIx xs.length xs.length hi-HT.sIx xs.length 0 lo),Heap.get?_push_size _ rfl⟩
abbrev eh:V->Bool
 | .non=>true
 | .bl _=>true
 | .int _=>true
 | .str _=>true
 | _=>false
abbrev eqV:V->V->Bool
 | .non,.non=>true
 | .bl a,.bl b=>a == b
 | .bl a,.int b=>(if a then 1 else 0) == b
 | .int a,.bl b=>a == (if b then 1 else 0)
 | .int a,.int b=>a == b
 | .str a,.str b=>a == b
 | _,_=>false
def Aq(ry:RelV y u)(rx:RelV x v)(fy:eh y=true)(fx:eh x=true):SeqAt.EqAt A s u v (eqV y x):=by
 cases y with
 |non=>
  cases ry
  cases x with
  | non=>cases rx;exact SeqAt.EqAt.same _
  | bl b=>cases rx;exact SeqAt.EqAt.none_bool b
  | int b=>obtain⟨t,rfl⟩:=rx;exact SeqAt.EqAt.none_int b t
  | str b=>obtain⟨t,rfl⟩:=rx;exact SeqAt.EqAt.none_str b t
  | _=>exact absurd (show false=true from fx) Bool.false_ne_true
 |bl a=>
  cases ry
  cases x with
  | non=>cases rx;exact SeqAt.EqAt.bool_none a
  | bl b=>cases rx;exact SeqAt.EqAt.bool_bool a b
  | int b=>obtain⟨t,rfl⟩:=rx;exact SeqAt.EqAt.bool_int a b t
  | str b=>obtain⟨t,rfl⟩:=rx;exact SeqAt.EqAt.bool_str a b t
  | _=>exact absurd (show false=true from fx) Bool.false_ne_true
 |int a=>
  obtain⟨t',rfl⟩:=ry
  cases x with
  | non=>cases rx;exact SeqAt.EqAt.int_none a t'
  | bl b=>cases rx;exact SeqAt.EqAt.int_bool a t' b
  | int b=>obtain⟨t,rfl⟩:=rx;exact SeqAt.EqAt.int_int a t' b t
  | str b=>obtain⟨t,rfl⟩:=rx;exact SeqAt.EqAt.int_str a t' b t
  | _=>exact absurd (show false=true from fx) Bool.false_ne_true
 |str a=>
  obtain⟨t',rfl⟩:=ry
  cases x with
  | non=>cases rx;exact SeqAt.EqAt.str_none a t'
  | bl b=>cases rx;exact SeqAt.EqAt.str_bool a t' b
  | int b=>obtain⟨t,rfl⟩:=rx;exact SeqAt.EqAt.str_int a t' b t
  | str b=>obtain⟨t,rfl⟩:=rx;exact SeqAt.EqAt.str_str a t' b t
  | _=>exact absurd (show false=true from fx) Bool.false_ne_true
 | _=>exact absurd (show false=true from fy) Bool.false_ne_true
abbrev eqU(x:V)(u:Value):Bool:=match u with
 | .none=>eqV .non x
 | .bool b=>eqV (.bl b) x
 | .int i _=>eqV (.int i) x
 | .str z _=>eqV (.str z) x
 | _=>false
def tK(r:RelV y u)(f:eh y=true):eqU x u=eqV y x:=by
 cases y with
 | non=>cases r;rfl
 | bl b=>cases r;rfl
 | int i=>obtain⟨t,rfl⟩:=r;rfl
 | str z=>obtain⟨t,rfl⟩:=r;rfl
 | _=>exact absurd (show false=true from f) Bool.false_ne_true
def fY:∀ {xs:List V} {us:List Value},Vals xs us->xs.all eh=true->us.any (eqU x)=xs.any fun y=>eqV y x
 | _,_,.nil,_=>rfl
 | y::xs,u::us,.cons r t,f=>by
  rw[List.all_cons,Bool.and_eq_true]at f;rw[List.any_cons,List.any_cons,tK r f.1,fY t f.2]
def fv(rx:RelV x v)(fx:eh x=true):∀ {xs:List V} {us:List Value},Vals xs us->xs.all eh=true->∀ u∈us,SeqAt.EqAt A s u v (eqU x u)
 | _,_,.nil,_=>fun u hu=>by cases hu
 | y::xs,u::us,.cons r t,f=>fun u' hu=>by
  rw[List.all_cons,Bool.and_eq_true]at f;rcases List.mem_cons.mp hu with rfl | hu
  ·rw[tK r f.1];exact Aq r rx f.1 fx
  ·exact fv rx fx t f.2 u' hu
abbrev inV(x:V)(xs:List V):Bool:=xs.any fun y=>eqV y x
abbrev rIn(K:PySem.W.Frag)(neg:Bool):R2:=fun x y H Q=>∃ p xs,y=.ref p/\(SqL K H p xs\/SqT K H p xs)/\eh x=true/\xs.all eh=true/\Q (.bl (if neg then !inV x xs else inV x xs)) H
def sX:OpR X (compareOp .In) (rIn X.K false):=by
 intro pins s σ H x y v u Q I rx ry h;obtain⟨p,xs,rfl,hq,fx,fs,q⟩:=h;cases ry;rcases hq with hq | hq
 ·obtain⟨its,r,pl,hz⟩:=I.list hq;refine SeqAt.in_listAt (eqU x) pl.isList (fun w hw=>fv rx fx r fs w (by simpa using hw)) ⟨.bl _,H,I,rfl,?_⟩;rw[show its.toArray.any (eqU x)=its.any (eqU x) by simp,fY r fs];exact q
 ·obtain⟨its,r,pl,hz⟩:=I.tuple hq;refine SeqAt.in_tupleAt (eqU x) pl (fun w hw=>fv rx fx r fs w (by simpa using hw)) ⟨.bl _,H,I,rfl,?_⟩;rw[show its.toArray.any (eqU x)=its.any (eqU x) by simp,fY r fs];exact q
def nv:OpR X (compareOp .NotIn) (rIn X.K true):=by
 intro pins s σ H x y v u Q I rx ry h;obtain⟨p,xs,rfl,hq,fx,fs,q⟩:=h;cases ry;rcases hq with hq | hq
 ·obtain⟨its,r,pl,hz⟩:=I.list hq;refine SeqAt.notIn_listAt (eqU x) pl.isList (fun w hw=>fv rx fx r fs w (by simpa using hw)) ⟨.bl _,H,I,rfl,?_⟩;rw[show its.toArray.any (eqU x)=its.any (eqU x) by simp,fY r fs];exact q
 ·obtain⟨its,r,pl,hz⟩:=I.tuple hq;refine SeqAt.notIn_tupleAt (eqU x) pl (fun w hw=>fv rx fx r fs w (by simpa using hw)) ⟨.bl _,H,I,rfl,?_⟩;rw[show its.toArray.any (eqU x)=its.any (eqU x) by simp,fY r fs];exact q
def bx.or(h:bx X f r)(h':bx X f r'):bx X f (fun xs H Q=>r xs H Q\/r' xs H Q):=by
 intro pins s σ H xs us Q I rs q;rcases q with q | q
 ·exact h pins s σ H xs us Q I rs q
 ·exact h' pins s σ H xs us Q I rs q
def nz:bx X (.type "list") (fun xs H Q=>∃ p ys,xs=[.ref p]/\(SqL X.K H p ys\/SqT X.K H p ys)/\∀ l,H l=none->Q (.ref l) (upd H l (.lst ys))):=by
 intro pins s σ H xs us Q I r h;obtain⟨p,ys,rfl,hq,q⟩:=h;obtain⟨u,rfl,rx⟩:=vals1 r;cases rx
 have fin:∀ (its:List Value),Vals ys its->ys.length<=sizeLine->∀ (h':Heap) (c':Nat),(∀ b o',s.heap.get? b=some o'->h'.get? b=some o') ->
   h'.get? s.heap.objs.size=some { cls:=.type "list",dict:=none,data:=.seq its.toArray c',slots:=#[] }->EP X pins σ Q (.ref s.heap.objs.size) { s with heap:=h' }:=fun its r' hz h' c' kp e =>
  ⟨.ref s.heap.objs.size,_,I.laid (t':=s.toks) kp (Nat.le_refl _) (show aU X.prog X.w _ h' _ (.lst ys)from⟨hz,its,c',r',e⟩),rfl,q _ (I.hok.fresh (Nat.le_refl _))⟩
 rcases hq with hq | hq
 ·obtain⟨its,r',pl,hz⟩:=I.list hq;have hlen:=r'.length;obtain⟨o,ho,hc,n,hd⟩:=pl.isList;exact call_list_seq p (.inl rfl) ho hc hd (fun h' c' kp e=>fin its r' hz h' c' kp e) (by simp only[List.size_toArray]<;>omega)
 ·obtain⟨its,r',pl,hz⟩:=I.tuple hq;have hlen:=r'.length;obtain⟨o,ho,hc,n,hd⟩:=pl;exact call_list_seq p (.inr rfl) ho hc hd (fun h' c' kp e=>fin its r' hz h' c' kp e) (by simp only[List.size_toArray]<;>omega)
def l7:bx X (.type "tuple") (fun xs H Q=>∃ p ys,xs=[.ref p]/\((SqL X.K H p ys/\∀ l,H l=none->Q (.ref l) (upd H l (.tup ys)))\/(SqT X.K H p ys/\Q (.ref p) H))):=by
 intro pins s σ H xs us Q I r h;obtain⟨p,ys,rfl,h⟩:=h;obtain⟨u,rfl,rx⟩:=vals1 r;cases rx
 rcases h with⟨hq,q⟩ | ⟨hq,q⟩
 ·obtain⟨its,r',pl,hz⟩:=I.list hq;have hlen:=r'.length;refine call_tuple_list pl.isList (fun h' kp=>?_) (by simp only[List.size_toArray]<;>omega);have I1:Inv X pins σ H { s with heap:=h' }:=I.kept (t':=s.toks) kp
  have I2:Inv X pins σ (upd H h'.objs.size (.tup ys)) { s with heap:=h'.push { cls:=.type "tuple",data:=.seq its.toArray } } :=
   I1.laid (t':=s.toks) (fun b o e=>Heap.get?_push_of_some _ e) (Nat.le_refl _) (show aU X.prog X.w _ _ _ (.tup ys)from⟨hz,its,r',IsTup.new _ _⟩)
  exact⟨.ref h'.objs.size,_,I2,rfl,q _ (I1.hok.fresh (Nat.le_refl _))⟩
 ·obtain⟨its,r',pl,hz⟩:=I.tuple hq;exact call_tuple_same pl ⟨.ref p,H,I,rfl,q⟩
abbrev tyV(K:PySem.W.Frag)(T:String)(x:V)(H:Hp):Prop:=match x with
 | .str _=>T = "str"
 | .int _=>T = "int"
 | .ref p=>(T = "list" /\ ∃ xs,SqL K H p xs)\/(T = "tuple" /\ ∃ o,K.lookup p=some o/\o.cls=.type "tuple" /\ o.dict=none) \/
   (T = "dict" /\ ((∃ kvs,H p=some (.dK kvs))\/∃ kvs,H p=some (.dT kvs)))\/(T = "set" /\ ∃ S n,H p=some (.set S n))
 | _=>False
def rY(I:Inv X pins σ H s)(r:RelV x v)(ty:tyV X.K T x H) :
  s.TypeIs v T/\∀ a,v=.ref a->∃ ob,s.heap.get? a=some ob/\ob.dict=none:=by
 cases x with
 |str z=>
  obtain⟨t,rfl⟩:=r;cases(show T = "str" from ty);exact⟨typeIs_str s z t,fun _ e=>nomatch e⟩
 |int i=>
  obtain⟨t,rfl⟩:=r;cases(show T = "int" from ty);exact⟨typeIs_int s i t,fun _ e=>nomatch e⟩
 |ref p=>
  cases r
  rcases ty with⟨rfl,xs,hq⟩ | ⟨rfl,o,hk,hc,hd⟩ | ⟨rfl,hk⟩ | ⟨rfl,S,n,hk⟩
  ·obtain⟨its,_,pl,_⟩:=I.list hq;refine⟨pl.isList.typeIs,fun a e=>?_⟩;cases e;obtain⟨o,n,e,c,hd,_⟩:=pl;exact⟨o,e,hd⟩
  ·refine⟨⟨o,I.kIn p o hk,hc⟩,fun a e=>?_⟩;cases e;exact⟨o,I.kIn _ o hk,hd⟩
  ·have z:∃ o,s.heap.get? p=some o/\o.ExactDict:=by
    rcases hk with⟨kvs,hk⟩ | ⟨kvs,hk⟩
    ·obtain⟨_,_,_,_,o,_,_,e,ex,_⟩:=I.hok p _ hk;exact⟨o,e,ex⟩
    ·obtain⟨_,_,_,_,o,_,_,e,ex,_⟩:=I.hok p _ hk;exact⟨o,e,ex⟩
   obtain⟨o,e,ex⟩:=z;refine⟨⟨o,e,ex.1⟩,fun a e2=>?_⟩;cases e2;exact⟨o,e,ex.2.1⟩
  ·obtain⟨o,_,_,_,e,ex,_⟩:=I.hok p _ hk;refine⟨⟨o,e,ex.1⟩,fun a e2=>?_⟩;cases e2;exact⟨o,e,ex.2.1⟩
 | _=>exact False.elim ty
abbrev vR(K:PySem.W.Frag)(T:String)(r:V->List V->Hp->VK->Prop)(to:TE):TE:=fun σ H Q=>to σ H fun x H1=>tyV K T x H1/\r x [] H1 Q
abbrev tBM(K:PySem.W.Frag)(T:String)(r:V->List V->Hp->VK->Prop)(to:TE)(t:TA):TE:=fun σ H Q=>to σ H fun x H1=>tyV K T x H1/\t σ H1 fun xs H2=>r x xs H2 Q
variable{o e:Expr}{es:List Expr}{to:TE}{t:TA}{name:Str}{apos cpos:Pos}{T id:String}{r:V->List V->Hp->VK->Prop}
def rh(pa:PlainAttrs T)(slot:Slot T name id)(hty:typeOf (.builtin id)=pure (.type "method_descriptor"))(hm:MtR X id r)(ho:PE X o to)
 (hbase:attributeBase o name X.env (eval o X.env)=eval o X.env)(hline:(apos.endLine == cpos.line)=true):PE X (.Call (.Attribute o name apos) [] [] cpos) (vR X.K T r to):=by
 intro pins s σ H Q I h;refine wpAny_Call_method0_late hbase hline (thn (ho pins s σ H _ I h) fun v s1 ⟨x,H1,I1,r1,ty,q1⟩=>?_);obtain⟨h1,h2⟩:=rY I1 r1 ty;exact⟨T,id,pa,slot,hty,h1,h2,Calls.callWith_builtin rfl (PySem.evalArgs_none (hm pins s1 σ H1 x [] v [] Q I1 r1 .nil q1))⟩
def wJ(pa:PlainAttrs T)(slot:Slot T name id)(hty:typeOf (.builtin id)=pure (.type "method_descriptor"))(hm:MtR X id r)(ho:PE X o to)(ha:PA X (e::es) t)
 (hbase:attributeBase o name X.env (eval o X.env)=eval o X.env)
 (hfew:((backTo cpos (starEach (e::es) X.env)).all (fun x=>!x.1)&&(backToKw cpos (keywordEach [] X.env)).all (fun x=>x.1.isSome)
   && decide ((e::es).length+([]:List Keyword).length+(if([]:List Keyword).isEmpty then 0 else 1)<30))=true:=by rfl)
 (hline:(apos.endLine == cpos.line)=true)(hs:starEach (e::es) X.env=(false,eval e X.env)::starEach es X.env)(hplain:(backTo cpos (starEach es X.env)).any (·.1)=false) :
  PE X (.Call (.Attribute o name apos) (e::es) [] cpos) (tBM X.K T r to t):=by
 intro pins s σ H Q I h;refine wpAny_Call_method_late hbase hfew hline rfl (thn (ho pins s σ H _ I h) fun v s1 ⟨x,H1,I1,r1,ty,q1⟩=>?_);obtain⟨h1,h2⟩:=rY I1 r1 ty;refine⟨T,id,pa,slot,hty,h1,h2,?_⟩;have hA:=ha cpos pins s1 σ H1 _ I1 q1;rw[hs]at hA ⊢;refine Calls.callWith_builtin (by show(false || (backTo cpos (starEach es X.env)).any (·.1))=false;rw[hplain]<;>rfl) (Calls.evalArgs_plain ?_);exact thn hA fun us s2 ⟨vs,H2,I2,r2,q2⟩=>hm pins s2 σ H2 x vs v us Q I2 r1 r2 q2
end
abbrev MtM(X:Cx)(id:String)(r:V->List V->Hp->VK->Prop):Prop :=
 ∀ (pins:List (Addr × Obj)) (s:Shared) (σ:St) (H:Hp) (x:V) (xs:List V) (v:Value) (us:List Value) (Q:VK),Inv X pins σ H s->RelV x v->Vals xs us->r x xs H Q ->
  wpAny (model X.prog X.w) X.A (call (.builtin id) (v::us)) (EP X pins σ Q) X.xe s
def Vals.one:∀ {x:V} {us:List Value},Vals [x] us->∃ u,us=[u]/\RelV x u
 | _,_,.cons r .nil=>⟨_,rfl,r⟩
def Vals.zero:∀ {us:List Value},Vals [] us->us=[]
 | _,.nil=>rfl
def Vals.dropLast(h:Vals xs us):Vals xs.dropLast us.dropLast:=by
 induction h with
 | nil=>exact .nil
 |cons r t ih=>
  cases t with
  | nil=>exact .nil
  | cons q t'=>exact .cons r ih
def Vals.rep(h:Vals xs us):∀ k:Nat,Vals (List.replicate k xs).flatten (List.replicate k us).flatten
 | 0=>.nil
 | k+1=>by
  rw[List.replicate_succ,List.replicate_succ,List.flatten_cons,List.flatten_cons];exact Vals.append h (Vals.rep h k)
def qw(l:List α):l.eraseIdx (l.length-1)=l.dropLast:=by
 induction l with
 | nil=>rfl
 |cons a r ih=>
  cases r with
  | nil=>rfl
  |cons b r=>
   have e:(a::b::r).length-1=((b::r).length-1)+1:=by
    have h1:(a::b::r).length=r.length+2:=rfl;have h2:(b::r).length=r.length+1:=rfl;omega
   rw[e,List.eraseIdx_cons_succ,ih]
   all_goals rfl
def foldl_rep(its:List Value):∀ (k:Nat) (acc:List Value),
  List.foldl (fun x1 x2=>x1++x2) acc.toArray (List.replicate k its.toArray)=(acc++(List.replicate k its).flatten).toArray
 | 0,acc=>by simp
 | k+1,acc=>by
  have e:acc.toArray++its.toArray=(acc++its).toArray:=by simp
  have e2:(acc++its)++(List.replicate k its).flatten=acc++(List.replicate (k+1) its).flatten:=by
   rw[List.replicate_succ,List.flatten_cons,List.append_assoc]
  rw[<-e2,<-foldl_rep its k (acc++its),<-e,List.replicate_succ,List.foldl_cons]
section
variable{X:Cx}{pins:List (Addr × Obj)}{σ:St}{H:Hp}{s:Shared}{l b:Addr}{xs ys zs:List V}
def Inv.zT{its its':List Value}{n:Nat}{f:Array Value->Array Value}{t':Nat}(I:Inv X pins σ H s)(hH:H l=some (.lst xs))
 (e:s.heap.get? l=some { cls:=.type "list",data:=.seq its.toArray n })(hf:f its.toArray=its'.toArray)(hv:Vals ys its')(hz:ys.length<=sizeLine) :
  Inv X pins σ (upd H l (.lst ys)) { s with heap:=s.heap.update l (Obj.mapSeq f),toks:=t' }:=by
 have q:=PySem.IsL.update e f;rw[hf]at q;refine I.write (x:=l) (e:=l) (by rw[hH];exact trivial) (.inl rfl) (fun b' u hb hu=>(Heap.get?_update_other s.heap (Obj.mapSeq f) (Ne.symm hb)).trans hu) ⟨_,q⟩ ?_;exact⟨hz,its',_,hv,q⟩
def Inv.BK(I:Inv X pins σ H s)(hv:Vals ys its)(hz:ys.length<=sizeLine) :
  Inv X pins σ (upd H s.heap.objs.size (.lst ys)) { s with heap:=s.heap.push { cls:=.type "list",data:=.seq its.toArray },toks:=t' } :=
 I.laid (fun _ _ q=>Heap.get?_push_of_some _ q) (Nat.le_refl _) ⟨hz,its,0,hv,Heap.get?_push_size _ rfl⟩
def Inv.fresh(I:Inv X pins σ H s):H s.heap.objs.size=none:=I.hok.fresh (Nat.le_refl _)
def Inv.nS(I:Inv X pins σ H s)(hH:H l=some (.lst xs)):xs.length<=sizeLine/\∃ (its:List Value) (n:Nat),Vals xs its/\xs.length=its.length/\s.heap.get? l=some { cls:=.type "list",data:=.seq its.toArray n }:=by
 obtain⟨z,its,n,r,e⟩:=I.hok l _ hH;exact⟨z,its,n,r,r.length,e⟩
def vC(h:n<=sizeLine):Builtin.List.listTooLong n=false:=by
 unfold Builtin.List.listTooLong;exact decide_eq_false (by omega)
end
section
variable{X:Cx}
abbrev oA:V->List V->Hp->VK->Prop:=fun x vs H Q=>∃ l xs y,x=.ref l/\vs=[y]/\H l=some (.lst xs)/\xs.length<sizeLine/\Q .non (upd H l (.lst (xs++[y])))
def kS:MtM X "list.append" oA:=by
 intro pins s σ H x vs v us Q I rx rv h;obtain⟨l,xs,y,rfl,rfl,hH,hz,q⟩:=h;cases rx;obtain⟨u,rfl,ru⟩:=rv.one;obtain⟨z,its,n,r,hl,e⟩:=I.nS hH;refine call_meets F.slot_list_append ⟨_,e,rfl⟩ F.entry_list_append (F.args_list_append_2 _ _) (PySem.list_append l its.toArray n u (by rw[List.size_toArray];omega)) ⟨e,?_⟩;refine⟨.non,_,I.zT (its':=its++[u]) hH e (by simp) (r.append (.cons ru .nil)) ?_,rfl,q⟩;rw[List.length_append,List.length_singleton];omega
abbrev u9:V->List V->Hp->VK->Prop:=fun x vs H Q=>∃ l xs y,x=.ref l/\vs=[]/\H l=some (.lst xs)/\xs[xs.length-1]?=some y/\Q y (upd H l (.lst xs.dropLast))
def rj:MtM X "list.pop" u9:=by
 intro pins s σ H x vs v us Q I rx rv h;obtain⟨l,xs,y,rfl,rfl,hH,hy,q⟩:=h;cases rx;have hus:=rv.zero;subst hus;obtain⟨z,its,n,r,hl,e⟩:=I.nS hH;obtain⟨u,hu,ru⟩:=r.get hy
 have hy':its.toArray[its.toArray.size-1]?=some u:=by
  show its.toArray[its.length-1]?=some u;rw[<-Array.getElem?_toList,<-hl];exact hu
 refine call_meets F.slot_list_pop ⟨_,e,rfl⟩ F.entry_list_pop (F.args_list_pop_1 _) (MeetsSeq.list_pop_last l its.toArray n u hy' (by rw[List.size_toArray];omega)) ⟨e,?_⟩;refine⟨y,_,I.zT (its':=its.dropLast) hH e ?_ r.dropLast ?_,ru,q⟩
 ·show its.toArray.eraseIdxIfInBounds (its.toArray.size-1)=its.dropLast.toArray;rw[List.size_toArray,List.eraseIdxIfInBounds_toArray,qw]
 ·rw[List.length_dropLast];omega
abbrev DS:R2:=fun x y H Q=>∃ l b xs zs,x=.ref l/\y=.ref b/\H l=some (.lst xs)/\H b=some (.lst zs)/\xs.length+zs.length<=sizeLine/\∀ p,H p=none->Q (.ref p) (upd H p (.lst (xs++zs)))
def zu:OpR X (binaryOp .Add) DS:=by
 intro pins s σ H x y v u Q I rx ry h;obtain⟨l,b,xs,zs,rfl,rfl,hH,hB,hz,q⟩:=h;cases rx;cases ry;obtain⟨z,its,n,r,hl,e⟩:=I.nS hH;obtain⟨z2,its2,n2,r2,hl2,e2⟩:=I.nS hB;refine PySem.P.add_list e e2 ?_ (by rw[List.size_toArray,List.size_toArray];omega)
 have ea:its.toArray++its2.toArray=(its++its2).toArray:=by simp
 rw[ea];exact⟨.ref _,_,I.BK (t':=s.toks) (r.append r2) (by rw[List.length_append];omega),rfl,q _ I.fresh⟩
abbrev DD:R2:=fun x y H Q=>∃ l k xs,x=.ref l/\y=.int k/\H l=some (.lst xs)/\-(2 ^ 63)<=k/\k<2 ^ 63/\xs.length*k.toNat<=sizeLine /\
 ∀ p,H p=none->Q (.ref p) (upd H p (.lst (List.replicate k.toNat xs).flatten))
def len_rep(xs:List α)(k:Nat):(List.replicate k xs).flatten.length=k*xs.length:=by
 induction k with
 | zero=>simp
 | succ k ih=>rw[List.replicate_succ,List.flatten_cons,List.length_append,ih,Nat.succ_mul,Nat.add_comm]
def Bt:OpR X (binaryOp .Mult) DD:=by
 intro pins s σ H x y v u Q I rx ry h;obtain⟨l,k,xs,rfl,rfl,hH,h1,h2,hz,q⟩:=h;cases rx;obtain⟨t,rfl⟩:=ry;obtain⟨z,its,n,r,hl,e⟩:=I.nS hH
 have hlen:its.toArray.size*k.toNat<=sizeLine:=by rw[List.size_toArray,<-hl];exact hz
 have hcap:¬ its.toArray.size*k.toNat > (2 ^ 63-1) / 8:=by
  have:(sizeLine:Nat)<=(2 ^ 63-1) / 8:=by decide
  omega
 have hfit:¬ (!Builtin.List.listFitsIndex k)=true:=by
  rw[fitsIndex_both h1 h2];exact Bool.false_ne_true
 have hlong:¬ Builtin.List.listTooLong (its.toArray.size*k.toNat)=true:=by
  rw[vC hlen];exact Bool.false_ne_true
 have hnew:List.foldl (fun x1 x2=>x1++x2) #[] (List.replicate (if its.toArray.isEmpty=true then 0 else k.toNat) its.toArray)=(List.replicate k.toNat its).flatten.toArray:=by
  have f0:∀ m:Nat,List.foldl (fun x1 x2=>x1++x2) #[] (List.replicate m its.toArray)=(List.replicate m its).flatten.toArray:=fun m=>by
   have:=foldl_rep its m [];rw[List.nil_append]at this;exact this
  rw[f0]
  cases its with
  | nil=>simp
  | cons a r'=>rw[if_neg (by simp)]
 refine wpAny_binaryOp_repeat_ref (T := "list") (U := "int") (by decide) ⟨_,e,rfl⟩ (fun s'=>typeIs_int s' k t) noFill_list_mul F.fills_int_mul F.slot_int_rmul repeat_list F.slot_int_index.lookup
  (call_meets F.slot_int_rmul (typeIs_int s k t) F.entry_int_rmul (F.args_int_rmul_2 _ _) (int___rmul___int_list k t l its.toArray n)
   ⟨e,rfl,⟨_,e,rfl⟩,call_meets F.slot_list_mul ⟨_,e,rfl⟩ F.entry_list_mul (F.args_list_mul_2 _ _) (AutoListH.list___mul___list_int_3 l its.toArray n k t hfit hcap hlong) ⟨e,?_⟩⟩)
 rw[hnew];exact⟨.ref _,_,I.BK (t':=s.toks) (r.rep k.toNat) (by rw[len_rep,Nat.mul_comm];exact hz),rfl,q _ I.fresh⟩
end
section
variable{prog:Program}{w:World}{A:Around}{E:Value->Shared->Prop}{s:Shared}
end
section
variable{X:Cx}
end
section
variable{κ:Type} [DecidableEq κ]
abbrev jc(kvs:List (κ × V))(k:κ):Option V:=(kvs.find? fun kv=>decide (kv.1=k)).map (·.2)
abbrev putK(kvs:List (κ × V))(k:κ)(v:V):List (κ × V) :=
 if(kvs.any fun kv=>decide (kv.1=k))=true then kvs.map (fun kv=>if kv.1=k then(kv.1,v)else kv)else kvs++[(k,v)]
def mq{p:κ × V}{r:List (κ × V)}{k:κ}(e:p.1=k):jc (p::r) k=some p.2:=by simp[jc,List.find?_cons,e]
def nJ{p:κ × V}{r:List (κ × V)}{k:κ}(e:¬ p.1=k):jc (p::r) k=jc r k:=by simp[jc,List.find?_cons,e]
def nC(k:κ):∀ kvs:List (κ × V),(kvs.any fun kv=>decide (kv.1=k))=(jc kvs k).isSome
 | []=>rfl
 | p::r=>by
  rw[List.any_cons];by_cases e:p.1=k
  ·simp only[mq e,decide_eq_true e,Bool.true_or,Option.isSome_some]
  ·rw[nJ e,decide_eq_false e,Bool.false_or];exact nC k r
def iL(kvs:List (κ × V))(k:κ)(v:V):(putK kvs k v).length<=kvs.length+1:=by
 unfold putK;split
 ·rw[List.length_map];omega
 ·rw[List.length_append,List.length_cons,List.length_nil];omega
def iU.rS(r:iU o u):o.isSome=u.isSome:=by
 cases o with
 | none=>cases u with
  | none=>rfl
  | some _=>exact(show False from r).elim
 | some _=>cases u with
  | none=>exact(show False from r).elim
  | some _=>rfl
def KV.any(r:KV kvs vs)(k:κ):(kvs.any fun kv=>decide (kv.1=k))=vs.any fun kv=>decide (kv.1=k):=by
 unfold KV at r
 induction r with
 | nil=>rfl
 | cons h t ih=>rw[List.any_cons,List.any_cons,ih,h.1]
def KV.uo(r:KV kvs vs)(k:κ)(ry:RelV y u) :
  KV (kvs.map fun kv=>if kv.1=k then(kv.1,y)else kv) (vs.map fun kv=>if kv.1=k then(kv.1,u)else kv):=by
 unfold KV at r ⊢
 induction r with
 | nil=>exact .nil
 |@cons p q ps qs h t ih=>
  rw[List.map_cons,List.map_cons];refine .cons ?_ ih;obtain⟨h1,h2⟩:=h;by_cases e:p.1=k
  ·rw[if_pos e,if_pos (h1.symm.trans e)];exact⟨h1,ry⟩
  ·rw[if_neg e,if_neg (fun z=>e (h1.trans z))];exact⟨h1,h2⟩
def KV.put(r:KV kvs vs)(k:κ)(ry:RelV y u):KV (putK kvs k y) (stored vs k u):=by
 unfold putK stored;rw[r.any k];by_cases e:(vs.any fun kv=>decide (kv.1=k))=true
 ·rw[if_pos e,if_pos e];exact r.uo k ry
 ·rw[if_neg e,if_neg e];exact Paired.snoc r ⟨rfl,ry⟩
def KV.length(r:KV kvs vs):kvs.length=vs.length:=Paired.length r
end
def ql(r:RelV (kV k) u):(bB P w).is k u=true:=by
 cases k with
 | inl i=>obtain⟨t,e⟩:=(show ∃ t,u=Value.int i t from r);subst e;exact oy P w i t
 | inr x=>obtain⟨t,e⟩:=(show ∃ t,u=Value.str x t from r);subst e;exact o8 P w x t
def kQ:∀ {ks:List Key} {us:List Value},Vals (ks.map kV) us->ItemsAre (bB P w) ks us
 | [],_,r=>by rw[List.map_nil]at r;cases r;exact .nil
 | k::ks,_,r=>by
  rw[List.map_cons]at r
  cases r with
  | cons h t=>exact .cons (ql h) (kQ t)
@[reducible]noncomputable def KT(H:Hp):List (List Key × V)->List (List Key × Addr × Value)->Prop:=Paired fun p q=>p.1=q.1/\H q.2.1=some (.tup (p.1.map kV))/\RelV p.2 q.2.2
def KT.val{H:Hp}{kvs:List (List Key × V)}{xs:List (List Key × Addr × Value)}(r:KT H kvs xs)(k:List Key):iU (jc kvs k) ((atKey xs k).map (·.2)):=by
 induction r with
 | nil=>exact True.intro
 |@cons p q ps qs h t ih=>
  obtain⟨h1,_,h2⟩:=h;by_cases e:p.1=k
  ·have e':q.1=k:=h1.symm.trans e
   have b:atKey (q::qs) k=some q.2:=by simp[atKey,List.find?_cons,e']
   rw[mq e,b];exact h2
  ·have e':¬ q.1=k:=fun z=>e (h1.trans z)
   have b:atKey (q::qs) k=atKey qs k:=by simp[atKey,List.find?_cons,e']
   rw[nJ e,b];exact ih
def KT.uo(r:KT H kvs xs)(k:List Key)(ry:RelV y u) :
  KT H (kvs.map fun kv=>if kv.1=k then(kv.1,y)else kv) (xs.map (putAt k u)):=by
 induction r with
 | nil=>exact .nil
 |@cons p q ps qs h t ih=>
  rw[List.map_cons,List.map_cons];refine .cons ?_ ih;obtain⟨h1,h2,h3⟩:=h;unfold putAt;by_cases e:p.1=k
  ·rw[if_pos e,if_pos (h1.symm.trans e)];exact⟨h1,h2,ry⟩
  ·rw[if_neg e,if_neg (fun z=>e (h1.trans z))];exact⟨h1,h2,h3⟩
def KT.put(r:KT H kvs xs)(k:List Key)(hb:H b=some (.tup (k.map kV)))(ry:RelV y u) :
  KT H (putK kvs k y) (storedH xs k b u):=by
 have e:(kvs.any fun kv=>decide (kv.1=k))=(atKey xs k).isSome:=by
  rw[nC,(r.val k).rS,Option.isSome_map]
 unfold putK storedH;rw[e];by_cases q:(atKey xs k).isSome=true
 ·rw[if_pos q,if_pos q];exact r.uo k ry
 ·rw[if_neg q,if_neg q];exact Paired.snoc r ⟨rfl,hb,ry⟩
def KT.keeps(r:KT H kvs xs)(ht:∀ b ys,H b=some (.tup ys)->H' b=some (.tup ys)):KT H' kvs xs :=
 Paired.uA r fun _ _ z=>⟨z.1,ht _ _ z.2.1,z.2.2⟩
section
variable{P:Program}{w:World}{H:Hp}{h:Heap}{a:Addr}
def wG(ok:HOk P w H h)(e:Rd H a u):aU P w H h a u:=e.ok ok
def wc(ok:HOk P w H h)(e:Rd H a (.dK kvs)):kvs.length<=sizeLine/\(a == sysModules)=false/\∃ vs,KV kvs vs/\h.DictOf (bB P w) a vs :=
 show aU P w H h a (.dK kvs)from wG ok e
def C8(ok:HOk P w H h)(e:H a=some (.dK kvs)):kvs.length<=sizeLine/\(a == sysModules)=false/\∃ vs,KV kvs vs/\h.DictOf (bB P w) a vs:=wc ok (.inl e)
def tM(ok:HOk P w H h)(e:H a=some (.tup (ks.map kV))):(tupleKind (bB P w)).is h ks a:=by
 obtain⟨_,its,r,o,h1,h2,n,h3⟩:=(show aU P w H h a (.tup (ks.map kV))from ok a _ e)
 exact⟨o,its.toArray,n,h1,h2,h3,by simpa using kQ r⟩
def CA(ok:HOk P w H h)(e:Rd H a (.dT kvs)):kvs.length<=sizeLine/\(a == sysModules)=false /\
  ∃ xs,KT H kvs xs/\h.DictOfH (tupleKind (bB P w)) a xs:=by
 obtain⟨z,y,xs,r,o,es,ep,h1,h2,h3,h4,h5⟩:=(show aU P w H h a (.dT kvs)from wG ok e)
 refine⟨z,y,xs,r,o,es,ep,h1,h2,h3,h4,fun x hx=>?_,h5⟩
 have all:∀ {l:List (List Key × V)} {m:List (List Key × Addr × Value)},KT H l m->∀ x∈m,(tupleKind (bB P w)).is h x.1 x.2.1:=by
  intro l m q
  induction q with
  | nil=>intro x hx;exact nomatch hx
  |@cons p q ps qs hq t ih=>
   intro x hx;rcases List.mem_cons.mp hx with e | hx
   ·subst e;exact tM ok (by rw[<-hq.1];exact hq.2.1)
   ·exact ih x hx
 exact all r x hx
def wd(ok:HOk P w H h)(e:H a=some (.dT kvs)):kvs.length<=sizeLine/\(a == sysModules)=false /\
  ∃ xs,KT H kvs xs/\h.DictOfH (tupleKind (bB P w)) a xs:=CA ok (.inl e)
end
abbrev hJ(H:Hp)(a:Addr)(y v:V)(H':Hp):Prop :=
 (∃ kvs k,H a=some (.dK kvs)/\y=kV k/\kvs.length<sizeLine/\H'=upd H a (.dK (putK kvs k v))) \/
 ∃ kvs k b,H a=some (.dT kvs)/\y=.ref b/\H b=some (.tup (k.map kV))/\kvs.length<sizeLine/\H'=upd H a (.dT (putK kvs k v))
def hJ.k{H:Hp}{a:Addr}{kvs:List (Key × V)}{k:Key}{v:V}(e:H a=some (.dK kvs))(hl:kvs.length<sizeLine):hJ H a (kV k) v (upd H a (.dK (putK kvs k v))):=.inl ⟨kvs,k,e,rfl,hl,rfl⟩
def hJ.t{H:Hp}{a b:Addr}{kvs:List (List Key × V)}{k:List Key}{v:V}(e:H a=some (.dT kvs))(eb:H b=some (.tup (k.map kV)))(hl:kvs.length<sizeLine) :
  hJ H a (.ref b) v (upd H a (.dT (putK kvs k v))):=.inr ⟨kvs,k,b,e,rfl,eb,hl,rfl⟩
section
variable{X:Cx}{pins:List (Addr × Obj)}{σ:St}{H:Hp}{s:Shared}{a:Addr}{y v:V}{u r:Value}{o:Option V}{A:Around}{E:Value->Shared->Prop}
def Inv.big(I:Inv X pins σ H s):sysModules<s.heap.objs.size:=by
 have h:mainGlobals<s.heap.objs.size:=(I.mod.glob.keeps I.bk).lt;exact Nat.lt_trans (by decide) h
def pz(I:Inv X pins σ H s)(mu:Mut (H a))(hs:Heap.SameBut a s.heap h')(he:∃ q,h'.get? a=some q)(new:aU X.prog X.w (upd H a ob) h' a ob) :
  Inv X pins σ (upd H a ob) { s with heap:=h',toks:=t' } :=
 I.write (x:=a) (e:=a) mu (.inl rfl) (fun b q hb z=>(hs.2 b hb).trans z) he new
def yX(z:kvs.length<=sizeLine)(hd:(a == sysModules)=false)(rel:KV kvs vs)(dd:h'.DictOf (bB P w) a vs) :
  aU P w H' h' a (.dK kvs):=⟨z,hd,vs,rel,dd⟩
def tj(hu:A.units+1<cLine)(I:Inv X pins σ H s)(g:hJ H a y v H')(ry:RelV y u)(rv:RelV v r)(h:∀ s',Inv X pins σ H' s'->Q () s') :
  wpAny (model X.prog X.w) A (setItem (.ref a) u r) Q E s:=by
 rcases g with⟨kvs,k,e,ey,l,eH⟩ | ⟨kvs,k,b,e,ey,eb,l,eH⟩
 ·subst ey eH;obtain⟨z,hd,vs,rel,dd⟩:=C8 I.hok e
  have hz:vs.length<=sizeLine:=by rw[<-rel.length];exact z
  have hl:(putK kvs k v).length<=sizeLine:=by have:=iL kvs k v;omega
  refine wpAny_setItem_pairs (hsz:=hz) (ql ry) dd fun h' dd' hs=>h _ ?_;have he:∃ q,h'.get? a=some q:=let ⟨q,_,_,hq,_⟩:=dd';⟨q,hq⟩;exact pz I (by rw[e];exact True.intro) hs he (yX hl hd (rel.put k rv) dd')
 ·subst ey eH;cases(show u=Value.ref b from ry);obtain⟨z,hd,xs,rel,dd⟩:=wd I.hok e
  have hz:xs.length<=sizeLine:=by rw[<-Paired.length rel];exact z
  have hl:(putK kvs k v).length<=sizeLine:=by have:=iL kvs k v;omega
  refine wpAny_setItem_heap (hsz:=hz) (tupleKind_room_in1 hu) (tM I.hok eb) dd fun h' dd' hs=>h _ ?_;obtain⟨q,es,ep,hq,h2,h3,h4,_,h5⟩:=dd';refine pz I (by rw[e];exact True.intro) hs ⟨q,hq⟩ ⟨hl,hd,_,(rel.put k eb rv).keeps fun c ys ec=>?_,q,es,ep,hq,h2,h3,h4,h5⟩;rw[aw (i6 ec e (fun z=>nomatch z))];exact ec
end
section
variable{X:Cx}{pins:List (Addr × Obj)}{σ:St}{H:Hp}{s:Shared}{a:Addr}{kvs:List (Key × V)}{k:Key}{u:Value}{A:Around}{E:Value->Shared->Prop}
def CK(I:Inv X pins σ H s)(e:Rd H a (.dK kvs))(h:∀ t s',Inv X pins σ H s'->Q (.int kvs.length t) s'):wpAny (model X.prog X.w) A (call (.builtin "len") [.ref a]) Q E s:=by
 obtain⟨z,hd,vs,rel,dd⟩:=wc I.hok e;refine call_len_dict hd dd (by rw[<-rel.length];rw[sizeLine_eq]at z;omega) ?_;rw[<-rel.length];exact h _ _ (I.tok _)
end
abbrev pP(i:Expr):Prop:=∀ ov iv,subscripted i false ov iv=operate [ov,iv] (getItem ov iv)
def xS{prog:Program}{w:World}{A:Around}{E:Value->Shared->Prop}{s:Shared}{env:Env}{value slice:Expr}{pos:Pos}{T id:String}{Q:Value->Shared->Prop}
 (hl:typeLookup (.type T) "__getitem__" = pure (some (.builtin id)))(hs:pP slice)
 (h:wpAny (model prog w) A (eval value env) (fun o s₁=>wpAny (model prog w) A (eval slice env) (fun i s₂=>s₂.TypeIs o T/\wpAny (model prog w) A (getItem o i) Q E s₂) E s₁) E s) :
  wpAny (model prog w) A (eval (.Subscript value slice pos) env) Q E s:=by
 refine Subscript_ (wpAny_mono h (fun o s₁ h₁=>wpAny_mono h₁ (fun i s₂ h₂=>?_) fun _ _ x=>x) fun _ _ x=>x);obtain⟨hT,h₂⟩:=h₂;unfold subscriptTail;refine wpAny_bind ?_;rw[getitemInPython_of_ne hT.not_modules];refine wpAny_bind (wpAny_specialOf hT hl ?_)
 have fin:wpAny (model prog w) A (subscripted slice false o i) (fun r s₃=>wpAny (model prog w) A (letTemporaryGo value o r >>= fun _=>pure r) Q E s₃) E s₂:=by
  rw[hs o i];exact wpAny_operating (wpAny_mono h₂ (fun r s₃ h₃=>wpAny_bind (wpAny_letTemporaryGo (wpAny_pure h₃))) fun _ _ x=>x)
 first
  | exact wpAny_pure (wpAny_bind fin)
  | exact wpAny_bind (wpAny_pure (wpAny_bind fin))
  | exact wpAny_bind fin
abbrev qd(td ty tv:TE):TS:=fun D σ H=>tv σ H fun v H1=>td σ H1 fun x H2=>ty σ H2 fun y H3=>∃ a H4,x=.ref a/\hJ H3 a y v H4/\D.nx σ H4
section
variable{X:Cx}{o i e value:Expr}{pos pos' tpos:Pos}{td ty tv:TE}
def xn(hu:X.A.units+1<cLine)(ho:PE X o td)(hi:PE X i ty)(hv:PE X value tv)(hs:swapsWith value (some (.Subscript o i pos')) pos.line X.env=pure false) :
  PS X (.Assign [.Subscript o i pos'] value pos) (qd td ty tv):=by
 intro pins s σ H D I h;refine wpAny_Assign_Subscript (thn (hv pins s σ H _ I h) fun r s1 ⟨v,H1,I1,rv,q1⟩=>thn (ho pins s1 σ H1 _ I1 q1) fun u s2 ⟨x,H2,I2,rx,q2⟩=>thn (hi pins s2 σ H2 _ I2 q2) fun iv s3 ⟨y,H3,I3,ry,a,H4,ex,g,q3⟩=>?_) hs;subst ex;obtain rfl:u=Value.ref a:=rx
 exact tj hu I3 g ry rv fun s4 I4=>⟨σ,H4,I4,q3⟩
end
def vn(h:Heap)(hb:sysModules<h.objs.size):aU P w H (h.push { cls:=.type "dict",data:=.dict #[] }) h.objs.size (.dK []) :=
 ⟨Nat.zero_le _,beq_eq_false_iff_ne.mpr (Ne.symm (Nat.ne_of_lt hb)),[],.nil,Heap.DictOf.new h⟩
abbrev B2:TE:=fun _ H Q=>∀ p,H p=none->Q (.ref p) (upd H p (.dK []))
section
variable{X:Cx}{pos:Pos}
def mI:PE X (.Dict [] [] pos) B2:=fun pins s σ H Q I h =>
 wpAny_Dict_empty ⟨.ref s.heap.objs.size,_,I.laid (a:=s.heap.objs.size) (o:=.dK []) (t':=s.toks) (fun _ _ q=>Heap.get?_push_of_some _ q) (Nat.le_refl _) (vn s.heap I.big),rfl,h _ (I.hok.fresh (Nat.le_refl _))⟩
end
section
variable{X:Cx}{pins:List (Addr × Obj)}{σ:St}{H:Hp}{s:Shared}{a:Addr}{y d:V}{u r:Value}{o:Option V}{A:Around}{E:Value->Shared->Prop}
end
section
variable{X:Cx}{o e f:Expr}{apos cpos:Pos}{td ty tx:TE}
end
section
variable{X:Cx}{pins:List (Addr × Obj)}{σ:St}{H:Hp}{s:Shared}{a:Addr}{kvs:List (Key × V)}{A:Around}{E:Value->Shared->Prop}
end
section
variable{X:Cx}{pins:List (Addr × Obj)}{σ:St}{H:Hp}{s:Shared}{a:Addr}{y:V}{u:Value}{A:Around}{E:Value->Shared->Prop}
end
end L2
namespace Att
open PySem PySem.W PySem.Calls PyProof.Rows
def jK:∀ (ns:List Int) (vs:List Value),WellAll P h vs (ns.map WData.int)->IntsAre vs ns:=by
 intro ns
 induction ns with
 |nil=>
  intro vs w;rw[List.map_nil]at w;cases w;exact .nil
 |cons n ns ih=>
  intro vs w;rw[List.map_cons]at w
  cases w with
  |cons a b=>
   cases a;exact .cons _ _ (ih _ b)
def sI{l:OpenLaw}{n:Nat}(hn:l.most=some n){P:Params}{h:Heap}{args:List WData}{vals:List Value}
 (hpre:l.row.toRowW.claim.pre args=true)(hwl:WellAll P h vals args) :
  ∃ a vs ns,vals=[Value.ref a]/\args=[WData.list (ns.map WData.int)]/\h.get? a=some { cls:=.type "list",data:=.seq vs.toArray }/\IntsAre vs ns/\ns.length<=n:=by
 have hsh:WShape.hasAll [] args [.list .int]=true:=(pre_splitW hpre).1;have hc:l.pre.holds [] { args:=args }=true:=(pre_splitW hpre).2;obtain⟨d,r,rfl,h1,h2⟩:=hasAllW_cons hsh;obtain rfl:=hasAllW_nil h2;obtain⟨xs,rfl,h3⟩:=hasW_list h1;obtain⟨ns,rfl⟩:=items_int h3
 have hlen:ns.length<=n:=by
  unfold OpenLaw.pre at hc
  have h4:(WTm.not (.lt (.lit (.int (n:Int))) (.len (.arg 0)))).holds [] { args:=[.list (ns.map .int)] }=true:=by
   have h4:=(holds_andW hc).1;rw[hn]at h4;exact h4
  have h5:=condW_of h4 (w_not (w_lt w_lit (w_len_list (w_arg rfl))));rw[List.length_map]at h5;refine Nat.le_of_not_lt fun q=>?_
  have q':(n:Int)<((ns.length:Nat):Int):=by omega
  first
   | (rw[decide_eq_true q']at h5;exact absurd h5 (by decide))
   | (simp at h5;omega)
 cases hwl with
 |cons w1 w2=>
  cases w2
  cases w1 with
  | list ho hall=>exact⟨_,_,ns,rfl,rfl,ho,jK ns _ hall,hlen⟩
def tR(l:OpenLaw)(args:List WData):l.row.toRowW.claim.post args (.bool true) args=true :=
 postW_of (r:=l.row.toRowW) (X:=(true == true))
  (show WShape.has [] (.bool true) .bool=true by first | rfl | decide | simp[WShape.has,WShape.arms,WShape.armsAll])
  (show(WTm.eq .res (.lit (.bool true))).value [] { args:=args,res:=some (.bool true),after:=args }=some (.bool (true == true))from w_eq_bool (w_res rfl) w_lit) rfl
def oz{l:OpenLaw}{n:Nat}{q:Program}{loose:List Str}{XP:(Str->Option Value)->Heap->Prop}{YP:World->Heap->Prop}{d:DefRec}
 (hn:l.most=some n)(hdf:d.params.defaults=[])
 (call:∀ (w:World) (s₀ s₁:Shared) (mg mb:Str->Option Value) (fa:Addr) (o:Obj) (pm cd doc:Value) (a:Addr) (vs:List Value) (ns:List Int),
   Ground q loose [] XP w s₀ mg mb s₁.heap->YP w s₁.heap ->
   s₁.heap.get? fa=some o->o.data=.func (docDef d.name d.params d.body d.scope pm cd doc)->s₁.heap.CodeRec cd d.name->mg d.name=some (.ref fa) ->
   s₁.heap.get? a=some { cls:=.type "list",data:=.seq vs.toArray }->IntsAre vs ns->ns.length<=n->s₁.gens=#[] ->
   codeAny (model l.prog w) callerA (.call (.ref fa) ⟨[.ref a],[]⟩) (fun r s'=>r=.ok (.ret (.bool true))/\OldK s₁.heap s'.heap/\s'.os=s₁.os/\AllBare s'.gens) s₁) :
  WalkO q loose XP YP l.row.toRowW d [] (fun f vs=>PySem.call f vs):=by
 intro w s₀ s₁ mg mb G Y fa o pm cd doc dV kV ho hd hcd hD hmg hg args vals as hpre hlay hrd hwl hlo;obtain rfl:dV=.none:=Dflts.none hD hdf;obtain rfl:kV=.none:=Dflts.noKw hD;obtain⟨a,vs,ns,rfl,rfl,hobj,hints,hlen⟩:=sI hn hpre hwl;refine enter_call (codeAny_mono (call w s₀ s₁ mg mb fa o pm cd doc a vs ns G Y ho (fd_plain hd) hcd hmg hobj hints hlen hg) fun r s' hq=>?_);obtain⟨rfl,h2,h3,h4⟩:=hq;exact⟨.inl ⟨.bool true,.bool true,[],rfl,fun _=>rfl,.bool true,tR l _,fun _=>⟨List.Pairwise.nil,fun _ hm=>(nomatch hm)⟩⟩,h2,h3,h4⟩
section
variable{prog:Program}{w:World}{A:Around}{E:Value->Shared->Prop}{s:Shared}{K:Frag}
end
end Att
namespace L2
open PySem PySem.Spec PyProof.Rows
def kN:∀ {vs:List Value} {ns:List Int},IntsAre vs ns->Vals (ns.map V.int) vs
 | _,_,.nil=>.nil
 | _,_,.cons n t h=>.cons ⟨t,rfl⟩ (kN h)
abbrev nY(H:Hp):Prop:=∀ b,H b=none\/∃ o xs,H b=some (.frz o (.lst xs))
def ur{P:Program}{w:World}{K:PySem.W.Frag}{mg mb:Str->Option Value}{CX:CXT}{k:Nat}{fa a:Addr}{fd:FuncData}{x:Str}{sp:Sp}{s₁:Shared}{vs:List Value}{ns:List Int}
 (KX:K.In s₁.heap)(hns:s₁.heap.Ns mainGlobals mg)(hb:s₁.heap.Ns builtinsNs mb)(hbb:∀ x:Str,x ≠ "__name__" -> mb x=bootBuiltins x)(hlim:s₁.heap.NoLimit)(hg:s₁.gens=#[])
 (ha:s₁.heap.get? a=some { cls:=.type "list",data:=.seq vs.toArray })(hi:IntsAre vs ns)(hl:ns.length<=sizeLine)(hr:aT k callerA)
 (F:∀ base:Heap,K.In base->base.Ns mainGlobals mg->aR P w K mg base CX k fa fd [x] sp)(hbind:∀ (s:Shared) (u:Value),BindsTo s fd ⟨[u],[]⟩ [(x,u)])
 (hsp:∀ H:Hp,nY H->SqL K H a (ns.map V.int)->sp [.ref a] H (fun v _=>v=.bl true) fun _ _ _=>False)
 (hCX:∀ H e s',CX [] H s₁ (fun _ _ _=>False) e s'->False) :
  codeAny (model P w) callerA (.call (.ref fa) ⟨[.ref a],[]⟩) (fun r s'=>r=.ok (.ret (.bool true))/\OldK s₁.heap s'.heap/\s'.os=s₁.os/\AllBare s'.gens) s₁:=by
 have rv:=kN hi;have lenV:=hi.length
 have core:∀ H:Hp,nY H->SqL K H a (ns.map V.int)->HOk P w H s₁.heap->(∀ b,H b≠none->b=a)->(H a≠none->K.lookup a=none) ->
   codeAny (model P w) callerA (.call (.ref fa) ⟨[.ref a],[]⟩) (fun r s'=>r=.ok (.ret (.bool true))/\OldK s₁.heap s'.heap/\s'.os=s₁.os/\AllBare s'.gens) s₁:=by
  intro H hO hS hok hA hK;have base_of:∀ {b:Addr} {o:Obj},s₁.heap.get? b=some o->H b=none->(gI s₁.heap H).get? b=some o:=fun e n=>uU e n
  have noA:∀ {b:Addr} {o:Obj} {es:Array DictEntry} {ep:Nat},s₁.heap.get? b=some o->o.data=.dict es ep->H b=none:=fun {b o es ep} e d=>by
   cases q:H b with
   | none=>rfl
   |some u=>
    have e':b=a:=hA b (by rw[q];simp);subst e';rw[ha]at e;cases e;have d':Data.seq vs.toArray _=Data.dict es ep:=d;cases d'
  have nsK:∀ {b:Addr} {m:Str->Option Value},s₁.heap.Ns b m->(gI s₁.heap H).Ns b m:=fun {b m} ⟨o,es,ep,e,d,r⟩=>⟨o,es,ep,base_of e (noA e d),d,r⟩
  have hKb:K.In (gI s₁.heap H):=fun b o e=>base_of (KX b o e) (by
   cases q:H b with
   | none=>rfl
   |some u=>
    have e':b=a:=hA b (by rw[q];simp);subst e'
    rw[hK (by rw[q];simp)]at e;cases e)
  have hM:Mod K mg (gI s₁.heap H):=⟨hKb,nsK hns,⟨mb,nsK hb,hbb⟩,let ⟨mc,h1,h2⟩:=hlim;⟨mc,nsK h1,h2⟩⟩
  have e0:ic P w K mg (gI s₁.heap H) callerA [] s₁ H:=⟨rfl,hM,fun b o e=>xp e,Nat.le_of_eq (sR _ _),trivial,fun b hb=>absurd (show b∈([]:List Addr)from hb) (by simp),hok,.of_eq hg⟩
  refine codeAny_mono ((F _ hKb (nsK hns)).run callerA [] s₁ H ⟨[.ref a],[]⟩ [.ref a] [.ref a] _ _ hr e0 (hbind s₁ (.ref a)) (.cons rfl .nil) (hsp H hO hS)) fun r s' h=>?_
  cases r with
  | error e=>exact(hCX H e s' h).elim
  |ok fl=>
   cases fl with
   | next=>exact False.elim h
   | brk=>exact False.elim h
   | cont=>exact False.elim h
   |ret u=>
    obtain⟨v,H',os,bare,un,hok',r',q⟩:=h;have q':v=.bl true:=q;subst q';obtain rfl:u=Value.bool true:=r';refine⟨rfl,OldK.of_keep fun b o e=>?_,os,bare⟩
    cases q:H b with
    | none=>exact un.keep b o e q (by intro z;exact absurd (show b∈([]:List Addr)from z) (by simp)) (by simp)
    |some u=>
     rcases hO b with z | ⟨ob,xs,z⟩
     ·rw[q]at z;cases z
     ·have z2:=un.c9 b ob _ z;obtain⟨e1,_⟩:=hok b _ z;obtain⟨e2,_⟩:=hok' b _ z2;rw[e]at e1;cases e1;exact e2
 cases hk:K.lookup a with
 |some o=>
  have e:=KX a o hk;rw[ha]at e;cases e;refine core (fun _=>none) (fun _=>.inl rfl) (.inr ⟨_,vs.toArray,_,hk,rfl,rfl,rfl,by rw[List.size_toArray,lenV];exact hl,by simpa using rv⟩) (fun b u z=>by have z':(none:Option HO)=some u:=z;cases z') (fun b z=>absurd rfl z) fun z=>absurd rfl z
 |none=>
  refine core (fun b=>if b=a then some (.frz { cls:=.type "list",data:=.seq vs.toArray } (.lst (ns.map V.int)))else none) (fun b=>?_) (.inl (.inr ⟨{ cls:=.type "list",data:=.seq vs.toArray },if_pos rfl⟩)) (fun b u z=>?_) (fun b z=>?_) fun _=>hk
  ·by_cases hb:b=a
   ·exact .inr ⟨_,_,if_pos hb⟩
   ·exact .inl (if_neg hb)
  ·by_cases hb:b=a
   ·have z':=(if_pos hb).symm.trans z;cases z';subst hb;exact⟨ha,by rw[List.length_map];exact hl,vs,_,rv,ha⟩
   ·have z':=(if_neg hb).symm.trans z;cases z'
  ·by_cases hb:b=a
   ·exact hb
   ·exact absurd (if_neg hb) z
@[reducible]noncomputable def KOf{K:PySem.W.Frag}{h:Heap}(_:K.In h):PySem.W.Frag:=K
def pq{l:PySem.W.OpenLaw}{n k:Nat}{q:Program}{loose:List Str}{XP:(Str->Option Value)->Heap->Prop}{YP:World->Heap->Prop}{d:DefRec}{K:Params->PySem.W.Frag}{CX:World->CXT}{sp:World->Sp}{x:Str}
 (hn:l.most=some n)(hn2:n<=sizeLine)(hdf:d.params.defaults=[])(hr:aT k callerA)
 (hY:∀ (w:World) (h:Heap),YP w h->(K w.params).In h)
 (F:∀ (w:World) (mg:Str->Option Value) (fa:Addr) (h:Heap),(K w.params).In h->h.Ns mainGlobals mg->mg d.name=some (.ref fa) ->
   ∃ fd:FuncData,(∀ (s:Shared) (u:Value),BindsTo s fd ⟨[u],[]⟩ [(x,u)]) /\
    ∀ base:Heap,(K w.params).In base->base.Ns mainGlobals mg->aR l.prog w (K w.params) mg base (CX w) k fa fd [x] (sp w))
 (hsp:∀ (w:World) (H:Hp) (a:Addr) (ns:List Int),ns.length<=n->nY H->SqL (K w.params) H a (ns.map V.int)->sp w [.ref a] H (fun v _=>v=.bl true) fun _ _ _=>False)
 (hCX:∀ (w:World) (H:Hp) (s:Shared) (e:Value) (s':Shared),CX w [] H s (fun _ _ _=>False) e s'->False) :
  PySem.W.WalkO q loose XP YP l.row.toRowW d [] (fun f vs=>PySem.call f vs):=by
 refine Att.oz hn hdf fun w s₀ s₁ mg mb fa o pm cd doc a vs ns G Y ho hd hcd hmg hobj hints hlen hg=>?_;have KX:=hY w _ Y;obtain⟨fd,hb,hF⟩:=F w mg fa _ KX G.T.g hmg;exact ur KX G.T.g G.T.b G.T.builtins G.T.nolimit hg hobj hints (Nat.le_trans hlen hn2) hr hF hb (fun H hO hS=>hsp w H a ns hlen hO hS) fun H e s'=>hCX w H s₁ e s'
def vE{l:PySem.W.OpenLaw}{n k:Nat}{q:Program}{loose:List Str}{XP:(Str->Option Value)->Heap->Prop}{YP:World->Heap->Prop}{d:DefRec}{K:Params->PySem.W.Frag}{CX:CXT}{sp:PySem.W.Frag->Sp}{x:Str}
 (hn:l.most=some n)(hn2:n<=sizeLine)(hdf:d.params.defaults=[])(hr:aT k callerA)
 (hY:∀ (w:World) (h:Heap),YP w h->(K w.params).In h)
 (F:∀ (w:World) (mg:Str->Option Value) (fa:Addr) (h:Heap),(K w.params).In h->h.Ns mainGlobals mg->mg d.name=some (.ref fa) ->
   ∃ fd:FuncData,(∀ (s:Shared) (u:Value),BindsTo s fd ⟨[u],[]⟩ [(x,u)]) /\
    ∀ base:Heap,(K w.params).In base->base.Ns mainGlobals mg->aR l.prog w (K w.params) mg base CX k fa fd [x] (sp (K w.params)))
 (hsp:∀ (K:PySem.W.Frag) (H:Hp) (a:Addr) (ns:List Int),ns.length<=n->nY H->SqL K H a (ns.map V.int)->sp K [.ref a] H (fun v _=>v=.bl true) fun _ _ _=>False)
 (hCX:∀ (H:Hp) (s:Shared) (e:Value) (s':Shared),CX [] H s (fun _ _ _=>False) e s'->False) :
  PySem.W.WalkO q loose XP YP l.row.toRowW d [] (fun f vs=>PySem.call f vs) :=
 pq (K:=K) (CX:=fun _=>CX) (sp:=fun w=>sp (K w.params)) hn hn2 hdf hr hY F (fun w H a ns h1 h2 h3=>hsp (K w.params) H a ns h1 h2 h3) fun _ H s e s'=>hCX H s e s'
abbrev cU(s:Stmt):Arguments:=match s with
 | .FunctionDef _ a _ _ _ _ _ _ _ _=>a
 | _=>{ posonlyargs:=[],args:=[],vararg:=none,kwonlyargs:=[],kw_defaults:=[],kwarg:=none,defaults:=[] }
abbrev aZ(s:Stmt):List Stmt:=match s with
 | .FunctionDef _ _ b _ _ _ _ _ _ _=>b
 | _=>[]
abbrev aq(s:Stmt):Scope:=match s with
 | .FunctionDef _ _ _ _ _ _ sc _ _ _=>sc
 | _=>{ kind:=.function,names:=[],isGenerator:=false,isCoroutine:=false }
@[reducible]noncomputable def CX0:CXT:=fun _ _ _ _ _ _=>False
@[reducible]noncomputable def E0:XK:=fun _ _ _=>False
def jH:Passes CX0 X E0:=fun _ _ _ _ _ _ _ h=>h.elim
structure Fun(K:PySem.W.Frag)(x qual:Str)(st:Stmt)(f:Addr)(fd:FuncData):Prop where
 ex:∃ (oc:Value) (od:Option Addr) (kV doc pm:Value) (an:Option Addr) (cdv ct:Value) (osl:Array (Option Value)),
  fd=PySem.W.fnOf x qual (cU st) (aZ st) (aq st) .none kV doc pm an cdv ct/\K.lookup f=some ⟨oc,od,.func fd,osl⟩/\PySem.W.codeIn K cdv qual=true
 kp:PySem.W.keepIn K (.ref f)=true
section
variable{P:Program}{w:World}{K:PySem.W.Frag}{mg:Str->Option Value}{base:Heap}
def Fun.ok{x qual:Str}{st:Stmt}{f:Addr}{fd:FuncData}{N ps:List Str}{k:Nat}{sp:Sp}(F:Fun K x qual st f fd)(S:cx N ps (aq st))(len:∀ vs H Q E,sp vs H Q E->vs.length=ps.length)
 (hbody:∀ (cdv:Value) (A:Around) (outer:List Env) (s:Shared) (H:Hp) (vs:List V) (Q:VK) (E:XK),aT k (A.deeper (envOfC qual (aq st) s.heap.objs.size f cdv))->sp vs H Q E ->
   ∃ t,PSs (cM CX0 P w K mg base N qual (aq st) f cdv A outer s H E).nox (aZ st) t/\t { nx:=fun _ H'=>Q .non H',rt:=Q } (start N vs) H):aR P w K mg base CX0 (k+1) f fd ps sp:=by
 obtain⟨oc,od,kV,doc,pm,an,cdv,ct,osl,rfl,lk,hcd⟩:=F.ex;refine wb lk hcd S len fun A outer s H vs Q E hr hsp=>?_;obtain⟨t,h,q⟩:=hbody cdv A outer s H vs Q E hr hsp;exact⟨t,h.nox,q⟩
def Fun.binds{x qual:Str}{st:Stmt}{f:Addr}{fd:FuncData}{ps:List Str}(F:Fun K x qual st f fd)
 (h:∀ (kV doc pm:Value) (an:Option Addr) (cdv ct:Value) (us:List Value),us.length=ps.length->bindArgs (PySem.W.fnOf x qual (cU st) (aZ st) (aq st) .none kV doc pm an cdv ct) ⟨us,[]⟩=pure (ps.zip us)):Binds K fd ps []:=by
 obtain⟨oc,od,kV,doc,pm,an,cdv,ct,osl,rfl,lk,hcd⟩:=F.ex;exact .all (h kV doc pm an cdv ct)
def hZ{x qual:Str}{st:Stmt}{f:Addr}{oc:Value}{od an:Option Addr}{osl:Array (Option Value)}{kV doc pm cdv ct:Value}(l:K.lookup f=some ⟨oc,od,.func (PySem.W.fnOf x qual (cU st) (aZ st) (aq st) .none kV doc pm an cdv ct),osl⟩)
 (c:PySem.W.codeIn K cdv qual=true)(k:PySem.W.keepIn K (.ref f)=true):Fun K x qual st f (PySem.W.fnOf x qual (cU st) (aZ st) (aq st) .none kV doc pm an cdv ct):=⟨⟨oc,od,kV,doc,pm,an,cdv,ct,osl,rfl,l,c⟩,k⟩
end
def kL(h:n<=1000):n<sizeLine:=Nat.lt_of_le_of_lt h (by decide)
section
variable{X:Cx}
end
def dR{A B:Prop}(h:B):if false=true then A else B:=by
 rw[if_neg Bool.false_ne_true];exact h
def dF{A B:Prop}(h:A):if true=true then A else B:=by
 rw[if_pos rfl];exact h
abbrev aA(H H':Hp):Prop:=∀ b o,H b=some o->H' b=some o
def aA.refl(H:Hp):aA H H:=fun _ _ h=>h
def aA.trans(a:aA H H1)(b:aA H1 H2):aA H H2:=fun c o h=>b c o (a c o h)
def aA.free(e:aA H H')(h:H' l=Option.none):H l=Option.none:=by
 cases q:H l with
 | none=>rfl
 |some o=>
  rw[e l o q]at h;cases h
section
variable{X:Cx}
def sD:bx X (.builtin "len") (fun xs H Q=>∃ a kvs,xs=[V.ref a]/\H a=some (.dK kvs)/\Q (.int kvs.length) H):=by
 intro pins s σ H xs us Q I r h;obtain⟨a,kvs,rfl,ha,q⟩:=h;obtain⟨u,rfl,ru⟩:=vals1 r;cases ru
 exact CK I (.inl ha) fun t s' I'=>⟨.int kvs.length,H,I',⟨t,rfl⟩,q⟩
end
section
variable{κ:Type} [DecidableEq κ]
end
end L2
namespace RS
open PySem PySem.Spec PyProof.Rows L2
@[reducible]def VE:List Value:=[.type "ValueError",.type "Exception",.type "BaseException",.type "object"]
abbrev ck:List Str:=["RibbonError", "BadPegs", "BadFrame", "BadHalf", "BadHook", "BadName", "NoNumber", "NoFrame", "NoStack", "NoPlace", "Taken", "Full", "NothingThere", "BadTrade", "Hangs", "BadPage"]
abbrev nR(f:Option PySem.Builtin.ObjectAttr.Found):Bool:=match f with
 | some (.bind (.builtin a) (.builtin b))=>a == "getset_descriptor.__get__" && b == "object.__class__"
 | _=>false
abbrev jn(K:PySem.W.Frag)(C:Addr):Bool:=match K.lookup C with
 | some ⟨.type "type",_,.cls cd,sl⟩=>(match cd.mro,sl.toList with
  | .ref C'::bm,[_,_,_,_,some (.builtin n),_]=>C' == C&&n == "ValueError.__new__" && !cd.hasDel&&PySem.W.tailIn K VE bm
  | _,_=>false)
 | _=>false
def xU{K:PySem.W.Frag}(h:PySem.W.excIn K C VE "ValueError.__new__" = true):jn K C=true:=by
 unfold PySem.W.excIn at h;unfold jn;split at h
 ·rename_i ho;simp only[ho];split at h
  ·rename_i hm hs;simp only[hm,hs,Bool.and_eq_true]at h ⊢;exact h.1.1
  ·cases h
 ·cases h
abbrev mf(K:PySem.W.Frag)(C:Addr):Bool:=jn K C&&(PySem.W.findIn K (.ref C) "at" == some none&&PySem.W.hasDictIn K C)
abbrev fF(K:PySem.W.Frag)(x:Str)(C:Addr):Bool :=
 mf K C&&PySem.W.findIn K (.ref C) "__getattribute__" == some (some (.builtin "BaseException.__getattribute__"))&&PySem.W.findIn K (.ref C) "__getattr__" == some none&&nR (PySem.W.findObj K C none "__class__") &&
 PySem.W.mroIn K C (.type "object") == some true&&PySem.W.subIn K (.ref C) (.type "BaseException") == some true&&(PySem.W.clsIn K C).isSome&&PySem.W.kitOne K (.ref C) (.type "ValueError") == some true &&
 ck.all fun c=>match PySem.W.nsIn K mainGlobals c with
  | some (some (.ref D))=>PySem.W.kitOne K (.ref C) (.ref D) == some (RL.c8 x c)&&PySem.W.subIn K (.ref C) (.ref D) == some (RL.c8 x c)
  | _=>true
structure Cls(K:PySem.W.Frag)(x:Str)(C:Addr):Prop where
 ns:PySem.W.nsIn K mainGlobals x=some (some (.ref C))
 ok:fF K x C=true
section
variable{K:PySem.W.Frag}
def Cls.exc(h:Cls K x C):mf K C=true:=by
 have:=h.ok;simp only[fF,Bool.and_eq_true]at this;exact this.1.1.1.1.1.1.1.1
def Cls.ref(h:Cls K x C)(hc:c∈ck)(hD:PySem.W.nsIn K mainGlobals c=some (some (.ref D))):PySem.W.kitOne K (.ref C) (.ref D)=some (RL.c8 x c)/\PySem.W.subIn K (.ref C) (.ref D)=some (RL.c8 x c):=by
 have:=h.ok;simp only[fF,Bool.and_eq_true]at this;have q:=List.all_eq_true.mp this.2 c hc;rw[hD]at q;simp only[Bool.and_eq_true,beq_iff_eq]at q;exact q
def Cls.val(h:Cls K x C):PySem.W.kitOne K (.ref C) (.type "ValueError")=some true:=by
 have:=h.ok;simp only[fF,Bool.and_eq_true,beq_iff_eq]at this;exact this.1.2
end
structure bD(K:PySem.W.Frag)(x:Str)(C:Addr)(c:Str):Prop where
 ex:∃ D b,PySem.W.nsIn K mainGlobals c=some (some (.ref D))/\PySem.W.kitOne K (.ref C) (.ref D)=some b/\PySem.W.subIn K (.ref C) (.ref D)=some b/\RL.c8 x c=b
def zq{K:PySem.W.Frag}(n:PySem.W.nsIn K mainGlobals c=some (some (.ref D)))(k:PySem.W.kitOne K (.ref C) (.ref D)=some b)(s:PySem.W.subIn K (.ref C) (.ref D)=some b)(e:RL.c8 x c=b):bD K x C c:=⟨D,b,n,k,s,e⟩
structure Ao(K:PySem.W.Frag)(x:Str)(C:Addr):Prop where
 a1:jn K C=true
 a10:PySem.W.findIn K (.ref C) "at" = some none
 a11:PySem.W.hasDictIn K C=true
 a2:PySem.W.findIn K (.ref C) "__getattribute__" = some (some (.builtin "BaseException.__getattribute__"))
 a3:PySem.W.findIn K (.ref C) "__getattr__" = some none
 a4:PySem.W.findIn K (.ref C) "__class__" = some (some (.builtin "object.__class__"))
 a5:PySem.W.specialIn K (.builtin "object.__class__") "__get__" = some (some (.builtin "getset_descriptor.__get__"))
 a6:PySem.W.takesIn K (.builtin "object.__class__")=some true
 a7:PySem.W.mroIn K C (.type "object")=some true
 a8:PySem.W.subIn K (.ref C) (.type "BaseException")=some true
 a9:PySem.W.kitOne K (.ref C) (.type "ValueError")=some true
 b1:bD K x C "RibbonError"
 b2:bD K x C "BadPegs"
 b3:bD K x C "BadFrame"
 b4:bD K x C "BadHalf"
 b5:bD K x C "BadHook"
 b6:bD K x C "BadName"
 b7:bD K x C "NoNumber"
 b8:bD K x C "NoFrame"
 b9:bD K x C "NoStack"
 b10:bD K x C "NoPlace"
 b11:bD K x C "Taken"
 b12:bD K x C "Full"
 b13:bD K x C "NothingThere"
 b14:bD K x C "BadTrade"
 b15:bD K x C "Hangs"
 b16:bD K x C "BadPage"
def By{K:PySem.W.Frag}(h:Ao K x C):fF K x C=true:=by
 obtain⟨cd,ec,_⟩:=Option.bind_eq_some_iff.mp h.a7
 have fo:nR (PySem.W.findObj K C none "__class__")=true:=by
  unfold PySem.W.findObj;rw[ec,Option.bind_some,h.a4,Option.bind_some];dsimp only;rw[h.a5,Option.bind_some];dsimp only;rw[h.a6,Option.bind_some];rfl
 have one:∀ {c:Str},bD K x C c->(match PySem.W.nsIn K mainGlobals c with
  | some (some (.ref D))=>PySem.W.kitOne K (.ref C) (.ref D) == some (RL.c8 x c)&&PySem.W.subIn K (.ref C) (.ref D) == some (RL.c8 x c)
  | _=>true)=true:=fun⟨D,b,e1,e2,e3,e4⟩=>by
  rw[e1];dsimp only;rw[e2,e3,e4,beq_self_eq_true];rfl
 unfold fF mf;rw[h.a1,h.a10,h.a11,h.a2,h.a3,fo,h.a7,h.a8,ec,h.a9];simp only[beq_self_eq_true,Option.isSome_some,Bool.and_self,Bool.true_and];rw[List.all_eq_true];intro c hc;simp only[ck,List.mem_cons,List.mem_nil_iff,or_false]at hc;rcases hc with rfl | rfl | rfl | rfl | rfl | rfl | rfl | rfl | rfl | rfl | rfl | rfl | rfl | rfl | rfl | rfl
 ·exact one h.b1
 ·exact one h.b2
 ·exact one h.b3
 ·exact one h.b4
 ·exact one h.b5
 ·exact one h.b6
 ·exact one h.b7
 ·exact one h.b8
 ·exact one h.b9
 ·exact one h.b10
 ·exact one h.b11
 ·exact one h.b12
 ·exact one h.b13
 ·exact one h.b14
 ·exact one h.b15
 ·exact one h.b16
abbrev nP:Addr->Prop:=fun _=>False
abbrev h8(K:PySem.W.Frag)(H:Hp)(a:Addr)(xs:List V):Prop:=(∃ o,H a=some (.frz o (.lst xs)))\/SqL K (fun _=>none) a xs
def h8.seq{K:PySem.W.Frag}(h:h8 K H a xs):SqL K H a xs:=by
 rcases h with⟨o,h⟩ | (h | ⟨o,h⟩) | h
 ·exact .inl (.inr ⟨o,h⟩)
 ·cases h
 ·cases h
 ·exact .inr h
def h8.same{K:PySem.W.Frag}(e:aA H H')(h:h8 K H a xs):h8 K H' a xs:=by
 rcases h with⟨o,h⟩ | h
 ·exact .inl ⟨o,e _ _ h⟩
 ·exact .inr h
abbrev gy(H:Hp)(f:Option Nat)(od:Option Addr):Prop:=match f with
 | none=>od=none
 | some k=>∃ n u hh tk tk',od=some n/\H n=some (.frz { cls:=.type "dict",data:=.dict #[⟨hh,.str "at" tk,.int k tk'⟩] 1 } u)
def gy.keep(h:gy H f od)(k:∀ b o u,H b=some (.frz o u)->H' b=some (.frz o u)):gy H' f od:=by
 cases f with
 | none=>exact h
 | some m=>exact let ⟨n,u,hh,tk,tk',h1,h2⟩:=h;⟨n,u,hh,tk,tk',h1,k _ _ _ h2⟩
abbrev ExV(K:PySem.W.Frag)(H:Hp)(c:Str)(v:V):Prop:=∃ a o u D vs,v=.ref a/\H a=some (.frz o u)/\(o.cls=.ref D/\gy H (RL.fM c) o.dict)/\o.data=.fields vs/\vs[2]?=some .none/\Cls K (RL.baseOf c) D
def ExV.keep{K:PySem.W.Frag}(h:ExV K H c v)(k:∀ b o u,H b=some (.frz o u)->H' b=some (.frz o u)):ExV K H' c v :=
 let ⟨a,o,u,D,vs,h1,h2,h3,r⟩:=h;⟨a,o,u,D,vs,h1,k _ _ _ h2,⟨h3.1,h3.2.keep k⟩,r⟩
mutual
noncomputable def Rep(P:Addr->Prop)(K:PySem.W.Frag)(H:Hp):RL.D->V->Prop
 | .non,v=>v=.non
 | .bl b,v=>v=.bl b
 | .int i,v=>v=.int i
 | .str x,v=>v=.str x
 | .tup ds,v=>∃ a xs,v=.ref a/\H a=some (.tup xs)/\ag P K H ds xs
 | .lst ds,v=>∃ a xs,v=.ref a/\¬ P a/\H a=some (.lst xs)/\ag P K H ds xs
 | .dK ks ds,v=>∃ a xs,v=.ref a/\¬ P a/\H a=some (.dK (ks.zip xs))/\ks.length=ds.length/\ag P K H ds xs
 | .dT ks ds,v=>∃ a xs,v=.ref a/\¬ P a/\H a=some (.dT (ks.zip xs))/\ks.length=ds.length/\ag P K H ds xs
 | .scr ds,v=>∃ a xs,v=.ref a/\h8 K H a xs/\ag P K H ds xs
 | .exc c,v=>ExV K H c v
 | .obj,v=>∃ a,v=.ref a
 | .fT ks ds,v=>∃ a o xs,v=.ref a/\H a=some (.frz o (.dT (ks.zip xs)))/\ks.length=ds.length/\ag P K H ds xs
 | .fL ds,v=>∃ a o xs,v=.ref a/\H a=some (.frz o (.lst xs))/\ag P K H ds xs
noncomputable def ag(P:Addr->Prop)(K:PySem.W.Frag)(H:Hp):List RL.D->List V->Prop
 | [],xs=>xs=[]
 | d::r,xs=>∃ x t,xs=x::t/\Rep P K H d x/\ag P K H r t
end
mutual
theorem Rep.same{P:Addr->Prop}{K:PySem.W.Frag}{H H':Hp}(e:aA H H'):∀ {d:RL.D} {v:V},Rep P K H d v->Rep P K H' d v
 | .non,v,h=>by simpa[Rep]using h
 | .bl _,v,h=>by simpa[Rep]using h
 | .int _,v,h=>by simpa[Rep]using h
 | .str _,v,h=>by simpa[Rep]using h
 | .tup ds,v,h=>by
  rw[Rep]at h ⊢;obtain⟨a,xs,e1,e2,e3⟩:=h;exact⟨a,xs,e1,e _ _ e2,ag.same e e3⟩
 | .lst ds,v,h=>by
  rw[Rep]at h ⊢;obtain⟨a,xs,e1,e0,e2,e3⟩:=h;exact⟨a,xs,e1,e0,e _ _ e2,ag.same e e3⟩
 | .dK ks ds,v,h=>by
  rw[Rep]at h ⊢;obtain⟨a,xs,e1,e0,e2,el,e3⟩:=h;exact⟨a,xs,e1,e0,e _ _ e2,el,ag.same e e3⟩
 | .dT ks ds,v,h=>by
  rw[Rep]at h ⊢;obtain⟨a,xs,e1,e0,e2,el,e3⟩:=h;exact⟨a,xs,e1,e0,e _ _ e2,el,ag.same e e3⟩
 | .scr ds,v,h=>by
  rw[Rep]at h ⊢;obtain⟨a,xs,e1,e2,e3⟩:=h;exact⟨a,xs,e1,h8.same e e2,ag.same e e3⟩
 | .exc c,v,h=>by rw[Rep]at h ⊢;exact h.keep fun _ _ _ q=>e _ _ q
 | .obj,v,h=>by rw[Rep]at h ⊢;exact h
 | .fT ks ds,v,h=>by rw[Rep]at h ⊢;obtain⟨a,o,xs,e1,e2,el,e3⟩:=h;exact⟨a,o,xs,e1,e _ _ e2,el,ag.same e e3⟩
 | .fL ds,v,h=>by rw[Rep]at h ⊢;obtain⟨a,o,xs,e1,e2,e3⟩:=h;exact⟨a,o,xs,e1,e _ _ e2,ag.same e e3⟩
theorem ag.same{P:Addr->Prop}{K:PySem.W.Frag}{H H':Hp}(e:aA H H'):∀ {ds:List RL.D} {xs:List V},ag P K H ds xs->ag P K H' ds xs
 | [],xs,h=>by rw[ag]at h ⊢;exact h
 | d::r,xs,h=>by
  rw[ag]at h ⊢;obtain⟨x,t,e1,e2,e3⟩:=h;exact⟨x,t,e1,Rep.same e e2,ag.same e e3⟩
end
mutual
theorem Rep.weak{P P':Addr->Prop}{K:PySem.W.Frag}{H:Hp}(e:∀ a,P' a->P a):∀ {d:RL.D} {v:V},Rep P K H d v->Rep P' K H d v
 | .non,v,h=>by simpa[Rep]using h
 | .bl _,v,h=>by simpa[Rep]using h
 | .int _,v,h=>by simpa[Rep]using h
 | .str _,v,h=>by simpa[Rep]using h
 | .tup ds,v,h=>by
  rw[Rep]at h ⊢;obtain⟨a,xs,e1,e2,e3⟩:=h;exact⟨a,xs,e1,e2,ag.weak e e3⟩
 | .lst ds,v,h=>by
  rw[Rep]at h ⊢;obtain⟨a,xs,e1,e0,e2,e3⟩:=h;exact⟨a,xs,e1,fun z=>e0 (e a z),e2,ag.weak e e3⟩
 | .dK ks ds,v,h=>by
  rw[Rep]at h ⊢;obtain⟨a,xs,e1,e0,e2,el,e3⟩:=h;exact⟨a,xs,e1,fun z=>e0 (e a z),e2,el,ag.weak e e3⟩
 | .dT ks ds,v,h=>by
  rw[Rep]at h ⊢;obtain⟨a,xs,e1,e0,e2,el,e3⟩:=h;exact⟨a,xs,e1,fun z=>e0 (e a z),e2,el,ag.weak e e3⟩
 | .scr ds,v,h=>by
  rw[Rep]at h ⊢;obtain⟨a,xs,e1,e2,e3⟩:=h;exact⟨a,xs,e1,e2,ag.weak e e3⟩
 | .exc c,v,h=>by rw[Rep]at h ⊢;exact h
 | .obj,v,h=>by rw[Rep]at h ⊢;exact h
 | .fT ks ds,v,h=>by rw[Rep]at h ⊢;obtain⟨a,o,xs,e1,e2,el,e3⟩:=h;exact⟨a,o,xs,e1,e2,el,ag.weak e e3⟩
 | .fL ds,v,h=>by rw[Rep]at h ⊢;obtain⟨a,o,xs,e1,e2,e3⟩:=h;exact⟨a,o,xs,e1,e2,ag.weak e e3⟩
theorem ag.weak{P P':Addr->Prop}{K:PySem.W.Frag}{H:Hp}(e:∀ a,P' a->P a):∀ {ds:List RL.D} {xs:List V},ag P K H ds xs->ag P' K H ds xs
 | [],xs,h=>by rw[ag]at h ⊢;exact h
 | d::r,xs,h=>by
  rw[ag]at h ⊢;obtain⟨x,t,e1,e2,e3⟩:=h;exact⟨x,t,e1,Rep.weak e e2,ag.weak e e3⟩
end
def Rep.none{P:Addr->Prop}{K:PySem.W.Frag}(h:Rep P K H d v):Rep nP K H d v:=h.weak fun _ z=>z.elim
mutual
theorem Rep.imm{P P':Addr->Prop}{K:PySem.W.Frag}{H:Hp}:∀ {d:RL.D} {v:V},d.imm=true->Rep P K H d v->Rep P' K H d v
 | .non,v,_,h=>by simpa[Rep]using h
 | .bl _,v,_,h=>by simpa[Rep]using h
 | .int _,v,_,h=>by simpa[Rep]using h
 | .str _,v,_,h=>by simpa[Rep]using h
 | .tup ds,v,i,h=>by
  rw[Rep]at h ⊢;rw[RL.D.imm]at i;obtain⟨a,xs,e1,e2,e3⟩:=h;exact⟨a,xs,e1,e2,ag.imm i e3⟩
 | .lst ds,v,i,h=>by rw[RL.D.imm]at i;cases i
 | .dK ks ds,v,i,h=>by rw[RL.D.imm]at i;cases i
 | .dT ks ds,v,i,h=>by rw[RL.D.imm]at i;cases i
 | .scr ds,v,i,h=>by
  rw[Rep]at h ⊢;rw[RL.D.imm]at i;obtain⟨a,xs,e1,e2,e3⟩:=h;exact⟨a,xs,e1,e2,ag.imm i e3⟩
 | .exc c,v,i,h=>by rw[Rep]at h ⊢;exact h
 | .obj,v,i,h=>by rw[Rep]at h ⊢;exact h
 | .fT ks ds,v,i,h=>by rw[Rep]at h ⊢;rw[RL.D.imm]at i;obtain⟨a,o,xs,e1,e2,el,e3⟩:=h;exact⟨a,o,xs,e1,e2,el,ag.imm i e3⟩
 | .fL ds,v,i,h=>by rw[Rep]at h ⊢;rw[RL.D.imm]at i;obtain⟨a,o,xs,e1,e2,e3⟩:=h;exact⟨a,o,xs,e1,e2,ag.imm i e3⟩
theorem ag.imm{P P':Addr->Prop}{K:PySem.W.Frag}{H:Hp}:∀ {ds:List RL.D} {xs:List V},RL.ar ds=true->ag P K H ds xs->ag P' K H ds xs
 | [],xs,_,h=>by rw[ag]at h ⊢;exact h
 | d::r,xs,i,h=>by
  rw[ag]at h ⊢;rw[RL.ar,Bool.and_eq_true]at i;obtain⟨x,t,e1,e2,e3⟩:=h;exact⟨x,t,e1,Rep.imm i.1 e2,ag.imm i.2 e3⟩
end
abbrev cw(o:HO):Prop:=(∃ xs,o=.lst xs)\/(∃ kvs,o=.dK kvs)\/(∃ kvs,o=.dT kvs)
mutual
theorem Rep.upd{P:Addr->Prop}{K:PySem.W.Frag}{H:Hp}{a:Addr}{o o':HO}(ha:H a=some o)(m:cw o)(p:P a):∀ {d:RL.D} {v:V},Rep P K H d v->Rep P K (upd H a o') d v
 | .non,v,h=>by simpa[Rep]using h
 | .bl _,v,h=>by simpa[Rep]using h
 | .int _,v,h=>by simpa[Rep]using h
 | .str _,v,h=>by simpa[Rep]using h
 | .tup ds,v,h=>by
  rw[Rep]at h ⊢;obtain⟨b,xs,e1,e2,e3⟩:=h;have n:b≠a:=i6 e2 ha (by rcases m with⟨z,rfl⟩ | ⟨z,rfl⟩ | ⟨z,rfl⟩<;>(intro q;cases q));exact⟨b,xs,e1,by rw[L2.aw n];exact e2,ag.upd ha m p e3⟩
 | .lst ds,v,h=>by
  rw[Rep]at h ⊢;obtain⟨b,xs,e1,e0,e2,e3⟩:=h;have n:b≠a:=fun z=>e0 (z▸p);exact⟨b,xs,e1,e0,by rw[L2.aw n];exact e2,ag.upd ha m p e3⟩
 | .dK ks ds,v,h=>by
  rw[Rep]at h ⊢;obtain⟨b,xs,e1,e0,e2,el,e3⟩:=h;have n:b≠a:=fun z=>e0 (z▸p);exact⟨b,xs,e1,e0,by rw[L2.aw n];exact e2,el,ag.upd ha m p e3⟩
 | .dT ks ds,v,h=>by
  rw[Rep]at h ⊢;obtain⟨b,xs,e1,e0,e2,el,e3⟩:=h;have n:b≠a:=fun z=>e0 (z▸p);exact⟨b,xs,e1,e0,by rw[L2.aw n];exact e2,el,ag.upd ha m p e3⟩
 | .scr ds,v,h=>by
  rw[Rep]at h ⊢;obtain⟨b,xs,e1,e2,e3⟩:=h;refine⟨b,xs,e1,?_,ag.upd ha m p e3⟩;rcases e2 with⟨q,e2⟩ | e2
  ·have n:b≠a:=i6 e2 ha (by rcases m with⟨z,rfl⟩ | ⟨z,rfl⟩ | ⟨z,rfl⟩<;>(intro q;cases q));exact .inl ⟨q,by rw[L2.aw n];exact e2⟩
  ·exact .inr e2
 | .obj,v,h=>by rw[Rep]at h ⊢;exact h
 | .exc c,v,h=>by
  rw[Rep]at h ⊢;refine h.keep fun b ob u q=>?_;have n:b≠a:=i6 q ha (by rcases m with⟨z,rfl⟩ | ⟨z,rfl⟩ | ⟨z,rfl⟩<;>(intro q;cases q));rw[L2.aw n];exact q
 | .fT ks ds,v,h=>by
  rw[Rep]at h ⊢;obtain⟨b,ob,xs,e1,e2,el,e3⟩:=h;have n:b≠a:=i6 e2 ha (by rcases m with⟨z,rfl⟩ | ⟨z,rfl⟩ | ⟨z,rfl⟩<;>(intro q;cases q));exact⟨b,ob,xs,e1,by rw[L2.aw n];exact e2,el,ag.upd ha m p e3⟩
 | .fL ds,v,h=>by
  rw[Rep]at h ⊢;obtain⟨b,ob,xs,e1,e2,e3⟩:=h;have n:b≠a:=i6 e2 ha (by rcases m with⟨z,rfl⟩ | ⟨z,rfl⟩ | ⟨z,rfl⟩<;>(intro q;cases q));exact⟨b,ob,xs,e1,by rw[L2.aw n];exact e2,ag.upd ha m p e3⟩
theorem ag.upd{P:Addr->Prop}{K:PySem.W.Frag}{H:Hp}{a:Addr}{o o':HO}(ha:H a=some o)(m:cw o)(p:P a):∀ {ds:List RL.D} {xs:List V},ag P K H ds xs->ag P K (upd H a o') ds xs
 | [],xs,h=>by rw[ag]at h ⊢;exact h
 | d::r,xs,h=>by
  rw[ag]at h ⊢;obtain⟨x,t,e1,e2,e3⟩:=h;exact⟨x,t,e1,Rep.upd ha m p e2,ag.upd ha m p e3⟩
end
section lists
variable{K:PySem.W.Frag}
def ag.nil:ag P K H [] []:=by rw[ag]
def ag.cons{d:RL.D}{ds:List RL.D}{x:V}{xs:List V}(h:Rep P K H d x)(t:ag P K H ds xs):ag P K H (d::ds) (x::xs):=by rw[ag];exact⟨x,xs,rfl,h,t⟩
def ag.length:∀ {ds:List RL.D} {xs:List V},ag P K H ds xs->ds.length=xs.length
 | [],xs,h=>by rw[ag]at h;rw[h];rfl
 | d::r,xs,h=>by
  rw[ag]at h;obtain⟨x,t,rfl,_,e3⟩:=h;rw[List.length_cons,List.length_cons,ag.length e3]
def ag.append:∀ {ds es:List RL.D} {xs ys:List V},ag P K H ds xs->ag P K H es ys->ag P K H (ds++es) (xs++ys)
 | [],_,xs,_,h,k=>by rw[ag]at h;rw[h];exact k
 | d::r,_,xs,_,h,k=>by
  rw[ag]at h;obtain⟨x,t,rfl,e2,e3⟩:=h;exact ag.cons e2 (ag.append e3 k)
def ag.get:∀ {ds:List RL.D} {xs:List V} {i:Nat} {d:RL.D},ag P K H ds xs->ds[i]?=some d->∃ x,xs[i]?=some x/\Rep P K H d x
 | [],_,i,d,_,e=>by simp at e
 | d::r,xs,0,d',h,e=>by
  rw[ag]at h;obtain⟨x,t,rfl,e2,_⟩:=h;simp at e;subst e;exact⟨x,rfl,e2⟩
 | d::r,xs,i+1,d',h,e=>by
  rw[ag]at h;obtain⟨x,t,rfl,_,e3⟩:=h;obtain⟨y,h1,h2⟩:=ag.get (i:=i) e3 (by simpa using e);exact⟨y,by simpa using h1,h2⟩
def ag.set:∀ {ds:List RL.D} {xs:List V} (i:Nat) {d:RL.D} {x:V},ag P K H ds xs->Rep P K H d x->ag P K H (ds.set i d) (xs.set i x)
 | [],xs,_,_,_,h,_=>by rw[ag]at h;rw[h];exact ag.nil
 | d::r,xs,0,_,_,h,k=>by
  rw[ag]at h;obtain⟨x,t,rfl,_,e3⟩:=h;exact ag.cons k e3
 | d::r,xs,i+1,_,_,h,k=>by
  rw[ag]at h;obtain⟨x,t,rfl,e2,e3⟩:=h;exact ag.cons e2 (ag.set i e3 k)
def ag.take:∀ {ds:List RL.D} {xs:List V} (n:Nat),ag P K H ds xs->ag P K H (ds.take n) (xs.take n)
 | _,_,0,_=>by simpa using ag.nil
 | [],xs,n+1,h=>by rw[ag]at h;rw[h];simpa using ag.nil
 | d::r,xs,n+1,h=>by
  rw[ag]at h;obtain⟨x,t,rfl,e2,e3⟩:=h;exact ag.cons e2 (ag.take n e3)
def ag.rep(h:ag P K H ds xs):∀ n:Nat,ag P K H (List.replicate n ds).flatten (List.replicate n xs).flatten
 | 0=>ag.nil
 | n+1=>by
  rw[List.replicate_succ,List.replicate_succ,List.flatten_cons,List.flatten_cons];exact ag.append h (ag.rep h n)
end lists
abbrev RV0(K:PySem.W.Frag)(σD:RL.St)(σ:L2.St)(H:Hp):Prop:=σD.length<=σ.length/\∀ (i:Nat) (d:RL.D),σD[i]?=some (some d)->∃ v,σ[i]?=some (some v)/\Rep nP K H d v
def RV0.same{K:PySem.W.Frag}(h:RV0 K σD σ H)(e:aA H H'):RV0 K σD σ H':=⟨h.1,fun i d q=>by
 obtain⟨v,h1,h2⟩:=h.2 i d q
 exact⟨v,h1,h2.same e⟩⟩
abbrev k7:RL.D->Bool
 | .lst _=>true
 | .dK _ _=>true
 | .dT _ _=>true
 | _=>false
structure Res(K:PySem.W.Frag)(σD:RL.St)(σ:L2.St)(H:Hp)(e:RL.E)(d:RL.D)(v:V)(H':Hp):Prop where
 same:aA H H'
 rep:Rep nP K H' d v
 fresh:RL.aI e=true->k7 d=true->∀ a,v=.ref a->H a=none
 av:∀ M,RL.avE M e=true->∀ P:Addr->Prop,(∀ a,P a->H a≠none)->(∀ (j:Nat) (dj:RL.D) (vj:V),M.contains j=false->σD[j]?=some (some dj)->σ[j]?=some (some vj)->Rep P K H dj vj)->Rep P K H' d v
abbrev tE(K:PySem.W.Frag)(cl:RL.Cl)(e:RL.E):TE:=fun σ H Q=>∃ σD d,RV0 K σD σ H/\RL.ev cl σD e=some d/\∀ v H',Res K σD σ H e d v H'->Q v H'
abbrev SE(X:Cx)(cl:RL.Cl)(e:Expr)(e':RL.E):Prop:=PE X e (tE X.K cl e')
def PE.weak(h:PE X e t)(w:∀ σ H Q,t' σ H Q->t σ H Q):PE X e t':=fun pins s σ H Q I q=>h pins s σ H Q I (w σ H Q q)
abbrev tEs(K:PySem.W.Frag)(cl:RL.Cl)(es:RL.Es):TA:=fun σ H Q=>∃ σD ds,RV0 K σD σ H/\RL.evs cl σD es=some ds/\∀ vs H',aA H H'->ag nP K H' ds vs->Q vs H'
abbrev SEs(X:Cx)(cl:RL.Cl)(es:List Expr)(es':RL.Es):Prop:=PA X es (tEs X.K cl es')
section rules
variable{X:Cx}
def two{σD:RL.St}{σ:L2.St}{H:Hp}{x y:RL.D}{R:V->V->Hp->Prop}(rv:RV0 X.K σD σ H)(ea:RL.ev cl σD a'=some x)(eb:RL.ev cl σD b'=some y)
 (k:∀ v u H1 H2,aA H H1->aA H1 H2->Rep nP X.K H2 x v->Rep nP X.K H2 y u->Res X.K σD σ H a' x v H1->Res X.K σD σ H1 b' y u H2->R v u H2) :
  tE X.K cl a' σ H fun v H1=>tE X.K cl b' σ H1 fun u H2=>R v u H2 :=
 ⟨σD,x,rv,ea,fun v H1 r1=>⟨σD,y,rv.same r1.same,eb,fun u H2 r2=>k v u H1 H2 r1.same r2.same (r1.rep.same r2.same) r2.rep r1 r2⟩⟩
def bind_some(h:o.bind f=some y):∃ x,o=some x/\f x=some y:=by
 cases o with
 | none=>cases h
 | some x=>exact⟨x,rfl,h⟩
def map_some(h:o.map f=some y):∃ x,o=some x/\f x=y:=by
 cases o with
 | none=>cases h
 | some x=>exact⟨x,rfl,Option.some.inj h⟩
def bK:RL.most<=sizeLine:=by decide
def aA.bW(hn:H p=none):aA H (upd H p o):=fun b u e=>by rw[aw (aF e hn)];exact e
def zG(hN:X.N[i]?=some x)(hv:Vis X.env.scope x)(hd:(x == ("__debug__" : Str))=false)(hcd:(x == ("__classdict__" : Str))=false):SE X cl (.Name x pos) (.var i):=by
 refine PE.weak (bz hN hv hd hcd) fun σ H Q h=>?_;obtain⟨σD,d,rv,e,k⟩:=h
 have e':σD[i]?=some (some d):=by
  obtain⟨o,h1,h2⟩:=bind_some e
  cases o with
  | none=>cases h2
  | some z=>cases h2;exact h1
 obtain⟨v,h1,h2⟩:=rv.2 i d e';refine⟨v,h1,k v H ⟨aA.refl H,h2,fun z=>(by cases z),fun M z P hP av=>?_⟩⟩;rw[RL.DV]at z;exact av i d v (by simpa using z) e' h1
def j7(h:PE X (.Constant k j pos) (tC v))(r:∀ P H,Rep P X.K H d v)(hm:k7 d=false):SE X cl (.Constant k j pos) (.cst d):=by
 refine PE.weak h fun σ H Q q=>?_;obtain⟨σD,d',rv,e,k⟩:=q;cases e;exact k v H ⟨aA.refl H,r _ _,fun z=>(by cases z),fun M z=>nomatch (show false=true from z)⟩
def AM{x:Str}{i:Int}{u:Value}(h:PE X (.Name x pos) (tC (.int i))):SE X cl (.Name x pos) (.glb x i):=by
 refine PE.weak h fun σ H Q q=>?_;obtain⟨σD,d',rv,e,k⟩:=q;cases e;exact k _ H ⟨aA.refl H,(by rw[Rep]),fun z=>(by cases z),fun M z=>nomatch (show false=true from z)⟩
end rules
section rules
variable{X:Cx}
def cu(sm:aA H H')(r:Rep nP X.K H' d v)(im:d.imm=true):Res X.K σD σ H e d v H' where
 same:=sm
 rep:=r
 fresh:=fun _ m=>by
  cases d with
  | lst _=>cases im
  | dK _ _=>cases im
  | dT _ _=>cases im
  | _=>cases m
 av:=fun M _ P _ _=>r.imm im
def uQ:OpR X (binaryOp .FloorDiv) (rI (fun _ j=>0<j/\j<2 ^ 200) fun i j=>.int (i / j)):=opI fun i j _ _ _ _ _ hc q=>by
 refine floordiv_int (by lia) ?_ (.inl (PyProof.noPylong_of_log2 ?_))
 ·rw[Int.fdiv_eq_ediv_of_nonneg _ (by lia)];exact q
 ·have h0:j.natAbs≠0:=by lia
  have h1:j.natAbs<2 ^ 200:=by
   have:=hc.2;omega
  have h2:j.natAbs.log2<200:=(Nat.log2_lt h0).mpr h1;lia
def dD(sm:aA H H1)(hn:H1 p=none)(r:ag nP X.K H1 ds xs)(hav:∀ M,RL.avE M e=false):Res X.K σD σ H e (.lst ds) (.ref p) (upd H1 p (.lst xs)) where
 same:=sm.trans (aA.bW hn)
 rep:=by
  rw[Rep];exact⟨p,xs,rfl,fun z=>z,aC,r.same (aA.bW hn)⟩
 fresh:=fun _ _ a z=>by
  cases z;exact sm.free hn
 av:=fun M z=>by rw[hav M]at z;cases z
def fu(sm:aA H H1)(hn:H1 p=none)(r:ag nP X.K H1 ds xs)(hav:∀ M,RL.avE M e=false):Res X.K σD σ H e (.tup ds) (.ref p) (upd H1 p (.tup xs)) where
 same:=sm.trans (aA.bW hn)
 rep:=by
  rw[Rep];exact⟨p,xs,rfl,aC,r.same (aA.bW hn)⟩
 fresh:=fun _ m=>by cases m
 av:=fun M z=>by rw[hav M]at z;cases z
abbrev nF:RL.Bop->Operator
 | .add=>.Add
 | .sub=>.Sub
 | .mul=>.Mult
 | .fdiv=>.FloorDiv
 | .mod=>.Mod
 | .pow=>.Pow
def aV{P:Addr->Prop}{K:PySem.W.Frag}:Rep P K H (.int i) (.int i):=by rw[Rep]
def me{P:Addr->Prop}{K:PySem.W.Frag}:Rep P K H (.bl i) (.bl i):=by rw[Rep]
def d9{P:Addr->Prop}{K:PySem.W.Frag}:Rep P K H (.str i) (.str i):=by rw[Rep]
def ai{P:Addr->Prop}{K:PySem.W.Frag}(h:Rep P K H (.int i) v):v=.int i:=by rw[Rep]at h;exact h
def aW{P:Addr->Prop}{K:PySem.W.Frag}(h:Rep P K H (.bl i) v):v=.bl i:=by rw[Rep]at h;exact h
def aE{P:Addr->Prop}{K:PySem.W.Frag}(h:Rep P K H (.str i) v):v=.str i:=by rw[Rep]at h;exact h
abbrev jy(X:Cx)(o:RL.Bop)(r:R2):Prop :=
 ∀ (σD:RL.St) (σ:L2.St) (H H2:Hp) (e:RL.E) (x y d:RL.D) (v u:V) (Q:VK),aA H H2->Rep nP X.K H2 x v->Rep nP X.K H2 y u->RL.bg o x y=some d->(∀ M,RL.avE M e=false) ->
  (∀ w H',Res X.K σD σ H e d w H'->Q w H')->r v u H2 Q
def fh(ho:OpR X (binaryOp (nF o)) r)(ok:jy X o r)(ha:SE X cl a a')(hb:SE X cl b b'):SE X cl (.BinOp a (nF o) b pos) (.bin o a' b'):=by
 refine PE.weak (BW ho ha hb) fun σ H Q h=>?_;obtain⟨σD,d,rv,e,k⟩:=h;obtain⟨x,ea,e⟩:=bind_some e;obtain⟨y,eb,e⟩:=bind_some e;refine two rv ea eb fun v u H1 H2 s1 s2 rx ry _ _=>?_;exact ok σD σ H H2 _ x y d v u Q (s1.trans s2) rx ry e (fun _=>rfl) k
end rules
section rules
variable{X:Cx}{cl:RL.Cl}{a b c:Expr}{a' b' c':RL.E}{pos:Pos}
def bG{α:Type}{c:Prop} [Decidable c]{a d:α}(h:(if c then some a else none)=some d):c/\d=a:=by
 by_cases hc:c
 ·rw[if_pos hc]at h;exact⟨hc,(Option.some.inj h).symm⟩
 ·rw[if_neg hc]at h;cases h
def noN{α:Type}{o:Option α}{d:α}{p:Prop}(e:o=none)(h:o=some d):p:=by rw[e]at h;cases h
def vD{x y d:RL.D}(h:RL.bg .add x y=some d):(∃ i j,x=.int i/\y=.int j/\d=.int (i+j))\/(∃ i j:Str,x=.str i/\y=.str j/\i.length+j.length<=RL.most/\d=.str (i++j)) \/
  (∃ i j,x=.lst i/\y=.lst j/\i.length+j.length<=RL.most/\d=.lst (i++j)) \/
  (∃ i j,x=.tup i/\y=.tup j/\(i.length+j.length<=RL.most/\0<i.length)/\d=.tup (i++j)):=by
 cases x with
 | int i=>cases y with
  | int j=>cases h;exact .inl ⟨i,j,rfl,rfl,rfl⟩
  | _=>exact noN rfl h
 | str i=>cases y with
  |str j=>
   obtain⟨hc,e⟩:=bG h;exact .inr (.inl ⟨i,j,rfl,rfl,hc,e⟩)
  | _=>exact noN rfl h
 | lst i=>cases y with
  |lst j=>
   obtain⟨hc,e⟩:=bG h;exact .inr (.inr (.inl ⟨i,j,rfl,rfl,hc,e⟩))
  | _=>exact noN rfl h
 | tup i=>cases y with
  |tup j=>
   obtain⟨hc,e⟩:=bG h;exact .inr (.inr (.inr ⟨i,j,rfl,rfl,hc,e⟩))
  | _=>exact noN rfl h
 | _=>exact noN rfl h
def vo{x y d:RL.D}(h:RL.bg .mul x y=some d):(∃ i j,x=.int i/\y=.int j/\qG i j/\d=.int (i*j)) \/
  (∃ i j,x=.lst i/\y=.int j/\(0<=j/\j<=RL.most/\i.length*j.toNat<=RL.most)/\d=.lst (List.replicate j.toNat i).flatten):=by
 cases x with
 | int i=>cases y with
  |int j=>
   obtain⟨hc,e⟩:=bG h;exact .inl ⟨i,j,rfl,rfl,hc,e⟩
  | _=>exact noN rfl h
 | lst i=>cases y with
  |int j=>
   obtain⟨hc,e⟩:=bG h;exact .inr ⟨i,j,rfl,rfl,hc,e⟩
  | _=>exact noN rfl h
 | _=>exact noN rfl h
def f9{o:RL.Bop}{x y d:RL.D}(h:RL.bg o x y=some d)(ho:o≠.add)(hm:o≠.mul):∃ i j,x=.int i/\y=.int j/\RL.bg o (.int i) (.int j)=some d:=by
 have no:∀ {a b:RL.D},RL.bg .sub a b=none->RL.bg .fdiv a b=none->RL.bg .mod a b=none->RL.bg .pow a b=none->RL.bg o a b=some d->False:=fun e1 e2 e3 e4 h=>by
  cases o with
  | add=>exact ho rfl
  | mul=>exact hm rfl
  | sub=>rw[e1]at h;cases h
  | fdiv=>rw[e2]at h;cases h
  | mod=>rw[e3]at h;cases h
  | pow=>rw[e4]at h;cases h
 cases x with
 | int i=>cases y with
  | int j=>exact⟨i,j,rfl,rfl,h⟩
  | _=>exact(no rfl rfl rfl rfl h).elim
 | _=>exact(no rfl rfl rfl rfl h).elim
def uh{x y d:RL.D}(h:RL.bg .sub x y=some d):∃ i j,x=.int i/\y=.int j/\d=.int (i-j):=by
 obtain⟨i,j,e1,e2,h⟩:=f9 h (by decide) (by decide);cases h;exact⟨i,j,e1,e2,rfl⟩
def rP{x y d:RL.D}(h:RL.bg .fdiv x y=some d):∃ i j,x=.int i/\y=.int j/\(0<j/\j<2 ^ 200)/\d=.int (i / j):=by
 obtain⟨i,j,e1,e2,h⟩:=f9 h (by decide) (by decide);obtain⟨hc,e⟩:=bG h;exact⟨i,j,e1,e2,hc,e⟩
def uc{x y d:RL.D}(h:RL.bg .mod x y=some d):∃ i j,x=.int i/\y=.int j/\0<j/\d=.int (i%j):=by
 obtain⟨i,j,e1,e2,h⟩:=f9 h (by decide) (by decide);obtain⟨hc,e⟩:=bG h;exact⟨i,j,e1,e2,hc,e⟩
def vb{x y d:RL.D}(h:RL.bg .pow x y=some d):∃ i j,x=.int i/\y=.int j/\(0<=j/\j<=1000/\i.natAbs<2 ^ 64)/\d=.int (i ^ j.toNat):=by
 obtain⟨i,j,e1,e2,h⟩:=f9 h (by decide) (by decide);obtain⟨hc,e⟩:=bG h;exact⟨i,j,e1,e2,hc,e⟩
def aM{P:Addr->Prop}{K:PySem.W.Frag}{H:Hp}{ds:List RL.D}{v:V}(h:Rep P K H (.lst ds) v):∃ a xs,v=.ref a/\¬ P a/\H a=some (.lst xs)/\ag P K H ds xs:=by rw[Rep]at h;exact h
def bh{P:Addr->Prop}{K:PySem.W.Frag}{H:Hp}{ds:List RL.D}{v:V}(h:Rep P K H (.tup ds) v):∃ a xs,v=.ref a/\H a=some (.tup xs)/\ag P K H ds xs:=by rw[Rep]at h;exact h
def Bw:jy X .sub (rI0 fun i j=>.int (i-j)):=by
 intro σD σ H H2 e x y d v u Q sm rx ry h hav k;obtain⟨i,j,rfl,rfl,rfl⟩:=uh h;exact⟨i,j,ai rx,ai ry,k _ _ (cu sm aV rfl)⟩
def yn:jy X .fdiv (rI (fun _ j=>0<j/\j<2 ^ 200) fun i j=>.int (i / j)):=by
 intro σD σ H H2 e x y d v u Q sm rx ry h hav k;obtain⟨i,j,rfl,rfl,hc,rfl⟩:=rP h;exact⟨i,j,ai rx,ai ry,hc,k _ _ (cu sm aV rfl)⟩
def zM:jy X .mod (rI (fun _ j=>0<j) fun i j=>.int (i%j)):=by
 intro σD σ H H2 e x y d v u Q sm rx ry h hav k;obtain⟨i,j,rfl,rfl,hc,rfl⟩:=uc h;exact⟨i,j,ai rx,ai ry,hc,k _ _ (cu sm aV rfl)⟩
def AX:jy X .pow (rI AG fun i j=>.int (i ^ j.toNat)):=by
 intro σD σ H H2 e x y d v u Q sm rx ry h hav k;obtain⟨i,j,rfl,rfl,hc,rfl⟩:=vb h;exact⟨i,j,ai rx,ai ry,⟨hc.1,Int.le_trans hc.2.1 (by decide),hc.2.2⟩,k _ _ (cu sm aV rfl)⟩
def A2(ha:SE X cl a a')(hb:SE X cl b b'):SE X cl (.BinOp a .Add b pos) (.bin .add a' b'):=by
 refine fh (o:=.add) (zm.or (qY.or (zu.or y6))) ?_ ha hb;intro σD σ H H2 e x y d v u Q sm rx ry h hav k
 rcases vD h with⟨i,j,rfl,rfl,rfl⟩ | ⟨i,j,rfl,rfl,hc,rfl⟩ | ⟨i,j,rfl,rfl,hc,rfl⟩ | ⟨i,j,rfl,rfl,⟨hc,ha⟩,rfl⟩
 ·exact .inl ⟨i,j,ai rx,ai ry,k _ _ (cu sm aV rfl)⟩
 ·exact .inr (.inl ⟨i,j,aE rx,aE ry,Nat.le_trans hc bK,k _ _ (cu sm d9 rfl)⟩)
 ·obtain⟨p,xs,e1,_,e2,e3⟩:=aM rx;obtain⟨q,ys,f1,_,f2,f3⟩:=aM ry;refine .inr (.inr (.inl ⟨p,q,xs,ys,e1,f1,e2,f2,?_,fun l hl=>k _ _ (dD sm hl (e3.append f3) hav)⟩));rw[<-e3.length,<-f3.length];exact Nat.le_trans hc bK
 ·obtain⟨p,xs,e1,e2,e3⟩:=bh rx;obtain⟨q,ys,f1,f2,f3⟩:=bh ry;refine .inr (.inr (.inr ⟨p,q,xs,ys,e1,f1,SqT.of e2,SqT.of f2,fun z=>?_,?_,fun z=>?_,fun _ l hl=>k _ _ (fu sm hl (e3.append f3) hav)⟩))
  ·rw[e3.length,z]at ha;exact absurd ha (by decide)
  ·rw[<-e3.length,<-f3.length];exact Nat.le_trans hc bK
  ·have hj:j=[]:=by
    have:=f3.length;rw[z]at this;exact List.length_eq_zero_iff.mp this
   subst hj;rw[List.append_nil]at k;exact k _ _ ⟨sm,e1▸rx,fun _ m=>(by cases m),fun M z=>by rw[hav M]at z;cases z⟩
def Bs(ha:SE X cl a a')(hb:SE X cl b b'):SE X cl (.BinOp a .Mult b pos) (.bin .mul a' b'):=by
 refine fh (o:=.mul) (AZ.or Bt) ?_ ha hb;intro σD σ H H2 e x y d v u Q sm rx ry h hav k
 rcases vo h with⟨i,j,rfl,rfl,hc,rfl⟩ | ⟨i,j,rfl,rfl,hc,rfl⟩
 ·exact .inl ⟨i,j,ai rx,ai ry,hc,k _ _ (cu sm aV rfl)⟩
 ·obtain⟨p,xs,e1,_,e2,e3⟩:=aM rx;refine .inr ⟨p,j,xs,e1,ai ry,e2,?_,?_,?_,fun l hl=>k _ _ (dD sm hl (e3.rep _) hav)⟩
  ·exact Int.le_trans (by decide) hc.1
  ·exact Int.lt_of_le_of_lt hc.2.1 (by decide)
  ·rw[<-e3.length];exact Nat.le_trans hc.2.2 bK
def zi{o:RL.Bop}(ha:SE X cl a a')(hb:SE X cl b b'):SE X cl (.BinOp a (nF o) b pos) (.bin o a' b'):=by
 cases o with
 | add=>exact A2 ha hb
 | mul=>exact Bs ha hb
 | sub=>exact fh (o:=.sub) zF Bw ha hb
 | fdiv=>exact fh (o:=.fdiv) uQ yn ha hb
 | mod=>exact fh (o:=.mod) Aj zM ha hb
 | pow=>exact fh (o:=.pow) BO AX ha hb
def dE{σD:RL.St}{σ:L2.St}{H H':Hp}{e:RL.E}{k:Bool}(sm:aA H H'):Res X.K σD σ H e (.bl k) (.bl k) H':=cu sm me rfl
def B4{rest:List Expr}(ha:SE X cl a a')(hb:SE X cl (.BoolOp .And (b::rest) pos) b'):SE X cl (.BoolOp .And (a::b::rest) pos) (.and a' b'):=by
 refine PE.weak (zB ha hb) fun σ H Q h=>?_;obtain⟨σD,d,rv,e,k⟩:=h;obtain⟨x,ea,e⟩:=bind_some e;refine⟨σD,x,rv,ea,fun v H1 r1=>?_⟩
 cases x with
 |bl t=>
  refine⟨t,aW r1.rep,?_⟩
  cases t with
  |true=>
   refine dF ?_;refine⟨σD,d,rv.same r1.same,e,fun w H2 r2=>k w H2 ?_⟩;exact⟨r1.same.trans r2.same,r2.rep,fun z=>(by cases z),fun M z=>nomatch (show false=true from z)⟩
  |false=>
   refine dR ?_;cases e;exact k _ _ (dE r1.same)
 | _=>cases e
def Cj{rest:List Expr}(ha:SE X cl a a')(hb:SE X cl (.BoolOp .Or (b::rest) pos) b'):SE X cl (.BoolOp .Or (a::b::rest) pos) (.or a' b'):=by
 refine PE.weak (C3 ha hb) fun σ H Q h=>?_;obtain⟨σD,d,rv,e,k⟩:=h;obtain⟨x,ea,e⟩:=bind_some e;refine⟨σD,x,rv,ea,fun v H1 r1=>?_⟩
 cases x with
 |bl t=>
  refine⟨t,aW r1.rep,?_⟩
  cases t with
  |false=>
   refine dR ?_;refine⟨σD,d,rv.same r1.same,e,fun w H2 r2=>k w H2 ?_⟩;exact⟨r1.same.trans r2.same,r2.rep,fun z=>(by cases z),fun M z=>nomatch (show false=true from z)⟩
  |true=>
   refine dF ?_;cases e;exact k _ _ (dE r1.same)
 | _=>cases e
def sk{op}(ha:SE X cl a a'):SE X cl (.BoolOp op [a] pos) a':=AN ha
abbrev tT(K:PySem.W.Frag)(cl:RL.Cl)(e:RL.E):TT:=fun σ H Q=>∃ σD k,RV0 K σD σ H/\(RL.ev cl σD e).bind RL.truth=some k/\∀ H',aA H H'->Q k H'
abbrev ST(X:Cx)(cl:RL.Cl)(e:Expr)(e':RL.E):Prop:=PT X e (tT X.K cl e')
abbrev SW(X:Cx)(cl:RL.Cl)(e:Expr)(e':RL.E):Prop:=PW X e (tT X.K cl e')
def PT.weak{e:Expr}{t t':TT}(h:PT X e t)(w:∀ σ H Q,t' σ H Q->t σ H Q):PT X e t':=fun pins s σ H Q I q=>h pins s σ H Q I (w σ H Q q)
def PW.weak{e:Expr}{t t':TT}(h:PW X e t)(w:∀ σ H Q,t' σ H Q->t σ H Q):PW X e t':=fun wh pins s σ H Q I q=>h wh pins s σ H Q I (w σ H Q q)
def ag.isEmpty{P:Addr->Prop}{K:PySem.W.Frag}{H:Hp}{ds:List RL.D}{xs:List V}(h:ag P K H ds xs):ds.isEmpty=xs.isEmpty:=by
 cases ds with
 | nil=>rw[ag]at h;rw[h];rfl
 |cons d r=>
  rw[ag]at h;obtain⟨x,t,rfl,_⟩:=h;rfl
def Ab{K:PySem.W.Frag}{H:Hp}{d:RL.D}{v:V}{k:Bool}(r:Rep nP K H d v)(h:RL.truth d=some k):pM K v H k:=by
 cases d<;>simp only[RL.truth]at h<;>first | (cases h;done) | skip
 case bl t=>cases h;rw[aW r];exact rfl
 case int t =>
  cases h;rw[ai r];simp[pM]
 case tup ds =>
  obtain⟨a,xs,rfl,e,rs⟩:=bh r;cases h;exact .inr (.inl ⟨xs,SqT.of e,by rw[rs.isEmpty]⟩)
 case lst ds =>
  obtain⟨a,xs,rfl,_,e,rs⟩:=aM r;cases h;exact .inl ⟨xs,SqL.of e,by rw[rs.isEmpty]⟩
def uS(ha:SE X cl a a')(he:∀ whole,isTrue a X.env whole=(do let v <- whole;standAt a.pos;holding [v] (truthy v))):ST X cl a a':=by
 refine PT.weak (vf ha he) fun σ H Q h=>?_;obtain⟨σD,k,rv,e,q⟩:=h;obtain⟨d,e1,e2⟩:=bind_some e;exact⟨σD,d,rv,e1,fun v H1 r1=>⟨k,Ab r1.rep e2,q H1 r1.same⟩⟩
def rN{op:BoolOp}(ha:ST X cl a a'):SW X cl (.BoolOp op [a] pos) a':=by
 cases op with
 | And=>exact xG ha
 | Or=>exact A5 ha
def rZ{σD:RL.St}{k:Bool}(h:(RL.ev cl σD (.and a' b')).bind RL.truth=some k):∃ t,(RL.ev cl σD a').bind RL.truth=some t/\(if t=true then(RL.ev cl σD b').bind RL.truth=some k else k=false):=by
 rw[RL.lQ]at h
 cases ea:RL.ev cl σD a' with
 | none=>rw[ea]at h;cases h
 |some x=>
  rw[ea]at h
  cases x with
  |bl t=>
   cases t with
   | true=>exact⟨true,rfl,dF h⟩
   | false=>exact⟨false,rfl,dR (by cases h;rfl)⟩
  | _=>exact noN rfl h
def vA{σD:RL.St}{k:Bool}(h:(RL.ev cl σD (.or a' b')).bind RL.truth=some k):∃ t,(RL.ev cl σD a').bind RL.truth=some t/\(if t=true then k=true else(RL.ev cl σD b').bind RL.truth=some k):=by
 rw[RL.uX]at h
 cases ea:RL.ev cl σD a' with
 | none=>rw[ea]at h;cases h
 |some x=>
  rw[ea]at h
  cases x with
  |bl t=>
   cases t with
   | true=>exact⟨true,rfl,dF (by cases h;rfl)⟩
   | false=>exact⟨false,rfl,dR h⟩
  | _=>exact noN rfl h
def zl{rest:List Expr}(ha:ST X cl a a')(hb:SW X cl (.BoolOp .And (b::rest) pos) b'):SW X cl (.BoolOp .And (a::b::rest) pos) (.and a' b'):=by
 refine PW.weak (AD ha hb) fun σ H Q h=>?_;obtain⟨σD,k,rv,e,q⟩:=h;obtain⟨t,e1,e2⟩:=rZ e;refine⟨σD,t,rv,e1,fun H1 s1=>?_⟩
 cases t with
 | true=>exact dF ⟨σD,k,rv.same s1,e2,fun H2 s2=>q H2 (s1.trans s2)⟩
 |false=>
  have e2:k=false:=e2;subst e2;exact dR (q H1 s1)
def CG{rest:List Expr}(ha:ST X cl a a')(hb:SW X cl (.BoolOp .Or (b::rest) pos) b'):SW X cl (.BoolOp .Or (a::b::rest) pos) (.or a' b'):=by
 refine PW.weak (Cc ha hb) fun σ H Q h=>?_;obtain⟨σD,k,rv,e,q⟩:=h;obtain⟨t,e1,e2⟩:=vA e;refine⟨σD,t,rv,e1,fun H1 s1=>?_⟩
 cases t with
 |true=>
  have e2:k=true:=e2;subst e2;exact dF (q H1 s1)
 | false=>exact dR ⟨σD,k,rv.same s1,e2,fun H2 s2=>q H2 (s1.trans s2)⟩
def zh(ha:ST X cl a a'):ST X cl (.UnaryOp .Not a pos) (.not a'):=by
 refine PT.weak (BG ha) fun σ H Q h=>?_;obtain⟨σD,k,rv,e,q⟩:=h;obtain⟨d,e1,e2⟩:=bind_some e;obtain⟨t,e3,e4⟩:=map_some e1;subst e4;cases e2;exact⟨σD,t,rv,e3,fun H1 s1=>q H1 s1⟩
def Bb(hc:ST X cl c c')(ha:SE X cl a a')(hb:SE X cl b b'):SE X cl (.IfExp c a b pos) (.ifx c' a' b'):=by
 refine PE.weak (uC hc ha hb) fun σ H Q h=>?_;obtain⟨σD,d,rv,e,q⟩:=h;obtain⟨t,e1,e2⟩:=bind_some e;refine⟨σD,t,rv,e1,fun H1 s1=>?_⟩;have fin:∀ (a':RL.E) (v:V) (H2:Hp),(∀ M,RL.avE M (.ifx c' a' b')=true->RL.avE M a'=true)->True:=fun _ _ _ _=>trivial
 cases t with
 |true=>
  refine dF ⟨σD,d,rv.same s1,e2,fun v H2 r2=>q v H2 ⟨s1.trans r2.same,r2.rep,fun z=>(by cases z),fun M z P hP av=>?_⟩⟩;have z:(RL.avE M a'&&RL.avE M b')=true:=z;rw[Bool.and_eq_true]at z;exact r2.av M z.1 P (fun a p=>(Option.ne_none_iff_exists'.mpr (by obtain⟨o,ho⟩:=Option.ne_none_iff_exists'.mp (hP a p);exact⟨o,s1 _ _ ho⟩))) fun j dj vj h1 h2 h3=>(av j dj vj h1 h2 h3).same s1
 |false=>
  refine dR ⟨σD,d,rv.same s1,e2,fun v H2 r2=>q v H2 ⟨s1.trans r2.same,r2.rep,fun z=>(by cases z),fun M z P hP av=>?_⟩⟩;have z:(RL.avE M a'&&RL.avE M b')=true:=z;rw[Bool.and_eq_true]at z;exact r2.av M z.2 P (fun a p=>(Option.ne_none_iff_exists'.mpr (by obtain⟨o,ho⟩:=Option.ne_none_iff_exists'.mp (hP a p);exact⟨o,s1 _ _ ho⟩))) fun j dj vj h1 h2 h3=>(av j dj vj h1 h2 h3).same s1
end rules
section rules
variable{X:Cx}
def zL(ha:SE X cl a a'):SE X cl (.UnaryOp .Not a pos) (.not a'):=by
 intro pins s σ H Q I h;obtain⟨σD,d,rv,e,k⟩:=h;obtain⟨t,e1,e2⟩:=map_some e;obtain⟨x,e3,e4⟩:=bind_some e1;subst e2;refine UnaryOp_ (thn (ha pins s σ H (fun v H1=>aA H H1/\Rep nP X.K H1 x v) I ⟨σD,x,rv,e3,fun v H1 r1=>⟨r1.same,r1.rep⟩⟩) fun v s1 ⟨y,H1,I1,r1,sm,rp⟩=>?_);refine not_of (thn (rl pins s1 σ H1 y v (fun k H2=>k=t/\H2=H1) I1 r1 ⟨t,Ab rp e4,rfl,rfl⟩) fun k2 s2 ⟨H2,I2,q1,q2⟩=>?_);subst q1;subst q2;exact⟨.bl (!k2),H2,I2,rfl,k _ _ (dE sm)⟩
abbrev noStar:Expr->Bool
 | .Starred _ _=>false
 | _=>true
def az(es:List Expr)(h:noStar e=true):starEach (e::es) X.env=(false,eval e X.env)::starEach es X.env:=by
 cases e<;>first | rfl | (cases h)
def cC:∀ {es:List Expr} {pos:Pos},es.all noStar=true->(backTo pos (starEach es X.env)).any (·.1)=false
 | [],_,_=>rfl
 | e::es,pos,h=>by
  rw[List.all_cons,Bool.and_eq_true]at h;rw[az es h.1];show(false || (backTo pos (starEach es X.env)).any (·.1))=false;rw[cC h.2];rfl
def dA:SEs X cl [] .nil:=by
 intro pos pins s σ H Q I h;obtain⟨σD,ds,rv,e,k⟩:=h;cases e;exact bf pos pins s σ H Q I (k [] H (aA.refl H) ag.nil)
def cm(he:SE X cl e e')(hr:SEs X cl es es')(hn:noStar e=true):SEs X cl (e::es) (.cons e' es'):=by
 intro pos pins s σ H Q I h;refine aG he hr (az es hn) pos pins s σ H Q I ?_;obtain⟨σD,ds,rv,e,k⟩:=h;obtain⟨d,e1,e2⟩:=bind_some e;obtain⟨r,e3,e4⟩:=map_some e2;subst e4;refine⟨σD,d,rv,e1,fun v H1 r1=>⟨σD,r,rv.same r1.same,e3,fun vs H2 s2 r2=>k (v::vs) H2 (r1.same.trans s2) (ag.cons (r1.rep.same s2) r2)⟩⟩
abbrev de:RL.Es->Nat
 | .nil=>0
 | .cons _ r=>de r+1
def jd:∀ {es:RL.Es} {ds:List RL.D},RL.evs cl σD es=some ds->ds.length=de es
 | .nil,ds,h=>by rw[RL.evs]at h;cases h;rfl
 | .cons e r,ds,h=>by
  obtain⟨d,e1,e2⟩:=bind_some h;obtain⟨t,e3,e4⟩:=map_some e2;subst e4;rw[List.length_cons,jd e3,de]
def AS(h:SEs X cl es es')(hl:de es'<=1000):SE X cl (.Tuple es x1 pos) (.tup es'):=by
 refine PE.weak (AH h) fun σ H Q q=>?_;obtain⟨σD,d,rv,e,k⟩:=q;obtain⟨ds,e1,e2⟩:=map_some e;subst e2;refine⟨σD,ds,rv,e1,fun vs H1 s1 r1=>⟨?_,fun p hp=>k _ _ (fu s1 hp r1 fun _=>rfl)⟩⟩;rw[<-r1.length,jd e1];exact Nat.le_of_lt (kL hl)
def AI(h:SEs X cl es es')(hl:de es'<=1000):SE X cl (.List es pos) (.lst es'):=by
 refine PE.weak (oi h) fun σ H Q q=>?_;obtain⟨σD,d,rv,e,k⟩:=q;obtain⟨ds,e1,e2⟩:=map_some e;subst e2;refine⟨σD,ds,rv,e1,fun vs H1 s1 r1=>⟨?_,fun p hp=>k _ _ (dD s1 hp r1 fun _=>rfl)⟩⟩;rw[<-r1.length,jd e1];exact Nat.le_of_lt (kL hl)
def i9(h:RL.cz xs i=some x):atI xs i=some x:=by
 unfold RL.cz at h;unfold atI ixN;by_cases h0:0<=i
 ·rw[if_pos h0]at h;rw[if_pos h0];obtain⟨h1,_⟩:=List.getElem?_eq_some_iff.mp h;rw[if_pos (by lia)];exact h
 ·rw[if_neg h0]at h;rw[if_neg h0];by_cases h1:-(xs.length:Int)<=i
  ·rw[if_pos h1]at h;rw[if_pos h1];exact h
  ·rw[if_neg h1]at h;cases h
def eu{P:Addr->Prop}{K:PySem.W.Frag}(r:ag P K H ds xs)(h:RL.cz ds i=some d):∃ x,RL.cz xs i=some x/\Rep P K H d x:=by
 unfold RL.cz at h ⊢;rw[<-r.length];by_cases h0:0<=i
 ·rw[if_pos h0]at h ⊢;exact r.get h
 ·rw[if_neg h0]at h ⊢;by_cases h1:-(ds.length:Int)<=i
  ·rw[if_pos h1]at h ⊢;exact r.get h
  ·rw[if_neg h1]at h;cases h
abbrev iS:Expr->Bool
 | .Slice _ _ _ _=>false
 | _=>true
def ph(h:iS b=true):oM b:=by
 intro o i
 cases b<;>first | rfl | (cases h)
def uE{xs:List RL.D}{i:Int}(im:RL.ar xs=true)(h:RL.cz xs i=some d):d.imm=true:=by
 have mem:d∈xs:=by
  unfold RL.cz at h;split at h
  ·exact List.mem_of_getElem? h
  ·split at h
   ·exact List.mem_of_getElem? h
   ·cases h
 clear h
 induction xs with
 | nil=>cases mem
 |cons a r ih=>
  rw[RL.ar,Bool.and_eq_true]at im;rcases List.mem_cons.mp mem with rfl | m
  ·exact im.1
  ·exact ih im.2 m
def tH(h:RL.ixV x y=some d):(∃ xs i,x=.lst xs/\y=.int i/\RL.cz xs i=some d)\/(∃ xs i,x=.tup xs/\y=.int i/\RL.cz xs i=some d) \/
  (∃ (z:Str) (i:Int) (c:Nat),x=.str z/\y=.int i/\z.length<=RL.most/\RL.cz z.cps.toList i=some c/\d=.str ⟨#[c]⟩)\/(∃ xs i,x=.fL xs/\y=.int i/\RL.ar xs=true/\RL.cz xs i=some d):=by
 have no:∀ {o:Option RL.D},o=none->o=some d->False:=fun e h=>by rw[e]at h;cases h
 cases x with
 | lst xs=>cases y with
  | int i=>exact .inl ⟨xs,i,rfl,rfl,h⟩
  | _=>exact(no rfl h).elim
 | tup xs=>cases y with
  | int i=>exact .inr (.inl ⟨xs,i,rfl,rfl,h⟩)
  | _=>exact(no rfl h).elim
 | str z=>cases y with
  |int i=>
   by_cases hc:z.length<=RL.most
   ·obtain⟨c,e1,e2⟩:=map_some (show(RL.cz z.cps.toList i).map (fun c=>RL.D.str ⟨#[c]⟩)=some d from(if_pos hc).symm.trans h);exact .inr (.inr (.inl ⟨z,i,c,rfl,rfl,hc,e1,e2.symm⟩))
   ·exact(no (if_neg hc) h).elim
  | _=>exact(no rfl h).elim
 | fL xs=>cases y with
  |int i=>
   by_cases hc:RL.ar xs=true
   ·exact .inr (.inr (.inr ⟨xs,i,rfl,rfl,hc,(if_pos hc).symm.trans h⟩))
   ·exact(no (if_neg hc) h).elim
  | _=>exact(no rfl h).elim
 | _=>exact(no rfl h).elim
def C5(ha:SE X cl a a')(hb:SE X cl b b')(hs:iS b=true):SE X cl (.Subscript a b pos) (.ix a' b'):=by
 refine PE.weak (wU rF ha hb (ph hs)) fun σ H Q h=>?_;obtain⟨σD,d,rv,e,k⟩:=h;obtain⟨x,ea,e⟩:=bind_some e;obtain⟨y,eb,e⟩:=bind_some e;refine two rv ea eb fun v u H1 H2 s1 s2 rx ry ra rb=>?_
 have fin:∀ (w:V),Rep nP X.K H2 d w->(∀ P:Addr->Prop,Rep P X.K H2 x v->Rep P X.K H2 d w)->Res X.K σD σ H (.ix a' b') d w H2:=fun w h1 h2=>{
  same:=s1.trans s2
  rep:=h1
  fresh:=fun z=>by cases z
  av:=fun M z P hP av=>h2 P ((ra.av M z P hP av).same s2) }
 rcases tH e with⟨xs,i,rfl,rfl,hd⟩ | ⟨xs,i,rfl,rfl,hd⟩ | ⟨z,i,c,rfl,rfl,hz,hd,rfl⟩ | ⟨xs,i,rfl,rfl,im,hd⟩
 ·obtain⟨p,ys,rfl,_,e2,e3⟩:=aM rx;obtain⟨w,h1,h2⟩:=eu e3 hd;refine .inl ⟨p,ys,i,w,rfl,ai ry,SqL.of e2,i9 h1,k _ _ (fin w h2 fun P rp=>?_)⟩;obtain⟨p',ys',q1,_,q2,q3⟩:=aM rp;cases q1;rw[e2]at q2;cases q2;obtain⟨w',h3,h4⟩:=eu q3 hd;rw[h1]at h3;cases h3;exact h4
 ·obtain⟨p,ys,rfl,e2,e3⟩:=bh rx;obtain⟨w,h1,h2⟩:=eu e3 hd;refine .inr (.inl ⟨p,ys,i,w,rfl,ai ry,SqT.of e2,i9 h1,k _ _ (fin w h2 fun P rp=>?_)⟩);obtain⟨p',ys',q1,q2,q3⟩:=bh rp;cases q1;rw[e2]at q2;cases q2;obtain⟨w',h3,h4⟩:=eu q3 hd;rw[h1]at h3;cases h3;exact h4
 ·exact .inr (.inr ⟨z,i,c,aE rx,ai ry,Nat.le_trans hz bK,i9 hd,k _ _ (fin _ d9 fun P _=>d9)⟩)
 ·rw[Rep]at rx;obtain⟨p,o,ys,rfl,e2,e3⟩:=rx;obtain⟨w,h1,h2⟩:=eu e3 hd;exact .inl ⟨p,ys,i,w,rfl,ai ry,.inl (.inr ⟨o,e2⟩),i9 h1,k _ _ (cu (s1.trans s2) h2 (uE im hd))⟩
end rules
section rules
def fj:∀ {as bs:List RL.D} {k:Bool},RL.eqs f as bs=some k ->
  ∃ e:Nat->Bool,k=(List.range (min as.length bs.length)).all e/\∀ j x y,as[j]?=some x->bs[j]?=some y->f x y=some (e j)
 | [],bs,k,h=>by
  have h:some true=some k:=by simpa[RL.eqs]using h
  cases h;exact⟨fun _=>true,by simp,fun j x y h1=>by simp at h1⟩
 | a::r,[],k,h=>by
  have h:some true=some k:=by simpa[RL.eqs]using h
  cases h;exact⟨fun _=>true,by simp,fun j x y h1 h2=>by simp at h2⟩
 | a::r,b::s,k,h=>by
  rw[RL.eqs]at h;obtain⟨e0,h1,h2⟩:=bind_some h;obtain⟨k',h3,h4⟩:=map_some h2;obtain⟨e,h5,h6⟩:=fj h3;refine⟨fun j=>match j with | 0=>e0 | j+1=>e j,?_,fun j x y hx hy=>?_⟩
  ·rw[<-h4,h5,List.length_cons,List.length_cons,Nat.succ_min_succ,List.range_succ_eq_map,List.all_cons,List.all_map];rfl
  ·cases j with
   |zero=>
    simp at hx hy;subst hx hy;exact h1
   | succ j=>exact h6 j x y (by simpa using hx) (by simpa using hy)
abbrev LF(x:RL.D)(i:List RL.D):Prop:=x=.lst i\/x=.fL i
def gc{P:Addr->Prop}{K:PySem.W.Frag}{H:Hp}{v:V}(h:Rep P K H x v)(l:LF x i):∃ a xs,v=.ref a/\(H a=some (.lst xs)\/∃ o,H a=some (.frz o (.lst xs)))/\ag P K H i xs:=by
 rcases l with rfl | rfl
 ·obtain⟨a,xs,h1,_,h2,h3⟩:=aM h;exact⟨a,xs,h1,.inl h2,h3⟩
 ·rw[Rep]at h;obtain⟨a,o,xs,h1,h2,h3⟩:=h;exact⟨a,xs,h1,.inr ⟨o,h2⟩,h3⟩
def Bm{H:Hp}{xs ys:List V}(h:H a=some (.lst xs)\/∃ o,H a=some (.frz o (.lst xs)))(h':H a=some (.lst ys)\/∃ o,H a=some (.frz o (.lst ys))):xs=ys:=by
 rcases h with h | ⟨o,h⟩
 ·rcases h' with h' | ⟨o',h'⟩<;>(rw[h]at h';cases h');rfl
 ·rcases h' with h' | ⟨o',h'⟩<;>(rw[h]at h';cases h');rfl
def eF(h:RL.eqD n x y=some k):(∃ i j,x=.bl i/\y=.bl j/\(i == j)=k)\/(∃ i j,x=.int i/\y=.int j/\(i == j)=k)\/(∃ i j,x=.str i/\y=.str j/\(i == j)=k) \/
  (∃ m i j,n=m+1/\x=.tup i/\y=.tup j/\Option.map (fun k=>k&&i.length == j.length) (RL.eqs (RL.eqD m) i j)=some k)\/(∃ m i j,n=m+1/\LF x i/\LF y j/\Option.map (fun k=>k&&i.length == j.length) (RL.eqs (RL.eqD m) i j)=some k):=by
 cases n with
 | zero=>cases x with
  | bl i=>cases y with
   | bl j=>exact .inl ⟨i,j,rfl,rfl,Option.some.inj h⟩
   | _=>exact noN rfl h
  | int i=>cases y with
   | int j=>exact .inr (.inl ⟨i,j,rfl,rfl,Option.some.inj h⟩)
   | _=>exact noN rfl h
  | str i=>cases y with
   | str j=>exact .inr (.inr (.inl ⟨i,j,rfl,rfl,Option.some.inj h⟩))
   | _=>exact noN rfl h
  | _=>exact noN rfl h
 | succ m=>cases x with
  | bl i=>cases y with
   | bl j=>exact .inl ⟨i,j,rfl,rfl,Option.some.inj h⟩
   | _=>exact noN rfl h
  | int i=>cases y with
   | int j=>exact .inr (.inl ⟨i,j,rfl,rfl,Option.some.inj h⟩)
   | _=>exact noN rfl h
  | str i=>cases y with
   | str j=>exact .inr (.inr (.inl ⟨i,j,rfl,rfl,Option.some.inj h⟩))
   | _=>exact noN rfl h
  | tup i=>cases y with
   | tup j=>exact .inr (.inr (.inr (.inl ⟨m,i,j,rfl,rfl,rfl,h⟩)))
   | _=>exact noN rfl h
  | lst i=>cases y with
   | lst j=>exact .inr (.inr (.inr (.inr ⟨m,i,j,rfl,.inl rfl,.inl rfl,h⟩)))
   | fL j=>exact .inr (.inr (.inr (.inr ⟨m,i,j,rfl,.inl rfl,.inr rfl,h⟩)))
   | _=>exact noN rfl h
  | fL i=>cases y with
   | lst j=>exact .inr (.inr (.inr (.inr ⟨m,i,j,rfl,.inr rfl,.inl rfl,h⟩)))
   | fL j=>exact .inr (.inr (.inr (.inr ⟨m,i,j,rfl,.inr rfl,.inr rfl,h⟩)))
   | _=>exact noN rfl h
  | _=>exact noN rfl h
def lz{K:PySem.W.Frag}:∀ (n:Nat) (x y:RL.D) (v:V) (k:Bool),Rep nP K H x v->Rep nP K H y v->RL.eqD n x y=some k->k=true:=by
 intro n
 induction n with
 |zero=>
  intro x y v k rx ry h
  rcases eF h with⟨i,j,rfl,rfl,rfl⟩ | ⟨i,j,rfl,rfl,rfl⟩ | ⟨i,j,rfl,rfl,rfl⟩ | ⟨m,i,j,hn,hx,hy,h⟩ | ⟨m,i,j,hn,hx,hy,h⟩
  ·have:=aW rx;rw[aW ry]at this;cases this;simp
  ·have:=ai rx;rw[ai ry]at this;cases this;simp
  ·have:=aE rx;rw[aE ry]at this;cases this;simp
  ·cases hn
  ·cases hn
 |succ n ih=>
  intro x y v k rx ry h
  have seq:∀ (i j:List RL.D) (xs:List V) (k:Bool),ag nP K H i xs->ag nP K H j xs->Option.map (fun k=>k&&i.length == j.length) (RL.eqs (RL.eqD n) i j)=some k->k=true:=by
   intro i j xs k e3 f3 h;obtain⟨k',h1,h2⟩:=map_some h;obtain⟨e,h3,h4⟩:=fj h1;have hl:i.length=j.length:=e3.length.trans f3.length.symm
   have hk:k'=true:=by
    rw[h3,List.all_eq_true];intro m hm;rw[List.mem_range]at hm;obtain⟨w,w1,w2⟩:=e3.get (i:=m) (d:=i[m]'(by lia)) (by simp);obtain⟨w',w1',w2'⟩:=f3.get (i:=m) (d:=j[m]'(by lia)) (by simp);rw[w1]at w1';cases w1';exact ih _ _ w (e m) w2 w2' (h4 m _ _ (by simp) (by simp))
   rw[<-h2,hk,hl];simp
  rcases eF h with⟨i,j,rfl,rfl,rfl⟩ | ⟨i,j,rfl,rfl,rfl⟩ | ⟨i,j,rfl,rfl,rfl⟩ | ⟨m,i,j,hn,hx,hy,h⟩ | ⟨m,i,j,hn,hx,hy,h⟩
  ·have:=aW rx;rw[aW ry]at this;cases this;simp
  ·have:=ai rx;rw[ai ry]at this;cases this;simp
  ·have:=aE rx;rw[aE ry]at this;cases this;simp
  ·cases hn;subst hx;subst hy;obtain⟨p,xs,rfl,e2,e3⟩:=bh rx;obtain⟨q,ys,q1,f2,f3⟩:=bh ry;cases q1;rw[e2]at f2;cases f2;exact seq i j xs k e3 f3 h
  ·cases hn;obtain⟨p,xs,rfl,e2,e3⟩:=gc rx hx;obtain⟨q,ys,q1,f2,f3⟩:=gc ry hy;cases q1;cases Bm e2 f2;exact seq i j xs k e3 f3 h
open SeqAt in
def deep(I:Inv X pins σ H s):∀ (n:Nat) (A:Around) (x y:RL.D) (v u:V) (va ua:Value) (k:Bool),A.units+n<cLine->Rep nP X.K H x v->Rep nP X.K H y u->RelV v va->RelV u ua ->
  RL.eqD n x y=some k->RcAt A s va ua k/\EqAt A s va ua k:=by
 intro n
 induction n with
 |zero=>
  intro A x y v u va ua k hu rx ry qx qy h
  rcases eF h with⟨i,j,rfl,rfl,rfl⟩ | ⟨i,j,rfl,rfl,rfl⟩ | ⟨i,j,rfl,rfl,rfl⟩ | ⟨m,i,j,hn,hx,hy,h⟩ | ⟨m,i,j,hn,hx,hy,h⟩
  ·rw[aW rx]at qx;rw[aW ry]at qy;cases qx;cases qy;exact⟨RcAt.bool_bool i j,EqAt.bool_bool i j⟩
  ·rw[ai rx]at qx;rw[ai ry]at qy;obtain⟨t,rfl⟩:=qx;obtain⟨t',rfl⟩:=qy;exact⟨RcAt.int_int i t j t',EqAt.int_int i t j t'⟩
  ·rw[aE rx]at qx;rw[aE ry]at qy;obtain⟨t,rfl⟩:=qx;obtain⟨t',rfl⟩:=qy;exact⟨RcAt.str_str i t j t',EqAt.str_str i t j t'⟩
  ·cases hn
  ·cases hn
 |succ n ih=>
  intro A x y v u va ua k hu rx ry qx qy h
  rcases eF h with⟨i,j,rfl,rfl,rfl⟩ | ⟨i,j,rfl,rfl,rfl⟩ | ⟨i,j,rfl,rfl,rfl⟩ | ⟨m,i,j,hn,hx,hy,h⟩ | ⟨m,i,j,hn,hx,hy,h⟩
  ·rw[aW rx]at qx;rw[aW ry]at qy;cases qx;cases qy;exact⟨RcAt.bool_bool i j,EqAt.bool_bool i j⟩
  ·rw[ai rx]at qx;rw[ai ry]at qy;obtain⟨t,rfl⟩:=qx;obtain⟨t',rfl⟩:=qy;exact⟨RcAt.int_int i t j t',EqAt.int_int i t j t'⟩
  ·rw[aE rx]at qx;rw[aE ry]at qy;obtain⟨t,rfl⟩:=qx;obtain⟨t',rfl⟩:=qy;exact⟨RcAt.str_str i t j t',EqAt.str_str i t j t'⟩
  ·cases hn;subst hx;subst hy;obtain⟨p,xs,rfl,e2,e3⟩:=bh rx;obtain⟨q,ys,rfl,f2,f3⟩:=bh ry;cases qx;cases qy;obtain⟨its,r1,t1,z1⟩:=I.tuple (SqT.of e2);obtain⟨jts,r2,t2,z2⟩:=I.tuple (SqT.of f2);obtain⟨k',h1,h2⟩:=map_some h;obtain⟨e,h3,h4⟩:=fj h1;have l1:i.length=its.length:=e3.length.trans r1.length;have l2:j.length=jts.length:=f3.length.trans r2.length
   have he:∀ m (g1:m<its.toArray.size) (g2:m<jts.toArray.size),EqAt A.in1 s its.toArray[m] jts.toArray[m] (e m):=fun m g1 g2=>by
    rw[List.size_toArray]at g1 g2;obtain⟨w,w1,w2⟩:=e3.get (i:=m) (d:=i[m]'(by lia)) (by simp);obtain⟨w',w1',w2'⟩:=f3.get (i:=m) (d:=j[m]'(by lia)) (by simp);obtain⟨uu,b1,b2⟩:=r1.get w1;obtain⟨uu',b1',b2'⟩:=r2.get w1'
    have c1:its.toArray[m]=uu:=by simpa using(List.getElem?_eq_some_iff.mp b1).2
    have c2:jts.toArray[m]=uu':=by simpa using(List.getElem?_eq_some_iff.mp b1').2
    rw[c1,c2];exact(ih A.in1 _ _ w w' uu uu' (e m) (by show A.units+1+n<cLine;lia) w2 w2' b2 b2' (h4 m _ _ (by simp) (by simp))).2
   have main:RcAt A s (.ref p) (.ref q) k:=by
    have z:=RcAt.tuples (e:=e) t1 t2 (by lia) he;rw[List.size_toArray,List.size_toArray,<-l1,<-l2,<-h3,h2]at z;exact z
   refine⟨main,?_⟩;by_cases z:p=q
   ·subst z;rw[lz (n+1) _ _ _ k rx ry h];exact EqAt.same _
   ·exact EqAt.of_refs z main
  ·cases hn;obtain⟨p,xs,rfl,e2,e3⟩:=gc rx hx;obtain⟨q,ys,rfl,f2,f3⟩:=gc ry hy;cases qx;cases qy;obtain⟨its,r1,t1,z1⟩:=I.list (.inl e2);obtain⟨jts,r2,t2,z2⟩:=I.list (.inl f2);obtain⟨k',h1,h2⟩:=map_some h;obtain⟨e,h3,h4⟩:=fj h1;have l1:i.length=its.length:=e3.length.trans r1.length;have l2:j.length=jts.length:=f3.length.trans r2.length
   have he:∀ m (g1:m<its.toArray.size) (g2:m<jts.toArray.size),EqAt A.in1 s its.toArray[m] jts.toArray[m] (e m):=fun m g1 g2=>by
    rw[List.size_toArray]at g1 g2;obtain⟨w,w1,w2⟩:=e3.get (i:=m) (d:=i[m]'(by lia)) (by simp);obtain⟨w',w1',w2'⟩:=f3.get (i:=m) (d:=j[m]'(by lia)) (by simp);obtain⟨uu,b1,b2⟩:=r1.get w1;obtain⟨uu',b1',b2'⟩:=r2.get w1'
    have c1:its.toArray[m]=uu:=by simpa using(List.getElem?_eq_some_iff.mp b1).2
    have c2:jts.toArray[m]=uu':=by simpa using(List.getElem?_eq_some_iff.mp b1').2
    rw[c1,c2];exact(ih A.in1 _ _ w w' uu uu' (e m) (by show A.units+1+n<cLine;lia) w2 w2' b2 b2' (h4 m _ _ (by simp) (by simp))).2
   have main:RcAt A s (.ref p) (.ref q) k:=by
    by_cases hl:its.length=jts.length
    ·have z:=RcAt.lists (e:=e) t1.isList t2.isList (by rw[List.size_toArray,List.size_toArray];exact hl) (by lia) he;rw[List.size_toArray]at z
     have hk:k=(List.range its.length).all e:=by
      rw[<-h2,h3,l1,l2,hl];simp
     rw[hk];exact z
    ·have hk:k=false:=by
      rw[<-h2,l1,l2];simp[hl]
     rw[hk];exact RcAt.lists_lengths t1.isList t2.isList (by rw[List.size_toArray,List.size_toArray];simpa using hl) (by lia)
   refine⟨main,?_⟩;by_cases z:p=q
   ·subst z;rw[lz (n+1) _ _ _ k rx ry (by assumption)];exact EqAt.same _
   ·exact EqAt.of_refs z main
end rules
section rules
variable{X:Cx}
open SeqAt in
def BI(I:Inv X pins σ H s)(n:Nat)(A:Around)(x y:RL.D)(v u:V)(va ua:Value)(k:Bool)(hu:A.units+n<cLine)(rx:Rep nP X.K H x v)(ry:Rep nP X.K H y u)(qx:RelV v va)(qy:RelV u ua)
 (h:RL.eqD n x y=some k):RcNeAt A s va ua (!k):=by
 rcases eF h with⟨i,j,rfl,rfl,rfl⟩ | ⟨i,j,rfl,rfl,rfl⟩ | ⟨i,j,rfl,rfl,rfl⟩ | ⟨nn,i,j,hn,hx,hy,h⟩ | ⟨nn,i,j,hn,hx,hy,h5⟩
 ·rw[aW rx]at qx;rw[aW ry]at qy;cases qx;cases qy;exact RcNeAt.bool_bool i j
 ·rw[ai rx]at qx;rw[ai ry]at qy;obtain⟨t,rfl⟩:=qx;obtain⟨t',rfl⟩:=qy;exact RcNeAt.int_int i t j t'
 ·rw[aE rx]at qx;rw[aE ry]at qy;obtain⟨t,rfl⟩:=qx;obtain⟨t',rfl⟩:=qy;exact RcNeAt.str_str i t j t'
 ·subst hn;subst hx;subst hy;obtain⟨p,xs,rfl,e2,e3⟩:=bh rx;obtain⟨q,ys,rfl,f2,f3⟩:=bh ry;cases qx;cases qy;obtain⟨its,r1,t1,z1⟩:=I.tuple (SqT.of e2);obtain⟨jts,r2,t2,z2⟩:=I.tuple (SqT.of f2);obtain⟨k',h1,h2⟩:=map_some h;obtain⟨e,h3,h4⟩:=fj h1;have l1:i.length=its.length:=e3.length.trans r1.length;have l2:j.length=jts.length:=f3.length.trans r2.length
  have he:∀ m (g1:m<its.toArray.size) (g2:m<jts.toArray.size),EqAt A.in1 s its.toArray[m] jts.toArray[m] (e m):=fun m g1 g2=>by
   rw[List.size_toArray]at g1 g2;obtain⟨w,w1,w2⟩:=e3.get (i:=m) (d:=i[m]'(by lia)) (by simp);obtain⟨w',w1',w2'⟩:=f3.get (i:=m) (d:=j[m]'(by lia)) (by simp);obtain⟨uu,b1,b2⟩:=r1.get w1;obtain⟨uu',b1',b2'⟩:=r2.get w1'
   have c1:its.toArray[m]=uu:=by simpa using(List.getElem?_eq_some_iff.mp b1).2
   have c2:jts.toArray[m]=uu':=by simpa using(List.getElem?_eq_some_iff.mp b1').2
   rw[c1,c2];exact(deep I nn A.in1 _ _ w w' uu uu' (e m) (by show A.units+1+nn<cLine;lia) w2 w2' b2 b2' (h4 m _ _ (by simp) (by simp))).2
  have z:=RcNeAt.tuples (e:=e) t1 t2 (by lia) he;rw[List.size_toArray,List.size_toArray,<-l1,<-l2,<-h3,h2]at z;exact z
 ·subst hn;obtain⟨p,xs,rfl,e2,e3⟩:=gc rx hx;obtain⟨q,ys,rfl,f2,f3⟩:=gc ry hy;cases qx;cases qy;obtain⟨its,r1,t1,z1⟩:=I.list (.inl e2);obtain⟨jts,r2,t2,z2⟩:=I.list (.inl f2);obtain⟨k',h1,h2⟩:=map_some h5;obtain⟨e,h3,h4⟩:=fj h1;have l1:i.length=its.length:=e3.length.trans r1.length;have l2:j.length=jts.length:=f3.length.trans r2.length
  have he:∀ m (g1:m<its.toArray.size) (g2:m<jts.toArray.size),EqAt A.in1 s its.toArray[m] jts.toArray[m] (e m):=fun m g1 g2=>by
   rw[List.size_toArray]at g1 g2;obtain⟨w,w1,w2⟩:=e3.get (i:=m) (d:=i[m]'(by lia)) (by simp);obtain⟨w',w1',w2'⟩:=f3.get (i:=m) (d:=j[m]'(by lia)) (by simp);obtain⟨uu,b1,b2⟩:=r1.get w1;obtain⟨uu',b1',b2'⟩:=r2.get w1'
   have c1:its.toArray[m]=uu:=by simpa using(List.getElem?_eq_some_iff.mp b1).2
   have c2:jts.toArray[m]=uu':=by simpa using(List.getElem?_eq_some_iff.mp b1').2
   rw[c1,c2];exact(deep I nn A.in1 _ _ w w' uu uu' (e m) (by show A.units+1+nn<cLine;lia) w2 w2' b2 b2' (h4 m _ _ (by simp) (by simp))).2
  by_cases hl:its.length=jts.length
  ·have z:=RcNeAt.lists (e:=e) t1.isList t2.isList (by rw[List.size_toArray,List.size_toArray];exact hl) (by lia) he;rw[List.size_toArray]at z
   have hk:k=(List.range its.length).all e:=by
    rw[<-h2,h3,l1,l2,hl];simp
   rw[hk];exact z
  ·have hk:k=false:=by
    rw[<-h2,l1,l2];simp[hl]
   rw[hk];exact RcNeAt.lists_lengths t1.isList t2.isList (by rw[List.size_toArray,List.size_toArray];simpa using hl) (by lia)
abbrev bZ:RL.Cop->CmpOp
 | .lt=>.Lt
 | .le=>.LtE
 | .gt=>.Gt
 | .ge=>.GtE
 | .eq=>.Eq
 | .ne=>.NotEq
abbrev rf(K:PySem.W.Frag)(c:RL.Cop):R2:=fun v u H Q=>∃ x y k,Rep nP K H x v/\Rep nP K H y u/\RL.bN c x y=some k/\Q (.bl k) H
def gQ{c:RL.Cop}(hc:c≠.eq)(hc2:c≠.ne)(h:RL.bN c x y=some k):∃ i j,x=.int i/\y=.int j:=by
 have no:∀ {a b:RL.D},RL.bN .lt a b=none->RL.bN .le a b=none->RL.bN .gt a b=none->RL.bN .ge a b=none->RL.bN c a b=some k->False:=fun e1 e2 e3 e4 h=>by
  cases c with
  | eq=>exact hc rfl
  | ne=>exact hc2 rfl
  | lt=>rw[e1]at h;cases h
  | le=>rw[e2]at h;cases h
  | gt=>rw[e3]at h;cases h
  | ge=>rw[e4]at h;cases h
 cases x with
 | int i=>cases y with
  | int j=>exact⟨_,_,rfl,rfl⟩
  | _=>exact(no rfl rfl rfl rfl h).elim
 | _=>exact(no rfl rfl rfl rfl h).elim
def eA{c:RL.Cop}(hu:X.A.units+100<cLine):OpR X (compareOp (bZ c)) (rf X.K c):=by
 intro pins s σ H x y v u Q I rx ry h;obtain⟨dx,dy,k,ex,ey,e,q⟩:=h
 have fin:EP X pins σ Q (.bool k) s:=⟨.bl k,H,I,rfl,q⟩
 cases c with
 |eq=>
  have e:RL.eqD 8 dx dy=some k:=e;exact(deep I 8 X.A dx dy x y v u k (by lia) ex ey rx ry e).1 X.prog X.w X.xe _ fin
 |ne=>
  obtain⟨k',e1,e2⟩:=map_some (show(RL.eqD 8 dx dy).map not=some k from e);subst e2;exact BI I 8 X.A dx dy x y v u k' (by lia) ex ey rx ry e1 X.prog X.w X.xe _ fin
 |lt=>
  obtain⟨i,j,rfl,rfl⟩:=gQ (by decide) (by decide) e;cases e;rw[ai ex]at rx;rw[ai ey]at ry;obtain⟨t,rfl⟩:=rx;obtain⟨t',rfl⟩:=ry;exact lt_int fin
 |le=>
  obtain⟨i,j,rfl,rfl⟩:=gQ (by decide) (by decide) e;cases e;rw[ai ex]at rx;rw[ai ey]at ry;obtain⟨t,rfl⟩:=rx;obtain⟨t',rfl⟩:=ry;exact le_int fin
 |gt=>
  obtain⟨i,j,rfl,rfl⟩:=gQ (by decide) (by decide) e;cases e;rw[ai ex]at rx;rw[ai ey]at ry;obtain⟨t,rfl⟩:=rx;obtain⟨t',rfl⟩:=ry;exact gt_int fin
 |ge=>
  obtain⟨i,j,rfl,rfl⟩:=gQ (by decide) (by decide) e;cases e;rw[ai ex]at rx;rw[ai ey]at ry;obtain⟨t,rfl⟩:=rx;obtain⟨t',rfl⟩:=ry;exact ge_int fin
def dH{c:RL.Cop}(b:Expr):behindInMarks (bZ c) b=false:=by cases c<;>exact tL b (by decide) (by decide)
def rB{c:RL.Cop}(h:∃ σD d,RV0 X.K σD σ H/\RL.ev cl σD (.cmp c a' b')=some d/\∀ H',aA H H'->∃ k,d=.bl k/\Q (.bl k) H'):tOp (rf X.K c) (tE X.K cl a') (tE X.K cl b') σ H Q:=by
 obtain⟨σD,d,rv,e,k⟩:=h;obtain⟨x,ea,e⟩:=bind_some e;obtain⟨y,eb,e⟩:=bind_some e;obtain⟨t,e1,e2⟩:=map_some e;refine two rv ea eb fun v u H1 H2 s1 s2 rx ry _ _=>?_;obtain⟨k',h1,h2⟩:=k H2 (s1.trans s2);rw[h1]at e2;cases e2;exact⟨x,y,t,rx,ry,e1,h2⟩
def lx{c:RL.Cop}(e:RL.ev cl σD (.cmp c a' b')=some d):∃ k,d=.bl k:=by
 obtain⟨x,ea,e⟩:=bind_some e;obtain⟨y,eb,e⟩:=bind_some e;obtain⟨t,e1,e2⟩:=map_some e;exact⟨t,e2.symm⟩
def A6{c:RL.Cop}(hu:X.A.units+100<cLine)(ha:SE X cl a a')(hb:SE X cl b b'):SE X cl (.Compare a [bZ c] [b] pos) (.cmp c a' b'):=by
 refine PE.weak (pd (eA hu) ha hb (dH b)) fun σ H Q h=>?_;obtain⟨σD,d,rv,e,k⟩:=h;obtain⟨t,rfl⟩:=lx e;exact rB ⟨σD,_,rv,e,fun H' sm=>⟨t,rfl,k _ _ (dE sm)⟩⟩
def tD{c:RL.Cop}(hu:X.A.units+100<cLine)(ha:SE X cl a a')(hb:SE X cl b b'):ST X cl (.Compare a [bZ c] [b] pos) (.cmp c a' b'):=by
 refine PT.weak (gm (eA hu) ha hb (dH b)) fun σ H Q h=>?_;obtain⟨σD,k,rv,e,q⟩:=h;obtain⟨d,e1,e2⟩:=bind_some e;obtain⟨t,rfl⟩:=lx e1;cases e2;exact rB ⟨σD,_,rv,e1,fun H' sm=>⟨k,rfl,k,rfl,q H' sm⟩⟩
def wR{c c':RL.Cop}(b e:Expr):lastMarks [bZ c,bZ c'] [b,e]=false:=by
 show behindInMarks (bZ c') e=false;exact dH e
def iH{c c':RL.Cop}(h:RL.ev cl σD (.chain c c' a' b' e')=some d):∃ k,d=.bl k:=by
 obtain⟨x,ea,h⟩:=bind_some h;obtain⟨y,eb,h⟩:=bind_some h;obtain⟨t,e1,h⟩:=bind_some h
 cases t with
 |true=>
  obtain⟨z,ec,h⟩:=bind_some (show(RL.ev cl σD e').bind _=some d from h);obtain⟨t,e1,e2⟩:=map_some h;exact⟨t,e2.symm⟩
 | false=>exact⟨false,(Option.some.inj (show some (RL.D.bl false)=some d from h)).symm⟩
def mE{c c':RL.Cop}(h:∃ σD k,RV0 X.K σD σ H/\RL.ev cl σD (.chain c c' a' b' e')=some (.bl k)/\∀ H',aA H H'->Q (.bl k) H') :
  nk (rf X.K c) (rf X.K c') (tE X.K cl a') (tE X.K cl b') (tE X.K cl e') σ H Q:=by
 obtain⟨σD,k,rv,h,q⟩:=h;obtain⟨x,ea,h⟩:=bind_some h;obtain⟨y,eb,h⟩:=bind_some h;obtain⟨t,e1,h⟩:=bind_some h;refine two rv ea eb fun v u H1 H2 s1 s2 rx ry _ _=>?_;refine⟨x,y,t,rx,ry,e1,t,rfl,?_⟩;have sm:=s1.trans s2
 cases t with
 |true=>
  rw[if_pos rfl]at h;obtain⟨z,ec,h⟩:=bind_some h;obtain⟨t,e3,e2⟩:=map_some h;cases e2;exact dF ⟨σD,z,rv.same sm,ec,fun w H3 r3=>⟨y,z,k,ry.same r3.same,r3.rep,e3,q H3 (sm.trans r3.same)⟩⟩
 |false=>
  rw[if_neg (by decide)]at h;cases h;exact dR (q H2 sm)
def uW{c c':RL.Cop}(hu:X.A.units+100<cLine)(ha:SE X cl a a')(hb:SE X cl b b')(he:SE X cl e e'):SE X cl (.Compare a [bZ c,bZ c'] [b,e] pos) (.chain c c' a' b' e'):=by
 refine PE.weak (ud (eA hu) (eA hu) ha hb he (wR b e)) fun σ H Q h=>?_;obtain⟨σD,d,rv,h,k⟩:=h;obtain⟨t,rfl⟩:=iH h;exact mE ⟨σD,t,rv,h,fun H' sm=>k _ _ (dE sm)⟩
def uP{c c':RL.Cop}(hu:X.A.units+100<cLine)(ha:SE X cl a a')(hb:SE X cl b b')(he:SE X cl e e'):ST X cl (.Compare a [bZ c,bZ c'] [b,e] pos) (.chain c c' a' b' e'):=by
 refine PT.weak (vK (eA hu) (eA hu) ha hb he (wR b e)) fun σ H Q h=>?_;obtain⟨σD,k,rv,h,q⟩:=h;obtain⟨d,e1,e2⟩:=bind_some h;obtain⟨t,rfl⟩:=iH e1;cases e2;exact mE ⟨σD,k,rv,e1,fun H' sm=>⟨k,rfl,q H' sm⟩⟩
end rules
section rules
variable{X:Cx}
def dm{P:Addr->Prop}{K:PySem.W.Frag}(h:RL.items d=some ds)(r:Rep P K H d v):∃ p xs,v=.ref p/\((H p=some (.lst xs)/\d=.lst ds)\/(H p=some (.tup xs)/\d=.tup ds)\/((∃ o,H p=some (.frz o (.lst xs)))/\d=.fL ds))/\ag P K H ds xs:=by
 cases d<;>simp only[RL.items]at h<;>first | (cases h;done) | skip
 case lst ys=>cases h;obtain⟨p,xs,e1,_,e2,e3⟩:=aM r;exact⟨p,xs,e1,.inl ⟨e2,rfl⟩,e3⟩
 case tup ys=>cases h;obtain⟨p,xs,e1,e2,e3⟩:=bh r;exact⟨p,xs,e1,.inr (.inl ⟨e2,rfl⟩),e3⟩
 case fL ys=>cases h;rw[Rep]at r;obtain⟨p,o,xs,e1,e2,e3⟩:=r;exact⟨p,xs,e1,.inr (.inr ⟨⟨o,e2⟩,rfl⟩),e3⟩
def pC{P:Addr->Prop}{K:PySem.W.Frag}(h:RL.flat d=true)(r:Rep P K H d v):eh v=true/\∀ d' v',RL.flat d'=true->Rep P K H d' v'->RL.eqF d d'=eqV v v':=by
 cases d<;>simp only[RL.flat]at h<;>first | (cases h;done) | skip
 case int i =>
  rw[ai r];refine⟨rfl,fun d' v' h' r'=>?_⟩
  cases d'<;>simp only[RL.flat]at h'<;>first | (cases h';done) | skip
  case int j=>rw[ai r'];simp[RL.eqF,eqV]
  case str j=>rw[aE r'];simp[RL.eqF,eqV]
 case str i =>
  rw[aE r];refine⟨rfl,fun d' v' h' r'=>?_⟩
  cases d'<;>simp only[RL.flat]at h'<;>first | (cases h';done) | skip
  case int j=>rw[ai r'];simp[RL.eqF,eqV]
  case str j=>rw[aE r'];simp[RL.eqF,eqV]
def nK{P:Addr->Prop}{K:PySem.W.Frag}(hf:RL.flat d=true)(r:Rep P K H d v):∀ {ds:List RL.D} {xs:List V},ds.all RL.flat=true->ag P K H ds xs->xs.all eh=true/\(ds.any fun x=>RL.eqF x d)=inV v xs
 | [],xs,_,h=>by rw[ag]at h;subst h;exact⟨rfl,rfl⟩
 | e::t,xs,ha,h=>by
  rw[ag]at h;obtain⟨x,ys,rfl,e2,e3⟩:=h;rw[List.all_cons,Bool.and_eq_true]at ha;obtain⟨h1,h2⟩:=nK hf r ha.2 e3;obtain⟨h3,h4⟩:=pC ha.1 e2;refine⟨by rw[List.all_cons,h3,h1];rfl,?_⟩;rw[List.any_cons,h2,h4 d v hf r];rfl
def sF:OpR X (compareOp (if neg then .NotIn else .In)) (rIn X.K neg):=by
 cases neg with
 | true=>exact nv
 | false=>exact sX
def tw(rv:RV0 X.K σD σ H)(e:RL.ev cl σD (.inn neg a' b')=some d)(k:∀ t H',d=.bl t->aA H H'->Q (.bl t) H'):tOp (rIn X.K neg) (tE X.K cl a') (tE X.K cl b') σ H Q:=by
 obtain⟨x,ea,e⟩:=bind_some e;obtain⟨y,eb,e⟩:=bind_some e;obtain⟨t,e1,e2⟩:=map_some e;unfold RL.inV at e1;obtain⟨ds,e3,e4⟩:=bind_some e1;by_cases hc:(RL.flat x&&ds.all RL.flat)=true
 ·rw[if_pos hc]at e4;cases e4;rw[Bool.and_eq_true]at hc;refine two rv ea eb fun v u H1 H2 s1 s2 rx ry _ _=>?_;obtain⟨p,xs,rfl,hp,rs⟩:=dm e3 ry;obtain⟨h1,h2⟩:=nK hc.1 rx hc.2 rs;refine⟨p,xs,rfl,?_,(pC hc.1 rx).1,h1,?_⟩
  ·rcases hp with⟨z,_⟩ | ⟨z,_⟩ | ⟨⟨o,z⟩,_⟩
   ·exact .inl (SqL.of z)
   ·exact .inr (SqT.of z)
   ·exact .inl (.inl (.inr ⟨o,z⟩))
  ·refine k _ _ ?_ (s1.trans s2);rw[<-e2,h2]
 ·rw[if_neg hc]at e4;cases e4
abbrev pU:Expr->Bool
 | .Set _ _ _=>false
 | _=>true
def lb(h:pU b=true):behindInMarks op b=false:=by
 cases b<;>first | rfl | (cases h)
def zC(ha:SE X cl a a')(hb:SE X cl b b')(hm:pU b=true):SE X cl (.Compare a [if neg then .NotIn else .In] [b] pos) (.inn neg a' b'):=by
 refine PE.weak (pd sF ha hb (lb hm)) fun σ H Q h=>?_;obtain⟨σD,d,rv,e,q⟩:=h
 exact tw rv e fun t H' hd sm=>by subst hd;exact q _ _ (dE sm)
def AU(ha:SE X cl a a')(hb:SE X cl b b')(hm:pU b=true):ST X cl (.Compare a [if neg then .NotIn else .In] [b] pos) (.inn neg a' b'):=by
 refine PT.weak (gm sF ha hb (lb hm)) fun σ H Q h=>?_;obtain⟨σD,k,rv,e,q⟩:=h;obtain⟨d,e1,e2⟩:=bind_some e;refine tw rv e1 fun t H' hd sm=>?_;subst hd;cases e2;exact⟨_,rfl,q _ sm⟩
abbrev spF(K:PySem.W.Frag)(cl:RL.Cl)(f:Nat):Sp:=fun vs H Q _=>∃ ds d,ag nP K H ds vs/\cl f ds=some d/\∀ v H',aA H H'->Rep (fun p=>H p≠none) K H' d v->Q v H'
def xF(F:aR X.prog X.w X.K X.mg X.base CX0 k fa fd ps (spF X.K cl f))(hr:aT k X.A)(hg:Gl X x)
 (hm:X.mg x=some (.ref fa))(hk:PySem.W.keepIn X.K (.ref fa)=true)(hb:Binds X.K fd ps [])(he:SEs X cl (e::es) (.cons e' es'))(hdb:(x == ("__debug__" : Str))=false)(hn:noStar e=true)(hns:es.all noStar=true) :
  SE X cl (.Call (.Name x p) (e::es) [] pos) (.call f (.cons e' es')):=by
 refine PE.weak (kg F hr hg hm hk hb .nil jH he hdb (az es hn) (cC hns)) fun σ H Q h=>?_;obtain⟨σD,d,rv,ev,q⟩:=h;obtain⟨ds,e1,e2⟩:=bind_some ev;refine⟨σD,ds,rv,e1,fun vs H1 s1 r1=>?_⟩;show spF X.K cl f (vs++[]) H1 Q E0;rw[List.append_nil];refine⟨ds,d,r1,e2,fun v H2 s2 r2=>q v H2 ⟨s1.trans s2,r2.none,fun _ m a z=>?_,fun M _ P hP _=>?_⟩⟩
 ·subst z
  have hh:H1 a=none:=by
   cases d with
   | lst ds=>obtain⟨p,xs,e1,e2,_⟩:=aM r2;cases e1;exact Classical.byContradiction e2
   | dK ks ds=>rw[Rep]at r2;obtain⟨p,xs,e1,e2,_⟩:=r2;cases e1;exact Classical.byContradiction e2
   | dT ks ds=>rw[Rep]at r2;obtain⟨p,xs,e1,e2,_⟩:=r2;cases e1;exact Classical.byContradiction e2
   | _=>cases m
  exact s1.free hh
 ·refine r2.weak fun a z=>?_;obtain⟨o,ho⟩:=Option.ne_none_iff_exists'.mp (hP a z);rw[s1 _ _ ho]
  exact fun q=>nomatch q
end rules
abbrev Off(P:Addr->Prop)(H H':Hp):Prop:=∀ b o,¬ P b->H b=some o->H' b=some o
def Off.same{H H':Hp}(h:aA H H'){P:Addr->Prop}:Off P H H':=fun b o _ e=>h b o e
mutual
theorem Rep.off{P:Addr->Prop}{K:PySem.W.Frag}{H H':Hp}(hm:∀ b o,P b->H b=some o->cw o)(k:Off P H H'):∀ {d:RL.D} {v:V},Rep P K H d v->Rep P K H' d v
 | .non,v,h=>by simpa[Rep]using h
 | .bl _,v,h=>by simpa[Rep]using h
 | .int _,v,h=>by simpa[Rep]using h
 | .str _,v,h=>by simpa[Rep]using h
 | .tup ds,v,h=>by
  rw[Rep]at h ⊢;obtain⟨b,xs,e1,e2,e3⟩:=h
  have n:¬ P b:=fun p=>by rcases hm b _ p e2 with⟨z,q⟩ | ⟨z,q⟩ | ⟨z,q⟩<;>cases q
  exact⟨b,xs,e1,k _ _ n e2,ag.off hm k e3⟩
 | .lst ds,v,h=>by
  rw[Rep]at h ⊢;obtain⟨b,xs,e1,e0,e2,e3⟩:=h;exact⟨b,xs,e1,e0,k _ _ e0 e2,ag.off hm k e3⟩
 | .dK ks ds,v,h=>by
  rw[Rep]at h ⊢;obtain⟨b,xs,e1,e0,e2,el,e3⟩:=h;exact⟨b,xs,e1,e0,k _ _ e0 e2,el,ag.off hm k e3⟩
 | .dT ks ds,v,h=>by
  rw[Rep]at h ⊢;obtain⟨b,xs,e1,e0,e2,el,e3⟩:=h;exact⟨b,xs,e1,e0,k _ _ e0 e2,el,ag.off hm k e3⟩
 | .scr ds,v,h=>by
  rw[Rep]at h ⊢;obtain⟨b,xs,e1,e2,e3⟩:=h;refine⟨b,xs,e1,?_,ag.off hm k e3⟩;rcases e2 with⟨q,e2⟩ | e2
  ·have n:¬ P b:=fun p=>by rcases hm b _ p e2 with⟨z,q⟩ | ⟨z,q⟩ | ⟨z,q⟩<;>cases q
   exact .inl ⟨q,k _ _ n e2⟩
  ·exact .inr e2
 | .obj,v,h=>by rw[Rep]at h ⊢;exact h
 | .exc c,v,h=>by
  rw[Rep]at h ⊢;exact h.keep fun b ob u q=>k _ _ (fun p=>by rcases hm b _ p q with⟨z,y⟩ | ⟨z,y⟩ | ⟨z,y⟩<;>cases y) q
 | .fT ks ds,v,h=>by
  rw[Rep]at h ⊢;obtain⟨b,ob,xs,e1,e2,el,e3⟩:=h;exact⟨b,ob,xs,e1,k _ _ (fun p=>by rcases hm b _ p e2 with⟨z,y⟩ | ⟨z,y⟩ | ⟨z,y⟩<;>cases y) e2,el,ag.off hm k e3⟩
 | .fL ds,v,h=>by
  rw[Rep]at h ⊢;obtain⟨b,ob,xs,e1,e2,e3⟩:=h;exact⟨b,ob,xs,e1,k _ _ (fun p=>by rcases hm b _ p e2 with⟨z,y⟩ | ⟨z,y⟩ | ⟨z,y⟩<;>cases y) e2,ag.off hm k e3⟩
theorem ag.off{P:Addr->Prop}{K:PySem.W.Frag}{H H':Hp}(hm:∀ b o,P b->H b=some o->cw o)(k:Off P H H'):∀ {ds:List RL.D} {xs:List V},ag P K H ds xs->ag P K H' ds xs
 | [],xs,h=>by rw[ag]at h ⊢;exact h
 | d::r,xs,h=>by
  rw[ag]at h ⊢;obtain⟨x,t,e1,e2,e3⟩:=h;exact⟨x,t,e1,Rep.off hm k e2,ag.off hm k e3⟩
end
structure eJ(K:PySem.W.Frag)(J:L2.It)(ds:List RL.D)(P:Addr->Prop)(H:Hp):Prop where
 go:∀ H' i,Off P H H'->i<ds.length->J.go i H'
 stop:∀ H',Off P H H'->J.stop ds.length H'
 yld:∀ H' i d x H2,Off P H H'->ds[i]?=some d->J.yld i H' x H2->aA H' H2/\(d.imm=true\/aA H H'->Rep nP K H2 d x)
abbrev wW(K:PySem.W.Frag)(σD:RL.St)(σ:L2.St)(H:Hp)(it:RL.It)(J:L2.It)(ds:List RL.D)(H1:Hp):Prop :=
 eJ K J ds nP H1/\∀ (M:List Nat) (P:Addr->Prop),RL.mw M it=true->(∀ b,P b->∃ o,H b=some o/\cw o)->(∀ (j:Nat) (dj:RL.D) (vj:V),M.contains j=false->σD[j]?=some (some dj)->σ[j]?=some (some vj)->Rep P K H dj vj)->eJ K J ds P H1
abbrev tI(K:PySem.W.Frag)(cl:RL.Cl)(it:RL.It):TI:=fun σ H R=>∃ σD ds,RV0 K σD σ H/\RL.dS cl σD it=some ds/\∀ J H1,aA H H1->wW K σD σ H it J ds H1->R J H1
abbrev SI(X:Cx)(cl:RL.Cl)(tg iter:Expr)(it:RL.It):Prop:=PI X tg iter (tI X.K cl it)
def PI.weak{X:Cx}{tg iter:Expr}{t t':TI}(h:PI X tg iter t)(w:∀ σ H R,t' σ H R->t σ H R):PI X tg iter t':=fun pins s σ H R I q=>h pins s σ H R I (w σ H R q)
def dW{K:PySem.W.Frag}{P:Addr->Prop}{H H':Hp}{d:RL.D}{v:V}(hm:∀ b o,P b->H b=some o->cw o)(k:Off P H H')(r:Rep nP K H d v)(i:d.imm=true):Rep nP K H' d v :=
 ((r.imm i).off hm k).imm i
def pE{K:PySem.W.Frag}{H:Hp}{a:Addr}{ds:List RL.D}{xs:List V}{P:Addr->Prop}(h:H a=some (.lst xs))(r:ag nP K H ds xs)(hp:¬ P a)(hm:∀ b o,P b->H b=some o->cw o):eJ K (Itl K a) ds P H where
 go:=fun H' i k hi=>by
  obtain⟨x,e,_⟩:=r.get (i:=i) (d:=ds[i]) (by simp[hi]);exact⟨xs,x,SqL.of (k _ _ hp h),e⟩
 stop:=fun H' k=>⟨xs,SqL.of (k _ _ hp h),by rw[r.length];exact Nat.le_refl _⟩
 yld:=fun H' i d x H2 k e y=>by
  obtain⟨z,y⟩:=y;subst z;have hx:=y xs (SqL.of (k _ _ hp h));obtain⟨x',e1,e2⟩:=r.get e;rw[hx]at e1;cases e1;refine⟨aA.refl _,fun q=>?_⟩;rcases q with q | q
  ·exact dW hm k e2 q
  ·exact e2.same q
def si{K:PySem.W.Frag}{H:Hp}{a:Addr}{ds:List RL.D}{xs:List V}{P:Addr->Prop}(h:H a=some (.frz o (.lst xs)))(r:ag nP K H ds xs)(hm:∀ b o,P b->H b=some o->cw o):eJ K (Itl K a) ds P H:=by
 have kp:∀ H',Off P H H'->SqL K H' a xs:=fun H' k=>by
  exact .inl (.inr ⟨o,k _ _ (fun p=>by rcases hm a _ p h with⟨z,q⟩ | ⟨z,q⟩ | ⟨z,q⟩<;>cases q) h⟩)
 exact {
  go:=fun H' i k hi=>by
   obtain⟨x,e,_⟩:=r.get (i:=i) (d:=ds[i]) (by simp[hi]);exact⟨xs,x,kp _ k,e⟩
  stop:=fun H' k=>⟨xs,kp _ k,by rw[r.length];exact Nat.le_refl _⟩
  yld:=fun H' i d x H2 k e y=>by
   obtain⟨z,y⟩:=y;subst z;have hx:=y xs (kp _ k);obtain⟨x',e1,e2⟩:=r.get e;rw[hx]at e1;cases e1;refine⟨aA.refl _,fun q=>?_⟩;rcases q with q | q
   ·exact dW hm k e2 q
   ·exact e2.same q }
def se{K:PySem.W.Frag}{H:Hp}{a:Addr}{ds:List RL.D}{xs:List V}{P:Addr->Prop}(h:H a=some (.tup xs))(r:ag nP K H ds xs)(hm:∀ b o,P b->H b=some o->cw o):eJ K (Itt K a) ds P H:=by
 have hp:¬ P a:=fun p=>by rcases hm a _ p h with⟨z,q⟩ | ⟨z,q⟩ | ⟨z,q⟩<;>cases q
 exact {
  go:=fun H' i k hi=>by
   obtain⟨x,e,_⟩:=r.get (i:=i) (d:=ds[i]) (by simp[hi]);exact⟨xs,x,SqT.of (k _ _ hp h),e⟩
  stop:=fun H' k=>⟨xs,SqT.of (k _ _ hp h),by rw[r.length];exact Nat.le_refl _⟩
  yld:=fun H' i d x H2 k e y=>by
   obtain⟨z,y⟩:=y;subst z;have hx:=y xs (SqT.of (k _ _ hp h));obtain⟨x',e1,e2⟩:=r.get e;rw[hx]at e1;cases e1;refine⟨aA.refl _,fun q=>?_⟩;rcases q with q | q
   ·exact dW hm k e2 q
   ·exact e2.same q }
def jq:∀ (n:Nat) (lo:Int) (i:Nat) (d:RL.D),(RL.bw lo n)[i]?=some d->d=.int (lo+i)
 | 0,lo,i,d,h=>by simp[RL.bw]at h
 | n+1,lo,0,d,h=>by simp[RL.bw]at h;simp[h]
 | n+1,lo,i+1,d,h=>by
  rw[RL.bw,List.getElem?_cons_succ]at h;rw[jq n (lo+1) i d h];congr 1;lia
def gD:∀ (n:Nat) (lo:Int),(RL.bw lo n).length=n
 | 0,_=>rfl
 | n+1,lo=>by rw[RL.bw,List.length_cons,gD n]
def j6{K:PySem.W.Frag}{H:Hp}{lo:Int}{n:Nat}{P:Addr->Prop}:eJ K (Itr lo n) (RL.bw lo n) P H where
 go:=fun H' i k hi=>by rw[gD]at hi;exact hi
 stop:=fun H' k=>by rw[gD];exact Nat.le_refl _
 yld:=fun H' i d x H2 k e y=>by
  obtain⟨z,y⟩:=y;subst z;refine⟨aA.refl _,fun _=>?_⟩;rw[jq n lo i d e,y];exact aV
section rules
variable{X:Cx}{cl:RL.Cl}{tg a b l:Expr}{a' b' e':RL.E}{pos p:Pos}
def Cb{t t':TE}{l:Expr}(hl:PE X l t):PI X tg l (fun σ H R=>t σ H fun x H1=>(∃ a,x=.ref a/\(∃ xs,SqL X.K H1 a xs)/\R (Itl X.K a) H1)\/(∃ a,x=.ref a/\(∃ xs,SqT X.K H1 a xs)/\R (Itt X.K a) H1)):=by
 intro pins s σ H R I h;refine thn (hl pins s σ H _ I h) fun v s1 ⟨x,H1,I1,r1,q1⟩=>?_
 rcases q1 with⟨a,e,⟨xs,hq⟩,q⟩ | ⟨a,e,⟨xs,hq⟩,q⟩
 ·subst e;cases r1;obtain⟨its,rv,p,hz⟩:=I1.list hq;refine wpAny_pyIter_list p.isList ⟨s1.heap.objs.size,[s1.heap.objs.size],_,_,H1,rfl,I1.kept (t':=s1.toks) fun b o e=>Heap.get?_push_of_some _ e,sQ a _,⟨_,Heap.get?_push_size _ rfl,rfl,rfl⟩,fun b hb=>?_,q⟩;rw[show b=s1.heap.objs.size by simpa using hb];exact I1.ja (Nat.le_refl _) (I1.hok.fresh (Nat.le_refl _))
 ·subst e;cases r1;obtain⟨its,rv,p,hz⟩:=I1.tuple hq;refine wpAny_pyIter_tuple (show s1.heap.IsTuple a its.toArray from p) ⟨s1.heap.objs.size,[s1.heap.objs.size],_,_,H1,rfl,I1.kept (t':=s1.toks) fun b o e=>Heap.get?_push_of_some _ e,qL a _,⟨_,Heap.get?_push_size _ rfl,rfl,rfl⟩,fun b hb=>?_,q⟩;rw[show b=s1.heap.objs.size by simpa using hb];exact I1.ja (Nat.le_refl _) (I1.hok.fresh (Nat.le_refl _))
def jz{σD:RL.St}{σ:L2.St}{H H1:Hp}{d:RL.D}{v:V}{M:List Nat}{P:Addr->Prop}(r1:Res X.K σD σ H e' d v H1)(z:(RL.avE M e' || RL.aI e')=true)(hP:∀ b,P b->∃ o,H b=some o/\cw o)
 (av:∀ (j:Nat) (dj:RL.D) (vj:V),M.contains j=false->σD[j]?=some (some dj)->σ[j]?=some (some vj)->Rep P X.K H dj vj):∀ ds a,d=.lst ds->v=.ref a->¬ P a:=by
 intro ds a hd hv;subst hd hv;rw[Bool.or_eq_true]at z;rcases z with z | z
 ·obtain⟨p,xs,e1,e2,_⟩:=aM (r1.av M z P (fun b q=>by obtain⟨o,ho,_⟩:=hP b q;rw[ho];exact fun z=>nomatch z) av);cases e1;exact e2
 ·intro q;obtain⟨o,ho,_⟩:=hP a q;rw[r1.fresh z rfl a rfl]at ho;cases ho
def cS{P:Addr->Prop}{H H1:Hp}(s:aA H H1)(hP:∀ b,P b->∃ o,H b=some o/\cw o):∀ b o,P b->H1 b=some o->cw o:=fun b o q e=>by
 obtain⟨o',ho,m⟩:=hP b q;rw[s _ _ ho]at e;cases e;exact m
def eG{H1:Hp}:∀ b o,nP b->H1 b=some o->cw o:=fun b o q=>q.elim
def Bh(hl:SE X cl l e')(hs:True):PI X tg l (fun σ H R=>∃ σD d ds,RV0 X.K σD σ H/\RL.ev cl σD e'=some d/\RL.j5 d=some ds/\∀ J H1,aA H H1->wW X.K σD σ H (.seq e') J ds H1->R J H1):=by
 refine PI.weak (Cb (t':=tE X.K cl e') hl) fun σ H R h=>?_;obtain⟨σD,d,ds,rv,e,ei,k⟩:=h;refine⟨σD,d,rv,e,fun v H1 r1=>?_⟩
 cases d with
 |fL es=>
  cases ei;have r:=r1.rep;rw[Rep]at r;obtain⟨p,ob,xs,rfl,hp,rs⟩:=r;exact .inl ⟨p,rfl,⟨xs,.inl (.inr ⟨ob,hp⟩)⟩,k _ _ r1.same ⟨si hp rs eG,fun M P z hP av=>si hp rs (cS r1.same hP)⟩⟩
 |lst es=>
  obtain⟨p,xs,rfl,hp,rs⟩:=dm (show RL.items (.lst es)=some ds from ei) r1.rep
  rcases hp with⟨hp,e9⟩ | ⟨hp,e9⟩ | ⟨hp,e9⟩
  ·cases e9;exact .inl ⟨p,rfl,⟨xs,SqL.of hp⟩,k _ _ r1.same ⟨pE hp rs (fun z=>z) eG,fun M P z hP av=>pE hp rs (jz r1 z hP av _ _ rfl rfl) (cS r1.same hP)⟩⟩
  ·cases e9
  ·cases e9
 |tup es=>
  obtain⟨p,xs,rfl,hp,rs⟩:=dm (show RL.items (.tup es)=some ds from ei) r1.rep
  rcases hp with⟨hp,e9⟩ | ⟨hp,e9⟩ | ⟨hp,e9⟩
  ·cases e9
  ·exact .inr ⟨p,rfl,⟨xs,SqT.of hp⟩,k _ _ r1.same ⟨se hp rs eG,fun M P z hP av=>se hp rs (cS r1.same hP)⟩⟩
  ·cases e9
 | _=>cases ei
def j2{x y:RL.D}{ds:List RL.D}(h:RL.dX x y=some ds):∃ i j:Int,x=.int i/\y=.int j/\(-(2 ^ 62)<=i/\i<2 ^ 62/\-(2 ^ 62)<=j/\j<2 ^ 62)/\(j-i).toNat<=RL.most/\ds=RL.bw i (j-i).toNat:=by
 have no:∀ {o:Option (List RL.D)},o=none->o=some ds->False:=fun e h=>by rw[e]at h;cases h
 cases x with
 | int i=>cases y with
  |int j=>
   obtain⟨hc,e⟩:=bG h
   have lo:-(2 ^ 62:Int)<=-(2 ^ 60):=by decide
   have hi:(2 ^ 60:Int)<2 ^ 62:=by decide
   exact⟨i,j,rfl,rfl,⟨Int.le_trans lo hc.2.1,Int.lt_trans hc.2.2.1 hi,Int.le_trans lo hc.2.2.2.1,Int.lt_trans hc.2.2.2.2 hi⟩,hc.1,e⟩
  | _=>exact(no rfl h).elim
 | _=>exact(no rfl h).elim
def yk(hg:Gl X "range")(hm:X.mg "range" = none)(ha:SE X cl a a')(hn:noStar a=true):SI X cl tg (.Call (.Name "range" p) [a] [] pos) (.rng1 a'):=by
 refine PI.weak (r8 hg hm (cm (cl:=cl) ha dA hn) (az [] hn)) fun σ H R h=>?_;obtain⟨σD,ds,rv,e,k⟩:=h;obtain⟨x,ea,e⟩:=bind_some e;obtain⟨i,j,e1,rfl,hb,_,rfl⟩:=j2 e;cases e1;refine⟨σD,[.int j],rv,by rw[RL.evs,ea];rfl,fun vs H1 s1 r1=>?_⟩;rw[ag]at r1;obtain⟨v,t,rfl,r2,r3⟩:=r1;rw[ag]at r3;subst r3;refine⟨j,by rw[ai r2],hb.2.2.1,hb.2.2.2,?_⟩
 have hz:(j-0).toNat=j.toNat:=by simp
 rw[hz]at k;exact k _ _ s1 ⟨j6,fun _ _ _ _ _=>j6⟩
def yr(hg:Gl X "range")(hm:X.mg "range" = none)(ha:SE X cl a a')(hb:SE X cl b b')(hn:noStar a=true)(hn2:noStar b=true):SI X cl tg (.Call (.Name "range" p) [a,b] [] pos) (.rng2 a' b'):=by
 refine PI.weak (sG hg hm (cm (cl:=cl) ha (cm hb dA hn2) hn) (by rw[az _ hn,az _ hn2];rfl) (az [] hn2)) fun σ H R h=>?_;obtain⟨σD,ds,rv,e,k⟩:=h;obtain⟨x,ea,e⟩:=bind_some e;obtain⟨y,eb,e⟩:=bind_some e;obtain⟨i,j,rfl,rfl,hb,_,rfl⟩:=j2 e;refine⟨σD,[.int i,.int j],rv,by rw[RL.evs,ea,RL.evs,eb];rfl,fun vs H1 s1 r1=>?_⟩;rw[ag]at r1;obtain⟨v,t,rfl,r2,r3⟩:=r1;rw[ag]at r3;obtain⟨u,t,rfl,r4,r5⟩:=r3;rw[ag]at r5;subst r5;exact⟨i,j,by rw[ai r2,ai r4],hb,k _ _ s1 ⟨j6,fun _ _ _ _ _=>j6⟩⟩
end rules
end RS
namespace L2
open PySem PySem.Spec PyProof.Rows
abbrev fm(ifs:List Expr)(env:Env):Sem Bool:=forIn ifs true fun c r=>if r=true then do let ok <- isTrue c env (eval c env);pure (ForInStep.yield ok)else pure (ForInStep.yield r)
section
def Ah(h:wpAny M A m P (fun _ _=>False) s):wpAny M A m P E s :=
 wpAny_mono h (fun _ _ q=>q) fun _ _ z=>z.elim
def cK(h:wpAny M A m (fun a s1=>wpAny M A (k a) P E s1) (fun _ _=>False) s):wpAny M A (m >>= k) P E s:=wpAny_bind (Ah h)
end
section
abbrev l4(prog:Program)(w:World)(A:Around)(elt tg:Expr)(ifs:List Expr)(it acc:Value)(env:Env)(stop next:Shared->Prop)(s:Shared):Prop :=
 wpAny (model prog w) A (pyNext it) (fun r s1=>match r with
  | none=>stop s1
  | some v=>wpAny (model prog w) A (letOwnedTupleGo tg it v) (fun _ s2=>wpAny (model prog w) A (assign tg env v) (fun _ s3=>wpAny (model prog w) A (fm ifs env) (fun ok s4 =>
     if ok=true then wpAny (model prog w) A (eval elt env) (fun x s5=>wpAny (model prog w) A (call (.builtin "list.append") [acc,x]) (fun _ s6=>next s6) (fun _ _=>False) s5) (fun _ _=>False) s4
     else next s4) (fun _ _=>False) s3) (fun _ _=>False) s2) (fun _ _=>False) s1) (fun _ _=>False) s
def vH(h:l4 prog w A elt tg ifs it acc env stop next s) :
  wpAny (model prog w) A (compTurn (.ListComp elt [⟨tg,iter,ifs,0⟩] scope pos) 0 it acc env) (fun fin s'=>match fin with
   | .done f=>f=.next/\stop s'
   | .again c=>c=.compLoop (.ListComp elt [⟨tg,iter,ifs,0⟩] scope pos) 0 it acc env/\next s') E s:=by
 rw[compTurn_list];apply wpAny_bind;apply wpAny_standAt;apply cK;refine thn h fun r s1 h1=>?_
 cases r with
 |none=>
  apply wpAny_pure;exact⟨rfl,h1⟩
 |some v=>
  apply cK;refine thn h1 fun _ s2 h2=>?_;apply cK;refine thn h2 fun _ s3 h3=>?_;apply cK;refine thn h3 fun ok s4 h4=>?_;cases ok
  ·apply wpAny_pure;exact⟨rfl,h4⟩
  ·apply wpAny_bind;apply cK;refine thn h4 fun x s5 h5=>?_;apply cK;refine thn h5 fun _ s6 h6=>?_;apply wpAny_pure;apply wpAny_pure;exact⟨rfl,h6⟩
def sM(I:Nat->Shared->Prop)(turn:∀ n s,I n s->l4 prog w A elt tg ifs it acc env (R (.ok .next)) (fun s'=>∃ m,m<n/\I m s') s)
 (n:Nat)(h:I n s):codeAny (model prog w) A (.compLoop (.ListComp elt [⟨tg,iter,ifs,0⟩] scope pos) 0 it acc env) R s :=
 codeAny_loop (M:=model prog w) rfl I (fun n s hI=>wpAny_noted (thn (vH (turn n s hI)) fun fin s' q=>by
  cases fin with
  |done f=>
   obtain⟨rfl,q⟩:=q;exact q
  | again c=>exact q)) n h
end
def i4:∀ (names:List (Str × NameKind)) (n:Nat) (acc:List (Str × Addr)) (x:Str) (c:Addr),(cellsFrom n names acc).lookup x=some c->(acc.lookup x=some c/\(x,NameKind.cell)∉names)\/(n<=c/\(x,NameKind.cell)∈names)
 | [],n,acc,x,c,h=>.inl ⟨h,by simp⟩
 | (nm,k)::r,n,acc,x,c,h=>by
  unfold cellsFrom at h;by_cases hk:(k == NameKind.cell)=true
  ·rw[if_pos hk]at h
   have ek:k=.cell:=by simpa using hk
   subst ek
   rcases i4 r (n+1) ((nm,n)::acc) x c h with⟨a,b⟩ | ⟨a,b⟩
   ·rw[List.lookup_cons]at a
    cases hx:x == nm with
    |true=>
     rw[hx]at a;cases a
     have:x=nm:=by simpa using hx
     subst this;exact .inr ⟨Nat.le_refl _,List.mem_cons_self ..⟩
    |false=>
     rw[hx]at a;refine .inl ⟨a,fun z=>?_⟩;rcases List.mem_cons.mp z with z | z
     ·cases z;simp at hx
     ·exact b z
   ·exact .inr ⟨Nat.le_of_succ_le a,List.mem_cons_of_mem _ b⟩
  ·rw[if_neg hk]at h
   rcases i4 r n acc x c h with⟨a,b⟩ | ⟨a,b⟩
   ·refine .inl ⟨a,fun z=>?_⟩;rcases List.mem_cons.mp z with z | z
    ·cases z;exact hk (by simp)
    ·exact b z
   ·exact .inr ⟨a,List.mem_cons_of_mem _ b⟩
def jO:∀ (names:List (Str × NameKind)) (n:Nat) (acc:List (Str × Addr)) (x:Str),(x,NameKind.cell)∉names->(cellsFrom n names acc).lookup x=acc.lookup x
 | [],n,acc,x,_=>rfl
 | (nm,k)::r,n,acc,x,h=>by
  have hr:(x,NameKind.cell)∉r:=fun z=>h (List.mem_cons_of_mem _ z);unfold cellsFrom;by_cases hk:(k == NameKind.cell)=true
  ·rw[if_pos hk,jO r (n+1) _ x hr,List.lookup_cons]
   have ek:k=.cell:=by simpa using hk
   subst ek
   have:(x == nm)=false:=by
    rw[beq_eq_false_iff_ne];intro z;subst z;exact h (List.mem_cons_self ..)
   rw[this]
  ·rw[if_neg hk];exact jO r n acc x hr
def og:∀ (names:List (Str × NameKind)) (n:Nat) (acc:List (Str × Addr)),(∀ x c,acc.lookup x=some c->c<n)->(∀ x y c,acc.lookup x=some c->acc.lookup y=some c->x=y)->∀ x y c,(cellsFrom n names acc).lookup x=some c->(cellsFrom n names acc).lookup y=some c->x=y
 | [],n,acc,_,hi,x,y,c,h1,h2=>hi x y c h1 h2
 | (nm,k)::r,n,acc,hl,hi,x,y,c,h1,h2=>by
  unfold cellsFrom at h1 h2;by_cases hk:(k == NameKind.cell)=true
  ·rw[if_pos hk]at h1 h2;refine og r (n+1) ((nm,n)::acc) (fun x c e=>?_) (fun x y c e1 e2=>?_) x y c h1 h2
   ·rw[List.lookup_cons]at e
    cases hx:x == nm with
    | true=>rw[hx]at e;cases e;exact Nat.lt_succ_self _
    | false=>rw[hx]at e;exact Nat.lt_succ_of_lt (hl x c e)
   ·rw[List.lookup_cons]at e1 e2
    cases hx:x == nm with
    |true=>
     rw[hx]at e1;cases e1
     cases hy:y == nm with
     |true=>
      have a:x=nm:=by simpa using hx
      have b:y=nm:=by simpa using hy
      rw[a,b]
     |false=>
      rw[hy]at e2;exact absurd (hl y n e2) (Nat.lt_irrefl _)
    |false=>
     rw[hx]at e1
     cases hy:y == nm with
     |true=>
      rw[hy]at e2;cases e2;exact absurd (hl x n e1) (Nat.lt_irrefl _)
     |false=>
      rw[hy]at e2;exact hi x y c e1 e2
  ·rw[if_neg hk]at h1 h2;exact og r n acc hl hi x y c h1 h2
def ke:∀ (names:List (Str × NameKind)) (h:Heap) (acc:List (Str × Addr)) (x:Str) (c:Addr),(cellsFrom h.objs.size names acc).lookup x=some c->acc.lookup x=some c\/(pushCells h names).IsCell c none
 | [],h,acc,x,c,e=>.inl e
 | (nm,k)::r,h,acc,x,c,e=>by
  unfold cellsFrom at e;unfold pushCells;by_cases hk:(k == NameKind.cell)=true
  ·rw[if_pos hk]at e ⊢
   have e':(cellsFrom (h.push { cls:=.type "cell",data:=.cell none }).objs.size r ((nm,h.objs.size)::acc)).lookup x=some c:=by rw[Heap.size_push];exact e
   rcases ke r (h.push { cls:=.type "cell",data:=.cell none }) ((nm,h.objs.size)::acc) x c e' with a | a
   ·rw[List.lookup_cons]at a
    cases hx:x == nm with
    |true=>
     rw[hx]at a;cases a;exact .inr ⟨_,pushCells_keeps r _ _ _ (Heap.get?_push_size _ rfl),rfl⟩
    |false=>
     rw[hx]at a;exact .inl a
   ·exact .inr a
  ·rw[if_neg hk]at e ⊢;exact ke r h acc x c e
def xK{M:Model}{A:Around}{E:Value->Shared->Prop}{s:Shared}{scope:Scope}{globals:Addr}{closure:List (Str × Addr)}{qual:Str}{func:Option Addr}{code:Value}{outer:Env}{builtins:Addr}{Q:Env->Shared->Prop}
 (hQ:Q (newEnv scope s.heap.objs.size globals (cellsFrom (s.heap.objs.size+1) scope.names closure) qual func code (some outer) builtins) { s with heap:=pushCells (s.heap.push { cls:=.type "dict",data:=.dict #[] }) scope.names }) :
  wpAny M A (newFunctionEnv scope globals closure [] qual func code (some outer) builtins) Q E s:=by
 simp only[newFunctionEnv,Option.isSome_some,if_true];refine wpAny_bind (wpAny_alloc ?_);refine wpAny_bind (wpAny_layCells _ (fun name kind cells=>by cases hkc:kind == NameKind.cell<;>simp[hkc]) _ _ _ _ ?_);rw[show({ s with heap:=s.heap.push { cls:=.type "dict",data:=.dict #[] } }:Shared).heap.objs.size=s.heap.objs.size+1 from Heap.size_push ..];refine wpAny_bind ?_;rw[List.forIn_nil];exact wpAny_pure (wpAny_pure hQ)
abbrev blk(X:Cx)(scope:Scope)(cls:List (Str × Addr))(C:Addr)(fp:List Addr)(s:Shared)(H:Hp):Cx where
 prog:=X.prog
 w:=X.w
 K:=X.K
 mg:=X.mg
 base:=X.base
 A:=X.A
 N:=X.N
 s₀:=s
 H₀:=H
 env:=compEnvC scope cls C X.env
 outer:=X.stack
 stack:=X.stack
 ex:=fp
 fn:=fun x=>scope.names.lookup x == some .cell
 calm:=X.calm
 pn:=[]
 xe:=fun _ _=>False
structure eD(scope:Scope)(sc:Scope)(cls:List (Str × Addr))(cells:List (Str × Addr)):Prop where
 kind:scope.kind=.function
 own:∀ x∈scope.names,x.2=.cell->scope.names.lookup x.1=some .cell
 loc:∀ x∈scope.names,x.2=.local->scope.names.lookup x.1=some .local
 sub:∀ x c,cls.lookup x=some c->cells.lookup x=some c
 has:∀ x,scope.names.lookup x=some .free->∃ c,cls.lookup x=some c
 vis:∀ x,scope.names.lookup x=some .free->sc.names.lookup x=some .cell\/sc.names.lookup x=some .free
def bH{env:Env}:∀ {names:List (Str × NameKind)} {x:Str} {k:NameKind},
  (names.map fun(n,k)=>if(k == NameKind.free&&env.scope.kind == .function&&env.kindOf n == some .cell)then(n,NameKind.cell)else(n,k)).lookup x=some k ->
  names.lookup x=some k\/(k=.cell/\names.lookup x=some .free/\env.kindOf x=some .cell)
 | [],x,k,h=>by simp at h
 | (n,k')::r,x,k,h=>by
  have ih:=@bH env r x k;rw[List.map_cons]at h
  cases hx:x == n with
  |true=>
   have en:x=n:=by simpa using hx
   subst en;by_cases hc:(k' == NameKind.free&&env.scope.kind == .function&&env.kindOf x == some .cell)=true
   ·simp only[hc,if_true]at h;rw[List.lookup_cons,hx]at h;cases h;simp only[Bool.and_eq_true,beq_iff_eq]at hc;refine .inr ⟨rfl,?_,hc.2⟩;rw[List.lookup_cons,hx,hc.1.1]
   ·simp only[Bool.not_eq_true]at hc;simp only[hc,Bool.false_eq_true,if_false]at h;rw[List.lookup_cons,hx]at h;cases h;exact .inl (by rw[List.lookup_cons,hx])
  |false=>
   have h':(r.map fun(n,k)=>if(k == NameKind.free&&env.scope.kind == .function&&env.kindOf n == some .cell)then(n,NameKind.cell)else(n,k)).lookup x=some k:=by
    by_cases hc:(k' == NameKind.free&&env.scope.kind == .function&&env.kindOf n == some .cell)=true
    ·simp only[hc,if_true]at h;rw[List.lookup_cons,hx]at h;exact h
    ·simp only[Bool.not_eq_true]at hc;simp only[hc,Bool.false_eq_true,if_false]at h;rw[List.lookup_cons,hx]at h;exact h
   rcases ih h' with q | ⟨q1,q2,q3⟩
   ·exact .inl (by rw[List.lookup_cons,hx];exact q)
   ·exact .inr ⟨q1,by rw[List.lookup_cons,hx];exact q2,q3⟩
abbrev wu(X:Cx)(scope:Scope)(σ σB:St):Prop:=σB.length=σ.length/\∀ (i:Nat) (x:Str) (v:V),X.N[i]?=some x->σB[i]?=some (some v)->σ[i]?=some (some v)/\scope.names.lookup x≠some .local/\scope.names.lookup x≠some .cell
section
def Inv.hxb(I:Inv X pins σ H s):HX (blk X scope cls C fp s H):=by
 rcases I.ok.hd.2 with z | ⟨h,o,u,vs,h1,h2,h3⟩
 ·exact .inl z
 ·exact .inr ⟨h,o,u,vs,h1,I.base.c9 _ _ _ h2,h3⟩
def xQ(I:Inv X pins σ H s)(S:eD scope X.env.scope cls X.env.cells)(hf:∀ b∈fp,gz X pins H b/\b<s.heap.objs.size)(ho:wu X scope σ σB)
 (hns:h'.Ns s.heap.objs.size (fun _=>none))(hk:∀ b o,s.heap.get? b=some o->h'.get? b=some o)(hcl:∀ x c,(cellsFrom (s.heap.objs.size+1) scope.names cls).lookup x=some c->cls.lookup x=some c\/h'.IsCell c none) :
  Inv (blk X scope (cellsFrom (s.heap.objs.size+1) scope.names cls) s.heap.objs.size fp s H) [] σB H { s with heap:=h',toks:=t }:=by
 have hC:H s.heap.objs.size=none:=I.hok.fresh (Nat.le_refl _)
 have clt:∀ x c,cls.lookup x=some c->c<s.heap.objs.size:=fun x c e=>by
  obtain⟨v,q⟩:=I.cell x c (S.sub x c e);exact q.lt
 have cas:∀ x c,(cellsFrom (s.heap.objs.size+1) scope.names cls).lookup x=some c->(X.env.cells.lookup x=some c/\c<s.heap.objs.size)\/(s.heap.objs.size+1<=c/\scope.names.lookup x=some .cell):=fun x c e=>by
  rcases i4 _ _ _ _ _ e with⟨a,_⟩ | ⟨a,b⟩
  ·exact .inl ⟨S.sub x c a,clt x c a⟩
  ·exact .inr ⟨a,S.own _ b rfl⟩
 have fre:∀ x c,cls.lookup x=some c->scope.names.lookup x=some .free->(cellsFrom (s.heap.objs.size+1) scope.names cls).lookup x=some c:=fun x c e f=>by
  rw[jO _ _ _ _ fun z=>by rw[S.own _ z rfl]at f;cases f];exact e
 refine⟨⟨I.ok.mod,?_,I.ok.glob,I.ok.blt,Nat.le_refl _,fun x y c h1 h2=>og _ _ _ (fun x c e=>Nat.lt_succ_of_lt (clt x c e)) (fun x y c e1 e2=>I.ok.inj x y c (S.sub x c e1) (S.sub y c e2)) x y c h1 h2,fun x hx=>?_,fun x c z e=>?_,⟨I.ok.hd.1,I.hxb⟩,I.ok.frames,.inl rfl,fun b hb=>?_,fun b o e=>I.bs b o e,Nat.le_trans I.ok.bsz I.sz,fun b o e hb=>?_,fun b hb=>?_,I.stack,I.iz⟩,
  rfl,I.bare,Un.kept hk,⟨_,hns,fun i x v h1 h2 h3=>?_⟩,fun x c e=>?_,hC,fun x c e=>?_,fun p hp=>absurd hp (by simp[blk]),I.hok.kept hk,ho.1.trans I.len⟩
 ·exact S.kind
 ·have hx:(relabel scope X.env).names.lookup x=some .cell\/(relabel scope X.env).names.lookup x=some .free:=hx
  have key:scope.names.lookup x=some .cell\/scope.names.lookup x=some .free:=by
   rcases hx with hx | hx
   ·rcases bH hx with q | ⟨_,q,_⟩
    ·exact .inl q
    ·exact .inr q
   ·rcases bH hx with q | ⟨q,_⟩
    ·exact .inr q
    ·cases q
  rcases key with q | q
  ·have:=PySem.W.cellsFrom_some scope.names (s.heap.objs.size+1) cls (.inl q);exact Option.isSome_iff_exists.mp this
  ·obtain⟨c,hc⟩:=S.has x q;exact⟨c,fre x c hc q⟩
 ·have z:(scope.names.lookup x == some .cell)=true:=z
  rcases i4 _ _ _ _ _ (show(cellsFrom (s.heap.objs.size+1) scope.names cls).lookup x=some c from e)with⟨_,b⟩ | ⟨b,_⟩
  ·exact absurd (PySem.mem_of_lookup (by simpa using z)) b
  ·exact Nat.le_of_succ_le b
 ·obtain⟨⟨f0,f1,f2,f3,f4,f5⟩,f6⟩:=hf b hb;refine⟨Nat.ne_of_lt f6,fun x c e=>?_⟩
  rcases cas x c e with⟨a,_⟩ | ⟨a,_⟩
  ·exact f4 x c a
  ·exact Nat.ne_of_gt (Nat.lt_trans f6 a)
 ·obtain⟨⟨f0,f1,f2,f3,f4,f5⟩,f6⟩:=hf b hb;rcases f3 with z | z
  ·exact I.ok.gY b o e z
  ·exact absurd (Nat.lt_of_lt_of_le (Heap.lt_size e) I.ok.bsz) (Nat.not_lt.mpr z)
 ·obtain⟨⟨f0,f1,f2,f3,f4,f5⟩,f6⟩:=hf b hb;intro z;rcases List.mem_cons.mp (I.mr b z)with e | e
  ·exact f1 e
  ·exact f2 e
 ·obtain⟨h4,h5,h6⟩:=ho.2 i x v h1 h2;have h3:(relabel scope X.env).names.lookup x=some .local\/(relabel scope X.env).names.lookup x=some .cell\/(relabel scope X.env).names.lookup x=some .free:=h3
  have key:scope.names.lookup x=some .free:=by
   rcases h3 with z | z | z
   ·rcases bH z with q | ⟨q,_⟩
    ·exact absurd q h5
    ·cases q
   ·rcases bH z with q | ⟨_,q,_⟩
    ·exact absurd q h6
    ·exact q
   ·rcases bH z with q | ⟨q,_⟩
    ·exact q
    ·cases q
  obtain⟨c,hc⟩:=S.has x key;have hcx:=S.sub x c hc;obtain⟨m,hn,hl⟩:=I.loc;have hv:Vis X.env.scope x:=.inr (S.vis x key);obtain⟨u,ru,lk⟩:=hl i x v h1 h4 hv;refine⟨u,ru,.inr ⟨?_,c,fre x c hc key,?_⟩⟩
  ·rcases h3 with z | z
   ·rcases bH z with q | ⟨q,_⟩
    ·exact absurd q h5
    ·cases q
   ·exact z
  ·rcases lk with⟨z,_⟩ | ⟨_,c',e',q⟩
   ·have z:X.env.scope.names.lookup x=some .local:=z;rcases S.vis x key with z' | z'<;>(rw[z]at z';cases z')
   ·rw[hcx]at e';cases e';obtain⟨o,g1,g2⟩:=q;exact⟨o,hk _ _ g1,g2⟩
 ·rcases hcl x c e with a | a
  ·obtain⟨v,q⟩:=I.cell x c (S.sub x c a);obtain⟨o,h1,h2⟩:=q;exact⟨v,o,hk _ _ h1,h2⟩
  ·exact⟨none,a⟩
 ·rcases cas x c e with⟨a,_⟩ | ⟨a,_⟩
  ·exact I.bX x c a
  ·exact I.hok.fresh (Nat.le_of_succ_le a)
abbrev fZ(wi:TI)(clr:St->St)(g:TG)(tc:TT)(te:TE):TE:=fun σ H Q=>wi σ H fun J H1=>∀ l,H1 l=none->∃ W:Nat->Nat->List V->Hp->Prop,(∃ m,W 0 m [] (upd H1 l (.lst []))) /\
 ∀ i m ys H2,W i m ys H2->H2 l=some (.lst ys)/\((J.stop i H2/\Q (.ref l) H2)\/(J.go i H2/\∀ x H3,J.yld i H2 x H3->g x (clr σ) H3 fun σ4 H4=>tc σ4 H4 fun k H5 =>
  if k=true then te σ4 H5 fun y H6=>H6 l=some (.lst ys)/\ys.length<sizeLine/\∃ m',m'<m/\W (i+1) m' (ys++[y]) (upd H6 l (.lst (ys++[y])))else ∃ m',m'<m/\W (i+1) m' ys H5))
structure lO(X:Cx)(scope:Scope)(tg:Expr)(ifs:List Expr)(elt:Expr)(clr:St->St)(g:TG)(tc:TT)(te:TE):Prop where
 htg:∀ cls C fp s H,PG (blk X scope cls C fp s H) tg g
 htc:∀ cls C fp s H pins s' σ H' Q,Inv (blk X scope cls C fp s H) pins σ H' s'->tc σ H' Q->wpAny (model X.prog X.w) X.A (fm ifs (compEnvC scope cls C X.env)) (TP (blk X scope cls C fp s H) pins σ Q) (fun _ _=>False) s'
 hte:∀ cls C fp s H,PE (blk X scope cls C fp s H) elt te
 Br:∀ σ:St,σ.length=X.N.length->wu X scope σ (clr σ)
 wH:∀ (x:V) (σ:St) (H:Hp) (Q:St->Hp->Prop),g x (clr σ) H Q->g x (clr σ) H fun σ2 H2=>Q σ2 H2/\(clr σ).length=σ2.length/\∀ (i:Nat) v,(clr σ)[i]?=some (some v)->σ2[i]?=some (some v)
def lh{elt tg iter:Expr}{ifs:List Expr}{pos:Pos}{wi:TI}{clr:St->St}{g:TG}{tc:TT}{te:TE}{Q:VK}{RR:Value->Addr->Result->Shared->Prop}{CM:Cx->Prop}(hc:∀ {pins:List (Addr × Obj)} {σ:St} {H:Hp} {s:Shared} (cls:List (Str × Addr)) (C:Addr) (fp:List Addr),Inv X pins σ H s->CM (blk X scope cls C fp s H))(S:eD scope X.env.scope cls X.env.cells)
 (hi:PI' CM X tg iter wi)(B:lO X scope tg ifs elt clr g tc te)(I:Inv X pins σ H s)(h:fZ wi clr g tc te σ H Q)
 (hRR:∀ l C H' s',Inv X pins σ H' s'->(∃ m,s'.heap.Ns C m)->H' C=none->C≠X.env.locals->X.s₀.heap.objs.size<=C->(∀ x c,X.env.cells.lookup x=some c->c≠C)->(∀ p∈X.pn++pins,p.1≠C)->Q (.ref l) H'->RR (.ref l) C (.ok .next) s') :
  wpAny (model X.prog X.w) X.A (eval iter X.env) (fun x s1=>wpAny (model X.prog X.w) X.A (pyIter x) (fun it s2=>wpAny (model X.prog X.w) X.A (newList []) (fun acc s3 =>
   wpAny (model X.prog X.w) X.A (newFunctionEnv scope X.env.globals cls [] X.env.qual none .none (some X.env)) (fun cenv s4 =>
    codeAny (model X.prog X.w) X.A (.compStart (.ListComp elt [⟨tg,iter,ifs,0⟩] scope pos) 0 it acc { cenv with scope:=relabel scope X.env }) (RR acc cenv.locals) s4) X.xe s3) X.xe s2) X.xe s1) X.xe s:=by
 refine thn (hi pins s σ H _ I h) fun x s1 h1=>thn h1 fun itv s2 h2=>?_;obtain⟨it,fp,tn,J,H2,e,I2,T,st2,f2,h3⟩:=h2;subst e
 have flt:∀ b∈fp,b<s2.heap.objs.size:=fun b hb=>by
  obtain⟨o,e,_⟩:=T.obj _ _ st2 b hb;exact Heap.lt_size e
 refine wpAny_newObj_type ?_
 have I3:Inv X pins σ (upd H2 s2.heap.objs.size (.lst [])) { s2 with heap:=s2.heap.push { cls:=.type "list",dict:=none,data:=.seq ([]:List Value).toArray } } :=
  I2.laid (t':=s2.toks) (fun b u e=>Heap.get?_push_of_some _ e) (Nat.le_refl _) ⟨Nat.zero_le _,[],0,.nil,Heap.get?_push_size _ rfl⟩
 have hl2:H2 s2.heap.objs.size=none:=I2.hok.fresh (Nat.le_refl _);obtain⟨W,⟨m0,w0⟩,turn⟩:=h3 s2.heap.objs.size hl2
 have f3:∀ b∈fp,gz X pins (upd H2 s2.heap.objs.size (.lst [])) b/\b<(s2.heap.push { cls:=.type "list",dict:=none,data:=.seq ([]:List Value).toArray }).objs.size:=fun b hb=>by
  obtain⟨z0,z⟩:=f2 b hb;refine⟨⟨?_,z⟩,?_⟩
  ·rw[aw (Nat.ne_of_lt (flt b hb))];exact z0
  ·rw[Heap.size_push];exact Nat.lt_succ_of_lt (flt b hb)
 generalize hs3:({ s2 with heap:=s2.heap.push { cls:=.type "list",dict:=none,data:=.seq ([]:List Value).toArray } }:Shared)=s3 at I3
 have hs3h:s3.heap=s2.heap.push { cls:=.type "list",dict:=none,data:=.seq ([]:List Value).toArray }:=by rw[<-hs3]
 rw[<-hs3h]at f3
 have st3:tn 0 s3.heap:=T.keep _ _ _ st2 fun b hb o e=>by rw[hs3h];exact Heap.get?_push_of_some _ e
 refine xK ?_;have k4:∀ b o,s3.heap.get? b=some o->(pushCells (s3.heap.push { cls:=.type "dict",data:=.dict #[] }) scope.names).get? b=some o:=fun b o e=>pushCells_keeps _ _ b o (Heap.get?_push_of_some _ e);have hns4:(pushCells (s3.heap.push { cls:=.type "dict",data:=.dict #[] }) scope.names).Ns s3.heap.objs.size (fun _=>none):=(Heap.Ns.new s3.heap (.type "dict")).keeps (pushCells_keeps _ _);have hcl4:∀ x c,(cellsFrom (s3.heap.objs.size+1) scope.names cls).lookup x=some c->cls.lookup x=some c\/(pushCells (s3.heap.push { cls:=.type "dict",data:=.dict #[] }) scope.names).IsCell c none:=fun x c e=>ke scope.names (s3.heap.push { cls:=.type "dict",data:=.dict #[] }) cls x c (by rw[Heap.size_push];exact e);generalize pushCells (s3.heap.push { cls:=.type "dict",data:=.dict #[] }) scope.names=h4 at k4 hns4 hcl4
 have I4:Inv (blk X scope (cellsFrom (s3.heap.objs.size+1) scope.names cls) s3.heap.objs.size fp s3 (upd H2 s2.heap.objs.size (.lst []))) [] (clr σ) (upd H2 s2.heap.objs.size (.lst [])) { s3 with heap:=h4 } :=
  xQ (t:=s3.toks) I3 S f3 (B.Br σ I.len) hns4 k4 hcl4
 generalize hs4:({ s3 with heap:=h4 }:Shared)=s4 at I4
 have hs4h:s4.heap=h4:=by rw[<-hs4]
 generalize hH3:upd H2 s2.heap.objs.size (.lst [])=H3 at I3 I4 w0
 have st4:tn 0 s4.heap:=T.keep _ _ _ st3 fun b hb o e=>by rw[hs4h];exact k4 b o e
 have fn4:∀ b∈fp,H3 b=none:=fun b hb=>by rw[<-hH3];exact(f3 b hb).1.1
 have stat:∀ {H':Hp} {σ':St} {s':Shared},Inv (blk X scope (cellsFrom (s3.heap.objs.size+1) scope.names cls) s3.heap.objs.size fp s3 H3) [] σ' H' s'->(∀ b∈fp,H' b=none)->∀ b∈fp,gz (blk X scope (cellsFrom (s3.heap.objs.size+1) scope.names cls) s3.heap.objs.size fp s3 H3) [] H' b :=
  fun {H' σ' s'} J hn b hb=>⟨hn b hb,(J.ok.exf b hb).1,J.ok.gv b hb,.inl hb,(J.ok.exf b hb).2,fun p hp=>absurd hp (by simp[blk])⟩
 have fin:∀ {H':Hp} {s':Shared},Inv (blk X scope (cellsFrom (s3.heap.objs.size+1) scope.names cls) s3.heap.objs.size fp s3 H3) [] (clr σ) H' s'->Q (.ref s2.heap.objs.size) H'->RR (.ref s2.heap.objs.size) s3.heap.objs.size (.ok .next) s':=fun {H' s'} J q=>by
  obtain⟨m,hn,_⟩:=J.loc
  have J1:Inv X pins σ H' s':=I3.lL (s':=s') (ch:=fp) (J.os.trans rfl) J.base J.hok J.bare fun b hb=>by
   obtain⟨⟨g0,g1,g2,g3,g4,g5⟩,_⟩:=f3 b hb;exact⟨g3,g1,g4,g5⟩
  refine hRR _ _ H' s' J1 ⟨m,hn⟩ J.free (Nat.ne_of_gt I3.lt) I3.sz (fun x c e=>?_) (fun p hp=>?_) q
  ·obtain⟨v,z⟩:=I3.cell x c e;exact Nat.ne_of_lt z.lt
  ·exact Nat.ne_of_lt (Heap.lt_size (I3.pin p hp).1)
 have loop:codeAny (model X.prog X.w) X.A (.compLoop (.ListComp elt [⟨tg,iter,ifs,0⟩] scope pos) 0 (.ref it) (.ref s2.heap.objs.size) (compEnvC scope (cellsFrom (s3.heap.objs.size+1) scope.names cls) s3.heap.objs.size X.env))
   (RR (.ref s2.heap.objs.size) s3.heap.objs.size) s4:=by
  refine sM (fun n s'=>∃ i ys H',Inv (blk X scope (cellsFrom (s3.heap.objs.size+1) scope.names cls) s3.heap.objs.size fp s3 H3) [] (clr σ) H' s'/\tn i s'.heap/\(∀ b∈fp,H' b=none)/\W i n ys H') ?_ m0 ⟨0,[],H3,I4,st4,fn4,w0⟩;rintro n s5 ⟨i,ys,H5,I5,st5,fr5,w5⟩;obtain⟨hl5,tr⟩:=turn i n ys H5 w5
  rcases tr with⟨stop,qn⟩ | ⟨go,step⟩
  ·refine thn (T.done (blk X scope (cellsFrom (s3.heap.objs.size+1) scope.names cls) s3.heap.objs.size fp s3 H3) rfl rfl rfl (hc _ _ _ I3) i [] s5 (clr σ) H5 (fun _ _=>False) I5 (stat I5 fr5) st5 stop) fun r s6 ⟨hr,I6⟩=>?_;subst hr;exact fin I6 qn
  ·refine thn (T.item (blk X scope (cellsFrom (s3.heap.objs.size+1) scope.names cls) s3.heap.objs.size fp s3 H3) rfl rfl rfl (hc _ _ _ I3) i [] s5 (clr σ) H5 (fun _ _=>False) I5 (stat I5 fr5) st5 go) fun r s6 ⟨u,hr,h6⟩=>?_;subst hr;refine thn h6 fun _ s7 ⟨x,H7,I7,r7,y7,st7,fr7⟩=>?_;have I7':=I7.pinned (stat I7 fr7) (T.obj _ _ st7)
   have back:∀ {σ':St} {H':Hp} {s':Shared},Inv (blk X scope (cellsFrom (s3.heap.objs.size+1) scope.names cls) s3.heap.objs.size fp s3 H3) ([]++iq fp s7.heap) σ' H' s'->(clr σ).length=σ'.length->(∀ (i:Nat) v,(clr σ)[i]?=some (some v)->σ'[i]?=some (some v))->(∃ m ys',m<n/\W (i+1) m ys' H') ->
     ∃ m,m<n/\∃ i ys H',Inv (blk X scope (cellsFrom (s3.heap.objs.size+1) scope.names cls) s3.heap.objs.size fp s3 H3) [] (clr σ) H' s'/\tn i s'.heap/\(∀ b∈fp,H' b=none)/\W i m ys H':=fun {σ' H' s'} J el ew hw=>by
    obtain⟨m,ys',hm,w8⟩:=hw;refine⟨m,hm,i+1,ys',H',J.gL.weak el ew,T.keep _ _ _ st7 fun b hb o e=>(J.pin (b,o) (List.mem_append_right _ (List.mem_append_right _ (eX hb e)))).1,fun b hb=>?_,w8⟩;obtain⟨o,e,d⟩:=T.obj _ _ st7 b hb;exact(J.pin (b,o) (List.mem_append_right _ (List.mem_append_right _ (eX hb e)))).2.1
   refine thn (B.htg _ s3.heap.objs.size fp s3 H3 _ s7 (clr σ) H7 x u _ I7' r7 (B.wH x σ H7 _ (step x H7 y7))) fun _ s8 ⟨σ8,H8,I8,q8,el8,ew8⟩=>?_;refine thn (B.htc _ s3.heap.objs.size fp s3 H3 _ s8 σ8 H8 _ I8 q8) fun ok s9 ⟨H9,I9,q9⟩=>?_
   cases ok with
   |false=>
    have q9:∃ m',m'<n/\W (i+1) m' ys H9:=q9;obtain⟨m',hm,w9⟩:=q9;exact back I9 el8 ew8 ⟨m',ys,hm,w9⟩
   |true=>
    refine thn (B.hte _ s3.heap.objs.size fp s3 H3 _ s9 σ8 H9 _ I9 q9) fun v s10 ⟨y,H10,I10,r10,hl10,hz,m',hm,w10⟩=>?_;refine thn (kS (X:=blk X scope (cellsFrom (s3.heap.objs.size+1) scope.names cls) s3.heap.objs.size fp s3 H3) _ s10 σ8 H10 (.ref s2.heap.objs.size) [y] (.ref s2.heap.objs.size) [v] (fun _ H'=>H'=upd H10 s2.heap.objs.size (.lst (ys++[y]))) I10 rfl (.cons r10 .nil) ⟨_,ys,y,rfl,rfl,hl10,hz,rfl⟩) fun _ s11 ⟨_,H11,I11,_,e11⟩=>?_;subst e11;exact back I11 el8 ew8 ⟨m',_,hm,w10⟩
 exact codeAny_compStart_list loop (T.self _ 0 _ _ _ st4 loop)
def pf{elt tg iter:Expr}{ifs:List Expr}{pos:Pos}{wi:TI}{clr:St->St}{g:TG}{tc:TT}{te:TE}{CM:Cx->Prop}(hc:∀ {pins:List (Addr × Obj)} {σ:St} {H:Hp} {s:Shared} (cls:List (Str × Addr)) (C:Addr) (fp:List Addr),Inv X pins σ H s->CM (blk X scope cls C fp s H))(S:eD scope X.env.scope cls X.env.cells)(hclos:closureFor scope X.env=pure cls)
 (hi:PI' CM X tg iter wi)(B:lO X scope tg ifs elt clr g tc te)(hs:∀ x,foldedSetIterable iter X.env x=pure x):PE X (.ListComp elt [⟨tg,iter,ifs,0⟩] scope pos) (fZ wi clr g tc te):=by
 intro pins s σ H Q I h;rw[eval_ListComp];refine wpAny_comprehension_free (use:=none) rfl hs hclos S.kind S.loc (lh (RR:=fun acc C=>compPost (model X.prog X.w) X.A X.xe none (EP X pins σ Q) acc C) hc S hi B I h ?_);intro l C H' s' J hn c0 c1 c2 c3 c4 q;obtain⟨m,hn⟩:=hn;exact⟨m,hn,fun h' sb=>⟨.ref l,H',J.turned (it:=C) (h':=h') (t':=s'.toks) (fun b o hb e=>(sb.2 b hb).trans e) c0 (Ne.symm (Ne.symm c1)) (.inr c2) c3 c4,rfl,q⟩⟩
abbrev CI(i:Nat)(t:TE):TS:=fun D σ H=>t σ H fun v H1=>D.nx (σ.set i (some v)) H1
def oU(hc:X.calm=true)(hN:X.N.Nodup)(hiy:X.N[i]?=some y)(hy:X.env.scope.names.lookup y=some .local)
 (S:eD scope X.env.scope cls X.env.cells)(hclos:closureFor scope X.env=pure cls)
 (hi:PI X tg iter wi)(B:lO X scope tg ifs elt clr g tc te)(hs:∀ x,foldedSetIterable iter X.env x=pure x)
 (hsw:swapsWith (.ListComp elt [⟨tg,iter,ifs,0⟩] scope pos) (some (.Name y py)) spos.line X.env=pure true) :
  PS X (.Assign [.Name y py] (.ListComp elt [⟨tg,iter,ifs,0⟩] scope pos) spos) (CI i (fZ wi clr g tc te)):=by
 intro pins s σ H D I h
 have back:∀ (l C:Addr) (H':Hp) (s':Shared),Inv X pins σ H' s'->(∃ m,s'.heap.Ns C m)->H' C=none->C≠X.env.locals->X.s₀.heap.objs.size<=C->(∀ x c,X.env.cells.lookup x=some c->c≠C)->(∀ p∈X.pn++pins,p.1≠C)->D.nx (σ.set i (some (.ref l))) H' ->
   compPost (model X.prog X.w) X.A X.xe (some (assign (.Name y py) X.env)) (fun _ s'=>SP X pins D .next s') (.ref l) C (.ok .next) s':=by
  intro l C H' s' J hn c0 c1 c2 c3 c4 q;obtain⟨m,hn⟩:=hn;show wpAny _ X.A (assign (.Name y py) X.env (.ref l)) _ _ s';refine wpAny_assign_Name (kM (v:=.ref l) J hN hiy (.inl hy) rfl (fun s2 J2 ⟨a,sb,ha⟩=>?_) (.inr hy))
  have hne:C≠a:=by
   rcases ha with z | z
   ·rw[z];exact c1
   ·exact(c3 _ _ z).symm
  exact⟨m,hn.sameBut sb hne,fun h' sb'=>⟨σ.set i (some (.ref l)),H',J2.turned (it:=C) (h':=h') (t':=s2.toks) (fun b o hb e=>(sb'.2 b hb).trans e) c0 c1 (.inr c2) c3 c4,q⟩⟩
 have core:=lh (RR:=fun acc C=>compPost (model X.prog X.w) X.A X.xe (some (assign (.Name y py) X.env)) (fun _ s'=>SP X pins D .next s') acc C) (pos:=pos) (fun _ _ _ _=>hc) S hi B I h back;have whole:=wpAny_comprehension_free (e:=.ListComp elt [⟨tg,iter,ifs,0⟩] scope pos) (newAcc:=newList []) (use:=some (assign (.Name y py) X.env)) (Q:=fun _ s'=>SP X pins D .next s') (pos:=iter.pos) rfl hs hclos S.kind S.loc core;rw[exec_Assign_Name_used (hs:=hsw)];apply wpAny_bind;apply wpAny_standAt;apply wpAny_bind;apply wpAny_bind;refine thn whole fun _ s' hq=>?_;apply wpAny_pure;apply wpAny_pure;exact hq
end
end L2
namespace RS
open PySem PySem.Spec PyProof.Rows L2
def gE:∀ (names:List (Str × NameKind)) (acc:List (Str × Addr)),(∀ x,(x,NameKind.free)∈names->∃ c,env.cells.lookup x=some c)->(∀ x c,acc.lookup x=some c->env.cells.lookup x=some c) ->
  ∃ cls,(forIn names acc fun(p:Str × NameKind) cs=>match p with | (name,kind)=>if(kind == NameKind.free)=true then do let c <- cellOf env name;pure (ForInStep.yield ((name,c)::cs))else pure (ForInStep.yield cs):Sem (List (Str × Addr)))=pure cls /\
   (∀ x c,cls.lookup x=some c->env.cells.lookup x=some c)/\(∀ x,(acc.lookup x).isSome=true\/(x,NameKind.free)∈names->∃ c,cls.lookup x=some c)
 | [],acc,_,ha=>⟨acc,rfl,ha,fun x hx=>by
   rcases hx with h | h
   ·exact Option.isSome_iff_exists.mp h
   ·simp at h⟩
 | (n,k)::r,acc,hn,ha=>by
  by_cases hk:k=.free
  ·subst hk;obtain⟨c,hc⟩:=hn n List.mem_cons_self
   have ha':∀ x c',((n,c)::acc).lookup x=some c'->env.cells.lookup x=some c':=fun x c' e=>by
    rw[List.lookup_cons]at e
    cases hx:x == n with
    |true=>
     rw[hx]at e;cases e;rw[show x=n by simpa using hx];exact hc
    |false=>
     rw[hx]at e;exact ha x c' e
   obtain⟨cls,h1,h2,h3⟩:=gE r ((n,c)::acc) (fun x hx=>hn x (List.mem_cons_of_mem _ hx)) ha';refine⟨cls,?_,h2,fun x hx=>h3 x ?_⟩
   ·rw[List.forIn_cons]
    have hcell:cellOf env n=pure c:=by unfold cellOf;rw[hc]
    simp only[beq_self_eq_true,if_true,hcell];exact h1
   ·rcases hx with h | h
    ·left;rw[List.lookup_cons];split<;>simp_all
    ·rcases List.mem_cons.mp h with e | e
     ·cases e;left;simp[List.lookup_cons]
     ·exact .inr e
  ·obtain⟨cls,h1,h2,h3⟩:=gE r acc (fun x hx=>hn x (List.mem_cons_of_mem _ hx)) ha;refine⟨cls,?_,h2,fun x hx=>h3 x ?_⟩
   ·rw[List.forIn_cons]
    have:(k == NameKind.free)=false:=by simpa using hk
    simp only[this,Bool.false_eq_true,if_false];exact h1
   ·rcases hx with h | h
    ·exact .inl h
    ·rcases List.mem_cons.mp h with e | e
     ·cases e;exact absurd rfl hk
     ·exact .inr e
def pS(h:∀ x,(x,NameKind.free)∈scope.names->∃ c,env.cells.lookup x=some c) :
  ∃ cls,closureFor scope env=pure cls/\(∀ x c,cls.lookup x=some c->env.cells.lookup x=some c)/\(∀ x,scope.names.lookup x=some .free->∃ c,cls.lookup x=some c):=by
 obtain⟨cls,h1,h2,h3⟩:=gE (env:=env) scope.names [] h (fun x c e=>by simp at e);refine⟨cls,?_,h2,fun x hx=>h3 x (.inr (PySem.mem_of_lookup hx))⟩;unfold closureFor;simp only[bind_pure_comp]at h1 ⊢;rw[h1];rfl
section
abbrev jV(K:PySem.W.Frag)(n:Nat)(t:TGs):TG:=fun v σ H Q=>∃ a xs,v=.ref a/\SqL K H a xs/\xs.length=n/\t xs σ H Q
end
section
def mC(h:PG X tgE t)(h':PG X tgE t'):PG X tgE (fun v σ H Q=>t v σ H Q\/t' v σ H Q):=by
 intro pins s σ H v u Q I r hw;rcases hw with q | q
 ·exact h pins s σ H v u Q I r q
 ·exact h' pins s σ H v u Q I r q
end
abbrev gs:List Nat->TGs
 | []=>Ag
 | i::r=>wj (lN i) (gs r)
abbrev gT(K:PySem.W.Frag):List Nat->TG
 | [i]=>lN i
 | is=>fun v σ H Q=>jY K is.length (gs is) v σ H Q\/jV K is.length (gs is) v σ H Q
abbrev c7:List Nat->List V->L2.St->L2.St
 | i::is,v::vs,σ=>c7 is vs (σ.set i (some v))
 | _,_,σ=>σ
abbrev dk:List Nat->List RL.D->RL.St->RL.St
 | i::is,d::ds,σ=>dk is ds (σ.set i (some d))
 | _,_,σ=>σ
def fG:∀ {is:List Nat} {ds:List RL.D} {σ σ1:RL.St},RL.bR is ds σ=some σ1->is.length=ds.length/\σ1=dk is ds σ
 | [],[],σ,σ1,h=>by cases h;exact⟨rfl,rfl⟩
 | [],d::ds,σ,σ1,h=>by cases h
 | i::is,[],σ,σ1,h=>by cases h
 | i::is,d::ds,σ,σ1,h=>by
  obtain⟨h1,h2⟩:=fG (is:=is) (ds:=ds) (σ:=σ.set i (some d)) h;exact⟨by simp[h1],h2⟩
def fN:∀ {is:List Nat} {vs:List V} {σ:L2.St} {H:Hp} {Q:L2.St->Hp->Prop},is.length=vs.length->Q (c7 is vs σ) H->gs is vs σ H Q
 | [],[],σ,H,Q,_,q=>⟨rfl,q⟩
 | [],_::_,_,_,_,h,_=>by simp at h
 | _::_,[],_,_,_,h,_=>by simp at h
 | i::is,v::vs,σ,H,Q,h,q=>⟨v,vs,rfl,fN (is:=is) (by simpa using h) q⟩
def qT{K:PySem.W.Frag}(h:RL.bY tg d σD=some σD1)(r:Rep nP K H d v) :
  ∃ ds vs,σD1=dk tg ds σD/\tg.length=ds.length/\ag nP K H ds vs/\(d.imm=true->RL.ar ds=true)/\∀ (σ:L2.St) (Q:L2.St->Hp->Prop),Q (c7 tg vs σ) H->gT K tg v σ H Q:=by
 unfold RL.bY at h;split at h
 ·rename_i i;cases h;exact⟨[d],[v],rfl,rfl,ag.cons r ag.nil,fun z=>by simp[RL.ar,z],fun σ Q q=>q⟩
 ·rename_i hne
  have key:gT K tg=fun v σ H Q=>jY K tg.length (gs tg) v σ H Q\/jV K tg.length (gs tg) v σ H Q:=by
   unfold gT;split
   ·rename_i i;exact absurd rfl (hne i)
   ·rfl
  rw[key];split at h
  ·rename_i ds;obtain⟨h1,h2⟩:=fG h;obtain⟨p,xs,rfl,e2,e3⟩:=bh r;exact⟨ds,xs,h2,h1,e3,fun z=>by rw[RL.D.imm]at z;exact z,fun σ Q q=>.inl ⟨p,xs,rfl,SqT.of e2,by rw[<-e3.length,h1],fN (h1.trans e3.length) q⟩⟩
  ·rename_i ds;obtain⟨h1,h2⟩:=fG h;obtain⟨p,xs,rfl,_,e2,e3⟩:=aM r;exact⟨ds,xs,h2,h1,e3,fun z=>(by cases z),fun σ Q q=>.inr ⟨p,xs,rfl,SqL.of e2,by rw[<-e3.length,h1],fN (h1.trans e3.length) q⟩⟩
  ·cases h
def mY:∀ (is:List Nat) (vs:List V) (σ:L2.St),(c7 is vs σ).length=σ.length
 | [],_,_=>rfl
 | _::_,[],_=>rfl
 | i::is,v::vs,σ=>by rw[c7,mY is vs,List.length_set]
def kf:∀ (is:List Nat) (vs:List V) (σ:L2.St) (j:Nat),is.contains j=false->(c7 is vs σ)[j]?=σ[j]?
 | [],_,_,_,_=>rfl
 | _::_,[],_,_,_=>rfl
 | i::is,v::vs,σ,j,h=>by
  rw[List.contains_cons,Bool.or_eq_false_iff]at h;rw[c7,kf is vs _ j h.2,List.getElem?_set_ne (by intro e;subst e;simp at h)]
def iX:∀ (is:List Nat) (vs:List RL.D) (σ:RL.St),(dk is vs σ).length=σ.length
 | [],_,_=>rfl
 | _::_,[],_=>rfl
 | i::is,v::vs,σ=>by rw[dk,iX is vs,List.length_set]
def i3:∀ (is:List Nat) (vs:List RL.D) (σ:RL.St) (j:Nat),is.contains j=false->(dk is vs σ)[j]?=σ[j]?
 | [],_,_,_,_=>rfl
 | _::_,[],_,_,_=>rfl
 | i::is,v::vs,σ,j,h=>by
  rw[List.contains_cons,Bool.or_eq_false_iff]at h;rw[dk,i3 is vs _ j h.2,List.getElem?_set_ne (by intro e;subst e;simp at h)]
abbrev RVx(T:List Nat)(K:PySem.W.Frag)(σD:RL.St)(σ:L2.St)(H:Hp):Prop:=σD.length<=σ.length/\∀ (i:Nat) (d:RL.D),T.contains i=false->σD[i]?=some (some d)->∃ v,σ[i]?=some (some v)/\Rep nP K H d v
def RVx.set{K:PySem.W.Frag}(h:RVx (i::T) K σD σ H)(r:Rep nP K H d v):RVx T K (σD.set i (some d)) (σ.set i (some v)) H:=⟨by simpa using h.1,fun j dj hT e=>by
 by_cases hj:j=i
 ·subst hj
  have hlt:j<σD.length:=by
   have:=(List.getElem?_eq_some_iff.mp e).1;simpa using this
  rw[List.getElem?_set_self hlt]at e;cases e;exact⟨v,by rw[List.getElem?_set_self (Nat.lt_of_lt_of_le hlt h.1)],r⟩
 ·rw[List.getElem?_set_ne (Ne.symm hj)]at e ⊢
  exact h.2 j dj (by rw[List.contains_cons,hT,Bool.or_false];simpa using hj) e⟩
def RVx.bR{K:PySem.W.Frag}:∀ {is:List Nat} {ds:List RL.D} {vs:List V} {σD:RL.St} {σ:L2.St},RVx is K σD σ H->is.length=ds.length->ag nP K H ds vs->RV0 K (dk is ds σD) (c7 is vs σ) H
 | [],_,_,_,_,h,_,_=>⟨h.1,fun i d e=>h.2 i d rfl e⟩
 | i::is,[],_,_,_,_,hl,_=>by simp at hl
 | i::is,d::ds,vs,σD,σ,h,hl,r=>by
  rw[ag]at r;obtain⟨v,t,rfl,r1,r2⟩:=r;rw[dk,c7];exact RVx.bR (h.set r1) (by simpa using hl) r2
def zX{K:PySem.W.Frag}(h:gT K tg v σ H Q):∃ vs,tg.length=vs.length/\Q (c7 tg vs σ) H/\∀ Q':L2.St->Hp->Prop,Q' (c7 tg vs σ) H->gT K tg v σ H Q':=by
 have inv:∀ (is:List Nat) (xs:List V) (σ:L2.St) (Q:L2.St->Hp->Prop),gs is xs σ H Q->is.length=xs.length/\Q (c7 is xs σ) H:=by
  intro is
  induction is with
  | nil=>intro xs σ Q h;obtain⟨rfl,q⟩:=h;exact⟨rfl,q⟩
  |cons i r ih=>
   intro xs σ Q h;obtain⟨v,t,rfl,q⟩:=h;obtain⟨h1,h2⟩:=ih t _ Q q;exact⟨by simp[h1],h2⟩
 unfold gT at h;split at h
 ·rename_i i;exact⟨[v],rfl,h,fun Q' q=>q⟩
 ·rename_i hne
  have key:gT K tg=fun v σ H Q=>jY K tg.length (gs tg) v σ H Q\/jV K tg.length (gs tg) v σ H Q:=by
   unfold gT;split
   ·rename_i i;exact absurd rfl (hne i)
   ·rfl
  rw[key]
  rcases h with⟨a,xs,rfl,hq,hl,hg⟩ | ⟨a,xs,rfl,hq,hl,hg⟩
  ·obtain⟨h1,h2⟩:=inv _ _ _ _ hg;exact⟨xs,h1,h2,fun Q' q=>.inl ⟨a,xs,rfl,hq,hl,fN h1 q⟩⟩
  ·obtain⟨h1,h2⟩:=inv _ _ _ _ hg;exact⟨xs,h1,h2,fun Q' q=>.inr ⟨a,xs,rfl,hq,hl,fN h1 q⟩⟩
abbrev eL(tg:List Nat)(σ:L2.St):L2.St:=σ.mapIdx fun i o=>if tg.contains i then none else o
def nE(tg:List Nat)(σ:L2.St):(eL tg σ).length=σ.length:=by simp[eL]
def pJ(h:tg.contains i=false):(eL tg σ)[i]?=σ[i]?:=by
 unfold eL;rw[List.getElem?_mapIdx]
 cases σ[i]? with
 | none=>rfl
 | some o=>simp only[Option.map_some,h,Bool.false_eq_true,if_false]
def oK(h:tg.contains i=true):(eL tg σ)[i]?≠some (some v):=by
 unfold eL;rw[List.getElem?_mapIdx]
 cases σ[i]? with
 | none=>simp
 | some o=>simp only[Option.map_some,h,if_true];intro z;cases z
section comp
variable{X:Cx}
structure gq(X:Cx)(cl:RL.Cl)(scope:Scope)(tgE:Expr)(tg:List Nat)(elt:Expr)(e':RL.E)(tcs:TT)(ifs:List Expr):Prop where
 htg:∀ cls C fp s H,PG (blk X scope cls C fp s H) tgE (gT X.K tg)
 htc:∀ cls C fp s H pins s' σ H' Q,Inv (blk X scope cls C fp s H) pins σ H' s'->tcs σ H' Q->wpAny (model X.prog X.w) X.A (fm ifs (compEnvC scope cls C X.env)) (TP (blk X scope cls C fp s H) pins σ Q) (fun _ _=>False) s'
 hte:∀ cls C fp s H,SE (blk X scope cls C fp s H) cl elt e'
 cover:∀ (i:Nat) (x:Str),X.N[i]?=some x->scope.names.lookup x=some .local\/scope.names.lookup x=some .cell->tg.contains i=true
def gq.blk{tcs:TT}(B:gq X cl scope tgE tg elt e' tcs ifs):lO X scope tgE ifs elt (eL tg) (gT X.K tg) tcs (tE X.K cl e') where
 htg:=B.htg
 htc:=B.htc
 hte:=B.hte
 Br:=fun σ hl=>⟨nE tg σ,fun i x v h1 h2=>by
  by_cases hc:tg.contains i=true
  ·exact absurd h2 (oK hc)
  ·simp only[Bool.not_eq_true]at hc;rw[pJ hc]at h2;refine⟨h2,fun z=>?_,fun z=>?_⟩
   ·rw[B.cover i x h1 (.inl z)]at hc;cases hc
   ·rw[B.cover i x h1 (.inr z)]at hc
    cases hc⟩
 wH:=fun x σ H Q h=>by
  obtain⟨vs,h1,h2,h3⟩:=zX h;refine h3 _ ⟨h2,(mY _ _ _).symm,fun i v e=>?_⟩;by_cases hc:tg.contains i=true
  ·exact absurd e (oK hc)
  ·simp only[Bool.not_eq_true]at hc;rw[kf _ _ _ _ hc];exact e
def tZ(h:RL.dU f tg σ (d::r)=some ys):∃ σ1 y ys',RL.bY tg d σ=some σ1/\f σ1=some y/\RL.dU f tg σ r=some ys'/\RL.pZ y ys'=some ys:=by
 rw[RL.dU]at h;obtain⟨σ1,h1,h⟩:=bind_some h;obtain⟨y,h2,h⟩:=bind_some h;obtain⟨ys',h3,h⟩:=bind_some h;exact⟨σ1,y,ys',h1,h2,h3,h⟩
def pI(rv:RV0 X.K σD σ H)(ei:RL.dS cl σD it=some ds)(hz:ds.length<=RL.most)(hm:RL.dU f tg σD ds=some total)
 (ht:∀ σ1 σV H y (Q:Bool->Hp->Prop),RV0 X.K σ1 σV H->f σ1=some y->(∀ k H',aA H H'->(if k=true then ∃ d,y=some d/\RL.ev cl σ1 e'=some d else y=none)->Q k H')->tcs σV H Q)
 (k:∀ l H',aA H H'->H l=none->(∃ xs,H' l=some (.lst xs)/\ag nP X.K H' total xs)->Q (.ref l) H'):fZ (tI X.K cl it) (eL tg) (gT X.K tg) tcs (tE X.K cl e') σ H Q:=by
 refine⟨σD,ds,rv,ei,fun J H1 s1 src l hl=>?_⟩;obtain⟨ok,_⟩:=src
 refine⟨fun i m xs H2=>∃ don rest,m=ds.length-i/\i<=ds.length/\aA H1 H2/\H2 l=some (.lst xs)/\ag (fun p=>p=l) X.K H2 don xs/\RL.dU f tg σD (ds.drop i)=some rest/\don++rest=total/\don.length<=i,
  ⟨_,[],total,rfl,Nat.zero_le _,aA.bW hl,aC,ag.nil,hm,rfl,Nat.le_refl _⟩,?_⟩
 rintro i m xs H2 ⟨don,rest,rfl,hi,s2,hl2,rs,hr,htot,hdn⟩;refine⟨hl2,?_⟩;have off:Off nP H1 H2:=Off.same s2;by_cases hlt:i<ds.length
 ·refine .inr ⟨ok.go H2 i off hlt,fun x H3 y=>?_⟩
  have hd:ds[i]?=some ds[i]:=by simp[hlt]
  obtain⟨s3,rp⟩:=ok.yld H2 i ds[i] x H3 off hd y;have rp:=rp (.inr s2);rw[List.drop_eq_getElem_cons hlt]at hr;obtain⟨σ1,y1,ys',h1,h2,h3,h4⟩:=tZ hr;obtain⟨dv,vs,e1,e2,e3,_,e5⟩:=qT h1 rp;refine e5 _ _ ?_;have rv3:RV0 X.K σD σ H3:=rv.same ((s1.trans s2).trans s3)
  have rvx:RVx tg X.K σD (eL tg σ) H3:=⟨by rw[nE];exact rv3.1,fun j d hT e=>by rw[pJ hT];exact rv3.2 j d e⟩
  have rv1:RV0 X.K σ1 (c7 tg vs (eL tg σ)) H3:=by rw[e1];exact rvx.bR e2 e3
  refine ht σ1 _ H3 y1 _ rv1 h2 fun t H5 s5 hy=>?_;have hl5:H5 l=some (.lst xs):=s5 _ _ (s3 _ _ hl2);have rs5:ag (fun p=>p=l) X.K H5 don xs:=(rs.same s3).same s5
  cases t with
  |true=>
   obtain⟨d,rfl,hv⟩:=(show ∃ d,y1=some d/\RL.ev cl σ1 e'=some d from hy)
   have him:d.imm=true/\rest=d::ys':=by
    unfold RL.pZ at h4;dsimp only at h4;split at h4
    ·rename_i hh;cases h4;exact⟨hh,rfl⟩
    ·cases h4
   refine dF ⟨σ1,d,rv1.same s5,hv,fun v H6 r6=>⟨r6.same _ _ hl5,?_,ds.length-(i+1),by lia,don++[d],ys',rfl,hlt,?_,aC,?_,h3,?_,?_⟩⟩
   ·rw[<-rs.length];exact Nat.lt_of_lt_of_le (Nat.lt_of_le_of_lt hdn (Nat.lt_of_lt_of_le hlt hz)) (Nat.le_of_lt (by decide))
   ·intro b o e;have hb:b≠l:=aF e hl;rw[aw hb];exact r6.same _ _ (s5 _ _ (s3 _ _ (s2 _ _ e)))
   ·exact ag.upd (P:=fun p=>p=l) (r6.same _ _ hl5) (.inl ⟨_,rfl⟩) rfl (ag.append (rs5.same r6.same) (ag.cons (r6.rep.imm him.1) ag.nil))
   ·rw[<-htot,him.2,List.append_assoc];rfl
   ·rw[List.length_append,List.length_singleton];lia
  |false=>
   have hy:y1=none:=hy;subst hy
   have hr2:rest=ys':=by
    unfold RL.pZ at h4;dsimp only at h4;cases h4;rfl
   refine dR ⟨ds.length-(i+1),by lia,don,ys',rfl,hlt,(s2.trans s3).trans s5,hl5,rs5,h3,by rw[<-htot,hr2],by lia⟩
 ·have e:i=ds.length:=by lia
  subst e;refine .inl ⟨ok.stop H2 off,k l H2 (s1.trans s2) (s1.free hl) ⟨xs,hl2,?_⟩⟩;rw[List.drop_length,RL.dU]at hr;cases hr;rw[List.append_nil]at htot;rw[<-htot];exact ag.weak (fun _ z=>z.elim) rs
end comp
section comp
variable{X:Cx}
structure kd(scope sc:Scope):Prop where
 kind:scope.kind=.function
 own:∀ x∈scope.names,x.2=.cell->scope.names.lookup x.1=some .cell
 loc:∀ x∈scope.names,x.2=.local->scope.names.lookup x.1=some .local
 vis:∀ x∈scope.names,x.2=.free->sc.names.lookup x.1=some .cell\/sc.names.lookup x.1=some .free
def eR(S:kd scope X.env.scope)(I:Inv X pins σ H s):∃ cls,closureFor scope X.env=pure cls/\eD scope X.env.scope cls X.env.cells:=by
 obtain⟨cls,h1,h2,h3⟩:=pS (env:=X.env) (scope:=scope) fun x hx=>I.ok.has x (S.vis _ hx rfl);exact⟨cls,h1,S.kind,S.own,S.loc,h2,h3,fun x hx=>S.vis _ (PySem.mem_of_lookup hx) rfl⟩
def nH(sm:aA H H')(hl:H l=none)(h:∃ xs,H' l=some (.lst xs)/\ag nP X.K H' total xs)(hav:∀ M,RL.avE M e=false):Res X.K σD σ H e (.lst total) (.ref l) H' where
 same:=sm
 rep:=by
  obtain⟨xs,h1,h2⟩:=h;rw[Rep];exact⟨l,xs,rfl,fun z=>z,h1,h2⟩
 fresh:=fun _ _ a z=>by cases z;exact hl
 av:=fun M z=>by rw[hav M]at z;cases z
abbrev jk:TT:=fun _ H Q=>Q true H
def mK(h:tE X.K cl (.compA e' tg it) σ H Q):fZ (tI X.K cl it) (eL tg) (gT X.K tg) jk (tE X.K cl e') σ H Q:=by
 obtain⟨σD,d,rv,e,k⟩:=h;obtain⟨ds,e1,e⟩:=bind_some e;obtain⟨ds',e2,e⟩:=bind_some e;obtain⟨total,e3,e4⟩:=map_some e;unfold RL.fits at e2;split at e2
 ·rename_i hz;cases e2;subst e4;refine pI (f:=fun σ1=>(RL.ev cl σ1 e').map some) rv e1 hz e3 (fun σ1 σV H y Q rv1 hy q=>?_) fun l H' sm hl hx=>k _ _ (nH sm hl hx fun _=>rfl);obtain⟨d,h1,h2⟩:=map_some hy;exact q true H (aA.refl H) (dF ⟨d,h2.symm,h1⟩)
 ·cases e2
def mS(h:tE X.K cl (.comp e' tg it c') σ H Q):fZ (tI X.K cl it) (eL tg) (gT X.K tg) (tT X.K cl c') (tE X.K cl e') σ H Q:=by
 obtain⟨σD,d,rv,e,k⟩:=h;obtain⟨ds,e1,e⟩:=bind_some e;obtain⟨ds',e2,e⟩:=bind_some e;obtain⟨total,e3,e4⟩:=map_some e;unfold RL.fits at e2;split at e2
 ·rename_i hz;cases e2;subst e4;refine pI rv e1 hz e3 (fun σ1 σV H y Q rv1 hy q=>?_) fun l H' sm hl hx=>k _ _ (nH sm hl hx fun _=>rfl);obtain⟨t,h1,h2⟩:=bind_some hy;refine⟨σ1,t,rv1,h1,fun H' sm=>q t H' sm ?_⟩
  cases t with
  |true=>
   obtain⟨d,h3,h4⟩:=map_some (show(RL.ev cl σ1 e').map some=some y from h2);exact dF ⟨d,h4.symm,h3⟩
  |false=>
   cases(show(some none:Option (Option RL.D))=some y from h2);exact dR rfl
 ·cases e2
def vJ(hc:X.calm=true)(S:kd scope X.env.scope)(hi:SI X cl tgE iter it)(B:gq X cl scope tgE tg elt e' jk [])(hs:∀ x,foldedSetIterable iter X.env x=pure x):SE X cl (.ListComp elt [⟨tgE,iter,[],0⟩] scope pos) (.compA e' tg it):=by
 intro pins s σ H Q I h;obtain⟨cls,h1,h2⟩:=eR S I;exact pf (fun _ _ _ _=>hc) h2 h1 hi B.blk hs pins s σ H Q I (mK h)
def mX(hc:∀ {pins:List (Addr × Obj)} {σ:L2.St} {H:Hp} {s:Shared} (cls:List (Str × Addr)) (C:Addr) (fp:List Addr),Inv X pins σ H s->CM (blk X scope cls C fp s H))(S:kd scope X.env.scope)(hi:PI' CM X tgE iter (tI X.K cl it))(B:gq X cl scope tgE tg elt e' (tT X.K cl c') [c])(hs:∀ x,foldedSetIterable iter X.env x=pure x):SE X cl (.ListComp elt [⟨tgE,iter,[c],0⟩] scope pos) (.comp e' tg it c'):=by
 intro pins s σ H Q I h;obtain⟨cls,h1,h2⟩:=eR S I;exact pf hc h2 h1 hi B.blk hs pins s σ H Q I (mS h)
abbrev SA(X:Cx)(cl:RL.Cl)(st:Stmt)(i:Nat)(e':RL.E):Prop:=PS X st (fun D σ H=>tE X.K cl e' σ H fun v H1=>D.nx (σ.set i (some v)) H1)
def PS.weak{st:Stmt}(h:PS X st t)(w:∀ D σ H,t' D σ H->t D σ H):PS X st t':=fun pins s σ H D I q=>h pins s σ H D I (w D σ H q)
def PSs.weak{st:List Stmt}(h:PSs X st t)(w:∀ D σ H,t' D σ H->t D σ H):PSs X st t':=fun pins s σ H D I q=>h pins s σ H D I (w D σ H q)
def uH(hc:X.calm=true)(hN:X.N.Nodup)(hiy:X.N[i]?=some y)(hy:X.env.scope.names.lookup y=some .local)(S:kd scope X.env.scope)(hi:SI X cl tgE iter it)(B:gq X cl scope tgE tg elt e' jk [])(hs:∀ x,foldedSetIterable iter X.env x=pure x)
 (hsw:swapsWith (.ListComp elt [⟨tgE,iter,[],0⟩] scope pos) (some (.Name y py)) spos.line X.env=pure true):SA X cl (.Assign [.Name y py] (.ListComp elt [⟨tgE,iter,[],0⟩] scope pos) spos) i (.compA e' tg it):=by
 intro pins s σ H D I h;obtain⟨cls,h1,h2⟩:=eR S I;exact oU hc hN hiy hy h2 h1 hi B.blk hs hsw pins s σ H D I (mK h)
def ui(hc:X.calm=true)(hN:X.N.Nodup)(hiy:X.N[i]?=some y)(hy:X.env.scope.names.lookup y=some .local)(S:kd scope X.env.scope)(hi:SI X cl tgE iter it)(B:gq X cl scope tgE tg elt e' (tT X.K cl c') [c])(hs:∀ x,foldedSetIterable iter X.env x=pure x)
 (hsw:swapsWith (.ListComp elt [⟨tgE,iter,[c],0⟩] scope pos) (some (.Name y py)) spos.line X.env=pure true):SA X cl (.Assign [.Name y py] (.ListComp elt [⟨tgE,iter,[c],0⟩] scope pos) spos) i (.comp e' tg it c'):=by
 intro pins s σ H D I h;obtain⟨cls,h1,h2⟩:=eR S I;exact oU hc hN hiy hy h2 h1 hi B.blk hs hsw pins s σ H D I (mS h)
def vk(hN:X.N.Nodup)(hiy:X.N[i]?=some y)(hx:Loc X.env.scope y)(he:SE X cl e e')(hf:X.fn y=true\/X.env.scope.names.lookup y=some .local)(hs:swapsWith e (some (.Name y py)) spos.line X.env=pure false)(hf2:True):SA X cl (.Assign [.Name y py] e spos) i e':=by
 exact nG hN hiy hx he hs hf
end comp
abbrev aX(M:List Nat)(σ:L2.St):Addr->Prop:=fun a=>∃ i,M.contains i=true/\σ[i]?=some (some (.ref a))
abbrev Own(K:PySem.W.Frag)(H:Hp)(d:RL.D)(v:V):Prop:=k7 d=true/\RL.bF d=true/\Rep nP K H d v
structure RVm(K:PySem.W.Frag)(M:List Nat)(σD:RL.St)(σ:L2.St)(H:Hp):Prop where
 len:σD.length=σ.length
 val:∀ (i:Nat) (d:RL.D),σD[i]?=some (some d)->∃ v,σ[i]?=some (some v)/\(if M.contains i=true then Own K H d v else Rep (aX M σ) K H d v)
 non:∀ (i:Nat) (v:V),σ[i]?=some (some v)->∃ d,σD[i]?=some (some d)
 sep:∀ (i j:Nat) (a:Addr),M.contains i=true->M.contains j=true->σ[i]?=some (some (.ref a))->σ[j]?=some (some (.ref a))->i=j
abbrev Fr'(M:List Nat)(σ:L2.St)(H:Hp)(σ':L2.St)(H':Hp):Prop:=(∀ b o,H b=some o->¬ aX M σ b->H' b=some o/\¬ aX M σ' b)/\∀ j,2<=M.count j->σ'[j]?=σ[j]?
def Fr'.trans(a:Fr' M σ H σ1 H1)(b:Fr' M σ1 H1 σ2 H2):Fr' M σ H σ2 H2:=⟨fun c o e n=>b.1 c o (a.1 c o e n).1 (a.1 c o e n).2,fun j hj=>(b.2 j hj).trans (a.2 j hj)⟩
def Fr'.same(s:aA H H1):Fr' M σ H σ H1:=⟨fun c o e n=>⟨s _ _ e,n⟩,fun _ _=>rfl⟩
def gj{M:List Nat}(h:2<=M.count j):M.contains j=true:=by
 have:0<M.count j:=by lia
 simpa using List.count_pos_iff.mp this
section st
variable{K:PySem.W.Frag}
def Own.ref(h:Own K H d v):∃ a o,v=.ref a/\H a=some o/\cw o:=by
 obtain⟨m,_,r⟩:=h
 cases d with
 | lst ds=>obtain⟨a,xs,e1,_,e2,_⟩:=aM r;exact⟨a,_,e1,e2,.inl ⟨_,rfl⟩⟩
 | dK ks ds=>rw[Rep]at r;obtain⟨a,xs,e1,_,e2,_⟩:=r;exact⟨a,_,e1,e2,.inr (.inl ⟨_,rfl⟩)⟩
 | dT ks ds=>rw[Rep]at r;obtain⟨a,xs,e1,_,e2,_⟩:=r;exact⟨a,_,e1,e2,.inr (.inr ⟨_,rfl⟩)⟩
 | _=>cases m
def RVm.rv0(h:RVm K M σD σ H):RV0 K σD σ H:=⟨Nat.le_of_eq h.len,fun i d e=>by
 obtain⟨v,h1,h2⟩:=h.val i d e;refine⟨v,h1,?_⟩;by_cases hm:M.contains i=true
 ·rw[if_pos hm]at h2;exact h2.2.2
 ·rw[if_neg hm]at h2
  exact h2.none⟩
def RVm.qU(h:RVm K M σD σ H):∀ a,aX M σ a->∃ o,H a=some o/\cw o:=fun a ⟨i,hi,e⟩=>by
 obtain⟨d,hd⟩:=h.non i _ e;obtain⟨v,h1,h2⟩:=h.val i d hd;rw[if_pos hi]at h2;obtain⟨b,o,e1,e2,e3⟩:=h2.ref;rw[e]at h1;cases h1;cases e1;exact⟨o,e2,e3⟩
def RVm.u5(h:RVm K M σD σ H):∀ a,aX M σ a->H a≠none:=fun a p=>by
 obtain⟨o,e,_⟩:=h.qU a p;rw[e]
 exact fun z=>nomatch z
def Own.same(h:Own K H d v)(s:aA H H1):Own K H1 d v:=⟨h.1,h.2.1,h.2.2.same s⟩
def RVm.same(h:RVm K M σD σ H)(s:aA H H1):RVm K M σD σ H1:=⟨h.len,fun i d e=>by
 obtain⟨v,h1,h2⟩:=h.val i d e;refine⟨v,h1,?_⟩;by_cases hm:M.contains i=true
 ·rw[if_pos hm]at h2 ⊢;exact h2.same s
 ·rw[if_neg hm]at h2 ⊢
  exact h2.same s,h.non,h.sep⟩
def aX.set(hi:M.contains i=false):aX M (σ.set i (some v))=aX M σ:=by
 funext a;apply propext;constructor
 ·rintro⟨j,hj,e⟩
  have hne:i≠j:=fun z=>by subst z;rw[hi]at hj;cases hj
  rw[List.getElem?_set_ne hne]at e;exact⟨j,hj,e⟩
 ·rintro⟨j,hj,e⟩
  have hne:i≠j:=fun z=>by subst z;rw[hi]at hj;cases hj
  exact⟨j,hj,by rw[List.getElem?_set_ne hne];exact e⟩
def RVm.bind(h:RVm K M σD σ H)(hi:M.contains i=false)(r:Rep (aX M σ) K H d v):RVm K M (σD.set i (some d)) (σ.set i (some v)) H where
 len:=by simpa using h.len
 val:=fun j dj e=>by
  rw[aX.set hi];by_cases hj:j=i
  ·subst hj
   have hlt:j<σD.length:=by
    have:=(List.getElem?_eq_some_iff.mp e).1;simpa using this
   rw[List.getElem?_set_self hlt]at e;cases e;refine⟨v,by rw[List.getElem?_set_self (by rw[<-h.len];exact hlt)],?_⟩;rw[if_neg (by rw[hi];decide)];exact r
  ·rw[List.getElem?_set_ne (Ne.symm hj)]at e ⊢;exact h.val j dj e
 non:=fun j w e=>by
  by_cases hj:j=i
  ·subst hj
   have hlt:j<σ.length:=by
    have:=(List.getElem?_eq_some_iff.mp e).1;simpa using this
   exact⟨d,by rw[List.getElem?_set_self (by rw[h.len];exact hlt)]⟩
  ·rw[List.getElem?_set_ne (Ne.symm hj)]at e ⊢;exact h.non j w e
 sep:=fun j k a hj hk e1 e2=>by
  have n1:i≠j:=fun z=>by subst z;rw[hi]at hj;cases hj
  have n2:i≠k:=fun z=>by subst z;rw[hi]at hk;cases hk
  rw[List.getElem?_set_ne n1]at e1;rw[List.getElem?_set_ne n2]at e2;exact h.sep j k a hj hk e1 e2
def Fr'.bind{i:Nat}(hi:M.contains i=false)(s:aA H H1):Fr' M σ H (σ.set i (some v)) H1:=⟨fun b o e n=>⟨s _ _ e,by rw[aX.set hi];exact n⟩,fun j hj=>List.getElem?_set_ne (fun z=>by subst z;rw[gj hj]at hi;cases hi)⟩
end st
mutual
theorem Rep.cQ{P:Addr->Prop}{K:PySem.W.Frag}{H:Hp}{a:Addr}(ha:H a=none):∀ {d:RL.D} {v:V},Rep P K H d v->Rep (fun p=>P p\/p=a) K H d v
 | .non,v,h=>by simpa[Rep]using h
 | .bl _,v,h=>by simpa[Rep]using h
 | .int _,v,h=>by simpa[Rep]using h
 | .str _,v,h=>by simpa[Rep]using h
 | .tup ds,v,h=>by
  rw[Rep]at h ⊢;obtain⟨b,xs,e1,e2,e3⟩:=h;exact⟨b,xs,e1,e2,ag.cQ ha e3⟩
 | .lst ds,v,h=>by
  rw[Rep]at h ⊢;obtain⟨b,xs,e1,e0,e2,e3⟩:=h;exact⟨b,xs,e1,fun z=>z.elim e0 (fun q=>aF e2 ha q),e2,ag.cQ ha e3⟩
 | .dK ks ds,v,h=>by
  rw[Rep]at h ⊢;obtain⟨b,xs,e1,e0,e2,el,e3⟩:=h;exact⟨b,xs,e1,fun z=>z.elim e0 (fun q=>aF e2 ha q),e2,el,ag.cQ ha e3⟩
 | .dT ks ds,v,h=>by
  rw[Rep]at h ⊢;obtain⟨b,xs,e1,e0,e2,el,e3⟩:=h;exact⟨b,xs,e1,fun z=>z.elim e0 (fun q=>aF e2 ha q),e2,el,ag.cQ ha e3⟩
 | .scr ds,v,h=>by
  rw[Rep]at h ⊢;obtain⟨b,xs,e1,e2,e3⟩:=h;exact⟨b,xs,e1,e2,ag.cQ ha e3⟩
 | .exc c,v,h=>by rw[Rep]at h ⊢;exact h
 | .obj,v,h=>by rw[Rep]at h ⊢;exact h
 | .fT ks ds,v,h=>by rw[Rep]at h ⊢;obtain⟨b,o,xs,e1,e2,el,e3⟩:=h;exact⟨b,o,xs,e1,e2,el,ag.cQ ha e3⟩
 | .fL ds,v,h=>by rw[Rep]at h ⊢;obtain⟨b,o,xs,e1,e2,e3⟩:=h;exact⟨b,o,xs,e1,e2,ag.cQ ha e3⟩
theorem ag.cQ{P:Addr->Prop}{K:PySem.W.Frag}{H:Hp}{a:Addr}(ha:H a=none):∀ {ds:List RL.D} {xs:List V},ag P K H ds xs->ag (fun p=>P p\/p=a) K H ds xs
 | [],xs,h=>by rw[ag]at h ⊢;exact h
 | d::r,xs,h=>by
  rw[ag]at h ⊢;obtain⟨x,t,e1,e2,e3⟩:=h;exact⟨x,t,e1,Rep.cQ ha e2,ag.cQ ha e3⟩
end
section st
variable{K:PySem.W.Frag}
def RVm.own(h:RVm K M σD σ H)(s:aA H H1)(hi:M.contains i=true)(hi2:M.count i<2)(ha:H a=none)(r:Own K H1 d (.ref a)):RVm K M (σD.set i (some d)) (σ.set i (some (.ref a))) H1/\Fr' M σ H (σ.set i (some (.ref a))) H1:=by
 have sub:∀ b,aX M (σ.set i (some (.ref a))) b->aX M σ b\/b=a:=fun b ⟨j,hj,e⟩=>by
  by_cases hji:j=i
  ·subst hji
   have hlt:j<σ.length:=by
    have:=(List.getElem?_eq_some_iff.mp e).1;simpa using this
   rw[List.getElem?_set_self hlt]at e;cases e;exact .inr rfl
  ·rw[List.getElem?_set_ne (Ne.symm hji)]at e;exact .inl ⟨j,hj,e⟩
 have old:∀ b,aX M σ b->b≠a:=fun b p z=>h.u5 b p (z▸ha);refine⟨⟨by simpa using h.len,fun j dj e=>?_,fun j w e=>?_,fun j k b hj hk e1 e2=>?_⟩,⟨fun b o e n=>⟨s _ _ e,fun z=>(sub b z).elim n fun q=>aF e ha q⟩,fun j hj=>List.getElem?_set_ne (fun z=>by subst z;lia)⟩⟩
 ·by_cases hj:j=i
  ·subst hj
   have hlt:j<σD.length:=by
    have:=(List.getElem?_eq_some_iff.mp e).1;simpa using this
   rw[List.getElem?_set_self hlt]at e;cases e;refine⟨.ref a,by rw[List.getElem?_set_self (by rw[<-h.len];exact hlt)],?_⟩;rw[if_pos hi];exact r
  ·rw[List.getElem?_set_ne (Ne.symm hj)]at e ⊢;obtain⟨v,h1,h2⟩:=h.val j dj e;refine⟨v,h1,?_⟩;by_cases hm:M.contains j=true
   ·rw[if_pos hm]at h2 ⊢;exact h2.same s
   ·rw[if_neg hm]at h2 ⊢;exact((h2.cQ ha).weak sub).same s
 ·by_cases hj:j=i
  ·subst hj
   have hlt:j<σ.length:=by
    have:=(List.getElem?_eq_some_iff.mp e).1;simpa using this
   exact⟨d,by rw[List.getElem?_set_self (by rw[h.len];exact hlt)]⟩
  ·rw[List.getElem?_set_ne (Ne.symm hj)]at e ⊢;exact h.non j w e
 ·by_cases h1:j=i
  ·by_cases h2:k=i
   ·rw[h1,h2]
   ·subst h1
    have hlt:j<σ.length:=by
     have:=(List.getElem?_eq_some_iff.mp e1).1;simpa using this
    rw[List.getElem?_set_self hlt]at e1;rw[List.getElem?_set_ne (Ne.symm h2)]at e2;cases e1;exact absurd rfl (old _ ⟨k,hk,e2⟩)
  ·rw[List.getElem?_set_ne (Ne.symm h1)]at e1;by_cases h2:k=i
   ·subst h2
    have hlt:k<σ.length:=by
     have:=(List.getElem?_eq_some_iff.mp e2).1;simpa using this
    rw[List.getElem?_set_self hlt]at e2;cases e2;exact absurd rfl (old _ ⟨j,hj,e1⟩)
   ·rw[List.getElem?_set_ne (Ne.symm h2)]at e2;exact h.sep j k b hj hk e1 e2
def RVm.gi(h:RVm K M σD σ H)(hi:M.contains i=true)(e:σ[i]?=some (some (.ref a)))(ha:H a=some o)(m:cw o)(r:Own K (upd H a o') d' (.ref a)):RVm K M (σD.set i (some d')) σ (upd H a o')/\Fr' M σ H σ (upd H a o'):=by
 have pa:aX M σ a:=⟨i,hi,e⟩
 refine⟨⟨by simpa using h.len,fun j dj e'=>?_,fun j w e'=>?_,h.sep⟩,⟨fun b u eb n=>⟨?_,n⟩,fun _ _=>rfl⟩⟩
 ·by_cases hj:j=i
  ·subst hj
   have hlt:j<σD.length:=by
    have:=(List.getElem?_eq_some_iff.mp e').1;simpa using this
   rw[List.getElem?_set_self hlt]at e';cases e';refine⟨.ref a,e,?_⟩;rw[if_pos hi];exact r
  ·rw[List.getElem?_set_ne (Ne.symm hj)]at e';obtain⟨v,h1,h2⟩:=h.val j dj e';refine⟨v,h1,?_⟩;by_cases hm:M.contains j=true
   ·rw[if_pos hm]at h2 ⊢;obtain⟨b,ob,rfl,hb,_⟩:=h2.ref
    have hne:b≠a:=fun z=>by subst z;exact hj (h.sep j i b hm hi h1 e)
    obtain⟨q1,q2,q3⟩:=h2;refine⟨q1,q2,?_⟩;have im:∀ {ds:List RL.D} {xs:List V},RL.ar ds=true->ag nP K H ds xs->ag nP K (L2.upd H a o') ds xs:=fun hi r=>(ag.upd (P:=fun p=>p=a) ha m rfl (r.imm hi)).imm hi
    cases dj with
    | lst ds=>obtain⟨b',xs,e1,e0,e2,e3⟩:=aM q3;cases e1;rw[Rep];exact⟨b,xs,rfl,fun z=>z,by rw[L2.aw hne];exact e2,im q2 e3⟩
    | dK ks ds=>rw[Rep]at q3 ⊢;obtain⟨b',xs,e1,e0,e2,el,e3⟩:=q3;cases e1;exact⟨b,xs,rfl,fun z=>z,by rw[L2.aw hne];exact e2,el,im q2 e3⟩
    | dT ks ds=>rw[Rep]at q3 ⊢;obtain⟨b',xs,e1,e0,e2,el,e3⟩:=q3;cases e1;exact⟨b,xs,rfl,fun z=>z,by rw[L2.aw hne];exact e2,el,im q2 e3⟩
    | _=>cases q1
   ·rw[if_neg hm]at h2 ⊢;exact Rep.upd ha m pa h2
 ·obtain⟨dj,hd⟩:=h.non j w e';by_cases hj:j=i
  ·subst hj;have hlt:=(List.getElem?_eq_some_iff.mp hd).1;exact⟨d',by rw[List.getElem?_set_self hlt]⟩
  ·exact⟨dj,by rw[List.getElem?_set_ne (Ne.symm hj)];exact hd⟩
 ·have hb:b≠a:=fun z=>n (z▸pa);rw[L2.aw hb];exact eb
end st
abbrev nB(K:PySem.W.Frag)(M:List Nat)(D:Ends)(σ:L2.St)(H:Hp):RL.Out->RL.St->Prop
 | .nx,σD'=>∀ σ' H',RVm K M σD' σ' H'->Fr' M σ H σ' H'->D.nx σ' H'
 | .rt d,σD'=>∀ σ1 H1 v H',RVm K M σD' σ1 H1->Fr' M σ H σ1 H1->aA H1 H'->(∀ P:Addr->Prop,(∀ p,P p->H1 p≠none/\¬ aX M σ1 p)->Rep P K H' d v)->D.rt v H'
def nB.from{K:PySem.W.Frag}(h:nB K M D σ H r σD')(f:Fr' M σ H σ1 H1):nB K M D σ1 H1 r σD':=by
 cases r with
 | nx=>exact fun σ2 H2 rv2 fr2=>h σ2 H2 rv2 (f.trans fr2)
 | rt d=>exact fun σ1 H1 v H2 rv2 fr2 sm rp=>h σ1 H1 v H2 rv2 (f.trans fr2) sm rp
abbrev tS(K:PySem.W.Frag)(M:List Nat)(f:RL.St->Option (RL.Out × RL.St)):TS:=fun D σ H=>∃ σD r σD',RVm K M σD σ H/\f σD=some (r,σD')/\nB K M D σ H r σD'
abbrev SS(X:Cx)(cl:RL.Cl)(M:List Nat)(st:Stmt)(s:RL.S):Prop:=PS X st (tS X.K M (RL.evS cl M s))
abbrev SSs(X:Cx)(cl:RL.Cl)(M:List Nat)(st:List Stmt)(s:RL.Ss):Prop:=PSs X st (tS X.K M (RL.aB cl M s))
section rules
variable{st:Stmt}{i j:Nat}
def xO:SSs X cl M [] .nil:=by
 refine PSs.weak fk fun D σ H h=>?_;obtain⟨σD,r,σD',rv,e,k⟩:=h;rw[RL.aB]at e;cases e;exact k σ H rv (Fr'.same (aA.refl H))
def vO(h1:SS X cl M st s)(h2:SSs X cl M sts r):SSs X cl M (st::sts) (.cons s r):=by
 refine PSs.weak (aY h1 h2) fun D σ H h=>?_;obtain⟨σD,o,σD',rv,e,k⟩:=h;rw[RL.aB]at e;obtain⟨p,e1,e2⟩:=bind_some e;obtain⟨o1,σ1⟩:=p;refine⟨σD,o1,σ1,rv,e1,?_⟩
 cases o1 with
 |rt d=>
  cases e2;exact k
 |nx=>
  exact fun σ' H' rv' fr'=>⟨σ1,o,σD',rv',e2,k.from fr'⟩
def uF:SS X cl M st .never:=by
 refine PS.weak uR fun D σ H h=>?_;obtain⟨σD,o,σD',rv,e,k⟩:=h;cases e
def Bf(h:SA X cl st i e')(hi:M.contains i=false):SS X cl M st (.asg i e'):=by
 refine PS.weak h fun D σ H h=>?_;obtain⟨σD,o,σD',rv,e,k⟩:=h;obtain⟨d,e1,e2⟩:=bind_some e;split at e2
 ·rename_i ok;cases e2;refine⟨σD,d,rv.rv0,e1,fun v H1 r1=>k _ _ ?_ (Fr'.bind hi r1.same)⟩;refine(rv.same r1.same).bind hi ?_;unfold RL.eU at ok;rw[Bool.or_eq_true,Bool.or_eq_true,Bool.and_eq_true]at ok;rcases ok with(q | ⟨q1,q2⟩) | q
  ·exact r1.rep.imm q
  ·have rp:=r1.rep;have fr:k7 d=true->∀ a,v=.ref a->¬ aX M σ a:=fun m a z p=>rv.u5 a p (r1.fresh q2 m a z)
   cases d with
   | lst ds=>obtain⟨a,xs,e1,e0,e2,e3⟩:=aM rp;rw[Rep];exact⟨a,xs,e1,fr rfl a e1,e2,e3.imm q1⟩
   | dK ks ds=>rw[Rep]at rp ⊢;obtain⟨a,xs,e1,e0,e2,el,e3⟩:=rp;exact⟨a,xs,e1,fr rfl a e1,e2,el,e3.imm q1⟩
   | dT ks ds=>rw[Rep]at rp ⊢;obtain⟨a,xs,e1,e0,e2,el,e3⟩:=rp;exact⟨a,xs,e1,fr rfl a e1,e2,el,e3.imm q1⟩
   | _=>cases q1
  ·refine r1.av M q _ rv.u5 fun j dj vj hj h1 h2=>?_;obtain⟨v',h3,h4⟩:=rv.val j dj h1;rw[h2]at h3;cases h3;rw[if_neg (by rw[hj];decide)]at h4;exact h4
 ·cases e2
def Ak(h:SA X cl st i e')(hi:M.contains i=true)(hi2:M.count i<2):SS X cl M st (.own i e'):=by
 refine PS.weak h fun D σ H h=>?_;obtain⟨σD,o,σD',rv,e,k⟩:=h;obtain⟨d,e1,e2⟩:=bind_some e;split at e2
 ·rename_i ok;cases e2;rw[Bool.and_eq_true]at ok;refine⟨σD,d,rv.rv0,e1,fun v H1 r1=>?_⟩
  have m:k7 d=true:=by
   cases d with
   | lst _=>rfl
   | dK _ _=>rfl
   | dT _ _=>rfl
   | _=>cases ok.1
  have ow:Own X.K H1 d v:=⟨m,ok.1,r1.rep⟩
  obtain⟨a,ob,rfl,_,_⟩:=ow.ref;obtain⟨h1,h2⟩:=rv.own r1.same hi hi2 (r1.fresh ok.2 m a rfl) ow;exact k _ _ h1 h2
 ·cases e2
def wg{c:Expr}(hc:ST X cl c c')(ha:SSs X cl M a a')(hb:SSs X cl M b b'):SS X cl M (.If c a b pos) (.ife c' a' b'):=by
 refine PS.weak (j3 hc ha hb) fun D σ H h=>?_;obtain⟨σD,o,σD',rv,e,k⟩:=h;obtain⟨t,e1,e2⟩:=bind_some e;refine⟨σD,t,rv.rv0,e1,fun H1 s1=>?_⟩;have k1:=k.from (Fr'.same (σ:=σ) s1)
 cases t with
 | true=>exact dF ⟨σD,o,σD',rv.same s1,e2,k1⟩
 | false=>exact dR ⟨σD,o,σD',rv.same s1,e2,k1⟩
def zb(he:SE X cl e e')(hv:∀ i,e'=.var i->M.contains i=false):SS X cl M (.Return (some e) pos) (.ret e'):=by
 refine PS.weak (jm he) fun D σ H h=>?_;obtain⟨σD,o,σD',rv,ev,k⟩:=h;obtain⟨d,e1,e2⟩:=bind_some ev;split at e2
 ·rename_i ok;cases e2;refine⟨σD,d,rv.rv0,e1,fun v H1 r1=>k σ H v H1 rv (Fr'.same (aA.refl H)) r1.same fun P hP=>?_⟩;unfold RL.ed at ok;rw[Bool.or_eq_true,Bool.and_eq_true,Bool.or_eq_true]at ok
  rcases ok with q | ⟨q1,q2⟩
  ·exact r1.rep.imm q
  ·have rp:=r1.rep
   have fr:k7 d=true->∀ a,v=.ref a->¬ P a:=fun m a z p=>by
    rcases q2 with q | q
    ·exact(hP a p).1 (r1.fresh q m a z)
    ·cases e' with
     |var i=>
      have hi:M.contains i=true:=q;rw[hv i rfl]at hi;cases hi
     | _=>cases q
   cases d with
   | lst ds=>obtain⟨a,xs,e1,e0,e2,e3⟩:=aM rp;rw[Rep];exact⟨a,xs,e1,fr rfl a e1,e2,e3.imm q1⟩
   | dK ks ds=>rw[Rep]at rp ⊢;obtain⟨a,xs,e1,e0,e2,el,e3⟩:=rp;exact⟨a,xs,e1,fr rfl a e1,e2,el,e3.imm q1⟩
   | dT ks ds=>rw[Rep]at rp ⊢;obtain⟨a,xs,e1,e0,e2,el,e3⟩:=rp;exact⟨a,xs,e1,fr rfl a e1,e2,el,e3.imm q1⟩
   | _=>cases q1
 ·cases e2
def xI(hN:X.N[i]?=some x)(hv:Vis X.env.scope x)(hd:(x == ("__debug__" : Str))=false)(hcd:(x == ("__classdict__" : Str))=false)(hi:M.contains i=true):SS X cl M (.Return (some (.Name x p)) pos) (.ret (.var i)):=by
 refine PS.weak (jm (bz hN hv hd hcd)) fun D σ H h=>?_;obtain⟨σD,o,σD',rv,e,k⟩:=h;obtain⟨d,e1,e2⟩:=bind_some e;split at e2
 ·cases e2
  have e3:σD[i]?=some (some d):=by
   obtain⟨o,h1,h2⟩:=bind_some e1
   cases o with
   | none=>cases h2
   | some z=>cases h2;exact h1
  obtain⟨v,h1,h2⟩:=rv.val i d e3;rw[if_pos hi]at h2;refine⟨v,h1,k σ H v H rv (Fr'.same (aA.refl H)) (aA.refl H) fun P hP=>?_⟩;obtain⟨a,o,rfl,_,_⟩:=h2.ref;have np:¬ P a:=fun p=>(hP a p).2 ⟨i,hi,h1⟩;obtain⟨q1,q2,q3⟩:=h2
  cases d with
  | lst ds=>obtain⟨b,xs,e1,e0,e2,e3⟩:=aM q3;cases e1;rw[Rep];exact⟨a,xs,rfl,np,e2,e3.imm q2⟩
  | dK ks ds=>rw[Rep]at q3 ⊢;obtain⟨b,xs,e1,e0,e2,el,e3⟩:=q3;cases e1;exact⟨a,xs,rfl,np,e2,el,e3.imm q2⟩
  | dT ks ds=>rw[Rep]at q3 ⊢;obtain⟨b,xs,e1,e0,e2,el,e3⟩:=q3;cases e1;exact⟨a,xs,rfl,np,e2,el,e3.imm q2⟩
  | _=>cases q1
 ·cases e2
def slot_get{σD:RL.St}(h:(σD[i]?).bind id=some d):σD[i]?=some (some d):=by
 obtain⟨o,h1,h2⟩:=bind_some h
 cases o with
 | none=>cases h2
 | some z=>cases h2;exact h1
def BR(h:PS X st (lI (tBM X.K "list" oA (cA i) (tEs X.K cl (.cons e' .nil)))))(hi:M.contains i=true):SS X cl M st (.app i e'):=by
 refine PS.weak h fun D σ H h=>?_;obtain⟨σD,o,σD',rv,e,k⟩:=h;obtain⟨d,e1,e2⟩:=bind_some e;obtain⟨l,e3,e4⟩:=bind_some e2
 cases l with
 |lst ds=>
  dsimp only at e4;split at e4
  ·rename_i ok;cases e4;rw[Bool.and_eq_true,decide_eq_true_eq]at ok;obtain⟨v,h1,h2⟩:=rv.val i _ (slot_get e3);rw[if_pos hi]at h2;obtain⟨q1,q2,q3⟩:=h2;obtain⟨a,xs,rfl,_,f2,f3⟩:=aM q3;refine⟨.ref a,h1,.inl ⟨rfl,xs,SqL.of f2⟩,σD,[d],rv.rv0,by rw[RL.evs,e1];rfl,fun vs H1 s1 r1=>?_⟩;rw[ag]at r1;obtain⟨y,t,rfl,r2,r3⟩:=r1;rw[ag]at r3;subst r3
   have hl:xs.length<sizeLine:=by rw[<-f3.length];exact Nat.lt_of_lt_of_le ok.2 bK
   refine⟨a,xs,y,rfl,rfl,s1 _ _ f2,hl,?_⟩
   have im:RL.ar (ds++[d])=true:=by
    have:∀ l:List RL.D,RL.ar l=true->RL.ar (l++[d])=true:=fun l=>by
     induction l with
     | nil=>intro _;simp[RL.ar,ok.1]
     | cons z r ih=>intro h;rw[RL.ar,Bool.and_eq_true]at h;rw[List.cons_append,RL.ar,h.1,ih h.2];rfl
    exact this ds q2
   have rs:ag nP X.K (upd H1 a (.lst (xs++[y]))) (ds++[d]) (xs++[y]):=(ag.upd (P:=fun p=>p=a) (s1 _ _ f2) (.inl ⟨_,rfl⟩) rfl ((ag.append (f3.same s1) (ag.cons r2 ag.nil)).imm im)).imm im;obtain⟨g1,g2⟩:=(rv.same s1).gi (d':=.lst (ds++[d])) (o':=.lst (xs++[y])) hi h1 (s1 _ _ f2) (.inl ⟨_,rfl⟩) ⟨rfl,im,by rw[Rep];exact⟨a,_,rfl,fun z=>z,aC,rs⟩⟩;exact k _ _ g1 ((Fr'.same s1).trans g2)
  ·cases e4
 | _=>cases e4
end rules
def RVm.bR{K:PySem.W.Frag}{M:List Nat}{H:Hp}:∀ {tg:List Nat} {ds:List RL.D} {vs:List V} {σD:RL.St} {σ:L2.St},RVm K M σD σ H->(∀ i∈tg,M.contains i=false)->tg.length=ds.length->RL.ar ds=true->ag nP K H ds vs ->
  RVm K M (dk tg ds σD) (c7 tg vs σ) H/\aX M (c7 tg vs σ)=aX M σ
 | [],_,_,_,_,h,_,_,_,_=>⟨h,rfl⟩
 | i::is,[],_,_,_,_,_,hl,_,_=>by simp at hl
 | i::is,d::ds,vs,σD,σ,h,hM,hl,him,r=>by
  rw[ag]at r;obtain⟨v,t,rfl,r1,r2⟩:=r;rw[RL.ar,Bool.and_eq_true]at him;rw[dk,c7];have hi:=hM i List.mem_cons_self;obtain⟨g1,g2⟩:=RVm.bR (h.bind hi (r1.imm him.1)) (fun j hj=>hM j (List.mem_cons_of_mem _ hj)) (by simpa using hl) him.2 r2;exact⟨g1,g2.trans (aX.set hi)⟩
def iW{M tg:List Nat}{vs:List V}{σ:L2.St}{j:Nat}(hM:∀ i∈tg,M.contains i=false)(hj:2<=M.count j):(c7 tg vs σ)[j]?=σ[j]?:=by
 refine kf tg vs σ j ?_
 cases hc:tg.contains j with
 | false=>rfl
 |true=>
  have:=hM j (by simpa using hc);rw[gj hj]at this;cases this
section rules
variable{X:Cx}{cl:RL.Cl}{M:List Nat}{st:Stmt}{tgE iter:Expr}{body:List Stmt}{b:RL.Ss}{it:RL.It}{tg:List Nat}{e' k' a' b':RL.E}{i j:Nat}{pos:Pos}
def qJ{f:RL.St->Option (RL.Out × RL.St)}{d:RL.D}{ds:List RL.D}{σ:RL.St}{p:RL.Out × RL.St}(h:RL.bL f tg (d::ds) σ=some p):d.imm=true/\∃ σ1 o σ2,RL.bY tg d σ=some σ1/\f σ1=some (o,σ2) /\
  (match o with | .nx=>RL.bL f tg ds σ2=some p | .rt d=>p=(.rt d,σ2)):=by
 rw[RL.bL]at h;split at h
 ·rename_i him;obtain⟨σ1,h1,h⟩:=bind_some h;obtain⟨⟨o,σ2⟩,h2,h⟩:=bind_some h;refine⟨him,σ1,o,σ2,h1,h2,?_⟩
  cases o with
  | nx=>exact h
  | rt d=>exact(Option.some.inj h).symm
 ·cases h
def Bo(hx:X.xe=fun _ _=>False)(hc:X.calm=true)(hi:SI X cl tgE iter it)(hg:PG X tgE (gT X.K tg))(hb:SSs X cl M body b)(hs:∀ x,foldedSetIterable iter X.env x=pure x)(hav:RL.mw M it=true)(hM:∀ i∈tg,M.contains i=false) :
  SS X cl M (.For tgE iter body [] pos) (.forr tg it b):=by
 refine PS.weak (tX (by rw[hx];exact PassesOwn.never) hc hi hg hb hs) fun D σ H h=>?_;obtain⟨σD,r,σD',rv,e,k⟩:=h;obtain⟨ds,e1,e2⟩:=bind_some e;refine⟨σD,ds,rv.rv0,e1,fun J H1 s1 src=>?_⟩
 have ok:eJ X.K J ds (aX M σ) H1:=src.2 M (aX M σ) hav rv.qU fun j dj vj hj h1 h2=>by
  obtain⟨v',h3,h4⟩:=rv.val j dj h1;rw[h2]at h3;cases h3;rw[if_neg (by rw[hj];decide)]at h4;exact h4
 have k1:=k.from (Fr'.same (σ:=σ) s1);refine⟨fun i m σ2 H2=>∃ σD2,m=ds.length-i/\i<=ds.length/\RVm X.K M σD2 σ2 H2/\Fr' M σ H1 σ2 H2/\RL.bL (RL.aB cl M b) tg (ds.drop i) σD2=some (r,σD'),⟨_,σD,rfl,Nat.zero_le _,rv.same s1,Fr'.same (aA.refl _),e2⟩,?_⟩;rintro i m σ2 H2 ⟨σD2,rfl,hi2,rv2,fr2,hl⟩;have off:Off (aX M σ) H1 H2:=fun b o n e=>(fr2.1 b o e n).1;by_cases hlt:i<ds.length
 ·refine .inr ⟨ok.go H2 i off hlt,fun σ' H'=>∃ m',m'<ds.length-i/\∃ σD2,m'=ds.length-(i+1)/\i+1<=ds.length/\RVm X.K M σD2 σ' H'/\Fr' M σ H1 σ' H'/\RL.bL (RL.aB cl M b) tg (ds.drop (i+1)) σD2=some (r,σD'),fun σ' H' z=>z,fun x H3 y=>?_⟩;rw[List.drop_eq_getElem_cons hlt]at hl;obtain⟨him,σ3,o,σ4,h1,h2,h3⟩:=qJ hl;obtain⟨s3,rp⟩:=ok.yld H2 i ds[i] x H3 off (by simp[hlt]) y;obtain⟨dv,vs,q1,q2,q3,q4,q5⟩:=qT h1 (rp (.inl him));refine q5 _ _ ?_;obtain⟨rv3,as3⟩:=(rv2.same s3).bR hM q2 (q4 him) q3
  have fr3:Fr' M σ H1 (c7 tg vs σ2) H3:=⟨fun b o e n=>⟨s3 _ _ (fr2.1 b o e n).1,by rw[as3];exact(fr2.1 b o e n).2⟩,fun j hj=>(iW hM hj).trans (fr2.2 j hj)⟩
  refine⟨σ3,o,σ4,by rw[q1];exact rv3,h2,?_⟩
  cases o with
  | nx=>exact fun σ' H' rv' fr'=>⟨_,by lia,σ4,rfl,hlt,rv',fr3.trans fr',h3⟩
  |rt d=>
   cases h3;exact fun σ' H' v H4 rv' fr' sm rp=>k1 σ' H' v H4 rv' (fr3.trans fr') sm rp
 ·have e:i=ds.length:=by lia
  subst e;rw[List.drop_length,RL.bL]at hl;cases hl;exact .inl ⟨ok.stop H2 off,k1 σ2 H2 rv2 fr2⟩
def wa{n:Nat}{k:Int}{j:Nat}(h:RL.uJ n k=some j):ixN n k=some j:=h
def rV:∀ {ds:List RL.D} {d:RL.D} (j:Nat),RL.ar ds=true->d.imm=true->RL.ar (ds.set j d)=true
 | [],d,j,_,_=>by simp[RL.ar]
 | x::r,d,0,h,hd=>by rw[RL.ar,Bool.and_eq_true]at h;rw[List.set_cons_zero,RL.ar,hd,h.2];rfl
 | x::r,d,j+1,h,hd=>by rw[RL.ar,Bool.and_eq_true]at h;rw[List.set_cons_succ,RL.ar,h.1,rV j h.2 hd];rfl
def jP{H:Hp}{a:Addr}{ds:List RL.D}{xs ys:List V}{ds':List RL.D}(f2:H a=some (.lst xs))(im:RL.ar ds'=true)(rs:ag nP X.K H ds' ys):Own X.K (upd H a (.lst ys)) (.lst ds') (.ref a) :=
 ⟨rfl,im,by rw[Rep];exact⟨a,_,rfl,fun z=>z,aC,(ag.upd (P:=fun p=>p=a) f2 (.inl ⟨_,rfl⟩) rfl (rs.imm im)).imm im⟩⟩
def zg(h:PS X st (m8 (tE X.K cl e') (vQ (cA i) (tE X.K cl k') qj)))(hi:M.contains i=true)(hl:True):PS X st (tS X.K M fun σD=>(RL.ev cl σD e').bind fun d=>(RL.ev cl σD k').bind fun kk=>((σD[i]?).bind id).bind fun l=>match l with
  | .lst _=>if d.imm then(RL.ub l kk d).map fun l'=>(.nx,σD.set i (some l'))else none
  | _=>none):=by
 refine PS.weak h fun D σ H h=>?_;obtain⟨σD,o,σD',rv,e,k⟩:=h;obtain⟨d,e1,e⟩:=bind_some e;obtain⟨kk,e2,e⟩:=bind_some e;obtain⟨l,e3,e⟩:=bind_some e
 cases l with
 |lst ds=>
  dsimp only at e;split at e
  ·rename_i him;obtain⟨l',e4,e5⟩:=map_some e;cases e5;obtain⟨v,h1,h2⟩:=rv.val i _ (slot_get e3);rw[if_pos hi]at h2;obtain⟨q1,q2,q3⟩:=h2;obtain⟨a,xs,rfl,_,f2,f3⟩:=aM q3
   cases kk with
   |int kk=>
    obtain⟨jx,e6,e7⟩:=map_some (show(RL.uJ ds.length kk).map (fun j=>RL.D.lst (ds.set j d))=some l' from e4);subst e7;refine⟨σD,d,rv.rv0,e1,fun y H1 r1=>⟨.ref a,h1,σD,.int kk,rv.rv0.same r1.same,e2,fun z H2 r2=>?_⟩⟩;have sm:=r1.same.trans r2.same;refine⟨a,xs,kk,jx,rfl,ai r2.rep,sm _ _ f2,?_,?_⟩
    ·rw[<-f3.length];exact wa e6
    ·have im:=rV jx q2 him;obtain⟨g1,g2⟩:=(rv.same sm).gi (d':=.lst (ds.set jx d)) (o':=.lst (xs.set jx y)) hi h1 (sm _ _ f2) (.inl ⟨_,rfl⟩) (jP (ds:=ds) (sm _ _ f2) im (ag.set jx (f3.same sm) (r1.rep.same r2.same)));exact k _ _ g1 ((Fr'.same sm).trans g2)
   | _=>cases e4
  ·cases e
 | _=>cases e
def km:∀ {ds:List RL.D},RL.ar ds=true->RL.ar ds.dropLast=true
 | [],_=>rfl
 | [x],_=>rfl
 | x::y::r,h=>by rw[RL.ar,Bool.and_eq_true]at h;rw[List.dropLast_cons_cons,RL.ar,h.1,km h.2];rfl
def sW:∀ {ds:List RL.D} {i:Nat} {d:RL.D},RL.ar ds=true->ds[i]?=some d->d.imm=true
 | [],i,d,_,e=>by simp at e
 | x::r,0,d,h,e=>by rw[RL.ar,Bool.and_eq_true]at h;simp at e;subst e;exact h.1
 | x::r,i+1,d,h,e=>by rw[RL.ar,Bool.and_eq_true]at h;exact sW (i:=i) h.2 (by simpa using e)
def ag.dropLast{P:Addr->Prop}{K:PySem.W.Frag}{H:Hp}{ds:List RL.D}{xs:List V}(h:ag P K H ds xs):ag P K H ds.dropLast xs.dropLast:=by
 rw[List.dropLast_eq_take,List.dropLast_eq_take,<-h.length];exact h.take _
def AW(h:PS X st (lI (tE X.K cl e'))):SS X cl M st (.exc e'):=by
 refine PS.weak h fun D σ H h=>?_;obtain⟨σD,o,σD',rv,e,k⟩:=h;obtain⟨d,e1,e2⟩:=map_some e;cases e2;exact⟨σD,d,rv.rv0,e1,fun v H1 r1=>k _ _ (rv.same r1.same) (Fr'.same r1.same)⟩
end rules
section rules
variable{st:Stmt}
def xM(h:PS X st (m8 (tE X.K cl e') (fun v σ H Q=>jY X.K is.length (gs is) v σ H Q\/jV X.K is.length (gs is) v σ H Q)))(hM:∀ i∈is,M.contains i=false):SS X cl M st (.unp is e'):=by
 refine PS.weak h fun D σ H h=>?_;obtain⟨σD,o,σD',rv,e,k⟩:=h;obtain⟨d,e1,e⟩:=bind_some e;obtain⟨ds,e2,e⟩:=bind_some e;split at e
 ·rename_i him;obtain⟨σ1,e3,e4⟩:=map_some e;cases e4;obtain⟨q1,q2⟩:=fG e3;refine⟨σD,d,rv.rv0,e1,fun v H1 r1=>?_⟩;obtain⟨p,xs,rfl,hp,rs⟩:=dm e2 r1.rep;obtain⟨g1,g2⟩:=(rv.same r1.same).bR (vs:=xs) hM q1 him rs;have fin:D.nx (c7 is xs σ) H1:=k _ _ (by rw[q2];exact g1) ⟨fun b o e n=>⟨r1.same _ _ e,by rw[g2];exact n⟩,fun j hj=>iW hM hj⟩
  have hl:xs.length=is.length:=by rw[<-rs.length,q1]
  rcases hp with⟨hp,_⟩ | ⟨hp,_⟩ | ⟨⟨o,hp⟩,_⟩
  ·exact .inr ⟨p,xs,rfl,SqL.of hp,hl,fN hl.symm fin⟩
  ·exact .inl ⟨p,xs,rfl,SqT.of hp,hl,fN hl.symm fin⟩
  ·exact .inr ⟨p,xs,rfl,.inl (.inr ⟨o,hp⟩),hl,fN hl.symm fin⟩
 ·cases e
def gX(xs:List α)(k:Int):(xs.drop (HT.sIx xs.length 0 none)).take (HT.sIx xs.length xs.length (some k)-HT.sIx xs.length 0 none)=xs.take (RL.cutAt xs.length k):=by
 rw[HT.v5,List.drop_zero,Nat.sub_zero];congr 1;have h:=HT.i8 k xs.length xs.length;unfold RL.cutAt;split at h
 ·rename_i h0;rw[if_neg (by lia)];lia
 ·rename_i h0;rw[if_pos (by lia)];lia
end rules
section rules
variable{X:Cx}
def one(rv:RV0 X.K σD σ H)(ea:RL.ev cl σD a'=some d)(k:∀ v H1,aA H H1->Rep nP X.K H1 d v->R [v] H1):tEs X.K cl (.cons a' .nil) σ H R :=
 ⟨σD,[d],rv,by rw[RL.evs,ea];rfl,fun vs H1 s1 r1=>by
  rw[ag]at r1;obtain⟨v,t,rfl,r2,r3⟩:=r1;rw[ag]at r3;subst r3
  exact k v H1 s1 r2⟩
def pair(rv:RV0 X.K σD σ H)(ea:RL.ev cl σD a'=some d)(eb:RL.ev cl σD b'=some d')(k:∀ v u H1,aA H H1->Rep nP X.K H1 d v->Rep nP X.K H1 d' u->R [v,u] H1):tEs X.K cl (.cons a' (.cons b' .nil)) σ H R :=
 ⟨σD,[d,d'],rv,by rw[RL.evs,ea,RL.evs,eb];rfl,fun vs H1 s1 r1=>by
  rw[ag]at r1;obtain⟨v,t,rfl,r2,r3⟩:=r1;rw[ag]at r3;obtain⟨u,t,rfl,r4,r5⟩:=r3;rw[ag]at r5;subst r5
  exact k v u H1 s1 r2 r4⟩
def kY{id:String}{r:List V->Hp->VK->Prop}{b:RL.Bi}(hc:bx X (.builtin id) r)(hg:Gl X x)(hm:X.mg x=none)(hv:bootBuiltins x=some (.builtin id))(ha:SE X cl a a')(hn:noStar a=true)(h1:x ≠ "__name__")(h2:(x == ("__debug__" : Str))=false)
 (ok:∀ (σD:RL.St) (σ:L2.St) (H H1:Hp) (y d:RL.D) (v:V) (Q:VK),RL.biV b y=some d->aA H H1->Rep nP X.K H1 y v->(∀ w H',Res X.K σD σ H (.bi b a') d w H'->Q w H')->r [v] H1 Q):SE X cl (.Call (.Name x p) [a] [] pos) (.bi b a'):=by
 refine PE.weak (gA hc hg hm hv (cm (cl:=cl) ha dA hn) h1 h2 (az [] hn) rfl) fun σ H Q h=>?_;obtain⟨σD,d,rv,e,k⟩:=h;obtain⟨y,ea,e⟩:=bind_some e;exact one rv ea fun v H1 s1 r1=>ok σD σ H H1 y d v Q e s1 r1 k
def kR{T:String}{r:List V->Hp->VK->Prop}{b:RL.Bi}(hc:bx X (.type T) r)(hg:Gl X x)(hm:X.mg x=none)(hv:bootBuiltins x=some (.type T))(ha:SE X cl a a')(hn:noStar a=true)(h1:x ≠ "__name__")(h2:(x == ("__debug__" : Str))=false)
 (ok:∀ (σD:RL.St) (σ:L2.St) (H H1:Hp) (y d:RL.D) (v:V) (Q:VK),RL.biV b y=some d->aA H H1->Rep nP X.K H1 y v->(∀ w H',Res X.K σD σ H (.bi b a') d w H'->Q w H')->r [v] H1 Q):SE X cl (.Call (.Name x p) [a] [] pos) (.bi b a'):=by
 refine PE.weak (cB hc hg hm hv (cm (cl:=cl) ha dA hn) h1 h2 (az [] hn) rfl) fun σ H Q h=>?_;obtain⟨σD,d,rv,e,k⟩:=h;obtain⟨y,ea,e⟩:=bind_some e;exact one rv ea fun v H1 s1 r1=>ok σD σ H H1 y d v Q e s1 r1 k
def yK(hg:Gl X "list")(hm:X.mg "list" = none)(ha:SE X cl a a')(hn:noStar a=true):SE X cl (.Call (.Name "list" p) [a] [] pos) (.bi .list a'):=by
 refine kR nz hg hm (by decide +kernel) ha hn (by decide) (by decide) fun σD σ H H1 y d v Q e s1 r1 k=>?_;obtain⟨ds,e1,e2⟩:=map_some (show(RL.items y).map RL.D.lst=some d from e);subst e2;obtain⟨q,xs,rfl,hp,rs⟩:=dm e1 r1;refine⟨q,xs,rfl,?_,fun l hl=>k _ _ (dD s1 hl rs fun _=>rfl)⟩
 rcases hp with⟨z,_⟩ | ⟨z,_⟩ | ⟨⟨o,z⟩,_⟩
 ·exact .inl (SqL.of z)
 ·exact .inr (SqT.of z)
 ·exact .inl (.inl (.inr ⟨o,z⟩))
def vY(hg:Gl X "tuple")(hm:X.mg "tuple" = none)(ha:SE X cl a a')(hn:noStar a=true):SE X cl (.Call (.Name "tuple" p) [a] [] pos) (.bi .tuple a'):=by
 refine kR l7 hg hm (by decide +kernel) ha hn (by decide) (by decide) fun σD σ H H1 y d v Q e s1 r1 k=>?_;obtain⟨ds,e1,e2⟩:=map_some (show(RL.items y).map RL.D.tup=some d from e);subst e2;obtain⟨q,xs,rfl,hp,rs⟩:=dm e1 r1
 rcases hp with⟨z,_⟩ | ⟨z,_⟩ | ⟨⟨o,z⟩,_⟩
 ·exact⟨q,xs,rfl,.inl ⟨SqL.of z,fun l hl=>k _ _ (fu s1 hl rs fun _=>rfl)⟩⟩
 ·refine⟨q,xs,rfl,.inr ⟨SqT.of z,k _ _ ⟨s1,?_,fun _ m=>(by cases m),fun M z=>nomatch (show false=true from z)⟩⟩⟩;rw[Rep];exact⟨q,xs,rfl,z,rs⟩
 ·exact⟨q,xs,rfl,.inl ⟨.inl (.inr ⟨o,z⟩),fun l hl=>k _ _ (fu s1 hl rs fun _=>rfl)⟩⟩
def zP{prog:Program}{w:World}{d:Addr}(hd:(d == sysModules)=false) :
  MeetsIn prog w (Builtin.«dict.__len__» ⟨[.ref d],[]⟩) (fun _ R s=>∃ o es ep,s.heap.get? d=some o/\o.data=.dict es ep/\R (.ok (.ret (.int es.size s.toks))) { s with toks:=s.toks+1 }) :=
 .of_wp fun A R s ⟨o,es,ep,ho,hdat,h⟩=>by
  show wpAny _ _ (dictSize d >>= _) _ _ s;unfold dictSize;refine wpAny_bind (wpAny_bind (wpAny_dictEntries ho hdat (wpAny_pure ?_)));show wpAny _ _ (Builtin.Dict.pendingCount d >>= _) _ _ s;refine wpAny_bind (wpAny_pendingCount_other hd ?_);refine wpAny_ret_mkInt ?_;rw[Nat.add_zero];exact h
def qu{prog:Program}{w:World}{K:Type} [DecidableEq K]{knd:HeapKind prog w K}(hd:(d == sysModules)=false) :
  MeetsIn prog w (Builtin.«dict.__len__» ⟨[.ref d],[]⟩) (fun _ R s=>∃ xs,s.heap.DictOfH knd d xs/\R (.ok (.ret (.int xs.length s.toks))) { s with toks:=s.toks+1 }) :=
 .of_wp fun A R s ⟨xs,hm,h⟩=>by
  obtain⟨o,es,ep,ho,hc,hdat,hk,_,_⟩:=hm;show wpAny _ _ (dictSize d >>= _) _ _ s;unfold dictSize;refine wpAny_bind (wpAny_bind (wpAny_dictEntries ho hdat (wpAny_pure ?_)));show wpAny _ _ (Builtin.Dict.pendingCount d >>= _) _ _ s;refine wpAny_bind (wpAny_pendingCount_other hd ?_);refine wpAny_ret_mkInt ?_;rw[Nat.add_zero,size_of_entries hk];exact h
def k8{prog:Program}{w:World}{K:Type} [DecidableEq K]{knd:HeapKind prog w K}{A:Around}{E:Value->Shared->Prop}{s:Shared}{d:Addr}{xs:List (K × Addr × Value)}{Q:Value->Shared->Prop}(hd:(d == sysModules)=false)(hm:s.heap.DictOfH knd d xs)(hfit:(xs.length:Int)<2 ^ 63)
 (h:Q (.int xs.length (s.toks+1)) { s with toks:=s.toks+1+1 }):wpAny (model prog w) A (call (.builtin "len") [.ref d]) Q E s:=by
 refine Calls.call_function_entry kind_len plain_len entry_len (args_len1 _) ?_;unfold Builtin.«len»;refine wpAny_bind (m:=oneArg "len" _) (wpAny_pure ?_)
 refine wpAny_bind (m:=callSpecial? (.ref d) (Str.ofString "__len__")) (wpAny_callSpecial?_slot (name:=Str.ofString "__len__") hm.typeIs F.slot_dict_len
  (call_meetsIn F.slot_dict_len hm.typeIs F.entry_dict_len (F.args_dict_len_1 _) (qu hd) ⟨xs,hm,?_⟩))
 show wpAny _ _ _ _ _ { s with toks:=s.toks+1 };refine wpAny_bind (wpAny_holding (wpAny_pure ?_));refine wpAny_bind (wpAny_letGo ?_);show wpAny _ _ (if((xs.length:Nat):Int)<0 then _ else _) _ _ _;rw[if_neg (by omega)];show wpAny _ _ (if((xs.length:Nat):Int)≥2 ^ 63 then _ else _) _ _ _;rw[if_neg (by omega)];exact wpAny_bind (wpAny_mkInt (wpAny_pure ⟨_,rfl,h⟩))
def rT:bx X (.builtin "len") (fun xs H Q=>∃ a kvs,xs=[V.ref a]/\H a=some (.dT kvs)/\Q (.int kvs.length) H):=by
 intro pins s σ H xs us Q I r h;obtain⟨a,kvs,rfl,ha,q⟩:=h;obtain⟨u,rfl,ru⟩:=vals1 r;cases ru;obtain⟨z,hd,xs,rel,dd⟩:=wd I.hok ha;have hl:kvs.length=xs.length:=Paired.length rel;refine k8 hd dd (by rw[<-hl];rw[sizeLine_eq]at z;omega) ?_;rw[<-hl];exact⟨.int kvs.length,H,I.tok _,⟨_,rfl⟩,q⟩
def sT:bx X (.builtin "len") (fun xs H Q=>∃ a o kvs,xs=[V.ref a]/\H a=some (.frz o (.dT kvs))/\Q (.int kvs.length) H):=by
 intro pins s σ H xs us Q I r h;obtain⟨a,o,kvs,rfl,ha,q⟩:=h;obtain⟨u,rfl,ru⟩:=vals1 r;cases ru;obtain⟨_,z,hd,xs,rel,ob,es,ep,g,ex,hdat,he,nd⟩:=I.hok a _ ha;have hl:kvs.length=xs.length:=Paired.length rel;refine Calls.call_function_entry kind_len plain_len entry_len (args_len1 _) ?_;unfold Builtin.«len»;refine wpAny_bind (m:=oneArg "len" _) (wpAny_pure ?_)
 refine wpAny_bind (m:=callSpecial? (.ref a) (Str.ofString "__len__")) (wpAny_callSpecial?_slot (name:=Str.ofString "__len__") ⟨ob,g,ex.1⟩ F.slot_dict_len
  (call_meetsIn F.slot_dict_len ⟨ob,g,ex.1⟩ F.entry_dict_len (F.args_dict_len_1 _) (zP hd) ⟨ob,es,ep,g,hdat,?_⟩))
 show wpAny _ _ _ _ _ { s with toks:=s.toks+1 }
 have hs:es.size=kvs.length:=by rw[<-Array.length_toList,he,List.length_map,hl]
 rw[sizeLine_eq]at z;refine wpAny_bind (wpAny_holding (wpAny_pure ?_));refine wpAny_bind (wpAny_letGo ?_);show wpAny _ _ (if((es.size:Nat):Int)<0 then _ else _) _ _ _;rw[if_neg (by omega)];show wpAny _ _ (if((es.size:Nat):Int)≥2 ^ 63 then _ else _) _ _ _;rw[if_neg (by omega)];exact wpAny_bind (wpAny_mkInt (wpAny_pure ⟨_,rfl,⟨.int kvs.length,H,I.tok _,⟨_,by rw[hs]⟩,q⟩⟩))
def rM:bx X (.builtin "len") (fun xs H Q=>(∃ y n,xs=[y]/\BP X.K y H n/\Q (.int n) H)\/(∃ q kvs,xs=[V.ref q]/\H q=some (.dK kvs)/\Q (.int kvs.length) H)\/(∃ q kvs,xs=[V.ref q]/\H q=some (.dT kvs)/\Q (.int kvs.length) H)\/∃ q o kvs,xs=[V.ref q]/\H q=some (.frz o (.dT kvs))/\Q (.int kvs.length) H):=bx.or vN (bx.or sD (bx.or rT sT))
def Ac(hg:Gl X "len")(hm:X.mg "len" = none)(ha:SE X cl a a')(hn:noStar a=true):SE X cl (.Call (.Name "len" p) [a] [] pos) (.bi .len a'):=by
 refine kY rM hg hm PySem.boot_len ha hn (by decide) (by decide) fun σD σ H H1 y d v Q e s1 r1 k=>?_
 cases y<;>first | (cases e;done) | skip
 case str t =>
  rw[RL.CB]at e;split at e
  ·rename_i hz;cases e;rw[aE r1];exact .inl ⟨_,_,rfl,⟨Nat.le_trans hz bK,rfl⟩,k _ _ (cu s1 aV rfl)⟩
  ·cases e
 case tup t =>
  cases e;obtain⟨q,xs,rfl,f2,f3⟩:=bh r1;dsimp only at k;rw[f3.length]at k;exact .inl ⟨_,_,rfl,.inr ⟨xs,SqT.of f2,rfl⟩,k _ _ (cu s1 aV rfl)⟩
 case lst t =>
  cases e;obtain⟨q,xs,rfl,_,f2,f3⟩:=aM r1;dsimp only at k;rw[f3.length]at k;exact .inl ⟨_,_,rfl,.inl ⟨xs,SqL.of f2,rfl⟩,k _ _ (cu s1 aV rfl)⟩
 case fL t =>
  cases e;rw[Rep]at r1;obtain⟨q,o,xs,rfl,f2,f3⟩:=r1;dsimp only at k;rw[f3.length]at k;exact .inl ⟨_,_,rfl,.inl ⟨xs,.inl (.inr ⟨o,f2⟩),rfl⟩,k _ _ (cu s1 aV rfl)⟩
 case dK ks t =>
  cases e;rw[Rep]at r1;obtain⟨q,xs,rfl,_,f2,fl,f3⟩:=r1;refine .inr (.inl ⟨q,_,rfl,f2,?_⟩)
  have:(ks.zip xs).length=ks.length:=by rw[List.length_zip,<-f3.length,fl,Nat.min_self]
  rw[this];exact k _ _ (cu s1 aV rfl)
 case dT ks t =>
  cases e;rw[Rep]at r1;obtain⟨q,xs,rfl,_,f2,fl,f3⟩:=r1;refine .inr (.inr (.inl ⟨q,_,rfl,f2,?_⟩))
  have:(ks.zip xs).length=ks.length:=by rw[List.length_zip,<-f3.length,fl,Nat.min_self]
  rw[this];exact k _ _ (cu s1 aV rfl)
 case fT ks t =>
  cases e;rw[Rep]at r1;obtain⟨q,o,xs,rfl,f2,fl,f3⟩:=r1;refine .inr (.inr (.inr ⟨q,o,_,rfl,f2,?_⟩))
  have:(ks.zip xs).length=ks.length:=by rw[List.length_zip,<-f3.length,fl,Nat.min_self]
  rw[this];exact k _ _ (cu s1 aV rfl)
abbrev tyN:RL.Ty->String
 | .int => "int"
 | .bool => "bool"
 | .list => "list"
 | .tuple => "tuple"
 | .str => "str"
def uw:bx X (.builtin "isinstance") (fun xs H Q=>∃ y t T k,xs=[y,.ty T]/\dI X.K H y t/\PySem.W.kitOne X.K t (.type T)=some k/\Q (.bl k) H):=by
 intro pins s σ H xs us Q I r h;obtain⟨y,t,T,k,rfl,ty,e,q⟩:=h;obtain⟨u,w,rfl,r1,r2⟩:=vals2 r;cases r2
 exact rE I r1 ty e fun tk=>⟨.bl k,H,I.tok tk,rfl,q⟩
def zV(h:RL.zo t d=some k)(r:Rep nP X.K H d v):∃ ty,dI X.K H v ty/\PySem.W.kitOne X.K ty (.type (tyN t))=some k:=by
 cases d with
 | non=>rw[Rep]at r;subst r;refine⟨_,.non,?_⟩;cases t<;>(cases h;rfl)
 | bl i=>rw[aW r];refine⟨_,.bl i,?_⟩;cases t<;>(cases h;rfl)
 | int i=>rw[ai r];refine⟨_,.int i,?_⟩;cases t<;>(cases h;rfl)
 | str i=>rw[aE r];refine⟨_,.str i,?_⟩;cases t<;>(cases h;rfl)
 | tup i=>obtain⟨q,xs,rfl,f2,f3⟩:=bh r;refine⟨_,.tup f2,?_⟩;cases t<;>(cases h;rfl)
 | lst i=>obtain⟨q,xs,rfl,_,f2,f3⟩:=aM r;refine⟨_,.lst f2,?_⟩;cases t<;>(cases h;rfl)
 | fL i=>rw[Rep]at r;obtain⟨q,o,xs,rfl,f2,f3⟩:=r;refine⟨_,.frz f2,?_⟩;cases t<;>(cases h;rfl)
 | _=>cases t<;>cases h
def Ba(hg:Gl X "isinstance")(hm:X.mg "isinstance" = none)(hgy:Gl X y)(hmy:X.mg y=none)(hy:bootBuiltins y=some (.type (tyN t)))(hy1:y ≠ "__name__")(hy2:(y == ("__debug__" : Str))=false)(ha:SE X cl a a')(hn:noStar a=true) :
  SE X cl (.Call (.Name "isinstance" p) [a,.Name y p2] [] pos) (.isi a' t):=by
 have hty:PE X (.Name y p2) (tC (.ty (tyN t))):=oY hgy hmy hy rfl hy1 hy2;refine PE.weak (gA uw hg hm (by decide +kernel) (aG ha (aG hty bf rfl) (az _ hn)) (by decide) (by decide) (az _ hn) rfl) fun σ H Q h=>?_;obtain⟨σD,d,rv,e,k⟩:=h;obtain⟨u,ea,e⟩:=bind_some e;obtain⟨t',e1,e2⟩:=map_some e;subst e2;refine⟨σD,u,rv,ea,fun v H1 r1=>?_⟩;obtain⟨ty,h1,h2⟩:=zV e1 r1.rep;exact⟨v,ty,_,t',rfl,h1,h2,k _ _ (dE r1.same)⟩
end rules
end RS
namespace L2
open PySem PySem.Spec PyProof.Rows
structure iC(prog:Program)(w:World):Prop where
 draws:∀ {A:Around},A.handled=none->∀ (ti tp:Addr),tp≠ti->∀ its:Array Value,Draws prog w A ti [ti,tp] its.size (fun i v=>its[i]?=some v) (fun i h=>h.IsTupleIter ti tp i/\h.IsTuple tp its)
 call:∀ {A:Around} {E:Value->Shared->Prop} {z:Shared} {tp:Addr} {its:Array Value} {Q:Value->Shared->Prop},z.heap.IsTuple tp its ->
  (∀ g,IsEnum g (z.heap.objs.size+1) z.heap.objs.size 0 .none->g.IsTupleIter z.heap.objs.size tp 0->(∀ b o,z.heap.get? b=some o->g.get? b=some o)->Q (.ref (z.heap.objs.size+1)) { z with heap:=g })->wpAny (model prog w) A (call (.type "enumerate") [.ref tp]) Q E z
section
def Inv.jZ{h':Heap}{t':Nat}{fp:List Addr}(I:Inv X pins σ H s)(k:∀ b o,b∉fp->s.heap.get? b=some o->h'.get? b=some o)(hf:∀ b∈fp,H b=none/\(b∈X.ex\/X.s₀.heap.objs.size<=b)/\b≠X.env.locals/\(∀ x c,X.env.cells.lookup x=some c->c≠b)/\∀ p∈X.pn++pins,p.1≠b) :
  Inv X pins σ H { s with heap:=h',toks:=t' }:=by
 have nf:∀ b u,H b=some u->b∉fp:=fun b u e z=>by rw[(hf b z).1]at e;cases e
 refine I.lL (s':={ s with heap:=h',toks:=t' }) (ch:=fp) rfl ⟨fun b o e _ _ hx=>k b o hx e,fun b o e _ _ hx=>⟨o.slots,k b o hx e⟩,fun _ _ _ n _=>n,fun b o e hx=>⟨o,k b o hx e⟩,fun _ _ e=>e,fun _ _ _ e=>e,fun b ps e=>⟨#[],by rw[e];simp⟩⟩ (fun b u e=>?_) I.bare fun b hb=>(hf b hb).2;refine(I.hok b u e).gG (fun c v hc q=>k c v ?_ q) (fun _ q=>q) fun _ _ q=>q;rcases hc with z | z
 ·rw[z];exact nf b u e
 ·exact nf c _ z
end
abbrev Ite(cont:Hp->List V->Prop):It :=
 ⟨fun i H=>∃ xs x,cont H xs/\xs[i]?=some x,fun i H v H'=>∃ p x,H p=none/\v=.ref p/\H'=upd H p (.tup [.int i,x])/\∀ xs,cont H xs->xs[i]?=some x,fun i H=>∃ xs,cont H xs/\xs.length=i⟩
structure Src(P:Program)(w:World)(K:PySem.W.Frag)(e it:Addr)(cont:Hp->List V->Prop)(ia:Nat->Heap->Prop):Prop where
 obj:∀ i h,ia i h->∃ o,h.get? it=some o/\∀ v,o.data≠.cell v
 keep:∀ i h h',ia i h->(∀ o,h.get? it=some o->h'.get? it=some o)->ia i h'
 inj:∀ (H:Hp) xs ys,cont H xs->cont H ys->xs=ys
 dr:∀ (X:Cx),X.prog=P->X.w=w->X.K=K->X.calm=true->∀ (pins:List (Addr × Obj)) (s:Shared) (σ:St) (H:Hp) (xs:List V),Inv X pins σ H s->H e=none->H it=none->cont H xs ->
  ∃ (fp:List Addr) (Pv:Nat->Value->Prop) (St:Nat->Heap->Prop),Draws P w X.A.in1 it fp xs.length Pv St/\e∉fp/\(∀ i,ia i s.heap->St i s.heap)/\(∀ i h,St i h->ia i h)/\∀ i v,Pv i v->∃ x,xs[i]?=some x/\RelV x v
def rQ{P:Program}{w:World}{K:PySem.W.Frag}(hei:e≠it)(S:Src P w K e it cont ia) :
  Turn P w K (.Tuple elts kx tp) (Ite cont) [e,it] e (fun i h=>(∃ old,IsEnum h e it i old)/\ia i h) where
 mem:=by simp
 obj:=fun i h st b hb=>by
  rcases List.mem_cons.mp hb with rfl | hb
  ·obtain⟨⟨old,he⟩,_⟩:=st;exact⟨_,he,fun v z=>by cases z⟩
  ·rw[List.mem_singleton.mp hb];exact S.obj i h st.2
 keep:=fun i h h' st k=>by
  obtain⟨⟨old,he⟩,hi⟩:=st;exact⟨⟨old,k e (by simp) _ he⟩,S.keep i h h' hi fun o q=>k it (by simp) o q⟩
 item:=by
  intro X hP hw hK hc i pins s σ H E I hf st hg;subst hP hw hK;obtain⟨⟨old,he⟩,hi⟩:=st;obtain⟨xs,x,hq,hx⟩:=hg;have fe:=hf e (by simp);have fi:=hf it (by simp);obtain⟨fp,Pv,St,D,hef,h1,h2,h3⟩:=S.dr X rfl rfl rfl hc pins s σ H xs I fe.1 fi.1 hq;have hlt:i<xs.length:=(List.getElem?_eq_some_iff.mp hx).1;refine wpAny_pyNext_enum_itemD D he (h1 i hi) hlt hei hef fun v h' tk hP ho hs' hT hsz hk=>?_;obtain⟨x',hx',rx⟩:=h3 i v hP;rw[hx]at hx';cases hx';refine⟨.ref s.heap.objs.size,rfl,wpAny_letOwnedTupleGo_enum ho fun h'' he' hs''=>?_⟩;have hn:H s.heap.objs.size=none:=I.hok.fresh (Nat.le_refl _)
  have I1:Inv X pins σ (upd H s.heap.objs.size (.tup [.int i,x])) { s with heap:=s.heap.push { cls:=.type "tuple",data:=.seq #[.int i tk,v] },toks:=tk+1 } :=
   I.laid (t':=tk+1) (fun b u q=>Heap.get?_push_of_some _ q) (Nat.le_refl _) ⟨by show 2<=sizeLine;decide,[.int i tk,v],.cons ⟨tk,rfl⟩ (.cons rx .nil),⟨_,Heap.get?_push_size _ rfl,rfl,_,rfl⟩⟩
  have hes:e<s.heap.objs.size:=Heap.lt_size he
  have hit:it<s.heap.objs.size:=by obtain⟨o,q,_⟩:=S.obj i _ hi;exact Heap.lt_size q
  have stat:∀ b∈[e,it],upd H s.heap.objs.size (.tup [.int i,x]) b=none/\(b∈X.ex\/X.s₀.heap.objs.size<=b)/\b≠X.env.locals/\(∀ x c,X.env.cells.lookup x=some c->c≠b)/\∀ p∈X.pn++pins,p.1≠b:=fun b hb=>by
   obtain⟨f0,f1,f2,f3,f4,f5⟩:=hf b hb
   have hb':b≠s.heap.objs.size:=by
    rcases List.mem_cons.mp hb with rfl | hb
    ·exact Nat.ne_of_lt hes
    ·rw[List.mem_singleton.mp hb];exact Nat.ne_of_lt hit
   exact⟨by rw[aw hb'];exact f0,f3,f1,f4,f5⟩
  have I2:Inv X pins σ (upd H s.heap.objs.size (.tup [.int i,x])) { s with heap:=h'',toks:=tk+1 }:=by
   refine Inv.jZ (s:={ s with heap:=s.heap.push { cls:=.type "tuple",data:=.seq #[.int i tk,v] },toks:=tk+1 }) (h':=h'') (t':=tk+1) (fp:=[e,it]) I1 (fun b o hb q=>?_) stat;have b1:b≠e:=fun z=>hb (by simp[z]);have b2:b≠it:=fun z=>hb (by simp[z]);refine hs''.extBut b o b1 ?_;by_cases hbT:b=s.heap.objs.size
   ·subst hbT;have q':(s.heap.push { cls:=.type "tuple",data:=.seq #[.int i tk,v] }).get? s.heap.objs.size=some o:=q;rw[Heap.get?_push_size _ rfl]at q';cases q';exact hT
   ·have q':s.heap.get? b=some o:=(Heap.get?_push_ne _ _ _ hbT).symm.trans q;exact hk b o b1 b2 q'
  refine⟨.ref s.heap.objs.size,_,I2,rfl,⟨s.heap.objs.size,x,hn,rfl,rfl,fun ys hy=>by rw[S.inj H ys xs hy hq];exact hx⟩,⟨⟨v,by simpa using he'⟩,S.keep _ h' h'' (h2 _ _ hs') fun o q=>hs''.extBut _ _ (Ne.symm hei) q⟩,fun b hb=>(stat b hb).1⟩
 done:=by
  intro X hP hw hK hc i pins s σ H E I hf st hg;subst hP hw hK;obtain⟨⟨old,he⟩,hi⟩:=st;obtain⟨xs,hq,hx⟩:=hg;have fe:=hf e (by simp);have fi:=hf it (by simp);obtain⟨fp,Pv,St,D,hef,h1,h2,h3⟩:=S.dr X rfl rfl rfl hc pins s σ H xs I fe.1 fi.1 hq;subst hx
  refine wpAny_pyNext_enum_endD D he (h1 _ hi) fun h' eb=>⟨rfl,?_⟩
  obtain⟨f0,f1,f2,f3,f4,f5⟩:=fi;exact I.turned (it:=it) (h':=h') (t':=s.toks) (fun b o hb q=>eb b o hb q) f0 f1 f3 f4 f5
 self:=fun A i s Q E st h=>by
  obtain⟨⟨old,he⟩,hi⟩:=st;exact wpAny_pyIter_enum he h
def src_list{P:Program}{w:World}{K:PySem.W.Frag}(hei:e≠it):Src P w K e it (fun H xs=>H l=some (.lst xs)) (fun i h=>h.IsListIter it l i) where
 obj:=fun i h st=>let ⟨o,ho,_,hd⟩:=st;⟨o,ho,fun v q=>by rw[hd]at q;cases q⟩
 keep:=fun i h h' st k=>st.at fun o q=>k o q
 inj:=fun H xs ys h1 h2=>by rw[h1]at h2;cases h2;rfl
 dr:=by
  intro X hP hw hK hc pins s σ H xs I he hi hx;subst hP hw hK;obtain⟨its,rv,p,hz⟩:=I.list (SqL.of hx)
  have hl:its.toArray.size=xs.length:=by rw[List.size_toArray,rv.length]
  have hh:X.A.in1.handled=none:=I.ok.hd.1 hc;have D:=Draws.list (prog:=X.prog) (w:=X.w) (A:=X.A.in1) hh it l (aF hx hi) its.toArray;rw[hl]at D;refine⟨_,_,_,D,?_,fun i st=>⟨st,p.isList⟩,fun i h st=>st.1,fun i v hv=>?_⟩
  ·intro m;rcases List.mem_cons.mp m with q | m
   ·exact hei q
   ·exact(aF hx he).symm (List.mem_singleton.mp m)
  ·have hv:its[i]?=some v:=by simpa using hv
   have hlt:i<xs.length:=by rw[rv.length];exact(List.getElem?_eq_some_iff.mp hv).1
   obtain⟨u,h1,h2⟩:=rv.get (i:=i) (x:=xs[i]) (by simp[hlt]);rw[hv]at h1;cases h1;exact⟨xs[i],by simp[hlt],h2⟩
def yN{P:Program}{w:World}{K:PySem.W.Frag}(TE:iC P w)(hei:e≠it):Src P w K e it (fun H xs=>H l=some (.tup xs)) (fun i h=>h.IsTupleIter it l i) where
 obj:=fun i h st=>let ⟨o,ho,_,hd⟩:=st;⟨o,ho,fun v q=>by rw[hd]at q;cases q⟩
 keep:=fun i h h' st k=>let ⟨o,ho,r⟩:=st;⟨o,k o ho,r⟩
 inj:=fun H xs ys h1 h2=>by rw[h1]at h2;cases h2;rfl
 dr:=by
  intro X hP hw hK hc pins s σ H xs I he hi hx;subst hP hw hK;obtain⟨its,rv,p,hz⟩:=I.tuple (SqT.of hx)
  have hl:its.toArray.size=xs.length:=by rw[List.size_toArray,rv.length]
  have hh:X.A.in1.handled=none:=I.ok.hd.1 hc;have D:=TE.draws (A:=X.A.in1) hh it l (aF hx hi) its.toArray;rw[hl]at D;refine⟨_,_,_,D,?_,fun i st=>⟨st,p⟩,fun i h st=>st.1,fun i v hv=>?_⟩
  ·intro m;rcases List.mem_cons.mp m with q | m
   ·exact hei q
   ·exact(aF hx he).symm (List.mem_singleton.mp m)
  ·have hv:its[i]?=some v:=by simpa using hv
   have hlt:i<xs.length:=by rw[rv.length];exact(List.getElem?_eq_some_iff.mp hv).1
   obtain⟨u,h1,h2⟩:=rv.get (i:=i) (x:=xs[i]) (by simp[hlt]);rw[hv]at h1;cases h1;exact⟨xs[i],by simp[hlt],h2⟩
abbrev gk(x:Str):List V:=x.cps.toList.map fun c=>.str ⟨#[c]⟩
def yH{P:Program}{w:World}{K:PySem.W.Frag}(hei:e≠it):Src P w K e it (fun _ xs=>xs=gk x) (fun i h=>h.IsStrIter it (strIterType x) x t i) where
 obj:=fun i h st=>let ⟨o,ho,_,hd⟩:=st;⟨o,ho,fun v q=>by rw[hd]at q;cases q⟩
 keep:=fun i h h' st k=>let ⟨o,ho,r⟩:=st;⟨o,k o ho,r⟩
 inj:=fun H xs ys h1 h2=>by rw[h1,h2]
 dr:=by
  intro X hP hw hK hc pins s σ H xs I he hi hx;subst hP hw hK hx;have hh:X.A.in1.handled=none:=I.ok.hd.1 hc
  have hl:x.cps.size=(gk x).length:=by simp[gk]
  have pv:∀ (i:Nat) (v:Value),(∃ c u,x.cps[i]?=some c/\v=Value.str ⟨#[c]⟩ u)->∃ y,(gk x)[i]?=some y/\RelV y v:=fun i v hv=>by
   obtain⟨c,u,h1,h2⟩:=hv;exact⟨.str ⟨#[c]⟩,by simp[gk,h1],u,h2⟩
  have ni:e∉[it]:=fun m=>hei (List.mem_singleton.mp m)
  cases ha:x.cps.all (·<128)with
  |true=>
   have ht:strIterType x = "str_ascii_iterator" := by simp[strIterType,ha]
   have D:=Draws.strAscii (prog:=X.prog) (w:=X.w) (A:=X.A.in1) hh it x t;rw[hl]at D;exact⟨_,_,_,D,ni,fun i st=>by rw[ht]at st;exact st,fun i h st=>by rw[ht];exact st,pv⟩
  |false=>
   have ht:strIterType x = "str_iterator" := by simp[strIterType,ha]
   have D:=Draws.strWide (prog:=X.prog) (w:=X.w) (A:=X.A.in1) hh it x t;rw[hl]at D;exact⟨_,_,_,D,ni,fun i st=>by rw[ht]at st;exact st,fun i h st=>by rw[ht];exact st,pv⟩
section
abbrev Cq(ta:TA):TI:=fun σ H R=>ta σ H fun vs H1=>(∃ l xs,vs=[.ref l]/\H1 l=some (.lst xs)/\R (Ite fun H xs=>H l=some (.lst xs)) H1)\/(∃ l xs,vs=[.ref l]/\H1 l=some (.tup xs)/\R (Ite fun H xs=>H l=some (.tup xs)) H1) \/
 (∃ x,vs=[.str x]/\R (Ite fun _ xs=>xs=gk x) H1)
def iR(I:Inv X pins σ H s)(S:Src X.prog X.w X.K (s.heap.objs.size+1) s.heap.objs.size cont ia)
 (he:IsEnum g (s.heap.objs.size+1) s.heap.objs.size 0 .none)(hi:ia 0 g)(hk:∀ b o,s.heap.get? b=some o->g.get? b=some o)(q:R (Ite cont) H) :
  wpAny (model X.prog X.w) X.A (pyIter (.ref (s.heap.objs.size+1))) (PIE X pins σ (.Tuple elts kx tp) R) E { s with heap:=g }:=by
 refine wpAny_pyIter_enum he ⟨s.heap.objs.size+1,[s.heap.objs.size+1,s.heap.objs.size],_,_,H,rfl,I.kept (t':=s.toks) hk,rQ (Nat.succ_ne_self _) S,⟨⟨.none,he⟩,hi⟩,fun b hb=>?_,q⟩
 have hb':s.heap.objs.size<=b:=by
  rcases List.mem_cons.mp hb with z | z
  ·rw[z];exact Nat.le_succ _
  ·rw[List.mem_singleton.mp z];exact Nat.le_refl _
 exact I.ja hb' (I.hok.fresh hb')
def yV(TE:iC X.prog X.w)(hg:Gl X "enumerate")(hm:X.mg "enumerate" = none)(ha:PA X [a] ta)(hs:starEach [a] X.env=[(false,eval a X.env)]):PI X (.Tuple elts kx tp) (.Call (.Name "enumerate" p) [a] [] pos) (Cq ta):=by
 intro pins s σ H R I h;refine Call_ (fq I hg hm boot_enumerate (PyProof.Rows.callWith_type1 (thn (ha pos pins s σ H _ I h) fun us s1 ⟨vs,H1,I1,r1,q1⟩=>?_) hs rfl) (by decide) (by decide))
 rcases q1 with⟨l,xs,rfl,hx,q⟩ | ⟨l,xs,rfl,hx,q⟩ | ⟨x,rfl,q⟩
 ·obtain⟨u,rfl,ru⟩:=vals1 r1;cases ru;obtain⟨its,rv,pl,hz⟩:=I1.list (SqL.of hx);exact call_enumerate_list pl.isList fun g he hi hsz hk=>iR I1 (src_list (Nat.succ_ne_self _)) he hi hk q
 ·obtain⟨u,rfl,ru⟩:=vals1 r1;cases ru;obtain⟨its,rv,pl,hz⟩:=I1.tuple (SqT.of hx);exact TE.call pl fun g he hi hk=>iR I1 (yN TE (Nat.succ_ne_self _)) he hi hk q
 ·obtain⟨u,rfl,ru⟩:=vals1 r1;obtain⟨t,rfl⟩:=ru;exact call_enumerate_str fun g he hi hsz hk=>iR I1 (yH (Nat.succ_ne_self _)) he hi hk q
end
end L2
namespace RS
open PySem PySem.Spec PyProof.Rows L2
def h9:∀ (ds:List RL.D) (k:Int),(RL.eV k ds).length=ds.length
 | [],_=>rfl
 | d::r,k=>by rw[RL.eV,List.length_cons,List.length_cons,h9 r]
def lu:∀ (ds:List RL.D) (k:Int) (i:Nat) (d:RL.D),(RL.eV k ds)[i]?=some d->∃ e,ds[i]?=some e/\d=.tup [.int (k+i),e]
 | [],k,i,d,h=>by simp[RL.eV]at h
 | e::r,k,0,d,h=>by simp[RL.eV]at h;exact⟨e,rfl,by simp[h]⟩
 | e::r,k,i+1,d,h=>by
  rw[RL.eV,List.getElem?_cons_succ]at h;obtain⟨e',h1,h2⟩:=lu r (k+1) i d h;refine⟨e',by simpa using h1,?_⟩;rw[h2];congr 3;lia
def fb{K:PySem.W.Frag}(hc:∀ H',Off P H H'->cont H' xs)(hj:∀ H' ys,cont H' xs->cont H' ys->ys=xs)(r:ag nP K H ds xs)(hm:∀ b o,P b->H b=some o->cw o):eJ K (Ite cont) (RL.eV 0 ds) P H where
 go:=fun H' i k hi=>by
  rw[h9]at hi;obtain⟨x,e,_⟩:=r.get (i:=i) (d:=ds[i]) (by simp[hi]);exact⟨xs,x,hc H' k,e⟩
 stop:=fun H' k=>⟨xs,hc H' k,by rw[h9,r.length]⟩
 yld:=fun H' i d v H2 k e y=>by
  obtain⟨p,x,hp,rfl,rfl,hx⟩:=y;obtain⟨e',h1,rfl⟩:=lu ds 0 i d e;obtain⟨x',h2,h3⟩:=r.get h1;rw[hx xs (hc H' k)]at h2;cases h2;refine⟨aA.bW hp,fun q=>?_⟩
  have re:Rep nP K H' e' x:=by
   rcases q with q | q
   ·have q:(true&&(e'.imm&&true))=true:=q;simp only[Bool.true_and,Bool.and_true]at q;exact dW hm k h3 q
   ·exact h3.same q
  rw[Rep];refine⟨p,[.int i,x],rfl,aC,ag.cons ?_ (ag.cons (re.same (aA.bW hp)) ag.nil)⟩;simpa using(aV (P:=nP) (K:=K) (H:=upd H' p (.tup [.int i,x])) (i:=(i:Int)))
def sE{P:Addr->Prop}{K:PySem.W.Frag}(h:RL.j4 d=some ds)(r:Rep P K H d v):(∃ p xs,v=.ref p/\H p=some (.lst xs)/\d=.lst ds/\ag P K H ds xs)\/(∃ p xs,v=.ref p/\H p=some (.tup xs)/\d=.tup ds/\ag P K H ds xs) \/
  (∃ x,v=.str x/\d=.str x/\ds=x.cps.toList.map fun c=>.str ⟨#[c]⟩):=by
 cases d<;>simp only[RL.j4]at h<;>first | (cases h;done) | skip
 case lst ys=>cases h;obtain⟨p,xs,e1,_,e2,e3⟩:=aM r;exact .inl ⟨p,xs,e1,e2,rfl,e3⟩
 case tup ys=>cases h;obtain⟨p,xs,e1,e2,e3⟩:=bh r;exact .inr (.inl ⟨p,xs,e1,e2,rfl,e3⟩)
 case str x=>cases h;exact .inr (.inr ⟨x,aE r,rfl,rfl⟩)
def gP{P:Addr->Prop}{K:PySem.W.Frag}:∀ (cs:List Nat),ag P K H (cs.map fun c=>RL.D.str ⟨#[c]⟩) (cs.map fun c=>V.str ⟨#[c]⟩)
 | []=>ag.nil
 | c::r=>ag.cons d9 (gP r)
section rules
def A3(TE:iC X.prog X.w)(hg:Gl X "enumerate")(hm:X.mg "enumerate" = none)(ha:SE X cl a a')(hn:noStar a=true):SI X cl (.Tuple elts kx tp) (.Call (.Name "enumerate" p) [a] [] pos) (.enm a'):=by
 intro pins s σ H R I h;obtain⟨σD,ds,rv,e,k⟩:=h;obtain⟨d,e1,e2⟩:=bind_some e;obtain⟨es,e3,e4⟩:=map_some e2;subst e4;have hpa:PA X [a] (dZ (tE X.K cl a') hV):=aG ha bf (az [] hn);refine yV TE hg hm hpa (az [] hn) pins s σ H R I ⟨σD,d,rv,e1,fun v H1 r1=>?_⟩
 rcases sE e3 r1.rep with⟨l,xs,rfl,hx,rfl,rs⟩ | ⟨l,xs,rfl,hx,rfl,rs⟩ | ⟨x,rfl,rfl,rfl⟩
 ·refine .inl ⟨l,xs,rfl,hx,k _ _ r1.same ⟨fb (fun H' o=>o _ _ (fun z=>z) hx) (fun H' ys h1 h2=>by rw[h1]at h2;cases h2;rfl) rs eG,fun M P z hP av=>?_⟩⟩;exact fb (fun H' o=>o _ _ (jz r1 z hP av _ _ rfl rfl) hx) (fun H' ys h1 h2=>by rw[h1]at h2;cases h2;rfl) rs (cS r1.same hP)
 ·have np:∀ P:Addr->Prop,(∀ b o,P b->H1 b=some o->cw o)->¬ P l:=fun P hP q=>by rcases hP l _ q hx with⟨z,q⟩ | ⟨z,q⟩ | ⟨z,q⟩<;>cases q
  exact .inr (.inl ⟨l,xs,rfl,hx,k _ _ r1.same ⟨fb (fun H' o=>o _ _ (np _ eG) hx) (fun H' ys h1 h2=>by rw[h1]at h2;cases h2;rfl) rs eG,fun M P z hP av=>fb (fun H' o=>o _ _ (np P (cS r1.same hP)) hx) (fun H' ys h1 h2=>by rw[h1]at h2;cases h2;rfl) rs (cS r1.same hP)⟩⟩)
 ·exact .inr (.inr ⟨x,rfl,k _ _ r1.same ⟨fb (fun H' o=>rfl) (fun H' ys h1 h2=>h2) (gP _) eG,fun M P z hP av=>fb (fun H' o=>rfl) (fun H' ys h1 h2=>h2) (gP _) (cS r1.same hP)⟩⟩)
end rules
section rules
variable{X:Cx}
def xo{P:Addr->Prop}{K:PySem.W.Frag}(h:Rep P K H (.scr ds) v):∃ a xs,v=.ref a/\h8 K H a xs/\ag P K H ds xs:=by rw[Rep]at h;exact h
def tN(n:Nat)(k:Int):HT.sIx n n (some k)=RL.cutAt n k:=by
 have h:=HT.i8 k n n;unfold RL.cutAt;split at h
 ·rw[if_neg (by lia)];lia
 ·rw[if_pos (by lia)];lia
def yW(ha:SE X cl a a')(hb:SE X cl b b'):SE X cl (.Subscript a (.Slice none (some b) none p2) pos) (.slT a' b'):=by
 refine PE.weak (uZ (SlR.or xT BB) ha yJ (yB hb)) fun σ H Q h=>?_;obtain⟨σD,d,rv,e,k⟩:=h;obtain⟨x,ea,e⟩:=bind_some e;obtain⟨y,eb,e⟩:=bind_some e;refine⟨σD,x,rv,ea,fun v H1 r1=>⟨σD,y,rv.same r1.same,eb,fun u H2 r2=>?_⟩⟩;have rx:=r1.rep.same r2.same;have sm:=r1.same.trans r2.same
 cases y with
 |int n=>
  refine⟨n,ai r2.rep,?_⟩
  cases x with
  |lst xs=>
   cases e;obtain⟨q,ys,rfl,_,f2,f3⟩:=aM rx;refine .inl ⟨q,ys,rfl,SqL.of f2,fun l hl=>?_⟩;unfold fR;rw[gX,<-f3.length];exact k _ _ (dD sm hl (f3.take _) fun _=>rfl)
  |scr xs=>
   cases e;obtain⟨q,ys,rfl,f2,f3⟩:=xo rx;refine .inl ⟨q,ys,rfl,f2.seq,fun l hl=>?_⟩;unfold fR;rw[gX,<-f3.length];exact k _ _ (dD sm hl (f3.take _) fun _=>rfl)
  |fL xs=>
   cases e;rw[Rep]at rx;obtain⟨q,o,ys,rfl,f2,f3⟩:=rx;refine .inl ⟨q,ys,rfl,.inl (.inr ⟨o,f2⟩),fun l hl=>?_⟩;unfold fR;rw[gX,<-f3.length];exact k _ _ (dD sm hl (f3.take _) fun _=>rfl)
  |tup xs=>
   simp only[RL.mM]at e;split at e
   ·rename_i hz;cases e;obtain⟨q,ys,rfl,f2,f3⟩:=bh rx;refine .inr ⟨q,ys,rfl,SqT.of f2,fun z=>?_,fun l hl=>?_⟩
    ·rw[tN,<-f3.length]at z;lia
    ·unfold fR;rw[gX,<-f3.length];exact k _ _ (fu sm hl (f3.take _) fun _=>rfl)
   ·cases e
  | _=>cases e
 | _=>cases x<;>cases e
def mz{P:Addr->Prop}{K:PySem.W.Frag}(h:RL.keyOf d=some k)(r:Rep P K H d v):v=kV k:=by
 cases d<;>simp only[RL.keyOf]at h<;>first | (cases h;done) | skip
 case int i=>cases h;exact ai r
 case str i=>cases h;exact aE r
def la{P:Addr->Prop}{K:PySem.W.Frag}:∀ {ds:List RL.D} {k:List RL.Ky} {xs:List V},RL.keysOf ds=some k->ag P K H ds xs->xs=k.map kV
 | [],k,xs,h,r=>by cases h;rw[ag]at r;exact r
 | d::ds,k,xs,h,r=>by
  rw[RL.keysOf]at h;obtain⟨k1,h1,h⟩:=bind_some h;obtain⟨k2,h2,h3⟩:=map_some h;subst h3;rw[ag]at r;obtain⟨v,t,rfl,r1,r2⟩:=r;rw[mz h1 r1,la h2 r2];rfl
end rules
section rules
variable{X:Cx}{st:Stmt}
def oS{κ:Type} [DecidableEq κ]{x:κ}{d:RL.D}{v:V}{P:Addr->Prop}{K:PySem.W.Frag}{H:Hp}{ks:List κ}{ds:List RL.D}{xs:List V}(hl:ks.length=ds.length)(r:ag P K H ds xs)(rv:Rep P K H d v) :
  ∃ ys,putK (ks.zip xs) x v=(RL.putD ks ds x d).1.zip ys/\(RL.putD ks ds x d).1.length=(RL.putD ks ds x d).2.length/\ag P K H (RL.putD ks ds x d).2 ys:=by
 have hx:ks.length=xs.length:=hl.trans r.length
 have any:∀ (ks:List κ) (xs:List V),ks.length=xs.length->((ks.zip xs).any fun kv=>decide (kv.1=x))=decide (x∈ks):=by
  intro ks
  induction ks with
  | nil=>intro xs _;simp
  |cons k r ih=>
   intro xs h
   cases xs with
   | nil=>simp at h
   |cons y t=>
    rw[List.zip_cons_cons,List.any_cons,ih t (by simpa using h)];by_cases hk:k=x
    ·simp[hk]
    ·simp[hk,Ne.symm hk]
 unfold putK RL.putD;rw[any ks xs hx];by_cases hm:x∈ks
 ·rw[if_pos (by simpa using hm),if_pos hm];refine⟨List.zipWith (fun k w=>if k=x then v else w) ks xs,?_,?_,?_⟩
  ·clear any hm hl r
   induction ks generalizing xs with
   | nil=>simp
   |cons k t ih=>
    cases xs with
    | nil=>simp at hx
    |cons y t'=>
     rw[List.zip_cons_cons,List.map_cons,List.zipWith_cons_cons,List.zip_cons_cons,ih (by simpa using hx)];by_cases hk:k=x<;>simp[hk]
  ·rw[List.length_zipWith,hl,Nat.min_self]
  ·clear any hm hx
   induction ks generalizing ds xs with
   | nil=>simpa using ag.nil
   |cons k t ih=>
    cases ds with
    | nil=>simp at hl
    |cons d0 ds=>
     rw[ag]at r;obtain⟨y,t',rfl,r1,r2⟩:=r;rw[List.zipWith_cons_cons,List.zipWith_cons_cons];refine ag.cons ?_ (ih (by simpa using hl) r2);by_cases hk:k=x
     ·rw[if_pos hk,if_pos hk];exact rv
     ·rw[if_neg hk,if_neg hk];exact r1
 ·rw[if_neg (by simpa using hm),if_neg hm];refine⟨xs++[v],?_,by simp[hl],ag.append r (ag.cons rv ag.nil)⟩;rw[List.zip_append hx];rfl
def tU [DecidableEq κ](hd:d.imm=true):∀ {ks:List κ} {ds:List RL.D},RL.ar ds=true->RL.ar (RL.putD ks ds x d).2=true:=by
 have app:∀ l:List RL.D,RL.ar l=true->RL.ar (l++[d])=true:=fun l=>by
  induction l with
  | nil=>intro _;simp[RL.ar,hd]
  | cons z r ih=>intro h;rw[RL.ar,Bool.and_eq_true]at h;rw[List.cons_append,RL.ar,h.1,ih h.2];rfl
 have zw:∀ (ks:List κ) (ds:List RL.D),RL.ar ds=true->RL.ar (List.zipWith (fun k w=>if k=x then d else w) ks ds)=true:=fun ks=>by
  induction ks with
  | nil=>intro ds _;simp[RL.ar]
  |cons k r ih=>
   intro ds h
   cases ds with
   | nil=>simp[RL.ar]
   |cons y t=>
    rw[RL.ar,Bool.and_eq_true]at h;rw[List.zipWith_cons_cons,RL.ar,ih t h.2,Bool.and_true];by_cases hk:k=x
    ·rw[if_pos hk];exact hd
    ·rw[if_neg hk];exact h.1
 intro ks ds h;unfold RL.putD;split
 ·exact zw ks ds h
 ·exact app ds h
def yL(h:PS X st (qd (cA i) (tE X.K cl k') (tE X.K cl e')))(hi:M.contains i=true):PS X st (tS X.K M fun σD=>(RL.ev cl σD e').bind fun d=>(RL.ev cl σD k').bind fun kk=>((σD[i]?).bind id).bind fun l=>match l with
  | .lst _=>none
  | _=>if d.imm then(RL.ub l kk d).map fun l'=>(.nx,σD.set i (some l'))else none):=by
 refine PS.weak h fun D σ H h=>?_;obtain⟨σD,o,σD',rv,e,k⟩:=h;obtain⟨d,e1,e⟩:=bind_some e;obtain⟨kk,e2,e⟩:=bind_some e;obtain⟨l,e3,e⟩:=bind_some e;obtain⟨v,h1,h2⟩:=rv.val i _ (slot_get e3);rw[if_pos hi]at h2;obtain⟨q1,q2,q3⟩:=h2
 cases l with
 |dK ks ds=>
  dsimp only at e;split at e
  ·rename_i him;obtain⟨l',e4,e5⟩:=map_some e;cases e5;obtain⟨kx,e6,e7⟩:=bind_some (show(RL.keyOf kk).bind _=some l' from e4);split at e7
   ·rename_i hz;cases e7;rw[Rep]at q3;obtain⟨q,xs,rfl,_,f2,fl,f3⟩:=q3;refine⟨σD,d,rv.rv0,e1,fun y H1 r1=>⟨.ref q,h1,σD,kk,rv.rv0.same r1.same,e2,fun u H2 r2=>?_⟩⟩;have sm:=r1.same.trans r2.same;obtain⟨ys,p1,p2,p3⟩:=oS (x:=kx) fl (f3.same sm) (r1.rep.same r2.same)
    have hlen:(ks.zip xs).length<sizeLine:=by
     rw[List.length_zip,<-f3.length,fl,Nat.min_self,<-fl];exact Nat.lt_of_lt_of_le hz bK
    refine⟨q,_,rfl,by rw[mz e6 r2.rep];exact hJ.k (sm _ _ f2) hlen,?_⟩;have im:=tU (x:=kx) him (ks:=ks) q2
    obtain⟨g1,g2⟩:=(rv.same sm).gi (d':=.dK (RL.putD ks ds kx d).1 (RL.putD ks ds kx d).2) (o':=.dK (putK (ks.zip xs) kx y)) hi h1 (sm _ _ f2) (.inr (.inl ⟨_,rfl⟩)) ⟨rfl,im,by
     rw[Rep]
     exact⟨q,ys,rfl,fun z=>z,by rw[aC,p1],p2,(ag.upd (P:=fun p=>p=q) (sm _ _ f2) (.inr (.inl ⟨_,rfl⟩)) rfl (p3.imm im)).imm im⟩⟩
    exact k _ _ g1 ((Fr'.same sm).trans g2)
   ·cases e7
  ·cases e
 |dT ks ds=>
  dsimp only at e;split at e
  ·rename_i him;obtain⟨l',e4,e5⟩:=map_some e;cases e5
   cases kk with
   |tup kt=>
    obtain⟨kx,e6,e7⟩:=bind_some (show(RL.keysOf kt).bind _=some l' from e4);split at e7
    ·rename_i hz;cases e7;rw[Rep]at q3;obtain⟨q,xs,rfl,_,f2,fl,f3⟩:=q3;refine⟨σD,d,rv.rv0,e1,fun y H1 r1=>⟨.ref q,h1,σD,.tup kt,rv.rv0.same r1.same,e2,fun u H2 r2=>?_⟩⟩;have sm:=r1.same.trans r2.same;obtain⟨ys,p1,p2,p3⟩:=oS (x:=kx) fl (f3.same sm) (r1.rep.same r2.same)
     have hlen:(ks.zip xs).length<sizeLine:=by
      rw[List.length_zip,<-f3.length,fl,Nat.min_self,<-fl];exact Nat.lt_of_lt_of_le hz bK
     obtain⟨b,ws,rfl,g2,g3⟩:=bh r2.rep;rw[la e6 g3]at g2;refine⟨q,_,rfl,hJ.t (sm _ _ f2) g2 hlen,?_⟩;have im:=tU (x:=kx) him (ks:=ks) q2
     obtain⟨g1,g2⟩:=(rv.same sm).gi (d':=.dT (RL.putD ks ds kx d).1 (RL.putD ks ds kx d).2) (o':=.dT (putK (ks.zip xs) kx y)) hi h1 (sm _ _ f2) (.inr (.inr ⟨_,rfl⟩)) ⟨rfl,im,by
      rw[Rep]
      exact⟨q,ys,rfl,fun z=>z,by rw[aC,p1],p2,(ag.upd (P:=fun p=>p=q) (sm _ _ f2) (.inr (.inr ⟨_,rfl⟩)) rfl (p3.imm im)).imm im⟩⟩
     exact k _ _ g1 ((Fr'.same sm).trans g2)
    ·cases e7
   | _=>cases e4
  ·cases e
 | lst _=>cases e
 | _=>cases q1
end rules
end RS
namespace L2
open PySem PySem.Spec PyProof.Rows
abbrev Its(c lo:Int)(n:Nat):It:=⟨fun i _=>i<n,fun i H x H'=>H'=H/\x=.int (lo+i*c),fun i _=>n<=i⟩
def rH{P:Program}{w:World}{K:PySem.W.Frag}(it:Addr)(c lo:Int)(n:Nat):Turn P w K tg (Its c lo n) [it] it (fun i h=>IsRangeIter h it (lo+(i:Nat)*c) ((n:Int)-(i:Nat)) c) where
 mem:=by simp
 obj:=fun i h st b hb=>by
  rw[show b=it by simpa using hb];exact⟨_,st,fun v z=>by cases(show Data.fields _=Data.cell v from z)⟩
 keep:=fun i h h' st k=>k it (by simp) _ st
 item:=by
  intro X hP hw hK hc i pins s σ H E I hf st hg;subst hP hw hK;obtain⟨f0,f1,f2,f3,f4,f5⟩:=hf it (by simp);have W:=Walks.range (prog:=X.prog) (w:=X.w) (I.ok.hd.1 hc) it lo c n;refine W.item i s _ _ hg st fun v h' tk hv st' kk=>?_;obtain⟨t,rfl⟩:=hv;have I1:Inv X pins σ H { s with heap:=h',toks:=tk }:=I.turned (fun b o hb e=>kk b o (by simpa using hb) e) f0 f1 f3 f4 f5;exact⟨_,rfl,j8 (s:={ s with heap:=h',toks:=tk }) (n := "range_iterator") st' rfl rfl (by decide) ⟨.int (lo+i*c),H,I1,⟨t,rfl⟩,⟨rfl,rfl⟩,st',fun b hb=>(hf b hb).1⟩⟩
 done:=by
  intro X hP hw hK hc i pins s σ H E I hf st hg;subst hP hw hK;obtain⟨f0,f1,f2,f3,f4,f5⟩:=hf it (by simp)
  exact wpAny_pyNext_range_end (I.ok.hd.1 hc) st (by have:n<=i:=hg;lia) fun h' eb=>⟨rfl,I.turned (t':=s.toks) (fun b o hb e=>eb b o hb e) f0 f1 f3 f4 f5⟩
 self:=fun _ _ _ _ _ st h=>wpAny_pyIter_rangeiter st h
end L2
namespace RS
open PySem PySem.Spec PyProof.Rows L2
def ji(c:Int):∀ (n:Nat) (lo:Int) (i:Nat) (d:RL.D),(RL.bQ c lo n)[i]?=some d->d=.int (lo+i*c)
 | 0,lo,i,d,h=>by simp[RL.bQ]at h
 | n+1,lo,0,d,h=>by simp[RL.bQ]at h;simp[h]
 | n+1,lo,i+1,d,h=>by
  rw[RL.bQ,List.getElem?_cons_succ]at h;rw[ji c n (lo+c) i d h];congr 1;rw[show((i+1:Nat):Int)=(i:Int)+1 by lia,Int.add_mul];lia
def gu(c:Int):∀ (n:Nat) (lo:Int),(RL.bQ c lo n).length=n
 | 0,_=>rfl
 | n+1,lo=>by rw[RL.bQ,List.length_cons,gu c n]
def oX{K:PySem.W.Frag}{H:Hp}{c lo:Int}:eJ K (Its c lo n) (RL.bQ c lo n) P H where
 go:=fun H' i k hi=>by rw[gu]at hi;exact hi
 stop:=fun H' k=>by rw[gu];exact Nat.le_refl _
 yld:=fun H' i d x H2 k e y=>by
  obtain⟨z,y⟩:=y;subst z;refine⟨aA.refl _,fun _=>?_⟩;rw[ji c n lo i d e,y];exact aV
section rules
variable{st:Stmt}
def sV(hf:∀ a b,RL.bg o (.int a) (.int b)=some (.int (f a b)))(h:PS X st (uD i (tE X.K cl e') (ipI f)))(hi:M.contains i=false):SS X cl M st (.aug i o e'):=by
 refine PS.weak h fun D σ H h=>?_;obtain⟨σD,ou,σD',rv,e,k⟩:=h;obtain⟨x,e1,e⟩:=bind_some e;obtain⟨y,e2,e⟩:=bind_some e
 cases x with
 |int a=>
  cases y with
  |int b=>
   dsimp only at e;rw[hf]at e;cases e;obtain⟨v,h1,h2⟩:=rv.val i _ (slot_get e1);rw[if_neg (by rw[hi];decide)]at h2;refine⟨v,h1,σD,.int b,rv.rv0,e2,fun u H1 r1=>⟨a,b,ai h2,ai r1.rep,?_⟩⟩;exact k _ _ ((rv.same r1.same).bind hi aV) (Fr'.bind hi r1.same)
  | _=>cases e
 | _=>cases e
end rules
abbrev kA(p:Addr)(a b c:Int):HO:=.ext fun h=>∃ t u v,IsRange h p a b c t u v
def mm(a b c:Int):0<=Builtin.Range.rangeSize a b c:=by
 unfold Builtin.Range.rangeSize;split
 ·split
  ·have:=Int.ediv_nonneg (a:=b-a-1) (b:=c) (by lia) (by lia);omega
  ·lia
 ·split
  ·by_cases h0:c=0
   ·subst h0;simp
   ·have:=Int.ediv_nonneg (a:=a-b-1) (b:=-c) (by lia) (by lia);omega
  ·lia
def uY(a b c:Int):Builtin.Range.rangeSize a b c<=(if a<b then b-a else a-b)+1:=by
 unfold Builtin.Range.rangeSize;split
 ·split
  ·have:=Int.ediv_le_self (a:=b-a-1) c (by lia);lia
  ·lia
 ·split
  ·have:=Int.ediv_le_self (a:=a-b-1) (-c) (by lia);split<;>omega
  ·split<;>lia
def ig(a b c:Int):(RL.bM c a b:Int)=Builtin.Range.rangeSize a b c:=Int.toNat_of_nonneg (mm a b c)
def ib(ha:-(2 ^ 60)<=a)(ha':a<2 ^ 60)(hb:-(2 ^ 60)<=b)(hb':b<2 ^ 60)(hc:-(2 ^ 60)<=c)(hc':c<2 ^ 60):Builtin.Range.small a b c=true:=by
 have h1:=mm a b c;have h2:=uY a b c;unfold Builtin.Range.small;simp only[Builtin.Range.rangeFitsLong,Bool.and_eq_true,Bool.or_eq_true,decide_eq_true_eq,beq_iff_eq];refine⟨⟨⟨⟨?_,?_⟩,?_⟩,?_⟩,.inr ?_⟩
 ·lia
 ·lia
 ·lia
 ·split at h2<;>lia
 ·split<;>(rw[Bool.and_eq_true,decide_eq_true_eq,decide_eq_true_eq];lia)
section
variable{X:Cx}
abbrev nO(xs:List V)(a b c:Int):Prop:=(xs=[.int b]/\a=0/\c=1)\/(xs=[.int a,.int b]/\c=1)\/(xs=[.int a,.int b,.int c]/\c≠0/\c.natAbs<2 ^ 60)
def iV{pins:List (Addr × Obj)}{σ:L2.St}{H:Hp}{s:Shared}{a b c:Int}{t u v:Tok}{tk:Nat}(I:Inv X pins σ H s):Inv X pins σ (upd H s.heap.objs.size (kA s.heap.objs.size a b c)) { s with heap:=s.heap.push { cls:=.type "range",data:=.fields #[.int a t,.int b u,.int c v] },toks:=tk } :=
 I.laid (fun b u e=>Heap.get?_push_of_some _ e) (Nat.le_refl _) ⟨⟨t,u,v,IsRange.new _ a b c t u v⟩,⟨_,Heap.get?_push_size _ rfl⟩,fun h1 h2 ⟨t,u,v,e⟩ k=>⟨t,u,v,k _ e⟩⟩
def gK:bx X (.type "range") (fun xs H Q=>∃ a b c,nO xs a b c/\∀ p,H p=none->Q (.ref p) (upd H p (kA p a b c))):=by
 intro pins s σ H xs us Q I r h;obtain⟨a,b,c,ha,q⟩:=h;have hf:H s.heap.objs.size=none:=I.hok.fresh (Nat.le_refl _)
 rcases ha with⟨rfl,rfl,rfl⟩ | ⟨rfl,rfl⟩ | ⟨rfl,hc,hc2⟩
 ·cases r with
  |cons r rr=>
   cases rr;obtain⟨t,rfl⟩:=r;exact call_range_1 ⟨.ref _,_,iV I,rfl,q _ hf⟩
 ·cases r with
  |cons r rr=>
   cases rr with
   |cons r2 rr=>
    cases rr;obtain⟨t,rfl⟩:=r;obtain⟨t2,rfl⟩:=r2;exact call_range_2 ⟨.ref _,_,iV I,rfl,q _ hf⟩
 ·cases r with
  |cons r rr=>
   cases rr with
   |cons r2 rr=>
    cases rr with
    |cons r3 rr=>
     cases rr;obtain⟨t,rfl⟩:=r;obtain⟨t2,rfl⟩:=r2;obtain⟨t3,rfl⟩:=r3;refine call_range_3 hc ⟨.ref _,_,iV I,rfl,q _ hf⟩ (.inl (PyProof.noPylong_of_log2 ?_));have:c.natAbs.log2<60:=(Nat.log2_lt (by lia)).mpr hc2;lia
abbrev cI(a c:Int)(n:Nat):List V:=(List.range n).map fun(i:Nat)=>V.int (a+(i:Int)*c)
def yc{a c:Int}{n:Nat}{acc:Array Value}(hI:ItemsOf (fun i v=>∃ t,v=.int (a+i*c) t) acc n):Vals (cI a c n) acc.toList:=by
 have len:(cI a c (n)).length=acc.toList.length:=by
  simp only[cI,List.length_map,List.length_range,Array.length_toList,hI.1]
 have gen:∀ (xs:List V) (us:List Value),xs.length=us.length->(∀ (i:Nat) u,us[i]?=some u->∃ x,xs[i]?=some x/\RelV x u)->Vals xs us:=by
  intro xs
  induction xs with
  | nil=>intro us h _;cases us with
   | nil=>exact .nil
   | cons _ _=>cases h
  | cons x r ih=>intro us h g;cases us with
   | nil=>cases h
   |cons u us=>
    obtain⟨x',e1,e2⟩:=g 0 u rfl;cases e1
    exact .cons e2 (ih us (by simpa using h) fun i u hu=>by
     obtain⟨y,e3,e4⟩:=g (i+1) u (by simpa using hu)
     exact⟨y,by simpa using e3,e4⟩)
 refine gen _ _ len fun i u hu=>?_
 have hu':acc[i]?=some u:=by simpa using hu
 obtain⟨tk,rfl⟩:=hI.2 i u hu'
 have hi:i<n:=by
  have:=(Array.getElem?_eq_some_iff.mp hu').1;rw[hI.1]at this;exact this
 exact⟨.int (a+(i:Int)*c),by simp[cI,hi],tk,rfl⟩
def eO(hc:X.calm=true):bx X (.type "list") (fun xs H Q=>∃ p a b c,xs=[.ref p]/\H p=some (kA p a b c)/\Builtin.Range.small a b c=true/\RL.bM c a b<=RL.most /\
  ∀ l,H l=none->Q (.ref l) (upd H l (.lst (cI a c (RL.bM c a b))))):=by
 intro pins s σ H xs us Q I r h;obtain⟨p,a,b,c,rfl,hp,hs,hn,q⟩:=h
 cases r with
 |cons r rr=>
  cases rr;cases r;obtain⟨⟨t,u,v,hR⟩,_,_⟩:=I.hok p _ hp;refine call_list_range (I.ok.hd.1 hc) hR hs (ig a b c).symm (Nat.le_trans hn (by decide)) fun h' tk acc c' hk hS hI=>?_;have hf:H s.heap.objs.size=none:=I.hok.fresh (Nat.le_refl _);refine⟨.ref s.heap.objs.size,upd H s.heap.objs.size (.lst (cI a c (RL.bM c a b))),I.laid hk (Nat.le_refl _) (show _/\_ from⟨?_,acc.toList,c',?_,?_⟩),rfl,q _ hf⟩
  ·simp only[cI,List.length_map,List.length_range];exact Nat.le_trans hn bK
  ·exact yc hI
  ·rw[Array.toArray_toList];exact hS
def kK{P:Addr->Prop}{K:PySem.W.Frag}:∀ (n:Nat) (a c:Int),ag P K H (RL.bQ c a n) (cI a c n)
 | 0,a,c=>ag.nil
 | n+1,a,c=>by
  have e:cI a c (n+1)=V.int a::cI (a+c) c n:=by
   simp only[cI,List.range_succ_eq_map,List.map_cons,List.map_map];congr 1
   ·simp
   ·apply List.map_congr_left;intro i _;show V.int (a+((i+1:Nat):Int)*c)=V.int (a+c+(i:Int)*c);congr 1;rw[show((i+1:Nat):Int)=(i:Int)+1 by lia,Int.add_mul];lia
  rw[RL.bQ,e];exact ag.cons aV (kK n (a+c) c)
def jf:∀ (n:Nat) (a:Int),RL.bw a n=RL.bQ 1 a n
 | 0,_=>rfl
 | n+1,a=>by rw[RL.bw,RL.bQ,jf n]
def eY(a b:Int):RL.bM 1 a b=(b-a).toNat:=by
 have h:=ig a b 1;rw[rangeSize_one]at h;split at h<;>lia
def nL{σD:RL.St}{σ:L2.St}{H H1:Hp}{e:RL.E}{Q:VK}{vs:List V}{a b c:Int}{ds:List RL.D}(hv:nO vs a b c)(hd:ds=RL.bQ c a (RL.bM c a b))(hn:RL.bM c a b<=RL.most)(hs:Builtin.Range.small a b c=true)(sm:aA H H1)
 (hav:∀ M,RL.avE M e=false)(k:∀ v H',Res X.K σD σ H e (.lst ds) v H'->Q v H') :
  ∃ a b c,nO vs a b c/\∀ p,H1 p=none->(fun xs H Q=>∃ p a b c,xs=[V.ref p]/\H p=some (kA p a b c)/\Builtin.Range.small a b c=true/\RL.bM c a b<=RL.most/\∀ l,H l=none->Q (.ref l) (upd H l (.lst (cI a c (RL.bM c a b))))) [.ref p] (upd H1 p (kA p a b c)) Q:=by
 refine⟨a,b,c,hv,fun p hp=>⟨p,a,b,c,rfl,aC,hs,hn,fun l hl=>k _ _ ?_⟩⟩;subst hd;exact dD (sm.trans (aA.bW hp)) hl (kK _ _ _) hav
def yT(hc:X.calm=true)(hgl:Gl X "list")(hml:X.mg "list" = none)(hg:Gl X "range")(hm:X.mg "range" = none)(ha:SE X cl a a')(hn:noStar a=true){p2 pos2:Pos}:SE X cl (.Call (.Name "list" p2) [.Call (.Name "range" p) [a] [] pos] [] pos2) (.rng1 a'):=by
 refine PE.weak (cB (eO hc) hgl hml (by decide +kernel) (aG (cB gK hg hm boot_range (cm (cl:=cl) ha dA hn) (by decide) (by decide) (az [] hn) rfl) bf rfl) (by decide) (by decide) rfl rfl) fun σ H Q h=>?_;obtain⟨σD,d,rv,e,k⟩:=h;obtain⟨x,ea,e⟩:=bind_some e;obtain⟨ds,e1,e2⟩:=map_some e;subst e2;obtain⟨i,j,e3,rfl,hb,hm2,rfl⟩:=j2 e1;cases e3
 have hb2:-(2 ^ 60)<=j/\j<2 ^ 60:=by
  simp only[RL.dX]at e1;split at e1
  ·lia
  ·cases e1
 refine one rv ea fun v H1 s1 r1=>?_;exact nL (a:=0) (b:=j) (c:=1) (.inl ⟨by rw[ai r1],rfl,rfl⟩) (by rw[jf,eY]) (by rw[eY];exact hm2) (ib (by decide) (by decide) hb2.1 hb2.2 (by decide) (by decide)) s1 (fun _=>rfl) k
def xg(hc:X.calm=true)(hgl:Gl X "list")(hml:X.mg "list" = none)(hg:Gl X "range")(hm:X.mg "range" = none)(ha:SE X cl a a')(hb:SE X cl b b')(hn:noStar a=true)(hn2:noStar b=true){p2 pos2:Pos}:SE X cl (.Call (.Name "list" p2) [.Call (.Name "range" p) [a,b] [] pos] [] pos2) (.rng2 a' b'):=by
 refine PE.weak (cB (eO hc) hgl hml (by decide +kernel) (aG (cB gK hg hm boot_range (cm (cl:=cl) ha (cm hb dA hn2) hn) (by decide) (by decide) (az _ hn) (cC (by simp[hn2]))) bf rfl) (by decide) (by decide) rfl rfl) fun σ H Q h=>?_;obtain⟨σD,d,rv,e,k⟩:=h;obtain⟨x,ea,e⟩:=bind_some e;obtain⟨y,eb,e⟩:=bind_some e;obtain⟨ds,e1,e2⟩:=map_some e;subst e2;obtain⟨i,j,rfl,rfl,hb,hm2,rfl⟩:=j2 e1
 have hb2:(-(2 ^ 60)<=i/\i<2 ^ 60)/\-(2 ^ 60)<=j/\j<2 ^ 60:=by
  simp only[RL.dX]at e1;split at e1
  ·lia
  ·cases e1
 refine pair rv ea eb fun v u H1 s1 r1 r2=>?_;exact nL (a:=i) (b:=j) (c:=1) (.inr (.inl ⟨by rw[ai r1,ai r2],rfl⟩)) (by rw[jf,eY]) (by rw[eY];exact hm2) (ib hb2.1.1 hb2.1.2 hb2.2.1 hb2.2.2 (by decide) (by decide)) s1 (fun _=>rfl) k
abbrev f7(c:Int):Expr->Bool
 | .Constant (.int i) _ _=>i == c
 | .UnaryOp .USub (.Constant (.int i) _ _) _=>-i == c
 | _=>false
def iB(h:f7 c e=true):PE X e (tC (.int c))/\noStar e=true:=by
 unfold f7 at h;split at h
 ·rw[beq_iff_eq]at h;subst h;exact⟨mO,rfl⟩
 ·rw[beq_iff_eq]at h;subst h;exact⟨PE.weak (wQ sN mO) fun σ H Q q=>⟨_,rfl,q⟩,rfl⟩
 ·cases h
def oP(h:RL.lE c x y=some ds):∃ i j:Int,x=.int i/\y=.int j/\c≠0/\c.natAbs<2 ^ 60/\Builtin.Range.small i j c=true/\RL.bM c i j<=RL.most/\ds=RL.bQ c i (RL.bM c i j):=by
 cases x<;>cases y<;>simp only[RL.lE]at h<;>first
  | (cases h;done)
  | (split at h
     ·rename_i i j hc;cases h;exact⟨i,j,rfl,rfl,hc.1,by omega,ib hc.2.2.2.2.1 hc.2.2.2.2.2.1 hc.2.2.2.2.2.2.1 hc.2.2.2.2.2.2.2 (by omega) hc.2.2.1,hc.2.2.2.1,rfl⟩
     ·cases h)
def oF(ha:SE X cl a a')(hb:SE X cl b b')(hn:noStar a=true)(hn2:noStar b=true)(h3:f7 c e3=true):PA X [a,b,e3] (fun σ H R=>tE X.K cl a' σ H fun v H1=>tE X.K cl b' σ H1 fun u H2=>R [v,u,.int c] H2) :=
 aG ha (aG hb (aG (iB h3).1 bf (az [] (iB (X:=X) h3).2)) (az _ hn2)) (az _ hn)
def xm{c:Int}{e3:Expr}(hc:X.calm=true)(hgl:Gl X "list")(hml:X.mg "list" = none)(hg:Gl X "range")(hm:X.mg "range" = none)(ha:SE X cl a a')(hb:SE X cl b b')(hn:noStar a=true)(hn2:noStar b=true)(h3:f7 c e3=true){p2 pos2:Pos} :
  SE X cl (.Call (.Name "list" p2) [.Call (.Name "range" p) [a,b,e3] [] pos] [] pos2) (.rng3 c a' b'):=by
 refine PE.weak (cB (eO hc) hgl hml (by decide +kernel) (aG (cB gK hg hm boot_range (oF (cl:=cl) ha hb hn hn2 h3) (by decide) (by decide) (az _ hn) (cC (by simp[hn2,(iB (X:=X) h3).2]))) bf rfl) (by decide) (by decide) rfl rfl) fun σ H Q h=>?_;obtain⟨σD,d,rv,e,k⟩:=h;obtain⟨x,ea,e⟩:=bind_some e;obtain⟨y,eb,e⟩:=bind_some e;obtain⟨ds,e1,e2⟩:=map_some e;subst e2;obtain⟨i,j,rfl,rfl,h0,h1,h2,h3,rfl⟩:=oP e1;refine two rv ea eb fun v u H1 H2 s1 s2 rx ry _ _=>?_;exact nL (a:=i) (b:=j) (c:=c) (.inr (.inr ⟨by rw[ai rx,ai ry],h0,h1⟩)) rfl h3 h2 (s1.trans s2) (fun _=>rfl) k
def xZ(hg:Gl X "range")(hm:X.mg "range" = none)(ha:SE X cl a a')(hb:SE X cl b b')(hn:noStar a=true)(hn2:noStar b=true)(h3:f7 c e3=true) :
  SI X cl tg (.Call (.Name "range" p) [a,b,e3] [] pos) (.rng3 c a' b'):=by
 intro pins s σ H R I h;obtain⟨σD,ds,rv,e,k⟩:=h;obtain⟨x,ea,e⟩:=bind_some e;obtain⟨y,eb,e⟩:=bind_some e;obtain⟨i,j,rfl,rfl,h0,h1,hs,hl,rfl⟩:=oP e;refine thn (cB gK hg hm boot_range (oF (cl:=cl) ha hb hn hn2 h3) (by decide) (by decide) (az _ hn) (cC (by simp[hn2,(iB (X:=X) h3).2])) pins s σ H (fun x H2=>∃ p,x=.ref p/\H2 p=some (kA p i j c)/\aA H H2) I ?_) ?_
 ·exact two rv ea eb fun v u H1 H2 s1 s2 rx ry _ _=>⟨i,j,c,.inr (.inr ⟨by rw[ai rx,ai ry],h0,h1⟩),fun p hp=>⟨p,rfl,aC,(s1.trans s2).trans (aA.bW hp)⟩⟩
 ·rintro v s1 ⟨x,H1,I1,r1,q,rfl,hq,sm⟩;cases r1;obtain⟨⟨t,u,v,hR⟩,_,_⟩:=I1.hok q _ hq;refine wpAny_pyIter_range hR hs ⟨s1.heap.objs.size,[s1.heap.objs.size],_,Its c i (RL.bM c i j),H1,rfl,I1.kept (t':=s1.toks) fun b o e=>Heap.get?_push_of_some _ e,rH _ c i _,?_,fun b hb=>?_,k _ _ sm ⟨oX,fun _ _ _ _ _=>oX⟩⟩
  ·have e1:i+((0:Nat):Int)*c=i:=by simp
   have e2:((RL.bM c i j:Nat):Int)-((0:Nat):Int)=Builtin.Range.rangeSize i j c:=by rw[ig];simp
   show IsRangeIter _ _ (i+((0:Nat):Int)*c) (((RL.bM c i j:Nat):Int)-((0:Nat):Int)) c;rw[e1,e2];exact Heap.get?_push_size _ rfl
  ·rw[show b=s1.heap.objs.size by simpa using hb];exact I1.ja (Nat.le_refl _) (I1.hok.fresh (Nat.le_refl _))
def yI(hl:SE X cl l e'):SI X cl tg l (.seq e'):=by
 refine PI.weak (Bh (cl:=cl) hl trivial) fun σ H R h=>?_;obtain⟨σD,ds,rv,e,k⟩:=h;obtain⟨d,e1,e2⟩:=bind_some e;exact⟨σD,d,ds,rv,e1,e2,k⟩
def BJ(ha:SE X cl a a'):SE X cl (.UnaryOp .USub a pos) (.neg a'):=by
 refine PE.weak (wQ sN ha) fun σ H Q h=>?_;obtain⟨σD,d,rv,e,k⟩:=h;obtain⟨x,ea,e⟩:=bind_some e
 cases x with
 | int i=>cases e;exact⟨σD,_,rv,ea,fun v H1 r1=>⟨i,ai r1.rep,k _ _ (cu r1.same aV rfl)⟩⟩
 | _=>cases e
end
abbrev mAt(mp:List Nat)(vs:List V):Addr->Prop:=fun a=>∃ p,p∈mp/\vs[p]?=some (.ref a)
structure Ad(K:PySem.W.Frag)(mp:List Nat)(ds:List RL.D)(vs:List V)(H:Hp):Prop where
 v7:ag nP K H ds vs
 own:∀ p∈mp,∃ d a,ds[p]?=some d/\vs[p]?=some (.ref a)/\Own K H d (.ref a)
 sep:∀ p∈mp,∀ q∈mp,∀ a,vs[p]?=some (.ref a)->vs[q]?=some (.ref a)->p=q
 oth:∀ (q:Nat) d v,q∉mp->ds[q]?=some d->vs[q]?=some v->Rep (mAt mp vs) K H d v
structure DI(K:PySem.W.Frag)(mp:List Nat)(outs:List RL.D)(vs:List V)(H:Hp):Prop where
 len:outs.length=mp.length
 own:∀ (k p:Nat) o,mp[k]?=some p->outs[k]?=some o->∃ a,vs[p]?=some (.ref a)/\Own K H o (.ref a)
abbrev spM(K:PySem.W.Frag)(cl:RL.Cl)(mp:List Nat)(f:Nat):Sp:=fun vs H Q _=>∃ ds d outs,cl f ds=some (.tup (d::outs))/\Ad K mp ds vs H/\∀ v H',Off (mAt mp vs) H H'->Rep nP K H' d v->d.imm=true->DI K mp outs vs H'->Q v H'
section
variable{K:PySem.W.Frag}
def Own.off(h:Own K H d (.ref a))(hm:∀ b o,P b->H b=some o->cw o)(k:Off P H H1)(n:¬ P a):Own K H1 d (.ref a):=by
 obtain⟨q1,q2,q3⟩:=h;refine⟨q1,q2,?_⟩;have im:∀ {ds:List RL.D} {xs:List V},RL.ar ds=true->ag nP K H ds xs->ag nP K H1 ds xs:=fun hi r=>((r.imm hi).off hm k).imm hi
 cases d with
 | lst ds=>obtain⟨b',xs,e1,e0,e2,e3⟩:=aM q3;cases e1;rw[Rep];exact⟨a,xs,rfl,fun z=>z,k _ _ n e2,im q2 e3⟩
 | dK ks ds=>rw[Rep]at q3 ⊢;obtain⟨b',xs,e1,e0,e2,el,e3⟩:=q3;cases e1;exact⟨a,xs,rfl,fun z=>z,k _ _ n e2,el,im q2 e3⟩
 | dT ks ds=>rw[Rep]at q3 ⊢;obtain⟨b',xs,e1,e0,e2,el,e3⟩:=q3;cases e1;exact⟨a,xs,rfl,fun z=>z,k _ _ n e2,el,im q2 e3⟩
 | _=>cases q1
def kh:∀ {ms:List Nat} {outs:List RL.D} {σD:RL.St} {k i:Nat} {o:RL.D},ms.Nodup->ms[k]?=some i->outs[k]?=some o->i<σD.length->(dk ms outs σD)[i]?=some (some o)
 | [],_,_,_,_,_,_,e,_,_=>by simp at e
 | m::ms,[],_,_,_,_,_,_,e,_=>by simp at e
 | m::ms,d::ds,σD,0,i,o,nd,e1,e2,hl=>by
  simp at e1 e2;subst e1 e2;rw[dk,i3 _ _ _ _ (by simpa using(List.nodup_cons.mp nd).1),List.getElem?_set_self hl]
 | m::ms,d::ds,σD,k+1,i,o,nd,e1,e2,hl=>by
  rw[dk];exact kh (List.nodup_cons.mp nd).2 (by simpa using e1) (by simpa using e2) (by simpa using hl)
def RVm.changed(h:RVm K M σD σ H)(hms:∀ i∈ms,M.contains i=true)(nd:ms.Nodup)(len:ms.length=outs.length)(k:Off (fun a=>∃ i∈ms,σ[i]?=some (some (.ref a))) H H1)
 (ow:∀ (k i:Nat) o,ms[k]?=some i->outs[k]?=some o->∃ a,σ[i]?=some (some (.ref a))/\Own K H1 o (.ref a)):RVm K M (dk ms outs σD) σ H1/\Fr' M σ H σ H1:=by
 have sub:∀ a,(∃ i∈ms,σ[i]?=some (some (.ref a)))->aX M σ a:=fun a ⟨i,hi,e⟩=>⟨i,hms i hi,e⟩
 have offA:Off (aX M σ) H H1:=fun b o n e=>k b o (fun z=>n (sub b z)) e
 have hmA:∀ b o,aX M σ b->H b=some o->cw o:=fun b o p e=>by
  obtain⟨o',e',m⟩:=h.qU b p;rw[e]at e';cases e';exact m
 have at_:∀ i,i∈ms->∃ (kk:Nat) (o:RL.D),ms[kk]?=some i/\outs[kk]?=some o:=fun i hi=>by
  obtain⟨kk,hk,e⟩:=List.getElem_of_mem hi;exact⟨kk,outs[kk]'(by lia),by simp[hk,e],by simp⟩
 refine⟨⟨by rw[iX];exact h.len,fun i d e=>?_,fun i v e=>?_,h.sep⟩,⟨fun b o e n=>⟨offA b o n e,n⟩,fun _ _=>rfl⟩⟩
 ·by_cases hi:i∈ms
  ·obtain⟨kk,o,e1,e2⟩:=at_ i hi
   have hl:i<σD.length:=by
    have:=(List.getElem?_eq_some_iff.mp e).1;rw[iX]at this;exact this
   rw[kh nd e1 e2 hl]at e;cases e;obtain⟨a,q1,q2⟩:=ow kk i _ e1 e2;exact⟨.ref a,q1,by rw[if_pos (hms i hi)];exact q2⟩
  ·rw[i3 _ _ _ _ (by simpa using hi)]at e;obtain⟨v,h1,h2⟩:=h.val i d e;refine⟨v,h1,?_⟩;by_cases hm:M.contains i=true
   ·rw[if_pos hm]at h2 ⊢;obtain⟨a,o,rfl,_,_⟩:=h2.ref;refine h2.off (fun b o p e=>hmA b o (sub b p) e) k fun⟨j,hj,ej⟩=>?_;exact hi (h.sep i j a hm (hms j hj) h1 ej▸hj)
   ·rw[if_neg hm]at h2 ⊢;exact h2.off hmA offA
 ·obtain⟨d,hd⟩:=h.non i v e;by_cases hi:i∈ms
  ·obtain⟨kk,o,e1,e2⟩:=at_ i hi;exact⟨o,kh nd e1 e2 (List.getElem?_eq_some_iff.mp hd).1⟩
  ·exact⟨d,by rw[i3 _ _ _ _ (by simpa using hi)];exact hd⟩
end
section rules
variable{X:Cx}{st:Stmt}
end rules
end RS
namespace L2
open PySem PySem.Spec PyProof.Rows
abbrev df(A:Around)(h:Heap):Prop:=A.handled=none\/∃ x o vs,A.handled=some (.ref x)/\h.get? x=some o/\o.data=.fields vs/\vs[2]?=some .none
def df.keeps(x:df A h)(k:∀ b o vs,h.get? b=some o->o.data=.fields vs->A.handled=some (.ref b)->h'.get? b=some o):df A h':=by
 rcases x with z | ⟨y,o,vs,h1,h2,h3,h4⟩
 ·exact .inl z
 ·exact .inr ⟨y,o,vs,h1,k _ _ _ h2 h3 h1,h3,h4⟩
section
def l9:entryFor table "proto.unchain" = some Builtin.«proto.unchain»:=entryFor_of_tree (by kernel_rfl)
def uB(hd:df A s.heap)(he:s.heap.get? e=some oe)(hf:oe.data=.fields vs)(hz:2<vs.size)(ne:A.handled≠some (.ref e))
 (k:∀ h',Heap.SameBut e s.heap h'->(∃ o,h'.get? e=some o/\o.cls=oe.cls)->E (.ref e) { s with heap:=h' }):wpAny (model prog w) A (raiseNew (.ref e):Sem α) Q E s:=by
 unfold raiseNew;refine wpAny_bind (wpAny_handled ?_)
 rcases hd with z | ⟨x,o,ws,h1,h2,h3,h4⟩
 ·rw[z];exact wpAny_bind (wpAny_pure (wpAny_throw (k s.heap (.refl ..) ⟨oe,he,rfl⟩)))
 ·rw[h1]
  have nx:(Value.ref x != Value.ref e)=true:=by
   rw[bne_iff_ne];intro q;exact ne (by rw[h1,q])
  dsimp only;rw[if_pos nx];refine wpAny_bind (wpAny_holding (wpAny_runValue (codeAny_builtin l9 ?_)));unfold Builtin.«proto.unchain»;refine wpAny_bind (wpAny_field h2 h3 h4 ?_);rw[if_pos (by decide)];refine wpAny_bind (wpAny_pure (wpAny_pure ?_));show wpAny _ _ _ _ _ _;refine wpAny_bind ?_;show wpAny _ _ (setField (.ref e) 2 (.ref x)) _ _ _;refine wpAny_setField he hf hz (wpAny_throw (k _ (.update ..) ⟨_,Heap.get?_update_self _ he (Obj.isFreed_of_fields (Obj.data_mapFields hf _)),Obj.cls_mapFields ..⟩))
def kn(hd:df A s.heap)(k:∀ h' e,(∀ b o,s.heap.get? b=some o->h'.get? b=some o)->(∃ o,h'.get? e=some o/\o.cls=.type "StopIteration")->E (.ref e) { s with heap:=h' }) :
  wpAny (model prog w) A (newExc (.type "StopIteration") []) (fun e s'=>wpAny (model prog w) A (raiseNew e:Sem α) Q E s') E s:=by
 simp only[newExc,newTuple];apply wpAny_bind;refine wpAny_newObj_type ?_ (by size_fits);apply wpAny_bind (m:=firstArgMember _ _);refine wpAny_of_eq (a:=Value.none) (by first | rfl | (simp only[firstArgMember];rfl)) ?_;refine wpAny_newObj_type ?_ (by size_fits);have hs:∀ b o,s.heap.get? b=some o->b≠(s.heap.push { cls:=.type "tuple",data:=.seq ([]:List Value).toArray }).objs.size:=fun b o e=>Nat.ne_of_lt (by rw[Heap.size_push];exact Nat.lt_succ_of_lt (Heap.lt_size e));refine uB (hd.keeps fun b o vs e _ _=>Heap.get?_push_of_some _ (Heap.get?_push_of_some _ e)) (Heap.get?_push_size _ rfl) rfl (Nat.lt_of_lt_of_le (by decide:2<6) (by simp)) (fun q=>?_) fun h' sb ho=>k h' _ (fun b o e=>(sb.2 b (hs b o e)).trans (Heap.get?_push_of_some _ (Heap.get?_push_of_some _ e))) ho
 rcases hd with z | ⟨x,o,ws,h1,h2,_,_⟩
 ·rw[z]at q;cases q
 ·rw[h1]at q;cases q;exact hs _ _ h2 rfl
def gZ{it l:Addr}{i:Nat}(hd:df A s.heap)(ni:A.handled≠some (.ref it))(ho:s.heap.get? it=some o)(hdt:o.data=.fields #[.ref l,.int i 0])(hol:s.heap.get? l=some ol)(hdl:ol.data=.seq its nl)(hx:its[i]?=none)
 (k:∀ h' e,Heap.ExtBut it s.heap h'->(∃ o,h'.get? e=some o/\o.cls=.type "StopIteration")->E (.ref e) { s with heap:=h' }):wpAny (model prog w) A (Builtin.«list_iterator.__next__» ⟨[.ref it],[]⟩) Q E s:=by
 have n0:¬ ((Value.ref l == Value.none)=true):=Bool.false_ne_true;refine show wpAny _ _ (field (.ref it) 0 >>= _) _ _ s from wpAny_bind (wpAny_field ho hdt (x:=.ref l) rfl ?_);refine show wpAny _ _ (if(Value.ref l == Value.none)=true then _ else _) _ _ s from ?_;rw[if_neg n0];refine show wpAny _ _ (field (.ref it) 1 >>= _) _ _ s from wpAny_bind (wpAny_field ho hdt (x:=.int i 0) rfl ?_);refine show wpAny _ _ (seqItems? (.ref l) >>= _) _ _ s from wpAny_bind (wpAny_seqItems hol hdl ?_);simp only[Int.toNat_natCast,hx];refine wpAny_bind (wpAny_rule (wpAny_bind (wpAny_setField ho hdt (by simp) ?_)));refine show wpAny _ _ (newExc (.type "StopIteration") [] >>= _) _ _ _ from wpAny_bind ?_;have sb:=Heap.SameBut.update s.heap it (Obj.mapFields (·.setIfInBounds 0 Value.none));refine kn (hd.keeps fun b u vs e _ hb=>(sb.2 b fun z=>ni (z▸hb)).trans e) fun h' e kk he=>k h' e (fun b u hb q=>kk b u ((sb.2 b hb).trans q)) he
def lA{it l:Addr}{i:Nat}(hd:df A s.heap)(ni:A.handled≠some (.ref it))(hit:s.heap.IsListIter it l i)(hl:s.heap.IsList l its)(hx:its[i]?=none)
 (k:∀ h' e,Heap.ExtBut it s.heap h'->(∃ o,h'.get? e=some o/\o.cls=.type "StopIteration")->E (.ref e) { s with heap:=h' }):wpAny (model prog w) A (Builtin.SmallTypes.nextOf (.ref it)) Q E s:=by
 obtain⟨o,ho,hc,hdt⟩:=id hit;obtain⟨ol,hol,_,nl,hdl⟩:=hl;unfold Builtin.SmallTypes.nextOf;apply wpAny_bind;apply wpAny_callSpecial?_slot (name:=Str.ofString "__next__") hit.typeIs slot_listiter_next;refine wpAny_call_entry slot_listiter_next hit.typeIs entry_listiter_next ?_ (args_listiter_next _);exact gZ hd ni ho hdt hol hdl hx k
def ot{it l:Addr}{i:Nat}(hd:df A s.heap)(ni:A.handled≠some (.ref it))(hit:s.heap.IsListIter it l i)(hl:s.heap.IsList l its)(hx:its[i]?=none)
 (k:∀ h',Heap.ExtBut it s.heap h'->Q none { s with heap:=h' }):wpAny (model prog w) A (pyNext (.ref it)) Q E s:=by
 obtain⟨o,ho,hc,hdt⟩:=id hit;obtain⟨ol,hol,_,nl,hdl⟩:=hl;unfold pyNext;apply wpAny_bind;apply wpAny_attempt;apply wpAny_callSpecial?_slot (name:=Str.ofString "__next__") hit.typeIs slot_listiter_next;refine wpAny_call_entry slot_listiter_next hit.typeIs entry_listiter_next ?_ (args_listiter_next _);refine gZ hd ni ho hdt hol hdl hx fun h' e eb he=>?_;apply wpAny_bind;refine wpAny_isInstance (T := "StopIteration") (b:=true) he isSubtype_stop ?_;exact wpAny_pure (k h' eb)
end
section
def mG(hi:z.heap.IsTupleIter ti tp i)(ht:z.heap.IsTuple tp its)(hx:its[i]?=some x)
 (k:∀ g,g.IsTupleIter ti tp (i+1)->Heap.SameBut ti z.heap g->Q x { z with heap:=g }):wpAny (model prog w) A (Builtin.SmallTypes.nextOf (.ref ti)) Q E z:=by
 have hty:=hi.typeIs;obtain⟨⟨c1,d1,f1,s1⟩,g1,c1',f1'⟩:=hi;obtain⟨⟨c2,d2,f2,s2⟩,g2,c2',n2,f2'⟩:=ht;dsimp only at c1' f1' c2' f2';subst c1' f1' c2' f2';obtain⟨hp,g,d,tk,os⟩:=z;unfold Builtin.SmallTypes.nextOf;refine wpAny_bind (wpAny_callSpecial?_slot (name:=Str.ofString "__next__") hty F.slot_tuple_iterator_next (wpAny_call_entry F.slot_tuple_iterator_next hty F.entry_tuple_iterator_next ?_ (F.args_tuple_iterator_next_1 _)));unfold Builtin.«tuple_iterator.__next__»
 wp_walk using AutoSeq1.wpAny_loadPart' g1,AutoSeq1.wpAny_loadPart' g2
 have e:its[((i:Nat):Int).toNat]?=some x:=hx;rw[e];dsimp only;apply wpAny_bind;apply wpAny_setField g1 rfl (by simp);apply wpAny_pure;refine⟨x,rfl,?_⟩;apply wpAny_pure;apply k
 ·exact⟨_,Heap.get?_update_self _ g1 rfl,rfl,by simp[Obj.mapFields,rawInt]⟩
 ·exact Heap.SameBut.update ..
def oC(hd:df A z.heap)(ni:A.handled≠some (.ref ti))(hi:z.heap.IsTupleIter ti tp i)(ht:z.heap.IsTuple tp its)(hx:its[i]?=none)
 (k:∀ g e,Heap.ExtBut ti z.heap g->(∃ o,g.get? e=some o/\o.cls=.type "StopIteration")->E (.ref e) { z with heap:=g }):wpAny (model prog w) A (Builtin.SmallTypes.nextOf (.ref ti)) Q E z:=by
 have hty:=hi.typeIs;obtain⟨⟨c1,d1,f1,s1⟩,g1,c1',f1'⟩:=hi;obtain⟨⟨c2,d2,f2,s2⟩,g2,c2',n2,f2'⟩:=ht;dsimp only at c1' f1' c2' f2';subst c1' f1' c2' f2';obtain⟨hp,g,d,tk,os⟩:=z;unfold Builtin.SmallTypes.nextOf;refine wpAny_bind (wpAny_callSpecial?_slot (name:=Str.ofString "__next__") hty F.slot_tuple_iterator_next (wpAny_call_entry F.slot_tuple_iterator_next hty F.entry_tuple_iterator_next ?_ (F.args_tuple_iterator_next_1 _)));unfold Builtin.«tuple_iterator.__next__»
 wp_walk using AutoSeq1.wpAny_loadPart' g1,AutoSeq1.wpAny_loadPart' g2
 have e:its[((i:Nat):Int).toNat]?=none:=hx;rw[e];dsimp only;apply wpAny_bind;apply wpAny_rule;apply wpAny_bind;apply wpAny_setField g1 rfl (by simp);unfold Builtin.SmallTypes.stopIteration;apply wpAny_bind;refine kn (hd.keeps fun b u vs e _ hb=>(Heap.SameBut.update ..).extBut b u (fun z=>ni (z▸hb)) e) fun g e kp hc=>k g e (fun b o hb q=>kp b o ?_) hc;exact(Heap.SameBut.update ..).extBut b o hb q
def lP(h:wpAny (model prog w) A m S (fun _ _=>False) z)(k:∀ a z1,S a z1->Q a z1):wpAny (model prog w) A m Q E z:=wpAny_mono h k fun _ _ f=>f.elim
def rK(h:∀ b,Q b z):wpAny (model prog w) A (pure b) Q E z:=wpAny_pure (h b)
def vm{x:Value}{S:Addr->Shared->Prop}(hx:∀ A:Around,wpAny (model prog w) A (pyIter x) (fun v z1=>∃ it,v=.ref it/\S it z1) (fun _ _=>False) z)
 (k:∀ it z1,S it z1->Q (.ref z1.heap.objs.size) { z1 with heap:=z1.heap.push { cls:=.type "enumerate",data:=.fields #[.none,.bool false,.ref it,rawInt 0,.none,.none] } }):wpAny (model prog w) A (call (.type "enumerate") [x]) Q E z:=by
 have body:MeetsIn prog w (Builtin.«enumerate.__new__» ⟨[.type "enumerate",x],[]⟩) (fun A R s=>s=z/\∀ it z1,S it z1->R (.ok (.ret (.ref z1.heap.objs.size))) { z1 with heap:=z1.heap.push { cls:=.type "enumerate",data:=.fields #[.none,.bool false,.ref it,rawInt 0,.none,.none] } }):=by
  rintro A R s ⟨rfl,hR⟩;have hsub:=sub_enumerate;have iter:=hx A.in1;obtain⟨hp,g,d,tk,os⟩:=s
  wp_walk
  refine wpAny_stack_any fun st=>rK fun b=>?_
  have done:∀ it z1,S it z1->wpAny (model prog w) A.in1 (do let r <- Builtin.SmallTypes.newRecord (.type "enumerate") (Builtin.SmallTypes.ownedTupleFields++[.ref it,rawInt 0,.none,.none]);ret r)
    (fun fin s'=>match fin with | .done f=>R (.ok f) s' | .again c'=>c'.quiet=true/\codeAny (model prog w) A c' R s') (fun e s'=>R (.error e) s') z1:=by
   intro it z1 h1;have:=hR it z1 h1;obtain⟨hp1,gg1,dd1,tk1,os1⟩:=z1
   wp_walk
   exact this
  cases b
  ·wp_walk using lP iter
   rintro _ z1 ⟨it,rfl,h1⟩;exact done it z1 h1
  ·wp_walk using lP iter
   rintro _ z1 ⟨it,rfl,h1⟩;exact done it z1 h1
 refine callType_newIn F.called_enumerate (by decide) (F.typeCall_enumerate_1 _) (F.newCall_enumerate_1 _) (fun obj=>F.args_object_init_2 obj _) F.entry_enumerate_new body ⟨rfl,fun it z1 h=>?_⟩;exact⟨⟨_,Heap.get?_push_size _ rfl,rfl⟩,k it z1 h⟩
def mZ:iC prog w where
 draws:=fun hh ti tp hne its=>{
  live:=fun i h st=>let ⟨o,e,_⟩:=st.1;⟨o,e⟩
  frame:=fun i h h' st kp=>by
   obtain⟨⟨o1,e1,r1⟩,⟨o2,e2,r2⟩⟩:=st;exact⟨⟨o1,kp ti (by simp) _ e1,r1⟩,⟨o2,kp tp (by simp) _ e2,r2⟩⟩
  item:=fun i s Q E hi st k=>by
   refine mG st.1 st.2 (x:=its[i]) (by simp[hi]) fun g h1 h2=>k its[i] g s.toks (by simp[hi]) ⟨h1,st.2.extBut h2.extBut hne⟩ h2
  done:=fun s Q E st k=>oC (.inl hh) (by rw[hh];exact fun z=>nomatch z) st.1 st.2 (by simp) fun g e h1 h2=>k g e h1 h2 }
 call:=fun {A E z tp its Q} ht k=>by
  refine vm (S:=fun it z1=>it=z.heap.objs.size/\z1={ z with heap:=z.heap.push { cls:=.type "tuple_iterator",data:=.fields #[.ref tp,rawInt 0] } }) (fun A=>wpAny_pyIter_tuple ht ⟨_,rfl,rfl,rfl⟩) ?_;rintro it z1 ⟨rfl,rfl⟩;have hz:(z.heap.push { cls:=.type "tuple_iterator",data:=.fields #[.ref tp,rawInt 0] }).objs.size=z.heap.objs.size+1:=Heap.size_push ..;dsimp only;rw[hz];refine k _ ?_ ⟨_,Heap.get?_push_of_some _ (Heap.get?_push_size _ rfl),rfl,rfl⟩ fun b o e=>Heap.get?_push_of_some _ (Heap.get?_push_of_some _ e);have:=Heap.get?_push_size (z.heap.push { cls:=.type "tuple_iterator",data:=.fields #[.ref tp,rawInt 0] }) (o:={ cls:=.type "enumerate",data:=.fields #[.none,.bool false,.ref z.heap.objs.size,rawInt 0,.none,.none] }) rfl;rw[hz]at this;exact this
end
end L2
namespace RS
open PySem PySem.Spec PyProof.Rows L2
section
variable{X:Cx}
def pD:∀ {bs:List Bool} {us:List Value},Vals (bs.map V.bl) us->us=bs.map Value.bool
 | [],_,h=>by cases h;rfl
 | b::bs,_,h=>by
  cases h with
  |cons r t=>
   cases r;rw[pD t];rfl
def vG{A:Around}{bs:List Bool}:TruthOf X.prog X.w A (fun i v=>(bs.map Value.bool).toArray[i]?=some v) (fun i=>bs.getD i false):=by
 intro i v s Q E hP q
 have hP':(bs.map Value.bool)[i]?=some v:=by simpa using hP
 rw[List.getElem?_map]at hP';obtain⟨b,h1,h2⟩:=map_some hP';subst h2
 have:bs.getD i false=b:=by rw[List.getD_eq_getElem?_getD,h1];rfl
 have q':Q b s:=this▸q;exact wpAny_truthy_bool q'
def range_all(bs:List Bool):(List.range bs.length).all (fun i=>bs.getD i false)=bs.all id:=by
 have:bs=(List.range bs.length).map fun i=>bs.getD i false:=by
  apply List.ext_getElem
  ·simp
  ·intro i h1 h2;simp[List.getD_eq_getElem?_getD,h1]
 conv=>rhs;rw[this]
 rw[List.all_map];rfl
abbrev BU(f:List Bool->Bool):List V->Hp->VK->Prop:=fun xs H Q=>∃ p bs,xs=[.ref p]/\H p=some (.lst (bs.map V.bl))/\Q (.bl (f bs)) H
def vi(hc:X.calm=true):bx X (.builtin "all") (BU fun bs=>bs.all id):=by
 intro pins s σ H xs us Q I r h;obtain⟨p,bs,rfl,hp,q⟩:=h
 cases r with
 |cons r rr=>
  cases rr;cases r;obtain⟨its,rv,hl,hz⟩:=I.list (SqL.of hp);have hits:=pD rv;subst hits
  have hlt:p<s.heap.objs.size:=by obtain⟨o,ho,_⟩:=hl.isList;exact Heap.lt_size ho
  refine call_all_walk (wpAny_pyIter_list hl.isList ?_);refine⟨s.heap.objs.size,_,[s.heap.objs.size],_,_,_,_,rfl,Walks.list (A:=X.A.in1) (I.ok.hd.1 hc) s.heap.objs.size p (Nat.ne_of_lt hlt) (bs.map Value.bool).toArray,⟨⟨_,Heap.get?_push_size _ rfl,rfl,rfl⟩,hl.isList.push _⟩,vG,fun h' tk hk=>?_⟩;refine⟨.bl (bs.all id),H,I.kept (t':=tk) (fun b o e=>hk b o (fun z=>?_) (Heap.get?_push_of_some _ e)),?_,q⟩
  ·rw[List.mem_singleton.mp z]at e;exact absurd (Heap.lt_size e) (Nat.lt_irrefl _)
  ·have:=range_all bs;show Value.bool _=Value.bool _;rw[<-this];simp
def mj{P:Addr->Prop}{K:PySem.W.Frag}:∀ {ds:List RL.D} {bs:List Bool} {xs:List V},RL.fW ds=some bs->ag P K H ds xs->xs=bs.map V.bl
 | [],bs,xs,h,r=>by rw[RL.fW]at h;cases h;rw[ag]at r;exact r
 | d::ds,bs,xs,h,r=>by
  cases d<;>simp only[RL.fW]at h<;>first | (cases h;done) | skip
  rename_i b;obtain⟨bs',h1,h2⟩:=map_some h;subst h2;rw[ag]at r;obtain⟨x,t,rfl,r1,r2⟩:=r;rw[aW r1,mj h1 r2];rfl
def yZ(hc:X.calm=true)(hg:Gl X "all")(hm:X.mg "all" = none)(ha:SE X cl a a')(hn:noStar a=true):SE X cl (.Call (.Name "all" p) [a] [] pos) (.bi .all a'):=by
 refine kY (vi hc) hg hm (by decide +kernel) ha hn (by decide) (by decide) fun σD σ H H1 y d v Q e s1 r1 k=>?_
 cases y<;>first | (cases e;done) | skip
 case lst ds =>
  obtain⟨bs,e1,e2⟩:=map_some e;subst e2;obtain⟨q,xs,rfl,_,f2,f3⟩:=aM r1;rw[mj e1 f3]at f2;exact⟨q,bs,rfl,f2,k _ _ (cu s1 me rfl)⟩
def yG(hg:Gl X "enumerate")(hm:X.mg "enumerate" = none)(ha:SE X cl a a')(hn:noStar a=true):SI X cl (.Tuple elts kx tp) (.Call (.Name "enumerate" p) [a] [] pos) (.enm a'):=A3 mZ hg hm ha hn
def Bz(hl:PE X l (vR X.K "list" u9 (cA i)))(he:SE X cl e e')(ha:SSs X cl M A A')(hb:SSs X cl M B B')(hi:M.contains i=true):SS X cl M (.If (.Compare l [.NotEq] [e] pos) A B pos2) (.ifp i e' A' B'):=by
 refine PS.weak (j3 (gm Cp hl he (tL _ (by decide) (by decide))) ha hb) fun D σ H h=>?_;obtain⟨σD,o,σD',rv,ev,k⟩:=h;obtain⟨l,e3,ev⟩:=bind_some ev
 cases l with
 |lst ds=>
  obtain⟨d,e4,ev⟩:=bind_some ev;obtain⟨y,e5,ev⟩:=bind_some ev;obtain⟨v,h1,h2⟩:=rv.val i _ (slot_get e3);rw[if_pos hi]at h2;obtain⟨q1,q2,q3⟩:=h2;obtain⟨a,xs,rfl,_,f2,f3⟩:=aM q3;obtain⟨u,f4,f5⟩:=f3.get e4;have im:=km q2;obtain⟨g1,g2⟩:=rv.gi (d':=.lst ds.dropLast) (o':=.lst xs.dropLast) hi h1 f2 (.inl ⟨_,rfl⟩) (jP (ds:=ds) f2 im f3.dropLast)
  cases d with
  |int m=>
   cases y with
   |int n=>
    refine⟨.ref a,h1,.inl ⟨rfl,xs,SqL.of f2⟩,a,xs,u,rfl,rfl,f2,by rw[<-f3.length];exact f4,?_⟩;refine⟨_,_,g1.rv0,e5,fun w H1 r1=>?_⟩;rw[ai f5,ai r1.rep];have k1:=k.from (g2.trans (Fr'.same (σ:=σ) r1.same));refine⟨rfl,_,rfl,?_⟩;dsimp only at ev;by_cases hmn:m=n
    ·rw[if_pos (by simpa using hmn)]at ev
     have hd:(!decide (V.int m=V.int n))=false:=by rw[hmn];simp
     rw[hd];exact dR ⟨_,o,σD',g1.same r1.same,ev,k1⟩
    ·rw[if_neg (by simpa using hmn)]at ev
     have hd:(!decide (V.int m=V.int n))=true:=by
      have:V.int m≠V.int n:=fun z=>hmn (by injection z);simp[this]
     rw[hd];exact dF ⟨_,o,σD',g1.same r1.same,ev,k1⟩
   | _=>cases ev
  | _=>cases ev
 | _=>cases ev
end
end RS
namespace L2
open PySem PySem.Spec PyProof.Rows
section
variable{prog:Program}{w:World}{A:Around}{E:Value->Shared->Prop}
def yw{x y:Value}{S1:Addr->Shared->Prop}{S2:Addr->Addr->Shared->Prop}{z:Shared}{Q:Value->Shared->Prop}(hx:∀ A:Around,wpAny (model prog w) A (pyIter x) (fun v z1=>∃ it,v=.ref it/\S1 it z1) (fun _ _=>False) z)
 (hy:∀ it z1,S1 it z1->∀ A:Around,wpAny (model prog w) A (pyIter y) (fun v z2=>∃ jt,v=.ref jt/\S2 it jt z2) (fun _ _=>False) z1)
 (k:∀ it jt z2,S2 it jt z2->Q (.ref (((z2.heap.push { cls:=.type "tuple",data:=.seq #[.ref it,.ref jt] }).push { cls:=.type "tuple",data:=.seq #[.none,.none] })).objs.size)
   { z2 with heap:=((z2.heap.push { cls:=.type "tuple",data:=.seq #[.ref it,.ref jt] }).push { cls:=.type "tuple",data:=.seq #[.none,.none] }).push { cls:=.type "zip",data:=.fields #[.none,.bool false,.bool false,.ref z2.heap.objs.size,.ref (z2.heap.push { cls:=.type "tuple",data:=.seq #[.ref it,.ref jt] }).objs.size] } }) :
  wpAny (model prog w) A (call (.type "zip") [x,y]) Q E z:=by
 have body:MeetsIn prog w (Builtin.«zip.__new__» ⟨[.type "zip",x,y],[]⟩) (fun A R s=>s=z/\∀ it jt z2,S2 it jt z2->R (.ok (.ret (.ref (((z2.heap.push { cls:=.type "tuple",data:=.seq #[.ref it,.ref jt] }).push { cls:=.type "tuple",data:=.seq #[.none,.none] })).objs.size)))
   { z2 with heap:=((z2.heap.push { cls:=.type "tuple",data:=.seq #[.ref it,.ref jt] }).push { cls:=.type "tuple",data:=.seq #[.none,.none] }).push { cls:=.type "zip",data:=.fields #[.none,.bool false,.bool false,.ref z2.heap.objs.size,.ref (z2.heap.push { cls:=.type "tuple",data:=.seq #[.ref it,.ref jt] }).objs.size] } }):=by
  rintro A R s ⟨rfl,hR⟩;have hsub:=sub_zip;have iter:=hx A.in1;obtain⟨hp,g,d,tk,os⟩:=s
  wp_walk using lP iter
  rintro _ z1 ⟨it,rfl,h1⟩;have iter2:=hy it z1 h1 A.in1;obtain⟨hp1,gg1,dd1,tk1,os1⟩:=z1
  wp_walk using lP iter2
  rintro _ z2 ⟨jt,rfl,h2⟩;have fin:=hR it jt z2 h2;obtain⟨hp2,gg2,dd2,tk2,os2⟩:=z2
  wp_walk
  exact fin
 refine callType_newIn F.called_zip (by decide) (F.typeCall_zip_2 _ _) (F.newCall_zip_2 _ _) (fun obj=>F.args_object_init_3 obj _ _) F.entry_zip_new body ⟨rfl,fun it jt z2 h=>?_⟩;exact⟨⟨_,Heap.get?_push_size _ rfl,rfl⟩,k it jt z2 h⟩
structure gf(z TI TO i1 i2:Addr)(fp1 fp2:List Addr):Prop where
 zTI:TI≠z
 zTO:TO≠z
 TT:TI≠TO
 i1z:i1≠z
 i2z:i2≠z
 D3:i1≠TO
 DW:i2≠TO
 i12:i1≠i2
 z1:z∉fp1
 z2:z∉fp2
 TO1:TO∉fp1
 TO2:TO∉fp2
 i1f:i1∉fp2
 i2f:i2∉fp1
def vV{z TI TO i1 i2:Addr}{fp1 fp2:List Addr}{n1 n2 k:Nat}{P1 P2:Nat->Value->Prop}{S1 S2:Nat->Heap->Prop}{a b:Value}{s:Shared}{Q:Value->Shared->Prop}(Z:gf z TI TO i1 i2 fp1 fp2)
 (D1:Draws prog w A i1 fp1 n1 P1 S1)(D2:Draws prog w A i2 fp2 n2 P2 S2)(hz:IsZip s.heap z TI TO .none)(hTI:IsPair s.heap TI (.ref i1) (.ref i2))(hTO:IsPair s.heap TO a b)(s1:S1 k s.heap)(s2:S2 k s.heap)(k1:k<n1)(k2:k<n2)
 (hQ:∀ x y g tk,P1 k x->P2 k y->IsZip g z TI TO (rawInt s.heap.objs.size)->IsPair g TO x y->S1 (k+1) g->S2 (k+1) g->IsPair g s.heap.objs.size x y->g.objs.size=s.heap.objs.size+1->(∀ c o,c≠z->c≠TO->c≠i1->c≠i2->s.heap.get? c=some o->g.get? c=some o)->Q (.ref s.heap.objs.size) { s with heap:=g,toks:=tk }) :
  wpAny (model prog w) A (Builtin.«zip.__next__» ⟨[.ref z],[]⟩) (fun fin s'=>∃ v,fin=.done (.ret v)/\Q v s') E s:=by
 obtain⟨hp,g,d,tk,os⟩:=s;have off:∀ (f:Obj->Obj) b o,b≠z->hp.get? b=some o->(hp.update z f).get? b=some o:=fun f b o hb e=>(Heap.SameBut.update ..).extBut b o hb e;have st1:∀ f:Obj->Obj,S1 k (hp.update z f):=fun f=>D1.frame k _ _ s1 fun b hb o e=>off f b o (fun q=>Z.z1 (q▸hb)) e;have st2:∀ f:Obj->Obj,S2 k (hp.update z f):=fun f=>D2.frame k _ _ s2 fun b hb o e=>off f b o (fun q=>Z.z2 (q▸hb)) e;unfold Builtin.«zip.__next__»
 wp_walk using AutoSeq1.wpAny_loadPart' hz,AutoSeq1.wpAny_loadPart' hTI,wpAny_onRaise,(D1.item k _ _ _ k1 (st1 _))
 intro x h1 t1 px st1' sb1;have q1:IsPair h1 TO a b:=sb1.extBut _ _ (Ne.symm Z.D3) (off _ TO _ Z.zTO hTO);have z1:IsZip h1 z TI TO .ellipsis:=sb1.extBut _ _ (Ne.symm Z.i1z) (Heap.get?_update_self _ hz rfl);have u1:=sb1.1;have c1:∀ c o,c≠z->c≠i1->hp.get? c=some o->h1.get? c=some o:=fun c o n1 n2 e=>sb1.extBut _ _ n2 (off _ c o n1 e);clear sb1 st1 st2
 wp_walk using AutoSeq1.wpAny_loadPart' q1,(wpAny_updateSeq_pair q1)
 intro h2 q2 sb2
 replace q2:IsPair h2 TO x b:=q2
 have z2:IsZip h2 z TI TO .ellipsis:=sb2.extBut _ _ (Ne.symm Z.zTO) z1;have c2:∀ c o,c≠z->c≠TO->c≠i1->hp.get? c=some o->h2.get? c=some o:=fun c o n1 n2 n3 e=>sb2.extBut _ _ n2 (c1 c o n1 n3 e);have e1:S1 (k+1) h2:=D1.frame _ _ _ st1' fun b hb o e=>sb2.extBut _ _ (fun q=>Z.TO1 (q▸hb)) e;have e2:S2 k h2:=D2.frame _ _ _ s2 fun b hb o e=>c2 b o (fun q=>Z.z2 (q▸hb)) (fun q=>Z.TO2 (q▸hb)) (fun q=>Z.i1f (q▸hb)) e;have u2:=sb2.1.trans u1;clear sb2 u1 c1 z1 q1
 wp_walk using wpAny_onRaise,(D2.item k _ _ _ k2 e2)
 intro y h3 t3 py f2 sb3;have q3:IsPair h3 TO x b:=sb3.extBut _ _ (Ne.symm Z.DW) q2;have z3:IsZip h3 z TI TO .ellipsis:=sb3.extBut _ _ (Ne.symm Z.i2z) z2;have f1:S1 (k+1) h3:=D1.frame _ _ _ e1 fun b hb o e=>sb3.extBut _ _ (fun q=>Z.i2f (q▸hb)) e;have c3:∀ c o,c≠z->c≠TO->c≠i1->c≠i2->hp.get? c=some o->h3.get? c=some o:=fun c o n1 n2 n3 n4 e=>sb3.extBut _ _ n4 (c2 c o n1 n2 n3 e);have u3:=sb3.1.trans u2;clear sb3 u2 c2 z2 q2 e1 e2
 wp_walk using AutoSeq1.wpAny_loadPart' q3,(wpAny_updateSeq_pair q3)
 intro h4 q4 sb4
 replace q4:IsPair h4 TO x y:=q4
 have z4:IsZip h4 z TI TO .ellipsis:=sb4.extBut _ _ (Ne.symm Z.zTO) z3;have g1:S1 (k+1) h4:=D1.frame _ _ _ f1 fun b hb o e=>sb4.extBut _ _ (fun q=>Z.TO1 (q▸hb)) e;have g2:S2 (k+1) h4:=D2.frame _ _ _ f2 fun b hb o e=>sb4.extBut _ _ (fun q=>Z.TO2 (q▸hb)) e;have c4:∀ c o,c≠z->c≠TO->c≠i1->c≠i2->hp.get? c=some o->h4.get? c=some o:=fun c o n1 n2 n3 n4 e=>sb4.extBut _ _ n2 (c3 c o n1 n2 n3 n4 e);have u4:=sb4.1.trans u3;clear sb4 u3 c3 z3 q3 f1 f2
 wp_walk using AutoSeq1.wpAny_loadPart' q4
 have u0:h4.objs.size=hp.objs.size:=u4.trans (Heap.SameBut.update ..).1;refine⟨_,rfl,?_⟩;show Q (.ref h4.objs.size) _;have zp:IsZip (h4.push { cls:=.type "tuple",data:=.seq #[x,y].toList.toArray }) z TI TO .ellipsis:=Heap.get?_push_of_some _ z4;have zlt:z<h4.objs.size:=Heap.lt_size z4
 have up:∀ (f f':Obj->Obj) c o,c≠z->(h4.push { cls:=.type "tuple",data:=.seq #[x,y].toList.toArray }).get? c=some o->(((h4.push { cls:=.type "tuple",data:=.seq #[x,y].toList.toArray }).update z f).update z f').get? c=some o:=fun f f' c o hc e =>
  (Heap.SameBut.update ..).extBut c o hc ((Heap.SameBut.update ..).extBut c o hc e)
 have goal:=hQ x y (((h4.push { cls:=.type "tuple",data:=.seq #[x,y].toList.toArray }).update z (Obj.mapFields (·.setIfInBounds 0 (rawInt h4.objs.size)))).update z (Obj.mapFields (·.setIfInBounds 1 (.bool false)))) t3 px py ?_ ?_ ?_ ?_ ?_ ?_ ?_
 ·rw[u0]at goal ⊢;exact goal
 ·rw[<-u0];exact Heap.get?_update_self _ (Heap.get?_update_self _ zp rfl) rfl
 ·exact up _ _ _ _ Z.zTO (Heap.get?_push_of_some _ q4)
 ·exact D1.frame _ _ _ g1 fun b hb o e=>up _ _ _ _ (fun q=>Z.z1 (q▸hb)) (Heap.get?_push_of_some _ e)
 ·exact D2.frame _ _ _ g2 fun b hb o e=>up _ _ _ _ (fun q=>Z.z2 (q▸hb)) (Heap.get?_push_of_some _ e)
 ·show IsPair _ hp.objs.size x y;rw[<-u0];exact up _ _ _ _ (Nat.ne_of_gt zlt) (Heap.get?_push_size _ rfl)
 ·refine((Heap.SameBut.update ..).1.trans ((Heap.SameBut.update ..).1.trans ((Heap.size_push ..).trans ?_)));show h4.objs.size+1=hp.objs.size+1;rw[u0]
 ·exact fun c o n1 n2 n3 n4 e=>up _ _ _ _ n1 (Heap.get?_push_of_some _ (c4 c o n1 n2 n3 n4 e))
def xB{z TI TO i1 i2:Addr}{fp1 fp2:List Addr}{n1:Nat}{P1:Nat->Value->Prop}{S1:Nat->Heap->Prop}{a b:Value}{s:Shared}{Q:Fin->Shared->Prop}(Z:gf z TI TO i1 i2 fp1 fp2)
 (D1:Draws prog w A i1 fp1 n1 P1 S1)(hz:IsZip s.heap z TI TO .none)(hTI:IsPair s.heap TI (.ref i1) (.ref i2))(hTO:IsPair s.heap TO a b)(s1:S1 n1 s.heap)
 (hE:∀ g e,(∀ c o,c≠z->c≠i1->s.heap.get? c=some o->g.get? c=some o)->(∃ o,g.get? e=some o/\o.cls=.type "StopIteration")->E (.ref e) { s with heap:=g }) :
  wpAny (model prog w) A (Builtin.«zip.__next__» ⟨[.ref z],[]⟩) Q E s:=by
 obtain⟨hp,g,d,tk,os⟩:=s;have off:∀ (f:Obj->Obj) b o,b≠z->hp.get? b=some o->(hp.update z f).get? b=some o:=fun f b o hb e=>(Heap.SameBut.update ..).extBut b o hb e;have st1:∀ f:Obj->Obj,S1 n1 (hp.update z f):=fun f=>D1.frame n1 _ _ s1 fun b hb o e=>off f b o (fun q=>Z.z1 (q▸hb)) e;unfold Builtin.«zip.__next__»
 wp_walk using AutoSeq1.wpAny_loadPart' hz,AutoSeq1.wpAny_loadPart' hTI,wpAny_onRaise,(D1.done _ _ _ (st1 _))
 rintro h1 e eb ⟨oe,he,hce⟩;have z1:IsZip h1 z TI TO .ellipsis:=eb _ _ (Ne.symm Z.i1z) (Heap.get?_update_self _ hz rfl)
 have ez:e≠z:=fun q=>by
  rw[q,z1]at he;have:=Option.some.inj he;rw[<-this]at hce;simp at hce
 refine wpAny_setField_rec z1 (by simp) fun h2 _ sb2=>?_;exact hE h2 e (fun c o n1 n2 q=>sb2.extBut _ _ n1 (eb _ _ n2 (off _ _ _ n1 q))) ⟨oe,sb2.extBut _ _ ez he,hce⟩
end
section
variable{prog:Program}{w:World}{A:Around}{E:Value->Shared->Prop}{z TI TO i1 i2:Addr}{fp1 fp2:List Addr}{n1 n2 k:Nat}{P1 P2:Nat->Value->Prop}{S1 S2:Nat->Heap->Prop}{a b:Value}{s:Shared}
def uN{Q:Option Value->Shared->Prop}(Z:gf z TI TO i1 i2 fp1 fp2)(D1:Draws prog w A.in1 i1 fp1 n1 P1 S1)(D2:Draws prog w A.in1 i2 fp2 n2 P2 S2)(hz:IsZip s.heap z TI TO .none)(hTI:IsPair s.heap TI (.ref i1) (.ref i2))(hTO:IsPair s.heap TO a b)(s1:S1 k s.heap)(s2:S2 k s.heap)(k1:k<n1)(k2:k<n2)
 (hQ:∀ x y g tk,P1 k x->P2 k y->IsZip g z TI TO (rawInt s.heap.objs.size)->IsPair g TO x y->S1 (k+1) g->S2 (k+1) g->IsPair g s.heap.objs.size x y->g.objs.size=s.heap.objs.size+1->(∀ c o,c≠z->c≠TO->c≠i1->c≠i2->s.heap.get? c=some o->g.get? c=some o)->Q (some (.ref s.heap.objs.size)) { s with heap:=g,toks:=tk }) :
  wpAny (model prog w) A (pyNext (.ref z)) Q E s:=by
 have hT:s.TypeIs (.ref z) "zip" := ⟨_,hz,rfl⟩
 unfold pyNext;apply wpAny_bind;apply wpAny_attempt;apply wpAny_callSpecial?_slot (name:=Str.ofString "__next__") hT F.slot_zip_next;refine wpAny_call_entry F.slot_zip_next hT F.entry_zip_next ?_ (F.args_zip_next_1 _);refine vV Z D1 D2 hz hTI hTO s1 s2 k1 k2 fun x y g tk px py q1 q2 q3 q4 q5 q6 q7=>?_;apply wpAny_pure;exact hQ x y g tk px py q1 q2 q3 q4 q5 q6 q7
def uV{Q:Option Value->Shared->Prop}(Z:gf z TI TO i1 i2 fp1 fp2)(D1:Draws prog w A.in1 i1 fp1 n1 P1 S1)(hz:IsZip s.heap z TI TO .none)(hTI:IsPair s.heap TI (.ref i1) (.ref i2))(hTO:IsPair s.heap TO a b)(s1:S1 n1 s.heap)
 (hQ:∀ g,(∀ c o,c≠z->c≠i1->s.heap.get? c=some o->g.get? c=some o)->Q none { s with heap:=g }):wpAny (model prog w) A (pyNext (.ref z)) Q E s:=by
 have hT:s.TypeIs (.ref z) "zip" := ⟨_,hz,rfl⟩
 unfold pyNext;apply wpAny_bind;apply wpAny_attempt;apply wpAny_callSpecial?_slot (name:=Str.ofString "__next__") hT F.slot_zip_next;refine wpAny_call_entry F.slot_zip_next hT F.entry_zip_next ?_ (F.args_zip_next_1 _);refine xB Z D1 hz hTI hTO s1 fun g e hk ⟨o,he,hc⟩=>?_;apply wpAny_bind;refine wpAny_isInstance (T := "StopIteration") (b:=true) ⟨_,he,hc⟩ isSubtype_stop ?_;apply wpAny_pure;exact hQ g hk
end
section
variable{s:Shared}
def df.t6(hd:df A s.heap):A.handled≠some (.ref s.heap.objs.size):=fun q=>by
 rcases hd with z | ⟨x,o,ws,h1,h2,_,_⟩
 ·rw[z]at q;cases q
 ·rw[h1]at q;cases q;exact Nat.lt_irrefl _ (Heap.lt_size h2)
def pY(hd:df A s.heap)(ni:A.handled≠some (.ref it))(hit:IsTupIter s.heap it t i)(ht:IsTup s.heap t its)(hx:its[i]?=none)
 (k:∀ h',Heap.ExtBut it s.heap h'->Q none { s with heap:=h' }):wpAny (model prog w) A (pyNext (.ref it)) Q E s:=by
 obtain⟨o,ho,hc,hdt⟩:=id hit;obtain⟨ol,hol,_,nl,hdl⟩:=ht;unfold pyNext;apply wpAny_bind;apply wpAny_attempt;apply wpAny_callSpecial?_slot (name:=Str.ofString "__next__") hit.typeIs slot_tupleiter_next;refine wpAny_call_entry slot_tupleiter_next hit.typeIs entry_tupleiter_next ?_ (args_tupleiter_next _);have n0:¬ ((Value.ref t == Value.none)=true):=Bool.false_ne_true;refine show wpAny _ _ (field (.ref it) 0 >>= _) _ _ s from wpAny_bind (wpAny_field ho hdt (x:=.ref t) rfl ?_);refine show wpAny _ _ (if(Value.ref t == Value.none)=true then _ else _) _ _ s from ?_;rw[if_neg n0];refine show wpAny _ _ (field (.ref it) 1 >>= _) _ _ s from wpAny_bind (wpAny_field ho hdt (x:=.int i 0) rfl ?_);refine show wpAny _ _ (seqItems? (.ref t) >>= _) _ _ s from wpAny_bind (wpAny_seqItems hol hdl ?_);simp only[Int.toNat_natCast,hx];refine wpAny_bind (wpAny_rule (wpAny_bind (wpAny_setField ho hdt (by simp) ?_)));refine show wpAny _ _ (newExc (.type "StopIteration") [] >>= _) _ _ _ from wpAny_bind ?_;have sb:=Heap.SameBut.update s.heap it (Obj.mapFields (·.setIfInBounds 0 Value.none));refine kn (hd.keeps fun b u vs e _ hb=>(sb.2 b fun z=>ni (z▸hb)).trans e) fun h' e kk he=>?_;apply wpAny_bind;refine wpAny_isInstance (T := "StopIteration") (b:=true) he isSubtype_stop ?_;exact wpAny_pure (k h' fun b u hb q=>kk b u ((sb.2 b hb).trans q))
def take_all{its:Array Value}:List.take its.size (List.drop 0 its.toList)=its.toList:=by
 rw[List.drop_zero,List.take_of_length_le (by simp)]
def qr{t:Addr}(hd:df A s.heap)(ht:IsTup s.heap t its)(k:∀ h',Heap.ExtBut s.heap.objs.size s.heap h'->Q its.toList { s with heap:=h' }):wpAny (model prog w) A (unpackItems (.ref t) its.size none) Q E s:=by
 have hlt:t≠s.heap.objs.size:=Nat.ne_of_lt ht.lt;have nn:=hd.t6;unfold unpackItems;apply wpAny_bind;unfold notIterableAtAll;apply wpAny_bind;refine wpAny_specialOf ht.typeIs slot_tuple_iter.lookup (wpAny_pure ?_);simp only[Bool.false_eq_true,if_false];apply wpAny_bind;refine wpAny_holding (iter_tuple ht ?_);apply wpAny_bind;refine wpAny_holding (draw_tuple hlt its.size 0 _ _ ⟨_,Heap.get?_push_size _ rfl,rfl,rfl⟩ (ht.push _) (by omega) fun g hit sb=>?_);rw[take_all,if_neg (by simp)];apply wpAny_bind;refine wpAny_holding (pY (hd.keeps fun b o vs e _ hb=>(sb.2 b fun z=>nn (z▸hb)).trans (Heap.get?_push_of_some _ e)) nn hit ((ht.push _).extBut sb.extBut hlt) (by simp) fun g2 eb=>?_);simp only[Option.isSome_none,Bool.false_eq_true,if_false];exact wpAny_pure (k g2 fun b o hb e=>eb b o hb (sb.extBut b o hb (Heap.get?_push_of_some _ e)))
def pQ{l:Addr}(hd:df A s.heap)(hl:s.heap.IsList l its)(k:∀ h',Heap.ExtBut s.heap.objs.size s.heap h'->Q its.toList { s with heap:=h' }):wpAny (model prog w) A (unpackItems (.ref l) its.size none) Q E s:=by
 have hlt:l≠s.heap.objs.size:=let ⟨o,ho,_⟩:=hl;Nat.ne_of_lt (Heap.lt_size ho);have nn:=hd.t6;unfold unpackItems;apply wpAny_bind;unfold notIterableAtAll;apply wpAny_bind;refine wpAny_specialOf hl.typeIs slot_list_iter.lookup (wpAny_pure ?_);simp only[Bool.false_eq_true,if_false];apply wpAny_bind;refine wpAny_holding (wpAny_pyIter_list hl ?_);apply wpAny_bind;refine wpAny_holding (PySem.W.kun_draw hlt its.size 0 _ _ ⟨_,Heap.get?_push_size _ rfl,rfl,rfl⟩ (hl.push _) (by omega) fun g hit sb=>?_);rw[take_all,if_neg (by simp)];apply wpAny_bind;refine wpAny_holding (ot (hd.keeps fun b o vs e _ hb=>(sb.2 b fun z=>nn (z▸hb)).trans (Heap.get?_push_of_some _ e)) nn hit ((hl.push _).extBut sb.extBut hlt) (by simp) fun g2 eb=>?_);simp only[Option.isSome_none,Bool.false_eq_true,if_false];exact wpAny_pure (k g2 fun b o hb e=>eb b o hb (sb.extBut b o hb (Heap.get?_push_of_some _ e)))
def uv(hh:A.handled=some (.ref x))(hd:ox.data=.fields xs)(h2:xs[2]?=some .none)(nx:x≠it)(hne:l≠it)(its:Array Value) :
  Draws prog w A it [it,l,x] its.size (fun i v=>its[i]?=some v) (fun i h=>(h.IsListIter it l i/\h.IsList l its)/\h.get? x=some ox) where
 live:=fun _ _ st=>let ⟨o,ho,_⟩:=st.1.1;⟨o,ho⟩
 frame:=fun _ _ _ st hk=>⟨⟨st.1.1.at fun o e=>hk it (by simp) o e,st.1.2.at fun o e=>hk l (by simp) o e⟩,hk x (by simp) _ st.2⟩
 item:=fun i s Q E hi st hQ=>wpAny_nextOf_list_item st.1.1 st.1.2 (x:=its[i]) (by simp[hi]) fun h' hit' hs'=>hQ _ h' s.toks (by simp[hi]) ⟨⟨hit',st.1.2.extBut hs'.extBut hne⟩,(hs'.2 x nx).trans st.2⟩ hs'
 done:=fun s Q E st hE=>lA (.inr ⟨x,ox,xs,hh,st.2,hd,h2⟩) (fun q=>by rw[hh]at q;cases q;exact nx rfl) st.1.1 st.1.2 (by simp) hE
def rX(hh:A.handled=some (.ref x))(hd:ox.data=.fields xs)(h2:xs[2]?=some .none)(nx:x≠it)(hne:l≠it)(its:Array Value) :
  Draws prog w A it [it,l,x] its.size (fun i v=>its[i]?=some v) (fun i h=>(h.IsTupleIter it l i/\h.IsTuple l its)/\h.get? x=some ox) where
 live:=fun _ _ st=>let ⟨o,ho,_⟩:=st.1.1;⟨o,ho⟩
 frame:=fun _ _ _ st hk=>by
  obtain⟨⟨⟨o1,e1,r1⟩,⟨o2,e2,r2⟩⟩,e3⟩:=st;exact⟨⟨⟨o1,hk it (by simp) _ e1,r1⟩,⟨o2,hk l (by simp) _ e2,r2⟩⟩,hk x (by simp) _ e3⟩
 item:=fun i s Q E hi st k=>mG st.1.1 st.1.2 (x:=its[i]) (by simp[hi]) fun g g1 g2=>k its[i] g s.toks (by simp[hi]) ⟨⟨g1,st.1.2.extBut g2.extBut hne⟩,(g2.2 x nx).trans st.2⟩ g2
 done:=fun s Q E st hE=>oC (.inr ⟨x,ox,xs,hh,st.2,hd,h2⟩) (fun q=>by rw[hh]at q;cases q;exact nx rfl) st.1.1 st.1.2 (by simp) hE
end
section
def Inv.hd(I:Inv X pins σ H s):df X.A s.heap:=by
 rcases I.ok.hd.2 with z | ⟨h,o,u,vs,h1,h2,h3,h4⟩
 ·exact .inl z
 ·exact .inr ⟨h,o,vs,h1,(I.hok _ _ (I.base.c9 _ _ _ h2)).1,h3,h4⟩
end
inductive SK where
 | t
 | l
 | f (o:Obj)
abbrev SK.tp:SK->Bool
 | .t=>true
 | _=>false
abbrev cL:SK->List V->HO
 | .t,xs=>.tup xs
 | .l,xs=>.lst xs
 | .f o,xs=>.frz o (.lst xs)
def oN{K:PySem.W.Frag}{k:SK}{H:Hp}(h:k.tp=false)(hx:H l=some (cL k xs)):SqL K H l xs:=by
 cases k with
 | t=>cases h
 | l=>exact SqL.of hx
 | f o=>exact .inl (.inr ⟨o,hx⟩)
def oI{k:SK}{H:Hp}(h:k.tp=true)(hx:H l=some (cL k xs)):H l=some (.tup xs):=by
 cases k with
 | t=>exact hx
 | l=>cases h
 | f o=>cases h
abbrev fP(t:Bool)(it l:Addr)(i:Nat)(h:Heap):Prop:=if t then h.IsTupleIter it l i else h.IsListIter it l i
def fP.obj(st:fP t it l i h):∃ o,h.get? it=some o/\∀ v,o.data≠.cell v:=by
 cases t with
 | true=>exact let ⟨o,ho,_,hd⟩:=(show h.IsTupleIter it l i from st);⟨o,ho,fun v q=>by rw[hd]at q;cases q⟩
 | false=>exact let ⟨o,ho,_,hd⟩:=(show h.IsListIter it l i from st);⟨o,ho,fun v q=>by rw[hd]at q;cases q⟩
def fP.keep(st:fP t it l i h)(k:∀ o,h.get? it=some o->h'.get? it=some o):fP t it l i h':=by
 cases t with
 | true=>exact let ⟨o,ho,r⟩:=(show h.IsTupleIter it l i from st);⟨o,k o ho,r⟩
 | false=>exact(show h.IsListIter it l i from st).at fun o q=>k o q
def fK{k:SK}(I:Inv X pins σ H s)(hi:H it=none)(hx0:H l=some (cL k xs))(ht:k.tp=t) :
  ∃ (fp:List Addr) (Pv:Nat->Value->Prop) (St:Nat->Heap->Prop),Draws X.prog X.w X.A.in1 it fp xs.length Pv St/\(∀ b∈fp,b=it\/H b≠none)/\(∀ i,fP t it l i s.heap->St i s.heap)/\(∀ i h,St i h->fP t it l i h)/\∀ i v,Pv i v->∃ x,xs[i]?=some x/\RelV x v:=by
 have back:∀ {its:List Value},Vals xs its->∀ (i:Nat) (v:Value),its.toArray[i]?=some v->∃ x,xs[i]?=some x/\RelV x v:=fun {its} rv i v hv=>by
  have hv:its[i]?=some v:=by simpa using hv
  have hlt:i<xs.length:=by rw[rv.length];exact(List.getElem?_eq_some_iff.mp hv).1
  obtain⟨u,h1,h2⟩:=rv.get (i:=i) (x:=xs[i]) (by simp[hlt]);rw[hv]at h1;cases h1;exact⟨xs[i],by simp[hlt],h2⟩
 have two:∀ {u:HO},H l=some u->∀ b∈[it,l],b=it\/H b≠none:=fun {u} e b hb=>by
  rcases List.mem_cons.mp hb with z | z
  ·exact .inl z
  ·rw[List.mem_singleton.mp z,e]
   exact .inr fun z=>nomatch z
 rcases I.ok.hd.2 with hh | ⟨x,ox,ux,ws,hh,g1,g2,g3⟩
 ·cases t with
  |true=>
   have hx:H l=some (.tup xs):=oI ht hx0;obtain⟨its,rv,p,hz⟩:=I.tuple (SqT.of hx);have D:=mZ.draws (prog:=X.prog) (w:=X.w) (A:=X.A.in1) hh it l (aF hx hi) its.toArray;rw[show its.toArray.size=xs.length by rw[List.size_toArray,rv.length]]at D;exact⟨_,_,_,D,two hx,fun i st=>⟨st,p⟩,fun i h st=>st.1,back rv⟩
  |false=>
   have hx:=hx0;obtain⟨its,rv,p,hz⟩:=I.list (oN ht hx);have D:=Draws.list (prog:=X.prog) (w:=X.w) (A:=X.A.in1) hh it l (aF hx hi) its.toArray;rw[show its.toArray.size=xs.length by rw[List.size_toArray,rv.length]]at D;exact⟨_,_,_,D,two hx,fun i st=>⟨st,p.isList⟩,fun i h st=>st.1,back rv⟩
 ·have hxx:=I.base.c9 _ _ _ g1;have hxo:s.heap.get? x=some ox:=(I.hok _ _ hxx).1;have nx:x≠it:=aF hxx hi
  have three:∀ {u:HO},H l=some u->∀ b∈[it,l,x],b=it\/H b≠none:=fun {u} e b hb=>by
   simp only[List.mem_cons,List.mem_nil_iff,or_false]at hb;rcases hb with z | z | z
   ·exact .inl z
   ·rw[z,e]
    exact .inr fun z=>nomatch z
   ·rw[z,hxx]
    exact .inr fun z=>nomatch z
  cases t with
  |true=>
   have hx:H l=some (.tup xs):=oI ht hx0;obtain⟨its,rv,p,hz⟩:=I.tuple (SqT.of hx);have D:=rX (prog:=X.prog) (w:=X.w) (A:=X.A.in1) hh g2 g3 nx (aF hx hi) its.toArray;rw[show its.toArray.size=xs.length by rw[List.size_toArray,rv.length]]at D;exact⟨_,_,_,D,three hx,fun i st=>⟨⟨st,p⟩,hxo⟩,fun i h st=>st.1.1,back rv⟩
  |false=>
   have hx:=hx0;obtain⟨its,rv,p,hz⟩:=I.list (oN ht hx);have D:=uv (prog:=X.prog) (w:=X.w) (A:=X.A.in1) hh g2 g3 nx (aF hx hi) its.toArray;rw[show its.toArray.size=xs.length by rw[List.size_toArray,rv.length]]at D;exact⟨_,_,_,D,three hx,fun i st=>⟨⟨st,p.isList⟩,hxo⟩,fun i h st=>st.1.1,back rv⟩
abbrev Itz(t1 t2:SK)(l1 l2:Addr):It :=
 ⟨fun i H=>∃ xs ys x y,H l1=some (cL t1 xs)/\H l2=some (cL t2 ys)/\xs[i]?=some x/\ys[i]?=some y,
   fun i H v H'=>∃ p x y,H p=none/\v=.ref p/\H'=upd H p (.tup [x,y])/\(∀ xs,H l1=some (cL t1 xs)->xs[i]?=some x)/\∀ ys,H l2=some (cL t2 ys)->ys[i]?=some y,
   fun i H=>∃ xs ys,H l1=some (cL t1 xs)/\H l2=some (cL t2 ys)/\xs.length=i/\ys.length=i⟩
def nN(h:cL t xs=cL t ys):xs=ys:=by
 cases t with
 | t=>injection h
 | l=>injection h
 | f o=>injection h with _ h;injection h
def uI{P:Program}{w:World}{K:PySem.W.Frag}{elts:List Expr}{kx:Nat}{tp:Pos}{t1 t2:SK}{z TI TO i1 i2 l1 l2:Addr}(n1:TI≠z)(n2:TO≠z)(n3:TI≠TO)(n4:i1≠z)(n5:i2≠z)(n6:i1≠TO)(n7:i2≠TO)(n8:i1≠i2)(n9:i1≠TI)(n10:i2≠TI) :
  ju (fun _=>True) P w K (.Tuple elts kx tp) (Itz t1 t2 l1 l2) [z,TI,TO,i1,i2] z (fun i h=>IsZip h z TI TO .none/\IsPair h TI (.ref i1) (.ref i2)/\(∃ a b,IsPair h TO a b)/\fP t1.tp i1 l1 i h/\fP t2.tp i2 l2 i h) where
 mem:=by simp
 obj:=fun i h st b hb=>by
  obtain⟨h1,h2,⟨a,c,h3⟩,h4,h5⟩:=st;simp only[List.mem_cons,List.mem_nil_iff,or_false]at hb;rcases hb with rfl | rfl | rfl | rfl | rfl
  ·exact⟨_,h1,fun v q=>by cases q⟩
  ·exact⟨_,h2,fun v q=>by cases q⟩
  ·exact⟨_,h3,fun v q=>by cases q⟩
  ·exact h4.obj
  ·exact h5.obj
 keep:=fun i h h' st k=>by
  obtain⟨h1,h2,⟨a,c,h3⟩,h4,h5⟩:=st;exact⟨k z (by simp) _ h1,k TI (by simp) _ h2,⟨a,c,k TO (by simp) _ h3⟩,h4.keep fun o q=>k i1 (by simp) o q,h5.keep fun o q=>k i2 (by simp) o q⟩
 item:=by
  intro X hP hw hK hc i pins s σ H E I hf st hg;subst hP hw hK;obtain⟨h1,h2,⟨a,c,h3⟩,h4,h5⟩:=st;obtain⟨xs,ys,x,y,hx,hy,ex,ey⟩:=hg;have f:∀ b∈[z,TI,TO,i1,i2],H b=none:=fun b hb=>(hf b hb).1;obtain⟨fp1,Pv1,St1,D1,m1,a1,a2,a3⟩:=fK I (f i1 (by simp)) hx rfl;obtain⟨fp2,Pv2,St2,D2,m2,b1,b2,b3⟩:=fK I (f i2 (by simp)) hy rfl;have no:∀ {fp:List Addr} {i b:Addr},(∀ b∈fp,b=i\/H b≠none)->b∈[z,TI,TO,i1,i2]->b≠i->b∉fp:=fun m hb n z=>(m _ z).elim n fun q=>q (f _ hb)
  have Z:gf z TI TO i1 i2 fp1 fp2:=⟨n1,n2,n3,n4,n5,n6,n7,n8,no m1 (by simp) (Ne.symm n4),no m2 (by simp) (Ne.symm n5),no m1 (by simp) (Ne.symm n6),no m2 (by simp) (Ne.symm n7),no m2 (by simp) n8,no m1 (by simp) (Ne.symm n8)⟩
  refine uN Z D1 D2 h1 h2 h3 (a1 i h4) (b1 i h5) (List.getElem?_eq_some_iff.mp ex).1 (List.getElem?_eq_some_iff.mp ey).1 fun u v g tk pu pv g1 g2 g3 g4 g5 g6 g7=>?_;obtain⟨x',ex',rx⟩:=a3 i u pu;obtain⟨y',ey',ry⟩:=b3 i v pv;rw[ex]at ex';rw[ey]at ey';cases ex';cases ey';refine⟨.ref s.heap.objs.size,rfl,wpAny_letOwnedTupleGo_zip g1 fun g' gz' sb=>?_⟩;have hn:H s.heap.objs.size=none:=I.hok.fresh (Nat.le_refl _)
  have I1:Inv X pins σ (upd H s.heap.objs.size (.tup [x,y])) { s with heap:=s.heap.push { cls:=.type "tuple",data:=.seq #[u,v] },toks:=tk } :=
   I.laid (t':=tk) (fun b o q=>Heap.get?_push_of_some _ q) (Nat.le_refl _) ⟨by show 2<=sizeLine;decide,[u,v],.cons rx (.cons ry .nil),⟨_,Heap.get?_push_size _ rfl,rfl,_,rfl⟩⟩
  have lt:∀ b∈[z,TI,TO,i1,i2],b≠s.heap.objs.size:=fun b hb=>by
   have:∃ o,s.heap.get? b=some o:=by
    simp only[List.mem_cons,List.mem_nil_iff,or_false]at hb;rcases hb with rfl | rfl | rfl | rfl | rfl
    ·exact⟨_,h1⟩
    ·exact⟨_,h2⟩
    ·exact⟨_,h3⟩
    ·exact let ⟨o,q,_⟩:=h4.obj;⟨o,q⟩
    ·exact let ⟨o,q,_⟩:=h5.obj;⟨o,q⟩
   obtain⟨o,q⟩:=this;exact Nat.ne_of_lt (Heap.lt_size q)
  have stat:∀ b∈[z,TI,TO,i1,i2],upd H s.heap.objs.size (.tup [x,y]) b=none/\(b∈X.ex\/X.s₀.heap.objs.size<=b)/\b≠X.env.locals/\(∀ x c,X.env.cells.lookup x=some c->c≠b)/\∀ p∈X.pn++pins,p.1≠b:=fun b hb=>by
   obtain⟨f0,f1,f2,f3,f4,f5⟩:=hf b hb;exact⟨by rw[aw (lt b hb)];exact f0,f3,f1,f4,f5⟩
  have I2:Inv X pins σ (upd H s.heap.objs.size (.tup [x,y])) { s with heap:=g',toks:=tk }:=by
   refine Inv.jZ (s:={ s with heap:=s.heap.push { cls:=.type "tuple",data:=.seq #[u,v] },toks:=tk }) (h':=g') (t':=tk) (fp:=[z,TI,TO,i1,i2]) I1 (fun b o hb q=>?_) stat;simp only[List.mem_cons,List.mem_nil_iff,or_false,not_or]at hb;refine sb.extBut b o hb.1 ?_;by_cases hbT:b=s.heap.objs.size
   ·subst hbT;have q':(s.heap.push { cls:=.type "tuple",data:=.seq #[u,v] }).get? s.heap.objs.size=some o:=q;rw[Heap.get?_push_size _ rfl]at q';cases q';exact g5
   ·exact g7 b o hb.1 hb.2.2.1 hb.2.2.2.1 hb.2.2.2.2 ((Heap.get?_push_ne _ _ _ hbT).symm.trans q)
  have kp:∀ b∈[TI,TO,i1,i2],∀ o,g.get? b=some o->g'.get? b=some o:=fun b hb o q=>sb.extBut b o (fun e=>by
   subst e;simp only[List.mem_cons,List.mem_nil_iff,or_false]at hb;rcases hb with e | e | e | e
   ·exact n1 e.symm
   ·exact n2 e.symm
   ·exact n4 e.symm
   ·exact n5 e.symm) q
  refine⟨.ref s.heap.objs.size,_,I2,rfl,⟨s.heap.objs.size,x,y,hn,rfl,rfl,fun xs' hx'=>?_,fun ys' hy'=>?_⟩,⟨gz',kp TI (by simp) _ (g7 TI _ n1 n3 (Ne.symm n9) (Ne.symm n10) h2),⟨u,v,kp TO (by simp) _ g2⟩,(a2 _ _ g3).keep fun o q=>kp i1 (by simp) o q,(b2 _ _ g4).keep fun o q=>kp i2 (by simp) o q⟩,fun b hb=>(stat b hb).1⟩
  ·rw[hx]at hx';rw[<-nN (Option.some.inj hx')];exact ex
  ·rw[hy]at hy';rw[<-nN (Option.some.inj hy')];exact ey
 done:=by
  intro X hP hw hK hc i pins s σ H E I hf st hg;subst hP hw hK;obtain⟨h1,h2,⟨a,c,h3⟩,h4,h5⟩:=st;obtain⟨xs,ys,hx,hy,ex,ey⟩:=hg;have f:∀ b∈[z,TI,TO,i1,i2],H b=none:=fun b hb=>(hf b hb).1;obtain⟨fp1,Pv1,St1,D1,m1,a1,a2,a3⟩:=fK I (f i1 (by simp)) hx rfl;obtain⟨fp2,_,_,_,m2,_⟩:=fK I (f i2 (by simp)) hy rfl;have no:∀ {fp:List Addr} {i b:Addr},(∀ b∈fp,b=i\/H b≠none)->b∈[z,TI,TO,i1,i2]->b≠i->b∉fp:=fun m hb n z=>(m _ z).elim n fun q=>q (f _ hb)
  have Z:gf z TI TO i1 i2 fp1 fp2:=⟨n1,n2,n3,n4,n5,n6,n7,n8,no m1 (by simp) (Ne.symm n4),no m2 (by simp) (Ne.symm n5),no m1 (by simp) (Ne.symm n6),no m2 (by simp) (Ne.symm n7),no m2 (by simp) n8,no m1 (by simp) (Ne.symm n8)⟩
  subst ex
  refine uV Z D1 h1 h2 h3 (a1 _ h4) fun g hk=>⟨rfl,?_⟩
  refine Inv.jZ (h':=g) (t':=s.toks) (fp:=[z,i1]) I (fun b o hb q=>?_) fun b hb=>?_
  ·simp only[List.mem_cons,List.mem_nil_iff,or_false,not_or]at hb;exact hk b o hb.1 hb.2 q
  ·have hb':b∈[z,TI,TO,i1,i2]:=by
    simp only[List.mem_cons,List.mem_nil_iff,or_false]at hb ⊢;rcases hb with q | q
    ·exact .inl q
    ·exact .inr (.inr (.inr (.inl q)))
   obtain⟨f0,f1,f2,f3,f4,f5⟩:=hf b hb';exact⟨f0,f3,f1,f4,f5⟩
 self:=fun A i s Q E st h=>wpAny_pyIter_zip st.1 h
def ju.calm{P:Program}{w:World}{K:PySem.W.Frag}(T:ju (fun _=>True) P w K tg J fp it tn):Turn P w K tg J fp it tn where
 mem:=T.mem
 obj:=T.obj
 keep:=T.keep
 item:=fun X a b c hc i pins s σ H E I=>T.item X a b c trivial i pins s σ H E I
 done:=fun X a b c hc i pins s σ H E I=>T.done X a b c trivial i pins s σ H E I
 self:=T.self
def PI'.calm(h:PI' (fun _=>True) X tg iter wi):PI X tg iter wi:=fun pins s σ H R I q =>
 thn (h pins s σ H R I q) fun v s1 h1=>thn h1 fun itv s2 ⟨it,fp,tn,J,H',e,I',T,r⟩=>⟨it,fp,tn,J,H',e,I',T.calm,r⟩
abbrev cF(t:Bool)(l:Addr):Obj:=if t then { cls:=.type "tuple_iterator",data:=.fields #[.ref l,rawInt 0] } else { cls:=.type "list_iterator",data:=.fields #[.ref l,.int 0 0] }
def mF(e:h.get? it=some (cF t l)):fP t it l 0 h:=by
 cases t with
 | true=>exact⟨_,e,rfl,rfl⟩
 | false=>exact⟨_,e,rfl,rfl⟩
def mV{t:SK}(I:Inv X pins σ H s)(hx:H l=some (cL t xs))(q:Q (.ref s.heap.objs.size) { s with heap:=s.heap.push (cF t.tp l) }):wpAny (model X.prog X.w) A (pyIter (.ref l)) Q E s:=by
 cases t with
 |t=>
  obtain⟨its,rv,p,hz⟩:=I.tuple (SqT.of (show H l=some (.tup xs)from hx));exact wpAny_pyIter_tuple p q
 |l=>
  obtain⟨its,rv,p,hz⟩:=I.list (SqL.of (show H l=some (.lst xs)from hx));exact wpAny_pyIter_list p.isList q
 |f o=>
  obtain⟨its,rv,p,hz⟩:=I.list (show SqL X.K H l xs from .inl (.inr ⟨o,hx⟩));exact wpAny_pyIter_list p.isList q
section
abbrev Dq(ta:TA):TI:=fun σ H R=>ta σ H fun vs H1=>∃ t1 t2 l1 l2 xs ys,vs=[.ref l1,.ref l2]/\H1 l1=some (cL t1 xs)/\H1 l2=some (cL t2 ys)/\R (Itz t1 t2 l1 l2) H1
def far(n a b:Nat)(h:a≠b):n+a≠n+b:=fun q=>h (Nat.add_left_cancel q)
def sY:bootBuiltins "zip" = some (.type "zip"):=by decide +kernel
def AE(hg:Gl X "zip")(hm:X.mg "zip" = none)(ha:PA X [a,b] ta)(hs:starEach [a,b] X.env=[(false,eval a X.env),(false,eval b X.env)])(hs2:starEach [b] X.env=[(false,eval b X.env)]):PI' (fun _=>True) X (.Tuple elts kx tp) (.Call (.Name "zip" p) [a,b] [] pos) (Dq ta):=by
 intro pins s0 σ H0 R I0 h;refine Call_ (fq I0 hg hm sY (PyProof.Rows.callWith_type1 (thn (ha pos pins s0 σ H0 _ I0 h) fun us s ⟨vs,H,I,r1,q1⟩=>?_) (by rw[hs,hs2]) (by rw[hs2];rfl)) (by decide) (by decide));obtain⟨t1,t2,l1,l2,xs,ys,rfl,hx,hy,q⟩:=q1
 cases r1 with
 |cons r rr=>
  cases rr with
  |cons r2 rr=>
   cases rr;cases r;cases r2;have I1:Inv X pins σ H { s with heap:=s.heap.push (cF t1.tp l1) }:=I.kept (t':=s.toks) fun b o e=>Heap.get?_push_of_some _ e
   refine yw (S1:=fun it z1=>it=s.heap.objs.size/\z1={ s with heap:=s.heap.push (cF t1.tp l1) }) (S2:=fun it jt z2=>it=s.heap.objs.size/\jt=(s.heap.push (cF t1.tp l1)).objs.size/\z2={ s with heap:=(s.heap.push (cF t1.tp l1)).push (cF t2.tp l2) })
    (fun A=>mV I hx ⟨_,rfl,rfl,rfl⟩) (fun it z1 h1 A=>?_) fun it jt z2 h2=>?_
   ·obtain⟨rfl,rfl⟩:=h1;exact mV I1 hy ⟨_,rfl,rfl,rfl,rfl⟩
   ·obtain⟨rfl,rfl,rfl⟩:=h2;have z1:(s.heap.push (cF t1.tp l1)).objs.size=s.heap.objs.size+1:=Heap.size_push ..;generalize e1:s.heap.push (cF t1.tp l1)=g1 at *
    have p1:g1.get? s.heap.objs.size=some (cF t1.tp l1):=by
     rw[<-e1];exact Heap.get?_push_size _ (by cases t1<;>rfl)
    have k1:∀ b o,s.heap.get? b=some o->g1.get? b=some o:=fun b o e=>by rw[<-e1];exact Heap.get?_push_of_some _ e
    have z2:(g1.push (cF t2.tp l2)).objs.size=s.heap.objs.size+2:=by rw[Heap.size_push,z1]
    have p2:(g1.push (cF t2.tp l2)).get? (s.heap.objs.size+1)=some (cF t2.tp l2):=by
     rw[<-z1];exact Heap.get?_push_size _ (by cases t2<;>rfl)
    have k2:∀ b o,g1.get? b=some o->(g1.push (cF t2.tp l2)).get? b=some o:=fun b o e=>Heap.get?_push_of_some _ e;generalize e2:g1.push (cF t2.tp l2)=g2 at *;dsimp only;rw[z1]
    have z3:(g2.push { cls:=.type "tuple",data:=.seq #[.ref s.heap.objs.size,.ref (s.heap.objs.size+1)] }).objs.size=s.heap.objs.size+3:=by rw[Heap.size_push,z2]
    have p3:(g2.push { cls:=.type "tuple",data:=.seq #[.ref s.heap.objs.size,.ref (s.heap.objs.size+1)] }).get? (s.heap.objs.size+2)=some { cls:=.type "tuple",data:=.seq #[.ref s.heap.objs.size,.ref (s.heap.objs.size+1)] }:=by
     rw[<-z2];exact Heap.get?_push_size _ rfl
    have k3:∀ b o,g2.get? b=some o->(g2.push { cls:=.type "tuple",data:=.seq #[.ref s.heap.objs.size,.ref (s.heap.objs.size+1)] }).get? b=some o:=fun b o e=>Heap.get?_push_of_some _ e;rw[z2];generalize e3:g2.push { cls:=.type "tuple",data:=.seq #[.ref s.heap.objs.size,.ref (s.heap.objs.size+1)] }=g3 at *;rw[z3]
    have z4:(g3.push { cls:=.type "tuple",data:=.seq #[.none,.none] }).objs.size=s.heap.objs.size+4:=by rw[Heap.size_push,z3]
    have p4:(g3.push { cls:=.type "tuple",data:=.seq #[.none,.none] }).get? (s.heap.objs.size+3)=some { cls:=.type "tuple",data:=.seq #[.none,.none] }:=by
     rw[<-z3];exact Heap.get?_push_size _ rfl
    have k4:∀ b o,g3.get? b=some o->(g3.push { cls:=.type "tuple",data:=.seq #[.none,.none] }).get? b=some o:=fun b o e=>Heap.get?_push_of_some _ e;generalize e4:g3.push { cls:=.type "tuple",data:=.seq #[.none,.none] }=g4 at *;rw[z4]
    have p5:(g4.push { cls:=.type "zip",data:=.fields #[.none,.bool false,.bool false,.ref (s.heap.objs.size+2),.ref (s.heap.objs.size+3)] }).get? (s.heap.objs.size+4)=some { cls:=.type "zip",data:=.fields #[.none,.bool false,.bool false,.ref (s.heap.objs.size+2),.ref (s.heap.objs.size+3)] }:=by
     rw[<-z4];exact Heap.get?_push_size _ rfl
    have k5:∀ b o,g4.get? b=some o->(g4.push { cls:=.type "zip",data:=.fields #[.none,.bool false,.bool false,.ref (s.heap.objs.size+2),.ref (s.heap.objs.size+3)] }).get? b=some o:=fun b o e=>Heap.get?_push_of_some _ e;generalize e5:g4.push { cls:=.type "zip",data:=.fields #[.none,.bool false,.bool false,.ref (s.heap.objs.size+2),.ref (s.heap.objs.size+3)] }=g5 at *
    refine wpAny_pyIter_zip (TI:=s.heap.objs.size+2) (TO:=s.heap.objs.size+3) (f0:=.none) p5 ⟨s.heap.objs.size+4,[s.heap.objs.size+4,s.heap.objs.size+2,s.heap.objs.size+3,s.heap.objs.size,s.heap.objs.size+1],_,Itz t1 t2 l1 l2,H,rfl,I.kept (t':=s.toks) fun b o e=>k5 _ _ (k4 _ _ (k3 _ _ (k2 _ _ (k1 _ _ e)))),uI (far _ 2 4 (by decide)) (far _ 3 4 (by decide)) (far _ 2 3 (by decide)) (far _ 0 4 (by decide)) (far _ 1 4 (by decide)) (far _ 0 3 (by decide)) (far _ 1 3 (by decide)) (far _ 0 1 (by decide)) (far _ 0 2 (by decide)) (far _ 1 2 (by decide)),
     ⟨p5,k5 _ _ (k4 _ _ p3),⟨_,_,k5 _ _ p4⟩,mF (k5 _ _ (k4 _ _ (k3 _ _ (k2 _ _ p1)))),mF (k5 _ _ (k4 _ _ (k3 _ _ p2)))⟩,fun b hb=>?_,q⟩
    have hb':s.heap.objs.size<=b:=by
     simp only[List.mem_cons,List.mem_nil_iff,or_false]at hb
     rcases hb with rfl | rfl | rfl | rfl | rfl<;>first | exact Nat.le_refl _ | exact Nat.le_add_right _ _
    exact I.ja hb' (I.hok.fresh hb')
end
end L2
namespace RS
open PySem PySem.Spec PyProof.Rows L2
def gM:∀ (ds es:List RL.D),ds.length=es.length->(RL.fS ds es).length=ds.length
 | [],[],_=>rfl
 | [],_::_,h=>by cases h
 | _::_,[],h=>by cases h
 | d::ds,e::es,h=>by rw[RL.fS,List.length_cons,List.length_cons,gM ds es (by simpa using h)]
def nr:∀ (ds es:List RL.D) (i:Nat) (d:RL.D),(RL.fS ds es)[i]?=some d->∃ x y,ds[i]?=some x/\es[i]?=some y/\d=.tup [x,y]
 | [],es,i,d,h=>by cases es<;>simp[RL.fS]at h
 | _::_,[],i,d,h=>by simp[RL.fS]at h
 | x::ds,y::es,0,d,h=>by simp[RL.fS]at h;exact⟨x,y,rfl,rfl,h.symm⟩
 | x::ds,y::es,i+1,d,h=>by
  rw[RL.fS,List.getElem?_cons_succ]at h;obtain⟨x',y',h1,h2,h3⟩:=nr ds es i d h;exact⟨x',y',by simpa using h1,by simpa using h2,h3⟩
def rm{K:PySem.W.Frag}(hl:ds.length=es.length)(h1:H l1=some (cL t1 xs))(h2:H l2=some (cL t2 ys))(n1:¬ P l1)(n2:¬ P l2)(r1:ag nP K H ds xs)(r2:ag nP K H es ys)(hm:∀ b o,P b->H b=some o->cw o) :
  eJ K (Itz t1 t2 l1 l2) (RL.fS ds es) P H where
 go:=fun H' i k hi=>by
  rw[gM ds es hl]at hi;obtain⟨x,e,_⟩:=r1.get (i:=i) (d:=ds[i]) (by simp[hi]);obtain⟨y,e',_⟩:=r2.get (i:=i) (d:=es[i]'(by lia)) (by simp);exact⟨xs,ys,x,y,k _ _ n1 h1,k _ _ n2 h2,e,e'⟩
 stop:=fun H' k=>⟨xs,ys,k _ _ n1 h1,k _ _ n2 h2,by rw[gM ds es hl,r1.length],by rw[gM ds es hl,hl,r2.length]⟩
 yld:=fun H' i d v H2 k e y=>by
  obtain⟨p,x,w,hp,rfl,rfl,hx,hw⟩:=y;obtain⟨dx,dw,g1,g2,rfl⟩:=nr ds es i d e;obtain⟨x',g3,g4⟩:=r1.get g1;obtain⟨w',g5,g6⟩:=r2.get g2;rw[hx xs (k _ _ n1 h1)]at g3;rw[hw ys (k _ _ n2 h2)]at g5;cases g3;cases g5;refine⟨aA.bW hp,fun q=>?_⟩
  have re:Rep nP K H' dx x/\Rep nP K H' dw w:=by
   rcases q with q | q
   ·have q:(dx.imm&&(dw.imm&&true))=true:=q;rw[Bool.and_true,Bool.and_eq_true]at q;exact⟨dW hm k g4 q.1,dW hm k g6 q.2⟩
   ·exact⟨g4.same q,g6.same q⟩
  rw[Rep];exact⟨p,[x,w],rfl,aC,ag.cons (re.1.same (aA.bW hp)) (ag.cons (re.2.same (aA.bW hp)) ag.nil)⟩
def kZ{P:Addr->Prop}{K:PySem.W.Frag}(h:RL.items d=some ds)(r:Rep P K H d v):∃ t l xs,v=.ref l/\H l=some (cL t xs)/\ag P K H ds xs/\(t=.l->d=.lst ds):=by
 obtain⟨p,xs,rfl,hp,rs⟩:=dm h r
 rcases hp with⟨q,rfl⟩ | ⟨q,rfl⟩ | ⟨⟨o,q⟩,rfl⟩
 ·exact⟨.l,p,xs,rfl,q,rs,fun _=>rfl⟩
 ·exact⟨.t,p,xs,rfl,q,rs,fun z=>by cases z⟩
 ·exact⟨.f o,p,xs,rfl,q,rs,fun z=>by cases z⟩
section rules
def sd(hg:Gl X "zip")(hm:X.mg "zip" = none)(ha:SE X cl a a')(hb:SE X cl b b')(hn:noStar a=true)(hn2:noStar b=true):PI' (fun _=>True) X (.Tuple elts kx tp) (.Call (.Name "zip" p) [a,b] [] pos) (tI X.K cl (.zip a' b')):=by
 intro pins s σ H R I h;obtain⟨σD,ds,rv,e,k⟩:=h;obtain⟨x,ea,e⟩:=bind_some e;obtain⟨y,eb,e⟩:=bind_some e;obtain⟨xs,e1,e⟩:=bind_some e;obtain⟨ys,e2,e⟩:=bind_some e;split at e
 ·rename_i hl;cases e;have hpa:PA X [a,b] (dZ (tE X.K cl a') (dZ (tE X.K cl b') hV)):=aG ha (aG hb bf (az [] hn2)) (az _ hn);refine AE hg hm hpa (by rw[az _ hn,az _ hn2];rfl) (az [] hn2) pins s σ H R I ?_;refine⟨σD,x,rv,ea,fun v H1 r1=>⟨σD,y,rv.same r1.same,eb,fun u H2 r2=>?_⟩⟩;obtain⟨t1,l1,vs,rfl,h1,p1,c1⟩:=kZ e1 (r1.rep.same r2.same);obtain⟨t2,l2,us,rfl,h2,p2,c2⟩:=kZ e2 r2.rep;refine⟨t1,t2,l1,l2,vs,us,rfl,h1,h2,k _ _ (r1.same.trans r2.same) ⟨rm hl h1 h2 (fun z=>z) (fun z=>z) p1 p2 eG,fun M P z hP av=>?_⟩⟩;have hP2:=cS (r1.same.trans r2.same) hP;unfold RL.mw at z;rw[Bool.and_eq_true]at z
  have notT:∀ (t:SK) l zs,H2 l=some (cL t zs)->t≠.l->¬ P l:=fun t l zs hl ht q=>by
   cases t with
   | l=>exact ht rfl
   | _=>rcases hP2 l _ q hl with⟨_,q⟩ | ⟨_,q⟩ | ⟨_,q⟩<;>cases q
  refine rm hl h1 h2 ?_ ?_ p1 p2 hP2
  ·by_cases ht:t1=.l
   ·exact jz r1 z.1 hP av _ _ (c1 ht) rfl
   ·exact notT t1 l1 vs h1 ht
  ·by_cases ht:t2=.l
   ·refine jz r2 z.2 (fun b q=>?_) (fun j dj vj hj h3 h4=>(av j dj vj hj h3 h4).same r1.same) _ _ (c2 ht) rfl;obtain⟨o,ho,hmu⟩:=hP b q;exact⟨o,r1.same _ _ ho,hmu⟩
   ·exact notT t2 l2 us h2 ht
 ·cases e
end rules
end RS
namespace L2
open PySem PySem.Spec PyProof.Rows
section
end
end L2
namespace RS
open PySem PySem.Spec PyProof.Rows L2
section
end
end RS
namespace L2
open PySem PySem.Spec PyProof.Rows
section
end
section
end
end L2
namespace RS
open PySem PySem.Spec PyProof.Rows L2
section
end
section
variable{st:Stmt}
end
section
variable{X:Cx}
end
end RS
namespace L2
open PySem PySem.Spec PyProof.Rows
def sj{o:Obj}:(o.mapFields f).dict=o.dict:=by
 obtain⟨c,d,dt,sl⟩:=o;cases dt<;>rfl
abbrev Exc(P:Addr->Prop)(e:Addr)(C:Addr)(od:Option Addr)(tb:Bool)(h:Heap):Prop :=
 ∃ oe vs,h.get? e=some oe/\(oe.cls=.ref C/\oe.dict=od)/\oe.data=.fields vs/\vs[2]?=some .none/\¬ P e /\
  ((tb=false/\vs[1]?=some .none)\/∃ T oT ts,vs[1]?=some (.ref T)/\T≠e/\h.get? T=some oT/\oT.data=.fields ts/\ts[3]?=some .none/\¬ P T)
structure Off1(P:Addr->Prop)(fs:List Addr)(h h':Heap):Prop where
 sz:h.objs.size<=h'.objs.size
 keep:∀ b o,P b->b∉fs->h.get? b=some o->h'.get? b=some o
 slot:∀ b o,P b->b∈fs->h.get? b=some o->∃ sl,h'.get? b=some { o with slots:=sl }
def Off1.trans(a:Off1 P fs h h1)(b:Off1 P fs h1 h2):Off1 P fs h h2 where
 sz:=Nat.le_trans a.sz b.sz
 keep:=fun c o p n e=>b.keep c o p n (a.keep c o p n e)
 slot:=fun c o p n e=>by
  obtain⟨sl,e1⟩:=a.slot c o p n e;obtain⟨sl2,e2⟩:=b.slot c _ p n e1;exact⟨sl2,e2⟩
def Off1.qK(n:¬ P a)(f:Obj->Obj):Off1 P fs h (h.update a f) where
 sz:=by rw[(Heap.SameBut.update ..).1];exact Nat.le_refl _
 keep:=fun b o p _ e=>by rw[Heap.get?_update_other _ _ (show a≠b from fun z=>n (z.symm▸p))];exact e
 slot:=fun b o p _ e=>⟨o.slots,by rw[Heap.get?_update_other _ _ (show a≠b from fun z=>n (z.symm▸p))];exact e⟩
def Off1.ext(o:Obj):Off1 P fs h (h.push o) where
 sz:=by rw[Heap.size_push];exact Nat.le_succ _
 keep:=fun b _ _ _ e=>Heap.get?_push_of_some _ e
 slot:=fun b o _ _ e=>⟨o.slots,Heap.get?_push_of_some _ e⟩
def Off1.slots(x:Heap.SlotsOnly fs h h'):Off1 P fs h h' where
 sz:=Nat.le_of_eq x.1.symm
 keep:=fun b o _ n e=>(x.2.1 b n).trans e
 slot:=fun b o _ _ e=>x.2.2 b o e
section
def lT(hfr:A.frames=some (env::outer))(hl:s.heap.FunFrames base (env::outer))(hf:env.frame=some L)(he:s.heap.get? e=some oe)(hc:oe.cls=.ref C/\oe.dict=od)(hd:oe.data=.fields vs)(h2:vs[2]?=some .none)
 (ne:¬ P e)(hP:∀ b,P b->b<s.heap.objs.size)(k:∀ h',Exc P e C od true h'->Off1 P (frs (env::outer)) s.heap h'->Q () { s with heap:=h' }) :
  wpAny M A (do let fr <- frameOf env;let q <- entryPlaceOf L had;let t <- EntryCells.newEntry head fr .none (rawInt L) .none q;setField (.ref e) 1 t) (fun _ s2=>wpAny M A (setFlight (.ref e) none) Q E s2) E s:=by
 have efr:e∉(env::outer).filterMap (·.frame):=fun z=>by
  obtain⟨_,o,ho,hn⟩:=hl.mem z;rw[he]at ho;cases ho;exact hn vs hd
 have z1:1<vs.size:=Nat.lt_trans (by decide) (Array.getElem?_eq_some_iff.mp h2).1;apply wpAny_bind;refine wpAny_frameOf_fun hfr hl hf fun g1 sl=>?_;apply wpAny_bind;refine wpAny_entryPlaceOf fun q hq=>?_;unfold EntryCells.newEntry newFields;apply wpAny_bind;refine wpAny_newObj_type ?_ (hq.sizeOk5 _ _ _ _ _);have e1:g1.get? e=some oe:=(sl.2.1 e efr).trans he;generalize hto:({ cls:=.type "traceback",dict:=none,data:=.fields ([head,.ref L,.none,rawInt L,.none]++(if q.isEmpty then List.replicate 6 Value.none else q)).toArray }:Obj)=to;have e2:(g1.push to).get? e=some oe:=Heap.get?_push_of_some _ e1;have te:g1.objs.size≠e:=Nat.ne_of_gt (Heap.lt_size e1);refine wpAny_setField e2 hd z1 ?_;have d3:=Obj.data_mapFields hd (·.setIfInBounds 1 (Value.ref g1.objs.size));have e3:=Heap.get?_update_self (Obj.mapFields (·.setIfInBounds 1 (Value.ref g1.objs.size))) e2 (Obj.isFreed_of_fields d3)
 have tod:to.data=.fields ([head,.ref L,.none,rawInt L,.none]++(if q.isEmpty then List.replicate 6 Value.none else q)).toArray:=by rw[<-hto]
 have t3:=(Heap.get?_update_other (g1.push to) (Obj.mapFields (·.setIfInBounds 1 (Value.ref g1.objs.size))) (Ne.symm te)).trans (Heap.get?_push_size g1 (by rw[<-hto];rfl));unfold setFlight;apply wpAny_bind;refine wpAny_field e3 d3 (x:=.ref g1.objs.size) (by simp[z1]) ?_;rw[if_pos (show(Value.ref g1.objs.size != Value.none)=true from by simp)];refine wpAny_setField t3 tod (by simp only[List.size_toArray,List.length_append,List.length_cons,List.length_nil]<;>omega) (k _ ?_ ?_)
 ·refine⟨_,_,(Heap.get?_update_other _ _ te).trans e3,⟨(Obj.cls_mapFields _ _).trans hc.1,sj.trans hc.2⟩,d3,by rw[Array.getElem?_setIfInBounds_ne (by decide)];exact h2,ne,.inr ⟨g1.objs.size,_,_,by simp[z1],te,Heap.get?_update_self _ t3 (Obj.isFreed_of_fields (Obj.data_mapFields tod _)),Obj.data_mapFields tod _,?_,fun z=>?_⟩⟩
  ·rw[Array.getElem?_setIfInBounds_self_of_lt (by simp only[List.size_toArray,List.length_append,List.length_cons,List.length_nil]<;>omega)];rfl
  ·have:=hP _ z;rw[sl.1]at this;exact Nat.lt_irrefl _ this
 ·refine(((Off1.slots sl).trans (Off1.ext _)).trans (Off1.qK ne _)).trans (Off1.qK (fun z=>?_) _);have:=hP _ z;rw[sl.1]at this;exact Nat.lt_irrefl _ this
def lp(hfr:A.frames=some (env::outer))(hl:s.heap.FunFrames base (env::outer))(hf:env.frame=some L)(x:Exc P e C od tb s.heap)(hP:∀ b,P b->b<s.heap.objs.size)
 (k:∀ h',Exc P e C od true h'->Off1 P (frs (env::outer)) s.heap h'->Q () { s with heap:=h' }) :
  wpAny M A (noteFrame (.ref e) env) (fun _ s2=>wpAny M A (setFlight (.ref e) none) Q E s2) E s:=by
 obtain⟨oe,vs,he,hc,hd,h2,ne,x⟩:=x;unfold noteFrame;simp only[hf];apply wpAny_bind
 rcases x with⟨_,h1⟩ | ⟨T,oT,ts,h1,hTe,hT,hdT,h3,nT⟩
 ·refine wpAny_field he hd h1 ?_;rw[if_neg (by decide)];exact lT hfr hl hf he hc hd h2 ne hP k
 ·refine wpAny_field he hd h1 ?_;rw[if_pos (show(Value.ref T != Value.none)=true from by simp)];apply wpAny_bind;refine wpAny_field hT hdT h3 ?_;rw[if_neg (show ¬ ((Value.none == rawInt L)=true)from by simp[rawInt])];apply wpAny_bind;refine wpAny_setField hT hdT (Array.getElem?_eq_some_iff.mp h3).1 ?_;have oth:∀ b,b≠T->(s.heap.update T (Obj.mapFields (·.setIfInBounds 3 Value.none))).get? b=s.heap.get? b:=fun b hb=>Heap.get?_update_other _ _ (Ne.symm hb);have up:Off1 P (frs (env::outer)) s.heap (s.heap.update T (Obj.mapFields (·.setIfInBounds 3 Value.none))):=Off1.qK nT _
  have hl':(s.heap.update T (Obj.mapFields (·.setIfInBounds 3 Value.none))).FunFrames base (env::outer):=hl.of_keeps fun b o hb hn=>⟨o,(oth b fun z=>by
   rw[z,hT]at hb;cases hb
   exact hn ts hdT).trans hb,rfl⟩
  exact lT (s:={ s with heap:=s.heap.update T (Obj.mapFields (·.setIfInBounds 3 Value.none)) }) hfr hl' hf ((oth e (Ne.symm hTe)).trans he) hc hd h2 ne (fun b hb=>Nat.lt_of_lt_of_le (hP b hb) up.sz) fun h' x' o'=>k h' x' (up.trans o')
def sC(hfr:A.frames=some (env::outer))(hl:s.heap.FunFrames base (env::outer))(hf:env.frame=some L)(x:Exc P e C od tb s.heap)(hP:∀ b,P b->b<s.heap.objs.size)
 (k:∀ h',Exc P e C od true h'->Off1 P (frs (env::outer)) s.heap h'->Q () { s with heap:=h' }):wpAny M A (leaving env (.ref e)) Q E s:=by
 unfold leaving;exact wpAny_bind (lp hfr hl hf x hP k)
end
def aU.there(x:aU P w H h a o):∃ u,h.get? a=some u:=by
 cases o with
 | lst xs=>obtain⟨_,_,_,_,e⟩:=x;exact⟨_,e⟩
 | tup xs=>obtain⟨_,_,_,o,e,_⟩:=x;exact⟨_,e⟩
 | dK kvs=>obtain⟨_,_,_,_,o,_,_,e,_⟩:=x;exact⟨_,e⟩
 | dT kvs=>obtain⟨_,_,_,_,o,_,_,e,_⟩:=x;exact⟨_,e⟩
 | set S n=>obtain⟨o,_,_,_,e,_⟩:=x;exact⟨_,e⟩
 | ins C dx fs=>obtain⟨_,_,_,e,_⟩:=x;exact⟨_,e⟩
 | own y=>exact x
 | xd fs=>obtain⟨_,⟨_,_,_,e,_⟩,_⟩:=x;exact⟨_,e⟩
 | rng lo hi=>obtain⟨_,_,_,e⟩:=x;exact⟨_,e⟩
 | frz ob u=>exact⟨_,x.1⟩
 | tbl ps=>exact⟨_,x⟩
 | met f y=>exact⟨_,x⟩
 | ext φ=>exact x.2.1
abbrev dM(h:Heap)(H:Hp)(b:Addr):Prop:=(∃ o,h.get? b=some o)\/H b≠none
def Exc.mono(x:Exc P e C od tb h)(k:∀ b,P' b->P b):Exc P' e C od tb h:=by
 obtain⟨oe,vs,h1,h2,h3,h4,h5,h6⟩:=x;refine⟨oe,vs,h1,h2,h3,h4,fun z=>h5 (k _ z),h6.imp (fun z=>z) fun⟨T,oT,ts,a1,a2,a3,a4,a5,a6⟩=>⟨T,oT,ts,a1,a2,a3,a4,a5,fun z=>a6 (k _ z)⟩⟩
abbrev CXE(P:Program)(w:World):CXT:=fun outer H s E e s'=>∃ x C od H',e=.ref x/\E (.ref C) od H'/\s'.os=s.os/\AllBare s'.gens/\Un (frs outer) [] H H' s.heap s'.heap/\HOk P w H' s'.heap/\Exc (dM s.heap H') x C od true s'.heap
section
def Inv.old(I:Inv X pins σ H s)(hex:X.ex=[])(e:X.s₀.heap.get? b=some o):∃ o',s.heap.get? b=some o':=I.base.there b o e (by rw[hex];simp)
def gU(I:Inv X pins σ H s)(hst:X.stack=X.env::X.outer)(hfrm:X.env.frame=some X.env.locals)(hex:X.ex=[])(x:Exc (dM X.s₀.heap H) e C od tb s.heap)(hE:EE (.ref C) od H)(hA:A.frames=some (X.env::X.outer)) :
  wpAny (model X.prog X.w) A (leaving X.env (.ref e)) (fun _ s2=>CXE X.prog X.w X.outer X.H₀ X.s₀ EE (.ref e) s2) E' s:=by
 have hl:=I.stack;rw[hst]at hl
 have hfr:∀ b∈frs (X.env::X.outer),H b=none:=by
  have:=I.iz;rw[hst]at this;exact this
 have hP:∀ b,dM X.s₀.heap H b->b<s.heap.objs.size:=fun b hb=>by
  rcases hb with⟨o,e⟩ | hb
  ·exact Nat.lt_of_lt_of_le (Heap.lt_size e) I.sz
  ·obtain⟨o,ho⟩:=Option.ne_none_iff_exists'.mp hb;exact I.hok.lt ho
 refine sC hA hl hfrm x hP fun h' x' o'=>?_;have fsE:X.fs=frs X.outer:=rfl
 have mem:∀ b o,X.s₀.heap.get? b=some o->b∉frs X.outer->b∉frs (X.env::X.outer):=fun b o e n z=>by
  unfold frs at z;rw[List.filterMap_cons,hfrm]at z;rcases List.mem_cons.mp z with z | z
  ·have h1:=Heap.lt_size e;have h2:=I.ok.above;rw[z]at h1;exact Nat.lt_irrefl _ (Nat.lt_of_lt_of_le h1 h2)
  ·exact n z
 have mem2:∀ b,b∈frs X.outer->b∈frs (X.env::X.outer):=fun b z=>by
  unfold frs;rw[List.filterMap_cons,hfrm];exact List.mem_cons_of_mem _ z
 have nex:∀ b:Addr,b∉X.ex:=fun b=>by rw[hex];simp
 refine⟨e,C,od,H,rfl,hE,I.os,I.bare,⟨fun b o q n hb _=>?_,fun b o q n hb _=>?_,fun b o q n _=>I.base.free b o q n (nex b),fun b o q _=>?_,I.base.di,I.base.c9,I.base.dh⟩,fun a o q=>?_,x'⟩
 ·exact o'.keep b o (.inl ⟨o,q⟩) (mem b o q hb) (I.base.keep b o q n hb (nex b))
 ·obtain⟨sl,q2⟩:=I.base.slot b o q n hb (nex b);obtain⟨sl2,q3⟩:=o'.slot b _ (.inl ⟨o,q⟩) (mem2 b hb) q2;exact⟨sl2,q3⟩
 ·obtain⟨o1,q1⟩:=I.base.there b o q (nex b);by_cases hb:b∈frs (X.env::X.outer)
  ·obtain⟨sl,q2⟩:=o'.slot b _ (.inl ⟨o,q⟩) hb q1;exact⟨_,q2⟩
  ·exact⟨_,o'.keep b _ (.inl ⟨o,q⟩) hb q1⟩
 ·refine(I.hok a o q).gG (fun b u hb r=>?_) (fun _ z=>z) fun _ _ z=>z
  have hn:H b≠none:=by
   rcases hb with rfl | hb
   ·rw[q];exact fun z=>nomatch z
   ·rw[hb];exact fun z=>nomatch z
  exact o'.keep b u (.inr hn) (fun z=>hn (hfr b z)) r
def Inv.refused(I:Inv X pins σ H s)(hex:X.ex=[])(h:CXE X.prog X.w X.stack H s E e s'):∃ x C od H',e=.ref x/\E (.ref C) od H'/\Inv X pins σ H' s'/\Exc (dM X.s₀.heap H') x C od true s'.heap/\Exc (dM s.heap H') x C od true s'.heap/\Un (frs X.stack) [] H H' s.heap s'.heap:=by
 obtain⟨x,C,od,H',rfl,hE,os,bare,un,hok,ex⟩:=h;obtain⟨hh,g,d,t,os'⟩:=s';obtain rfl:os'=s.os:=os;refine⟨x,C,od,H',rfl,hE,I.call (h':=hh) (g':=g) (d':=d) (t':=t) (ch:=[]) un hok bare (fun b z=>absurd z (by simp)),ex.mono fun b hb=>?_,ex,un⟩;rcases hb with⟨o,q⟩ | hb
 ·exact .inl (I.old hex q)
 ·exact .inr hb
def nj(hok:HOk P w H h)(m:Heap.MadeExcOf h h' e (.ref C) vs):Exc (dM h H) e C none false h':=by
 obtain⟨t,he,_,_⟩:=m.there;refine⟨_,_,he,⟨rfl,rfl⟩,rfl,rfl,fun z=>?_,.inl ⟨rfl,rfl⟩⟩;have hn:=m.new;rcases z with⟨o,q⟩ | z
 ·rw[hn]at q;cases q
 ·obtain⟨o,ho⟩:=Option.ne_none_iff_exists'.mp z;obtain⟨u,q⟩:=(hok e o ho).there;rw[hn]at q;cases q
def Inv.newExc(I:Inv X pins σ H s)(hex:X.ex=[])(m:Heap.MadeExcOf s.heap h' e (.ref C) vs):Inv X pins σ H { s with heap:=h' }/\Exc (dM X.s₀.heap H) e C none false h' :=
 ⟨I.kept (t':=s.toks) m.keeps,(nj I.hok m).mono fun b hb=>hb.imp (fun⟨o,q⟩=>I.old hex q) fun z=>z⟩
end
open PySem.W
section
variable{K:PySem.W.Frag}
structure mT(K:PySem.W.Frag)(D:Addr):Prop where
 ga:findIn K (.ref D) "__getattribute__" = some (some (.builtin "BaseException.__getattribute__"))
 gn:findIn K (.ref D) "__getattr__" = some none
 fo:findObj K D none "__class__" = some (.bind (.builtin "getset_descriptor.__get__") (.builtin "object.__class__"))
 mo:mroIn K D (.type "object")=some true
 mb:subIn K (.ref D) (.type "BaseException")=some true
 is:(clsIn K D).isSome=true
def om:takesIn K (.builtin "object.__class__")=some true:=by kernel_rfl
def qi(h:findObj K D none "__class__" = some (.bind (.builtin "getset_descriptor.__get__") (.builtin "object.__class__"))):findObj K D od "__class__" = some (.bind (.builtin "getset_descriptor.__get__") (.builtin "object.__class__")):=by
 unfold findObj at h ⊢;obtain⟨cd,hcd,h⟩:=Option.bind_eq_some_iff.mp h;obtain⟨attr,ha,h⟩:=Option.bind_eq_some_iff.mp h;obtain⟨get,hg,h⟩:=Option.bind_eq_some_iff.mp h;obtain⟨data,hd,h⟩:=Option.bind_eq_some_iff.mp h;rw[hcd,Option.bind_some,ha,Option.bind_some,hg,Option.bind_some,hd,Option.bind_some]
 cases data with
 |true=>
  cases attr with
  | none=>cases get<;>cases hd
  |some a=>
   cases get with
   | none=>cases hd
   | some g=>exact h
 |false=>
  exfalso;obtain⟨own,ho,h⟩:=Option.bind_eq_some_iff.mp (show((PySem.W.ownOf cd none "__class__").bind _)=_ from h)
  have hn:own=none:=by
   unfold PySem.W.ownOf at ho;split at ho<;>exact(Option.some.inj ho).symm
  subst hn;dsimp only at h;split at h
  ·cases h
  ·cases attr with
   | none=>cases h
   |some a=>
    cases get with
    |none=>
     dsimp only at h;split at h
     ·cases h
     ·cases h
    |some g=>
     cases h;dsimp only at hd;rw[om]at hd;cases hd
def zy(F:mT K D)(X:K.In s.heap)(I:InstAt s.heap x ox D od)(h:Q (some (.ref D)) { s with toks:=s.toks+1 }):wpAny (model prog w) A (getAttr? (.ref x) "__class__") Q E s:=by
 have L0:=I.type (M:=model prog w);have L1:=looks_findIn (M:=model prog w) X F.ga;have L2:=looks_findIn (M:=model prog w) X F.gn;have L3:=looks_find (M:=model prog w) X I (qi F.fo);have L4:=looks_subIn (M:=model prog w) X F.mb;have cg:=fun(A:Around) (R:Result->Shared->Prop) (t:Nat)=>class_get (prog:=prog) (w:=w) (A:=A) (R:=R) (tp:=.ref D) (s:={ s with toks:=t }) X I F.mo;obtain⟨hh,g,d,t,os⟩:=s;unfold getAttr? getAttrBy? getAttrBy;refine wpAny_bind (wpAny_mkText (wpAny_bind (wpAny_attempt (wpAny_holding (wpAny_bind (L0.at (wpAny_bind (L1.at ?_))))))))
 have n0:¬ ((onTheHeap (Value.ref D)&&(Value.builtin "BaseException.__getattribute__" == Value.builtin "object.__getattribute__"))=true):=by
  have:(Value.builtin "BaseException.__getattribute__" == Value.builtin "object.__getattribute__")=false:=by decide +kernel
  rw[this,Bool.and_false];exact Bool.false_ne_true
 dsimp only;rw[if_neg n0];unfold getAttrByItsOwn hookBefore;rw[if_pos (show onTheHeap (Value.ref D)=true from rfl)];refine wpAny_bind (L2.at ?_);unfold callGetattribute boundAndCalled;rw[if_neg (show ¬ ((false&&onTheHeap (Value.builtin "BaseException.__getattribute__"))=true)from Bool.false_ne_true)];refine wpAny_bind (wpAny_attempt (wpAny_holding (wpAny_bind (wpAny_of_eq (PySem.F.attrBase_ValueError.ga.bind (.ref x)) ?_))));refine wpAny_call (codeAny_call_builtin PySem.F.attrBase_ValueError.ga.plain PySem.F.entry_bexc_ga ?_)
 have hk:builtinKind "BaseException.__getattribute__" = some .slot:=by decide +kernel
 have hsplit:splitId "BaseException.__getattribute__" = some ("BaseException", "__getattribute__"):=by decide +kernel
 have ha:=PySem.F.args_bexc_ga (.ref x) (.str "__class__" t);simp only[checkBuiltinCall,hk,hsplit];unfold isInstance
 repeat (any_goals (first | assumption | exact L0 | (with_reducible refine L0.at ?_) | (with_reducible refine L4.at ?_) | (with_reducible refine L3.at ?_) | (with_reducible refine wpAny_bind (L3.at ?_)) | wp_step))
 refine cg _ _ _ ?_;refine wpAny_pure ?_;exact wpAny_of_eq (handedOut_of rfl) (wpAny_pure h)
def lU(F:mT K D):KitX K (.ref x) (.ref D) (fun h=>InstAt h x ox D od) where
 ty:=fun _ _ _ I=>I.type
 it:=fun M h X _=>by
  have z:=F.is;unfold clsIn at z;split at z
  ·rename_i ho;intro A' Q' E' s' k q;unfold isType loadHead;exact wpAny_bind (wpAny_loadPart (k _ _ (X _ _ ho)) (wpAny_pure q))
  ·cases z
 ne:=fun h tp dd its n sl X htp=>by
  refine Bool.eq_false_iff.mpr fun q=>?_;have e:D=tp:=Value.ref.inj (beq_iff_eq.mp q);subst e;have z:=F.is;unfold clsIn at z;split at z
  ·rename_i ho;cases(X _ _ ho).symm.trans htp
  ·cases z
 ca:=fun X I k=>zy F X I k
end
section
def jQ(h:PGs X es t)(hn:(assignEach es X.env).length=n)(hst:(assignEach es X.env).findIdx? (·.1)=none):PG X (.Tuple es k pos) (jY X.K n t):=by
 intro pins s σ H v u Q I r hw;obtain⟨a,xs,e1,hq,hl,hw⟩:=hw;subst e1;cases r;obtain⟨its,rv,ht,hz⟩:=I.tuple hq
 have hsz:(assignEach es X.env).length=its.toArray.size:=by rw[hn,<-hl,rv.length,List.size_toArray]
 rw[PyProof.Rows.assign_Tuple];refine wpAny_bind (wpAny_standAt ?_);unfold unpack;rw[hsz,hst];refine wpAny_bind (wpAny_holding (qr I.hd ht fun h' hx=>?_));exact h pins _ σ H xs _ Q (I.kept (t':=s.toks) fun b o e=>hx b o (Nat.ne_of_lt (Heap.lt_size e)) e) (by simpa using rv) hw
def k9(h:PGs X es t)(hn:(assignEach es X.env).length=n)(hst:(assignEach es X.env).findIdx? (·.1)=none):PG X (.Tuple es k pos) (RS.jV X.K n t):=by
 intro pins s σ H v u Q I r hw;obtain⟨a,xs,e1,hq,hl,hw⟩:=hw;subst e1;cases r;obtain⟨its,rv,ht,hz⟩:=I.list hq
 have hsz:(assignEach es X.env).length=its.toArray.size:=by rw[hn,<-hl,rv.length,List.size_toArray]
 rw[PyProof.Rows.assign_Tuple];refine wpAny_bind (wpAny_standAt ?_);unfold unpack;rw[hsz,hst];refine wpAny_bind (wpAny_holding (pQ I.hd ht.isList fun h' hx=>?_));exact h pins _ σ H xs _ Q (I.kept (t':=s.toks) fun b o e=>hx b o (Nat.ne_of_lt (Heap.lt_size e)) e) (by simpa using rv) hw
end
section
def PA.nox(h:PA X.nox es t):PA X es t:=fun pos pins s σ H Q I hw =>
 wpAny_mono (h pos pins s σ H Q (I.cW _) hw) (fun _ _ ⟨v,H',I',r,q⟩=>⟨v,H',I'.cb,r,q⟩) fun _ _ z=>False.elim z
def PS.nox{st:Stmt}(h:PS X.nox st t):PS X st t:=fun pins s σ H D I hw =>
 wpAny_mono (h pins s σ H D (I.cW _) hw) (fun _ _ q=>q.cb) fun _ _ z=>False.elim z
def PG.nox(h:PG X.nox tg t):PG X tg t:=fun pins s σ H v u Q I r hw =>
 wpAny_mono (h pins s σ H v u Q (I.cW _) r hw) (fun _ _ ⟨σ',H',I',q⟩=>⟨σ',H',I'.cb,q⟩) fun _ _ z=>False.elim z
def PI.nox(h:PI X.nox tg iter wi):PI X tg iter wi:=fun pins s σ H R I hw =>
 wpAny_mono (h pins s σ H R (I.cW _) hw) (fun _ _ h1=>wpAny_mono h1 (fun _ _ ⟨it,fp,tn,J,H',e,I',T,t0,f,r⟩=>⟨it,fp,tn,J,H',e,I'.cb,T,t0,f,r⟩) fun _ _ z=>False.elim z) fun _ _ z=>False.elim z
def iT{CX:CXT}{k:Nat}{f:Addr}{fd:FuncData}{ps:List Str}{sp:Sp}{EX:St->XK}{x:Str}{p pos:Pos}{e:Expr}{es:List Expr}{t:TA}(F:aR X.prog X.w X.K X.mg X.base CX k f fd ps sp)(hr:aT k X.A)(hg:Gl X x)(hm:X.mg x=some (.ref f))(hk:PySem.W.keepIn X.K (.ref f)=true)
 (hb:Binds X.K fd ps [])(hx:∀ pins σ H s e s',Inv X pins σ H s->CX X.stack H s (EX σ) e s'->X.xe e s')(ha:PA X (e::es) t)(hdb:(x == ("__debug__" : Str))=false)(he:starEach (e::es) X.env=(false,eval e X.env)::starEach es X.env)(hpl:(backTo pos (starEach es X.env)).any (·.1)=false) :
  PE X (.Call (.Name x p) (e::es) [] pos) (fun σ H Q=>t σ H fun vs H1=>sp vs H1 Q (EX σ)):=by
 intro pins s σ H Q I h;refine wpAny_Call_Name_kw (cJ I hg hm ?_ hdb);refine PySem.W.callWith_K (h₀:=X.base) I.ok.mod.kin hk (thn (ha pos pins s σ H _ I h) fun us s1 ⟨vs,H1,I1,r,q⟩=>⟨I1.kIn,?_⟩) he hpl
 have hl:us.length=ps.length:=by rw[<-r.length];exact F.len _ _ _ _ q
 have hbb:=hb s1 us I1.kIn (by rw[List.append_nil];exact hl);rw[List.append_nil]at hbb;refine wpAny_call (codeAny_mono (F.run X.A X.stack s1 H1 ⟨us,[]⟩ us vs Q (EX σ) hr I1.mJ hbb r q) fun r s' hq=>?_)
 cases r with
 | error e=>exact hx pins σ H1 s1 e s' I1 hq
 |ok fl=>
  cases fl with
  | ret u=>exact I1.after hq
  | next=>exact False.elim hq
  | brk=>exact False.elim hq
  | cont=>exact False.elim hq
end
end L2
namespace RS
open PySem PySem.Spec PyProof.Rows L2
abbrev CO(K:PySem.W.Frag)(x:Str)(C:Addr)(od:Option Addr)(H:Hp):Prop:=Cls K (RL.baseOf x) C/\gy H (RL.fM x) od
abbrev spX(K:PySem.W.Frag)(cl:RL.Cl)(f:Nat):Sp:=fun vs H _ E=>∃ ds x,ag nP K H ds vs/\RL.clX cl f ds=some x/\∀ C od H',CO K x C od H'->aA H H'->E (.ref C) od H'
abbrev tXE(K:PySem.W.Frag)(cl:RL.Cl)(EX:L2.St->XK)(e:RL.E):TE:=fun σ H _=>∃ σD x,RV0 K σD σ H/\RL.evX cl σD e=some x/\∀ C od H1,CO K x C od H1->aA H H1->EX σ (.ref C) od H1
abbrev tXA(K:PySem.W.Frag)(cl:RL.Cl)(EX:L2.St->XK)(es:RL.Es):TA:=fun σ H _=>∃ σD x,RV0 K σD σ H/\RL.gW cl σD es=some x/\∀ C od H1,CO K x C od H1->aA H H1->EX σ (.ref C) od H1
abbrev RE(X:Cx)(EX:L2.St->XK)(cl:RL.Cl)(e:Expr)(e':RL.E):Prop:=PE X e (tXE X.K cl EX e')
abbrev RA(X:Cx)(EX:L2.St->XK)(cl:RL.Cl)(es:List Expr)(es':RL.Es):Prop:=PA X es (tXA X.K cl EX es')
abbrev tXS(K:PySem.W.Frag)(M:List Nat)(EX:L2.St->XK)(r:RL.St->Option (Str × RL.St)):TS:=fun _ σ H=>∃ σD x σD',RVm K M σD σ H/\r σD=some (x,σD')/\∀ σ1 H1 C od,CO K x C od H1->RVm K M σD' σ1 H1->Fr' M σ H σ1 H1->EX σ1 (.ref C) od H1
abbrev RZ(X:Cx)(EX:L2.St->XK)(cl:RL.Cl)(M:List Nat)(st:Stmt)(s:RL.S):Prop:=PS X st (tXS X.K M EX (RL.ip cl M s))
abbrev RZs(X:Cx)(EX:L2.St->XK)(cl:RL.Cl)(M:List Nat)(st:List Stmt)(s:RL.Ss):Prop:=PSs X st (tXS X.K M EX (RL.bj cl M s))
section
variable{st:Stmt}
def bq(h:∀ σD,RL.evX cl σD e'=none):RE X EX cl e e':=fun pins s σ H Q I ⟨σD,x,_,z,_⟩=>by
 rw[h]at z;cases z
def eT(h:∀ σD,RL.ip cl M s' σD=none):RZ X EX cl M st s':=fun pins s σ H Q I ⟨σD,x,_,_,z,_⟩=>by
 rw[h]at z;cases z
def B0:RA X EX cl es .nil:=fun pos pins s σ H Q I ⟨σD,x,_,z,_⟩=>by
 rw[RL.gW]at z;cases z
def y9(he:SE X cl e e')(hx:RE X EX cl e e')(hr:RA X EX cl es es')(hs:starEach (e::es) X.env=(false,eval e X.env)::starEach es X.env):RA X EX cl (e::es) (.cons e' es'):=by
 intro pos pins s σ H Q I h;obtain⟨σD,x,rv,z,k⟩:=h;rw[RL.gW]at z
 cases hev:RL.ev cl σD e' with
 |some d=>
  rw[hev]at z;exact aG he hr hs pos pins s σ H Q I ⟨σD,d,rv,hev,fun v H1 r1=>⟨σD,x,rv.same r1.same,z,fun C od H2 hc sm=>k C od H2 hc (r1.same.trans sm)⟩⟩
 |none=>
  rw[hev]at z;exact aG hx hr hs pos pins s σ H Q I ⟨σD,x,rv,z,k⟩
def xY(F:aR X.prog X.w X.K X.mg X.base (CXE X.prog X.w) k fa fd ps (spX X.K cl f))(hr:aT k X.A)(hg:Gl X x)
 (hm:X.mg x=some (.ref fa))(hk:PySem.W.keepIn X.K (.ref fa)=true)(hb:Binds X.K fd ps [])(hx:∀ pins σ H s e s',Inv X pins σ H s->CXE X.prog X.w X.stack H s (EX σ) e s'->X.xe e s')(he:SEs X cl (e::es) es')(ha:RA X EX cl (e::es) es')(hdb:(x == ("__debug__" : Str))=false)(hn:noStar e=true)(hns:es.all noStar=true) :
  RE X EX cl (.Call (.Name x p) (e::es) [] pos) (.call f es'):=by
 intro pins s σ H Q I h;obtain⟨σD,y,rv,z,k⟩:=h;rw[RL.evX]at z
 cases hev:RL.evs cl σD es' with
 |some ds=>
  rw[hev]at z;exact iT F hr hg hm hk hb hx he hdb (az es hn) (cC hns) pins s σ H Q I ⟨σD,ds,rv,hev,fun vs H1 s1 r1=>⟨ds,y,r1,z,fun C od H2 hc sm=>k C od H2 hc (s1.trans sm)⟩⟩
 |none=>
  rw[hev]at z;exact iT F hr hg hm hk hb hx ha hdb (az es hn) (cC hns) pins s σ H Q I ⟨σD,y,rv,z,k⟩
def lH{s':RL.S}{g:Ends->L2.St->VK}(h:PS X st (fun D σ H=>tXE X.K cl EX e' σ H (g D σ)))(he:∀ σD,RL.ip cl M s' σD=(RL.evX cl σD e').map fun x=>(x,σD)):RZ X EX cl M st s':=by
 refine PS.weak h fun D σ H h=>?_;obtain⟨σD,x,σD',rv,z,k⟩:=h;rw[he]at z;obtain⟨y,z1,z2⟩:=map_some z;cases z2;exact⟨σD,x,rv.rv0,z1,fun C od H1 hc sm=>k σ H1 C od hc (rv.same sm) (Fr'.same sm)⟩
def yR:RZs X EX cl M sts .nil:=fun pins s σ H Q I ⟨σD,x,_,_,z,_⟩=>by
 rw[RL.bj]at z;cases z
def xP:RZs X EX cl M sts (.opn j e' r):=fun pins s σ H Q I ⟨σD,x,_,_,z,_⟩=>by
 rw[RL.bj]at z;cases z
def xj:RZs X EX cl M sts (.act i g tbl a es):=fun pins s σ H Q I ⟨σD,x,_,_,z,_⟩=>by
 rw[RL.bj]at z;cases z
def vz(h1:SS X cl M st s)(h2:RZ X EX cl M st s)(h3:RZs X EX cl M sts r):RZs X EX cl M (st::sts) (.cons s r):=by
 intro pins sh σ H D I h;obtain⟨σD,x,σD',rv,z,k⟩:=h;rw[RL.bj]at z
 cases hev:RL.evS cl M s σD with
 |some p=>
  obtain⟨o,σ1⟩:=p;rw[hev]at z
  cases o with
  | nx=>exact aY h1 h3 pins sh σ H D I ⟨σD,.nx,σ1,rv,hev,fun σ2 H2 rv2 fr2=>⟨σ1,x,σD',rv2,z,fun σ3 H3 C od hc rv3 fr3=>k σ3 H3 C od hc rv3 (fr2.trans fr3)⟩⟩
  | rt d=>cases z
 |none=>
  rw[hev]at z;exact aY h2 h3 pins sh σ H D I ⟨σD,x,σD',rv,z,k⟩
def C9(hc:ST X cl c c')(ha:RZs X EX cl M a a')(hb:RZs X EX cl M b b'):RZ X EX cl M (.If c a b pos) (.ife c' a' b'):=by
 refine PS.weak (j3 hc ha hb) fun D σ H h=>?_;obtain⟨σD,x,σD',rv,z,k⟩:=h;rw[RL.ip]at z;obtain⟨t,z1,z2⟩:=bind_some z;refine⟨σD,t,rv.rv0,z1,fun H1 sm=>?_⟩;have kk:∀ σ1 H2 C od,CO X.K x C od H2->RVm X.K M σD' σ1 H2->Fr' M σ H1 σ1 H2->EX σ1 (.ref C) od H2:=fun σ1 H2 C od hc r f=>k σ1 H2 C od hc r ((Fr'.same sm).trans f)
 cases t with
 | true=>exact dF ⟨σD,x,σD',rv.same sm,z2,kk⟩
 | false=>exact dR ⟨σD,x,σD',rv.same sm,z2,kk⟩
end
section
def qg(h:RL.fC f fx tg (d::ds) σ=some p):d.imm=true/\∃ σ1,RL.bY tg d σ=some σ1 /\
  ((∃ σ2,f σ1=some (.nx,σ2)/\RL.fC f fx tg ds σ2=some p)\/fx σ1=some p):=by
 rw[RL.fC]at h;by_cases him:d.imm=true
 case neg=>rw[if_neg him]at h;cases h
 rw[if_pos him]at h;obtain⟨σ1,h1,h⟩:=bind_some h;refine⟨him,σ1,h1,?_⟩
 cases hf:f σ1 with
 | none=>rw[hf]at h;exact .inr h
 |some q=>
  obtain⟨o,σ2⟩:=q;rw[hf]at h
  cases o with
  | nx=>exact .inl ⟨σ2,rfl,h⟩
  | rt d=>cases h
def Af(hp:PassesOwn (model X.prog X.w) X.A X.env X.xe)(hc:X.calm=true)(hi:SI X cl tgE iter it)(hg:PG X tgE (gT X.K tg))(hb:SSs X cl M body b)(hbx:RZs X EX cl M body b)(hs:∀ x,foldedSetIterable iter X.env x=pure x)(hav:RL.mw M it=true)(hM:∀ i∈tg,M.contains i=false) :
  RZ X EX cl M (.For tgE iter body [] pos) (.forr tg it b):=by
 have both:PSs X body (fun D σ H=>tS X.K M (RL.aB cl M b) D σ H\/tXS X.K M EX (RL.bj cl M b) D σ H):=fun pins s σ H D I h=>h.elim (hb pins s σ H D I) (hbx pins s σ H D I);refine PS.weak (tX hp hc hi hg both hs) fun D σ H h=>?_;obtain⟨σD,x,σD',rv,e,k⟩:=h;rw[RL.ip]at e;obtain⟨ds,e1,e2⟩:=bind_some e;refine⟨σD,ds,rv.rv0,e1,fun J H1 s1 src=>?_⟩
 have ok:eJ X.K J ds (aX M σ) H1:=src.2 M (aX M σ) hav rv.qU fun j dj vj hj h1 h2=>by
  obtain⟨v',h3,h4⟩:=rv.val j dj h1;rw[h2]at h3;cases h3;rw[if_neg (by rw[hj];decide)]at h4;exact h4
 refine⟨fun i m σ2 H2=>∃ σD2,m=ds.length-i/\i<=ds.length/\RVm X.K M σD2 σ2 H2/\Fr' M σ H1 σ2 H2/\RL.fC (RL.aB cl M b) (RL.bj cl M b) tg (ds.drop i) σD2=some (x,σD'),⟨_,σD,rfl,Nat.zero_le _,rv.same s1,Fr'.same (aA.refl _),e2⟩,?_⟩;rintro i m σ2 H2 ⟨σD2,rfl,hi2,rv2,fr2,hl⟩;have off:Off (aX M σ) H1 H2:=fun b o n e=>(fr2.1 b o e n).1;by_cases hlt:i<ds.length
 ·refine .inr ⟨ok.go H2 i off hlt,fun σ' H'=>∃ m',m'<ds.length-i/\∃ σD2,m'=ds.length-(i+1)/\i+1<=ds.length/\RVm X.K M σD2 σ' H'/\Fr' M σ H1 σ' H'/\RL.fC (RL.aB cl M b) (RL.bj cl M b) tg (ds.drop (i+1)) σD2=some (x,σD'),fun σ' H' z=>z,fun y H3 yl=>?_⟩;rw[List.drop_eq_getElem_cons hlt]at hl;obtain⟨him,σ3,h1,h2⟩:=qg hl;obtain⟨s3,rp⟩:=ok.yld H2 i ds[i] y H3 off (by simp[hlt]) yl;obtain⟨dv,vs,q1,q2,q3,q4,q5⟩:=qT h1 (rp (.inl him));refine q5 _ _ ?_;obtain⟨rv3,as3⟩:=(rv2.same s3).bR hM q2 (q4 him) q3
  have fr3:Fr' M σ H1 (c7 tg vs σ2) H3:=⟨fun b o e n=>⟨s3 _ _ (fr2.1 b o e n).1,by rw[as3];exact(fr2.1 b o e n).2⟩,fun j hj=>(iW hM hj).trans (fr2.2 j hj)⟩
  rcases h2 with⟨σ4,h2,h3⟩ | h2
  ·exact .inl ⟨σ3,.nx,σ4,by rw[q1];exact rv3,h2,fun σ' H' rv' fr'=>⟨_,by lia,σ4,rfl,hlt,rv',fr3.trans fr',h3⟩⟩
  ·exact .inr ⟨σ3,x,σD',by rw[q1];exact rv3,h2,fun σ' H' C od hc rv' fr'=>k σ' H' C od hc rv' (((Fr'.same s1).trans fr3).trans fr')⟩
 ·have e:i=ds.length:=by lia
  subst e;rw[List.drop_length,RL.fC]at hl;cases hl
end
end RS
namespace L2
open PySem PySem.Spec PyProof.Rows
open RS (VE)
def xf{K:PySem.W.Frag}(X:K.In h)(q:PySem.W.excIn K C VE "ValueError.__new__" = true):∃ bm N nm qn bs hdct sn sub ab col dd k0 k1 k2 k3 k5 mN,h.get? C=some (excClassObj nm qn C N bs bm hdct sn sub ab col dd k0 k1 k2 k3 k5 "ValueError.__new__")/\h.Ns N mN/\mN "__init__" = none/\OwnTail h VE bm:=by
 unfold PySem.W.excIn at q;split at q
 ·rename_i dd cd sl ho;split at q
  ·rename_i C' bm k0 k1 k2 k3 n k5 hm hs;simp only[Bool.and_eq_true,beq_iff_eq,Bool.not_eq_true']at q;obtain⟨⟨⟨⟨⟨rfl,rfl⟩,hdel⟩,ht⟩,hok⟩,hni⟩:=q;obtain⟨nm,bs,mro,ns,qn,hd,sn,sub,ab,col,del⟩:=cd;dsimp only at hm hdel hok hni;subst hm hdel;obtain⟨l⟩:=sl;simp only at hs;subst hs;exact⟨bm,ns,nm,qn,bs,hd,sn,sub,ab,col,dd,k0,k1,k2,k3,k5,_,X _ _ ho,.of_isNs (PySem.W.isNs_of_in X hok),PySem.W.nsMap_none_of_in X hok hni,PySem.W.tail_of_in X ht⟩
  ·cases q
 ·cases q
def vB{K:PySem.W.Frag}(X:K.In h)(q:RS.mf K C=true):∃ bm N nm qn bs hdct sn sub ab col dd k0 k1 k2 k3 k5,h.get? C=some (excClassObj nm qn C N bs bm hdct sn sub ab col dd k0 k1 k2 k3 k5 "ValueError.__new__")/\OwnTail h VE bm:=by
 unfold RS.mf at q
 replace q:=(Bool.and_eq_true_iff.mp q).1
 unfold RS.jn at q;split at q
 ·rename_i dd cd sl ho;split at q
  ·rename_i C' bm k0 k1 k2 k3 n k5 hm hs;simp only[Bool.and_eq_true,beq_iff_eq,Bool.not_eq_true']at q;obtain⟨⟨⟨rfl,rfl⟩,hdel⟩,ht⟩:=q;obtain⟨nm,bs,mro,ns,qn,hd,sn,sub,ab,col,del⟩:=cd;dsimp only at hm hdel;subst hm hdel;obtain⟨l⟩:=sl;simp only at hs;subst hs;exact⟨bm,ns,nm,qn,bs,hd,sn,sub,ab,col,dd,k0,k1,k2,k3,k5,X _ _ ho,PySem.W.tail_of_in X ht⟩
  ·cases q
 ·cases q
section
variable{EX:St->XK}
def vT(hh:X.A.handled=none)(hg:Gl X x)(hm:X.mg x=some (.ref C))(hdb:(x == ("__debug__" : Str))=false)(q:PySem.W.excIn X.K C VE "ValueError.__new__" = true)(hk:∀ pins σ H s h' e vs,Inv X pins σ H s->Heap.MadeExcOf s.heap h' e (.ref C) vs->EX σ (.ref C) none H->X.xe (.ref e) { s with heap:=h' })
 (ha:PA X [arg] (dZ ta hV))(hs:starEach [arg] X.env=[(false,eval arg X.env)]):PS X (.Raise (some (.Call (.Name x np) [arg] [] cpos)) none pos) (fun _ σ H=>ta σ H fun v H1=>[v].length<=sizeLine/\EX σ (.ref C) none H1):=by
 intro pins s σ H D I h;obtain⟨bm,N,nm,qn,bs,hdct,sn,sub,ab,col,dd,k0,k1,k2,k3,k5,mN,hC,hN,hni,T⟩:=xf I.ok.mod.kin q;refine wpAny_Raise_call_subT (C:=C) (nm:=nm) (q:=qn) (N:=N) (bs:=bs) (bm:=bm) (hdct:=hdct) (sn:=sn) (sub:=sub) (ab:=ab) (col:=col) (dd:=dd) (k0:=k0) (k1:=k1) (k2:=k2) (k3:=k3) (k5:=k5) PySem.F.excBase_ValueError (mN:=mN) (T.hasType PySem.F.excBase_ValueError.hasBase) hh (by rw[hs];rfl) hni (cJ I hg hm ⟨rfl,?_⟩ hdb);have ha':=ha cpos pins s σ H (fun vs H1=>vs.length<=sizeLine/\EX σ (.ref C) none H1) I h;rw[hs]at ha' ⊢;refine Calls.evalArgs_plain (thn ha' fun us s1 ⟨vs,H1,I1,r,q1⟩=>?_);exact⟨rfl,by rw[<-r.length];exact q1.1,I1.bk _ _ hC,hN.keeps I1.bk,T.keeps I1.bk,fun h' e m=>hk pins σ H1 s1 h' e us I1 m q1.2⟩
abbrev PJ(X:Cx)(vs:List Expr)(t:TA):Prop:=∀ (pins:List (Addr × Obj)) (s:Shared) (σ:St) (H:Hp) (Q:Hp->Prop) (out:Str),Inv X pins σ H s->t σ H (fun _ H1=>Q H1)->out.length+3000*vs.length<=sizeLine->wpAny (model X.prog X.w) X.A (joinParts out (evalEach vs X.env)) (EP X pins σ fun v H1=>(∃ x,v=.str x)/\Q H1) X.xe s
def rq:PJ X [] hV:=fun pins s σ H Q out I h z=>joinParts_nil (out:=out) ⟨.str out,H,I.tok _,⟨_,rfl⟩,⟨_,rfl⟩,h⟩ (by simpa using z)
def jX(h:PJ X vs t)(hy:y.length<=3000):PJ X (.Constant (.str y) k p::vs) t:=fun pins s σ H Q out I q z=>by
 have hz:(out++y).length+3000*vs.length<=sizeLine:=by
  rw[strLen_append];rw[List.length_cons]at z;omega
 refine joinParts_cons (Calls.Constant_str ⟨by omega,?_⟩);exact h pins _ σ H Q (out++y) (I.tok _) q hz
abbrev rO(te:TE)(t:TA):TA:=fun σ H Q=>te σ H fun v H1=>∃ i,v=.int i/\i.natAbs<2 ^ 1900/\t σ H1 Q
def sP(he:PE X e te)(h:PJ X vs t):PJ X (.FormattedValue e (-1) none p::vs) (rO te t):=fun pins s σ H Q out I q z=>by
 refine joinParts_cons (FormattedValue_plain (thn (he pins s σ H _ I q) fun u s1 ⟨v,H1,I1,r1,i,hv,hi,q1⟩=>?_));subst hv;obtain⟨tk,rfl⟩:=r1
 have hl:i.natAbs.log2<1920:=by
  by_cases h0:i.natAbs=0
  ·rw[h0];decide
  ·exact Nat.lt_trans ((Nat.log2_lt h0).mpr hi) (by decide)
 have hy:(Str.ofString (toString i)).length<=1921:=by
  rw[PySem.ofString_length];exact int_text_length_le (by decide) hl
 have hz:(out++Str.ofString (toString i)).length+3000*vs.length<=sizeLine:=by
  rw[strLen_append];rw[List.length_cons]at z;omega
 refine formatField_int_small hl ⟨?_,?_⟩
 ·exact Nat.le_trans (Nat.le_add_right _ _) hz
 ·exact h pins _ σ H1 Q _ ((I1.tok _).tok _) q1 hz
def lg(h:PJ X (v::v2::vs) t)(hn:vs.length<=100):PE X (.JoinedStr (v::v2::vs) pos) (fun σ H Q=>t σ H fun _ H1=>∀ x,Q (.str x) H1):=by
 intro pins s σ H Q I q;refine JoinedStr_many (thn (h pins s σ H (fun H1=>∀ x,Q (.str x) H1) Str.empty I q ?_) fun u s1 ⟨v,H1,I1,r1,⟨x,hv⟩,q1⟩=>⟨v,H1,I1,r1,by rw[hv];exact q1 x⟩);rw[List.length_cons,List.length_cons,sizeLine_eq];have:Str.empty.length=0:=rfl;omega
end
open PySem.Builtin PySem.Builtin.ObjectAttr PySem.W
open Sem (wp)
abbrev Dy(w:World)(name:Str)(tk:Tok)(v:Value):Obj:={ cls:=.type "dict",data:=.dict #[⟨PyData.keyHash w.params name,.str name tk,v⟩] 1 }
def oJ{hh:Int}:Obj.putName name hh (.str name tk) v { cls:=.type "dict",data:=.dict #[] }={ cls:=.type "dict",data:=.dict #[⟨hh,.str name tk,v⟩] 1 }:=by
 rw[Obj.putName_eq];simp[Obj.putNameByArray]
def tm{K:Frag}{cd:ClassData}{Q:Unit->Shared->Prop}(X:K.In s.heap)(hx:s.heap.get? x=some ox)(hc:ox.cls=.ref C)(hd:ox.dict=none)(hf:ox.data=.fields vs)
 (hs:findIn K (.ref C) "__setattr__" = some (some (.builtin "object.__setattr__")))(hcd:clsIn K C=some cd)(hh:cd.hasDict=true)(hp:∀ self,refuseLoop self "__setattr__" cd.mro=pure ())
 (ho:mroIn K C (.type "object")=some true)(ht:findIn K (.ref C) name=some none)
 (h:∀ h':Heap,h'.get? x=some { ox with dict:=some s.heap.objs.size }->h'.get? s.heap.objs.size=some (Dy w name (s.toks+1) v)->(∀ b,b≠x->b≠s.heap.objs.size->h'.get? b=s.heap.get? b)->h'.objs.size=s.heap.objs.size+1 ->
   Q () { s with heap:=h',toks:=s.toks+1+1 }):wpAny (model prog w) A (setAttr (.ref x) name v) Q E s:=by
 obtain⟨oc,odi,oda,osl⟩:=ox;dsimp only at hc hd hf;subst hc hd hf
 have I:InstAt s.heap x { cls:=.ref C,dict:=none,data:=.fields vs,slots:=osl } C none:=⟨hx,rfl,rfl,trivial⟩
 refine set_plain X I hs ?_;have SF:=PySem.F.store_object;have sub:Looks (model prog w) s.heap (isInstance (.ref x) (.type "object")) true:=I.type.andThen (looks_mroIn X ho);refine codeAny_call_builtin SF.slot.plain SF.entry (@check_slot (model prog w) _ _ { s with toks:=s.toks+1 } "object.__setattr__" "object" "__setattr__" (.ref x) [.str name s.toks,v] [] _ SF.kind SF.split sub (SF.args (.ref x) (.str name s.toks) v) ?_);have hm:Looks (model prog w) s.heap (mroOf (.ref C)) cd.mro:=(looks_clsIn X hcd).andThen .now;rw[osa_eq,refuse_eq];refine wpAny_bind (wpAny_bind (I.type _ _ _ _ (fun _ _ e=>e) (wpAny_bind (hm _ _ _ _ (fun _ _ e=>e) ?_))));rw[hp];refine wpAny_pure (wpAny_bind (I.type _ _ _ _ (fun _ _ e=>e) (wpAny_bind (looks_findIn X ht _ _ _ _ (fun _ _ e=>e) (wpAny_bind (wpAny_pure ?_))))));dsimp only;have hxs:x≠s.heap.objs.size:=Nat.ne_of_lt (Heap.lt_size hx);have hx₁:(s.heap.push { cls:=.type "dict",data:=.dict #[] }).get? x=some { cls:=.ref C,dict:=none,data:=.fields vs,slots:=osl }:=Heap.get?_push_of_some _ hx
 have D:((s.heap.push { cls:=.type "dict",data:=.dict #[] }).update x fun o=>{ o with dict:=some s.heap.objs.size }).get? s.heap.objs.size=some { cls:=.type "dict",data:=.dict #[] } :=
  (Heap.get?_update_ne _ _ _ _ hxs.symm).trans (Heap.get?_push_at rfl rfl)
 refine wpAny_bind (wpAny_pure (wpAny_bind (wpAny_bind (wpAny_loadPart hx (wpAny_bind (looks_clsIn X hcd _ _ _ _ (fun _ _ e=>e) ?_))))));rw[hh];refine wpAny_bind (wpAny_alloc' ?_);refine wpAny_bind (wpAny_update' hx₁ ?_);refine wpAny_pure ?_;show wpAny _ _ (storeInDict s.heap.objs.size (.str name s.toks) name v) _ _ _;unfold storeInDict newKeyGuard;refine wpAny_bind (wpAny_pure (wpAny_bind ?_));unfold nsSet;refine wpAny_bind (wpAny_bind (wpAny_askSetting (wpAny_pure (wpAny_bind (wpAny_mkText (wpAny_bind (wpAny_loadPart D ?_)))))));dsimp only
 have c:(!(#[]:Array DictEntry).any (·.key.isStr name)&&(#[]:Array DictEntry).any (·.refKey))=false:=by simp
 rw[aRefKeyMayBeTheName_at,c];refine wpAny_updatePart D ?_;have D':=Heap.get?_update_self (Obj.putName name (PyData.keyHash w.params name) (.str name (s.toks+1)) v) D (by rw[oJ];rfl);rw[oJ]at D';refine wpAny_bind (wpAny_lookBehind D' (pastItsLine_dict (by rw[sizeLine_eq];simp)) ?_);refine wpAny_pure (h _ ?_ D' (fun b h1 h2=>?_) ?_)
 ·exact(Heap.get?_update_ne _ _ _ _ hxs).trans (Heap.get?_update_self _ hx₁ rfl)
 ·refine(Heap.get?_update_ne _ _ _ _ h2).trans ((Heap.get?_update_ne _ _ _ _ h1).trans ?_);exact Heap.get?_push_ne _ _ _ h2
 ·simp
open Sem (wp)
section
variable{prog:Program}{w:World}{A:Around}{E:Value->Shared->Prop}{h:Heap}{g:Array GenState}{d:Drawn}{t:Nat}{os:OsState}
variable{nm q:Str}{C N:Addr}{bs bm bmB:List Value}{hdct:Bool}{sn:List Str}{sub:List Value}{ab:Bool}{col:Option Bool}{dd:Option Addr}{k0 k1 k2 k3 k5:Option Value}{B newId initId:String}
end
section
variable{K:Frag}{prog:Program}{w:World}{A:Around}{E:Value->Shared->Prop}{s:Shared}{D x:Addr}{ox od:Obj}{Q:Value->Shared->Prop}
end
section
variable{prog:Program}{w:World}{A:Around}{E:Value->Shared->Prop}{h:Heap}{g:Array GenState}{d:Drawn}{t:Nat}{os:OsState}
variable{nm q:Str}{C N:Addr}{bs bm bmB:List Value}{hdct:Bool}{sn:List Str}{sub:List Value}{ab:Bool}{col:Option Bool}{dd:Option Addr}{k0 k1 k2 k3 k5:Option Value}{B newId initId:String}
def pN(F:ExcBaseFacts B newId initId bmB)(T:OwnTail h bmB bm){e t0:Addr}{rest:List Value}{Q:Value->Shared->Prop}
 (hC:h.get? C=some (excClassObj nm q C N bs bm hdct sn sub ab col dd k0 k1 k2 k3 k5 newId))
 (he:h.get? e=some { cls:=.ref C,data:=.fields #[.ref t0,.none,.none,.none,.bool false,.none] })
 (hq:∀ h':Heap,h'.get? e=some { cls:=.ref C,data:=.fields #[.ref h.objs.size,.none,.none,.none,.bool false,.none] }->h'.get? h.objs.size=some { cls:=.type "tuple",data:=.seq rest.toArray } ->
   (∀ b,b≠e->b≠h.objs.size->h'.get? b=h.get? b)->h'.objs.size=h.objs.size+1->Q .none ⟨h',g,d,t,os⟩)(hrest:rest.length<=sizeLine:=by size_fits) :
  wpAny (model prog w) A (call (.builtin initId) (.ref e::rest)) Q E ⟨h,g,d,t,os⟩:=by
 have hes:e≠h.objs.size:=Nat.ne_of_lt (Heap.lt_size he);refine wpAny_call (codeAny_call_builtin F.init.plain F.initEntry (wpAny_check_init_subT F T hC he rfl ?_))
 wp_walk
 refine hq _ ?_ ?_ (fun b h1 h2=>?_) ?_
 ·exact Heap.get?_update_self _ (Heap.get?_push_of_some _ he) rfl
 ·exact(Heap.get?_update_ne _ _ _ _ hes.symm).trans (Heap.get?_push_at rfl rfl)
 ·exact(Heap.get?_update_ne _ _ _ _ h1).trans (Heap.get?_push_ne _ _ _ h2)
 ·simp
end
open RS (VE)
abbrev Ex0(C t e:Addr):Heap->Prop:=fun h=>h.get? e=some { cls:=.ref C,data:=.fields #[.ref t,.none,.none,.none,.bool false,.none] }
abbrev Ex1(C t n e:Addr):Heap->Prop:=fun h=>h.get? e=some { cls:=.ref C,dict:=some n,data:=.fields #[.ref t,.none,.none,.none,.bool false,.none] }
abbrev hU(hh:Int)(tk:Tok)(i:Nat)(tk':Tok):Obj:={ cls:=.type "dict",data:=.dict #[⟨hh,.str "at" tk,.int i tk'⟩] 1 }
def tQ(he:h.get? e=some o):aU P w H h e (.ext fun h=>h.get? e=some o):=⟨he,⟨_,he⟩,fun _ _ a b=>b _ a⟩
structure gC(K:PySem.W.Frag)(R C fI:Addr):Prop where
 obj:∃ bm N nm qn bs hdct sn sub ab col dd k0 k1 k2 k3 k5,K.lookup C=some (excClassObj nm qn C N bs bm hdct sn sub ab col dd k0 k1 k2 k3 k5 "ValueError.__new__")/\PySem.W.tailIn K VE bm=true/\PySem.W.nsOkIn K N=true/\PySem.W.nsIn K N "__init__" = some (some (.ref fI))
 rd:PySem.W.readsIn K R (.type "type")=true
 fc:PySem.W.findCls K (.ref R) (.type "type") "__init__" = some (.val (.builtin "ValueError.__init__"))
 sp:PySem.W.specialIn K (.ref R) "__getattribute__" = some (some (.builtin "type.__getattribute__"))
 sa:PySem.W.findIn K (.ref C) "__setattr__" = some (some (.builtin "object.__setattr__"))
 cd:∃ cd,PySem.W.clsIn K C=some cd/\cd.hasDict=true/\∀ self,refuseLoop self "__setattr__" cd.mro=pure ()
 mo:PySem.W.mroIn K C (.type "object")=some true
 na:PySem.W.findIn K (.ref C) "at" = some none
 kp:PySem.W.keepIn K (.ref C)=true
 fn:∃ o,K.lookup fI=some o/\o.cls=.type "function"
section
variable{K:PySem.W.Frag}
def xk{N:Addr}{mg:Str->Option Value}(X:K.In hp)(G:hp.Ns N mg)(e:PySem.W.nsIn K N n=some (some v)):mg n=some v:=by
 obtain⟨o,es,ep,ho,hd,_,hf⟩:=G;unfold PySem.W.nsIn at e;split at e
 ·rename_i c d es' n' sl q;have:=X _ _ q;rw[ho]at this;cases this;cases hd;split at e
  ·rename_i en he;cases e;rw[<-hf];unfold nsFind findBy;rw[<-Array.find?_toList,he];rfl
  ·split at e<;>cases e
 ·cases e
def gC.cls(h:gC K R C fI)(X:K.In hp):∃ bm N nm qn bs hdct sn sub ab col dd k0 k1 k2 k3 k5 mN,hp.get? C=some (excClassObj nm qn C N bs bm hdct sn sub ab col dd k0 k1 k2 k3 k5 "ValueError.__new__")/\hp.Ns N mN/\mN "__init__" = some (.ref fI)/\OwnTail hp VE bm:=by
 obtain⟨bm,N,nm,qn,bs,hdct,sn,sub,ab,col,dd,k0,k1,k2,k3,k5,l,t,o,i⟩:=h.obj;have G:hp.Ns N _:=.of_isNs (PySem.W.isNs_of_in X o);exact⟨bm,N,nm,qn,bs,hdct,sn,sub,ab,col,dd,k0,k1,k2,k3,k5,_,X _ _ l,G,xk X G i,PySem.W.tail_of_in X t⟩
end
section
def yb(k:gC X.K R C fI)(hg:Gl X x)(hm:X.mg x=some (.ref R))(hdb:(x == ("__debug__" : Str))=false)(ha:PA X [a1,a2] t)(hst:starEach [a1,a2] X.env=(false,eval a1 X.env)::starEach [a2] X.env)(hpl:(backTo pos (starEach [a2] X.env)).any (·.1)=false)
 (hline:(apos.endLine == pos.line)=true)(hform:methodCallForm 2 (backTo pos (starEach [a1,a2] X.env)) (backToKw pos (keywordEach [] X.env))=true) :
  PE X (.Call (.Attribute (.Name x np) "__init__" apos) [a1,a2] [] pos) (fun σ H Q=>t σ H fun vs H1=>∃ e t0 y,vs=[.ref e,.str y]/\H1 e=some (.ext (Ex0 C t0 e))/\∀ t1,Q .non (upd H1 e (.ext (Ex0 C t1 e)))):=by
 intro pins s σ H Q I h;rw[arm_eval_Call,show attributeBase (.Name x np) "__init__" X.env (eval (.Name x np) X.env)=eval (.Name x np) X.env from rfl];refine wpAny_bind (cJ I hg hm ?_ hdb);refine wpAny_bind (wpAny_standAt ?_)
 have hpos:methodCallPos true (.Name x np) X.env apos pos=pure pos:=by unfold methodCallPos;simp[hline]
 unfold methodCall;rw[show methodCallForm ([a1,a2].length+([]:List Keyword).length) (backTo pos (starEach [a1,a2] X.env)) (backToKw pos (keywordEach [] X.env))=true from hform];refine wpAny_bind (wpAny_holding (PySem.W.method_cls I.kIn k.sp (PySem.W.cls_value I.kIn k.rd k.fc rfl ?_)));refine wpAny_bind (wpAny_of_eq hpos ?_);refine PyProof.Rows.callWith_builtin1 (thn (ha pos pins _ σ H _ (I.tok _) h) fun us s1 ⟨vs,H1,I1,r,e,t0,y,hvs,he,q⟩=>?_) hst hpl;subst hvs;obtain⟨bm,N,nm,qn,bs,hdct,sn,sub,ab,col,dd,k0,k1,k2,k3,k5,mN,hC,_,_,T⟩:=k.cls I1.kIn
 cases r with
 |cons r1 r2=>
  cases r1;obtain⟨h1,g,d,tk,os⟩:=s1;have ho:h1.get? e=some { cls:=.ref C,data:=.fields #[.ref t0,.none,.none,.none,.bool false,.none] }:=(I1.hok e _ he).1
  refine pN PySem.F.excBase_ValueError T hC ho (fun h' w1 w2 w3 w4=>?_) (by
   rw[<-r2.length];show 1<=sizeLine
   decide)
  refine⟨.non,_,I1.write (x:=e) (e:=e) (t':=tk) (by rw[he];exact True.intro) (.inl rfl) (fun b u hb z=>(w3 b hb (Nat.ne_of_lt (Heap.lt_size z))).trans z) ⟨_,w1⟩ (tQ w1),rfl,q h1.objs.size⟩
def uf(k:gC X.K R C fI)(ha:PE X o ta)(hv:PE X value tv)(hs:swapsWith value (some (.Attribute o "at" pos')) pos.line X.env=pure false) :
  PS X (.Assign [.Attribute o "at" pos'] value pos) (fun D σ H=>tv σ H fun y H1=>ta σ H1 fun x H2=>∃ (e t0:Addr) (i:Nat),x=.ref e/\y=.int i/\H2 e=some (.ext (Ex0 C t0 e)) /\
   ∀ n hh tk tk',H2 n=none->n≠e->D.nx σ (upd (upd H2 n (.frz (hU hh tk i tk') (.ext fun _=>True))) e (.ext (Ex1 C t0 n e)))):=by
 intro pins s σ H D I h;refine plainObj_wpAny_Assign_Attribute (thn (hv pins s σ H _ I h) fun u s1 ⟨y,H1,I1,ry,q⟩=>thn (ha pins s1 σ H1 _ I1 q) fun ov s2 ⟨x,H2,I2,rx,e,t0,i,ex,ey,he,q2⟩=>?_) hs;subst ex ey;obtain rfl:ov=Value.ref e:=rx;obtain⟨tk',rfl⟩:=ry;have ho:s2.heap.get? e=some { cls:=.ref C,data:=.fields #[.ref t0,.none,.none,.none,.bool false,.none] }:=(I2.hok e _ he).1;obtain⟨cd,c1,c2,c3⟩:=k.cd;refine tm I2.kIn ho rfl rfl rfl k.sa c1 c2 c3 k.mo k.na fun h' w1 w2 w3 w4=>?_;have hn:H2 s2.heap.objs.size=none:=I2.hok.fresh (Nat.le_refl _);have hne:s2.heap.objs.size≠e:=Nat.ne_of_gt (Heap.lt_size ho);refine⟨σ,_,?_,q2 s2.heap.objs.size (PyData.keyHash X.w.params "at") (s2.toks+1) tk' hn hne⟩;have g1:(s2.heap.push (hU (PyData.keyHash X.w.params "at") (s2.toks+1) i tk')).get? s2.heap.objs.size=some (hU (PyData.keyHash X.w.params "at") (s2.toks+1) i tk'):=Heap.get?_push_at rfl rfl;have J:=I2.laid (h':=s2.heap.push (hU (PyData.keyHash X.w.params "at") (s2.toks+1) i tk')) (a:=s2.heap.objs.size) (o:=.frz (hU (PyData.keyHash X.w.params "at") (s2.toks+1) i tk') (.ext fun _=>True)) (t':=s2.toks+1+1) (fun b u z=>Heap.get?_push_of_some _ z) (Nat.le_refl _) ⟨g1,True.intro,⟨_,g1⟩,fun _ _ _ _=>True.intro⟩;refine J.write (x:=e) (e:=e) (h':=h') (t':=s2.toks+1+1) (by rw[aw (Ne.symm hne),he];exact True.intro) (.inl rfl) (fun b u hb z=>?_) ⟨_,w1⟩ (tQ w1);by_cases hbn:b=s2.heap.objs.size
 ·subst hbn;have z:(s2.heap.push (hU (PyData.keyHash X.w.params "at") (s2.toks+1) i tk')).get? s2.heap.objs.size=some u:=z;rw[g1]at z;cases z;exact w2
 ·have z:(s2.heap.push (hU (PyData.keyHash X.w.params "at") (s2.toks+1) i tk')).get? b=some u:=z;rw[w3 b hb hbn];rw[Heap.get?_push_ne _ _ _ hbn]at z;exact z
end
end L2
set_option exponentiation.threshold 2000
namespace L2
open PySem PySem.Spec PyProof.Rows
open RS (VE)
def tG{H:Hp}(h:n≠e):upd (upd (upd H e a) n b) e c=upd (upd H n b) e c:=by
 funext x;by_cases hx:x=e
 ·subst hx;rw[aC,aC]
 ·rw[aw hx,aw hx];by_cases hn:x=n
  ·subst hn;rw[aC,aC]
  ·rw[aw hn,aw hn,aw hx]
abbrev spI(C:Addr):Sp:=fun vs H Q _=>∃ (e t0:Addr) (i:Nat),vs=[.ref e,.int i]/\i<2 ^ 1900/\H e=some (.ext (Ex0 C t0 e)) /\
 ∀ n t1 hh tk tk',H n=none->n≠e->Q .non (upd (upd H n (.frz (hU hh tk i tk') (.ext fun _=>True))) e (.ext (Ex1 C t1 n e)))
structure wq(st:Stmt):Prop where
 body:∃ (np ap p2 p3 p4 p5 p6 cp p7 p8 ap2 p9 p10 p11:Pos) (y1 y2:Str) (k1 k2:Nat),aZ st=[.Expr (.Call (.Attribute (.Name "RibbonError" np) "__init__" ap) [.Name "self" p2,.JoinedStr [.Constant (.str y1) k1 p3,.FormattedValue (.Name "at" p4) (-1) none p5,.Constant (.str y2) k2 p6] p7] [] cp) p8,.Assign [.Attribute (.Name "self" p9) "at" ap2] (.Name "at" p10) p11] /\
  y1.length<=3000/\y2.length<=3000/\(ap.endLine == cp.line)=true
 sc:cx ["self", "at"] ["self", "at"] (aq st)
 g:(aq st).names.lookup ("RibbonError" : Str)=some .globalImplicit
 v1:(aq st).names.lookup ("self" : Str)=some .local
 v2:(aq st).names.lookup ("at" : Str)=some .local
def oZ{K:PySem.W.Frag}{st:Stmt}(k:gC K R C fI)(T:wq st)(F:Fun K "__init__" qual st fI fd)(hm:mg "RibbonError" = some (.ref R)):aR P w K mg base CX0 1 fI fd ["self", "at"] (spI C):=by
 obtain⟨np,ap,p2,p3,p4,p5,p6,cp,p7,p8,ap2,p9,p10,p11,y1,y2,k1,k2,hb,l1,l2,hl⟩:=T.body;refine Fun.ok F T.sc (fun vs H Q E h=>?_) fun cdv A outer s H vs Q E hr h=>?_
 ·obtain⟨e,t0,i,rfl,_⟩:=h;rfl
 ·rw[hb];obtain⟨e,t0,i,rfl,hi,he,q⟩:=h;generalize hX:(cM CX0 P w K mg base ["self", "at"] qual (aq st) fI cdv A outer s H E).nox=X
  have eN:X.N=(["self", "at"]:List Str):=by rw[<-hX];rfl
  have eK:X.K=K:=by rw[<-hX];rfl
  have eM:X.mg=mg:=by rw[<-hX];rfl
  have eS:X.env.scope=aq st:=by rw[<-hX];rfl
  have g:Gl X "RibbonError" := by rw[<-hX];exact T.g
  have pv1:∀ p,PE X (.Name "self" p) (cA 0):=fun p=>bz (by rw[eN];rfl) (by rw[eS];exact .inl T.v1) (by decide) (by decide);have pv2:∀ p,PE X (.Name "at" p) (cA 1):=fun p=>bz (by rw[eN];rfl) (by rw[eS];exact .inl T.v2) (by decide) (by decide);rw[<-eK]at k;have pj:=lg (X:=X) (pos:=p7) (jX (k:=k1) (p:=p3) (y:=y1) (sP (p:=p5) (pv2 p4) (jX (k:=k2) (p:=p6) (y:=y2) rq l2)) l1) (show 1<=100 by decide);have s1:=dO (X:=X) (pos:=p8) (yb (x := "RibbonError") (np:=np) (apos:=ap) (pos:=cp) k g (by rw[eM];exact hm) (by decide) (aG (pv1 p2) (aG pj bf rfl) rfl) rfl rfl hl rfl) rfl;have s2:=uf (X:=X) (pos:=p11) (pos':=ap2) k (pv1 p9) (pv2 p10) rfl;refine⟨_,aY s1 (aY s2 fk),?_⟩;refine⟨.ref e,rfl,.int i,rfl,i,rfl,by simpa using hi,fun x=>⟨e,t0,x,rfl,he,fun t1=>?_⟩⟩;refine⟨.int i,rfl,.ref e,rfl,e,t1,i,rfl,rfl,aC,fun n hh tk tk' hn hne=>?_⟩;rw[tG hne];exact q n t1 hh tk tk' ((aw hne).symm.trans hn) hne
end L2
set_option exponentiation.threshold 2000
namespace L2
open PySem PySem.Spec PyProof.Rows
open RS (VE gy)
structure uy(X:Cx)(H:Hp)(s:Shared)(C:Addr)(f:Option Nat)(e:Addr)(od:Option Addr)(H':Hp)(s':Shared):Prop where
 os:s'.os=s.os
 bare:AllBare s'.gens
 un:Un (frs X.stack) [] H H' s.heap s'.heap
 hok:HOk X.prog X.w H' s'.heap
 fld:gy H' f od
 ex:Exc (dM s.heap H') e C od false s'.heap
 sm:aA H H'
 ob:∃ t,s'.heap.get? e=some { cls:=.ref C,dict:=od,data:=.fields #[.ref t,.none,.none,.none,.bool false,.none] }
def Inv.newX(I:Inv X pins σ H s)(hex:X.ex=[])(nx:uy X H s C f e od H' s'):Inv X pins σ H' s'/\Exc (dM X.s₀.heap H') e C od false s'.heap :=
 ⟨I.lL (ch:=[]) nx.os nx.un nx.hok nx.bare (fun b z=>absurd z (by simp)),nx.ex.mono fun b hb=>hb.imp (fun⟨o,q⟩=>I.old hex q) fun z=>z⟩
section
end
open RS (VE)
section
variable{K:PySem.W.Frag}{k0 k1 k2 k3 k5:Option Value}{es:Array DictEntry}{hdct:Bool}{od:Option Addr}{ep:Nat}{sl:Array (Option Value)}
end
end L2
namespace RS
open PySem PySem.Spec PyProof.Rows L2
end RS
namespace L2
open PySem PySem.Spec PyProof.Rows
section
variable{prog:Program}{w:World}{A:Around}{E:Value->Shared->Prop}{s:Shared}
end
end L2
namespace RS
open PySem PySem.Spec PyProof.Rows L2
end RS
namespace L2
open PySem PySem.Spec PyProof.Rows
abbrev Itx(x:Str):It:=⟨fun i _=>i<x.cps.size,fun i H v H'=>H'=H/\∃ c,x.cps[i]?=some c/\v=.str ⟨#[c]⟩,fun i _=>x.cps.size<=i⟩
def u6{P:Program}{w:World}{K:PySem.W.Frag}{tg:Expr}(x:Str)(t:Tok)(it:Addr):Turn P w K tg (Itx x) [it] it (fun i h=>h.IsStrIter it (strIterType x) x t i) where
 mem:=by simp
 obj:=fun i h st b hb=>by
  have e:b=it:=by simpa using hb
  subst e;obtain⟨o,e,c,d⟩:=st;exact⟨o,e,fun v z=>by rw[d]at z;cases z⟩
 keep:=fun i h h' st k=>let ⟨o,e,r⟩:=st;⟨o,k it (by simp) o e,r⟩
 item:=by
  intro X hP hw hK hc i pins s σ H E I hf st hg;subst hP hw hK;have hg:i<x.cps.size:=hg;obtain⟨f0,f1,f2,f3,f4,f5⟩:=hf it (by simp)
  have hx:x.cps[i]?=some x.cps[i]:=by simp[hg]
  have fin:∀ h',h'.IsStrIter it (strIterType x) x t (i+1)->Heap.SameBut it s.heap h'->(∃ u,some (Value.str ⟨#[x.cps[i]]⟩ s.toks)=some u /\
    wpAny (model X.prog X.w) X.A (letOwnedTupleGo tg (.ref it) u) (fun _ s2=>∃ y H',Inv X pins σ H' s2/\RelV y u/\(Itx x).yld i H y H'/\s2.heap.IsStrIter it (strIterType x) x t (i+1)/\∀ b∈[it],H' b=none) E { s with heap:=h',toks:=s.toks+1 }):=fun h' st' sb=>by
   have I1:Inv X pins σ H { s with heap:=h',toks:=s.toks+1 }:=I.turned (t':=s.toks+1) (fun b o hb e=>(sb.2 b hb).trans e) f0 f1 f3 f4 f5;obtain⟨o,e,c,d⟩:=id st'
   have hn:["enumerate", "zip", "dict_itemiterator", "dict_reverseitemiterator", "odict_iterator", "itertools.zip_longest", "itertools.pairwise"].contains (strIterType x)=false:=by
    unfold strIterType;split<;>decide
   exact⟨_,rfl,j8 (s:={ s with heap:=h',toks:=s.toks+1 }) e c d hn ⟨.str ⟨#[x.cps[i]]⟩,H,I1,⟨_,rfl⟩,⟨rfl,_,hx,rfl⟩,st',fun b hb=>(hf b hb).1⟩⟩
  cases ha:x.cps.all (·<128)with
  |true=>
   have ht:strIterType x = "str_ascii_iterator" := by simp[strIterType,ha]
   rw[ht]at st;exact wpAny_pyNext_ascii_item st hx fun h' st' sb=>fin h' (by rw[ht];exact st') sb
  |false=>
   have ht:strIterType x = "str_iterator" := by simp[strIterType,ha]
   rw[ht]at st;exact wpAny_pyNext_wide_item st hx fun h' st' sb=>fin h' (by rw[ht];exact st') sb
 done:=by
  intro X hP hw hK hc i pins s σ H E I hf st hg;subst hP hw hK;have hg:x.cps.size<=i:=hg;obtain⟨f0,f1,f2,f3,f4,f5⟩:=hf it (by simp)
  have hx:x.cps[i]?=none:=by simp[hg]
  have fin:∀ h',Heap.ExtBut it s.heap h'->(none:Option Value)=none/\Inv X pins σ H { s with heap:=h' }:=fun h' eb=>⟨rfl,I.turned (t':=s.toks) (fun b o hb e=>eb b o hb e) f0 f1 f3 f4 f5⟩
  cases ha:x.cps.all (·<128)with
  |true=>
   have ht:strIterType x = "str_ascii_iterator" := by simp[strIterType,ha]
   rw[ht]at st;exact wpAny_pyNext_ascii_end (I.ok.hd.1 hc) st hx fin
  |false=>
   have ht:strIterType x = "str_iterator" := by simp[strIterType,ha]
   rw[ht]at st;exact wpAny_pyNext_wide_end (I.ok.hd.1 hc) st hx fin
 self:=fun A i s Q E st h=>by
  cases ha:x.cps.all (·<128)with
  |true=>
   have ht:strIterType x = "str_ascii_iterator" := by simp[strIterType,ha]
   rw[ht]at st;exact wpAny_pyIter_striter_ascii st h
  |false=>
   have ht:strIterType x = "str_iterator" := by simp[strIterType,ha]
   rw[ht]at st;exact wpAny_pyIter_striter_wide st h
def Ap{X:Cx}{tg l:Expr}{tl:TE}(hl:PE X l tl):PI X tg l (fun σ H R=>tl σ H fun y H1=>∃ x,y=.str x/\R (Itx x) H1):=by
 intro pins s σ H R I h;refine thn (hl pins s σ H _ I h) fun v s1 ⟨y,H1,I1,r1,x,e,q⟩=>?_;subst e;obtain⟨t,rfl⟩:=r1;refine wpAny_pyIter_strU ⟨s1.heap.objs.size,[s1.heap.objs.size],_,_,H1,rfl,I1.kept (t':=s1.toks) fun b o e=>Heap.get?_push_of_some _ e,u6 x t _,⟨_,Heap.get?_push_size _ rfl,rfl,rfl⟩,fun b hb=>?_,q⟩;rw[show b=s1.heap.objs.size by simpa using hb];exact I1.ja (Nat.le_refl _) (I1.hok.fresh (Nat.le_refl _))
end L2
namespace RS
open PySem PySem.Spec PyProof.Rows L2
def tq{K:PySem.W.Frag}{H:Hp}{x:Str}{P:Addr->Prop}:eJ K (Itx x) (x.cps.toList.map fun c=>RL.D.str ⟨#[c]⟩) P H where
 go:=fun H' i k hi=>by show i<x.cps.size;simpa using hi
 stop:=fun H' k=>by show x.cps.size<=_;simp
 yld:=fun H' i d v H2 k e y=>by
  obtain⟨z,c,h1,h2⟩:=y;subst z h2;refine⟨aA.refl _,fun _=>?_⟩
  have:d=.str ⟨#[c]⟩:=by
   rw[List.getElem?_map]at e;obtain⟨c',e1,e2⟩:=map_some e;rw[Array.getElem?_toList,h1]at e1;cases e1;exact e2.symm
  subst this;exact d9
def Bd{X:Cx}{cl:RL.Cl}{tg a:Expr}{a':RL.E}(ha:SE X cl a a'):SI X cl tg a (.chr a'):=by
 refine PI.weak (Ap ha) fun σ H R h=>?_;obtain⟨σD,ds,rv,e,k⟩:=h;obtain⟨d,e1,e2⟩:=bind_some (show(RL.ev cl σD a').bind _=some ds from e);refine⟨σD,d,rv,e1,fun v H1 r1=>?_⟩
 cases d with
 |str x=>
  cases e2;exact⟨x,aE r1.rep,k _ _ r1.same ⟨tq,fun _ _ _ _ _=>tq⟩⟩
 | _=>cases e2
end RS
namespace L2
open PySem PySem.Spec PyProof.Rows
def xy{X:Cx}:PIp X .Add (fun x y H Q=>∃ a b,x=.str a/\y=.str b/\a.length+b.length<=sizeLine/\Q (.str (a++b)) H):=by
 intro pins s σ H x y v u Q I r1 r2 h;obtain⟨a,b,rfl,rfl,hz,q⟩:=h;obtain⟨t,rfl⟩:=r1;obtain⟨t',rfl⟩:=r2;exact SBL.iadd (fun t' k _=>⟨.str (a++b),H,I.tok _,⟨_,rfl⟩,q⟩) hz
end L2
namespace RS
open PySem PySem.Spec PyProof.Rows L2
section
open PySem.Builtin.Str
end
section
variable{X:Cx}{cl:RL.Cl}{a b:Expr}{a' b' e':RL.E}{pos p2:Pos}{M:List Nat}{st:Stmt}{i:Nat}
def xq(h:PS X st (uD i (tE X.K cl e') (fun x y H Q=>∃ a b,x=.str a/\y=.str b/\a.length+b.length<=sizeLine/\Q (.str (a++b)) H)))(hi:M.contains i=false):SS X cl M st (.augs i e'):=by
 refine PS.weak h fun D σ H h=>?_;obtain⟨σD,ou,σD',rv,e,k⟩:=h;obtain⟨x,e1,e⟩:=bind_some (show((σD[i]?).bind id).bind _=some (ou,σD')from e);obtain⟨y,e2,e⟩:=bind_some e;obtain⟨z,e3,e4⟩:=map_some e;cases e4
 cases x with
 |str a=>
  cases y with
  |str b=>
   have e3:(if a.length+b.length<=RL.most then some (RL.D.str (a++b))else none)=some z:=e3;by_cases c:a.length+b.length<=RL.most
   ·rw[if_pos c]at e3;cases e3;obtain⟨v,h1,h2⟩:=rv.val i _ (slot_get e1);rw[if_neg (by rw[hi];decide)]at h2;refine⟨v,h1,σD,.str b,rv.rv0,e2,fun u H1 r1=>⟨a,b,aE h2,aE r1.rep,Nat.le_trans c bK,?_⟩⟩;exact k _ _ ((rv.same r1.same).bind hi d9) (Fr'.bind hi r1.same)
   ·rw[if_neg c]at e3;cases e3
  | _=>cases e3
 | _=>cases e3
def xD{f r p w:Nat}(h:PS X st (lI (qB (spM X.K cl [0] f) [] E0 (dZ (cA r) (dZ (cA p) (dZ (vR X.K "list" u9 (cA w)) hV))))))(hr:M.contains r=true)(hp:M.contains p=false)(hw:M.contains w=true)(hrw:r≠w):SS X cl M st (.tie3 f r p w):=by
 refine PS.weak h fun D σ H h=>?_;obtain⟨σD,ou,σD',rv,e,k⟩:=h;obtain⟨R,e1,e⟩:=bind_some (show((σD[r]?).bind id).bind _=some (ou,σD')from e);obtain⟨x,e2,e⟩:=bind_some e;obtain⟨l,e3,e⟩:=bind_some e;obtain⟨q,e4,e⟩:=bind_some e
 have hpw:p≠w:=fun z=>by rw[z,hw]at hp;cases hp
 cases l with
 |lst ds=>
  obtain⟨d,e5,e6⟩:=map_some (show(ds[ds.length-1]?).map _=some q from e4);subst e6;by_cases im:x.imm=true
  ·rw[if_pos im]at e;obtain⟨c,e7,e8⟩:=bind_some e;obtain⟨v,h1,h2⟩:=rv.val r _ (slot_get e1);rw[if_pos hr]at h2;obtain⟨a,o,rfl,_,_⟩:=h2.ref;obtain⟨vp,p1,p2⟩:=rv.val p _ (slot_get e2);obtain⟨vw,w1,w2⟩:=rv.val w _ (slot_get e3);rw[if_pos hw]at w2;obtain⟨q1,q2,q3⟩:=w2;obtain⟨b,xs,rfl,_,f2,f3⟩:=aM q3;obtain⟨y,f4,f5⟩:=f3.get e5;have imd:=km q2;obtain⟨g1,g2⟩:=rv.gi (d':=.lst ds.dropLast) (o':=.lst xs.dropLast) hw w1 f2 (.inl ⟨_,rfl⟩) (jP (ds:=ds) f2 imd f3.dropLast);have hdi:d.imm=true:=sW q2 e5;have rd:∀ P:Addr->Prop,Rep P X.K (upd H b (.lst xs.dropLast)) d y:=fun P=>Rep.imm hdi (Rep.upd (P:=fun p=>p=b) f2 (.inl ⟨_,rfl⟩) rfl (f5.imm hdi));refine⟨.ref a,h1,vp,p1,.ref b,w1,.inl ⟨rfl,xs,SqL.of f2⟩,b,xs,y,rfl,rfl,f2,by rw[<-f3.length];exact f4,?_⟩;show spM X.K cl [0] f ([.ref a,vp,y]++[]) (upd H b (.lst xs.dropLast)) _ E0;rw[List.append_nil]
   have er:(σD.set w (some (RL.D.lst ds.dropLast)))[r]?=some (some R):=by rw[List.getElem?_set_ne (Ne.symm hrw)];exact slot_get e1
   have ep:(σD.set w (some (RL.D.lst ds.dropLast)))[p]?=some (some x):=by rw[List.getElem?_set_ne (Ne.symm hpw)];exact slot_get e2
   obtain⟨v',z1,z2⟩:=g1.val r _ er;rw[h1]at z1;cases z1;rw[if_pos hr]at z2;obtain⟨v',z3,z4⟩:=g1.val p _ ep;rw[p1]at z3;cases z3;rw[if_neg (by rw[hp];decide)]at z4
   cases c with
   |tup ts=>
    match ts,e8,e7 with
    |[d0,R'],e8,e7=>
     cases e8
     have at0:∀ c,mAt [0] [V.ref a,vp,y] c->c=a:=fun c ⟨p,hp,e⟩=>by
      rw[List.mem_singleton]at hp;subst hp;cases e;rfl
     refine⟨[R,x,d],d0,[R'],e7,⟨ag.cons z2.2.2 (ag.cons z4.none (ag.cons (rd nP) ag.nil)),fun p hp=>?_,fun p hp q hq _ _ _=>?_,fun q dq v hq h3 h4=>?_⟩,fun v H' off rp im' mo=>?_⟩
     ·rw[List.mem_singleton]at hp;subst hp;exact⟨R,a,rfl,rfl,z2⟩
     ·rw[List.mem_singleton]at hp hq;rw[hp,hq]
     ·match q,hq,h3,h4 with
      | 0,hq,_,_=>exact absurd (List.mem_singleton.mpr rfl) hq
      |1,_,h3,h4=>
       cases h3;cases h4
       exact z4.weak fun c hc=>by
        rw[at0 c hc];exact⟨r,hr,h1⟩
      |2,_,h3,h4=>
       cases h3;cases h4;exact rd _
     ·obtain⟨k1,k2⟩:=g1.changed (ms:=[r]) (outs:=[R']) (H1:=H') (fun i hi=>by rw[List.mem_singleton.mp hi];exact hr) (by simp) rfl
       (fun c o n e=>off c o (fun z=>n ⟨r,List.mem_singleton.mpr rfl,by rw[at0 c z];exact h1⟩) e) fun k i o hk ho=>by
        match k,hk,ho with
        |0,hk,ho=>
         cases hk;cases ho;obtain⟨c,c1,c2⟩:=mo.own 0 0 _ rfl rfl;cases c1;exact⟨a,h1,c2⟩
      exact k _ _ k1 (g2.trans k2)
    | [],e8,_=>cases e8
    | [_],e8,_=>cases e8
    | _::_::_::_,e8,_=>cases e8
   | _=>cases e8
  ·rw[if_neg im]at e;cases e
 | _=>cases e4
end
section
variable{X:Cx}{cl:RL.Cl}{a b c d:Expr}{a' b' c' d':RL.E}{pos apos p p2 p3:Pos}
end
section
open PySem.W
variable{prog:Program}{w:World}{A:Around}{E:Value->Shared->Prop}{s:Shared}
variable{vs:List Value}{xs:List Str}
end
variable{X:Cx}
section
variable{K:PySem.W.Frag}
end
section
variable{X:Cx}{M N1:List Nat}{st:Stmt}{sts:List Stmt}{j:Nat}
end
section
variable{X:Cx}
variable{M:List Nat}{st:Stmt}{i:Nat}{cl:RL.Cl}
end
section
variable{bt:Bool}{t:SetTable}{m:Nat}
end
section
variable{prog:Program}{w:World}{A:Around}{E:Value->Shared->Prop}{s:Shared}
end
section
variable{prog:Program}{w:World}{A:Around}{E:Value->Shared->Prop}{s:Shared}
variable{R:Result->Shared->Prop}{I:Addr}{fp wr:List Addr}{G:Array GenState->Array GenState->Prop}{n:Nat}{P:Nat->Value->Prop}{St:Nat->Shared->Prop}
end
section
variable{prog:Program}{w:World}{A:Around}{E:Value->Shared->Prop}{s:Shared}{S I:Addr}{o:Obj}{es:Array (Int × Value)}{ep m i j:Nat}{t:SetTable}
end
section
variable{prog:Program}{w:World}{A:Around}{E:Value->Shared->Prop}{s:Shared}{S I:Addr}{o:Obj}{es:Array (Int × Value)}{ep m i j:Nat}{t:SetTable}
end
section
variable{X:Cx}
end
open Sem (wp)
section
variable{prog:Program}{w:World}{A:Around}{E:Value->Shared->Prop}{s:Shared}{it d:Addr}{es:Array DictEntry}{ep i:Nat}
end
end RS
namespace L2
open PySem PySem.Spec PyProof.Rows
end L2
namespace RS
open PySem PySem.Spec PyProof.Rows L2
end RS
namespace L2
open PySem PySem.Spec PyProof.Rows
section
variable{X:Cx}
def zS{e:Expr}{t t':TE}(h:PE X e t')(w:∀ σ H Q,t σ H Q->t' σ H fun v H1=>∃ p xs,v=.ref p/\H1 p=some (.lst xs)/\∀ o,Q (.ref p) (upd H1 p (.frz o (.lst xs)))):PE X e t:=by
 intro pins s σ H Q I q;refine thn (h pins s σ H _ I (w σ H Q q)) fun v s1 ⟨x,H1,I1,r1,p,xs,e1,hH,k⟩=>?_;subst e1;obtain⟨z,its,n,r,g⟩:=I1.hok p _ hH;have I':Inv X pins σ (upd H1 p (.frz _ (.lst xs))) { s1 with heap:=s1.heap,toks:=s1.toks }:=I1.write (x:=p) (e:=p) (h':=s1.heap) (t':=s1.toks) (by rw[hH];trivial) (.inl rfl) (fun b u _ e=>e) ⟨_,g⟩ ⟨g,z,its,n,r,g⟩;exact⟨.ref p,_,I',r1,k _⟩
end
end L2
namespace RS
open PySem PySem.Spec PyProof.Rows L2
section
variable{X:Cx}{cl:RL.Cl}{a b:Expr}{a' b':RL.E}
def AF(ha:SE X cl a a'):SE X cl a (.frz a'):=by
 refine zS ha fun σ H Q h=>?_;obtain⟨σD,d,rv,e,k⟩:=h;obtain⟨x,ea,e⟩:=bind_some (show(RL.ev cl σD a').bind _=some d from e);refine⟨σD,x,rv,ea,fun v H1 r1=>?_⟩;by_cases tf:RL.aI a'=true
 ·rw[if_pos tf]at e
  cases x with
  |lst ds=>
   obtain⟨im,rfl⟩:=bG (show(if RL.ar ds=true then some (RL.D.fL ds)else none)=some d from e);obtain⟨p,xs,rfl,_,hH,rs⟩:=aM r1.rep;have fr:=r1.fresh tf rfl p rfl;refine⟨p,xs,rfl,hH,fun o=>k _ _ (cu ?_ ?_ im)⟩
   ·intro b ob eb;rw[aw (aF eb fr)];exact r1.same _ _ eb
   ·rw[Rep];exact⟨p,o,xs,rfl,aC,(ag.upd (P:=fun q=>q=p) hH (.inl ⟨_,rfl⟩) rfl (rs.imm im)).imm im⟩
  | _=>cases e
 ·rw[if_neg tf]at e;cases e
end
section
variable{prog:Program}{w:World}{A:Around}{R:Result->Shared->Prop}{I S:Addr}{fp wr:List Addr}{n:Nat}{P:Nat->Value->Prop}{St:Nat->Heap->Prop}{Ok:Heap->Prop}{bt:Nat->Nat->Bool}
end
section
variable{prog:Program}{w:World}{A:Around}{E:Value->Shared->Prop}{s:Shared}
end
end RS
namespace L2
open PySem PySem.Spec PyProof.Rows
section
variable{X:Cx}
end
end L2
namespace RS
open PySem PySem.Spec PyProof.Rows L2
section
variable{X:Cx}{cl:RL.Cl}{a b:Expr}{a' b':RL.E}{p pos:Pos}
end
section
variable{prog:Program}{w:World}{A:Around}{E:Value->Shared->Prop}{s:Shared}{I t:Addr}{items:Array Value}
end
end RS
namespace L2
open PySem PySem.Spec PyProof.Rows
section
variable{X:Cx}
abbrev GDc(X:Cx)(d:Addr)(kvs:List (Str × Addr)):Prop:=(d == sysModules)=false/\∀ h:Heap,X.K.In h->h.DictOf (bB X.prog X.w) d (kvs.map fun q=>((Sum.inr q.1:Key),Value.ref q.2))
def C0(kvs:List (Str × Addr))(x:Str):valueAt (kvs.map fun q=>((Sum.inr q.1:Key),Value.ref q.2)) (Sum.inr x)=(kvs.find? fun q=>decide (q.1=x)).map fun q=>Value.ref q.2:=by
 unfold valueAt
 induction kvs with
 | nil=>rfl
 |cons q r ih=>
  rw[List.map_cons,List.find?_cons,List.find?_cons];have e:decide ((Sum.inr q.1:Key)=Sum.inr x)=decide (q.1=x):=t9 q.1 x;rw[e]
  cases decide (q.1=x)with
  | true=>rfl
  | false=>exact ih
def xA{b:Expr}{tb:TE}{g:Str}{p pos:Pos}{kvs:List (Str × Addr)}(hb:PE X b tb)(hg:Gl X g)(hm:X.mg g=some (.ref d))(hdb:(g == ("__debug__" : Str))=false)(G:GDc X d kvs)(hs:pP b) :
  PE X (.Subscript (.Name g p) b pos) (fun σ H Q=>tb σ H fun y H1=>∃ x q,y=.str x/\(kvs.find? fun q=>decide (q.1=x))=some q/\Q (.ref q.2) H1):=by
 intro pins s σ H Q I h;refine xS PySem.F.slot_dict_getitem.lookup hs (cJ I hg hm ?_ hdb);refine thn (hb pins s σ H _ I h) fun u s1 ⟨y,H1,I1,r1,x,q,e,f,k⟩=>?_;subst e;have dd:=G.2 _ I1.kIn;refine⟨dd.typeIs,wpAny_getItem_of (k:=(Sum.inr x:Key)) (ql r1) dd.mapOf (v:=Value.ref q.2) (by rw[C0,f];rfl) ⟨.ref q.2,H1,I1.tok _,rfl,k⟩⟩
def v9{i:Nat}{e:Expr}{es:List Expr}{t:TA}{p pos:Pos}{x:Str}(hN:X.N[i]?=some x)(hv:Vis X.env.scope x)(hd:(x == ("__debug__" : Str))=false)(hcd:(x == ("__classdict__" : Str))=false)(ha:PA X (e::es) t)
 (he:starEach (e::es) X.env=(false,eval e X.env)::starEach es X.env)(hpl:(backTo pos (starEach es X.env)).any (·.1)=false) :
  PE X (.Call (.Name x p) (e::es) [] pos) (fun σ H Q=>∃ k f fd ps sp,∃ σ0:St,σ=σ0.set i (some (.ref f))/\aR X.prog X.w X.K X.mg X.base CX0 k f fd ps sp/\aT k X.A/\PySem.W.keepIn X.K (.ref f)=true/\Binds X.K fd ps []/\qB sp [] E0 t σ H Q):=by
 intro pins s σ H Q I h;obtain⟨k,f,fd,ps,sp,σ0,h0,F,hr,hk,hb,h⟩:=h
 have h1:σ[i]?=some (some (.ref f)):=by
  have l:=I.len;have n:=(List.getElem?_eq_some_iff.mp hN).1;subst h0;rw[List.length_set]at l;rw[List.getElem?_set_self (by omega)]
 refine wpAny_Call_Name_kw (thn (bz (pos:=p) hN hv hd hcd pins s σ H (fun v H1=>v=.ref f/\H1=H) I ⟨_,h1,rfl,rfl⟩) fun u s1 ⟨v,H1,I1,r1,e1,e2⟩=>?_);subst e1 e2;cases r1;refine PySem.W.callWith_K (h₀:=X.base) I1.ok.mod.kin hk (thn (ha pos pins s1 σ H1 _ I1 h) fun us s2 ⟨vs,H2,I2,r,q⟩=>⟨I2.kIn,?_⟩) he hpl;exact rk F hr hb .nil jH I2 r q
end
end L2
namespace RS
open PySem PySem.Spec PyProof.Rows L2
section
variable{X:Cx}{cl:RL.Cl}{a b e:Expr}{a' b' e':RL.E}{p pos:Pos}{M:List Nat}{st:Stmt}{i j:Nat}
def xR{tbl:List (Str × Nat)}{kvs:List (Str × Addr)}{n g:Str}{e:Expr}{es:List Expr}{es':RL.Es}{np gp sp cp cpos rpos:Pos}(hN:X.N.Nodup)(hi:X.N[i]?=some n)(hl:Loc X.env.scope n)(hv:Vis X.env.scope n)(hd:(n == ("__debug__" : Str))=false)(hcd:(n == ("__classdict__" : Str))=false)
 (hf:X.fn n=true\/X.env.scope.names.lookup n=some .local)(ha:SE X cl a a')(hs:pP a)(hg:Gl X g)(hm:X.mg g=some (.ref d))(hdb:(g == ("__debug__" : Str))=false)(G:GDc X d kvs)
 (hk:∀ x m,RL.mi tbl (.str x)=some m->∃ q k fd ps,(kvs.find? fun q=>decide (q.1=x))=some q/\aR X.prog X.w X.K X.mg X.base CX0 k q.2 fd ps (spF X.K cl m)/\aT k X.A/\PySem.W.keepIn X.K (.ref q.2)=true/\Binds X.K fd ps [])
 (he:SEs X cl (e::es) es')(hn:noStar e=true)(hns:es.all noStar=true)(hsw:swapsWith (.Subscript (.Name g gp) a sp) (some (.Name n np)) pos.line X.env=pure false) :
  SSs X cl M [.Assign [.Name n np] (.Subscript (.Name g gp) a sp) pos,.Return (some (.Call (.Name n cp) (e::es) [] cpos)) rpos] (.act i g tbl a' es'):=by
 intro pins s σ H D I h;refine aY (nG hN hi hl (xA ha hg hm hdb G hs) hsw hf) (yD (jm (v9 hi hv hd hcd he (az es hn) (cC hns)))) pins s σ H D I ?_;obtain⟨σD,o,σD',rv,ev,post⟩:=h;obtain⟨m,e1,ev⟩:=bind_some (show((RL.ev cl σD a').bind (RL.mi tbl)).bind _=_ from ev);obtain⟨x,ea,e1⟩:=bind_some e1;obtain⟨ds,e2,ev⟩:=bind_some ev;obtain⟨r,e3,ev⟩:=bind_some ev;obtain⟨im,ev⟩:=bG ev;cases ev;refine⟨σD,x,rv.rv0,ea,fun v H1 r1=>?_⟩
 cases x with
 |str x=>
  obtain⟨q,k,fd,ps,f1,F,hr,hkp,hb⟩:=hk x m e1;refine⟨x,q,aE r1.rep,f1,k,q.2,fd,ps,_,σ,rfl,F,hr,hkp,hb,σD.set i none,ds,⟨by simpa using Nat.le_of_eq rv.len,fun j dj hj=>?_⟩,e2,fun vs H2 s2 r2=>?_⟩
  ·by_cases hij:i=j
   ·subst hij;rw[List.getElem?_set]at hj;split at hj
    ·split at hj<;>cases hj
    ·exact absurd rfl ‹_›
   ·rw[List.getElem?_set_ne hij]at hj ⊢;exact(rv.rv0.same r1.same).2 j dj hj
  ·show spF X.K cl m (vs++[]) H2 _ E0;rw[List.append_nil];exact⟨ds,r,r2,e3,fun v H3 s3 r3=>post σ H v H3 rv (Fr'.same (aA.refl H)) ((r1.same.trans s2).trans s3) fun P hP=>r3.imm im⟩
 | _=>cases e1
end
def nos{α:Type}{P:Prop}{x:α}(h:(none:Option α)=some x):P:=by cases h
def aj{α:Type}{o:Option α}{f:α->Bool}(h:o.any f=true):∃ x,o=some x/\f x=true:=by
 cases o with
 | none=>cases h
 | some x=>exact⟨x,rfl,h⟩
def ae{a b:Bool}(h:(a&&b)=true):a=true/\b=true:=by rw[Bool.and_eq_true]at h;exact h
abbrev cD:Expr->Option Str
 | .Name x _=>some x
 | _=>none
def bA{e:Expr}{x:Str}(h:cD e=some x):∃ p,e=.Name x p:=by
 cases e
 case Name=>cases h;exact⟨_,rfl⟩
 all_goals exact nos h
abbrev m6:Expr->Option Const
 | .Constant k _ _=>some k
 | _=>none
def iy{e:Expr}{k:Const}(h:m6 e=some k):∃ j p,e=.Constant k j p:=by
 cases e
 case Constant=>cases h;exact⟨_,_,rfl⟩
 all_goals exact nos h
abbrev ve:Expr->Option (Expr × Operator × Expr)
 | .BinOp l o r _=>some (l,o,r)
 | _=>none
def yf{e:Expr}{l r:Expr}{o:Operator}(h:ve e=some (l,o,r)):∃ p,e=.BinOp l o r p:=by
 cases e
 case BinOp=>cases h;exact⟨_,rfl⟩
 all_goals exact nos h
abbrev vUn:Expr->Option (UnaryOp × Expr)
 | .UnaryOp o x _=>some (o,x)
 | _=>none
def nD{e x:Expr}{o:UnaryOp}(h:vUn e=some (o,x)):∃ p,e=.UnaryOp o x p:=by
 cases e
 case UnaryOp=>cases h;exact⟨_,rfl⟩
 all_goals exact nos h
abbrev jS:Expr->Option (Expr × List CmpOp × List Expr)
 | .Compare l o r _=>some (l,o,r)
 | _=>none
def ff{e l:Expr}{r:List Expr}{o:List CmpOp}(h:jS e=some (l,o,r)):∃ p,e=.Compare l o r p:=by
 cases e
 case Compare=>cases h;exact⟨_,rfl⟩
 all_goals exact nos h
abbrev vBool:Expr->Option (BoolOp × List Expr × Pos)
 | .BoolOp o es p=>some (o,es,p)
 | _=>none
def gS{e:Expr}{es:List Expr}{o:BoolOp}{p:Pos}(h:vBool e=some (o,es,p)):e=.BoolOp o es p:=by
 cases e
 case BoolOp=>cases h;exact rfl
 all_goals exact nos h
abbrev BE:Expr->Option (Expr × Expr × Expr)
 | .IfExp c a b _=>some (c,a,b)
 | _=>none
def xH{e a b c:Expr}(h:BE e=some (c,a,b)):∃ p,e=.IfExp c a b p:=by
 cases e
 case IfExp=>cases h;exact⟨_,rfl⟩
 all_goals exact nos h
abbrev kE:Expr->Option (List Expr)
 | .Tuple es _ _=>some es
 | _=>none
def dQ{e:Expr}{es:List Expr}(h:kE e=some es):∃ k p,e=.Tuple es k p:=by
 cases e
 case Tuple=>cases h;exact⟨_,_,rfl⟩
 all_goals exact nos h
abbrev u7:Expr->Option (List Expr)
 | .List es _=>some es
 | _=>none
def yt{e:Expr}{es:List Expr}(h:u7 e=some es):∃ p,e=.List es p:=by
 cases e
 case List=>cases h;exact⟨_,rfl⟩
 all_goals exact nos h
abbrev oj:Expr->Option (Expr × Expr)
 | .Subscript a b _=>some (a,b)
 | _=>none
def gb{e a b:Expr}(h:oj e=some (a,b)):∃ p,e=.Subscript a b p:=by
 cases e
 case Subscript=>cases h;exact⟨_,rfl⟩
 all_goals exact nos h
abbrev vSl:Expr->Option (Option Expr × Option Expr × Option Expr)
 | .Slice a b c _=>some (a,b,c)
 | _=>none
def Bu{e:Expr}{a b c:Option Expr}(h:vSl e=some (a,b,c)):∃ p,e=.Slice a b c p:=by
 cases e
 case Slice=>cases h;exact⟨_,rfl⟩
 all_goals exact nos h
abbrev eg:Expr->Option (Expr × List Expr × List Keyword × Pos)
 | .Call f as ks p=>some (f,as,ks,p)
 | _=>none
def cq{e f:Expr}{as:List Expr}{ks:List Keyword}{p:Pos}(h:eg e=some (f,as,ks,p)):e=.Call f as ks p:=by
 cases e
 case Call=>cases h;exact rfl
 all_goals exact nos h
abbrev qV:Expr->Option (Expr × Str × Pos)
 | .Attribute o x p=>some (o,x,p)
 | _=>none
def lY{e o:Expr}{x:Str}{p:Pos}(h:qV e=some (o,x,p)):e=.Attribute o x p:=by
 cases e
 case Attribute=>cases h;exact rfl
 all_goals exact nos h
abbrev qP:Expr->Option (Expr × List Comprehension × Scope × Pos)
 | .ListComp e gs sc p=>some (e,gs,sc,p)
 | _=>none
def mL{e x:Expr}{gs:List Comprehension}{sc:Scope}{p:Pos}(h:qP e=some (x,gs,sc,p)):e=.ListComp x gs sc p:=by
 cases e
 case ListComp=>cases h;exact rfl
 all_goals exact nos h
abbrev of1{α:Type}(xs:List α)(f:α->Bool):Bool:=match xs with
 | [a]=>f a
 | _=>false
abbrev of2{α:Type}(xs:List α)(f:α->α->Bool):Bool:=match xs with
 | [a,b]=>f a b
 | _=>false
abbrev of3{α:Type}(xs:List α)(f:α->α->α->Bool):Bool:=match xs with
 | [a,b,c]=>f a b c
 | _=>false
def aJ{α:Type}:∀ {xs:List α} {f:α->Bool},of1 xs f=true->∃ a,xs=[a]/\f a=true
 | [a],_,h=>⟨a,rfl,h⟩
def dN{α:Type}:∀ {xs:List α} {f:α->α->Bool},of2 xs f=true->∃ a b,xs=[a,b]/\f a b=true
 | [a,b],_,h=>⟨a,b,rfl,h⟩
def nQ{α:Type}:∀ {xs:List α} {f:α->α->α->Bool},of3 xs f=true->∃ a b c,xs=[a,b,c]/\f a b c=true
 | [a,b,c],_,h=>⟨a,b,c,rfl,h⟩
abbrev ofM{α:Type}(xs:List α)(f:α->α->List α->Bool):Bool:=match xs with
 | a::b::r=>f a b r
 | _=>false
def jj{α:Type}:∀ {xs:List α} {f:α->α->List α->Bool},ofM xs f=true->∃ a b r,xs=a::b::r/\f a b r=true
 | a::b::r,_,h=>⟨a,b,r,rfl,h⟩
abbrev kr:Stmt->Option (List Expr × Expr)
 | .Assign ts e _=>some (ts,e)
 | _=>none
def d7{st:Stmt}{ts:List Expr}{e:Expr}(h:kr st=some (ts,e)):∃ p,st=.Assign ts e p:=by
 cases st
 case Assign=>cases h;exact⟨_,rfl⟩
 all_goals exact nos h
abbrev uq:Stmt->Option (Expr × Operator × Expr)
 | .AugAssign t o e _=>some (t,o,e)
 | _=>none
def oB{st:Stmt}{t e:Expr}{o:Operator}(h:uq st=some (t,o,e)):∃ p,st=.AugAssign t o e p:=by
 cases st
 case AugAssign=>cases h;exact⟨_,rfl⟩
 all_goals exact nos h
abbrev qQ:Stmt->Option Expr
 | .Expr e _=>some e
 | _=>none
def i5{st:Stmt}{e:Expr}(h:qQ st=some e):∃ p,st=.Expr e p:=by
 cases st
 case Expr=>cases h;exact⟨_,rfl⟩
 all_goals exact nos h
abbrev wIf:Stmt->Option (Expr × List Stmt × List Stmt)
 | .If c a b _=>some (c,a,b)
 | _=>none
def ij{st:Stmt}{c:Expr}{a b:List Stmt}(h:wIf st=some (c,a,b)):∃ p,st=.If c a b p:=by
 cases st
 case If=>cases h;exact⟨_,rfl⟩
 all_goals exact nos h
abbrev zN:Stmt->Option (Expr × Expr × List Stmt × List Stmt)
 | .For t i b o _=>some (t,i,b,o)
 | _=>none
def oV{st:Stmt}{t i:Expr}{b o:List Stmt}(h:zN st=some (t,i,b,o)):∃ p,st=.For t i b o p:=by
 cases st
 case For=>cases h;exact⟨_,rfl⟩
 all_goals exact nos h
abbrev vW:Stmt->Option (Option Expr)
 | .Return e _=>some e
 | _=>none
def kD{st:Stmt}{e:Option Expr}(h:vW st=some e):∃ p,st=.Return e p:=by
 cases st
 case Return=>cases h;exact⟨_,rfl⟩
 all_goals exact nos h
end RS
namespace L2
open PySem PySem.Spec PyProof.Rows
section
variable{os:OsState}
def ug
 (hR:h.get? R=some (excClassObj nm q R N bs bm hdct sn sub ab col dd k0 k1 k2 k3 k5 newId))(he:h.get? e=some oe)(hc:oe.cls=.ref C)(hb:bm.contains (.type "BaseException")=true)(L:PySem.W.Looks M h (isSubtype (.ref C) (.ref R)) b)(hq:Q b ⟨h,g,d,t,os⟩) :
  wpAny M A (excMatches (.ref e) (.ref R)) Q E ⟨h,g,d,t,os⟩:=by
 have hcB:(Value.ref R::bm).contains (.type "BaseException")=true:=by rw[List.contains_cons,hb,Bool.or_true]
 have f:=tc_notTuple;unfold excMatches
 repeat (first | (with_reducible refine wpAny_loadPart_at he ?_;rw[hc]) | with_reducible refine wpAny_loadPart_at hR ?_ | (with_reducible refine wpAny_isSubtype_exc hR ?_;rw[hcB]) | (with_reducible refine L.at ?_) | wp_step)
 cases b<;>(wp_walk;exact hq)
end
section
def pG(I:Inv X pins σ H s)(hN:X.N.Nodup)(hi:X.N[i]?=some n)(hl:X.env.scope.names.lookup n=some .local)
 (k:∀ s',Inv X pins (σ.set i none) H s'->Q () s'):wpAny M A (do bindName X.env n .none;unbindBehindTheSuite X.env n pos) Q E s:=by
 obtain⟨m,hn,hlk⟩:=id I.loc
 have hcls:(X.env.scope.kind == .class || (X.env.scope.kind == .module&&X.env.locals != X.env.globals))=false:=by rw[I.ok.kind];rfl
 refine wpAny_nameGoes_keeps hl hn hcls fun h' v hn' hs=>k _ ?_;have up:∀ b o,X.s₀.heap.get? b=some o->b≠X.env.locals:=fun b o e=>Nat.ne_of_lt (Nat.lt_of_lt_of_le (Heap.lt_size e) I.ok.above);have cne:=I.cne;refine⟨I.ok,I.os,I.bare,⟨fun b o e nn hb hx=>(hs.2 b (up b o e)).trans (I.base.keep b o e nn hb hx),fun b o e nn hb hx=>?_,I.base.free,fun b o e hx=>?_,I.base.di,I.base.c9,I.base.dh⟩,⟨_,hn',fun j y v' e1 e2 e3=>?_⟩,fun y c e=>?_,I.free,I.bX,fun p hp=>?_,fun a o e=>?_,by simpa using I.len⟩
 ·obtain⟨sl,e1⟩:=I.base.slot b o e nn hb hx;exact⟨sl,(hs.2 b (up b o e)).trans e1⟩
 ·obtain⟨o',e1⟩:=I.base.there b o e hx;exact⟨o',(hs.2 b (up b o e)).trans e1⟩
 ·have hj:j≠i:=fun z=>by
   subst z;rw[List.getElem?_set_self (by rw[I.len];exact(List.getElem?_eq_some_iff.mp hi).1)]at e2;cases e2
  rw[List.getElem?_set_ne (Ne.symm hj)]at e2;obtain⟨u,r,lk⟩:=hlk j y v' e1 e2 e3;refine⟨u,r,?_⟩
  rcases lk with⟨a1,a2⟩ | ⟨a1,c,a2,a3⟩
  ·have hy:y≠n:=fun z=>hj (iN hN e1 (z▸hi));exact .inl ⟨a1,by simp[hy,a2]⟩
  ·exact .inr ⟨a1,c,a2,a3.sameBut hs (cne y c a2)⟩
 ·obtain⟨v,q⟩:=I.cell y c e;exact⟨v,q.sameBut hs (cne y c e)⟩
 ·obtain⟨p1,p2,p3,p4⟩:=I.pin p hp;exact⟨(hs.2 p.1 p3).trans p1,p2,p3,p4⟩
 ·refine(I.hok a o e).gG (fun c w hc q=>(hs.2 c fun z=>?_).trans q) (fun _ z=>z) fun _ _ z=>z;subst z;rcases hc with z | z
  ·rw[<-z,I.free]at e;cases e
  ·rw[I.free]at z;cases z
@[reducible]noncomputable def Fz(oe:Obj):HO:=.frz oe (.ext fun _=>True)
@[reducible]noncomputable def Cx.ba(X:Cx)(e:Addr)(oe:Obj):Cx:={ X with A:=X.A.mark (some (.ref e)),calm:=false,H₀:=upd X.H₀ e (Fz oe) }
def lj(I0:Inv X pins σ H0 s0)(hst:X.stack=X.env::X.outer)(hex:X.ex=[])(un:Un (frs X.stack) [] H0 H' s0.heap h1)(hok:HOk X.prog X.w H' h1)(bare:AllBare g)
 (o:Off1 (dM s0.heap H') (frs (X.env::X.outer)) h1 h2)(he:h2.get? e=some oe)(hd:oe.data=.fields vs)(hv:vs[2]?=some .none)(ne:¬ dM s0.heap H' e) :
  Inv (X.ba e oe) pins σ (upd H' e (Fz oe)) ⟨h2,g,dr,tk,s0.os⟩:=by
 have hne:H' e=none:=Classical.byContradiction fun z=>ne (.inr z);have n0:∀ b u,s0.heap.get? b=some u->b≠e:=fun b u q z=>ne (.inl ⟨u,z▸q⟩);have n1:∀ b u,X.s₀.heap.get? b=some u->b≠e:=fun b u q=>let ⟨u',q'⟩:=I0.old hex q;n0 b u' q';have off:∀ {b:Addr},b≠e->upd H' e (Fz oe) b=H' b:=fun z=>aw z
 have nfr:∀ b,H' b≠none->b∉frs (X.env::X.outer):=fun b hb z=>by
  rw[<-hst]at z;obtain⟨_,ob,hob,_⟩:=I0.stack.mem z;exact hb (un.free b ob hob (I0.iz b z) (by simp))
 have un2:Un (frs X.stack) [] H0 (upd H' e (Fz oe)) s0.heap h2:=by
  refine⟨fun b u q n hb hx=>?_,fun b u q n hb hx=>?_,fun b u q n hx=>by rw[off (n0 b u q)];exact un.free b u q n hx,fun b u q hx=>?_,fun b xs q=>?_,fun b ob u q=>?_,fun b ps q=>?_⟩
  ·exact o.keep b u (.inl ⟨u,q⟩) (by rw[<-hst];exact hb) (un.keep b u q n hb hx)
  ·obtain⟨sl,q1⟩:=un.slot b u q n hb hx;obtain⟨sl2,q2⟩:=o.slot b _ (.inl ⟨u,q⟩) (by rw[<-hst];exact hb) q1;exact⟨sl2,q2⟩
  ·obtain⟨u1,q1⟩:=un.there b u q hx;by_cases hb:b∈frs (X.env::X.outer)
   ·obtain⟨sl,q2⟩:=o.slot b _ (.inl ⟨u,q⟩) hb q1;exact⟨_,q2⟩
   ·exact⟨_,o.keep b _ (.inl ⟨u,q⟩) hb q1⟩
  ·have:=un.di b xs q;rw[off (fun z=>by rw[z,hne]at this;cases this)];exact this
  ·have:=un.c9 b ob u q;rw[off (fun z=>by rw[z,hne]at this;cases this)];exact this
  ·obtain⟨more,this⟩:=un.dh b ps q;rw[off (fun z=>by rw[z,hne]at this;cases this)];exact⟨more,this⟩
 have hok2:HOk X.prog X.w (upd H' e (Fz oe)) h2:=fun a ob q=>by
  by_cases ha:a=e
  ·subst ha;rw[aC]at q;cases q;exact⟨he,trivial,⟨_,he⟩,fun _ _ _ _=>trivial⟩
  ·rw[off ha]at q
   have up:∀ (b:Addr) (u:HO),H' b=some u->upd H' e (Fz oe) b=some u:=fun b u z=>by rw[off (aF z hne)];exact z
   refine(hok a ob q).gG (fun b u hb r=>?_) (fun b z=>up b _ z) fun b xs z=>up b _ z
   have hn:H' b≠none:=by
    rcases hb with rfl | hb
    ·rw[q];exact fun z=>nomatch z
    ·rw[hb];exact fun z=>nomatch z
   exact o.keep b u (.inr hn) (nfr b hn) r
 have J:=I0.call (h':=h2) (g':=g) (d':=dr) (t':=tk) (ch:=[]) un2 hok2 bare (fun b z=>absurd z (by simp));have offH:∀ {b:Addr} {u:Obj},X.s₀.heap.get? b=some u->upd X.H₀ e (Fz oe) b=X.H₀ b:=fun q=>aw (n1 _ _ q);refine⟨⟨J.ok.mod,J.ok.kind,J.ok.glob,J.ok.blt,J.ok.above,J.ok.inj,J.ok.has,J.ok.cab,⟨fun z=>(nomatch z),.inr ⟨e,oe,_,vs,rfl,aC,hd,hv⟩⟩,J.ok.frames,J.ok.stk,J.ok.exf,fun b ob q=>?_,J.ok.bsz,J.ok.gY,J.ok.gv,J.ok.cN,fun b hb=>?_⟩,J.os,J.bare,⟨fun b u q n=>?_,fun b u q n=>?_,fun b u q n=>?_,J.base.there,fun b xs q=>?_,fun b ob u q=>?_,fun b ps q=>?_⟩,J.loc,J.cell,J.free,J.bX,J.pin,J.hok,J.len⟩
 ·obtain⟨q1,q2⟩:=J.ok.bs b ob q;exact⟨q1,(offH q1).trans q2⟩
 ·obtain⟨_,ob,q,_⟩:=J.ok.cN.mem hb;exact(offH q).trans (J.ok.frf b hb)
 ·exact J.base.keep b u q ((offH q).symm.trans n)
 ·exact J.base.slot b u q ((offH q).symm.trans n)
 ·exact J.base.free b u q ((offH q).symm.trans n)
 ·by_cases hb:b=e
  ·subst hb;rw[show(X.ba b oe).H₀ b=some (Fz oe)from aC]at q;cases q
  ·exact J.base.di b xs ((aw hb).symm.trans q)
 ·by_cases hb:b=e
  ·subst hb;rw[show(X.ba b oe).H₀ b=some (Fz oe)from aC]at q;cases q;exact aC
  ·exact J.base.c9 b ob u ((aw hb).symm.trans q)
 ·by_cases hb:b=e
  ·subst hb;rw[show(X.ba b oe).H₀ b=some (Fz oe)from aC]at q;cases q
  ·exact J.base.dh b ps ((aw hb).symm.trans q)
def jv(J:Inv (X.ba e oe) pins σ H s)(ok:X.Ok)(hn:X.s₀.heap.get? e=none)(h1:∀ xs,X.H₀ e≠some (.tup xs))(h2:∀ o u,X.H₀ e≠some (.frz o u))(h3:∀ ps,X.H₀ e≠some (.tbl ps)):Inv X pins σ H s:=by
 have offH:∀ {b:Addr} {u:Obj},X.s₀.heap.get? b=some u->upd X.H₀ e (Fz oe) b=X.H₀ b:=fun {b u} q=>aw fun z=>by rw[z,hn]at q;cases q
 have up:∀ (b:Addr) (u:HO),b≠e->X.H₀ b=some u->(X.ba e oe).H₀ b=some u:=fun b u hb z=>(aw hb).trans z
 exact⟨ok,J.os,J.bare,⟨fun b u q n=>J.base.keep b u q ((offH q).trans n),fun b u q n=>J.base.slot b u q ((offH q).trans n),fun b u q n=>J.base.free b u q ((offH q).trans n),J.base.there,
  fun b xs q=>J.base.di b xs (up b _ (fun z=>h1 xs (z▸q)) q),fun b o u q=>J.base.c9 b o u (up b _ (fun z=>h2 o u (z▸q)) q),fun b ps q=>J.base.dh b ps (up b _ (fun z=>h3 ps (z▸q)) q)⟩,J.loc,J.cell,J.free,J.bX,J.pin,J.hok,J.len⟩
end
end L2
namespace RS
open PySem PySem.Spec PyProof.Rows L2
def Cls.kin{K:PySem.W.Frag}(h:Cls K x C):mT K C:=by
 have:=h.ok;simp only[fF,Bool.and_eq_true,beq_iff_eq]at this;obtain⟨⟨⟨⟨⟨⟨⟨⟨_,a1⟩,a2⟩,a3⟩,a4⟩,a5⟩,a6⟩,_⟩,_⟩:=this;refine⟨a1,a2,?_,a4,a5,a6⟩;unfold nR at a3;split at a3
 ·rename_i a b e;simp only[Bool.and_eq_true,beq_iff_eq]at a3;rw[e,a3.1,a3.2]
 ·cases a3
section
def qf(I0:Inv X pins σ H0 s0)(hst:X.stack=X.env::X.outer)(hfrm:X.env.frame=some X.env.locals)(hex:X.ex=[])
 (os:s1.os=s0.os)(bare:AllBare s1.gens)(un:Un (frs X.stack) [] H0 H' s0.heap s1.heap)(hok:HOk X.prog X.w H' s1.heap)(xx:Exc (dM s0.heap H') e C od tb s1.heap)(hc:Cls X.K (RL.baseOf x) C)(hR:Cls X.K c R)(hcr:c∈ck)(hsub:RL.fE x c=true)(hg:Gl X c)(hm:X.mg c=some (.ref R))(hdb:(c == ("__debug__" : Str))=false)
 (hN:X.N.Nodup)(hi:X.N[i]?=some n)(hl:X.env.scope.names.lookup n=some .local)
 (hpre:∀ oe H s,Inv (X.ba e oe) pins σ H s->s.heap.get? e=some oe->oe.cls=.ref C->wpAny (model X.prog X.w) X.A (handleBy (.ref e) X.env (.ExceptHandler (some (.Name c np)) (some n) (b0::ba) hpos::hrest)) Q E s->wpAny (model X.prog X.w) X.A (handleBy (.ref e) X.env hs) Q E s)
 (k:∀ oe vs s4,(oe.cls=.ref C/\oe.dict=od)->oe.data=.fields vs->vs[2]?=some .none->H' e=none->X.s₀.heap.get? e=none->(∀ xs,X.H₀ e≠some (.tup xs))->(∀ o u,X.H₀ e≠some (.frz o u))->(∀ ps,X.H₀ e≠some (.tbl ps))->Inv (X.ba e oe) pins (σ.set i (some (.ref e))) (upd H' e (Fz oe)) s4 ->
   wpAny (model X.prog X.w) (X.A.mark (some (.ref e))) (execs (b0::ba) X.env) (fun f s5=>wpAny (model X.prog X.w) X.A (do bindName X.env n .none;unbindBehindTheSuite X.env n hpos) (fun _ s6=>Q f s6) E s5) (fun _ _=>False) s4) :
  wpAny (model X.prog X.w) X.A (noteFrame (.ref e) X.env) (fun _ s2=>wpAny (model X.prog X.w) X.A (setFlight (.ref e) none) (fun _ s3=>wpAny (model X.prog X.w) X.A (handleBy (.ref e) X.env hs) Q E s3) E s2) E s1:=by
 have I1:Inv X pins σ H' s1:=I0.lL (ch:=[]) os un hok bare (fun b z=>absurd z (by simp));have hls:=I1.stack;have hfr:=I1.ok.frames;rw[hst]at hls hfr
 have hP:∀ b,dM s0.heap H' b->b<s1.heap.objs.size:=fun b hb=>by
  rcases hb with⟨o,q⟩ | hb
  ·obtain⟨o',q'⟩:=un.there b o q (by simp);exact Heap.lt_size q'
  ·obtain⟨o,ho⟩:=Option.ne_none_iff_exists'.mp hb;exact hok.lt ho
 refine lp hfr hls hfrm xx hP fun h2 x2 o2=>?_;obtain⟨oe,vs,he,hcd,hd,hv,ne,xt⟩:=x2;obtain⟨hp,g,d,tk,os'⟩:=s1;obtain rfl:os'=s0.os:=os;have J2:Inv (X.ba e oe) pins σ (upd H' e (Fz oe)) ⟨h2,g,d,tk,s0.os⟩:=lj I0 hst hex un hok bare o2 he hd hv ne;refine hpre oe _ _ J2 he hcd.1 ?_;refine wpAny_handleBy_cons (codeAny_handlers_test ?_) (by intro q;cases q);refine cJ J2 hg hm ?_ hdb;obtain⟨bm,N,nm,qn,bs,hdct,sn,sub,ab,col,dd,k0,k1,k2,k3,k5,g1,T⟩:=vB J2.kIn hR.exc;have L:=PySem.W.looks_subIn (M:=model X.prog X.w) J2.kIn (hc.ref hcr hR.ns).2;rw[show RL.c8 (RL.baseOf x) c=true from hsub]at L;refine ug g1 he hcd.1 (T.hasType PySem.F.excBase_ValueError.hasBase) L ?_;refine codeAny_handlers_suite_as ?_
 rcases xt with⟨z,_⟩ | ⟨T,oT,ts,h1,hTe,hT,hdT,h3,nT⟩
 ·cases z
 unfold setFlight;refine wpAny_bind (wpAny_field he hd h1 ?_);rw[if_pos (show(Value.ref T != Value.none)=true from by simp)];refine wpAny_setField hT hdT (Array.getElem?_eq_some_iff.mp h3).1 ?_;have he3:(h2.update T (Obj.mapFields (·.setIfInBounds 3 Value.none))).get? e=some oe:=(Heap.get?_update_other _ _ hTe).trans he;have J3:Inv (X.ba e oe) pins σ (upd H' e (Fz oe)) ⟨h2.update T (Obj.mapFields (·.setIfInBounds 3 Value.none)),g,d,tk,s0.os⟩:=lj I0 hst hex un hok bare (o2.trans (Off1.qK nT _)) he3 hd hv ne;have hne:H' e=none:=Classical.byContradiction fun z=>ne (.inr z)
 have tup:∀ u,X.H₀ e=some u->(∀ b,X.H₀ b=some u->H' b=some u)->False:=fun u q z=>by
  have:=z e q;rw[hne]at this;cases this
 refine gB (X:=X.ba e oe) (v:=.ref e) J3 hN hi (.inl hl) rfl (fun s4 J4=>?_) (.inr hl);refine wpAny_mono (k oe vs s4 hcd hd hv hne ?_ (fun xs q=>?_) (fun o u q=>?_) (fun ps q=>?_) J4) (fun f s5 z=>z) fun _ _ z=>z.elim
 ·cases q:X.s₀.heap.get? e with
  | none=>rfl
  |some u=>
   obtain⟨u',q'⟩:=I0.old hex q;exact(ne (.inl ⟨u',q'⟩)).elim
 ·have:=un.di e xs (I0.base.di e xs q);rw[hne]at this;cases this
 ·have:=un.c9 e o u (I0.base.c9 e o u q);rw[hne]at this;cases this
 ·obtain⟨m1,q1⟩:=I0.base.dh e ps q;obtain⟨m2,q2⟩:=un.dh e _ q1;rw[hne]at q2;cases q2
end
section
variable{K:PySem.W.Frag}
def aX.unset(hi:M.contains i=false):aX M (σ.set i none)=aX M σ:=by
 funext a;apply propext
 have hne:∀ {j},M.contains j=true->i≠j:=fun hj z=>by subst z;rw[hi]at hj;cases hj
 constructor
 ·rintro⟨j,hj,e⟩;rw[List.getElem?_set_ne (hne hj)]at e;exact⟨j,hj,e⟩
 ·rintro⟨j,hj,e⟩;exact⟨j,hj,by rw[List.getElem?_set_ne (hne hj)];exact e⟩
def gR{α:Type}{l:List (Option α)}{i j:Nat}{v:α}(h:(l.set i none)[j]?=some (some v)):i≠j/\l[j]?=some (some v):=by
 by_cases hj:i=j
 ·subst hj;rw[List.getElem?_set]at h;split at h
  ·split at h<;>cases h
  ·exact absurd rfl ‹_›
 ·rw[List.getElem?_set_ne hj]at h;exact⟨hj,h⟩
def RVm.unset(h:RVm K M σD σ H)(hi:M.contains i=false):RVm K M (σD.set i none) (σ.set i none) H where
 len:=by simpa using h.len
 val:=fun j d e=>by
  obtain⟨hj,e⟩:=gR e;obtain⟨v,e1,e2⟩:=h.val j d e;exact⟨v,by rw[List.getElem?_set_ne hj];exact e1,by rw[aX.unset hi];exact e2⟩
 non:=fun j v e=>by
  obtain⟨hj,e⟩:=gR e;obtain⟨d,e1⟩:=h.non j v e;exact⟨d,by rw[List.getElem?_set_ne hj];exact e1⟩
 sep:=fun j k a hj hk e1 e2=>h.sep j k a hj hk (gR e1).2 (gR e2).2
def Fr'.unset(hi:M.contains i=false):Fr' M σ H (σ.set i none) H:=⟨fun b o e n=>⟨e,by rw[aX.unset hi];exact n⟩,fun j hj=>List.getElem?_set_ne fun z=>by subst z;rw[gj hj]at hi;cases hi⟩
end
section
@[reducible]noncomputable def CxX(X:Cx)(pn:List (Addr × Obj))(E:Value->Shared->Prop):Cx:={ X with pn:=pn,xe:=E }
abbrev uk(X:Cx)(EX:L2.St->XK):Prop:=(∀ pins σ H s e s',Inv X pins σ H s->CXE X.prog X.w X.stack H s (EX σ) e s'->X.xe e s')/\(∀ pins σ H s h' e C vs,Inv X pins σ H s->Heap.MadeExcOf s.heap h' e (.ref C) vs->EX σ (.ref C) none H->X.xe (.ref e) { s with heap:=h' }) /\
 ∀ pins σ H s C i e od H' s',Inv X pins σ H s->uy X H s C (some i) e od H' s'->EX σ (.ref C) od H'->X.xe (.ref e) s'
abbrev uO(cl:RL.Cl)(M:List Nat)(b:RL.Ss)(i:Nat)(sel:Str->Option RL.Ss)(σ:RL.St):Option (RL.Out × RL.St):=match RL.aB cl M b σ with
 | some p=>some p
 | none=>(RL.bj cl M b σ).bind fun q=>(sel q.1).bind fun h=>(RL.aB cl M h (q.2.set i (some (.exc q.1)))).map fun r=>(r.1,r.2.set i none)
abbrev Cs(X:Cx)(cl:RL.Cl)(M:List Nat)(hs:List ExceptHandler)(n:Str)(x:Str)(h:RL.Ss):Prop:=∃ c R b0 ba np hpos hrest,(∀ e oe,SSs (X.ba e oe) cl M (b0::ba) h)/\Cls X.K c R/\c∈ck/\RL.fE x c=true/\Gl X c/\X.mg c=some (.ref R)/\(c == ("__debug__" : Str))=false /\
 ∀ C,Cls X.K (RL.baseOf x) C->∀ pins σ Q E e oe H s,Inv (X.ba e oe) pins σ H s->s.heap.get? e=some oe->oe.cls=.ref C->wpAny (model X.prog X.w) X.A (handleBy (.ref e) X.env (.ExceptHandler (some (.Name c np)) (some n) (b0::ba) hpos::hrest)) Q E s->wpAny (model X.prog X.w) X.A (handleBy (.ref e) X.env hs) Q E s
def xX(hx:X.xe=fun _ _=>False)(hst:X.stack=X.env::X.outer)(hfrm:X.env.frame=some X.env.locals)(hex:X.ex=[])(hb:SSs X cl M body b)
 (hbx:∀ (pn:List (Addr × Obj)) (E:Value->Shared->Prop) (EX:L2.St->XK),uk (CxX X pn E) EX->PassesOwn (model X.prog X.w) X.A X.env E->RZs (CxX X pn E) EX cl M body b)
 (hsel:∀ x h,sel x=some h->Cs X cl M (h0::hs) n x h)(hev:∀ σ,RL.evS cl M st' σ=uO cl M b i sel σ)(hN:X.N.Nodup)(hi:X.N[i]?=some n)(hl:X.env.scope.names.lookup n=some .local)(hM:M.contains i=false) :
  SS X cl M (.Try body (h0::hs) [] [] pos) st':=by
 intro pins s σ H D I hh;obtain⟨σD,r,σD',rv,ev,post⟩:=hh;rw[hev]at ev;unfold uO at ev;clear hev;refine wpAny_Try_except ?_
 cases hev:RL.aB cl M b σD with
 |some p=>
  rw[hev]at ev;cases ev
  refine wpAny_mono (hb pins s σ H D I ⟨σD,r,σD',rv,hev,post⟩) (fun f s1 q=>?_) fun e s1 z=>by rw[hx]at z;exact z.elim
  cases f with
  | next=>exact wpAny_execs_nil q
  | ret u=>exact q
  | brk=>exact q
  | cont=>exact q
 |none=>
  rw[hev]at ev;obtain⟨⟨x,σD1⟩,hev2,ev⟩:=bind_some ev;obtain⟨h,hsx,ev⟩:=bind_some ev;obtain⟨c,R,b0,ba,np,hpos,hrest,hsu,hR,hcr,hsub,hg,hm,hdb,hpre⟩:=hsel x h hsx;obtain⟨⟨rr,σ5⟩,hev3,ev⟩:=map_some ev;cases ev;dsimp only at hev3 post;generalize hE:(fun(e:Value) (s₁:Shared)=>wpAny (model X.prog X.w) X.A (noteFrame e X.env) (fun _ s₂=>wpAny (model X.prog X.w) X.A (setFlight e none) (fun _ s₃=>wpAny (model X.prog X.w) X.A (handleBy e X.env (h0::hs)) (SP X pins D) X.xe s₃) X.xe s₂) X.xe s₁)=E1
  have own:PassesOwn (model X.prog X.w) X.A X.env E1:=by
   rw[<-hE];exact PassesOwn.looking
  have hand:∀ (pins':List (Addr × Obj)) (σ1:L2.St) (H0 H':Hp) (s0 s1:Shared) (e C:Addr) (od:Option Addr) (tb:Bool),Inv (CxX X (X.pn++pins) E1) pins' σ1 H0 s0->s1.os=s0.os->AllBare s1.gens->Un (frs X.stack) [] H0 H' s0.heap s1.heap->HOk X.prog X.w H' s1.heap->Exc (dM s0.heap H') e C od tb s1.heap ->
    (CO X.K x C od H'/\RVm X.K M σD1 σ1 H'/\Fr' M σ H σ1 H')->E1 (.ref e) s1:=by
   intro pins' σ1 H0 H' s0 s1 e C od tb J os bare un hok ex ⟨hc,rv1,fr1⟩
   have I0:Inv X pins σ1 H0 s0:=⟨⟨J.ok.mod,J.ok.kind,J.ok.glob,J.ok.blt,J.ok.above,J.ok.inj,J.ok.has,J.ok.cab,J.ok.hd,J.ok.frames,J.ok.stk,J.ok.exf,J.ok.bs,J.ok.bsz,J.ok.gY,J.ok.gv,J.ok.cN,J.ok.frf⟩,J.os,J.bare,J.base,J.loc,J.cell,J.free,J.bX,fun p hp=>J.pin p (List.mem_append_left _ hp),J.hok,J.len⟩
   rw[<-hE];refine qf I0 hst hfrm hex os bare un hok ex hc.1 hR hcr hsub hg hm hdb hN hi hl (fun oe H s=>hpre C hc.1 pins σ1 _ _ e oe H s) fun oe vs s4 hcd hd hv hne hn0 n1 n2 n3 J4=>?_
   have sm:aA H' (upd H' e (Fz oe)):=fun a u q=>by rw[aw (aF q hne)];exact q
   have rv4:RVm X.K M (σD1.set i (some (.exc x))) (σ1.set i (some (.ref e))) (upd H' e (Fz oe)):=(rv1.same sm).bind hM (by
    rw[Rep]
    exact⟨e,oe,_,C,vs,rfl,aC,⟨hcd.1,by rw[hcd.2];exact hc.2.keep fun b o u q=>sm b _ q⟩,hd,hv,hc.1⟩)
   have fr4:Fr' M σ H (σ1.set i (some (.ref e))) (upd H' e (Fz oe)):=fr1.trans (Fr'.bind hM sm)
   have post2:nB X.K M { nx:=fun σ' H5=>D.nx (σ'.set i none) H5,rt:=D.rt } (σ1.set i (some (.ref e))) (upd H' e (Fz oe)) rr σ5:=by
    cases rr with
    | nx=>exact fun σ' H5 rv5 fr5=>post (σ'.set i none) H5 (rv5.unset hM) ((fr4.trans fr5).trans (Fr'.unset hM))
    | rt d=>exact fun σ' H5 v H6 rv5 fr5 sm5 rp=>post (σ'.set i none) H5 v H6 (rv5.unset hM) ((fr4.trans fr5).trans (Fr'.unset hM)) sm5 fun P hP=>rp P fun p hp=>by rw[<-aX.unset hM];exact hP p hp
   refine wpAny_mono (hsu e oe pins s4 _ _ _ J4 ⟨_,rr,σ5,rv4,hev3,post2⟩) (fun f s5 q=>?_) fun e s5 z=>by
    have z:X.xe e s5:=z;rw[hx]at z;exact z.elim
   cases f with
   |next=>
    obtain⟨σ',H5,J5,q⟩:=q
    exact pG (jv J5 I0.ok hn0 n1 n2 n3) hN hi hl fun s6 J6=>⟨_,H5,J6,q⟩
   |ret u=>
    obtain⟨v,σ',H5,J5,rel,q⟩:=q
    exact pG (jv J5 I0.ok hn0 n1 n2 n3) hN hi hl fun s6 J6=>⟨v,_,H5,J6,rel,q⟩
   |brk=>
    obtain⟨_,_,_,q⟩:=q;exact q.elim
   |cont=>
    obtain⟨_,_,_,q⟩:=q;exact q.elim
  have rz:=hbx (X.pn++pins) E1 (fun σ1 Cv od H1=>∃ C,Cv=.ref C/\CO X.K x C od H1/\RVm X.K M σD1 σ1 H1/\Fr' M σ H σ1 H1) ⟨fun pins' σ1 H0 s0 e s1 J z=>by
    obtain⟨x',C,od,H',rfl,⟨C',q,hc⟩,os,bare,un,hok,ex⟩:=z;cases q
    exact hand pins' σ1 H0 H' s0 s1 x' C od true J os bare un hok ex hc,fun pins' σ1 H0 s0 h' e C vs J m z=>by
    obtain⟨C',q,hc⟩:=z;cases q
    exact hand pins' σ1 H0 H0 s0 _ e C none false J rfl J.bare (Un.kept m.keeps) (J.hok.kept m.keeps) (nj J.hok m) hc,fun pins' σ1 H0 s0 C j e od H' s1 J nx z=>by
    obtain⟨C',q,hc⟩:=z;cases q
    exact hand pins' σ1 H0 H' s0 s1 e C od false J nx.os nx.bare nx.un nx.hok nx.ex hc⟩ own
  have I1:Inv (CxX X (X.pn++pins) E1) [] σ H s:=⟨⟨I.ok.mod,I.ok.kind,I.ok.glob,I.ok.blt,I.ok.above,I.ok.inj,I.ok.has,I.ok.cab,I.ok.hd,I.ok.frames,I.ok.stk,I.ok.exf,I.ok.bs,I.ok.bsz,I.ok.gY,I.ok.gv,I.ok.cN,I.ok.frf⟩,I.os,I.bare,I.base,I.loc,I.cell,I.free,I.bX,fun p hp=>I.pin p (by rw[List.append_nil]at hp;exact hp),I.hok,I.len⟩
  refine wpAny_mono (rz [] s σ H { nx:=fun _ _=>False,rt:=fun _ _=>False } I1 ⟨σD,x,σD1,rv,hev2,fun σ1 H1 C od hc rv1 fr1=>⟨C,rfl,hc,rv1,fr1⟩⟩) (fun f s1 q=>?_) fun e s1 z=>by
   have z:E1 e s1:=z;subst hE;exact z
  cases f with
  |next=>
   obtain⟨_,_,_,q⟩:=q;exact q.elim
  |ret u=>
   obtain⟨_,_,_,_,_,q⟩:=q;exact q.elim
  |brk=>
   obtain⟨_,_,_,q⟩:=q;exact q.elim
  |cont=>
   obtain⟨_,_,_,q⟩:=q;exact q.elim
def zr(hx:X.xe=fun _ _=>False)(hst:X.stack=X.env::X.outer)(hfrm:X.env.frame=some X.env.locals)(hex:X.ex=[])(hb:SSs X cl M body b)
 (hbx:∀ (pn:List (Addr × Obj)) (E:Value->Shared->Prop) (EX:L2.St->XK),uk (CxX X pn E) EX->PassesOwn (model X.prog X.w) X.A X.env E->RZs (CxX X pn E) EX cl M body b)
 (hsu:∀ e oe,SSs (X.ba e oe) cl M (b0::ba) h)(hR:Cls X.K c R)(hcr:c∈ck)(hg:Gl X c)(hm:X.mg c=some (.ref R))(hdb:(c == ("__debug__" : Str))=false)(hN:X.N.Nodup)(hi:X.N[i]?=some n)(hl:X.env.scope.names.lookup n=some .local)(hM:M.contains i=false) :
  SS X cl M (.Try body [.ExceptHandler (some (.Name c np)) (some n) (b0::ba) hpos] [] [] pos) (.tryc b c i h):=by
 refine xX (sel:=fun x=>if RL.fE x c then some h else none) hx hst hfrm hex hb hbx (fun x h' e=>?_) (fun σ=>?_) hN hi hl hM
 ·obtain⟨hs,e⟩:=bG e;subst e;exact⟨c,R,b0,ba,np,hpos,[],hsu,hR,hcr,hs,hg,hm,hdb,fun C hc pins σ Q E e oe H s J he hc' k=>k⟩
 ·rw[RL.lR];unfold uO
  cases RL.aB cl M b σ with
  | some p=>rfl
  |none=>
   show(RL.bj cl M b σ).bind _=(RL.bj cl M b σ).bind _;congr 1;funext q;dsimp only;by_cases hs:RL.fE q.1 c=true
   ·rw[if_pos hs,if_pos hs];rfl
   ·rw[if_neg hs,if_neg hs];rfl
end
section
variable{X:Cx}
def lV:bx X (.builtin "isinstance") (fun xs H Q=>∃ b o u C vs t k f,xs=[.ref b,t]/\H b=some (.frz o u)/\(o.cls=.ref C/\gy H f o.dict)/\o.data=.fields vs/\mT X.K C/\((∃ D,t=.ref D/\PySem.W.kitOne X.K (.ref C) (.ref D)=some k)\/∃ T,t=.ty T/\PySem.W.kitOne X.K (.ref C) (.type T)=some k)/\Q (.bl k) H):=by
 intro pins s σ H xs us Q I r h;obtain⟨b,o,u,C,vs,t,k,f,rfl,hb,hcd,hd,F,hk,q⟩:=h
 cases r with
 |cons r1 r2=>
  cases r2 with
  |cons r2 r3=>
   cases r3;cases r1
   obtain⟨od,J⟩:∃ od,PySem.W.InstAt s.heap b o C od:=by
    cases f with
    | none=>exact⟨none,(I.hok _ _ hb).1,hcd.1,by unfold PySem.W.notCls;rw[hd],by rw[show o.dict=none from hcd.2];trivial⟩
    |some m=>
     obtain⟨n,u',hh,tk,tk',h1,h2⟩:=hcd.2;exact⟨some _,(I.hok _ _ hb).1,hcd.1,by unfold PySem.W.notCls;rw[hd],by rw[h1];exact(I.hok _ _ h2).1⟩
   rcases hk with⟨D,rfl,e⟩ | ⟨T,rfl,e⟩
   ·cases r2
    exact PySem.W.kia_one (lU F) I.kIn J e (fun z=>nomatch z) fun tk=>⟨.bl k,H,I.tok tk,rfl,q⟩
   ·cases r2
    exact PySem.W.kia_one (lU F) I.kIn J e (fun z=>nomatch z) fun tk=>⟨.bl k,H,I.tok tk,rfl,q⟩
def sL(ht:∀ x C,Cls X.K x C->(∃ D,t=.ref D/\PySem.W.kitOne X.K (.ref C) (.ref D)=some (RL.c8 x c))\/∃ T,t=.ty T/\PySem.W.kitOne X.K (.ref C) (.type T)=some (RL.c8 x c))(h:tE X.K cl (.isx a' c) σ H Q) :
  tCB (fun xs H Q=>∃ b o u C vs t k f,xs=[.ref b,t]/\H b=some (.frz o u)/\(o.cls=.ref C/\gy H f o.dict)/\o.data=.fields vs/\mT X.K C/\((∃ D,t=.ref D/\PySem.W.kitOne X.K (.ref C) (.ref D)=some k)\/∃ T,t=.ty T/\PySem.W.kitOne X.K (.ref C) (.type T)=some k)/\Q (.bl k) H) (dZ (tE X.K cl a') (dZ (tC t) hV)) σ H Q:=by
 obtain⟨σD,d,rv,e,k⟩:=h;obtain⟨x,ea,e⟩:=bind_some e
 cases x with
 |exc n=>
  cases e;refine⟨σD,_,rv,ea,fun v H1 r1=>?_⟩;have rp:=r1.rep;rw[Rep]at rp;obtain⟨b,o,u,C,vs,rfl,h1,h2,h3,h4,h5⟩:=rp;exact⟨b,o,u,C,vs,t,_,_,rfl,h1,h2,h3,h5.kin,ht _ C h5,k _ _ (dE r1.same)⟩
 | _=>cases e
def BF(hg:Gl X "isinstance")(hm:X.mg "isinstance" = none)(hgc:Gl X c)(hmc:X.mg c=some (.ref D))(hns:PySem.W.nsIn X.K mainGlobals c=some (some (.ref D)))(hcr:c∈ck)(hdb:(c == ("__debug__" : Str))=false)(ha:SE X cl a a')(hn:noStar a=true) :
  SE X cl (.Call (.Name "isinstance" p) [a,.Name c p2] [] pos) (.isx a' c) :=
 PE.weak (gA lV hg hm (by decide +kernel) (aG ha (aG (oO (v:=.ref D) hgc hmc rfl hdb) bf rfl) (az _ hn)) (by decide) (by decide) (az _ hn) rfl) fun σ H Q h=>sL (fun x C hc=>.inl ⟨D,rfl,(hc.ref hcr hns).1⟩) h
def zR(hg:Gl X "isinstance")(hm:X.mg "isinstance" = none)(hgc:Gl X "ValueError")(hmc:X.mg "ValueError" = none)(ha:SE X cl a a')(hn:noStar a=true):SE X cl (.Call (.Name "isinstance" p) [a,.Name "ValueError" p2] [] pos) (.isx a' "ValueError") :=
 PE.weak (gA lV hg hm (by decide +kernel) (aG ha (aG (oY (v:=.ty "ValueError") hgc hmc PyProof.Rows.Boot.«ValueError» rfl (by decide) (by decide)) bf rfl) (az _ hn)) (by decide) (by decide) (az _ hn) rfl) fun σ H Q h=>sL (fun x C hc=>.inr ⟨_,rfl,by rw[hc.val];simp[RL.c8]⟩) h
end
def kO:∀ ys:List Str,Str.join ⟨#[]⟩ ys=⟨(ys.flatMap fun s=>s.cps.toList).toArray⟩
 | []=>rfl
 | [x]=>by simp[Str.join]
 | x::y::r=>by
  have ih:=kO (y::r);show x++(⟨#[]⟩:Str)++Str.join ⟨#[]⟩ (y::r)=_;rw[ih];show(⟨(x.cps ++ #[])++(List.flatMap (fun s=>s.cps.toList) (y::r)).toArray⟩:Str)=_;simp
def oW:∀ {ys:List Str} {us:List Value},Vals (ys.map V.str) us->StrsAre us ys
 | [],_,r=>by cases r;exact .nil
 | y::ys,_,r=>by
  cases r with
  |cons a b=>
   obtain⟨t,rfl⟩:=a;exact .cons y t (oW b)
def oh{P:Addr->Prop}{K:PySem.W.Frag}:∀ {ds:List RL.D} {ss:List Str} {xs:List V},RL.strs? ds=some ss->ag P K H ds xs->xs=ss.map V.str
 | [],ss,xs,h,r=>by
  rw[RL.strs?]at h;cases h;rw[ag]at r;exact r
 | d::ds,ss,xs,h,r=>by
  rw[ag]at r;obtain⟨x,t,rfl,r1,r2⟩:=r
  cases d with
  |str y=>
   rw[RL.strs?]at h;obtain⟨q,h1,h2⟩:=map_some h;subst h2;rw[aE r1,oh h1 r2];rfl
  | _=>cases h
section
def yC:MtR X "str.join" (fun x xs H Q=>∃ b ys,x=.str ⟨#[]⟩/\xs=[.ref b]/\H b=some (.lst (ys.map V.str))/\(ys.map (·.length)).sum<=16777216/\Q (.str (Str.join ⟨#[]⟩ ys)) H):=by
 intro pins s σ H x xs v us Q I rx r h;obtain⟨b,ys,rfl,rfl,hb,hz,q⟩:=h;obtain⟨t,rfl⟩:=rx;obtain⟨u,rfl,ru⟩:=vals1 r;cases ru;obtain⟨its,rv,ht,_⟩:=I.list (SqL.of hb)
 refine join_list (items:=its.toArray) ht.isList (by simpa using oW rv) (by show _+_*0<=_;rw[Nat.mul_zero];exact hz) fun t' k=>⟨.str (Str.join ⟨#[]⟩ ys),H,I.tok _,⟨t',?_⟩,q⟩
 show Value.str (Builtin.Str.glued ⟨#[]⟩ ys) t'=_;rw[PySem.StrLaws.glued_eq_join]
def t7:∀ {ss:List Str},ss.all (fun s=>decide (s.length<=100))=true->(ss.map (·.length)).sum<=100*ss.length
 | [],_=>Nat.le_refl _
 | x::r,h=>by
  rw[List.all_cons,Bool.and_eq_true,decide_eq_true_eq]at h;have:=t7 h.2;rw[List.map_cons,List.sum_cons,List.length_cons];omega
def yz(ha:SE X cl a a')(hn:noStar a=true)(hline:(apos.endLine == pos.line)=true):SE X cl (.Call (.Attribute (.Constant (.str ⟨#[]⟩) j p) "join" apos) [a] [] pos) (.join a'):=by
 refine PE.weak (wJ PySem.F.plainAttrs_str PySem.F.slot_str_join PySem.F.type_str_join yC mW (aG ha bf (az [] hn)) rfl ?_ hline (az [] hn) rfl) fun σ H Q h=>?_
 ·rw[az [] hn];rfl
 obtain⟨σD,d,rv,e,k⟩:=h;obtain⟨x,ea,e⟩:=bind_some e
 cases x with
 |lst ds=>
  obtain⟨ss,e1,e2⟩:=bind_some e;split at e2
  ·rename_i hz;cases e2;refine⟨rfl,σD,_,rv,ea,fun v H1 r1=>?_⟩;obtain⟨b,xs,rfl,_,f2,f3⟩:=aM r1.rep;rw[oh e1 f3]at f2;have hs:=t7 hz.2;have hm:RL.most=100000:=rfl;refine⟨b,ss,rfl,rfl,f2,by omega,?_⟩;rw[kO];exact k _ _ (cu r1.same d9 rfl)
  ·cases e2
 | _=>cases e
end
end RS
namespace L2
open PySem PySem.Spec PyProof.Rows
structure ee(k:Nat)(A:Around):Prop where
 dp:A.depth+3*k+5<recursionLimit
 un:A.units+16*k+200<cLine
def aT.h(r:aT k A):ee k A:=⟨r.dp,r.un⟩
def ee.mono(r:ee k A)(h:j<=k):ee j A:=⟨by have:=r.dp;omega,by have:=r.un;omega⟩
abbrev HXH(A:Around)(H:Hp):Prop:=A.handled=none\/∃ h o u vs,A.handled=some (.ref h)/\H h=some (.frz o u)/\o.data=.fields vs/\vs[2]?=some .none
structure jM(P:Program)(w:World)(K:PySem.W.Frag)(mg:Str->Option Value)(base:Heap)(k:Nat)(f:Addr)(fd:FuncData)(ps:List Str)(sp:Sp):Prop where
 len:∀ vs H Q,sp vs H Q E0->vs.length=ps.length
 run:∀ (A:Around) (outer:List Env) (s:Shared) (H:Hp) (us:List Value) (vs:List V) (Q:VK),ee k A->HXH A H->ic P w K mg base A outer s H->BindsTo s fd ⟨us,[]⟩ (ps.zip us)->Vals vs us->sp vs H Q E0->codeAny (model P w) A (.call (.ref f) ⟨us,[]⟩) (CR CX0 outer P w H s Q E0) s
@[reducible]noncomputable def cxH(P:Program)(w:World)(K:PySem.W.Frag)(mg:Str->Option Value)(base:Heap)(N:List Str)(qual:Str)(scope:Scope)(f:Addr)(cd:Value)(A:Around)(outer:List Env)(s:Shared)(H:Hp):Cx:={ (cM CX0 P w K mg base N qual scope f cd A outer s H E0).nox with calm:=false }
section
variable{K:PySem.W.Frag}{st:Stmt}
def Fun.okH(F:Fun K x qual st f fd)(S:cx N ps (aq st))(len:∀ vs H Q,sp vs H Q E0->vs.length=ps.length)
 (hbody:∀ (cdv:Value) (A:Around) (outer:List Env) (s:Shared) (H:Hp) (vs:List V) (Q:VK),ee k (A.deeper (envOfC qual (aq st) s.heap.objs.size f cdv))->sp vs H Q E0->∃ t,PSs (cxH P w K mg base N qual (aq st) f cdv A outer s H) (aZ st) t/\t { nx:=fun _ H'=>Q .non H',rt:=Q } (start N vs) H):jM P w K mg base (k+1) f fd ps sp:=by
 obtain⟨oc,od,kV,doc,pm,an,cdv,ct,osl,rfl,lk,hcd⟩:=F.ex;refine⟨len,fun A outer s H us vs Q hr hx e0 hb r hsp=>?_⟩;have hl:=len _ _ _ hsp;have KX:K.In s.heap:=e0.mod.kin.keeps fun b o e=>(e0.bs b o e).1
 have kinds:∀ y∈ps.zip us,(aq st).names.lookup y.1=some .local\/((aq st).names.lookup y.1=some .cell/\((cellsFrom (s.heap.objs.size+1) (aq st).names []).lookup y.1).isSome=true):=fun⟨n,v⟩ hy=>(S.par n (List.of_mem_zip hy).1).imp (fun q=>q) fun q=>⟨q,PySem.W.cellsFrom_some _ _ _ (.inl q)⟩
 refine codeAny_call_function (by have:=hr.dp;omega) (KX _ _ lk) rfl S.co S.gen rfl (PySem.W.codeRec_of KX hcd) (hb _ _ _ _ ?_);refine wpAny_newFunctionEnv_cells S.kind kinds fun env he s1 y=>?_;subst he;refine⟨(e0.mod.nolimit.keeps fun b o e=>(e0.bs b o e).1).keeps y.toInCall.keep,codeAny_func ?_⟩
 have hr':ee k (A.deeper (envOfC qual (aq st) s.heap.objs.size f cdv)):=⟨by have:=hr.dp;show A.depth+1+3*k+5<_;omega,by have:=hr.un;show A.units+3+16*k+200<_;omega⟩
 obtain⟨t,ht,hq⟩:=hbody cdv A outer s H vs Q hr' hsp;have I0:Inv (cM CX0 P w K mg base N qual (aq st) f cdv { A with handled:=none } outer s H E0) [] (start N vs) H s1:=kP (A:={ A with handled:=none }) S rfl ⟨e0.frames,e0.mod,e0.bs,e0.bsz,e0.cN,e0.frf,e0.hok,e0.bare⟩ hl r y
 have I:Inv (cxH P w K mg base N qual (aq st) f cdv A outer s H) [] (start N vs) H s1:=⟨⟨I0.ok.mod,I0.ok.kind,I0.ok.glob,I0.ok.blt,I0.ok.above,I0.ok.inj,I0.ok.has,I0.ok.cab,⟨fun z=>(nomatch z),hx⟩,Around.frames_deeper e0.frames,I0.ok.stk,I0.ok.exf,I0.ok.bs,I0.ok.bsz,I0.ok.gY,I0.ok.gv,I0.ok.cN,I0.ok.frf⟩,I0.os,I0.bare,I0.base,I0.loc,I0.cell,I0.free,I0.bX,I0.pin,I0.hok,I0.len⟩
 refine wpAny_mono (ht [] s1 (start N vs) H _ I hq) (fun fl s' hs=>?_) fun e s' hs=>hs.elim
 cases fl with
 |ret u=>
  obtain⟨v,σ',H',J,rv,q⟩:=hs;exact⟨v,H',J.os,J.bare,J.base,J.hok,rv,q⟩
 |next=>
  obtain⟨σ',H',J,q⟩:=hs;exact⟨.non,H',J.os,J.bare,J.base,J.hok,rfl,q⟩
 |brk=>
  obtain⟨_,_,_,q⟩:=hs;exact q.elim
 |cont=>
  obtain⟨_,_,_,q⟩:=hs;exact q.elim
def Fun.okX(F:Fun K x qual st f fd)(S:cx N ps (aq st))(len:∀ vs H Q E,sp vs H Q E->vs.length=ps.length)
 (hbody:∀ (cdv:Value) (A:Around) (outer:List Env) (s:Shared) (H:Hp) (vs:List V) (Q:VK) (E:XK),aT k (A.deeper (envOfC qual (aq st) s.heap.objs.size f cdv))->sp vs H Q E->∃ t,PSs (cM (CXE P w) P w K mg base N qual (aq st) f cdv A outer s H E) (aZ st) t/\t { nx:=fun _ H'=>Q .non H',rt:=Q } (start N vs) H):aR P w K mg base (CXE P w) (k+1) f fd ps sp:=by
 obtain⟨oc,od,kV,doc,pm,an,cdv,ct,osl,rfl,lk,hcd⟩:=F.ex;exact wb lk hcd S len fun A outer s H vs Q E hr hsp=>hbody cdv A outer s H vs Q E hr hsp
end
def vv(F:jM X.prog X.w X.K X.mg X.base k f fd ps sp)(hr:ee k X.A)(hg:Gl X x)(hm:X.mg x=some (.ref f))(hk:PySem.W.keepIn X.K (.ref f)=true)
 (hb:Binds X.K fd ps [])(ha:PA X (e::es) t)(hdb:(x == ("__debug__" : Str))=false)(he:starEach (e::es) X.env=(false,eval e X.env)::starEach es X.env)(hpl:(backTo pos (starEach es X.env)).any (·.1)=false) :
  PE X (.Call (.Name x p) (e::es) [] pos) (fun σ H Q=>t σ H fun vs H1=>sp vs H1 Q E0):=by
 intro pins s σ H Q I h;refine wpAny_Call_Name_kw (cJ I hg hm ?_ hdb);refine PySem.W.callWith_K (h₀:=X.base) I.ok.mod.kin hk (thn (ha pos pins s σ H _ I h) fun us s1 ⟨vs,H1,I1,r,q⟩=>⟨I1.kIn,?_⟩) he hpl
 have hl:us.length=ps.length:=by rw[<-r.length];exact F.len _ _ _ q
 have hbb:=hb s1 us I1.kIn (by rw[List.append_nil];exact hl);rw[List.append_nil]at hbb
 have hx:HXH X.A H1:=by
  rcases I1.ok.hd.2 with z | ⟨h,o,u,vs,h1,h2,h3⟩
  ·exact .inl z
  ·exact .inr ⟨h,o,u,vs,h1,I1.base.c9 _ _ _ h2,h3⟩
 refine wpAny_call (codeAny_mono (F.run X.A X.stack s1 H1 us vs Q hr hx I1.mJ hbb r q) fun r s' hq=>?_)
 cases r with
 | error e=>exact hq.elim
 |ok fl=>
  cases fl with
  | ret u=>exact I1.after hq
  | next=>exact False.elim hq
  | brk=>exact False.elim hq
  | cont=>exact False.elim hq
end L2
namespace RS
open PySem PySem.Spec PyProof.Rows L2
abbrev wV:Expr->Option (List Expr)
 | .JoinedStr vs _=>some vs
 | _=>none
def vd{e:Expr}{vs:List Expr}(h:wV e=some vs):∃ p,e=.JoinedStr vs p:=by
 cases e
 case JoinedStr=>cases h;exact⟨_,rfl⟩
 all_goals exact nos h
abbrev AK:Expr->Option (Expr × Int × Option Expr)
 | .FormattedValue e c s _=>some (e,c,s)
 | _=>none
def xr{e x:Expr}{c:Int}{s:Option Expr}(h:AK e=some (x,c,s)):∃ p,e=.FormattedValue x c s p:=by
 cases e
 case FormattedValue=>cases h;exact⟨_,rfl⟩
 all_goals exact nos h
abbrev sJ:Stmt->Option (Option Expr × Option Expr)
 | .Raise e c _=>some (e,c)
 | _=>none
def tu{st:Stmt}{e c:Option Expr}(h:sJ st=some (e,c)):∃ p,st=.Raise e c p:=by
 cases st
 case Raise=>cases h;exact⟨_,rfl⟩
 all_goals exact nos h
abbrev AB:Stmt->Option (List Stmt × List ExceptHandler × List Stmt × List Stmt)
 | .Try b h o f _=>some (b,h,o,f)
 | _=>none
def x9{st:Stmt}{b o f:List Stmt}{h:List ExceptHandler}(z:AB st=some (b,h,o,f)):∃ p,st=.Try b h o f p:=by
 cases st
 case Try=>cases z;exact⟨_,rfl⟩
 all_goals exact nos z
abbrev lF:ExceptHandler->Option Expr × Option Str × List Stmt
 | .ExceptHandler t n b _=>(t,n,b)
end RS
namespace L2
open PySem PySem.Spec PyProof.Rows
open RS (CO spX nP Rep ag spF)
abbrev bO(x:Addr)(H H2:Hp):Prop:=∀ b o,b≠x->H b=some o->H2 b=some o
def bO.refl:bO x H H:=fun _ _ _ q=>q
def bO.same(k:bO x H H1)(s:aA H1 H2):bO x H H2:=fun b o n q=>s b o (k b o n q)
def bO.self(k:bO x H H1):bO x H (upd H1 x o):=fun b u n q=>by rw[aw n];exact k b u n q
def bO.new(k:bO x H H1)(h:H1 a=none):bO x H (upd H1 a o):=fun b u n q=>by
 have q1:=k b u n q;rw[aw fun z=>by rw[z,h]at q1;cases q1];exact q1
def kz{H:Hp}:upd (upd H x a) x b=upd H x b:=by
 funext y;by_cases hy:y=x
 ·subst hy;rw[aC,aC]
 ·rw[aw hy,aw hy,aw hy]
abbrev spN(C:Addr):Sp:=fun vs H Q _=>∃ x dx a b c,vs=[.ref x,a,b,c]/\H x=some (.ins C dx [])/\∀ fs,Q .non (upd H x (.ins C dx fs))
structure qE(f1 f2 f3:Str)(st:Stmt):Prop where
 body:∃ (p1 p2 p3 p4 p5 p6 p7 p8 p9 p10 p11 p12:Pos),aZ st=[.Assign [.Attribute (.Name "self" p1) f1 p2] (.Name f1 p3) p4,.Assign [.Attribute (.Name "self" p5) f2 p6] (.Name f2 p7) p8,.Assign [.Attribute (.Name "self" p9) f3 p10] (.Name f3 p11) p12]
 sc:cx ["self",f1,f2,f3] ["self",f1,f2,f3] (aq st)
 v0:(aq st).names.lookup ("self" : Str)=some .local
 v1:(aq st).names.lookup f1=some .local
 v2:(aq st).names.lookup f2=some .local
 v3:(aq st).names.lookup f3=some .local
 d:((f1 == ("__debug__" : Str))=false/\(f1 == ("__classdict__" : Str))=false)/\((f2 == ("__debug__" : Str))=false/\(f2 == ("__classdict__" : Str))=false)/\((f3 == ("__debug__" : Str))=false/\(f3 == ("__classdict__" : Str))=false)
section
variable{K:PySem.W.Frag}{st:Stmt}
def dn:∀ {fs:List (Str × V)},(bV f v fs).length<=fs.length+1
 | []=>Nat.le_refl _
 | (g,x)::r=>by
  unfold bV;split
  ·exact Nat.le_succ _
  ·exact Nat.succ_le_succ dn
def ya(c:Cls K C)(n1:bE K C f1)(n2:bE K C f2)(n3:bE K C f3)(T:qE f1 f2 f3 st)(F:Fun K "__init__" qual st fI fd):aR P w K mg base CX0 1 fI fd ["self",f1,f2,f3] (spN C):=by
 obtain⟨p1,p2,p3,p4,p5,p6,p7,p8,p9,p10,p11,p12,hb⟩:=T.body;refine Fun.ok F T.sc (fun vs H Q E h=>?_) fun cdv A outer s H vs Q E hr h=>?_
 ·obtain⟨x,dx,a,b,c,rfl,_⟩:=h;rfl
 ·rw[hb];obtain⟨x,dx,a,b,e,rfl,hx,q⟩:=h;generalize hX:(cM CX0 P w K mg base ["self",f1,f2,f3] qual (aq st) fI cdv A outer s H E).nox=X
  have eN:X.N=(["self",f1,f2,f3]:List Str):=by rw[<-hX];rfl
  have eK:X.K=K:=by rw[<-hX];rfl
  have eS:X.env.scope=aq st:=by rw[<-hX];rfl
  have pv0:∀ p,PE X (.Name "self" p) (cA 0):=fun p=>bz (by rw[eN];rfl) (by rw[eS];exact .inl T.v0) (by decide) (by decide);have pv1:∀ p,PE X (.Name f1 p) (cA 1):=fun p=>bz (by rw[eN];rfl) (by rw[eS];exact .inl T.v1) T.d.1.1 T.d.1.2;have pv2:∀ p,PE X (.Name f2 p) (cA 2):=fun p=>bz (by rw[eN];rfl) (by rw[eS];exact .inl T.v2) T.d.2.1.1 T.d.2.1.2;have pv3:∀ p,PE X (.Name f3 p) (cA 3):=fun p=>bz (by rw[eN];rfl) (by rw[eS];exact .inl T.v3) T.d.2.2.1 T.d.2.2.2;rw[<-eK]at c n1 n2 n3;refine⟨_,aY (fw (pos':=p2) (pos:=p4) (pv0 p1) (pv1 p3) rfl) (aY (fw (pos':=p6) (pos:=p8) (pv0 p5) (pv2 p7) rfl) (aY (fw (pos':=p10) (pos:=p12) (pv0 p9) (pv3 p11) rfl) fk)),?_⟩;refine⟨a,rfl,.ref x,rfl,x,C,dx,[],rfl,hx,c,n1,by decide,?_⟩;refine⟨b,rfl,.ref x,rfl,x,C,dx,_,rfl,aC,c,n2,Nat.lt_of_le_of_lt dn (by decide),?_⟩;refine⟨e,rfl,.ref x,rfl,x,C,dx,_,rfl,aC,c,n3,Nat.lt_of_le_of_lt dn (Nat.lt_of_le_of_lt (Nat.succ_le_succ dn) (by decide)),?_⟩;rw[kz,kz];exact q _
end
abbrev gO(K:PySem.W.Frag)(cl:RL.Cl)(f:Nat)(C:Addr):Sp:=fun vs H Q E=>∃ x dx v d,vs=[.ref x,v]/\H x=some (.ins C dx [])/\Rep nP K H d v /\
 (((∃ r,cl f [d]=some r)/\∀ H2,bO x H H2->Q .non H2)\/∃ y,RL.clX cl f [d]=some y/\∀ C' od H2,CO K y C' od H2->bO x H H2->E (.ref C') od H2)
structure qO(cp hd f1 f2 f3:Str)(st:Stmt):Prop where
 body:∃ (p1 p2 p3 p4 p5 p6 p7 p8 p9 p10 p11 p12 p13 p14 p15 p16 p17 p18 p19 p20:Pos),aZ st=[.Expr (.Call (.Name cp p1) [.Name "pegs" p2] [] p3) p4,
  .Assign [.Attribute (.Name "self" p5) f1 p6] (.Call (.Name hd p7) [.Name "pegs" p8,.Dict [] [] p9,.Dict [] [] p10] [] p11) p12,.Assign [.Attribute (.Name "self" p13) f2 p14] (.List [] p15) p16,.Assign [.Attribute (.Name "self" p17) f3 p18] (.List [] p19) p20]
 sc:cx ["self", "pegs"] ["self", "pegs"] (aq st)
 v0:(aq st).names.lookup ("self" : Str)=some .local
 v1:(aq st).names.lookup ("pegs" : Str)=some .local
 g1:(aq st).names.lookup cp=some .globalImplicit
 g2:(aq st).names.lookup hd=some .globalImplicit
 d:(cp == ("__debug__" : Str))=false/\(hd == ("__debug__" : Str))=false
structure lM(P:Program)(w:World)(K:PySem.W.Frag)(mg:Str->Option Value)(base:Heap)(cl:RL.Cl)(k f:Nat)(x:Str)(fa:Addr)(fd:FuncData)(ps:List Str):Prop where
 nor:aR P w K mg base CX0 k fa fd ps (spF K cl f)
 ref:aR P w K mg base (CXE P w) k fa fd ps (spX K cl f)
 hm:mg x=some (.ref fa)
 hk:PySem.W.keepIn K (.ref fa)=true
 hb:Binds K fd ps []
section
variable{K:PySem.W.Frag}{st:Stmt}
def tP{E:XK}{pins:List (Addr × Obj)}{σ:St}{H1:Hp}{s1:Shared}{e:Value}{s':Shared}(I:Inv (cM (CXE P w) P w K mg base N qual sc fI cdv A outer s H E) pins σ H1 s1)(z:CXE P w (cM (CXE P w) P w K mg base N qual sc fI cdv A outer s H E).stack H1 s1 E e s'):(cM (CXE P w) P w K mg base N qual sc fI cdv A outer s H E).xe e s':=by
 obtain⟨x,C,od,H',rfl,hE,I',ex,_⟩:=I.refused rfl z;exact gU I' rfl rfl rfl ex hE I'.ok.frames
def yh{k:Nat}(c:Cls K C)(n1:bE K C f1)(n2:bE K C f2)(n3:bE K C f3)(T:qO cp hd f1 f2 f3 st)(F:Fun K "__init__" qual st fI fd)(a:lM P w K mg base cl (k+2) f cp fa fda psa)
 (m:Mk K CH fH)(FH:aR P w K mg base CX0 1 fH fdH psH (spN CH))(hmH:mg hd=some (.ref CH))(hbH:Binds K fdH psH []):aR P w K mg base (CXE P w) (k+3) fI fd ["self", "pegs"] (gO K cl f C):=by
 obtain⟨p1,p2,p3,p4,p5,p6,p7,p8,p9,p10,p11,p12,p13,p14,p15,p16,p17,p18,p19,p20,hb⟩:=T.body;refine Fun.okX F T.sc (fun vs H Q E h=>?_) fun cdv A outer s H vs Q E hr h=>?_
 ·obtain⟨x,dx,v,d,rfl,_⟩:=h;rfl
 ·rw[hb];obtain⟨x,dx,v,d,rfl,hx,rv,q⟩:=h;have hxe:=fun(pins:List (Addr × Obj)) (σ:St) (H1:Hp) (s1:Shared) (e:Value) (s':Shared)=>tP (P:=P) (w:=w) (K:=K) (mg:=mg) (base:=base) (N:=["self", "pegs"]) (qual:=qual) (sc:=aq st) (fI:=fI) (cdv:=cdv) (A:=A) (outer:=outer) (s:=s) (H:=H) (E:=E) (pins:=pins) (σ:=σ) (H1:=H1) (s1:=s1) (e:=e) (s':=s');generalize hX:cM (CXE P w) P w K mg base ["self", "pegs"] qual (aq st) fI cdv A outer s H E=X at hxe ⊢
  have eN:X.N=(["self", "pegs"]:List Str):=by rw[<-hX];rfl
  have eP:X.prog=P:=by rw[<-hX];rfl
  have eW:X.w=w:=by rw[<-hX];rfl
  have eK:X.K=K:=by rw[<-hX];rfl
  have eM:X.mg=mg:=by rw[<-hX];rfl
  have eB:X.base=base:=by rw[<-hX];rfl
  have eS:X.env.scope=aq st:=by rw[<-hX];rfl
  have hr:aT (k+2) X.A:=by rw[<-hX];exact hr
  have g1:Gl X cp:=by rw[<-hX];exact T.g1
  have g2:Gl X hd:=by rw[<-hX];exact T.g2
  subst eP eW eK eM eB;have pv0:∀ p,PE X (.Name "self" p) (cA 0):=fun p=>bz (by rw[eN];rfl) (by rw[eS];exact .inl T.v0) (by decide) (by decide);have pv1:∀ p,PE X (.Name "pegs" p) (cA 1):=fun p=>bz (by rw[eN];rfl) (by rw[eS];exact .inl T.v1) (by decide) (by decide);have mk:=pk (p:=p7) (pos:=p11) m FH (hr.mono (by omega)) g2 hmH hbH .nil jH (aG (pv1 p8) (aG (mI (pos:=p9)) (aG (mI (pos:=p10)) bf rfl) rfl) rfl) T.d.2 rfl rfl;have r2:=fw (f:=f1) (pos':=p6) (pos:=p12) (pv0 p5) mk rfl;have r3:=fw (f:=f2) (pos':=p14) (pos:=p16) (pv0 p13) (oi (pos:=p15) (bf (X:=X))) rfl;have r4:=fw (f:=f3) (pos':=p18) (pos:=p20) (pv0 p17) (oi (pos:=p19) (bf (X:=X))) rfl
  rcases q with⟨⟨r,hr1⟩,q⟩ | ⟨y,hy,q⟩
  ·have r1:=dO (X:=X) (pos:=p4) (kg (p:=p1) (pos:=p3) a.nor hr g1 a.hm a.hk a.hb .nil jH (aG (pv1 p2) bf rfl) T.d.1 rfl rfl) rfl;refine⟨_,aY r1 (aY r2 (aY r3 (aY r4 fk))),?_⟩;refine⟨v,rfl,[d],r,?_,hr1,fun _ H1 sm _=>?_⟩
   ·rw[List.append_nil];exact⟨v,[],rfl,rv,rfl⟩
   have k1:bO x H H1:=bO.refl.same sm;have x1:=sm _ _ hx;refine⟨v,rfl,fun a1 h1 a2 h2 x' dx' h3 h4 h5=>⟨x',dx',v,.ref a1,.ref a2,rfl,aC,fun fs=>⟨rfl,?_⟩⟩⟩;rw[kz]
   have x2:upd H1 a1 (.dK []) x=some (.ins C dx []):=by rw[aw fun z=>by rw[<-z,x1]at h1;cases h1];exact x1
   have x3:upd (upd H1 a1 (.dK [])) a2 (.dK []) x=some (.ins C dx []):=by rw[aw fun z=>by rw[<-z,x2]at h2;cases h2];exact x2
   have k3:bO x H (upd (upd H1 a1 (.dK [])) a2 (.dK [])):=(k1.new h1).new h2
   have x4:upd (upd (upd H1 a1 (.dK [])) a2 (.dK [])) dx' (.own x') x=some (.ins C dx []):=by rw[aw fun z=>by rw[<-z,x3]at h4;cases h4];exact x3
   have h3':upd (upd (upd H1 a1 (.dK [])) a2 (.dK [])) dx' (.own x') x'=none:=by rw[aw (Ne.symm h5)];exact h3
   have k4:=k3.new (o:=.own x') h4;have k5:=k4.new (o:=.ins CH dx' fs) h3'
   have x5:upd (upd (upd (upd H1 a1 (.dK [])) a2 (.dK [])) dx' (.own x')) x' (.ins CH dx' fs) x=some (.ins C dx []):=by rw[aw fun z=>by have:=x3;rw[z,h3]at this;cases this];exact x4
   refine⟨.ref x,rfl,x,C,dx,[],rfl,x5,c,n1,by decide,?_⟩;refine⟨by decide,fun a3 h6=>⟨.ref x,rfl,x,C,dx,bV f1 (.ref x') [],rfl,?_,c,n2,Nat.lt_of_le_of_lt dn (by decide),?_⟩⟩
   ·rw[aw fun z=>by rw[<-z,aC]at h6;cases h6];exact aC
   have k6:=(k5.self (o:=.ins C dx (bV f1 (.ref x') []))).new (o:=.lst []) h6;refine⟨by decide,fun a4 h7=>⟨.ref x,rfl,x,C,dx,bV f2 (.ref a3) (bV f1 (.ref x') []),rfl,?_,c,n3,Nat.lt_of_le_of_lt dn (Nat.lt_of_le_of_lt (Nat.succ_le_succ dn) (by decide)),?_⟩⟩
   ·rw[aw fun z=>by rw[<-z,aC]at h7;cases h7];exact aC
   exact q _ ((k6.self.new h7).self)
  ·have r1:=dO (X:=X) (pos:=p4) (iT (EX:=fun _=>E) (p:=p1) (pos:=p3) a.ref hr g1 a.hm a.hk a.hb (fun pins σ H1 s1 e s' I z=>hxe pins σ H1 s1 e s' I z) (aG (pv1 p2) bf rfl) T.d.1 rfl rfl) rfl;refine⟨_,aY r1 (aY r2 (aY r3 (aY r4 fk))),?_⟩;refine⟨v,rfl,[d],y,⟨v,[],rfl,rv,rfl⟩,hy,fun C' od H2 co sm=>q C' od H2 co (bO.refl.same sm)⟩
structure qk(lf f1:Str)(st:Stmt):Prop where
 body:∃ (p1 p2 p3 p4 p5 p6:Pos),aZ st=[.Assign [.Attribute (.Name "self" p1) f1 p2] (.Call (.Name lf p3) [.Name "pegs" p4] [] p5) p6]
 sc:cx ["self", "pegs"] ["self", "pegs"] (aq st)
 v0:(aq st).names.lookup ("self" : Str)=some .local
 v1:(aq st).names.lookup ("pegs" : Str)=some .local
 g1:(aq st).names.lookup lf=some .globalImplicit
 d:(lf == ("__debug__" : Str))=false
def kW{H H2:Hp}(hx:H x=some o)(h3:H x'=none)(h4:H dx'=none)(k2:bO x' (upd (upd H dx' (.own x')) x' u) H2):H2 x=some o/\bO x H H2:=by
 have key:∀ b q,H b=some q->H2 b=some q:=fun b q e=>by
  have n1:b≠x':=fun z=>by rw[z,h3]at e;cases e
  have n2:b≠dx':=fun z=>by rw[z,h4]at e;cases e
  exact k2 b q n1 (by rw[aw n1,aw n2];exact e)
 exact⟨key _ _ hx,fun b q _ e=>key b q e⟩
def jh{H:Hp}{d:RL.D}(h3:H x'=none)(h4:H dx'=none)(hne:dx'≠x')(rv:Rep nP K H d v):Rep nP K (upd (upd H dx' (.own x')) x' u) d v:=by
 refine rv.same fun b q e=>?_
 have n1:b≠x':=fun z=>by rw[z,h3]at e;cases e
 have n2:b≠dx':=fun z=>by rw[z,h4]at e;cases e
 rw[aw n1,aw n2];exact e
def yP{k:Nat}(c:Cls K C)(n1:bE K C f1)(T:qk lf f1 st)(F:Fun K "__init__" qual st fI fd)(m:Mk K CL fL)(FL:aR P w K mg base (CXE P w) k fL fdL ["self", "pegs"] (gO K cl f CL))(hmL:mg lf=some (.ref CL))(hbL:Binds K fdL ["self", "pegs"] []) :
  aR P w K mg base (CXE P w) (k+2) fI fd ["self", "pegs"] (gO K cl f C):=by
 obtain⟨p1,p2,p3,p4,p5,p6,hb⟩:=T.body;refine Fun.okX F T.sc (fun vs H Q E h=>?_) fun cdv A outer s H vs Q E hr h=>?_
 ·obtain⟨x,dx,v,d,rfl,_⟩:=h;rfl
 ·rw[hb];obtain⟨x,dx,v,d,rfl,hx,rv,q⟩:=h;have hxe:=fun(pins:List (Addr × Obj)) (σ:St) (H1:Hp) (s1:Shared) (e:Value) (s':Shared)=>tP (P:=P) (w:=w) (K:=K) (mg:=mg) (base:=base) (N:=["self", "pegs"]) (qual:=qual) (sc:=aq st) (fI:=fI) (cdv:=cdv) (A:=A) (outer:=outer) (s:=s) (H:=H) (E:=E) (pins:=pins) (σ:=σ) (H1:=H1) (s1:=s1) (e:=e) (s':=s');generalize hX:cM (CXE P w) P w K mg base ["self", "pegs"] qual (aq st) fI cdv A outer s H E=X at hxe ⊢
  have eN:X.N=(["self", "pegs"]:List Str):=by rw[<-hX];rfl
  have eP:X.prog=P:=by rw[<-hX];rfl
  have eW:X.w=w:=by rw[<-hX];rfl
  have eK:X.K=K:=by rw[<-hX];rfl
  have eM:X.mg=mg:=by rw[<-hX];rfl
  have eB:X.base=base:=by rw[<-hX];rfl
  have eS:X.env.scope=aq st:=by rw[<-hX];rfl
  have hr:aT (k+1) X.A:=by rw[<-hX];exact hr
  have g1:Gl X lf:=by rw[<-hX];exact T.g1
  subst eP eW eK eM eB;have pv0:∀ p,PE X (.Name "self" p) (cA 0):=fun p=>bz (by rw[eN];rfl) (by rw[eS];exact .inl T.v0) (by decide) (by decide);have pv1:∀ p,PE X (.Name "pegs" p) (cA 1):=fun p=>bz (by rw[eN];rfl) (by rw[eS];exact .inl T.v1) (by decide) (by decide);have mk:=pk (CX:=CXE X.prog X.w) (E:=E) (p:=p3) (pos:=p5) m FL hr g1 hmL hbL .nil hxe (aG (pv1 p4) bf rfl) T.d rfl rfl;refine⟨_,aY (fw (f:=f1) (pos':=p2) (pos:=p6) (pv0 p1) mk rfl) fk,?_⟩;refine⟨v,rfl,fun x' dx' h3 h4 h5=>⟨x',dx',v,d,rfl,aC,jh h3 h4 h5 rv,?_⟩⟩
  rcases q with⟨hr1,q⟩ | ⟨y,hy,q⟩
  ·refine .inl ⟨hr1,fun H2 k2=>⟨rfl,?_⟩⟩;obtain⟨a1,a2⟩:=kW hx h3 h4 k2;exact⟨.ref x,rfl,x,C,dx,[],rfl,a1,c,n1,by decide,q _ a2.self⟩
  ·exact .inr ⟨y,hy,fun C' od H2 co k2=>q C' od H2 co (kW hx h3 h4 k2).2⟩
end
def ny{CX:CXT}{EX:St->XK}{k:Nat}{ps:List Str}{sp:Sp}{es:List Expr}{t:TA}{pos p:Pos}{e:Expr}(M:Mk X.K C f)(F:aR X.prog X.w X.K X.mg X.base CX k f fd ps sp)(hr:aT (k+1) X.A)(hg:Gl X x)(hm:X.mg x=some (.ref C))(hb:Binds X.K fd ps [])
 (hx:∀ pins σ H s e s',Inv X pins σ H s->CX X.stack H s (EX σ) e s'->X.xe e s')(ha:PA X (e::es) t)(hdb:(x == ("__debug__" : Str))=false)(he:starEach (e::es) X.env=(false,eval e X.env)::starEach es X.env)(hpl:(backTo pos (starEach es X.env)).any (·.1)=false) :
  PE X (.Call (.Name x p) (e::es) [] pos) (fun σ H Q=>t σ H fun vs H1=>∀ x dx,H1 x=none->H1 dx=none->dx≠x->sp (.ref x::vs) (upd (upd H1 dx (.own x)) x (.ins C dx [])) (fun v H2=>v=.non/\Q (.ref x) H2) (EX σ)):=by
 intro pins s0 σ H0 Q I0 h;refine wpAny_Call_Name_kw (cJ I0 hg hm ?_ hdb);refine PySem.W.callWith_K (h₀:=X.base) I0.ok.mod.kin M.kp (thn (ha pos pins s0 σ H0 _ I0 h) fun us s ⟨vs,H,I,r,h⟩=>⟨I.kIn,?_⟩) he hpl;have hq:=h (s.heap.objs.size+1) s.heap.objs.size (I.hok.fresh (Nat.le_succ _)) (I.hok.fresh (Nat.le_refl _)) (Nat.ne_of_lt (Nat.lt_succ_self _));have I2:=Inv.made (C:=C) I;have r2:Vals (V.ref (s.heap.objs.size+1)::vs) (Value.ref (s.heap.objs.size+1)::us):=.cons rfl r
 have hl:((Value.ref (s.heap.objs.size+1)::us)++[]).length=ps.length:=by
  have e:=r2.length;rw[F.len _ _ _ _ hq]at e;rw[List.append_nil];exact e.symm
 have hbb:=hb _ (Value.ref (s.heap.objs.size+1)::us) I2.kIn hl;rw[List.append_nil]at hbb
 refine wpAny_call (ml (f:=f) I.kIn M.makes M.init (beq_iff_eq.mp M.fn) (codeAny_mono (F.run _ X.stack _ _ ⟨Value.ref (s.heap.objs.size+1)::us,[]⟩ (Value.ref (s.heap.objs.size+1)::us) _ _ (EX σ) (hr.make C us [])
  (I2.mJ.make C us []) hbb r2 hq) fun r s' hq'=>?_))
 cases r with
 | error e=>exact hx pins σ _ _ e s' I2 hq'
 |ok fl=>
  cases fl with
  |ret u=>
   obtain⟨v,H',I3,rv,ev,q3⟩:=I2.after hq';subst ev;exact⟨rv,⟨V.ref (s.heap.objs.size+1),H',I3,rfl,q3⟩⟩
  | next=>exact False.elim hq'
  | brk=>exact False.elim hq'
  | cont=>exact False.elim hq'
structure j0(K:PySem.W.Frag)(mg:Str->Option Value)(cp c:Str)(C fI:Addr)(fd:FuncData):Prop where
 m:Mk K C fI
 cl:Cls K C
 ex:∃ f1 f2 f3 st qual,bE K C f1/\bE K C f2/\bE K C f3/\qO cp "Holding" f1 f2 f3 st/\Fun K "__init__" qual st fI fd
 hb:Binds K fd ["self", "pegs"] []
 hm:mg c=some (.ref C)
 ho:∃ CH fH fdH f1 f2 f3 st qual,Mk K CH fH/\Cls K CH/\bE K CH f1/\bE K CH f2/\bE K CH f3/\qE f1 f2 f3 st/\Fun K "__init__" qual st fH fdH/\mg "Holding" = some (.ref CH)/\Binds K fdH ["self",f1,f2,f3] []
structure qb(K:PySem.W.Frag)(mg:Str->Option Value)(cp c:Str)(C fI:Addr)(fd:FuncData):Prop where
 m:Mk K C fI
 cl:Cls K C
 ex:∃ lf f1 st qual CL fL fdL,bE K C f1/\qk lf f1 st/\Fun K "__init__" qual st fI fd/\j0 K mg cp lf CL fL fdL
 hb:Binds K fd ["self", "pegs"] []
 hm:mg c=some (.ref C)
section
variable{K:PySem.W.Frag}
def j0.fn{k:Nat}{cl:RL.Cl}(h:j0 K mg cp c C fI fd)(a:lM P w K mg base cl (k+2) f cp fa fda psa):aR P w K mg base (CXE P w) (k+3) fI fd ["self", "pegs"] (gO K cl f C):=by
 obtain⟨f1,f2,f3,st,qual,n1,n2,n3,T,F⟩:=h.ex;obtain⟨CH,fH,fdH,g1,g2,g3,sth,qh,mH,cH,m1,m2,m3,TH,FH,hmH,hbH⟩:=h.ho;exact yh h.cl n1 n2 n3 T F a mH (ya cH m1 m2 m3 TH FH) hmH hbH
def qb.fn{k:Nat}{cl:RL.Cl}(h:qb K mg cp c C fI fd)(a:lM P w K mg base cl (k+2) f cp fa fda psa):aR P w K mg base (CXE P w) (k+5) fI fd ["self", "pegs"] (gO K cl f C):=by
 obtain⟨lf,f1,st,qual,CL,fL,fdL,n1,T,F,L⟩:=h.ex;exact yP h.cl n1 T F L.m (L.fn a) L.hm L.hb
abbrev gN(K:PySem.W.Frag)(mg:Str->Option Value)(cp c:Str):Prop:=∃ C fI fd,j0 K mg cp c C fI fd\/qb K mg cp c C fI fd
def gN.fn{k:Nat}{cl:RL.Cl}(h:gN K mg cp c)(a:lM P w K mg base cl (k+2) f cp fa fda psa):∃ C fI fd,Mk K C fI/\aR P w K mg base (CXE P w) (k+5) fI fd ["self", "pegs"] (gO K cl f C)/\mg c=some (.ref C)/\Binds K fd ["self", "pegs"] []:=by
 obtain⟨C,fI,fd,h | h⟩:=h
 ·exact⟨C,fI,fd,h.m,(h.fn a).mono (by omega),h.hm,h.hb⟩
 ·exact⟨C,fI,fd,h.m,h.fn a,h.hm,h.hb⟩
end
structure iO(K:PySem.W.Frag)(C f:Addr):Prop where
 a1:PySem.W.makesIn K C=true
 a2:PySem.W.findIn K (.ref C) "__init__" = some (some (.ref f))
 a3:PySem.W.isFn K (.ref f)=true
 a4:PySem.W.keepIn K (.ref C)=true
 a5:PySem.W.plainGet K C Str.empty=true
 a6:PySem.W.hasDictIn K C=true
 a7:PySem.W.plainOver K C=true
 a8:PySem.W.findIn K (.ref C) "__setattr__" = some (some (.builtin "object.__setattr__"))
def iO.m{K:PySem.W.Frag}(h:iO K C f):Mk K C f:=⟨h.a1,h.a2,h.a3,h.a4⟩
def iO.c{K:PySem.W.Frag}(h:iO K C f):Cls K C:=⟨h.a5,h.a6,h.a7,h.a8⟩
end L2
namespace RS
open PySem PySem.Spec PyProof.Rows L2
section
variable{X:Cx}{cl:RL.Cl}{a:Expr}{a':RL.E}{pos p:Pos}{c:Str}{f k:Nat}{C fI:Addr}{fd:FuncData}
def Ai(m:Mk X.K C fI)(F:aR X.prog X.w X.K X.mg X.base (CXE X.prog X.w) k fI fd ["self", "pegs"] (gO X.K cl f C))(hr:aT (k+1) X.A)(hg:Gl X c)(hm:X.mg c=some (.ref C))(hb:Binds X.K fd ["self", "pegs"] [])(hdb:(c == ("__debug__" : Str))=false)(ha:SE X cl a a')(hn:noStar a=true) :
  SE X cl (.Call (.Name c p) [a] [] pos) (.mkO c f a'):=by
 refine PE.weak (ny (EX:=fun _=>E0) m F hr hg hm hb (fun pins σ H s e s' I z=>by
  obtain⟨_,_,_,_,_,hE,_⟩:=z
  exact hE.elim) (aG ha bf (az [] hn)) hdb (az [] hn) rfl) fun σ H Q h=>?_
 obtain⟨σD,d,rv,e,kk⟩:=h;obtain⟨x,ea,e⟩:=bind_some e;obtain⟨r,er,e⟩:=bind_some e;cases e;refine⟨σD,x,rv,ea,fun v H1 r1 x' dx' h3 h4 h5=>⟨x',dx',v,x,rfl,aC,jh h3 h4 h5 r1.rep,.inl ⟨⟨r,er⟩,fun H2 k2=>⟨rfl,kk _ _ (cu ?_ ?_ rfl)⟩⟩⟩⟩
 ·refine r1.same.trans fun b q e=>?_
  have n1:b≠x':=fun z=>by rw[z,h3]at e;cases e
  have n2:b≠dx':=fun z=>by rw[z,h4]at e;cases e
  exact k2 b q n1 (by rw[aw n1,aw n2];exact e)
 ·rw[Rep];exact⟨x',rfl⟩
def AJ{EX:L2.St->XK}(m:Mk X.K C fI)(F:aR X.prog X.w X.K X.mg X.base (CXE X.prog X.w) k fI fd ["self", "pegs"] (gO X.K cl f C))(hr:aT (k+1) X.A)(hg:Gl X c)(hm:X.mg c=some (.ref C))(hb:Binds X.K fd ["self", "pegs"] [])(hdb:(c == ("__debug__" : Str))=false)(hx:∀ pins σ H s e s',Inv X pins σ H s->CXE X.prog X.w X.stack H s (EX σ) e s'->X.xe e s')(ha:SE X cl a a')(hn:noStar a=true) :
  RE X EX cl (.Call (.Name c p) [a] [] pos) (.mkO c f a'):=by
 refine PE.weak (ny (EX:=EX) m F hr hg hm hb hx (aG ha bf (az [] hn)) hdb (az [] hn) rfl) fun σ H Q h=>?_;obtain⟨σD,y,rv,e,kk⟩:=h;obtain⟨x,ea,e⟩:=bind_some (show(RL.ev cl σD a').bind (fun x=>RL.clX cl f [x])=some y from e);refine⟨σD,x,rv,ea,fun v H1 r1 x' dx' h3 h4 h5=>⟨x',dx',v,x,rfl,aC,jh h3 h4 h5 r1.rep,.inr ⟨y,e,fun C' od H2 co k2=>kk C' od H2 co (r1.same.trans fun b q e=>?_)⟩⟩⟩
 have n1:b≠x':=fun z=>by rw[z,h3]at e;cases e
 have n2:b≠dx':=fun z=>by rw[z,h4]at e;cases e
 exact k2 b q n1 (by rw[aw n1,aw n2];exact e)
def B7{M:List Nat}{b:Expr}{b':RL.E}{o:RL.Cop}{A B:List Stmt}{A' B':RL.Ss}{q:Pos}(hu:X.A.units+100<cLine)(ha:SE X cl a a')(hb:SE X cl b b')(hA:SSs X cl M A A')(hB:SSs X cl M B B'):SS X cl M (.If (.Compare a [bZ o] [b] q) A B pos) (.ifr o a' b' A' B'):=wg (pos:=pos) (tD (pos:=q) hu ha hb) hA hB
def yY{EX:L2.St->XK}{M:List Nat}{b:Expr}{b':RL.E}{o:RL.Cop}{A B:List Stmt}{A' B':RL.Ss}{q:Pos}{tA tB:TS}(hu:X.A.units+100<cLine)(ha:SE X cl a a')(xa:RE X EX cl a a')(xb:RE X EX cl b b')(hA:PSs X A tA)(hB:PSs X B tB):RZ X EX cl M (.If (.Compare a [bZ o] [b] q) A B pos) (.ifr o a' b' A' B'):=by
 intro pins s σ H D I h;obtain⟨σD,x,σD',rv,z,k⟩:=h
 have z:(match RL.ev cl σD a' with
  | some _=>(RL.evX cl σD b').map fun z=>(z,σD)
  | none=>(RL.evX cl σD a').map fun z=>(z,σD))=some (x,σD'):=z
 cases hev:RL.ev cl σD a' with
 |some d=>
  rw[hev]at z;obtain⟨y,z1,z2⟩:=map_some z;cases z2;exact j3 (gm (pos:=q) (eA (c:=o) hu) ha xb (dH b)) hA hB pins s σ H D I ⟨σD,d,rv.rv0,hev,fun v H1 r1=>⟨σD,x,rv.rv0.same r1.same,z1,fun C od H2 hc sm=>k σ H2 C od hc (rv.same (r1.same.trans sm)) (Fr'.same (r1.same.trans sm))⟩⟩
 |none=>
  rw[hev]at z;obtain⟨y,z1,z2⟩:=map_some z;cases z2;exact j3 (gm (pos:=q) (eA (c:=o) hu) xa xb (dH b)) hA hB pins s σ H D I ⟨σD,x,rv.rv0,z1,fun C od H2 hc sm=>k σ H2 C od hc (rv.same sm) (Fr'.same sm)⟩
end
structure CC where
 N:List Str
 sc:Scope
 B:List Str
 G:List (Str × Int)
 F:List (Str × List Nat)
 calm:Bool
 hf:List Nat
 Xr:List Str
 Xs:List Str
 Xi:List Str
 Xo:List (Str × Nat)
 W:List (Str × List (Str × Nat))
abbrev zH(scope sc:Scope):Scope:={ scope with names:=scope.names.map fun(n,k)=>if(k == NameKind.free&&sc.kind == .function&&sc.names.lookup n == some .cell)then(n,NameKind.cell)else(n,k) }
abbrev CC.inner(C:CC)(scope:Scope):CC:={ C with sc:=zH scope C.sc }
abbrev fU(x:Str):Bool:=!(x == ("__debug__" : Str)) && !(x == ("__classdict__" : Str))
abbrev vg(C:CC)(x:Str):Bool:=C.sc.names.lookup x == some .local || C.sc.names.lookup x == some .cell
abbrev vy(C:CC)(x:Str):Bool:=C.sc.names.lookup x == some .local || C.sc.names.lookup x == some .cell || C.sc.names.lookup x == some .free
abbrev glB(C:CC)(x:Str):Bool:=C.sc.names.lookup x == some .globalImplicit&&fU x
abbrev jg(C:CC)(x:Str):Bool:=glB C x&&C.B.contains x
abbrev nmB(C:CC)(i:Nat)(x:Str):Bool:=C.N[i]? == some x&&fU x
structure XOk(C:CC)(X:Cx)(cl:RL.Cl):Prop where
 scope:X.env.scope=C.sc
 names:X.N=C.N
 nd:C.N.Nodup
 calm:C.calm=true->X.calm=true
 xe:X.xe=fun _ _=>False
 hu:X.A.units+100<cLine
 blt:∀ x∈C.B,X.mg x=none
 glb:∀ x i,C.G.lookup x=some i->∃ u,X.mg x=some u/\RelV (.int i) u
 fns:∀ (f:Nat) (x:Str) (mp:List Nat),C.calm=true->C.F[f]?=some (x,mp)->∃ k fa fd ps,aR X.prog X.w X.K X.mg X.base CX0 k fa fd ps (if mp=[]then spF X.K cl f else spM X.K cl mp f)/\aT k X.A/\X.mg x=some (.ref fa)/\PySem.W.keepIn X.K (.ref fa)=true/\Binds X.K fd ps []
 gds:∀ x tbl,C.W.lookup x=some tbl->∃ d kvs,X.mg x=some (.ref d)/\GDc X d kvs/\kvs.map (·.1)=tbl.map (·.1)/\∀ y m,RL.mi tbl (.str y)=some m->∃ q nm,(kvs.find? fun q=>decide (q.1=y))=some q/\C.F[m]?=some (nm,[])/\X.mg nm=some (.ref q.2)
 hfn:∀ (f:Nat) (x:Str),C.hf.contains f=true->C.F[f]?=some (x,[])->∃ k fa fd ps,jM X.prog X.w X.K X.mg X.base k fa fd ps (spF X.K cl f)/\ee k X.A/\X.mg x=some (.ref fa)/\PySem.W.keepIn X.K (.ref fa)=true/\Binds X.K fd ps []
 cls:∀ c,C.Xr.contains c=true->∃ D,X.mg c=some (.ref D)/\Cls X.K c D/\PySem.W.excIn X.K D VE "ValueError.__new__" = true
 cli:∀ c,C.Xi.contains c=true->∃ D R fI fd,X.mg c=some (.ref D)/\Cls X.K c D/\gC X.K R D fI/\aR X.prog X.w X.K X.mg X.base CX0 1 fI fd ["self", "at"] (spI D)/\(C.calm=true->aT 2 X.A)/\Binds X.K fd ["self", "at"] []
 mko:∀ c f,C.Xo.contains (c,f)=true->C.calm=true->∃ k D fI fd,Mk X.K D fI/\aR X.prog X.w X.K X.mg X.base (CXE X.prog X.w) k fI fd ["self", "pegs"] (gO X.K cl f D)/\aT (k+1) X.A/\X.mg c=some (.ref D)/\Binds X.K fd ["self", "pegs"] []
 ref:∀ c,C.Xs.contains c=true->∃ D,X.mg c=some (.ref D)/\PySem.W.nsIn X.K mainGlobals c=some (some (.ref D))
section
variable{C:CC}{X:Cx}{cl:RL.Cl}{e:Expr}
def XOk.vis(h:XOk C X cl){x:Str}(v:vy C x=true):Vis X.env.scope x:=by
 unfold vy at v;rw[<-h.scope,Bool.or_eq_true,Bool.or_eq_true,beq_iff_eq,beq_iff_eq,beq_iff_eq]at v;rcases v with(v | v) | v
 ·exact .inl v
 ·exact .inr (.inl v)
 ·exact .inr (.inr v)
def XOk.loc(h:XOk C X cl){x:Str}(v:vg C x=true):Loc X.env.scope x:=by
 unfold vg at v;rw[<-h.scope,Bool.or_eq_true,beq_iff_eq,beq_iff_eq]at v;exact v
def bc{x:Str}(h:fU x=true):(x == ("__debug__" : Str))=false/\(x == ("__classdict__" : Str))=false:=by
 unfold fU at h;rw[Bool.and_eq_true,Bool.not_eq_true',Bool.not_eq_true']at h;exact h
def XOk.gl(h:XOk C X cl){x:Str}(v:glB C x=true):Gl X x/\fU x=true:=by
 unfold glB at v;rw[<-h.scope,Bool.and_eq_true,beq_iff_eq]at v;exact v
def XOk.bl(h:XOk C X cl){x:Str}(v:jg C x=true):Gl X x/\X.mg x=none:=by
 unfold jg at v;rw[Bool.and_eq_true]at v;exact⟨(h.gl v.1).1,h.blt x (by simpa using v.2)⟩
def XOk.nm(h:XOk C X cl){i:Nat}{x:Str}(v:nmB C i x=true):X.N[i]?=some x/\fU x=true:=by
 unfold nmB at v;rw[<-h.names,Bool.and_eq_true,beq_iff_eq]at v;exact v
def XOk.ndX(h:XOk C X cl):X.N.Nodup:=by rw[h.names];exact h.nd
def XOk.blk(h:XOk C X cl){scope:Scope}(cls:List (Str × Addr))(Ca:Addr)(fp:List Addr)(s:Shared)(H:Hp):XOk (C.inner scope) (L2.blk X scope cls Ca fp s H) cl where
 scope:=by
  show relabel scope X.env=zH scope C.sc;rw[<-h.scope];rfl
 names:=h.names
 nd:=h.nd
 calm:=h.calm
 xe:=rfl
 hu:=h.hu
 blt:=h.blt
 glb:=h.glb
 fns:=h.fns
 hfn:=h.hfn
 cls:=h.cls
 cli:=h.cli
 mko:=h.mko
 ref:=h.ref
 gds:=h.gds
abbrev jA:RL.D->Const->Bool
 | .int i,.int j=>i == j
 | .bl i,.bool j=>i == j
 | .non,.none=>true
 | .str x,.str y=>x == y
 | _,_=>false
abbrev plainT:Expr->Bool
 | .UnaryOp .Not _ _=>false
 | .BoolOp _ _ _=>false
 | .IfExp _ _ _ _=>false
 | .Compare _ _ _ _=>false
 | _=>true
abbrev nc:Expr->Bool
 | .BoolOp _ _ _=>true
 | _=>false
abbrev jN:Expr->Bool
 | .Set _ _ _=>false
 | _=>true
abbrev qt:RL.Bi->Option Str
 | .len=>some "len"
 | .list=>some "list"
 | .tuple=>some "tuple"
 | .all=>some "all"
 | _=>none
abbrev m9:RL.Ty->Str
 | .int => "int"
 | .bool => "bool"
 | .list => "list"
 | .tuple => "tuple"
 | .str => "str"
abbrev Dw(neg:Bool):CmpOp:=if neg then .NotIn else .In
abbrev fA(C:CC)(i:Nat)(e:Expr):Bool:=(cD e).any fun x=>nmB C i x&&vy C x
abbrev ef(C:CC)(i:Nat)(e:Expr):Bool:=(cD e).any fun x=>nmB C i x&&vg C x
abbrev i7(C:CC):List Nat->List Expr->Bool
 | [],es=>es.isEmpty
 | i::is,es=>match es with
  | e::es=>ef C i e&&i7 C is es
  | []=>false
abbrev ku(C:CC)(tg:List Nat)(e:Expr):Bool :=
 match tg with
 | [i]=>ef C i e
 | tg=>(kE e).any fun es=>i7 C tg es
abbrev jG(C:CC)(scope:Scope)(tg:List Nat):Bool:=tg.all fun i=>match C.N[i]? with
 | some x=>scope.names.lookup x == some .local || scope.names.lookup x == some .cell
 | none=>false
abbrev jJ(C:CC)(scope:Scope)(tg:List Nat):Bool:=(List.range C.N.length).all fun i=>match C.N[i]? with
 | some x=>!(scope.names.lookup x == some .local || scope.names.lookup x == some .cell) || tg.contains i
 | none=>true
abbrev scB(scope sc:Scope):Bool:=scope.kind == .function&&scope.names.all (fun x=>(!(x.2 == .cell) || scope.names.lookup x.1 == some .cell)&&(!(x.2 == .local) || scope.names.lookup x.1 == some .local)&&(!(x.2 == .free) || sc.names.lookup x.1 == some .cell || sc.names.lookup x.1 == some .free))
abbrev bC(C:CC)(e:Expr)(nm:Str)(f:List Expr->Bool):Bool:=(eg e).any fun q=>(cD q.1).any (fun x=>x == nm&&jg C x)&&q.2.2.1.isEmpty&&q.2.1.all noStar&&f q.2.1
def bu{nm:Str}{f:List Expr->Bool}(h:XOk C X cl)(z:bC C e nm f=true):∃ p as pos,e=.Call (.Name nm p) as [] pos/\Gl X nm/\X.mg nm=none/\as.all noStar=true/\f as=true:=by
 unfold bC at z;obtain⟨⟨g,as,ks,pos⟩,z0,z⟩:=aj z;have e0:=cq z0;subst e0;obtain⟨z,z4⟩:=ae z;obtain⟨z,z3⟩:=ae z;obtain⟨z1,z2⟩:=ae z;obtain⟨x,y0,z1⟩:=aj z1;obtain⟨p,rfl⟩:=bA y0;obtain⟨y1,y2⟩:=ae z1;rw[beq_iff_eq]at y1;subst y1;obtain⟨b1,b2⟩:=h.bl y2;rw[List.isEmpty_iff]at z2;subst z2;exact⟨p,as,pos,rfl,b1,b2,z3,z4⟩
def all1{a:Expr}(h:[a].all noStar=true):noStar a=true:=by simpa using h
def all2{a b:Expr}(h:[a,b].all noStar=true):noStar a=true/\noStar b=true:=by simpa using h
def kC{a b c:Expr}(h:[a,b,c].all noStar=true):noStar a=true/\noStar b=true/\noStar c=true:=by simpa using h
end
abbrev qC:RL.It->Bool
 | .zip _ _=>true
 | _=>false
mutual
noncomputable def chk(C:CC)(t:Bool):RL.E->Expr->Bool
 | .var i=>fun e=>fA C i e
 | .cst d=>fun e=>(m6 e).any fun k=>jA d k
 | .glb y i=>fun e=>(cD e).any fun x=>x == y&&glB C x&&C.G.lookup x == some i
 | .bin o a b=>fun e=>(ve e).any fun q=>q.2.1 == nF o&&chk C false a q.1&&chk C false b q.2.2
 | .neg a=>fun e=>(vUn e).any fun q=>q.1 == .USub&&chk C false a q.2
 | .cmp c a b=>fun e=>(jS e).any fun q=>of1 q.2.1 fun op=>of1 q.2.2 fun r=>op == bZ c&&chk C false a q.1&&chk C false b r
 | .chain c c' a b d=>fun e=>(jS e).any fun q=>of2 q.2.1 fun op op'=>of2 q.2.2 fun r s=>op == bZ c&&op' == bZ c'&&chk C false a q.1&&chk C false b r&&chk C false d s
 | .inn neg a b=>fun e=>(jS e).any fun q=>of1 q.2.1 fun op=>of1 q.2.2 fun r=>op == Dw neg&&pU r&&chk C false a q.1&&chk C false b r
 | .and a b=>fun e=>(vBool e).any fun q=>ofM q.2.1 fun l r rest=>q.1 == .And&&chk C t a l&&(if rest.isEmpty then chk C t b r else chk C t b (.BoolOp .And (r::rest) q.2.2))
 | .or a b=>fun e=>(vBool e).any fun q=>ofM q.2.1 fun l r rest=>q.1 == .Or&&chk C t a l&&(if rest.isEmpty then chk C t b r else chk C t b (.BoolOp .Or (r::rest) q.2.2))
 | .not a=>fun e=>(vUn e).any fun q=>q.1 == .Not&&chk C t a q.2
 | .ifx c a b=>fun e=>(BE e).any fun q=>!t&&chk C true c q.1&&chk C false a q.2.1&&chk C false b q.2.2
 | .tup es=>fun e=>(kE e).any fun xs=>gH C es xs&&decide (de es<=1000)
 | .lst es=>fun e=>(u7 e).any fun xs=>gH C es xs&&decide (de es<=1000)
 | .ix a b=>fun e=>(oj e).any fun q=>iS q.2&&chk C false a q.1&&chk C false b q.2
 | .slT a b=>fun e=>(oj e).any fun q=>chk C false a q.1&&(vSl q.2).any fun s=>s.1.isNone&&s.2.2.isNone&&s.2.1.any fun r=>chk C false b r
 | .call f es=>fun e=>(C.calm || C.hf.contains f)&&(eg e).any fun q=>(cD q.1).any (fun x=>glB C x&&C.F[f]? == some (x,[]))&&q.2.2.1.isEmpty && !q.2.1.isEmpty&&gH C es q.2.1
 | .bi b a=>fun e=>C.calm&&match b with
  | .lenSet=>false
  | b=>(qt b).any fun x=>bC C e x fun ys=>of1 ys fun y=>chk C false a y
 | .isi a ty=>fun e=>bC C e "isinstance" fun ys=>of2 ys fun y z=>(cD z).any (fun x=>x == m9 ty&&jg C x)&&chk C false a y
 | .rng1 a=>fun e=>C.calm&&bC C e "list" fun ys=>of1 ys fun y=>bC C y "range" fun zs=>of1 zs fun z=>chk C false a z
 | .rng2 a b=>fun e=>C.calm&&bC C e "list" fun ys=>of1 ys fun y=>bC C y "range" fun zs=>of2 zs fun z u=>chk C false a z&&chk C false b u
 | .rng3 c a b=>fun e=>C.calm&&bC C e "list" fun ys=>of1 ys fun y=>bC C y "range" fun zs=>of3 zs fun z u q=>f7 c q&&chk C false a z&&chk C false b u
 | .comp d tg it c=>fun e=>(qP e).any fun q=>of1 q.2.1 fun g=>of1 g.ifs fun w=>g.is_async == 0&&scB q.2.2.1 C.sc&&jJ C q.2.2.1 tg&&jN g.iter&&ku (C.inner q.2.2.1) tg g.target&&jG C q.2.2.1 tg&&mh C it g.target g.iter&&chk (C.inner q.2.2.1) false d q.1&&chk (C.inner q.2.2.1) true c w&&(C.calm || qC it)
 | .compA d tg it=>fun e=>(qP e).any fun q=>of1 q.2.1 fun g=>g.ifs.isEmpty&&g.is_async == 0&&scB q.2.2.1 C.sc&&jJ C q.2.2.1 tg&&jN g.iter&&ku (C.inner q.2.2.1) tg g.target&&jG C q.2.2.1 tg&&mh C it g.target g.iter&&chk (C.inner q.2.2.1) false d q.1&&C.calm
 | .frz a=>fun e=>((u7 e).isSome || (ve e).isSome || (eg e).isSome)&&chk C false a e
 | .join a=>fun e=>(eg e).any fun q=>(qV q.1).any (fun u=>u.2.1 == ("join" : Str)&&u.2.2.endLine == q.2.2.2.line&&(m6 u.1).any fun k=>jA (.str ⟨#[]⟩) k)&&q.2.2.1.isEmpty&&of1 q.2.1 fun y=>noStar y&&chk C false a y
 | .isx a c=>fun e=>bC C e "isinstance" fun ys=>of2 ys fun y z=>(cD z).any (fun x=>x == c&&(if c == ("ValueError" : Str)then jg C x else glB C x&&C.Xs.contains x&&ck.contains x))&&chk C false a y
 | .mkO c f a=>fun e=>C.calm&&C.Xo.contains (c,f)&&(eg e).any fun q=>(cD q.1).any (fun x=>x == c&&glB C x)&&q.2.2.1.isEmpty&&of1 q.2.1 fun y=>noStar y&&chk C false a y
noncomputable def gH(C:CC):RL.Es->List Expr->Bool
 | .nil=>fun xs=>xs.isEmpty
 | .cons e es=>fun xs=>match xs with
  | x::xs=>noStar x&&chk C false e x&&gH C es xs
  | []=>false
noncomputable def mh(C:CC):RL.It->Expr->Expr->Bool
 | .seq a=>fun _ e=>chk C false a e
 | .rng1 a=>fun _ e=>bC C e "range" fun ys=>of1 ys fun y=>chk C false a y
 | .rng2 a b=>fun _ e=>bC C e "range" fun ys=>of2 ys fun y z=>chk C false a y&&chk C false b z
 | .rng3 c a b=>fun _ e=>bC C e "range" fun ys=>of3 ys fun y z q=>f7 c q&&chk C false a y&&chk C false b z
 | .chr a=>fun _ e=>chk C false a e
 | .enm a=>fun tg e=>(kE tg).isSome&&bC C e "enumerate" fun ys=>of1 ys fun y=>chk C false a y
 | .zip a b=>fun tg e=>(kE tg).isSome&&bC C e "zip" fun ys=>of2 ys fun y z=>chk C false a y&&chk C false b z
end
abbrev mB(X:Cx)(cl:RL.Cl)(e:Expr)(e':RL.E)(b b':Bool):Prop:=(b=true->SE X cl e e')/\(b'=true->ST X cl e e'/\(nc e=true->SW X cl e e'))
section
variable{C:CC}{X:Cx}{cl:RL.Cl}{e:Expr}{e':RL.E}{b:Bool}
def pT{env:Env}(h:plainT e=true)(whole:Sem Value):isTrue e env whole=(do let v <- whole;standAt e.pos;holding [v] (truthy v)):=by
 cases e<;>first
  | rfl
  | (cases h;done)
  | (rename_i op _ _;cases op<;>first | rfl | (cases h;done))
def aK(h:b=true->SE X cl e e'/\plainT e=true):mB X cl e e' b b :=
 ⟨fun z=>(h z).1,fun z=>⟨uS (h z).1 (pT (h z).2),fun q=>by
  have:=(h z).2
  cases e<;>first | (cases q;done) | (cases this;done)⟩⟩
def iQ(h:b=true->SE X cl e e'/\ST X cl e e'/\nc e=false):mB X cl e e' b b :=
 ⟨fun z=>(h z).1,fun z=>⟨(h z).2.1,fun q=>by rw[(h z).2.2]at q;cases q⟩⟩
def CU(h:b=false){b':Bool}(h':b'=false):mB X cl e e' b b':=⟨fun z=>(by rw[h]at z;cases z),fun z=>(by rw[h']at z;cases z)⟩
def zU{d:RL.D}{k:Const}{j:Nat}{pos:Pos}(h:jA d k=true):SE X cl (.Constant k j pos) (.cst d):=by
 cases d<;>cases k<;>simp only[jA]at h<;>first | (cases h;done) | skip
 case non.none=>exact j7 A1 (fun P H=>by rw[Rep]) rfl
 case bl.bool i j=>rw[beq_iff_eq]at h;subst h;exact j7 Cf (fun P H=>me) rfl
 case int.int i j=>rw[beq_iff_eq]at h;subst h;exact j7 mO (fun P H=>aV) rfl
 case str.str i j=>rw[beq_iff_eq]at h;subst h;exact j7 mW (fun P H=>d9) rfl
def sH(t:RL.Ty):bootBuiltins (m9 t)=some (.type (tyN t))/\m9 t ≠ "__name__" /\ (m9 t == ("__debug__" : Str))=false:=by
 cases t<;>exact⟨by decide +kernel,by decide +kernel,by decide +kernel⟩
def cP(h:jN e=true)(env:Env)(x:Value):foldedSetIterable e env x=pure x:=by
 cases e<;>first | rfl | (cases h;done)
def Cw(hcalm:X.calm=true){o:RL.Bi}{x:Str}{p pos:Pos}{y:Expr}{a':RL.E}(hx:qt o=some x)(hb:Gl X x)(hb2:X.mg x=none)(ha:SE X cl y a')(hn:noStar y=true):SE X cl (.Call (.Name x p) [y] [] pos) (.bi o a'):=by
 cases o<;>simp only[qt]at hx<;>first | (cases hx;done) | skip
 case len=>cases hx;exact Ac hb hb2 ha hn
 case list=>cases hx;exact yK hb hb2 ha hn
 case tuple=>cases hx;exact vY hb hb2 ha hn
 case all=>cases hx;exact yZ hcalm hb hb2 ha hn
def tF{r:Expr}(h:iS r=true):pP r:=by
 cases r<;>first | (cases h;done) | (intro a b;rfl) | skip
def dz{i:Nat}(h:XOk C X cl)(z:fA C i e=true):∃ x p,e=.Name x p/\X.N[i]?=some x/\Vis X.env.scope x/\(x == ("__debug__" : Str))=false/\(x == ("__classdict__" : Str))=false:=by
 obtain⟨x,z0,z⟩:=aj z;obtain⟨p,rfl⟩:=bA z0;obtain⟨z1,z2⟩:=ae z;obtain⟨g1,g2⟩:=h.nm z1;exact⟨x,p,rfl,g1,h.vis z2,(bc g2).1,(bc g2).2⟩
def du{i:Nat}(h:XOk C X cl)(z:ef C i e=true):∃ x p,e=.Name x p/\X.N[i]?=some x/\Loc X.env.scope x:=by
 obtain⟨x,z0,z⟩:=aj z;obtain⟨p,rfl⟩:=bA z0;obtain⟨z1,z2⟩:=ae z;exact⟨x,p,rfl,(h.nm z1).1,h.loc z2⟩
def i0(h:XOk C X cl){T:List Nat}(hf:∀ i x,i∈T->X.N[i]?=some x->X.fn x=true\/X.env.scope.names.lookup x=some .local):∀ {is:List Nat} {es:List Expr},(∀ i∈is,i∈T)->i7 C is es=true->PGs X es (gs is)/\(assignEach es X.env).length=is.length/\(assignEach es X.env).findIdx? (·.1)=none
 | [],es,_,z=>by
  rw[i7,List.isEmpty_iff]at z;subst z;exact⟨xV,rfl,rfl⟩
 | i::is,[],_,z=>by cases z
 | i::is,e::es,hs,z=>by
  rw[i7]at z;obtain⟨z1,z2⟩:=ae z;obtain⟨x,p,rfl,g1,g2⟩:=du h z1;obtain⟨h1,h2,h3⟩:=i0 h hf (fun j hj=>hs j (List.mem_cons_of_mem _ hj)) z2;refine⟨vF (oE h.ndX g1 g2 (hf i x (hs i List.mem_cons_self) g1)) h1 rfl,?_,?_⟩
  ·show(assignEach es X.env).length+1=is.length+1;rw[h2]
  ·show List.findIdx? (·.1) ((false,assign (.Name x p) X.env)::assignEach es X.env)=none;rw[List.findIdx?_cons];simp only[Bool.false_eq_true,if_false,h3,Option.map_none]
def nU{tg:List Nat}{tgE:Expr}(h:XOk C X cl)(hf:∀ i x,i∈tg->X.N[i]?=some x->X.fn x=true\/X.env.scope.names.lookup x=some .local)(hc:ku C tg tgE=true):PG X tgE (gT X.K tg):=by
 unfold ku at hc;split at hc
 ·obtain⟨x,p,rfl,g1,g2⟩:=du h hc;exact oE h.ndX g1 g2 (hf _ x (by simp) g1)
 ·rename_i hne;obtain⟨es,z0,z⟩:=aj hc;obtain⟨k,p,rfl⟩:=dQ z0;obtain⟨h1,h2,h3⟩:=i0 h hf (fun i hi=>hi) z
  have e:gT X.K tg=fun v σ H Q=>jY X.K tg.length (gs tg) v σ H Q\/jV X.K tg.length (gs tg) v σ H Q:=by
   unfold gT;split
   ·rename_i i;exact absurd rfl (hne i)
   ·rfl
  rw[e];exact mC (jQ h1 h2 h3) (k9 h1 h2 h3)
section rulesH
variable{pos:Pos}
def vZ(F:jM X.prog X.w X.K X.mg X.base k fa fd ps (spF X.K cl f))(hr:ee k X.A)(hg:Gl X x)
 (hm:X.mg x=some (.ref fa))(hk:PySem.W.keepIn X.K (.ref fa)=true)(hb:Binds X.K fd ps [])(he:SEs X cl (e::es) (.cons e' es'))(hdb:(x == ("__debug__" : Str))=false)(hn:noStar e=true)(hns:es.all noStar=true) :
  SE X cl (.Call (.Name x p) (e::es) [] pos) (.call f (.cons e' es')):=by
 refine PE.weak (vv F hr hg hm hk hb he hdb (az es hn) (cC hns)) fun σ H Q h=>?_;obtain⟨σD,d,rv,ev,q⟩:=h;obtain⟨ds,e1,e2⟩:=bind_some ev;refine⟨σD,ds,rv,e1,fun vs H1 s1 r1=>?_⟩;refine⟨ds,d,r1,e2,fun v H2 s2 r2=>q v H2 ⟨s1.trans s2,r2.none,fun _ m a z=>?_,fun M _ P hP _=>?_⟩⟩
 ·subst z
  have hh:H1 a=none:=by
   cases d with
   | lst ds=>obtain⟨p,xs,e1,e2,_⟩:=aM r2;cases e1;exact Classical.byContradiction e2
   | dK ks ds=>rw[Rep]at r2;obtain⟨p,xs,e1,e2,_⟩:=r2;cases e1;exact Classical.byContradiction e2
   | dT ks ds=>rw[Rep]at r2;obtain⟨p,xs,e1,e2,_⟩:=r2;cases e1;exact Classical.byContradiction e2
   | _=>cases m
  exact s1.free hh
 ·refine r2.weak fun a z=>?_;obtain⟨o,ho⟩:=Option.ne_none_iff_exists'.mp (hP a z);rw[s1 _ _ ho]
  exact fun q=>nomatch q
end rulesH
def Aw{x:Str}{i:Int}{pos:Pos}(h:XOk C X cl)(hg:glB C x=true)(hl:C.G.lookup x=some i):SE X cl (.Name x pos) (.glb x i):=by
 obtain⟨u,h1,h2⟩:=h.glb x i hl;obtain⟨g1,g2⟩:=h.gl hg;exact AM (u:=u) (oO g1 h1 h2 (bc g2).1)
def yo{x:Str}{f:Nat}(hcal:(C.calm || C.hf.contains f)=true){p pos:Pos}{y:Expr}{ys:List Expr}{es:RL.Es}(h:XOk C X cl)(hg:glB C x=true)(hf:C.F[f]?=some (x,[]))(he:SEs X cl (y::ys) es)(hl:de es=ys.length+1)(hn:noStar y=true)(hns:ys.all noStar=true) :
  SE X cl (.Call (.Name x p) (y::ys) [] pos) (.call f es):=by
 obtain⟨g1,g2⟩:=h.gl hg;by_cases hc:C.calm=true
 ·obtain⟨k,fa,fd,ps,F,hr,hm,hk,hb⟩:=h.fns f x [] hc hf;rw[if_pos rfl]at F
  cases es with
  | nil=>simp[de]at hl
  | cons e' es'=>exact xF F hr g1 hm hk hb he (bc g2).1 hn hns
 ·have hh:C.hf.contains f=true:=by simpa[hc]using hcal
  obtain⟨k,fa,fd,ps,F,hr,hm,hk,hb⟩:=h.hfn f x hh hf
  cases es with
  | nil=>simp[de]at hl
  | cons e' es'=>exact vZ F hr g1 hm hk hb he (bc g2).1 hn hns
def j1{scope sc:Scope}(h:scB scope sc=true):kd scope sc:=by
 unfold scB at h;obtain⟨h1,h2⟩:=ae h;rw[List.all_eq_true]at h2;refine⟨by simpa using h1,fun x hx z=>?_,fun x hx z=>?_,fun x hx z=>?_⟩
 ·have:=h2 x hx;rw[z]at this;simpa using this
 ·have:=h2 x hx;rw[z]at this;simpa using this
 ·have:=h2 x hx;rw[z]at this;simpa using this
def gx{scope:Scope}{tg:List Nat}(h:jJ C scope tg=true)(i:Nat)(x:Str)(hx:C.N[i]?=some x)(hl:scope.names.lookup x=some .local\/scope.names.lookup x=some .cell):tg.contains i=true:=by
 unfold jJ at h;rw[List.all_eq_true]at h;have:=h i (List.mem_range.mpr (List.getElem?_eq_some_iff.mp hx).1);rw[hx]at this;rcases hl with hl | hl
 ·simp only[hl,beq_self_eq_true,Bool.true_or,Bool.not_true,Bool.false_or]at this;exact this
 ·simp only[hl,beq_self_eq_true,Bool.or_true,Bool.not_true,Bool.false_or]at this;exact this
def kJ{X:Cx}{cls:List (Str × Addr)}{scope:Scope}{Ca:Addr}{fp:List Addr}{s:Shared}{H:Hp}{pins:List (Addr × Obj)}{s':Shared}{σ:L2.St}{H':Hp}{Q:Bool->Hp->Prop}(I:Inv (L2.blk X scope cls Ca fp s H) pins σ H' s')(q:jk σ H' Q) :
  wpAny (model X.prog X.w) X.A (fm [] (compEnvC scope cls Ca X.env)) (TP (L2.blk X scope cls Ca fp s H) pins σ Q) (fun _ _=>False) s':=by
 unfold fm;exact wpAny_pure ⟨H',I,q⟩
def kU{X:Cx}{cls:List (Str × Addr)}{scope:Scope}{Ca:Addr}{fp:List Addr}{s:Shared}{H:Hp}{pins:List (Addr × Obj)}{s':Shared}{σ:L2.St}{H':Hp}{Q:Bool->Hp->Prop}{c:Expr}{t:TT}(hc:PT (L2.blk X scope cls Ca fp s H) c t)(I:Inv (L2.blk X scope cls Ca fp s H) pins σ H' s')(q:t σ H' Q) :
  wpAny (model X.prog X.w) X.A (fm [c] (compEnvC scope cls Ca X.env)) (TP (L2.blk X scope cls Ca fp s H) pins σ Q) (fun _ _=>False) s':=by
 have h:=hc pins s' σ H' Q I q;unfold fm;simp only[List.forIn_cons,List.forIn_nil,if_true];refine wpAny_bind (wpAny_bind (thn h fun b s1 hb=>wpAny_pure ?_));exact wpAny_pure hb
def jr(h:XOk C X cl){scope:Scope}{cls:List (Str × Addr)}{Ca:Addr}{fp:List Addr}{s:Shared}{H:Hp}{tg:List Nat}(ha:jG C scope tg=true){tgE:Expr}(hc:ku (C.inner scope) tg tgE=true):PG (L2.blk X scope cls Ca fp s H) tgE (gT X.K tg):=by
 have hb:=h.blk (scope:=scope) cls Ca fp s H;unfold jG at ha;rw[List.all_eq_true]at ha;refine nU hb (fun i x hi hx=>?_) hc;have:=ha i hi;have hx:X.N[i]?=some x:=hx;rw[h.names]at hx;rw[hx]at this;simp only[Bool.or_eq_true,beq_iff_eq]at this;rcases this with z | z
 ·exact .inr (lookup_relabel_local z)
 ·exact .inl (by show(scope.names.lookup x == some .cell)=true;rw[z];rfl)
def iF{α:Type}{o:Option α}(h:o.isNone=true):o=none:=by
 cases o with
 | none=>rfl
 | some _=>cases h
end
mutual
theorem ak{cl:RL.Cl}:∀ (e':RL.E) {C:CC} {X:Cx} (h:XOk C X cl) (e:Expr),mB X cl e e' (chk C false e' e) (chk C true e' e)
 | .var i,C,X,h,e=>aK (b:=chk C false (.var i) e) fun z=>by
  obtain⟨x,p,rfl,g1,g2,g3,g4⟩:=dz h z;exact⟨zG g1 g2 g3 g4,rfl⟩
 | .cst d,C,X,h,e=>aK (b:=chk C false (.cst d) e) fun z=>by
  obtain⟨k,z0,z⟩:=aj z;obtain⟨j,p,rfl⟩:=iy z0;exact⟨zU z,rfl⟩
 | .glb y i,C,X,h,e=>aK (b:=chk C false (.glb y i) e) fun z=>by
  obtain⟨x,z0,z⟩:=aj z;obtain⟨p,rfl⟩:=bA z0;obtain⟨z,z3⟩:=ae z;obtain⟨z1,z2⟩:=ae z;rw[beq_iff_eq]at z1 z3;subst z1;exact⟨Aw h z2 z3,rfl⟩
 | .bin o a b,C,X,h,e=>aK (b:=chk C false (.bin o a b) e) fun z=>by
  obtain⟨⟨l,op,r⟩,z0,z⟩:=aj z;obtain⟨p,rfl⟩:=yf z0;obtain⟨z,z3⟩:=ae z;obtain⟨z1,z2⟩:=ae z;rw[beq_iff_eq]at z1;have z1:op=nF o:=z1;subst z1;exact⟨zi ((ak a h l).1 z2) ((ak b h r).1 z3),rfl⟩
 | .neg a,C,X,h,e=>aK (b:=chk C false (.neg a) e) fun z=>by
  obtain⟨⟨op,x⟩,z0,z⟩:=aj z;obtain⟨p,rfl⟩:=nD z0;obtain⟨z1,z2⟩:=ae z;rw[beq_iff_eq]at z1;have z1:op=.USub:=z1;subst z1;exact⟨BJ ((ak a h x).1 z2),rfl⟩
 | .cmp c a b,C,X,h,e=>iQ (b:=chk C false (.cmp c a b) e) fun z=>by
  obtain⟨⟨l,os,rs⟩,z0,z⟩:=aj z;obtain⟨p,rfl⟩:=ff z0;obtain⟨op,y1,z⟩:=aJ z;obtain⟨r,y2,z⟩:=aJ z;have y1:os=[op]:=y1;have y2:rs=[r]:=y2;subst y1 y2;obtain⟨z,z3⟩:=ae z;obtain⟨z1,z2⟩:=ae z;rw[beq_iff_eq]at z1;subst z1;exact⟨A6 h.hu ((ak a h l).1 z2) ((ak b h r).1 z3),tD h.hu ((ak a h l).1 z2) ((ak b h r).1 z3),rfl⟩
 | .chain c c' a b d,C,X,h,e=>iQ (b:=chk C false (.chain c c' a b d) e) fun z=>by
  obtain⟨⟨l,os,rs⟩,z0,z⟩:=aj z;obtain⟨p,rfl⟩:=ff z0;obtain⟨op,op',y1,z⟩:=dN z;obtain⟨r,s,y2,z⟩:=dN z;have y1:os=[op,op']:=y1;have y2:rs=[r,s]:=y2;subst y1 y2;obtain⟨z,z5⟩:=ae z;obtain⟨z,z4⟩:=ae z;obtain⟨z,z3⟩:=ae z;obtain⟨z1,z2⟩:=ae z;rw[beq_iff_eq]at z1 z2;subst z1 z2;exact⟨uW h.hu ((ak a h l).1 z3) ((ak b h r).1 z4) ((ak d h s).1 z5),uP h.hu ((ak a h l).1 z3) ((ak b h r).1 z4) ((ak d h s).1 z5),rfl⟩
 | .inn neg a b,C,X,h,e=>iQ (b:=chk C false (.inn neg a b) e) fun z=>by
  obtain⟨⟨l,os,rs⟩,z0,z⟩:=aj z;obtain⟨p,rfl⟩:=ff z0;obtain⟨op,y1,z⟩:=aJ z;obtain⟨r,y2,z⟩:=aJ z;have y1:os=[op]:=y1;have y2:rs=[r]:=y2;subst y1 y2;obtain⟨z,z4⟩:=ae z;obtain⟨z,z3⟩:=ae z;obtain⟨z1,z2⟩:=ae z;rw[beq_iff_eq]at z1;subst z1;exact⟨zC ((ak a h l).1 z3) ((ak b h r).1 z4) z2,AU ((ak a h l).1 z3) ((ak b h r).1 z4) z2,rfl⟩
 | .and a b,C,X,h,e=>⟨(fun z=>by
   obtain⟨⟨op,es,p⟩,z0,z⟩:=aj z;obtain⟨l,r,rest,y1,z⟩:=jj z;have e0:=gS z0;have y1:es=l::r::rest:=y1;obtain⟨z,z3⟩:=ae z;obtain⟨z1,z2⟩:=ae z;rw[beq_iff_eq]at z1;have z1:op=.And:=z1;subst y1 z1 e0;refine B4 ((ak a h l).1 z2) ?_;split at z3
   ·rename_i hr;rw[List.isEmpty_iff]at hr;subst hr;exact sk ((ak b h r).1 z3)
   ·exact(ak b h _).1 z3),(fun z=>by
   obtain⟨⟨op,es,p⟩,z0,z⟩:=aj z;obtain⟨l,r,rest,y1,z⟩:=jj z;have e0:=gS z0;have y1:es=l::r::rest:=y1;obtain⟨z,z3⟩:=ae z;obtain⟨z1,z2⟩:=ae z;rw[beq_iff_eq]at z1;have z1:op=.And:=z1;subst y1 z1 e0
   have w:SW X cl (.BoolOp .And (l::r::rest) p) (.and a b):=by
    refine zl ((ak a h l).2 z2).1 ?_;split at z3
    ·rename_i hr;rw[List.isEmpty_iff]at hr;subst hr;exact rN ((ak b h r).2 z3).1
    ·exact((ak b h _).2 z3).2 rfl
   exact⟨w.pt,fun _=>w⟩)⟩
 | .or a b,C,X,h,e=>⟨(fun z=>by
   obtain⟨⟨op,es,p⟩,z0,z⟩:=aj z;obtain⟨l,r,rest,y1,z⟩:=jj z;have e0:=gS z0;have y1:es=l::r::rest:=y1;obtain⟨z,z3⟩:=ae z;obtain⟨z1,z2⟩:=ae z;rw[beq_iff_eq]at z1;have z1:op=.Or:=z1;subst y1 z1 e0;refine Cj ((ak a h l).1 z2) ?_;split at z3
   ·rename_i hr;rw[List.isEmpty_iff]at hr;subst hr;exact sk ((ak b h r).1 z3)
   ·exact(ak b h _).1 z3),(fun z=>by
   obtain⟨⟨op,es,p⟩,z0,z⟩:=aj z;obtain⟨l,r,rest,y1,z⟩:=jj z;have e0:=gS z0;have y1:es=l::r::rest:=y1;obtain⟨z,z3⟩:=ae z;obtain⟨z1,z2⟩:=ae z;rw[beq_iff_eq]at z1;have z1:op=.Or:=z1;subst y1 z1 e0
   have w:SW X cl (.BoolOp .Or (l::r::rest) p) (.or a b):=by
    refine CG ((ak a h l).2 z2).1 ?_;split at z3
    ·rename_i hr;rw[List.isEmpty_iff]at hr;subst hr;exact rN ((ak b h r).2 z3).1
    ·exact((ak b h _).2 z3).2 rfl
   exact⟨w.pt,fun _=>w⟩)⟩
 | .not a,C,X,h,e=>⟨(fun z=>by
   obtain⟨⟨op,x⟩,z0,z⟩:=aj z;obtain⟨p,rfl⟩:=nD z0;obtain⟨z1,z2⟩:=ae z;rw[beq_iff_eq]at z1;have z1:op=.Not:=z1;subst z1
   exact zL ((ak a h x).1 z2)),(fun z=>by
   obtain⟨⟨op,x⟩,z0,z⟩:=aj z;obtain⟨p,rfl⟩:=nD z0;obtain⟨z1,z2⟩:=ae z;rw[beq_iff_eq]at z1;have z1:op=.Not:=z1;subst z1
   exact⟨zh ((ak a h x).2 z2).1,fun q=>by cases q⟩)⟩
 | .ifx c a b,C,X,h,e=>⟨(fun z=>by
   obtain⟨⟨q,l,r⟩,z0,z⟩:=aj z;obtain⟨p,rfl⟩:=xH z0;obtain⟨z,z4⟩:=ae z;obtain⟨z,z3⟩:=ae z;obtain⟨z1,z2⟩:=ae z
   exact Bb ((ak c h q).2 z2).1 ((ak a h l).1 z3) ((ak b h r).1 z4)),(fun z=>by
   obtain⟨⟨q,l,r⟩,z0,z⟩:=aj z;obtain⟨z,z4⟩:=ae z;obtain⟨z,z3⟩:=ae z;obtain⟨z1,z2⟩:=ae z
   cases z1)⟩
 | .tup es,C,X,h,e=>aK (b:=chk C false (.tup es) e) fun z=>by
  obtain⟨xs,z0,z⟩:=aj z;obtain⟨k,p,rfl⟩:=dQ z0;obtain⟨z1,z2⟩:=ae z;exact⟨AS (dP es h _ z1).1 (by simpa using z2),rfl⟩
 | .lst es,C,X,h,e=>aK (b:=chk C false (.lst es) e) fun z=>by
  obtain⟨xs,z0,z⟩:=aj z;obtain⟨p,rfl⟩:=yt z0;obtain⟨z1,z2⟩:=ae z;exact⟨AI (dP es h _ z1).1 (by simpa using z2),rfl⟩
 | .ix a b,C,X,h,e=>aK (b:=chk C false (.ix a b) e) fun z=>by
  obtain⟨⟨l,r⟩,z0,z⟩:=aj z;obtain⟨p,rfl⟩:=gb z0;obtain⟨z,z3⟩:=ae z;obtain⟨z1,z2⟩:=ae z;exact⟨C5 ((ak a h l).1 z2) ((ak b h r).1 z3) z1,rfl⟩
 | .slT a b,C,X,h,e=>aK (b:=chk C false (.slT a b) e) fun z=>by
  obtain⟨⟨l,s⟩,z0,z⟩:=aj z;obtain⟨p,rfl⟩:=gb z0;obtain⟨z1,z⟩:=ae z;obtain⟨⟨s1,s2,s3⟩,z0,z⟩:=aj z;obtain⟨q,e0⟩:=Bu z0;have e0:s=.Slice s1 s2 s3 q:=e0;obtain⟨z,z4⟩:=ae z;obtain⟨z2,z3⟩:=ae z;have w2:s1=none:=iF z2;have w3:s3=none:=iF z3;obtain⟨r,y0,z4⟩:=aj z4;have y1:s2=some r:=y0;rw[w2,w3,y1]at e0;subst e0;exact⟨yW ((ak a h l).1 z1) ((ak b h r).1 z4),rfl⟩
 | .call f es,C,X,h,e=>aK (b:=chk C false (.call f es) e) fun z=>by
  obtain⟨zc,z⟩:=ae z;obtain⟨⟨g,as,ks,p⟩,z0,z⟩:=aj z;have z0:=cq z0;subst z0;obtain⟨z,z4⟩:=ae z;obtain⟨z,z3⟩:=ae z;obtain⟨z1,z2⟩:=ae z;obtain⟨x,y0,z1⟩:=aj z1;obtain⟨q,e0⟩:=bA y0;have e0:g=.Name x q:=e0;obtain⟨y1,y2⟩:=ae z1;rw[beq_iff_eq]at y2
  have w2:ks=[]:=by rw[List.isEmpty_iff]at z2;exact z2
  subst e0 w2;obtain⟨q1,q2,q3⟩:=dP es h _ z4;dsimp only at z3 q1 q2 q3
  cases as with
  | nil=>cases z3
  |cons y ys=>
   rw[List.all_cons]at q3;exact⟨yo zc h y1 y2 q1 q2 (ae q3).1 (ae q3).2,rfl⟩
 | .bi o a,C,X,h,e=>by
  have gen:(∀ t,chk C t (.bi o a) e=(C.calm&&(qt o).any fun x=>bC C e x fun ys=>of1 ys fun y=>chk C false a y))->mB X cl e (.bi o a) (chk C false (.bi o a) e) (chk C true (.bi o a) e):=fun heq=>by
   rw[heq,heq];refine aK fun z=>?_;obtain⟨zc,z⟩:=ae z;obtain⟨x,y0,z⟩:=aj z;obtain⟨p,as,pos,rfl,b1,b2,z3,z4⟩:=bu h z;obtain⟨y,rfl,z4⟩:=aJ z4;exact⟨Cw (h.calm zc) y0 b1 b2 ((ak a h y).1 z4) (all1 z3),rfl⟩
  cases o
  case lenSet=>exact CU (Bool.and_false _) (Bool.and_false _)
  all_goals exact gen fun t=>rfl
 | .isi a ty,C,X,h,e=>aK (b:=chk C false (.isi a ty) e) fun z=>by
  have z:(bC C e "isinstance" fun ys=>of2 ys fun y z=>(cD z).any (fun x=>x == m9 ty&&jg C x)&&chk C false a y)=true:=z;obtain⟨p,as,pos,rfl,b1,b2,z3,z4⟩:=bu h z;obtain⟨y,u,rfl,z4⟩:=dN z4;obtain⟨z5,z6⟩:=ae z4;obtain⟨x,w0,w⟩:=aj z5;obtain⟨q,rfl⟩:=bA w0;obtain⟨w1,w2⟩:=ae w;rw[beq_iff_eq]at w1;subst w1;obtain⟨t1,t2,t3⟩:=sH ty;exact⟨Ba b1 b2 (h.bl w2).1 (h.bl w2).2 t1 t2 t3 ((ak a h y).1 z6) (all2 z3).1,rfl⟩
 | .rng1 a,C,X,h,e=>aK (b:=chk C false (.rng1 a) e) fun z=>by
  obtain⟨zc,z⟩:=ae z;obtain⟨p,as,pos,rfl,b1,b2,z3,z4⟩:=bu h z;obtain⟨y,rfl,z5⟩:=aJ z4;obtain⟨p',as',pos',rfl,b1',b2',z3',z6⟩:=bu h z5;obtain⟨y,rfl,z7⟩:=aJ z6;exact⟨yT (h.calm zc) b1 b2 b1' b2' ((ak a h y).1 z7) (all1 z3'),rfl⟩
 | .rng2 a b,C,X,h,e=>aK (b:=chk C false (.rng2 a b) e) fun z=>by
  obtain⟨zc,z⟩:=ae z;obtain⟨p,as,pos,rfl,b1,b2,z3,z4⟩:=bu h z;obtain⟨y,rfl,z5⟩:=aJ z4;obtain⟨p',as',pos',rfl,b1',b2',z3',z6⟩:=bu h z5;obtain⟨y,u,rfl,z7⟩:=dN z6;exact⟨xg (h.calm zc) b1 b2 b1' b2' ((ak a h y).1 (ae z7).1) ((ak b h u).1 (ae z7).2) (all2 z3').1 (all2 z3').2,rfl⟩
 | .rng3 c a b,C,X,h,e=>aK (b:=chk C false (.rng3 c a b) e) fun z=>by
  obtain⟨zc,z⟩:=ae z;obtain⟨p,as,pos,rfl,b1,b2,z3,z4⟩:=bu h z;obtain⟨y,rfl,z5⟩:=aJ z4;obtain⟨p',as',pos',rfl,b1',b2',z3',z6⟩:=bu h z5;obtain⟨y,u,q,rfl,z7⟩:=nQ z6;obtain⟨z7,z9⟩:=ae z7;obtain⟨z7,z8⟩:=ae z7;exact⟨xm (h.calm zc) b1 b2 b1' b2' ((ak a h y).1 z8) ((ak b h u).1 z9) (kC z3').1 (kC z3').2.1 z7,rfl⟩
 | .comp d tg it c,C,X,h,e=>aK (b:=chk C false (.comp d tg it c) e) fun z=>by
  obtain⟨⟨elt,gens,scope,p⟩,z0,z⟩:=aj z;have z0:=mL z0;subst z0;obtain⟨⟨tgE,iter,ifs,asy⟩,y1,z⟩:=aJ z;have y1:gens=[⟨tgE,iter,ifs,asy⟩]:=y1;obtain⟨w,y2,z⟩:=aJ z;have y2:ifs=[w]:=y2;obtain⟨z,zc⟩:=ae z;obtain⟨z,z8⟩:=ae z;obtain⟨z,z7⟩:=ae z;obtain⟨z,z6⟩:=ae z;obtain⟨z,z5⟩:=ae z;obtain⟨z,z4⟩:=ae z;obtain⟨z,z3⟩:=ae z;obtain⟨z,z2⟩:=ae z;obtain⟨z0,z1⟩:=ae z;rw[beq_iff_eq]at z0;have w0:asy=0:=z0;subst y1 w0;subst y2
  have B:gq X cl scope tgE tg elt d (tT X.K cl c) [w]:=⟨fun cls Ca fp s H=>jr h z5 z4,fun cls Ca fp s H pins s' σ H' Q I q=>kU ((ak c (h.blk cls Ca fp s H) _).2 z8).1 I q,fun cls Ca fp s H=>(ak d (h.blk cls Ca fp s H) _).1 z7,fun i x hx hl=>gx z2 i x (by rw[<-h.names];exact hx) hl⟩
  by_cases hc:C.calm=true
  ·exact⟨mX (fun _ _ _ _=>h.calm hc) (by rw[h.scope];exact j1 z1) (eZ it h _ _ z6) B (cP z3 _),rfl⟩
  ·have hz:qC it=true:=by simpa[hc]using zc
   exact⟨mX (CM:=fun _=>True) (fun _ _ _ _=>trivial) (by rw[h.scope];exact j1 z1) (yx it h _ _ z6 hz) B (cP z3 _),rfl⟩
 | .compA d tg it,C,X,h,e=>aK (b:=chk C false (.compA d tg it) e) fun z=>by
  obtain⟨⟨elt,gens,scope,p⟩,z0,z⟩:=aj z;have z0:=mL z0;subst z0;obtain⟨⟨tgE,iter,ifs,asy⟩,y1,z⟩:=aJ z;have y1:gens=[⟨tgE,iter,ifs,asy⟩]:=y1;obtain⟨z,zc⟩:=ae z;obtain⟨z,z7⟩:=ae z;obtain⟨z,z6⟩:=ae z;obtain⟨z,z5⟩:=ae z;obtain⟨z,z4⟩:=ae z;obtain⟨z,z3⟩:=ae z;obtain⟨z,z2⟩:=ae z;obtain⟨z,z1⟩:=ae z;obtain⟨y2,z0⟩:=ae z;rw[beq_iff_eq]at z0;have w0:asy=0:=z0
  have w2:ifs=[]:=by rw[List.isEmpty_iff]at y2;exact y2
  subst y1 w0;subst w2;refine⟨vJ (h.calm zc) (by rw[h.scope];exact j1 z1) (eZ it h _ _ z6) ?_ (cP z3 _),rfl⟩;exact⟨fun cls Ca fp s H=>jr h z5 z4,fun cls Ca fp s H pins s' σ H' Q I q=>kJ I q,fun cls Ca fp s H=>(ak d (h.blk cls Ca fp s H) _).1 z7,fun i x hx hl=>gx z2 i x (by rw[<-h.names];exact hx) hl⟩
 | .frz a,C,X,h,e=>aK (b:=chk C false (.frz a) e) fun z=>by
  obtain⟨z1,z2⟩:=ae z;exact⟨AF ((ak a h e).1 z2),by cases e<;>first | rfl | exact Bool.noConfusion z1⟩
 | .join a,C,X,h,e=>aK (b:=chk C false (.join a) e) fun z=>by
  obtain⟨⟨g,as,ks,p⟩,z0,z⟩:=aj z;have z0:=cq z0;obtain⟨z,z3⟩:=ae z;obtain⟨z1,z2⟩:=ae z;obtain⟨⟨o,nm,apos⟩,y0,z1⟩:=aj z1;have e1:=lY y0;have e1:g=.Attribute o nm apos:=e1;obtain⟨z1,y3⟩:=ae z1;obtain⟨y1,y2⟩:=ae z1;rw[beq_iff_eq]at y1;have y1:nm = "join" := y1;obtain⟨kk,w0,w⟩:=aj y3;obtain⟨j,q,e2⟩:=iy w0;have e2:o=.Constant kk j q:=e2
  have e4:kk=.str ⟨#[]⟩:=by
   cases kk<;>simp only[jA]at w<;>first | (cases w;done) | skip
   rw[beq_iff_eq]at w;rw[<-w]
  have w2:ks=[]:=by rw[List.isEmpty_iff]at z2;exact z2
  obtain⟨y,e3,z3⟩:=aJ z3;have e3:as=[y]:=e3;obtain⟨z3,z5⟩:=ae z3;rw[e1,y1,e2,e4,w2,e3]at z0;subst z0;exact⟨yz ((ak a h y).1 z5) z3 y2,rfl⟩
 | .isx a c,C,X,h,e=>aK (b:=chk C false (.isx a c) e) fun z=>by
  have z:(bC C e "isinstance" fun ys=>of2 ys fun y z=>(cD z).any (fun x=>x == c&&(if c == ("ValueError" : Str)then jg C x else glB C x&&C.Xs.contains x&&ck.contains x))&&chk C false a y)=true:=z;obtain⟨p,as,pos,rfl,b1,b2,z3,z4⟩:=bu h z;obtain⟨y,u,rfl,z4⟩:=dN z4;obtain⟨z5,z6⟩:=ae z4;obtain⟨x,w0,w⟩:=aj z5;obtain⟨q,rfl⟩:=bA w0;obtain⟨w1,w2⟩:=ae w;rw[beq_iff_eq]at w1;subst w1;split at w2
  ·rename_i hv;rw[beq_iff_eq]at hv;subst hv;exact⟨zR b1 b2 (h.bl w2).1 (h.bl w2).2 ((ak a h y).1 z6) (all2 z3).1,rfl⟩
  ·obtain⟨w2,w4⟩:=ae w2;obtain⟨w2,w3⟩:=ae w2;obtain⟨D,d1,d2⟩:=h.ref x w3;exact⟨BF b1 b2 (h.gl w2).1 d1 d2 (by simpa using w4) (bc (h.gl w2).2).1 ((ak a h y).1 z6) (all2 z3).1,rfl⟩
 | .mkO c f a,C,X,h,e=>aK (b:=chk C false (.mkO c f a) e) fun z=>by
  obtain⟨zc,z⟩:=ae z;obtain⟨z1,z2⟩:=ae zc;obtain⟨⟨g,as,ks,p⟩,z0,z⟩:=aj z;have z0:=cq z0;obtain⟨z,z5⟩:=ae z;obtain⟨z3,z4⟩:=ae z;obtain⟨x,y0,z3⟩:=aj z3;obtain⟨q,e0⟩:=bA y0;have e0:g=.Name x q:=e0;obtain⟨y1,y2⟩:=ae z3;rw[beq_iff_eq]at y1;subst y1
  have w2:ks=[]:=by rw[List.isEmpty_iff]at z4;exact z4
  obtain⟨y,e3,z5⟩:=aJ z5;have e3:as=[y]:=e3;obtain⟨z6,z7⟩:=ae z5;rw[e0,w2,e3]at z0;subst z0;obtain⟨k,D,fI,fd,m1,m2,m3,m4,m5⟩:=h.mko x f z2 z1;exact⟨Ai m1 m2 m3 (h.gl y2).1 m4 m5 (bc (h.gl y2).2).1 ((ak a h y).1 z7) z6,rfl⟩
theorem dP{cl:RL.Cl}:∀ (es':RL.Es) {C:CC} {X:Cx} (h:XOk C X cl) (es:List Expr),gH C es' es=true->SEs X cl es es'/\de es'=es.length/\es.all noStar=true
 | .nil,C,X,h,es,z=>by
  have z:es=[]:=List.isEmpty_iff.mp z;subst z;exact⟨dA,rfl,rfl⟩
 | .cons e' es',C,X,h,es,z=>by
  cases es with
  | nil=>cases z
  |cons e es=>
   obtain⟨z,z3⟩:=ae z;obtain⟨z1,z2⟩:=ae z;obtain⟨q1,q2,q3⟩:=dP es' h es z3;exact⟨cm ((ak e' h e).1 z2) q1 z1,by rw[de,q2,List.length_cons],by rw[List.all_cons,z1,q3];rfl⟩
theorem eZ{cl:RL.Cl}:∀ (it:RL.It) {C:CC} {X:Cx} (h:XOk C X cl) (tg e:Expr),mh C it tg e=true->SI X cl tg e it
 | .seq a,C,X,h,tg,e,z=>yI ((ak a h e).1 z)
 | .rng1 a,C,X,h,tg,e,z=>by
  have z:(bC C e "range" fun ys=>of1 ys fun y=>chk C false a y)=true:=z;obtain⟨p,as,pos,rfl,b1,b2,z3,z4⟩:=bu h z;obtain⟨y,rfl,z4⟩:=aJ z4;exact yk b1 b2 ((ak a h y).1 z4) (all1 z3)
 | .rng2 a b,C,X,h,tg,e,z=>by
  have z:(bC C e "range" fun ys=>of2 ys fun y z=>chk C false a y&&chk C false b z)=true:=z;obtain⟨p,as,pos,rfl,b1,b2,z3,z4⟩:=bu h z;obtain⟨y,u,rfl,z4⟩:=dN z4;exact yr b1 b2 ((ak a h y).1 (ae z4).1) ((ak b h u).1 (ae z4).2) (all2 z3).1 (all2 z3).2
 | .rng3 c a b,C,X,h,tg,e,z=>by
  have z:(bC C e "range" fun ys=>of3 ys fun y z q=>f7 c q&&chk C false a y&&chk C false b z)=true:=z;obtain⟨p,as,pos,rfl,b1,b2,z3,z4⟩:=bu h z;obtain⟨y,u,q,rfl,z4⟩:=nQ z4;obtain⟨z4,z6⟩:=ae z4;obtain⟨z4,z5⟩:=ae z4;exact xZ b1 b2 ((ak a h y).1 z5) ((ak b h u).1 z6) (kC z3).1 (kC z3).2.1 z4
 | .chr a,C,X,h,tg,e,z=>Bd ((ak a h e).1 z)
 | .enm a,C,X,h,tg,e,z=>by
  obtain⟨z0,zz⟩:=ae z;obtain⟨ts,z0⟩:=Option.isSome_iff_exists.mp z0;obtain⟨k,tp,rfl⟩:=dQ z0;obtain⟨p,as,pos,rfl,b1,b2,z3,z4⟩:=bu h zz;obtain⟨y,rfl,z4⟩:=aJ z4;exact yG b1 b2 ((ak a h y).1 z4) (all1 z3)
 | .zip a b,C,X,h,tg,e,z=>by
  obtain⟨z0,zz⟩:=ae z;obtain⟨ts,z0⟩:=Option.isSome_iff_exists.mp z0;obtain⟨k,tp,rfl⟩:=dQ z0;obtain⟨p,as,pos,rfl,b1,b2,z3,z4⟩:=bu h zz;obtain⟨y,u,rfl,z4⟩:=dN z4;exact PI'.calm (sd b1 b2 ((ak a h y).1 (ae z4).1) ((ak b h u).1 (ae z4).2) (all2 z3).1 (all2 z3).2)
theorem yx{cl:RL.Cl}:∀ (it:RL.It) {C:CC} {X:Cx} (h:XOk C X cl) (tg e:Expr),mh C it tg e=true->qC it=true->PI' (fun _=>True) X tg e (tI X.K cl it)
 | .zip a b,C,X,h,tg,e,z,_=>by
  obtain⟨z0,zz⟩:=ae z;obtain⟨ts,z0⟩:=Option.isSome_iff_exists.mp z0;obtain⟨k,tp,rfl⟩:=dQ z0;obtain⟨p,as,pos,rfl,b1,b2,z3,z4⟩:=bu h zz;obtain⟨y,u,rfl,z4⟩:=dN z4;exact sd b1 b2 ((ak a h y).1 (ae z4).1) ((ak b h u).1 (ae z4).2) (all2 z3).1 (all2 z3).2
 | .seq _,C,X,h,tg,e,z,w=>by cases w
 | .rng1 _,C,X,h,tg,e,z,w=>by cases w
 | .rng2 _ _,C,X,h,tg,e,z,w=>by cases w
 | .rng3 _ _ _,C,X,h,tg,e,z,w=>by cases w
 | .chr _,C,X,h,tg,e,z,w=>by cases w
 | .enm _,C,X,h,tg,e,z,w=>by cases w
end
abbrev dB:Expr->Bool
 | .ListComp _ _ _ _=>false
 | .SetComp _ _ _ _=>false
 | .DictComp _ _ _ _ _=>false
 | _=>true
abbrev sy:Expr->Bool
 | .Tuple vs _ _=>vs.all (foldedForSure 8)
 | _=>true
abbrev qS(e:Expr):Bool:=match e with
 | .SetComp _ _ _ _=>false
 | .DictComp _ _ _ _ _=>false
 | _=>true
abbrev pH(M:List Nat):RL.E->Bool
 | .var i=>M.contains i
 | _=>false
abbrev wB:RL.Bop->Operator->Bool
 | .add,.Add=>true
 | .sub,.Sub=>true
 | _,_=>false
abbrev jB(C:CC)(i:Nat)(nm:Str)(e:Expr)(f:List Expr->Bool):Bool:=(eg e).any fun q=>(qV q.1).any (fun a=>fA C i a.1&&a.2.1 == nm&&a.2.2.endLine == q.2.2.2.line)&&q.2.2.1.isEmpty&&f q.2.1
abbrev lS(C:CC):List Expr->RL.Es->Bool
 | [],ps=>match ps with
  | .nil=>true
  | _=>false
 | v::vs,ps=>match m6 v with
  | some (.str y)=>decide (y.length<=3000)&&lS C vs ps
  | some _=>false
  | none=>(AK v).any fun q=>q.2.1 == -1&&q.2.2.isNone&&match ps with
   | .cons e es=>chk C false e q.1&&lS C vs es
   | .nil=>false
abbrev BA:Const->Bool
 | .str _=>true
 | _=>false
abbrev isNil:RL.Es->Bool
 | .nil=>true
 | _=>false
abbrev vh(C:CC)(ps:RL.Es)(a:Expr):Bool:=((m6 a).any BA&&isNil ps) || (wV a).any fun vs=>decide (2<=vs.length)&&decide (vs.length<=100)&&lS C vs ps
abbrev vt(C:CC)(c:Str):Bool:=C.Xr.contains c || C.Xi.contains c
mutual
noncomputable def uj(C:CC)(M:List Nat):RL.S->Stmt->Bool
 | .asg i e'=>fun st=>(kr st).any fun q=>of1 q.1 fun t=>ef C i t && !M.contains i&&qS q.2&&chk C false e' q.2&&(C.calm || dB q.2)
 | .own i e'=>fun st=>(kr st).any fun q=>of1 q.1 fun t=>ef C i t&&M.contains i&&decide (M.count i<2)&&qS q.2&&chk C false e' q.2&&(C.calm || dB q.2)
 | .unp is e'=>fun st=>(kr st).any fun q=>of1 q.1 fun t=>(kE t).any fun ts=>i7 C is ts&&is.all (fun i=>!M.contains i)&&sy q.2&&chk C false e' q.2
 | .app i e'=>fun st=>(qQ st).any fun e=>jB C i "append" e fun as=>of1 as fun y=>M.contains i&&noStar y&&chk C false e' y
 | .put i k' e'=>fun st=>(kr st).any fun q=>of1 q.1 fun t=>(oj t).any fun u=>fA C i u.1&&M.contains i&&iS u.2&&dB q.2&&chk C false k' u.2&&chk C false e' q.2
 | .aug i o e'=>fun st=>(uq st).any fun q=>ef C i q.1 && !M.contains i&&wB o q.2.1&&chk C false e' q.2.2
 | .augs i e'=>fun st=>(uq st).any fun q=>ef C i q.1 && !M.contains i&&q.2.1 == .Add&&chk C false e' q.2.2
 | .tie3 f r p w=>fun st=>(qQ st).any fun e=>(eg e).any fun q=>(cD q.1).any (fun x=>glB C x&&C.F[f]? == some (x,[0]))&&q.2.2.1.isEmpty&&M.contains r && !M.contains p&&M.contains w && !(r == w)&&C.calm&&of3 q.2.1 fun a b c=>fA C r a&&fA C p b&&jB C w "pop" c fun as=>as.isEmpty
 | .ife c' a' b'=>fun st=>(wIf st).any fun q=>chk C true c' q.1&&bT C M a' q.2.1&&bT C M b' q.2.2
 | .forr tg it b'=>fun st=>(zN st).any fun q=>q.2.2.2.isEmpty&&mh C it q.1 q.2.1&&ku C tg q.1&&jN q.2.1&&RL.mw M it&&tg.all (fun i=>!M.contains i)&&bT C M b' q.2.2.1&&C.calm
 | .ret e'=>fun st=>(vW st).any fun o=>o.any fun e=>chk C false e' e
 | .exc e'=>fun st=>(qQ st).any fun e=>dB e&&chk C false e' e
 | .never=>fun _=>true
 | .ifp i e' a' b'=>fun st=>(wIf st).any fun q=>(jS q.1).any fun u=>of1 u.2.1 fun op=>of1 u.2.2 fun e=>op == .NotEq&&M.contains i&&chk C false e' e&&bT C M a' q.2.1&&bT C M b' q.2.2&&jB C i "pop" u.1 fun as=>as.isEmpty
 | .rais c ps=>fun st=>(sJ st).any fun q=>C.calm&&C.Xr.contains c&&(glB C c&&(RL.fM c).isNone)&&q.2.isNone&&q.1.any fun e=>(eg e).any fun u=>(cD u.1).any (fun x=>x == c)&&u.2.2.1.isEmpty&&of1 u.2.1 fun a=>noStar a&&vh C ps a
 | .tryc b c i hh=>fun st=>(AB st).any fun q=>C.calm&&q.2.2.1.isEmpty&&q.2.2.2.isEmpty&&vt C c&&ck.contains c&&glB C c && !M.contains i&&of1 q.2.1 (fun hd=>(lF hd).1.any (fun t=>(cD t).any fun x=>x == c)&&(lF hd).2.1.any (fun n=>nmB C i n&&C.sc.names.lookup n == some .local) && !(lF hd).2.2.isEmpty&&bT { C with calm:=false } M hh (lF hd).2.2)&&bT C M b q.1
 | .ifr o x' y' a' b'=>fun st=>(wIf st).any fun q=>(jS q.1).any (fun u=>of1 u.2.1 fun op=>of1 u.2.2 fun r=>op == bZ o&&chk C false x' u.1&&chk C false y' r)&&bT C M a' q.2.1&&bT C M b' q.2.2
noncomputable def bT(C:CC)(M:List Nat):RL.Ss->List Stmt->Bool
 | .nil=>fun xs=>xs.isEmpty
 | .cons s r=>fun xs=>match xs with
  | x::xs=>uj C M s x&&bT C M r xs
  | []=>false
 | .act i g tbl a' es=>fun xs=>C.calm&&(of2 xs fun s1 s2=>(kr s1).any fun q=>of1 q.1 (fun t=>ef C i t&&fA C i t)&&(oj q.2).any (fun u=>(cD u.1).any (fun x=>x == g&&glB C x&&C.W.lookup x == some tbl)&&iS u.2&&chk C false a' u.2)&&(vW s2).any fun o=>o.any fun e=>(eg e).any fun c=>fA C i c.1&&c.2.2.1.isEmpty && !c.2.1.isEmpty&&gH C es c.2.1)
 | .opn _ _ _=>fun _=>false
end
structure YOk(C:CC)(X:Cx)(cl:RL.Cl):Prop extends XOk C X cl where
 fn:∀ x,X.fn x=true
 st:X.stack=X.env::X.outer/\X.env.frame=some X.env.locals/\X.ex=[]
 fnx:∀ (f:Nat) (x:Str),C.calm=true->C.F[f]?=some (x,[])->∃ k fa fd ps,aR X.prog X.w X.K X.mg X.base (CXE X.prog X.w) k fa fd ps (spX X.K cl f)/\aT k X.A/\X.mg x=some (.ref fa)/\PySem.W.keepIn X.K (.ref fa)=true/\Binds X.K fd ps []
structure ROk(C:CC)(X:Cx)(cl:RL.Cl)(EX:L2.St->XK):Prop where
 y:YOk C X.nox cl
 cal:C.calm=true
 pass:∀ pins σ H s e s',Inv X pins σ H s->CXE X.prog X.w X.stack H s (EX σ) e s'->X.xe e s'
 made:∀ pins σ H s h' e C vs,Inv X pins σ H s->Heap.MadeExcOf s.heap h' e (.ref C) vs->EX σ (.ref C) none H->X.xe (.ref e) { s with heap:=h' }
 BD:∀ pins σ H s C i e od H' s',Inv X pins σ H s->uy X H s C (some i) e od H' s'->EX σ (.ref C) od H'->X.xe (.ref e) s'
 own:PassesOwn (model X.prog X.w) X.A X.env X.xe
section
variable{C:CC}{X:Cx}{cl:RL.Cl}{M:List Nat}{st:Stmt}{e:Expr}{e' k':RL.E}{i:Nat}
def cO{t:Option Expr}{l:Nat}{env:Env}(h:dB e=true):swapsWith e t l env=pure false:=by
 cases e<;>first | rfl | (cases h;done)
def wD{t:Expr}{spos:Pos}(hcal:(C.calm || dB e)=true)(h:YOk C X cl)(hn:ef C i t=true)(ha:qS e=true)(hc:chk C false e' e=true):SA X cl (.Assign [t] e spos) i e':=by
 obtain⟨y,py,rfl,hN,hl⟩:=du h.toXOk hn
 have plain:swapsWith e (some (.Name y py)) spos.line X.env=pure false->SA X cl (.Assign [.Name y py] e spos) i e':=fun z =>
  vk h.ndX hN hl ((ak e' h.toXOk e).1 hc) (.inl (h.fn y)) z trivial
 by_cases hcomp:dB e=true
 ·exact plain (cO hcomp)
 ·have hcm:X.calm=true:=h.calm (by simpa[hcomp]using hcal)
  have:∃ elt gens scope p,e=.ListComp elt gens scope p:=by
   cases e<;>first | exact absurd rfl hcomp | exact Bool.noConfusion ha | exact⟨_,_,_,_,rfl⟩
  obtain⟨elt,gens,scope,p,rfl⟩:=this;have hsw:swapsWith (.ListComp elt gens scope p) (some (.Name y py)) spos.line X.env=pure (X.env.blockKind == .function&&X.env.kindOf y == some .local&&py.line == p.line && !(scope.names.any fun(n,k)=>n == y&&(k == .local || k == .cell))):=rfl;by_cases hb:(X.env.blockKind == .function&&X.env.kindOf y == some .local&&py.line == p.line && !(scope.names.any fun(n,k)=>n == y&&(k == .local || k == .cell)))=true
  ·have hy:X.env.scope.names.lookup y=some .local:=by
    obtain⟨q,_⟩:=ae (ae hb).1;have q2:=(ae q).2;rw[beq_iff_eq]at q2;exact q2
   rw[hb]at hsw;by_cases hk:∃ d tg it c,e'=.comp d tg it c
   ·obtain⟨d,tg,it,c,rfl⟩:=hk;obtain⟨⟨tgE,iter,ifs,asy⟩,y1,z⟩:=aJ hc;have y1:gens=[⟨tgE,iter,ifs,asy⟩]:=y1;obtain⟨w,y2,z⟩:=aJ z;have y2:ifs=[w]:=y2;obtain⟨z,zc⟩:=ae z;obtain⟨z,z8⟩:=ae z;obtain⟨z,z7⟩:=ae z;obtain⟨z,z6⟩:=ae z;obtain⟨z,z5⟩:=ae z;obtain⟨z,z4⟩:=ae z;obtain⟨z,z3⟩:=ae z;obtain⟨z,z2⟩:=ae z;obtain⟨z0,z1⟩:=ae z;rw[beq_iff_eq]at z0;have w0:asy=0:=z0;subst y1 w0;subst y2;refine ui hcm h.ndX hN hy (by rw[h.scope];exact j1 z1) (eZ it h.toXOk _ _ z6) ?_ (cP z3 _) hsw;exact⟨fun cls Ca fp s H=>jr h.toXOk z5 z4,fun cls Ca fp s H pins s' σ H' Q I q=>kU ((ak c (h.toXOk.blk cls Ca fp s H) _).2 z8).1 I q,fun cls Ca fp s H=>(ak d (h.toXOk.blk cls Ca fp s H) _).1 z7,fun i x hx hl=>gx z2 i x (by rw[<-h.names];exact hx) hl⟩
   ·by_cases hk2:∃ d tg it,e'=.compA d tg it
    ·obtain⟨d,tg,it,rfl⟩:=hk2;obtain⟨⟨tgE,iter,ifs,asy⟩,y1,z⟩:=aJ hc;have y1:gens=[⟨tgE,iter,ifs,asy⟩]:=y1;obtain⟨z,zc⟩:=ae z;obtain⟨z,z7⟩:=ae z;obtain⟨z,z6⟩:=ae z;obtain⟨z,z5⟩:=ae z;obtain⟨z,z4⟩:=ae z;obtain⟨z,z3⟩:=ae z;obtain⟨z,z2⟩:=ae z;obtain⟨z,z1⟩:=ae z;obtain⟨y2,z0⟩:=ae z;rw[beq_iff_eq]at z0;have w0:asy=0:=z0
     have w2:ifs=[]:=by rw[List.isEmpty_iff]at y2;exact y2
     subst y1 w0;subst w2;refine uH hcm h.ndX hN hy (by rw[h.scope];exact j1 z1) (eZ it h.toXOk _ _ z6) ?_ (cP z3 _) hsw;exact⟨fun cls Ca fp s H=>jr h.toXOk z5 z4,fun cls Ca fp s H pins s' σ H' Q I q=>kJ I q,fun cls Ca fp s H=>(ak d (h.toXOk.blk cls Ca fp s H) _).1 z7,fun i x hx hl=>gx z2 i x (by rw[<-h.names];exact hx) hl⟩
    ·cases e'<;>first | exact Bool.noConfusion hc | exact absurd ⟨_,_,_,_,rfl⟩ hk | exact absurd ⟨_,_,_,rfl⟩ hk2 | (obtain⟨_,hc⟩:=ae hc;exact Bool.noConfusion hc) | (rename_i b a;cases b<;>(obtain⟨_,hc⟩:=ae hc;exact Bool.noConfusion hc))
  ·have hb':=Bool.not_eq_true _▸hb;rw[hb']at hsw;exact plain hsw
def kG{is:List Nat}(h:is.all (fun i=>!M.contains i)=true):∀ i∈is,M.contains i=false:=fun i hi=>by
 rw[List.all_eq_true]at h;simpa using h i hi
def fV{b:Bool}(h:(!b)=true):b=false:=by simpa using h
def ko{nm:Str}{f:List Expr->Bool}(h:XOk C X cl)(z:jB C i nm e f=true):∃ x p apos as pos,e=.Call (.Attribute (.Name x p) nm apos) as [] pos/\X.N[i]?=some x/\Vis X.env.scope x/\(x == ("__debug__" : Str))=false/\(x == ("__classdict__" : Str))=false/\(apos.endLine == pos.line)=true/\f as=true:=by
 unfold jB at z;obtain⟨⟨g,as,ks,pos⟩,z0,z⟩:=aj z;have e0:=cq z0;obtain⟨z,z3⟩:=ae z;obtain⟨z1,z2⟩:=ae z;obtain⟨⟨o,a,apos⟩,y0,z1⟩:=aj z1;have e1:=lY y0;have e1:g=.Attribute o a apos:=e1;obtain⟨z1,y3⟩:=ae z1;obtain⟨y1,y2⟩:=ae z1;rw[beq_iff_eq]at y2;have y2:a=nm:=y2
 have w2:ks=[]:=by rw[List.isEmpty_iff]at z2;exact z2
 obtain⟨x,p,e2,g1,g2,g3,g4⟩:=dz h y1;have e2:o=.Name x p:=e2;rw[e1,w2,y2,e2]at e0;exact⟨x,p,apos,as,pos,e0,g1,g2,g3,g4,y3,z3⟩
def yu(h1:PS X st (m8 (tE X.K cl e') (vQ (cA i) (tE X.K cl k') qj)))(h2:PS X st (qd (cA i) (tE X.K cl k') (tE X.K cl e')))(hi:M.contains i=true):SS X cl M st (.put i k' e'):=by
 have a1:=zg h1 hi trivial;have a2:=yL h2 hi;intro pins s σ H D I h;obtain⟨σD,o,σD',rv,e,k⟩:=h;obtain⟨d,e1,e⟩:=bind_some e;obtain⟨kk,e2,e⟩:=bind_some e;obtain⟨l,e3,e⟩:=bind_some e
 cases l with
 | lst ds=>exact a1 pins s σ H D I ⟨σD,o,σD',rv,by dsimp only;rw[e1];dsimp only[Option.bind_some];rw[e2];dsimp only[Option.bind_some];rw[e3];exact e,k⟩
 | _=>exact a2 pins s σ H D I ⟨σD,o,σD',rv,by dsimp only;rw[e1];dsimp only[Option.bind_some];rw[e2];dsimp only[Option.bind_some];rw[e3];exact e,k⟩
def qo{o k:Expr}{pos:Pos}{env:Env}(h:iS k=true)(v:Value):assign (.Subscript o k pos) env v=(do
   let ov <- holding [v] (eval o env)
   let iv <- holding [v,ov] (eval k env)
   standAt pos
   holding [v,ov,iv] (setItem ov iv v)
   release [v,ov,iv] []):=by
 cases k<;>first | rfl | (cases h;done)
def ll{us:List Expr}{kk:Nat}{tp:Pos}{env:Env}(h:sy e=true):swappedStores [.Tuple us kk tp] e env=pure none:=by
 cases e with
 |Tuple vs k p=>
  have h:vs.all (foldedForSure 8)=true:=h;unfold swappedStores;dsimp only;split
  ·rfl
  ·split
   ·rfl
   ·split
    ·rfl
    ·first | rfl | (rw[if_pos h];rfl)
 | _=>rfl
end
section
variable{cl:RL.Cl}
def yq{X:Cx}{C:CC}{EX:L2.St->XK}{x:Str}{f:Nat}{p pos:Pos}{y:Expr}{ys:List Expr}{es:RL.Es}(h:ROk C X cl EX)(hg:glB C x=true)(hf:C.F[f]?=some (x,[]))(he:SEs X.nox cl (y::ys) es)(ha:RA X EX cl (y::ys) es)(hn:noStar y=true)(hns:ys.all noStar=true) :
  RE X EX cl (.Call (.Name x p) (y::ys) [] pos) (.call f es):=by
 obtain⟨k,fa,fd,ps,F,hr,hm,hk,hb⟩:=h.y.fnx f x h.cal hf;obtain⟨g1,g2⟩:=h.y.gl hg;exact xY F hr g1 hm hk hb h.pass (PA.nox he) ha (bc g2).1 hn hns
mutual
theorem d8:∀ (e':RL.E) {X:Cx} {C:CC} {EX:L2.St->XK} (h:ROk C X cl EX) (e:Expr),chk C false e' e=true->RE X EX cl e e'
 | .call f es,X,C,EX,h,e,z=>by
  obtain⟨zc,z⟩:=ae z;obtain⟨⟨g,as,ks,p⟩,z0,z⟩:=aj z;have z0:=cq z0;subst z0;obtain⟨z,z4⟩:=ae z;obtain⟨z,z3⟩:=ae z;obtain⟨z1,z2⟩:=ae z;obtain⟨x,y0,z1⟩:=aj z1;obtain⟨q,e0⟩:=bA y0;have e0:g=.Name x q:=e0;obtain⟨y1,y2⟩:=ae z1;rw[beq_iff_eq]at y2
  have w2:ks=[]:=by rw[List.isEmpty_iff]at z2;exact z2
  subst e0 w2;obtain⟨q1,q2,q3⟩:=dP es h.y.toXOk _ z4;have ha:=kT es h _ z4;dsimp only at z3 q1 q2 q3 ha
  cases as with
  | nil=>cases z3
  |cons y ys=>
   rw[List.all_cons]at q3;exact yq h y1 y2 q1 ha (ae q3).1 (ae q3).2
 | .ix a b,X,C,EX,h,e,z=>by
  obtain⟨⟨l,r⟩,z0,z⟩:=aj z;obtain⟨p,rfl⟩:=gb z0;obtain⟨z,z3⟩:=ae z;obtain⟨z1,z2⟩:=ae z;exact PE.weak (wU rF (d8 a h l z2) (PE.nox ((ak b h.y.toXOk r).1 z3)) (ph z1)) fun σ H Q q=>q
 | .mkO c f a,X,C,EX,h,e,z=>by
  obtain⟨zc,z⟩:=ae z;obtain⟨z1,z2⟩:=ae zc;obtain⟨⟨g,as,ks,p⟩,z0,z⟩:=aj z;have z0:=cq z0;obtain⟨z,z5⟩:=ae z;obtain⟨z3,z4⟩:=ae z;obtain⟨x,y0,z3⟩:=aj z3;obtain⟨q,e0⟩:=bA y0;have e0:g=.Name x q:=e0;obtain⟨y1,y2⟩:=ae z3;rw[beq_iff_eq]at y1;subst y1
  have w2:ks=[]:=by rw[List.isEmpty_iff]at z4;exact z4
  obtain⟨y,e3,z5⟩:=aJ z5;have e3:as=[y]:=e3;obtain⟨z6,z7⟩:=ae z5;rw[e0,w2,e3]at z0;subst z0;obtain⟨k,D,fI,fd,m1,m2,m3,m4,m5⟩:=h.y.mko x f z2 z1;exact AJ (X:=X) m1 m2 m3 (h.y.gl y2).1 m4 m5 (bc (h.y.gl y2).2).1 h.pass (PE.nox ((ak a h.y.toXOk y).1 z7)) z6
 | .var _,X,C,EX,h,e,z=>bq fun _=>rfl
 | .cst _,X,C,EX,h,e,z=>bq fun _=>rfl
 | .glb _ _,X,C,EX,h,e,z=>bq fun _=>rfl
 | .bin _ _ _,X,C,EX,h,e,z=>bq fun _=>rfl
 | .cmp _ _ _,X,C,EX,h,e,z=>bq fun _=>rfl
 | .chain _ _ _ _ _,X,C,EX,h,e,z=>bq fun _=>rfl
 | .inn _ _ _,X,C,EX,h,e,z=>bq fun _=>rfl
 | .and _ _,X,C,EX,h,e,z=>bq fun _=>rfl
 | .or _ _,X,C,EX,h,e,z=>bq fun _=>rfl
 | .not _,X,C,EX,h,e,z=>bq fun _=>rfl
 | .ifx _ _ _,X,C,EX,h,e,z=>bq fun _=>rfl
 | .tup _,X,C,EX,h,e,z=>bq fun _=>rfl
 | .lst _,X,C,EX,h,e,z=>bq fun _=>rfl
 | .slT _ _,X,C,EX,h,e,z=>bq fun _=>rfl
 | .bi _ _,X,C,EX,h,e,z=>bq fun _=>rfl
 | .isi _ _,X,C,EX,h,e,z=>bq fun _=>rfl
 | .rng1 _,X,C,EX,h,e,z=>bq fun _=>rfl
 | .rng2 _ _,X,C,EX,h,e,z=>bq fun _=>rfl
 | .rng3 _ _ _,X,C,EX,h,e,z=>bq fun _=>rfl
 | .neg _,X,C,EX,h,e,z=>bq fun _=>rfl
 | .comp _ _ _ _,X,C,EX,h,e,z=>bq fun _=>rfl
 | .compA _ _ _,X,C,EX,h,e,z=>bq fun _=>rfl
 | .join _,X,C,EX,h,e,z=>bq fun _=>rfl
 | .isx _ _,X,C,EX,h,e,z=>bq fun _=>rfl
 | .frz _,X,C,EX,h,e,z=>bq fun _=>rfl
theorem kT:∀ (es':RL.Es) {X:Cx} {C:CC} {EX:L2.St->XK} (h:ROk C X cl EX) (es:List Expr),gH C es' es=true->RA X EX cl es es'
 | .nil,X,C,EX,h,es,z=>B0
 | .cons e' es',X,C,EX,h,es,z=>by
  cases es with
  | nil=>cases z
  |cons e es=>
   obtain⟨z,z3⟩:=ae z;obtain⟨z1,z2⟩:=ae z;exact y9 (PE.nox ((ak e' h.y.toXOk e).1 z2)) (d8 e' h e z2) (kT es' h es z3) (az es z1)
end
section
variable{X:Cx}{C:CC}{EX:L2.St->XK}{M:List Nat}
def yv{X:Cx}{st:Stmt}{c:Str}{ps:RL.Es}:SS X cl M st (.rais c ps):=fun pins s σ H D I ⟨σD,r,σD',_,e,_⟩=>by
 cases e
def sS{t e:Expr}{spos:Pos}{i:Nat}{e':RL.E}{s:RL.S}(h:ROk C X cl EX)(hn:ef C i t=true)(ha:qS e=true)(hc:chk C false e' e=true)(he:∀ σD,RL.ip cl M s σD=(RL.evX cl σD e').map fun x=>(x,σD)):RZ X EX cl M (.Assign [t] e spos) s:=by
 obtain⟨y,py,rfl,hN,hl⟩:=du h.y.toXOk hn;by_cases hcomp:dB e=true
 ·exact lH (nG (X:=X) h.y.ndX hN hl (d8 e' h e hc) (cO hcomp) (.inl (h.y.fn y))) he
 ·refine eT fun σD=>?_;rw[he]
  have:∃ elt gens scope p,e=.ListComp elt gens scope p:=by
   cases e<;>first | exact absurd rfl hcomp | exact Bool.noConfusion ha | exact⟨_,_,_,_,rfl⟩
  obtain⟨elt,gens,scope,p,rfl⟩:=this
  cases e' with
  |call f es=>
   obtain⟨_,z⟩:=ae hc;exact Bool.noConfusion z
  | ix a b=>exact Bool.noConfusion hc
  |mkO c f a=>
   obtain⟨_,z⟩:=ae hc;exact Bool.noConfusion z
  | _=>rfl
abbrev tW(K:PySem.W.Frag)(cl:RL.Cl):RL.Es->TA
 | .nil=>hV
 | .cons e es=>rO (tE K cl e) (tW K cl es)
def wI{K:PySem.W.Frag}{σD:RL.St}{σ:L2.St}:∀ {ps:RL.Es} {ds:List RL.D} {H:Hp} {Q:List V->Hp->Prop},RV0 K σD σ H->RL.evs cl σD ps=some ds->ds.all RL.written=true->(∀ vs H1,aA H H1->Q vs H1)->tW K cl ps σ H Q
 | .nil,ds,H,Q,rv,e,w,k=>k [] H (aA.refl _)
 | .cons p ps,ds,H,Q,rv,e,w,k=>by
  rw[RL.evs]at e;obtain⟨d,e1,e⟩:=bind_some e;obtain⟨ds',e2,e3⟩:=map_some e;subst e3;rw[List.all_cons,Bool.and_eq_true]at w
  cases d with
  |int i=>
   refine⟨σD,.int i,rv,e1,fun v H1 r1=>⟨i,ai r1.rep,by simpa[RL.written]using w.1,wI (rv.same r1.same) e2 w.2 fun vs H2 sm=>k vs H2 (r1.same.trans sm)⟩⟩
  | _=>cases w.1
def jT{X:Cx}(h:XOk C X cl):∀ {vs:List Expr} {ps:RL.Es},lS C vs ps=true->PJ X vs (tW X.K cl ps)
 | [],.nil,z=>rq
 | [],.cons _ _,z=>by cases z
 | v::vs,ps,z=>by
  rw[lS]at z;split at z
  ·rename_i y hv;obtain⟨j,p,rfl⟩:=iy hv;obtain⟨z1,z2⟩:=ae z;exact jX (jT h z2) (by simpa using z1)
  ·cases z
  ·obtain⟨⟨e,cv,sp⟩,z0,z⟩:=aj z;obtain⟨p,rfl⟩:=xr z0;obtain⟨z,z3⟩:=ae z;obtain⟨z1,z2⟩:=ae z;rw[beq_iff_eq]at z1;have y1:cv=-1:=z1;have y2:sp=none:=iF z2;clear z1 z2 z z0;subst y1 y2
   cases ps with
   | nil=>cases z3
   |cons q qs=>
    obtain⟨z4,z5⟩:=ae z3;exact sP ((ak q h e).1 z4) (jT h z5)
def uG{c:Str}{ps:RL.Es}{a:Expr}{np cpos pos:Pos}(h:ROk C X cl EX)(z1:C.calm=true)(z2:C.Xr.contains c=true)(z3:(glB C c&&(RL.fM c).isNone)=true)(hn:noStar a=true)(z4:vh C ps a=true):RZ X EX cl M (.Raise (some (.Call (.Name c np) [a] [] cpos)) none pos) (.rais c ps):=by
 obtain⟨D,d1,d2,d3⟩:=h.y.cls c z2;obtain⟨z3,zf⟩:=Bool.and_eq_true_iff.mp z3;have zf:RL.fM c=none:=Option.isNone_iff_eq_none.mp zf;obtain⟨g1,g2⟩:=h.y.gl z3
 have key:∀ {ta:TE},PE X a ta->(∀ σD σ H ds (Q:VK),RV0 X.K σD σ H->RL.evs cl σD ps=some ds->ds.all RL.written=true->(∀ v H1,aA H H1->Q v H1)->ta σ H Q)->RZ X EX cl M (.Raise (some (.Call (.Name c np) [a] [] cpos)) none pos) (.rais c ps):=fun {ta} pe rd=>by
  intro pins s σ H Dn I q;refine PS.weak (vT (np:=np) (cpos:=cpos) (pos:=pos) (I.ok.hd.1 (h.y.calm z1)) g1 d1 (bc g2).1 d3 (fun pins σ H s h' e vs I m q=>h.made pins σ H s h' e D vs I m q) (aG pe bf (az [] hn)) (az [] hn)) (fun Dn σ H q=>?_) pins s σ H Dn I q;obtain⟨σD,x,σD',rv,e,k⟩:=q;obtain⟨ds,e1,e2⟩:=bind_some e;obtain⟨hw,e2⟩:=bG e2;cases e2
  exact rd σD σ H ds _ rv.rv0 e1 hw fun v H1 sm=>⟨by show 1<=sizeLine;decide,k σ H1 D none ⟨by rw[RL.yj zf];exact d2,by rw[zf];rfl⟩ (rv.same sm) (Fr'.same sm)⟩
 unfold vh at z4;rcases Bool.or_eq_true_iff.mp z4 with z | z
 ·obtain⟨w1,w2⟩:=ae z;obtain⟨kk,q0,q⟩:=aj w1;obtain⟨j,p,rfl⟩:=iy q0
  cases kk with
  | str y=>exact key mW fun σD σ H ds Q rv e w k=>k _ H (aA.refl _)
  | _=>cases q
 ·obtain⟨vs,q0,z⟩:=aj z;obtain⟨p,rfl⟩:=vd q0;obtain⟨z,w3⟩:=ae z;obtain⟨w1,w2⟩:=ae z;rw[decide_eq_true_eq]at w1 w2
  match vs,w1,w2,w3 with
  |v::v2::vs,_,w2,w3=>
   exact key (PE.nox (lg (jT h.y.toXOk w3) (by simp at w2;omega))) fun σD σ H ds Q rv e w k=>wI rv e w fun vs H1 sm x=>k _ H1 sm
end
def YOk.DF{C:CC}{X:Cx}(h:YOk C X cl){c:Str}(z:vt C c=true):∃ D,X.mg c=some (.ref D)/\Cls X.K c D:=by
 unfold vt at z;rcases Bool.or_eq_true_iff.mp z with z | z
 ·obtain⟨D,d1,d2,_⟩:=h.cls c z;exact⟨D,d1,d2⟩
 ·obtain⟨D,R,fI,fd,d1,d2,_⟩:=h.cli c z;exact⟨D,d1,d2⟩
def YOk.rok{C:CC}{X:Cx}(h:YOk C X cl)(pn:List (Addr × Obj))(E:Value->Shared->Prop)(EX:L2.St->XK)(hc:C.calm=true)(ou:uk (CxX X pn E) EX)(ow:PassesOwn (model X.prog X.w) X.A X.env E):ROk C (CxX X pn E) cl EX where
 y:={ scope:=h.scope,names:=h.names,nd:=h.nd,calm:=h.calm,xe:=rfl,hu:=h.hu,blt:=h.blt,glb:=h.glb,fns:=h.fns,gds:=h.gds,hfn:=h.hfn,cls:=h.cls,cli:=h.cli,mko:=h.mko,ref:=h.ref,fn:=h.fn,st:=h.st,fnx:=h.fnx }
 cal:=hc
 pass:=ou.1
 made:=ou.2.1
 BD:=ou.2.2
 own:=ow
def YOk.ba{C:CC}{X:Cx}(h:YOk C X cl)(e:Addr)(oe:Obj):YOk { C with calm:=false } (X.ba e oe) cl where
 scope:=h.scope
 names:=h.names
 nd:=h.nd
 calm:=fun z=>nomatch z
 xe:=h.xe
 hu:=h.hu
 blt:=h.blt
 glb:=h.glb
 fns:=fun _ _ _ z=>nomatch z
 gds:=h.gds
 hfn:=fun f x a b=>by
  obtain⟨k,fa,fd,ps,F,hr,r⟩:=h.hfn f x a b;exact⟨k,fa,fd,ps,F,⟨hr.dp,hr.un⟩,r⟩
 cls:=h.cls
 cli:=fun c hc=>let ⟨D,R,fI,fd,d1,d2,d3,d4,d5,d6⟩:=h.cli c hc;⟨D,R,fI,fd,d1,d2,d3,d4,(fun z=>nomatch z),d6⟩
 mko:=fun _ _ _ z=>nomatch z
 ref:=h.ref
 fn:=h.fn
 st:=h.st
 fnx:=fun _ _ z=>nomatch z
end
section
variable{cl:RL.Cl}
mutual
theorem pA:∀ (s:RL.S) {X:Cx} {C:CC} {M:List Nat} (h:YOk C X cl) (st:Stmt),uj C M s st=true->SS X cl M st s
 | .asg i e',X,C,M,h,st,z=>by
  obtain⟨⟨ts,e⟩,z0,z⟩:=aj z;obtain⟨p,rfl⟩:=d7 z0;obtain⟨t,y1,z⟩:=aJ z;have y1:ts=[t]:=y1;obtain⟨z,zc⟩:=ae z;obtain⟨z,z4⟩:=ae z;obtain⟨z,z3⟩:=ae z;obtain⟨z1,z2⟩:=ae z;subst y1;exact Bf (wD zc h z1 z3 z4) (fV z2)
 | .own i e',X,C,M,h,st,z=>by
  obtain⟨⟨ts,e⟩,z0,z⟩:=aj z;obtain⟨p,rfl⟩:=d7 z0;obtain⟨t,y1,z⟩:=aJ z;have y1:ts=[t]:=y1;obtain⟨z,zc⟩:=ae z;obtain⟨z,z5⟩:=ae z;obtain⟨z,z4⟩:=ae z;obtain⟨z,z3⟩:=ae z;obtain⟨z1,z2⟩:=ae z;subst y1;exact Ak (wD zc h z1 z4 z5) z2 (by simpa using z3)
 | .unp is e',X,C,M,h,st,z=>by
  obtain⟨⟨ts,e⟩,z0,z⟩:=aj z;obtain⟨p,rfl⟩:=d7 z0;obtain⟨t,y1,z⟩:=aJ z;have y1:ts=[t]:=y1;obtain⟨us,y2,z⟩:=aj z;obtain⟨k,tp,rfl⟩:=dQ y2;obtain⟨z,z4⟩:=ae z;obtain⟨z,z3⟩:=ae z;obtain⟨z1,z2⟩:=ae z;subst y1;obtain⟨g1,g2,g3⟩:=i0 h.toXOk (T:=is) (fun i x _ _=>.inl (h.fn x)) (fun _ h=>h) z1;refine xM (nW ((ak e' h.toXOk e).1 z4) (mC (jQ g1 g2 g3) (k9 g1 g2 g3)) ?_ (ll z3) rfl) (kG z2);cases e<;>rfl
 | .app i e',X,C,M,h,st,z=>by
  obtain⟨e,z0,z8⟩:=aj z;obtain⟨p0,rfl⟩:=i5 z0;obtain⟨x,p,apos,as,pos,rfl,g1,g2,g3,g4,z6,z7⟩:=ko h.toXOk z8;obtain⟨y,rfl,z9⟩:=aJ z7;obtain⟨z9,z7⟩:=ae z9;obtain⟨z4,z5⟩:=ae z9;refine BR (dO (wJ PySem.F.plainAttrs_list PySem.F.slot_list_append PySem.F.type_list_append kS (bz g1 g2 g3 g4) (cm (cl:=cl) ((ak e' h.toXOk y).1 z7) dA z5) rfl ?_ z6 (az [] z5) rfl) rfl) z4;rw[az [] z5];rfl
 | .put i k' e',X,C,M,h,st,z=>by
  obtain⟨⟨ts,e⟩,z0,z⟩:=aj z;obtain⟨p,rfl⟩:=d7 z0;obtain⟨t,y1,z⟩:=aJ z;have y1:ts=[t]:=y1;obtain⟨⟨o,k⟩,y2,z⟩:=aj z;obtain⟨sp,e2⟩:=gb y2;obtain⟨z,z7⟩:=ae z;obtain⟨z,z6⟩:=ae z;obtain⟨z,z5⟩:=ae z;obtain⟨z,z4⟩:=ae z;obtain⟨z1,z3⟩:=ae z;obtain⟨x,px,e3,g1,g2,g3,g4⟩:=dz h.toXOk z1;have e3:o=.Name x px:=e3;rw[e3]at e2;rw[e2]at y1;subst y1;have pv:=fun pos=>bz (X:=X) (pos:=pos) g1 g2 g3 g4;refine yu (nW ((ak e' h.toXOk e).1 z7) (za (pv _) ((ak k' h.toXOk k).1 z6) set_list (qo z4)) ?_ ?_ rfl) (xn (Nat.lt_of_le_of_lt (by lia) h.hu) (pv _) ((ak k' h.toXOk k).1 z6) ((ak e' h.toXOk e).1 z7) (cO z5)) z3
  ·unfold swapsWithSole;exact cO z5
  ·rfl
 | .aug i o e',X,C,M,h,st,z=>by
  obtain⟨⟨t,op,e⟩,z0,z⟩:=aj z;obtain⟨p,rfl⟩:=oB z0;obtain⟨z,z4⟩:=ae z;obtain⟨z,z3⟩:=ae z;obtain⟨z1,z2⟩:=ae z;obtain⟨x,px,e1,l1,l2⟩:=du h.toXOk z1;have e1:t=.Name x px:=e1;subst e1;have z3:wB o op=true:=z3;have z4:chk C false e' e=true:=z4;clear z0 z1 z
  cases o<;>cases op<;>first | (cases z3;done) | skip
  ·exact sV (f:=fun a b=>a+b) (fun a b=>rfl) (ng h.ndX l1 l2 ((ak e' h.toXOk e).1 z4) zI (.inl (h.fn x))) (fV z2)
  ·exact sV (f:=fun a b=>a-b) (fun a b=>rfl) (ng h.ndX l1 l2 ((ak e' h.toXOk e).1 z4) ze (.inl (h.fn x))) (fV z2)
 | .augs i e',X,C,M,h,st,z=>by
  obtain⟨⟨t,op,e⟩,z0,z⟩:=aj z;obtain⟨p,rfl⟩:=oB z0;obtain⟨z,z4⟩:=ae z;obtain⟨z,z3⟩:=ae z;obtain⟨z1,z2⟩:=ae z;obtain⟨x,px,e1,l1,l2⟩:=du h.toXOk z1;have e1:t=.Name x px:=e1;subst e1;rw[beq_iff_eq]at z3;have z3:op=.Add:=z3;subst z3;exact xq (ng h.ndX l1 l2 ((ak e' h.toXOk e).1 z4) xy (.inl (h.fn x))) (fV z2)
 | .tie3 f r p w,X,C,M,h,st,z=>by
  obtain⟨e,z0,z⟩:=aj z;obtain⟨p0,rfl⟩:=i5 z0;obtain⟨⟨g,as,ks,pos⟩,z0,z⟩:=aj z;have e0:=cq z0;obtain⟨z,z7⟩:=ae z;obtain⟨z,zc⟩:=ae z;obtain⟨z,z6⟩:=ae z;obtain⟨z,z5⟩:=ae z;obtain⟨z,z4⟩:=ae z;obtain⟨z,z3⟩:=ae z;obtain⟨z1,z2⟩:=ae z;obtain⟨x,y0,z1⟩:=aj z1;obtain⟨q,e1⟩:=bA y0;have e1:g=.Name x q:=e1;obtain⟨y1,y2⟩:=ae z1;rw[beq_iff_eq]at y2
  have w2:ks=[]:=by rw[List.isEmpty_iff]at z2;exact z2
  obtain⟨a,b,c,e3,z7⟩:=nQ z7;have e3:as=[a,b,c]:=e3;obtain⟨z7,z10⟩:=ae z7;obtain⟨z8,z9⟩:=ae z7;obtain⟨xa,pa,ea,a1,a2,a3,a4⟩:=dz h.toXOk z8;obtain⟨xb,pb,eb,b1,b2,b3,b4⟩:=dz h.toXOk z9;obtain⟨xc,pc,apos,as',pos',ec,c1,c2,c3,c4,c5,c6⟩:=ko h.toXOk z10;have c6:as'=[]:=List.isEmpty_iff.mp c6;rw[c6]at ec;rw[e1,w2,e3,ea,eb,ec]at e0;subst e0;obtain⟨k,fa,fd,pn,F,hr,hm,hk,hb⟩:=h.toXOk.fns f x [0] zc y2;rw[if_neg (by decide)]at F;obtain⟨g1,g2⟩:=h.toXOk.gl y1;exact xD (dO (kg F hr g1 hm hk hb .nil jH (aG (bz a1 a2 a3 a4) (aG (bz b1 b2 b3 b4) (aG (rh PySem.F.plainAttrs_list PySem.F.slot_list_pop PySem.F.type_list_pop rj (bz c1 c2 c3 c4) rfl c5) bf rfl) rfl) rfl) (bc g2).1 rfl rfl) (cO rfl)) z3 (fV z4) z5 (by simpa using z6)
 | .ife c' a' b',X,C,M,h,st,z=>by
  obtain⟨⟨c,a,b⟩,z0,z⟩:=aj z;obtain⟨p,rfl⟩:=ij z0;obtain⟨z,z3⟩:=ae z;obtain⟨z1,z2⟩:=ae z;exact wg ((ak c' h.toXOk c).2 z1).1 (br a' h a z2) (br b' h b z3)
 | .forr tg it b',X,C,M,h,st,z=>by
  obtain⟨⟨t,it',b,o⟩,z0,z⟩:=aj z;obtain⟨p,rfl⟩:=oV z0;obtain⟨z,zc⟩:=ae z;obtain⟨z,z7⟩:=ae z;obtain⟨z,z6⟩:=ae z;obtain⟨z,z5⟩:=ae z;obtain⟨z,z4⟩:=ae z;obtain⟨z,z3⟩:=ae z;obtain⟨z1,z2⟩:=ae z;have z1:o=[]:=List.isEmpty_iff.mp z1;subst z1;exact Bo h.xe (h.calm zc) (eZ it h.toXOk t it' z2) (nU h.toXOk (fun i x _ _=>.inl (h.fn x)) z3) (br b' h b z7) (cP z4 _) z5 (kG z6)
 | .ret e',X,C,M,h,st,z=>by
  obtain⟨o,z0,z⟩:=aj z;obtain⟨p,rfl⟩:=kD z0;obtain⟨e,rfl,zz⟩:=aj z;by_cases hv:pH M e'=true
  ·have:∃ i,e'=.var i:=by
    cases e'<;>first | exact⟨_,rfl⟩ | exact Bool.noConfusion hv
   obtain⟨i,rfl⟩:=this;obtain⟨x,q,rfl,g1,g2,g3,g4⟩:=dz h.toXOk zz;exact xI g1 g2 g3 g4 hv
  ·exact zb ((ak e' h.toXOk e).1 zz) fun i hi=>by
    subst hi;simpa[pH]using hv
 | .exc e',X,C,M,h,st,z=>by
  obtain⟨e,z0,z⟩:=aj z;obtain⟨p0,rfl⟩:=i5 z0;obtain⟨z1,z2⟩:=ae z;exact AW (dO ((ak e' h.toXOk e).1 z2) (cO z1))
 | .never,X,C,M,h,st,z=>uF
 | .ifp i e' a' b',X,C,M,h,st,z=>by
  obtain⟨⟨c,a,b⟩,z0,z⟩:=aj z;obtain⟨p,rfl⟩:=ij z0;obtain⟨⟨l,os,rs⟩,z0,z⟩:=aj z;obtain⟨cp,ec⟩:=ff z0;have ec:c=.Compare l os rs cp:=ec;obtain⟨op,y1,z⟩:=aJ z;obtain⟨e,y2,z⟩:=aJ z;have y1:os=[op]:=y1;have y2:rs=[e]:=y2;obtain⟨z,z6⟩:=ae z;obtain⟨z,z5⟩:=ae z;obtain⟨z,z4⟩:=ae z;obtain⟨z,z3⟩:=ae z;obtain⟨z1,z2⟩:=ae z;rw[beq_iff_eq]at z1;obtain⟨x,px,apos,as,pos,e2,g1,g2,g3,g4,z7,z8⟩:=ko h.toXOk z6;have e2:l=.Call (.Attribute (.Name x px) "pop" apos) as [] pos:=e2;have z8:as=[]:=List.isEmpty_iff.mp z8;rw[z8]at e2;rw[y1,y2,z1,e2]at ec;subst ec;exact Bz (rh PySem.F.plainAttrs_list PySem.F.slot_list_pop PySem.F.type_list_pop rj (bz g1 g2 g3 g4) rfl z7) ((ak e' h.toXOk e).1 z3) (br a' h a z4) (br b' h b z5) z2
 | .rais _ _,X,C,M,h,st,z=>yv
 | .tryc b c i hh,X,C,M,h,st,z=>by
  obtain⟨⟨bd,hs,oe,fi⟩,z0,z⟩:=aj z;obtain⟨p,rfl⟩:=x9 z0;obtain⟨z,z9⟩:=ae z;obtain⟨z,z8⟩:=ae z;obtain⟨z,z7⟩:=ae z;obtain⟨z,z6⟩:=ae z;obtain⟨z,z5⟩:=ae z;obtain⟨z,z4⟩:=ae z;obtain⟨z,z3⟩:=ae z;obtain⟨z1,z2⟩:=ae z;have v2:oe=[]:=List.isEmpty_iff.mp z2;have v3:fi=[]:=List.isEmpty_iff.mp z3;obtain⟨hd,y1,z8⟩:=aJ z8;have v1:hs=[hd]:=y1;obtain⟨ht,hn,hb,hp⟩:=hd;obtain⟨w,w4⟩:=ae z8;obtain⟨w,w3⟩:=ae w;obtain⟨w1,w2⟩:=ae w;obtain⟨te,q1,w5⟩:=aj w1;have u1:ht=some te:=q1;obtain⟨x,q2,w6⟩:=aj w5;obtain⟨np,q4⟩:=bA q2;rw[beq_iff_eq]at w6;clear w1 w5 q2;subst q4 w6;obtain⟨n,q3,w7⟩:=aj w2;have u3:hn=some n:=q3;obtain⟨n1,n2⟩:=ae w7;rw[beq_iff_eq]at n2;have z9:bT C M b bd=true:=z9;have w4:bT { C with calm:=false } M hh hb=true:=w4;have w3:(!hb.isEmpty)=true:=w3;clear z2 z3 y1 q1 q3 z0 z;subst v2 v3 u1 u3
  cases hb with
  | nil=>cases w3
  |cons b0 ba=>
   subst v1;obtain⟨R,r1,r2⟩:=h.DF z4;refine zr h.xe h.st.1 h.st.2.1 h.st.2.2 (br b h bd z9) (fun pn E EX ou ow=>dC b (h.rok pn E EX z1 ou ow) bd z9) (fun e oe=>br hh (h.ba e oe) (b0::ba) w4) r2 (by simpa using z5) (h.gl z6).1 r1 (bc (h.gl z6).2).1 h.ndX (h.nm n1).1 (by rw[h.scope];exact n2) (fV z7)
 | .ifr o x' y' a' b',X,C,M,h,st,z=>by
  obtain⟨⟨c,a,b⟩,z0,z⟩:=aj z;obtain⟨p,rfl⟩:=ij z0;obtain⟨z,z3⟩:=ae z;obtain⟨z1,z2⟩:=ae z;obtain⟨⟨l,os,rs⟩,q0,z1⟩:=aj z1;obtain⟨p2,e0⟩:=ff q0;have e0:c=.Compare l os rs p2:=e0;obtain⟨op,y1,z1⟩:=aJ z1;obtain⟨r,y2,z1⟩:=aJ z1;have y1:os=[op]:=y1;have y2:rs=[r]:=y2;obtain⟨z1,z5⟩:=ae z1;obtain⟨z1,z4⟩:=ae z1;rw[beq_iff_eq]at z1;clear q0;subst z1 y1 y2 e0;exact B7 h.hu ((ak x' h.toXOk l).1 z4) ((ak y' h.toXOk r).1 z5) (br a' h a z2) (br b' h b z3)
theorem br:∀ (s:RL.Ss) {X:Cx} {C:CC} {M:List Nat} (h:YOk C X cl) (st:List Stmt),bT C M s st=true->SSs X cl M st s
 | .nil,X,C,M,h,st,z=>by
  have z:st=[]:=List.isEmpty_iff.mp z;subst z;exact xO
 | .cons s r,X,C,M,h,st,z=>by
  cases st with
  | nil=>cases z
  |cons x xs=>
   obtain⟨z1,z2⟩:=ae z;exact vO (pA s h x z1) (br r h xs z2)
 | .act i g tbl a' es,X,C,M,h,st,z=>by
  obtain⟨zc,z⟩:=ae z;obtain⟨s1,s2,rfl,z⟩:=dN z;obtain⟨⟨ts,v⟩,z0,z⟩:=aj z;obtain⟨p,rfl⟩:=d7 z0;obtain⟨z,z3⟩:=ae z;obtain⟨z1,z2⟩:=ae z;obtain⟨t,y1,z1⟩:=aJ z1;have y1:ts=[t]:=y1;subst y1;obtain⟨z1,z1'⟩:=ae z1;obtain⟨n,np,rfl,n1,l1⟩:=du h.toXOk z1;obtain⟨n',np',e1,m1,m2,m3,m4⟩:=dz h.toXOk z1';cases e1;obtain⟨⟨o,k⟩,y2,z2⟩:=aj z2;obtain⟨sp,e2⟩:=gb y2;have e2:v=.Subscript o k sp:=e2;subst e2;obtain⟨z2,w3⟩:=ae z2;obtain⟨w1,w2⟩:=ae z2;obtain⟨x,y3,w1⟩:=aj w1;obtain⟨gp,rfl⟩:=bA y3;obtain⟨w1,w6⟩:=ae w1;obtain⟨w4,w5⟩:=ae w1;rw[beq_iff_eq]at w4 w6;subst w4;obtain⟨ro,y4,b1⟩:=aj z3;obtain⟨rp,rfl⟩:=kD y4;obtain⟨ce,rfl,b2⟩:=aj b1;obtain⟨⟨f,as,ks,cpos⟩,y5,b3⟩:=aj b2;have e5:=cq y5;subst e5;obtain⟨b3,u4⟩:=ae b3;obtain⟨b3,u3⟩:=ae b3;obtain⟨u1,u2⟩:=ae b3;obtain⟨n2,cp,e6,k1,k2,k3,k4⟩:=dz h.toXOk u1;have e6:f=.Name n2 cp:=e6;subst e6
  have en:n2=n:=by
   have q:=k1;rw[n1]at q;exact(Option.some.inj q).symm
  subst en
  have e7:ks=[]:=by rw[List.isEmpty_iff]at u2;exact u2
  subst e7
  cases as with
  | nil=>cases u3
  |cons e0 es0=>
   obtain⟨q1,_,q3⟩:=dP es h.toXOk (e0::es0) u4;rw[List.all_cons]at q3;obtain⟨q2,q3⟩:=ae q3;obtain⟨d,kvs,d1,d2,d3,d4⟩:=h.gds x tbl w6;obtain⟨g1,g2⟩:=h.gl w5;refine xR h.ndX n1 l1 k2 k3 k4 (.inl (h.fn _)) ((ak a' h.toXOk k).1 w3) (tF w2) g1 d1 (bc g2).1 d2 (fun y m e=>?_) q1 q2 q3 (cO rfl);obtain⟨q,nm,f1,f2,f3⟩:=d4 y m e;obtain⟨kk,fa,fd,ps,F,hr,hm,hk,hb⟩:=h.fns m nm [] zc f2;rw[if_pos rfl]at F;rw[f3]at hm;cases hm;exact⟨q,kk,fd,ps,f1,F,hr,hk,hb⟩
 | .opn _ _ _,X,C,M,h,st,z=>by cases z
theorem vX:∀ (s:RL.S) {X:Cx} {C:CC} {M:List Nat} {EX:L2.St->XK} (h:ROk C X cl EX) (st:Stmt),uj C M s st=true->RZ X EX cl M st s
 | .asg i e',X,C,M,EX,h,st,z=>by
  obtain⟨⟨ts,e⟩,z0,z⟩:=aj z;obtain⟨p,rfl⟩:=d7 z0;obtain⟨t,y1,z⟩:=aJ z;have y1:ts=[t]:=y1;obtain⟨z,zc⟩:=ae z;obtain⟨z,z4⟩:=ae z;obtain⟨z,z3⟩:=ae z;obtain⟨z1,z2⟩:=ae z;subst y1;exact sS h z1 z3 z4 (fun _=>rfl)
 | .own i e',X,C,M,EX,h,st,z=>by
  obtain⟨⟨ts,e⟩,z0,z⟩:=aj z;obtain⟨p,rfl⟩:=d7 z0;obtain⟨t,y1,z⟩:=aJ z;have y1:ts=[t]:=y1;obtain⟨z,zc⟩:=ae z;obtain⟨z,z5⟩:=ae z;obtain⟨z,z4⟩:=ae z;obtain⟨z,z3⟩:=ae z;obtain⟨z1,z2⟩:=ae z;subst y1;exact sS h z1 z4 z5 (fun _=>rfl)
 | .unp is e',X,C,M,EX,h,st,z=>by
  obtain⟨⟨ts,e⟩,z0,z⟩:=aj z;obtain⟨p,rfl⟩:=d7 z0;obtain⟨t,y1,z⟩:=aJ z;have y1:ts=[t]:=y1;obtain⟨us,y2,z⟩:=aj z;obtain⟨k,tp,rfl⟩:=dQ y2;obtain⟨z,z4⟩:=ae z;obtain⟨z,z3⟩:=ae z;obtain⟨z1,z2⟩:=ae z;subst y1;obtain⟨g1,g2,g3⟩:=i0 h.y.toXOk (T:=is) (fun i x _ _=>.inl (h.y.fn x)) (fun _ h=>h) z1;refine lH (nW (d8 e' h e z4) (PG.nox (mC (jQ g1 g2 g3) (k9 g1 g2 g3))) ?_ (ll z3) rfl) fun _=>rfl;cases e<;>rfl
 | .exc e',X,C,M,EX,h,st,z=>by
  obtain⟨e,z0,z⟩:=aj z;obtain⟨p0,rfl⟩:=i5 z0;obtain⟨z1,z2⟩:=ae z;exact lH (dO (d8 e' h e z2) (cO z1)) fun _=>rfl
 | .ret e',X,C,M,EX,h,st,z=>by
  obtain⟨o,z0,z⟩:=aj z;obtain⟨p,rfl⟩:=kD z0;obtain⟨e,rfl,zz⟩:=aj z;exact lH (g:=fun D _=>D.rt) (jm (d8 e' h e zz)) fun _=>rfl
 | .ife c' a' b',X,C,M,EX,h,st,z=>by
  obtain⟨⟨c,a,b⟩,z0,z⟩:=aj z;obtain⟨p,rfl⟩:=ij z0;obtain⟨z,z3⟩:=ae z;obtain⟨z1,z2⟩:=ae z;exact C9 (PT.nox ((ak c' h.y.toXOk c).2 z1).1) (dC a' h a z2) (dC b' h b z3)
 | .forr tg it b',X,C,M,EX,h,st,z=>by
  obtain⟨⟨t,it',b,o⟩,z0,z⟩:=aj z;obtain⟨p,rfl⟩:=oV z0;obtain⟨z,zc⟩:=ae z;obtain⟨z,z7⟩:=ae z;obtain⟨z,z6⟩:=ae z;obtain⟨z,z5⟩:=ae z;obtain⟨z,z4⟩:=ae z;obtain⟨z,z3⟩:=ae z;obtain⟨z1,z2⟩:=ae z;have z1:o=[]:=List.isEmpty_iff.mp z1;subst z1;exact Af h.own (h.y.calm zc) (PI.nox (eZ it h.y.toXOk t it' z2)) (PG.nox (nU h.y.toXOk (fun i x _ _=>.inl (h.y.fn x)) z3)) (PSs.nox (br b' h.y b z7)) (dC b' h b z7) (cP z4 _) z5 (kG z6)
 | .rais c ps,X,C,M,EX,h,st,z=>by
  obtain⟨⟨eo,co⟩,z0,z⟩:=aj z;obtain⟨p,rfl⟩:=tu z0;obtain⟨z,z5⟩:=ae z;obtain⟨z,z4⟩:=ae z;obtain⟨z,z3⟩:=ae z;obtain⟨z1,z2⟩:=ae z;have z4:co=none:=iF z4;obtain⟨e,q1,z5⟩:=aj z5;have q1:eo=some e:=q1;obtain⟨⟨g,as,ks,cp⟩,w0,w⟩:=aj z5;have w0:=cq w0;obtain⟨w,w3⟩:=ae w;obtain⟨w1,w2⟩:=ae w;obtain⟨x,q2,w1⟩:=aj w1;obtain⟨np,q3⟩:=bA q2;have q3:g=.Name x np:=q3;rw[beq_iff_eq]at w1;subst w1;have w2:ks=[]:=List.isEmpty_iff.mp w2;obtain⟨a,q4,w3⟩:=aJ w3;have q4:as=[a]:=q4;obtain⟨w3,w4⟩:=ae w3;rw[q3,w2,q4]at w0;subst w0 z4 q1;exact uG h z1 z2 z3 w3 w4
 | .ifr o x' y' a' b',X,C,M,EX,h,st,z=>by
  obtain⟨⟨c,a,b⟩,z0,z⟩:=aj z;obtain⟨p,rfl⟩:=ij z0;obtain⟨z,z3⟩:=ae z;obtain⟨z1,z2⟩:=ae z;obtain⟨⟨l,os,rs⟩,q0,z1⟩:=aj z1;obtain⟨p2,e0⟩:=ff q0;have e0:c=.Compare l os rs p2:=e0;obtain⟨op,y1,z1⟩:=aJ z1;obtain⟨r,y2,z1⟩:=aJ z1;have y1:os=[op]:=y1;have y2:rs=[r]:=y2;obtain⟨z1,z5⟩:=ae z1;obtain⟨z1,z4⟩:=ae z1;rw[beq_iff_eq]at z1;clear q0;subst z1 y1 y2 e0;exact yY h.y.hu (PE.nox ((ak x' h.y.toXOk l).1 z4)) (d8 x' h l z4) (d8 y' h r z5) (PSs.nox (br a' h.y a z2)) (PSs.nox (br b' h.y b z3))
 | .app _ _,X,C,M,EX,h,st,z=>eT fun _=>rfl
 | .put _ _ _,X,C,M,EX,h,st,z=>eT fun _=>rfl
 | .aug _ _ _,X,C,M,EX,h,st,z=>eT fun _=>rfl
 | .augs _ _,X,C,M,EX,h,st,z=>eT fun _=>rfl
 | .ifp _ _ _ _,X,C,M,EX,h,st,z=>eT fun _=>rfl
 | .tie3 _ _ _ _,X,C,M,EX,h,st,z=>eT fun _=>rfl
 | .never,X,C,M,EX,h,st,z=>eT fun _=>rfl
 | .tryc _ _ _ _,X,C,M,EX,h,st,z=>eT fun _=>rfl
theorem dC:∀ (s:RL.Ss) {X:Cx} {C:CC} {M:List Nat} {EX:L2.St->XK} (h:ROk C X cl EX) (st:List Stmt),bT C M s st=true->RZs X EX cl M st s
 | .nil,X,C,M,EX,h,st,z=>yR
 | .opn j e' r,X,C,M,EX,h,st,z=>xP
 | .act _ _ _ _ _,X,C,M,EX,h,st,z=>xj
 | .cons s r,X,C,M,EX,h,st,z=>by
  cases st with
  | nil=>cases z
  |cons x xs=>
   obtain⟨z1,z2⟩:=ae z;exact vz (PS.nox (pA s h.y x z1)) (vX s h x z1) (dC r h xs z2)
end
end
structure cX where
 name:Str
 st:Stmt
 ps:List Str
 N:List Str
 h:Bool
structure PT' where
 B:List Str
 G:List (Str × Int)
 Ds:List cX
 T:List RL.Fn
 Xr:List Str
 Xs:List Str
 Xi:List Str
 Xo:List (Str × Nat)
 W:List (Str × List (Str × Nat)):=[]
abbrev PT'.F(p:PT'):List (Str × List Nat):=(p.Ds.zip p.T).map fun q=>(q.1.name,q.2.mp)
abbrev PT'.hf(p:PT'):List Nat:=(List.range p.Ds.length).filter fun f=>(p.Ds[f]?).any (·.h)
abbrev PT'.cc(p:PT')(d:cX):CC:=⟨d.N,aq d.st,p.B,p.G,p.F,true,p.hf,p.Xr,p.Xs,p.Xi,p.Xo,p.W⟩
abbrev oa(N ps:List Str)(sc:Scope):Bool :=
 sc.kind == .function && !sc.isCoroutine && !sc.isGenerator&&decide N.Nodup&&N.take ps.length == ps&&ps.all (fun x=>sc.names.lookup x == some .local || sc.names.lookup x == some .cell)&&sc.names.all (fun y=>!(y.2 == .free))
abbrev fnB(p:PT')(d:cX)(fn:RL.Fn):Bool :=
 oa d.N d.ps (aq d.st)&&fn.ps == d.ps.length&&fn.nn == d.N.length&&decide (d.ps.length<=d.N.length)&&(List.range fn.ps).all (fun i=>!fn.M.contains i || fn.mp.contains i)&&fn.mp.all (fun i=>decide (i<fn.ps)&&decide (2<=fn.M.count i))&&bT (p.cc d) fn.M fn.body (aZ d.st)&&(!d.h || bT { p.cc d with calm:=false } fn.M fn.body (aZ d.st))
abbrev PT'.ok(p:PT'):Bool:=decide (p.T.length<=1000)&&p.Ds.length == p.T.length&&(p.Ds.zip p.T).all fun q=>fnB p q.1 q.2
def gF{N ps:List Str}{sc:Scope}(h:oa N ps sc=true):cx N ps sc:=by
 unfold oa at h;obtain⟨h,h7⟩:=ae h;obtain⟨h,h6⟩:=ae h;obtain⟨h,h5⟩:=ae h;obtain⟨h,h4⟩:=ae h;obtain⟨h,h3⟩:=ae h;obtain⟨h1,h2⟩:=ae h;refine⟨by simpa using h1,by simpa using h2,by simpa using h3,by simpa using h4,by simpa using h5,fun x hx=>?_,fun y hy=>?_⟩
 ·rw[List.all_eq_true]at h6;have:=h6 x hx;rw[Bool.or_eq_true,beq_iff_eq,beq_iff_eq]at this;exact this
 ·rw[List.all_eq_true]at h7;have:=h7 y hy;intro z;rw[z]at this;simp at this
structure qD(p:PT')(w:World)(K:PySem.W.Frag)(mg:Str->Option Value):Prop where
 defs:∀ (f:Nat) (d:cX),p.Ds[f]?=some d->∃ fa fd,mg d.name=some (.ref fa)/\Fun K d.name d.name d.st fa fd/\PySem.W.keepIn K (.ref fa)=true/\Binds K fd d.ps []
 blt:∀ x∈p.B,mg x=none
 glb:∀ x i,p.G.lookup x=some i->∃ u,mg x=some u/\RelV (.int i) u
 cls:∀ c,p.Xr.contains c=true->∃ D,mg c=some (.ref D)/\Cls K c D/\PySem.W.excIn K D VE "ValueError.__new__" = true
 cli:∀ c,p.Xi.contains c=true->∃ D R fI fd st qual,mg c=some (.ref D)/\Cls K c D/\gC K R D fI/\wq st/\Fun K "__init__" qual st fI fd/\mg "RibbonError" = some (.ref R)/\Binds K fd ["self", "at"] []
 mko:∀ c f,p.Xo.contains (c,f)=true->∃ d,p.Ds[f]?=some d/\((p.T[f]?).map (·.mp))=some []/\gN K mg d.name c
 ref:∀ c,p.Xs.contains c=true->∃ D,mg c=some (.ref D)/\PySem.W.nsIn K mainGlobals c=some (some (.ref D))
 gds:∀ x tbl,p.W.lookup x=some tbl->∃ (d:Addr) (kvs:List (Str × Addr)),mg x=some (.ref d)/\((d == sysModules)=false/\∀ (P:Program) (h:Heap),K.In h->h.DictOf (bB P w) d (kvs.map fun q=>((Sum.inr q.1:Key),Value.ref q.2)))/\kvs.map (·.1)=tbl.map (·.1)/\∀ y m,RL.mi tbl (.str y)=some m->∃ q nm,(kvs.find? fun q=>decide (q.1=y))=some q/\p.F[m]?=some (nm,[])/\mg nm=some (.ref q.2)
section
variable{p:PT'}{K:PySem.W.Frag}{mg:Str->Option Value}{base:Heap}{P:Program}{w:World}
abbrev jW(K:PySem.W.Frag)(cl:RL.Cl)(mp:List Nat)(f:Nat):Sp:=if mp=[]then spF K cl f else spM K cl mp f
def aQ{α:Type}(vs:List α)(k:Nat)(i:Nat)(v:α):(vs.map some++List.replicate k none)[i]?=some (some v)↔vs[i]?=some v:=by
 by_cases h:i<vs.length
 ·rw[List.getElem?_append_left (by simpa using h)];simp[h]
 ·rw[List.getElem?_append_right (by simpa using h)];constructor
  ·intro e;rw[List.getElem?_replicate]at e;split at e<;>cases e
  ·intro e;have:=(List.getElem?_eq_some_iff.mp e).1;lia
def pK{ds:List RL.D}{vs:List V}{H:Hp}{M:List Nat}{k n:Nat}(r:ag nP K H ds vs)(hM:∀ i,i<n->M.contains i=false)(hn:ds.length=n):RVm K M (ds.map some++List.replicate k none) (vs.map some++List.replicate k none) H:=by
 have nA:∀ a,¬ aX M (vs.map some++List.replicate k none) a:=fun a ⟨i,hi,e⟩=>by
  rw[aQ]at e;have:=(List.getElem?_eq_some_iff.mp e).1;rw[hM i (by rw[<-hn,r.length];exact this)]at hi;cases hi
 refine⟨by simp[r.length],fun i d e=>?_,fun i v e=>?_,fun i j a hi hj e1 e2=>(nA a ⟨i,hi,e1⟩).elim⟩
 ·rw[aQ]at e;obtain⟨v,h1,h2⟩:=r.get e;have hl:=(List.getElem?_eq_some_iff.mp e).1;refine⟨v,(aQ _ _ _ _).mpr h1,?_⟩;rw[if_neg (by rw[hM i (by lia)];decide)];exact h2.weak fun a ha=>nA a ha
 ·rw[aQ]at e;have hl:=(List.getElem?_eq_some_iff.mp e).1;exact⟨ds[i]'(by rw[r.length];exact hl),(aQ _ _ _ _).mpr (by simp)⟩
def xu{ds:List RL.D}{vs:List V}{H:Hp}{M mp:List Nat}{k n:Nat}(a:Ad K mp ds vs H)(hM:∀ i,i<n->M.contains i=true->i∈mp)(hp:∀ i∈mp,M.contains i=true)(hn:ds.length=n):RVm K M (ds.map some++List.replicate k none) (vs.map some++List.replicate k none) H:=by
 have r:=a.v7
 have inM:∀ i v,(vs.map some++List.replicate k none)[i]?=some (some v)->M.contains i=true->i∈mp/\vs[i]?=some v:=fun i v e hi=>by
  rw[aQ]at e;have:=(List.getElem?_eq_some_iff.mp e).1;exact⟨hM i (by rw[<-hn,r.length];exact this) hi,e⟩
 refine⟨by simp[r.length],fun i d e=>?_,fun i v e=>?_,fun i j b hi hj e1 e2=>?_⟩
 ·rw[aQ]at e;obtain⟨v,h1,h2⟩:=r.get e;have hl:=(List.getElem?_eq_some_iff.mp e).1;refine⟨v,(aQ _ _ _ _).mpr h1,?_⟩;by_cases hm:M.contains i=true
  ·rw[if_pos hm];obtain⟨d',b,g1,g2,g3⟩:=a.own i (hM i (by lia) hm);rw[e]at g1;cases g1;rw[h1]at g2;cases g2;exact g3
  ·rw[if_neg hm];refine(a.oth i d v (fun z=>hm (hp i z)) e h1).weak fun b ⟨j,hj,ej⟩=>?_;obtain⟨q1,q2⟩:=inM j _ ej hj;exact⟨j,q1,q2⟩
 ·rw[aQ]at e;have hl:=(List.getElem?_eq_some_iff.mp e).1;exact⟨ds[i]'(by rw[r.length];exact hl),(aQ _ _ _ _).mpr (by simp)⟩
 ·obtain⟨q1,q2⟩:=inM i _ e1 hi;obtain⟨q3,q4⟩:=inM j _ e2 hj;exact a.sep i q1 j q3 b q2 q4
def m7{σ:RL.St}:∀ {mp:List Nat} {outs:List RL.D},RL.fX σ mp=some outs->outs.length=mp.length/\∀ (k i:Nat) o,mp[k]?=some i->outs[k]?=some o->σ[i]?=some (some o)
 | [],outs,h=>by
  rw[RL.fX]at h;cases h;exact⟨rfl,fun k i o e=>by simp at e⟩
 | m::mp,outs,h=>by
  rw[RL.fX]at h;obtain⟨d,h1,h⟩:=bind_some h;obtain⟨os,h2,h3⟩:=map_some h;subst h3;obtain⟨g1,g2⟩:=m7 h2;refine⟨by simp[g1],fun k i o e1 e2=>?_⟩
  cases k with
  |zero=>
   simp at e1 e2;subst e1 e2;exact slot_get h1
  | succ k=>exact g2 k i o (by simpa using e1) (by simpa using e2)
def tJ{fn:RL.Fn}{d r:RL.D}{σ:RL.St}(h:RL.bU fn d σ=some r)(hm:fn.mp=[]):r=d:=by
 unfold RL.bU at h;rw[hm]at h;simpa using h.symm
def BN{fn:RL.Fn}{d r:RL.D}{σ:RL.St}(h:RL.bU fn d σ=some r)(hm:fn.mp≠[]):d.imm=true/\∃ outs,RL.fX σ fn.mp=some outs/\r=.tup (d::outs):=by
 unfold RL.bU at h;rw[if_neg (by simpa using hm)]at h;split at h
 ·rename_i im;obtain⟨os,h1,h2⟩:=map_some h;exact⟨im,os,h1,h2.symm⟩
 ·cases h
structure FnB(p:PT')(d:cX)(fn:RL.Fn):Prop where
 sc:cx d.N d.ps (aq d.st)
 ps:fn.ps=d.ps.length
 nn:fn.nn=d.N.length
 hM:∀ i,i<fn.ps->fn.M.contains i=true->i∈fn.mp
 mp:∀ i∈fn.mp,i<fn.ps/\2<=fn.M.count i
 body:bT (p.cc d) fn.M fn.body (aZ d.st)=true
 hb:d.h=true->bT { p.cc d with calm:=false } fn.M fn.body (aZ d.st)=true
def Bv{d:cX}{fn:RL.Fn}(hB:fnB p d fn=true):FnB p d fn:=by
 unfold fnB at hB;obtain⟨hB,b8⟩:=ae hB;obtain⟨hB,b7⟩:=ae hB;obtain⟨hB,b6⟩:=ae hB;obtain⟨hB,b5⟩:=ae hB;obtain⟨hB,b4⟩:=ae hB;obtain⟨hB,b3⟩:=ae hB;obtain⟨b1,b2⟩:=ae hB;rw[beq_iff_eq]at b2 b3;rw[List.all_eq_true]at b5 b6;refine⟨gF b1,b2,b3,fun i hi hm=>?_,fun i hi=>by simpa using b6 i hi,b7,fun hh=>by simpa[hh]using b8⟩;have:=b5 i (List.mem_range.mpr hi);rw[hm]at this;simpa using this
def rL{f:Nat}(h:p.hf.contains f=true):∃ d,p.Ds[f]?=some d/\d.h=true:=by
 unfold PT'.hf at h;rw[List.contains_iff_mem,List.mem_filter]at h;exact aj h.2
def sv{cl:RL.Cl}{f:Nat}{d:cX}{fn:RL.Fn}{vs:List V}{H:Hp}{Q:VK}{ds:List RL.D}{r:RL.D}{o:RL.Out}{σ':RL.St}(B:FnB p d fn)(hmp:fn.mp=[])(r1:ag nP K H ds vs)(hlen:ds.length=fn.ps)(e2:(match o with | .nx=>RL.bU fn .non σ' | .rt d=>RL.bU fn d σ')=some r)(e1:RL.aB cl fn.M fn.body (ds.map some++List.replicate (fn.nn-fn.ps) none)=some (o,σ'))
 (k:∀ v H',aA H H'->Rep (fun p=>H p≠none) K H' r v->Q v H'):tS K fn.M (RL.aB cl fn.M fn.body) { nx:=fun _ H'=>Q .non H',rt:=Q } (start d.N vs) H:=by
 have hst:start d.N vs=vs.map some++List.replicate (d.N.length-vs.length) none:=rfl
 have hvl:vs.length=fn.ps:=by rw[<-r1.length];exact hlen
 refine⟨_,o,σ',?_,e1,?_⟩
 ·rw[hst,hvl,<-B.nn]
  exact pK r1 (fun i hi=>by
   cases hc:fn.M.contains i with
   | false=>rfl
   |true=>
    have:=B.hM i hi hc;rw[hmp]at this
    cases this) hlen
 ·have noA:∀ a,¬ aX fn.M (start d.N vs) a:=fun a ⟨i,hi,ei⟩=>by
   rw[hst,aQ]at ei;have h3:=(List.getElem?_eq_some_iff.mp ei).1;have:=B.hM i (by lia) hi;rw[hmp]at this;cases this
  cases o with
  |nx=>
   have hr':=tJ (d:=.non) e2 hmp;subst hr';intro σ1 H1 rv1 fr1;refine k .non H1 (fun b u eb=>(fr1.1 b u eb (noA b)).1) (by rw[Rep])
  |rt d0=>
   have hr':=tJ (d:=d0) e2 hmp;subst hr';intro σ1 H1 v H' rv1 fr1 sm rp;refine k v H' (fun b u eb=>sm _ _ (fr1.1 b u eb (noA b)).1) (rp _ fun q hq=>?_);obtain⟨u,hu⟩:=Option.ne_none_iff_exists'.mp hq;have:=fr1.1 q u hu (noA q);exact⟨(by rw[this.1];exact fun z=>nomatch z),this.2⟩
def BQ{cl:RL.Cl}{d:cX}{fn:RL.Fn}{vs:List V}{H:Hp}{E:XK}{ds:List RL.D}{x:Str}{σ':RL.St}{D:Ends}(B:FnB p d fn)(hmp:fn.mp=[])(r1:ag nP K H ds vs)(hlen:ds.length=fn.ps)(e1:RL.bj cl fn.M fn.body (ds.map some++List.replicate (fn.nn-fn.ps) none)=some (x,σ'))
 (k:∀ C od H',CO K x C od H'->aA H H'->E (.ref C) od H'):tXS K fn.M (fun _=>E) (RL.bj cl fn.M fn.body) D (start d.N vs) H:=by
 have hst:start d.N vs=vs.map some++List.replicate (d.N.length-vs.length) none:=rfl
 have hvl:vs.length=fn.ps:=by rw[<-r1.length];exact hlen
 refine⟨_,x,σ',?_,e1,fun σ1 H1 C od hc rv1 fr1=>k C od H1 hc fun b u eb=>(fr1.1 b u eb fun⟨i,hi,ei⟩=>?_).1⟩
 ·rw[hst,hvl,<-B.nn]
  exact pK r1 (fun i hi=>by
   cases hc:fn.M.contains i with
   | false=>rfl
   |true=>
    have:=B.hM i hi hc;rw[hmp]at this
    cases this) hlen
 ·rw[hst,aQ]at ei;have h3:=(List.getElem?_eq_some_iff.mp ei).1;have:=B.hM i (by lia) hi;rw[hmp]at this;cases this
structure Bc(P:Program)(w:World)(K:PySem.W.Frag)(mg:Str->Option Value)(base:Heap)(p:PT')(n f:Nat)(d:cX)(fn:RL.Fn)(fa:Addr)(fd:FuncData):Prop where
 nor:aR P w K mg base CX0 (6*n+9) fa fd d.ps (jW K (RL.ax p.T n) fn.mp f)
 ref:fn.mp=[]->aR P w K mg base (CXE P w) (6*n+9) fa fd d.ps (spX K (RL.ax p.T n) f)
 sui:d.h=true->fn.mp=[]->jM P w K mg base (6*n+9) fa fd d.ps (spF K (RL.ax p.T n) f)
def fg(hok:p.ok=true)(tp:qD p w K mg):∀ (n f:Nat) (d:cX) (fn:RL.Fn),p.Ds[f]?=some d->p.T[f]?=some fn->∀ fa fd,Fun K d.name d.name d.st fa fd->Bc P w K mg base p n f d fn fa fd
 | 0,f,d,fn,hd,hf,fa,fd,F=>by
  have no:∀ vs H Q E,¬ jW K (RL.ax p.T 0) fn.mp f vs H Q E:=fun vs H Q E h=>by
   unfold jW at h;split at h
   ·obtain⟨ds,r,_,e,_⟩:=h;cases e
   ·obtain⟨ds,r,o,e,_⟩:=h;cases e
  have noF:∀ vs H Q E,¬ spF K (RL.ax p.T 0) f vs H Q E:=fun vs H Q E h=>by
   obtain⟨ds,r,_,e,_⟩:=h;cases e
  have noX:∀ vs H Q E,¬ spX K (RL.ax p.T 0) f vs H Q E:=fun vs H Q E h=>by
   obtain⟨ds,r,_,e,_⟩:=h;cases e
  exact⟨⟨fun vs H Q E h=>(no vs H Q E h).elim,fun A outer s H args us vs Q E _ _ _ _ h=>(no vs H Q E h).elim⟩,fun _=>⟨fun vs H Q E h=>(noX vs H Q E h).elim,fun A outer s H args us vs Q E _ _ _ _ h=>(noX vs H Q E h).elim⟩,fun _ _=>⟨fun vs H Q h=>(noF vs H Q E0 h).elim,fun A outer s H us vs Q _ _ _ _ _ h=>(noF vs H Q E0 h).elim⟩⟩
 | n+1,f,d,fn,hd,hf,fa,fd,F=>by
  have hok':=hok;unfold PT'.ok at hok';obtain⟨hok',hall⟩:=ae hok';obtain⟨hT,hl⟩:=ae hok';rw[beq_iff_eq]at hl;rw[decide_eq_true_eq]at hT;rw[List.all_eq_true]at hall
  have hz:(p.Ds.zip p.T)[f]?=some (d,fn):=by
   rw[List.getElem?_zip_eq_some];exact⟨hd,hf⟩
  have B:=Bv (hall (d,fn) (List.mem_of_getElem? hz))
  have unf:∀ ds r,RL.ax p.T (n+1) f ds=some r->ds.length=fn.ps/\∃ o σ',RL.aB (RL.ax p.T n) fn.M fn.body (ds.map some++List.replicate (fn.nn-fn.ps) none)=some (o,σ')/\(match o with | .nx=>RL.bU fn .non σ' | .rt d=>RL.bU fn d σ')=some r:=by
   intro ds r h;rw[RL.ax,hf]at h;dsimp only at h;split at h
   ·rename_i hlen;obtain⟨⟨o,σ'⟩,h1,h2⟩:=bind_some h;exact⟨hlen,o,σ',h1,h2⟩
   ·cases h
  have unx:∀ ds x,RL.clX (RL.ax p.T (n+1)) f ds=some x->ds.length=fn.ps/\fn.mp=[]/\∃ σ',RL.bj (RL.ax p.T n) fn.M fn.body (ds.map some++List.replicate (fn.nn-fn.ps) none)=some (x,σ'):=by
   intro ds x h;unfold RL.clX at h;obtain⟨r,h1,h2⟩:=bind_some h;have hT2:p.T[f+1000]?=none:=List.getElem?_eq_none_iff.mpr (by lia);rw[RL.ax,hT2]at h1;dsimp only at h1;rw[Nat.add_sub_cancel,hf]at h1;dsimp only[Option.bind_some]at h1;split at h1
   ·rename_i hlen;obtain⟨⟨y,σ'⟩,h3,h4⟩:=map_some h1;subst h4;cases h2;exact⟨hlen.1,hlen.2,σ',h3⟩
   ·cases h1
  have look:∀ {g:Nat} {x:Str} {mp:List Nat},p.F[g]?=some (x,mp)->∃ d' fn',p.Ds[g]?=some d'/\p.T[g]?=some fn'/\d'.name=x/\fn'.mp=mp:=fun {g x mp} hg=>by
   unfold PT'.F at hg;rw[List.getElem?_map]at hg;obtain⟨⟨d',fn'⟩,q1,q2⟩:=map_some hg;cases q2;rw[List.getElem?_zip_eq_some]at q1;exact⟨d',fn',q1.1,q1.2,rfl,rfl⟩
  have Y:∀ (CX:CXT) (E:XK) (cdv:Value) (A:Around) (outer:List Env) (s:Shared) (H:Hp),aT (6*n+14) (A.deeper (envOfC d.name (aq d.st) s.heap.objs.size fa cdv))->YOk (p.cc d) (cM CX P w K mg base d.N d.name (aq d.st) fa cdv A outer s H E).nox (RL.ax p.T n):=fun CX E cdv A outer s H hr=>{
   scope:=rfl
   names:=rfl
   nd:=B.sc.nd
   calm:=fun _=>rfl
   xe:=rfl
   hu:=by
    have:=hr.un;show(A.deeper _).units+100<cLine;lia
   blt:=tp.blt
   glb:=tp.glb
   gds:=fun x tbl hx=>let ⟨d,kvs,a,b,c⟩:=tp.gds x tbl hx;⟨d,kvs,a,⟨b.1,fun h q=>b.2 _ h q⟩,c⟩
   fns:=fun g x mp _ hg=>by
    obtain⟨d',fn',q1,q2,rfl,rfl⟩:=look hg;obtain⟨fa',fd',t1,t2,t3,t4⟩:=tp.defs g d' q1;exact⟨6*n+9,fa',fd',d'.ps,(fg hok tp n g d' fn' q1 q2 fa' fd' t2).nor,hr.mono (by lia),t1,t3,t4⟩
   hfn:=fun g x hh hg=>by
    obtain⟨d',fn',q1,q2,rfl,q3⟩:=look hg;obtain⟨d2,q4,q5⟩:=rL hh;rw[q1]at q4;cases q4;obtain⟨fa',fd',t1,t2,t3,t4⟩:=tp.defs g d' q1;exact⟨6*n+9,fa',fd',d'.ps,(fg hok tp n g d' fn' q1 q2 fa' fd' t2).sui q5 q3,(hr.mono (by lia)).h,t1,t3,t4⟩
   cls:=tp.cls
   cli:=fun c hc=>let ⟨D,R,fI,fd,st,qual,a1,a2,a3,a4,a5,a6,a7⟩:=tp.cli c hc;⟨D,R,fI,fd,a1,a2,a3,oZ a3 a4 a5 a6,fun _=>hr.mono (by lia),a7⟩
   mko:=fun c g hc _=>by
    obtain⟨d',q1,q2,mt⟩:=tp.mko c g hc;obtain⟨fn',q3,q4⟩:=map_some q2;obtain⟨fa',fd',t1,t2,t3,t4⟩:=tp.defs g d' q1;have pr:Bc P w K mg base p n g d' fn' fa' fd':=fg hok tp n g d' fn' q1 q3 fa' fd' t2;have nor:=pr.nor;rw[q4]at nor;have nor:aR P w K mg base CX0 (6*n+9) fa' fd' d'.ps (spF K (RL.ax p.T n) g):=nor;obtain⟨D,fI,fdI,m1,m2,m3,m4⟩:=mt.fn (k:=6*n+7) ⟨nor,pr.ref q4,t1,t3,t4⟩;exact⟨_,D,fI,fdI,m1,m2,hr.mono (by lia),m3,m4⟩
   ref:=tp.ref
   fn:=fun _=>rfl
   st:=⟨rfl,rfl,rfl⟩
   fnx:=fun g x _ hg=>by
    obtain⟨d',fn',q1,q2,rfl,q3⟩:=look hg;obtain⟨fa',fd',t1,t2,t3,t4⟩:=tp.defs g d' q1
    exact⟨6*n+9,fa',fd',d'.ps,(fg hok tp n g d' fn' q1 q2 fa' fd' t2).ref q3,hr.mono (by lia),t1,t3,t4⟩ }
  refine⟨?_,fun hmp=>?_,fun hh hmp=>?_⟩
  ·refine Fun.ok F B.sc (fun vs H Q E h=>?_) fun cdv A outer s H vs Q E hr h=>?_
   ·unfold jW at h;split at h
    ·obtain⟨ds,r,r1,e,_⟩:=h;rw[<-r1.length,(unf ds r e).1,B.ps]
    ·obtain⟨ds,r,o,e,a,_⟩:=h;rw[<-a.v7.length,(unf ds _ e).1,B.ps]
   ·refine⟨_,br fn.body (Y CX0 E cdv A outer s H hr) (M:=fn.M) _ B.body,?_⟩;have hst:start d.N vs=vs.map some++List.replicate (d.N.length-vs.length) none:=rfl;unfold jW at h;split at h
    ·rename_i hmp;obtain⟨ds,r,r1,e,k⟩:=h;obtain⟨hlen,o,σ',e1,e2⟩:=unf ds r e;exact sv (f:=f) B hmp r1 hlen e2 e1 k
    ·rename_i hmp;obtain⟨ds,r,outs,e,a,k⟩:=h;obtain⟨hlen,o,σ',e1,e2⟩:=unf ds _ e
     have hvl:vs.length=fn.ps:=by rw[<-a.v7.length];exact hlen
     refine⟨_,o,σ',?_,e1,?_⟩
     ·rw[hst,hvl,<-B.nn];exact xu a B.hM (fun i hi=>gj (B.mp i hi).2) hlen
     ·-- the lists behind it
      have fin:∀ (d0:RL.D) (σ1:L2.St) (H1 H':Hp) (v:V),RL.bU fn d0 σ'=some (.tup (r::outs))->RVm K fn.M σ' σ1 H1->Fr' fn.M (start d.N vs) H σ1 H1->aA H1 H'->(d0.imm=true->Rep nP K H' d0 v)->Q v H':=by
       intro d0 σ1 H1 H' v ht rv1 fr1 sm rp;obtain⟨im,os,g1,g2⟩:=BN ht hmp;cases g2;obtain⟨l1,l2⟩:=m7 g1;refine k v H' (fun b u nb eb=>sm _ _ (fr1.1 b u eb fun⟨i,hi,ei⟩=>?_).1) (rp im) im ⟨l1,fun kk pp oo hk ho=>?_⟩
       ·rw[hst,aQ]at ei;have h3:=(List.getElem?_eq_some_iff.mp ei).1;exact nb ⟨i,B.hM i (by lia) hi,ei⟩
       ·have hpm:=List.mem_of_getElem? hk;obtain⟨dp,ap,g3,g4,g5⟩:=a.own pp hpm;have g6:=fr1.2 pp (B.mp pp hpm).2
        have g7:(start d.N vs)[pp]?=some (some (.ref ap)):=by rw[hst,aQ];exact g4
        rw[g7]at g6;obtain⟨v',g8,g9⟩:=rv1.val pp oo (l2 kk pp oo hk ho);rw[g6]at g8;cases g8;rw[if_pos (gj (B.mp pp hpm).2)]at g9;exact⟨ap,g4,g9.same sm⟩
      cases o with
      |nx=>
       intro σ1 H1 rv1 fr1
       exact fin .non σ1 H1 H1 .non e2 rv1 fr1 (aA.refl _) fun _=>by rw[Rep]
      |rt d0=>
       intro σ1 H1 v H' rv1 fr1 sm rp;exact fin d0 σ1 H1 H' v e2 rv1 fr1 sm fun im=>rp nP fun _ z=>z.elim
  ·refine Fun.okX F B.sc (fun vs H Q E h=>?_) fun cdv A outer s H vs Q E hr h=>?_
   ·obtain⟨ds,x,r1,e,_⟩:=h;rw[<-r1.length,(unx ds x e).1,B.ps]
   ·have R:ROk (p.cc d) (cM (CXE P w) P w K mg base d.N d.name (aq d.st) fa cdv A outer s H E) (RL.ax p.T n) (fun _=>E):={
     y:=Y (CXE P w) E cdv A outer s H hr
     cal:=rfl
     pass:=fun pins σ H1 s1 e s' I z=>by
      obtain⟨x,C,od,H',rfl,hE,I',ex,_⟩:=I.refused rfl z;exact gU I' rfl rfl rfl ex hE I'.ok.frames
     made:=fun pins σ H1 s1 h' e C vs I m z=>by
      obtain⟨I',ex⟩:=I.newExc rfl m;exact gU I' rfl rfl rfl ex z I'.ok.frames
     BD:=fun pins σ H1 s1 C i e od H' s' I nx z=>by
      obtain⟨I',ex⟩:=I.newX rfl nx;exact gU I' rfl rfl rfl ex z I'.ok.frames
     own:=PassesOwn.leaving }
    obtain⟨ds,x,r1,e,k⟩:=h;obtain⟨hlen,_,σ',e1⟩:=unx ds x e;exact⟨_,dC fn.body R (M:=fn.M) _ B.body,BQ B hmp r1 hlen e1 k⟩
  ·refine Fun.okH F B.sc (fun vs H Q h=>?_) fun cdv A outer s H vs Q hr h=>?_
   ·obtain⟨ds,r,r1,e,_⟩:=h;rw[<-r1.length,(unf ds r e).1,B.ps]
   ·have Z:YOk { p.cc d with calm:=false } (cxH P w K mg base d.N d.name (aq d.st) fa cdv A outer s H) (RL.ax p.T n):={
     scope:=rfl
     names:=rfl
     nd:=B.sc.nd
     calm:=fun z=>(nomatch z)
     xe:=rfl
     hu:=by
      have:=hr.un;show(A.deeper _).units+100<cLine;lia
     blt:=tp.blt
     glb:=tp.glb
     gds:=fun x tbl hx=>let ⟨d,kvs,a,b,c⟩:=tp.gds x tbl hx;⟨d,kvs,a,⟨b.1,fun h q=>b.2 _ h q⟩,c⟩
     fns:=fun _ _ _ z=>(nomatch z)
     hfn:=fun g x hh hg=>by
      obtain⟨d',fn',q1,q2,rfl,q3⟩:=look hg;obtain⟨d2,q4,q5⟩:=rL hh;rw[q1]at q4;cases q4;obtain⟨fa',fd',t1,t2,t3,t4⟩:=tp.defs g d' q1;exact⟨6*n+9,fa',fd',d'.ps,(fg hok tp n g d' fn' q1 q2 fa' fd' t2).sui q5 q3,hr.mono (by lia),t1,t3,t4⟩
     cls:=tp.cls
     cli:=fun c hc=>let ⟨D,R,fI,fd,st,qual,a1,a2,a3,a4,a5,a6,a7⟩:=tp.cli c hc;⟨D,R,fI,fd,a1,a2,a3,oZ a3 a4 a5 a6,(fun z=>nomatch z),a7⟩
     mko:=fun _ _ _ z=>nomatch z
     ref:=tp.ref
     fn:=fun _=>rfl
     st:=⟨rfl,rfl,rfl⟩
     fnx:=fun _ _ z=>(nomatch z) }
    obtain⟨ds,r,r1,e,k⟩:=h;obtain⟨hlen,o,σ',e1,e2⟩:=unf ds r e;exact⟨_,br fn.body Z (M:=fn.M) _ (B.hb hh),sv (f:=f) B hmp r1 hlen e2 e1 k⟩
def A9(hok:p.ok=true)(tp:qD p w K mg):∀ (n f:Nat) (d:cX) (fn:RL.Fn),p.Ds[f]?=some d->p.T[f]?=some fn->∀ fa fd,Fun K d.name d.name d.st fa fd->aR P w K mg base CX0 (6*n+9) fa fd d.ps (jW K (RL.ax p.T n) fn.mp f):=fun n f d fn a b fa fd F=>(fg hok tp n f d fn a b fa fd F).nor
end
abbrev spL(n:Nat)(p:PT')(f:Nat)(K:PySem.W.Frag):Sp:=spF K (RL.ax p.T n) f
def B5{n:Nat}{p:PT'}{f:Nat}{K:PySem.W.Frag}{H:Hp}{a:Addr}{ns:List Int}(hO:nY H)(hS:SqL K H a (ns.map V.int))(h:RL.ax p.T n f [.scr (ns.map RL.D.int)]=some (.bl true)):spL n p f K [.ref a] H (fun v _=>v=.bl true) fun _ _ _=>False:=by
 refine⟨_,_,?_,h,fun v H' _ r=>aW r⟩;refine ag.cons ?_ ag.nil;rw[Rep];refine⟨a,ns.map V.int,rfl,?_,?_⟩
 ·rcases hS with(z | ⟨o,z⟩) | z
  ·rcases hO a with q | ⟨o,xs,q⟩
   ·rw[q]at z;cases z
   ·rw[q]at z;cases z
  ·exact .inl ⟨o,z⟩
  ·exact .inr (.inr z)
 ·clear hS h
  induction ns with
  | nil=>exact ag.nil
  | cons i r ih=>exact ag.cons aV ih
end RS
namespace K07
open PySem PySem.Spec PyProof.Rows L2
abbrev top(i:Nat):Stmt:=PySem.Challenge.pw_ribbonloft_k07_numbers_of_pegs_refused.main.body.getD i (.Pass ⟨0,0,0,0⟩)
abbrev mkD(x:Str)(i n:Nat)(N:List Str)(b:Bool:=false):RS.cX:=⟨x,top i,N.take n,N,b⟩
abbrev Ds:List RS.cX:=[
 mkD "is_number" 20 1 ["value"],
 mkD "is_peg_count" 21 1 ["value"],
 mkD "check_pegs" 22 1 ["pegs"],
 mkD "is_pairing" 24 1 ["row", "place"],
 mkD "names_back" 25 2 ["row", "place", "other"],
 mkD "is_uncrossed" 26 1 ["row", "waiting", "place", "other"],
 mkD "tie" 27 3 ["row", "one", "other"],
 mkD "is_frame" 32 1 ["frame", "pegs", "alone", "peg", "other"],
 mkD "check_frame" 33 1 ["frame"],
 mkD "pegs_of" 34 1 ["frame"],
 mkD "plain" 35 1 ["pegs"],
 mkD "from_brackets" 39 1 ["text", "row", "waiting", "place", "sign"],
 mkD "is_brackets" 40 1 ["text", "depth", "sign"],
 mkD "round_place" 41 2 ["pegs", "peg"],
 mkD "in_round" 42 1 ["frame", "pegs", "peg"],
 mkD "moved" 43 2 ["frame", "to", "ends", "peg", "other"],
 mkD "stacked" 45 2 ["pegs", "frames", "frame", "whole", "rings", "fallen"],
 mkD "hook" 49 2 ["pegs", "number"],
 mkD "made" 50 2 ["pegs", "row", "frame", "rings", "number"],
 mkD "is_hook" 53 2 ["pegs", "number"],
 mkD "check_row" 54 2 ["pegs", "row", "number"],
 mkD "how_many" 128 1 ["pegs"],
 mkD "numbered" 129 2 ["pegs", "number", "text", "depth", "ahead", "left", "opened"],
 mkD "every" 130 1 ["pegs", "number"],
 mkD "how_many_halves" 131 2 ["pegs", "going"],
 mkD "half_of" 132 3 ["pegs", "going", "number"],
 mkD "ways" 135 2 ["steps", "height", "downward"],
 mkD "choices" 136 2 ["many", "chosen", "found", "at"],
 mkD "check_number" 137 2 ["number", "many"],
 mkD "traded" 139 4 ["pegs", "rings", "row", "trade"],
 mkD "walked" 140 4 ["pegs", "rings", "row", "trades", "pair", "at", "trade"],
 mkD "bridge" 141 3 ["pegs", "one", "other", "there", "back", "trade", "opposite"],
 mkD "what_is_made" 142 2 ["pegs", "pair", "rings", "row", "frame", "fallen"],
 mkD "_law_kin" 159 1 ["_law_e", "_law_found", "_law_words", "_law_word_here", "_law_kin_here"] true,
 mkD "_law_mix" 160 1 ["_law_seed", "_law_one", "_law_two"],
 mkD "_law_raw" 161 2 ["_law_script", "_law_k", "_law_cell", "_law_found", "_law_turn"],
 mkD "_law_digits" 162 3 ["_law_script", "_law_k", "_law_sizes", "_law_rest", "_law_found", "_law_size"],
 mkD "_law_ask" 163 2 ["_law_door", "_law_pegs"],
 mkD "_law_ask_more" 164 2 ["_law_door", "_law_pegs"],
 mkD "_law_word" 165 2 ["_law_door", "_law_pegs", "_law_word_here", "_law_e"],
 mkD "law" 166 1 ["_law_script", "_law_good", "_law_k", "_law_pegs", "_law_door", "_law_way", "_law_far", "_law_word_here"]]
abbrev p:RS.PT':=⟨["ValueError", "all", "bool", "enumerate", "int", "isinstance", "len", "list", "range", "tuple", "zip"],[("MOST_PEGS",10),("MOST_PEGS_OF_EVERY",6)],Ds,T,["BadFrame", "BadHook", "BadPegs", "NoNumber", "RibbonError"],["BadFrame", "BadHalf", "BadHook", "BadName", "BadPage", "BadPegs", "BadTrade", "Full", "Hangs", "NoFrame", "NoNumber", "NoPlace", "NoStack", "NothingThere", "Taken"],[],[("Desk",2),("Loft",2)],[]⟩
def DC:p.ok=true:=by decide +kernel
def all1{P:List Value->Prop}(h:∀ a0,P [a0]):∀ us:List Value,us.length=1->P us
 | [a0],_=>h a0
def all2{P:List Value->Prop}(h:∀ a0 a1,P [a0,a1]):∀ us:List Value,us.length=2->P us
 | [a0,a1],_=>h a0 a1
def kC{P:List Value->Prop}(h:∀ a0 a1 a2,P [a0,a1,a2]):∀ us:List Value,us.length=3->P us
 | [a0,a1,a2],_=>h a0 a1 a2
def Dh{P:List Value->Prop}(h:∀ a0 a1 a2 a3,P [a0,a1,a2,a3]):∀ us:List Value,us.length=4->P us
 | [a0,a1,a2,a3],_=>h a0 a1 a2 a3
section
variable{K:PySem.W.Frag}{h:Heap}{mg:Str->Option Value}{x:Str}{st:Stmt}{f:Addr}{oc kV dc pm cd ct:Value}{od an:Option Addr}{sl:Array (Option Value)}{ps:List Str}
abbrev At(K:PySem.W.Frag)(mg:Str->Option Value)(x:Str)(st:Stmt)(ps:List Str):Prop:=∃ f fd,mg x=some (.ref f)/\Fun K x x st f fd/\PySem.W.keepIn K (.ref f)=true/\Binds K fd ps []
def AV(X:K.In h)(G:h.Ns mainGlobals mg)(a:PySem.W.nsIn K mainGlobals x=some (some (.ref f)))(l:K.lookup f=some ⟨oc,od,.func (PySem.W.fnOf x x (cU st) (aZ st) (aq st) .none kV dc pm an cd ct),sl⟩)(c:PySem.W.codeIn K cd x=true)(k:PySem.W.keepIn K (.ref f)=true)
 (b:∀ (kV doc pm:Value) (an:Option Addr) (cdv ct:Value) (us:List Value),us.length=ps.length->bindArgs (PySem.W.fnOf x x (cU st) (aZ st) (aq st) .none kV doc pm an cdv ct) ⟨us,[]⟩=pure (ps.zip us)):At K mg x st ps :=
 ⟨f,_,PySem.W.mg_of X G a,hZ (st:=st) l c k,k,(hZ (st:=st) l c k).binds b⟩
abbrev kq(K:PySem.W.Frag)(mg:Str->Option Value):List RS.cX->Prop
 | []=>True
 | d::r=>At K mg d.name d.st d.ps/\kq K mg r
def kq.get:∀ {l:List RS.cX} {f:Nat} {d:RS.cX},kq K mg l->l[f]?=some d->At K mg d.name d.st d.ps
 | [],_,_,_,e=>by cases e
 | _::_,0,_,h,e=>by cases e;exact h.1
 | _::_,f+1,_,h,e=>kq.get (f:=f) h.2 e
abbrev AllP(P:Str->Prop):List Str->Prop
 | []=>True
 | x::r=>P x/\AllP P r
def AllP.get{P:Str->Prop}:∀ {l:List Str},AllP P l->x∈l->P x
 | _::_,h,e=>(List.mem_cons.mp e).elim (fun z=>z▸h.1) fun z=>AllP.get h.2 z
abbrev ka(K:PySem.W.Frag):List (Str × Int)->Prop
 | []=>True
 | q::r=>(∃ t,PySem.W.nsIn K mainGlobals q.1=some (some (.int q.2 t)))/\ka K r
def ka.get{i:Int}:∀ {l:List (Str × Int)},ka K l->l.lookup x=some i->∃ t,PySem.W.nsIn K mainGlobals x=some (some (.int i t))
 | [],_,e=>by cases e
 | q::_,h,e=>by
  rw[List.lookup_cons]at e
  cases hb:x == q.1 with
  | true=>rw[hb]at e;cases e;rw[eq_of_beq hb];exact h.1
  | false=>rw[hb]at e;exact ka.get h.2 e
abbrev ky:Stmt:=match top 60 with
 | .ClassDef _ _ _ b ..=>b.getD 0 (.Pass ⟨0,0,0,0⟩)
 | s=>s
abbrev ki:Stmt:=match top 104 with
 | .ClassDef _ _ _ b ..=>b.getD 0 (.Pass ⟨0,0,0,0⟩)
 | s=>s
abbrev kc:Stmt:=match top 112 with
 | .ClassDef _ _ _ b ..=>b.getD 0 (.Pass ⟨0,0,0,0⟩)
 | s=>s
def zk:L2.qE "width" "tied" "piled" ky where
 body:=⟨_,_,_,_,_,_,_,_,_,_,_,_,rfl⟩
 sc:=RS.gF (by decide +kernel)
 v0:=by decide +kernel
 v1:=by decide +kernel
 v2:=by decide +kernel
 v3:=by decide +kernel
 d:=by decide +kernel
def An:L2.qO "check_pegs" "Holding" "now" "past" "future" ki where
 body:=⟨_,_,_,_,_,_,_,_,_,_,_,_,_,_,_,_,_,_,_,_,rfl⟩
 sc:=RS.gF (by decide +kernel)
 v0:=by decide +kernel
 v1:=by decide +kernel
 g1:=by decide +kernel
 g2:=by decide +kernel
 d:=by decide +kernel
def Bl:L2.qk "Loft" "own" kc where
 body:=⟨_,_,_,_,_,_,rfl⟩
 sc:=RS.gF (by decide +kernel)
 v0:=by decide +kernel
 v1:=by decide +kernel
 g1:=by decide +kernel
 d:=by decide +kernel
def tO{P:List Value->Prop}(h:∀ a0 a1,P [a0,a1]):∀ us:List Value,us.length=2->P us
 | [a0,a1],_=>h a0 a1
def Av{P:List Value->Prop}(h:∀ a0 a1 a2 a3,P [a0,a1,a2,a3]):∀ us:List Value,us.length=4->P us
 | [a0,a1,a2,a3],_=>h a0 a1 a2 a3
def CY(X:K.In h)(G:h.Ns mainGlobals mg){CH fH CL fL CD fD:Addr}{ocH ocL ocD kVH dcH pmH cdH ctH kVL dcL pmL cdL ctL kVD dcD pmD cdD ctD:Value}{odH odL odD anH anL anD:Option Addr}{slH slL slD:Array (Option Value)}(n1:PySem.W.nsIn K mainGlobals "Holding" = some (some (.ref CH)))(n2:PySem.W.nsIn K mainGlobals "Loft" = some (some (.ref CL)))(n3:PySem.W.nsIn K mainGlobals "Desk" = some (some (.ref CD)))(aH:L2.iO K CH fH)(aL:L2.iO K CL fL)(aD:L2.iO K CD fD)
 (h1:PySem.W.findIn K (.ref CH) "width" = some none)(h2:PySem.W.findIn K (.ref CH) "tied" = some none)(h3:PySem.W.findIn K (.ref CH) "piled" = some none)(l1:PySem.W.findIn K (.ref CL) "now" = some none)(l2:PySem.W.findIn K (.ref CL) "past" = some none)(l3:PySem.W.findIn K (.ref CL) "future" = some none)(d1:PySem.W.findIn K (.ref CD) "own" = some none)
 (fH1:K.lookup fH=some ⟨ocH,odH,.func (PySem.W.fnOf "__init__" "Holding.__init__" (cU ky) (aZ ky) (aq ky) .none kVH dcH pmH anH cdH ctH),slH⟩)(fH2:PySem.W.codeIn K cdH "Holding.__init__" = true)(fH3:PySem.W.keepIn K (.ref fH)=true)
 (fL1:K.lookup fL=some ⟨ocL,odL,.func (PySem.W.fnOf "__init__" "Loft.__init__" (cU ki) (aZ ki) (aq ki) .none kVL dcL pmL anL cdL ctL),slL⟩)(fL2:PySem.W.codeIn K cdL "Loft.__init__" = true)(fL3:PySem.W.keepIn K (.ref fL)=true)
 (fD1:K.lookup fD=some ⟨ocD,odD,.func (PySem.W.fnOf "__init__" "Desk.__init__" (cU kc) (aZ kc) (aq kc) .none kVD dcD pmD anD cdD ctD),slD⟩)(fD2:PySem.W.codeIn K cdD "Desk.__init__" = true)(fD3:PySem.W.keepIn K (.ref fD)=true) :
  L2.gN K mg "check_pegs" "Loft" /\ L2.gN K mg "check_pegs" "Desk" := by
 have FH:=hZ (st:=ky) fH1 fH2 fH3;have FL:=hZ (st:=ki) fL1 fL2 fL3;have FD:=hZ (st:=kc) fD1 fD2 fD3
 have L:L2.j0 K mg "check_pegs" "Loft" CL fL _:=⟨aL.m,aL.c,⟨"now", "past", "future",ki,_,l1,l2,l3,An,FL⟩,FL.binds fun _ _ _ _ _ _=>tO fun _ _=>rfl,PySem.W.mg_of X G n2,⟨CH,fH,_, "width", "tied", "piled",ky,_,aH.m,aH.c,h1,h2,h3,zk,FH,PySem.W.mg_of X G n1,FH.binds fun _ _ _ _ _ _=>Av fun _ _ _ _=>rfl⟩⟩
 exact⟨⟨CL,fL,_,.inl L⟩,⟨CD,fD,_,.inr ⟨aD.m,aD.c,⟨"Loft", "own",kc,_,CL,fL,_,d1,Bl,FD,L⟩,FD.binds fun _ _ _ _ _ _=>tO fun _ _=>rfl,PySem.W.mg_of X G n3⟩⟩⟩
structure Tp(w:World)(K:PySem.W.Frag)(mg:Str->Option Value):Prop where
 t1:kq K mg Ds
 t2:AllP (fun x=>PySem.W.nsIn K mainGlobals x=some none) p.B
 t3:ka K p.G
 t4:AllP (fun c=>∃ D,PySem.W.nsIn K mainGlobals c=some (some (.ref D))/\RS.fF K c D=true/\PySem.W.excIn K D RS.VE "ValueError.__new__" = true) p.Xr
 t5:AllP (fun c=>∃ D,PySem.W.nsIn K mainGlobals c=some (some (.ref D))) p.Xs
 t8:L2.gN K mg "check_pegs" "Loft" /\ L2.gN K mg "check_pegs" "Desk"
def zt{w:World}(X:K.In h)(G:h.Ns mainGlobals mg)(A:Tp w K mg):RS.qD p w K mg where
 gds:=fun x t e=>by cases e
 defs:=fun f d e=>A.t1.get e
 blt:=fun x hx=>PySem.W.mg_none_of X G (A.t2.get hx)
 glb:=fun x i hx=>let ⟨t,ht⟩:=A.t3.get hx;⟨_,PySem.W.mg_of X G ht,t,rfl⟩
 cls:=fun c hc=>let ⟨D,a,b,e⟩:=A.t4.get (by simpa using hc);⟨D,PySem.W.mg_of X G a,⟨a,b⟩,e⟩
 cli:=fun c hc=>by cases hc
 mko:=fun c f hc=>by
  have e:(c,f)=(("Desk",2):Str × Nat)\/(c,f)=(("Loft",2):Str × Nat):=by simpa[p]using hc
  rcases e with e | e
  ·cases e;exact⟨_,rfl,rfl,A.t8.2⟩
  ·cases e;exact⟨_,rfl,rfl,A.t8.1⟩
 ref:=fun c hc=>let ⟨D,a⟩:=A.t5.get (by simpa using hc);⟨D,PySem.W.mg_of X G a,a⟩
end
end K07
end
open PySem PySem.W PyProof.Rows
set_option maxRecDepth 100000 in
set_option maxHeartbeats 0 in
theorem PySem.Challenge.cw_ribbonloft_k07_numbers_of_pegs_refused_holds : PySem.Challenge.rw_ribbonloft_k07_numbers_of_pegs_refused.Holds := by
 refine hdTop ?_
 k_fill
 refine L2.vE (l:=PySem.Challenge.rw_ribbonloft_k07_numbers_of_pegs_refused) (n:=63) (k:=129) (x := "_law_script") (CX:=L2.CX0) (sp:=RS.spL 20 K07.p 40) rfl (by decide) rfl ⟨rfl,by decide,by decide⟩ (fun w h Y=>HK.in_of Y) ?F ?S ?C
 case F =>
  intro w mg fa h KX G hmg
  have T:K07.Tp w (L2.KOf KX) mg:=by
   dsimp only[L2.KOf];constructor
   ·dsimp only[K07.kq,K07.Ds,K07.mkD,List.take]
    iterate 41 (refine' ⟨K07.AV KX G ?a ?l ?c ?k ?b,?_⟩;(case a=>k_is);(case l=>k_is);(case c=>k_is);(case k=>k_is);(case b=>first | exact fun _ _ _ _ _ _=>K07.all1 fun _=>rfl | exact fun _ _ _ _ _ _=>K07.all2 fun _ _=>rfl | exact fun _ _ _ _ _ _=>K07.kC fun _ _ _=>rfl | exact fun _ _ _ _ _ _=>K07.Dh fun _ _ _ _=>rfl))
    exact True.intro
   ·dsimp only[K07.AllP,K07.p]
    iterate 11 (refine' ⟨?a,?_⟩;(case a=>k_is))
    exact True.intro
   ·dsimp only[K07.ka,K07.p]
    iterate 2 (refine⟨⟨_,by k_is⟩,?_⟩)
    exact True.intro
   ·dsimp only[K07.AllP,K07.p]
    iterate 5 (refine' ⟨⟨_,?n,RS.By ?c,?exc1⟩,?_⟩;(case n=>k_is);(case exc1=>k_exc);(case c=>constructor;(refine RS.xU ?_;k_exc);(iterate 9 k_is);kit_is;(iterate 16 (refine' RS.zq ?n ?k ?s ?e;(case n=>k_is);(case k=>kit_is);(case s=>k_is);(case e=>decide +kernel)))))
    exact True.intro
   ·dsimp only[K07.AllP,K07.p]
    iterate 15 (refine⟨⟨_,by k_is⟩,?_⟩)
    exact True.intro
   ·refine' K07.CY KX G ?n1 ?n2 ?n3 ?aH ?aL ?aD ?h1 ?h2 ?h3 ?l1 ?l2 ?l3 ?d1 ?fH1 ?fH2 ?fH3 ?fL1 ?fL2 ?fL3 ?fD1 ?fD2 ?fD3
    case n1=>k_is
    case n2=>k_is
    case n3=>k_is
    case aH=>refine' ⟨?u1aH,?u2aH,?u3aH,?u4aH,?u5aH,?u6aH,?u7aH,?u8aH⟩;(case u1aH=>k_is);(case u2aH=>k_is);(case u3aH=>k_is);(case u4aH=>k_is);(case u5aH=>k_is);(case u6aH=>k_is);(case u7aH=>k_is);(case u8aH=>k_is)
    case aL=>refine' ⟨?u1aL,?u2aL,?u3aL,?u4aL,?u5aL,?u6aL,?u7aL,?u8aL⟩;(case u1aL=>k_is);(case u2aL=>k_is);(case u3aL=>k_is);(case u4aL=>k_is);(case u5aL=>k_is);(case u6aL=>k_is);(case u7aL=>k_is);(case u8aL=>k_is)
    case aD=>refine' ⟨?u1aD,?u2aD,?u3aD,?u4aD,?u5aD,?u6aD,?u7aD,?u8aD⟩;(case u1aD=>k_is);(case u2aD=>k_is);(case u3aD=>k_is);(case u4aD=>k_is);(case u5aD=>k_is);(case u6aD=>k_is);(case u7aD=>k_is);(case u8aD=>k_is)
    case h1=>k_is
    case h2=>k_is
    case h3=>k_is
    case l1=>k_is
    case l2=>k_is
    case l3=>k_is
    case d1=>k_is
    case fH1=>k_is
    case fH2=>k_is
    case fH3=>k_is
    case fL1=>k_is
    case fL2=>k_is
    case fL3=>k_is
    case fD1=>k_is
    case fD2=>k_is
    case fD3=>k_is
  have tp:=K07.zt KX G T;obtain⟨fa',fd,h1,h2,h3,h4⟩:=tp.defs 40 _ rfl;have e0:=hmg.symm.trans h1;cases e0;refine⟨fd,fun s u=>?_,fun base kb nb=>RS.A9 K07.DC tp 20 40 _ _ rfl rfl _ _ h2⟩;obtain⟨oc,od,kV,doc,pm,an,cdv,ct,osl,e9,_,_⟩:=h2.ex;subst e9;exact .of_eq rfl
 case S=>exact fun K H a ns hl hO hS=>RS.B5 hO hS (K07.main ns hl)
 case C=>exact fun _ _ _ _ h=>h
