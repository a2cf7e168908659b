import PyProof.Rows.All
import OpenK.KLine
import Wide.FinOn
import PyProof.Rows.SortRuns
import KE.KSortAsk
import KE.KUnpack
import OpenK.KOwn
import KE.RegKIsAll
import KE.KItem
import KE.KDictOf
import PyProof.EqAt
import PyProof.EqKinds
import PyProof.TupleCall
import PySem.Str
import PyProof.FString5
import PyProof.NeKinds
import PyProof.CompMap
import PyProof.CompFree
import PyProof.EnumMake
import PyProof.Draws
import PyProof.ListRange
import PyProof.ConsumeWalk
import PyProof.Rows.SetFrom
import PyProof.SetRoads
import PyProof.ZipIter
import PyProof.Rows.SumAny
import PyProof.Rows.SortWalk
import PyProof.Rows.SeqMore2
import PyProof.Rows.SeqMore
import PyProof.StrWalks
import PyProof.SliceStr2
import PyProof.StrBlockI
import PyProof.StrOps2
import KE.KSortTup
import PyProof.PureInt
import PySem.SetOps
import PyProof.SetScanFacts
import KE.KDictSum
import PyProof.DictWalks
import PyProof.DictRoadsH
import PyProof.MeetsSeq3
import PyProof.MinMaxWalk
import PyProof.WalkInts
import PyProof.MeetsIn
import PyProof.Rows.TupDisplay
import PyProof.Rows.TupIter
import PyProof.CollectIter
import PyProof.WalksS
import PyProof.WalksMore
import PySem.Challenge.RW_ribbonloft_k52_whole_frames_tied_anew
set_option Elab.async false
set_option linter.all false
set_option maxRecDepth 100000
set_option maxHeartbeats 4000000
set_option autoImplicit true
set_option relaxedAutoImplicit true
set_option genSizeOf false
set_option genSizeOfSpec false
set_option genInjectivity false
namespace PySem.W.Fast
local macro_rules|`(universe $_)=>do let o:=[("env",[41]),("heap",[39,46,1243]),("sts",[49,71,86,101,116,131,146,161,176,191,206,221,236,284,368,450,501,586,661,701,741,1161]),("tree",[47,70,85,100,115,130,145,160,175,190,205,220,235,283,367,449,500,585,660,698,740,980,1065,1157,1242]),("view",[39])];let f:=fun n:Lean.Name=>`(theorem $(Lean.mkIdent (.mkSimple s!"tw{n.hash}")) :True:=trivial);let l:=(List.range 1244).map fun i=>(`hdTop).str s!"o_{i}";let r:=o.flatMap fun(s,k)=>k.map fun i=>(`hdTop).str s!"{s}_{i}";pure (Lean.mkNullNode (<-(l++r++[`PySem.Challenge.rw_ribbonloft_k52_whole_frames_tied_anew,`PySem.Challenge.pw_ribbonloft_k52_whole_frames_tied_anew]).mapM f).toArray)
universe a
end PySem.W.Fast
section
open PySem PySem.W PyProof.Rows
set_option maxHeartbeats 0 in
open_top hdTop for PySem.Challenge.rw_ribbonloft_k52_whole_frames_tied_anew
end
section
local macro_rules
|`(def $d $s:optDeclSig $v:declVal)=>`(theorem $d $(Lean.TSyntax.mk (Lean.mkNode ``Lean.Parser.Command.declSig #[s.raw[0],s.raw[1][0]])):declSig $v:declVal)
|`(abbrev $d $s:optDeclSig $v:declVal)=>`(noncomputable def $d $s:optDeclSig $v:declVal)
local macro_rules|`($i:num#$n)=>if n.raw.isNatLit?==some 0 then `(.var $i) else `(.cst (.int $i))
local macro_rules|`(%[$x,*|_])=>do pure (<-x.getElems.foldrM (fun x k=>`(.cons $x $k)) (<-`(.nil))).raw
set_option hygiene false
local macro_rules
|`(⋯)=>`(by lia)
|`(∅)=>`(by decide)
set_option hygiene true
local macro_rules|`(tactic|let $d:letDecl)=>do
 let r:=d.raw[0]
 if !r[0].isOfKind `«term#[_,]» then Lean.Macro.throwUnsupported
 let k s:=Lean.mkNode (`Lean.Parser.Tactic++s)
 let n x:=Lean.mkNullNode x
 let m p:=k `rcasesPatMed #[n #[p]]
 let rec go:Nat->Lean.Syntax->Lean.Syntax|0,x=>x|j+1,x=>if x.isIdent then k `rcasesPat.one #[x]else if x[1].getNumArgs==0 then k `rcasesPat.ignore #[x]else k `rcasesPat.tuple #[x,n (x[1].getArgs.map fun y=>if y.isAtom then y else k `rcasesPatLo #[m (go j y),n #[]]),x]
 let rec fl:Nat->Array Lean.Syntax->Array Lean.Syntax|0,x=>x|j+1,x=>if x.back!.isOfKind `«term#[_,]» then x.pop++fl j x.back![1].getSepArgs else x
 let s:=fl 9 r[0][1].getSepArgs
 let e:Lean.Term:=⟨r[4]⟩
 let t:Lean.Term:=⟨r[2][0][1]⟩
 let e<-if r[2].getNumArgs==0 then pure e else`(($e : $t))
 let z i:=Lean.mkIdent (.mkSimple s!"zz{i}")
 let mut xs:Array Lean.Term:=#[]
 let mut po:Array (Lean.TSyntax `tactic):=#[]
 let b:=e.raw.isIdent&&e.raw.getId.isAtomic
 if b then po:=po.push (<-`(tactic|clear zz))
 else if s.any (·.getId==`rfl)&&s.any fun x=>x.isIdent&&(e.raw.find? (·.getId==x.getId)).isSome then xs:=#[e]
 for p in s,i in [:99] do
  let c:=p.isOfKind `«term#[_,]»
  if c||p.getId==`rfl then
   xs:=xs.push (z i);po:=po.push (<-if c then`(tactic|let $(⟨p⟩):term:=$(z i))else`(tactic|subst $(z i):ident))
  else xs:=xs.push ⟨p⟩
 let mut q:=⟨k `obtain #[d,n #[m (go 9 r[0])],n r[2][0].getArgs,n #[r[3],n #[r[4]]]]⟩
 for i in [:s.size] do
  let f:=Lean.mkIdent (.mkSimple s!"x{s.size-1-i}_{i}")
  let w<-if b then`(tactic|(revert $(⟨e⟩):ident;refine fun zz=>$f zz fun $xs* => ?_;$[$po];*))else`(tactic|(refine $f $e fun $xs* => ?_;$[$po];*))
  q<-`(tactic|first|$w:tactic|$q:tactic)
 pure q
section
variable{P:Prop}{A B C D E F G H I J K L M N O Q R S T U:Sort _}
section
variable{z y x w v u t s:Prop}
def x0_1(h:z/\y)(k:z->y->P):P:=k h.1 h.2
def x0_2(h:z/\y/\x)(k:z->y->x->P):P:=x0_1 h.2<|k h.1
def x0_3(h:z/\y/\x/\w)(k:z->y->x->w->P):P:=x0_2 h.2<|k h.1
def x0_4(h:z/\y/\x/\w/\v)(k:z->y->x->w->v->P):P:=x0_3 h.2<|k h.1
def x0_5(h:z/\y/\x/\w/\v/\u)(k:z->y->x->w->v->u->P):P:=x0_4 h.2<|k h.1
def x0_7(h:z/\y/\x/\w/\v/\u/\t/\s)(k:z->y->x->w->v->u->t->s->P):P:=k h.1 h.2.1 h.2.2.1 h.2.2.2.1 h.2.2.2.2.1 h.2.2.2.2.2.1 h.2.2.2.2.2.2.1 h.2.2.2.2.2.2.2
end
section
variable{z y x w v:A->Prop}
def x1_0(h:∃ a,z a)(k:∀ a,z a->P):P:=h.elim k
def x1_1(h:∃ a,z a/\y a)(k:∀ a,z a->y a->P):P:=h.elim λx h=>x0_1 h<|k x
def x1_2(h:∃ a,z a/\y a/\x a)(k:∀ a,z a->y a->x a->P):P:=h.elim λx h=>x0_2 h<|k x
def x1_3(h:∃ a,z a/\y a/\x a/\w a)(k:∀ a,z a->y a->x a->w a->P):P:=h.elim λx h=>x0_3 h<|k x
def x1_4(h:∃ a,z a/\y a/\x a/\w a/\v a)(k:∀ a,z a->y a->x a->w a->v a->P):P:=h.elim λx h=>x0_4 h<|k x
end
section
variable{z y x w v u t:A->B->Prop}
def x2_0(h:∃ a b,z a b)(k:∀ a b,z a b->P):P:=h.elim λx h=>x1_0 h<|k x
def x2_1(h:∃ a b,z a b/\y a b)(k:∀ a b,z a b->y a b->P):P:=h.elim λx h=>x1_1 h<|k x
def x2_2(h:∃ a b,z a b/\y a b/\x a b)(k:∀ a b,z a b->y a b->x a b->P):P:=h.elim λx h=>x1_2 h<|k x
def x2_3(h:∃ a b,z a b/\y a b/\x a b/\w a b)(k:∀ a b,z a b->y a b->x a b->w a b->P):P:=h.elim λx h=>x1_3 h<|k x
def x2_4(h:∃ a b,z a b/\y a b/\x a b/\w a b/\v a b)(k:∀ a b,z a b->y a b->x a b->w a b->v a b->P):P:=h.elim λx h=>x1_4 h<|k x
def x2_5(h:∃ a b,z a b/\y a b/\x a b/\w a b/\v a b/\u a b)(k:∀ a b,z a b->y a b->x a b->w a b->v a b->u a b->P):P:=h.elim λa h=>h.elim λb h=>k a b h.1 h.2.1 h.2.2.1 h.2.2.2.1 h.2.2.2.2.1 h.2.2.2.2.2
def x2_6(h:∃ a b,z a b/\y a b/\x a b/\w a b/\v a b/\u a b/\t a b)(k:∀ a b,z a b->y a b->x a b->w a b->v a b->u a b->t a b->P):P:=h.elim λa h=>h.elim λb h=>k a b h.1 h.2.1 h.2.2.1 h.2.2.2.1 h.2.2.2.2.1 h.2.2.2.2.2.1 h.2.2.2.2.2.2
end
section
variable{z y x w v u t:A->B->C->Prop}
def x3_0(h:∃ a b c,z a b c)(k:∀ a b c,z a b c->P):P:=h.elim λx h=>x2_0 h<|k x
def x3_1(h:∃ a b c,z a b c/\y a b c)(k:∀ a b c,z a b c->y a b c->P):P:=h.elim λx h=>x2_1 h<|k x
def x3_2(h:∃ a b c,z a b c/\y a b c/\x a b c)(k:∀ a b c,z a b c->y a b c->x a b c->P):P:=h.elim λx h=>x2_2 h<|k x
def x3_3(h:∃ a b c,z a b c/\y a b c/\x a b c/\w a b c)(k:∀ a b c,z a b c->y a b c->x a b c->w a b c->P):P:=h.elim λx h=>x2_3 h<|k x
def x3_4(h:∃ a b c,z a b c/\y a b c/\x a b c/\w a b c/\v a b c)(k:∀ a b c,z a b c->y a b c->x a b c->w a b c->v a b c->P):P:=h.elim λx h=>x2_4 h<|k x
def x3_5(h:∃ a b c,z a b c/\y a b c/\x a b c/\w a b c/\v a b c/\u a b c)(k:∀ a b c,z a b c->y a b c->x a b c->w a b c->v a b c->u a b c->P):P:=h.elim λx h=>x2_5 h<|k x
def x3_6(h:∃ a b c,z a b c/\y a b c/\x a b c/\w a b c/\v a b c/\u a b c/\t a b c)(k:∀ a b c,z a b c->y a b c->x a b c->w a b c->v a b c->u a b c->t a b c->P):P:=h.elim λx h=>x2_6 h<|k x
end
section
variable{z y x w v u t s:A->B->C->D->Prop}
def x4_1(h:∃ a b c d,z a b c d/\y a b c d)(k:∀ a b c d,z a b c d->y a b c d->P):P:=h.elim λx h=>x3_1 h<|k x
def x4_2(h:∃ a b c d,z a b c d/\y a b c d/\x a b c d)(k:∀ a b c d,z a b c d->y a b c d->x a b c d->P):P:=h.elim λx h=>x3_2 h<|k x
def x4_3(h:∃ a b c d,z a b c d/\y a b c d/\x a b c d/\w a b c d)(k:∀ a b c d,z a b c d->y a b c d->x a b c d->w a b c d->P):P:=h.elim λx h=>x3_3 h<|k x
def x4_4(h:∃ a b c d,z a b c d/\y a b c d/\x a b c d/\w a b c d/\v a b c d)(k:∀ a b c d,z a b c d->y a b c d->x a b c d->w a b c d->v a b c d->P):P:=h.elim λx h=>x3_4 h<|k x
def x4_5(h:∃ a b c d,z a b c d/\y a b c d/\x a b c d/\w a b c d/\v a b c d/\u a b c d)(k:∀ a b c d,z a b c d->y a b c d->x a b c d->w a b c d->v a b c d->u a b c d->P):P:=h.elim λx h=>x3_5 h<|k x
def x4_7(h:∃ a b c d,z a b c d/\y a b c d/\x a b c d/\w a b c d/\v a b c d/\u a b c d/\t a b c d/\s a b c d)(k:∀ a b c d,z a b c d->y a b c d->x a b c d->w a b c d->v a b c d->u a b c d->t a b c d->s a b c d->P):P:=h.elim λa h=>h.elim λb h=>h.elim λc h=>h.elim λd h=>k a b c d h.1 h.2.1 h.2.2.1 h.2.2.2.1 h.2.2.2.2.1 h.2.2.2.2.2.1 h.2.2.2.2.2.2.1 h.2.2.2.2.2.2.2
end
section
variable{z y x w v u t s r q:A->B->C->D->E->Prop}
def x5_3(h:∃ a b c d e,z a b c d e/\y a b c d e/\x a b c d e/\w a b c d e)(k:∀ a b c d e,z a b c d e->y a b c d e->x a b c d e->w a b c d e->P):P:=h.elim λx h=>x4_3 h<|k x
def x5_4(h:∃ a b c d e,z a b c d e/\y a b c d e/\x a b c d e/\w a b c d e/\v a b c d e)(k:∀ a b c d e,z a b c d e->y a b c d e->x a b c d e->w a b c d e->v a b c d e->P):P:=h.elim λx h=>x4_4 h<|k x
def x5_5(h:∃ a b c d e,z a b c d e/\y a b c d e/\x a b c d e/\w a b c d e/\v a b c d e/\u a b c d e)(k:∀ a b c d e,z a b c d e->y a b c d e->x a b c d e->w a b c d e->v a b c d e->u a b c d e->P):P:=h.elim λx h=>x4_5 h<|k x
def x5_6(h:∃ a b c d e,z a b c d e/\y a b c d e/\x a b c d e/\w a b c d e/\v a b c d e/\u a b c d e/\t a b c d e)(k:∀ a b c d e,z a b c d e->y a b c d e->x a b c d e->w a b c d e->v a b c d e->u a b c d e->t a b c d e->P):P:=h.elim λa h=>h.elim λb h=>h.elim λc h=>h.elim λd h=>h.elim λe h=>k a b c d e h.1 h.2.1 h.2.2.1 h.2.2.2.1 h.2.2.2.2.1 h.2.2.2.2.2.1 h.2.2.2.2.2.2
def x5_9(h:∃ a b c d e,z a b c d e/\y a b c d e/\x a b c d e/\w a b c d e/\v a b c d e/\u a b c d e/\t a b c d e/\s a b c d e/\r a b c d e/\q a b c d e)(k:∀ a b c d e,z a b c d e->y a b c d e->x a b c d e->w a b c d e->v a b c d e->u a b c d e->t a b c d e->s a b c d e->r a b c d e->q a b c d e->P):P:=h.elim λa h=>h.elim λb h=>h.elim λc h=>h.elim λd h=>h.elim λe h=>k a b c d e h.1 h.2.1 h.2.2.1 h.2.2.2.1 h.2.2.2.2.1 h.2.2.2.2.2.1 h.2.2.2.2.2.2.1 h.2.2.2.2.2.2.2.1 h.2.2.2.2.2.2.2.2.1 h.2.2.2.2.2.2.2.2.2
end
section
variable{z y x w v u t:A->B->C->D->E->F->Prop}
def x6_5(h:∃ a b c d e f,z a b c d e f/\y a b c d e f/\x a b c d e f/\w a b c d e f/\v a b c d e f/\u a b c d e f)(k:∀ a b c d e f,z a b c d e f->y a b c d e f->x a b c d e f->w a b c d e f->v a b c d e f->u a b c d e f->P):P:=h.elim λx h=>x5_5 h<|k x
def x6_6(h:∃ a b c d e f,z a b c d e f/\y a b c d e f/\x a b c d e f/\w a b c d e f/\v a b c d e f/\u a b c d e f/\t a b c d e f)(k:∀ a b c d e f,z a b c d e f->y a b c d e f->x a b c d e f->w a b c d e f->v a b c d e f->u a b c d e f->t a b c d e f->P):P:=h.elim λx h=>x5_6 h<|k x
end
section
variable{z y x:A->B->C->D->E->F->G->Prop}
def x7_2(h:∃ a b c d e f g,z a b c d e f g/\y a b c d e f g/\x a b c d e f g)(k:∀ a b c d e f g,z a b c d e f g->y a b c d e f g->x a b c d e f g->P):P:=h.elim λa h=>h.elim λb h=>h.elim λc h=>h.elim λd h=>h.elim λe h=>h.elim λf h=>h.elim λg h=>k a b c d e f g h.1 h.2.1 h.2.2
end
section
variable{z y x w v u t:A->B->C->D->E->F->G->H->Prop}
def x8_1(h:∃ a b c d e f g i,z a b c d e f g i/\y a b c d e f g i)(k:∀ a b c d e f g i,z a b c d e f g i->y a b c d e f g i->P):P:=h.elim λa h=>h.elim λb h=>h.elim λc h=>h.elim λd h=>h.elim λe h=>h.elim λf h=>h.elim λg h=>h.elim λi h=>k a b c d e f g i h.1 h.2
def x8_2(h:∃ a b c d e f g i,z a b c d e f g i/\y a b c d e f g i/\x a b c d e f g i)(k:∀ a b c d e f g i,z a b c d e f g i->y a b c d e f g i->x a b c d e f g i->P):P:=h.elim λx h=>x7_2 h<|k x
def x8_3(h:∃ a b c d e f g i,z a b c d e f g i/\y a b c d e f g i/\x a b c d e f g i/\w a b c d e f g i)(k:∀ a b c d e f g i,z a b c d e f g i->y a b c d e f g i->x a b c d e f g i->w a b c d e f g i->P):P:=h.elim λa h=>h.elim λb h=>h.elim λc h=>h.elim λd h=>h.elim λe h=>h.elim λf h=>h.elim λg h=>h.elim λi h=>k a b c d e f g i h.1 h.2.1 h.2.2.1 h.2.2.2
def x8_4(h:∃ a b c d e f g i,z a b c d e f g i/\y a b c d e f g i/\x a b c d e f g i/\w a b c d e f g i/\v a b c d e f g i)(k:∀ a b c d e f g i,z a b c d e f g i->y a b c d e f g i->x a b c d e f g i->w a b c d e f g i->v a b c d e f g i->P):P:=h.elim λa h=>h.elim λb h=>h.elim λc h=>h.elim λd h=>h.elim λe h=>h.elim λf h=>h.elim λg h=>h.elim λi h=>k a b c d e f g i h.1 h.2.1 h.2.2.1 h.2.2.2.1 h.2.2.2.2
def x8_5(h:∃ a b c d e f g i,z a b c d e f g i/\y a b c d e f g i/\x a b c d e f g i/\w a b c d e f g i/\v a b c d e f g i/\u a b c d e f g i)(k:∀ a b c d e f g i,z a b c d e f g i->y a b c d e f g i->x a b c d e f g i->w a b c d e f g i->v a b c d e f g i->u a b c d e f g i->P):P:=h.elim λa h=>h.elim λb h=>h.elim λc h=>h.elim λd h=>h.elim λe h=>h.elim λf h=>h.elim λg h=>h.elim λi h=>k a b c d e f g i h.1 h.2.1 h.2.2.1 h.2.2.2.1 h.2.2.2.2.1 h.2.2.2.2.2
def x8_6(h:∃ a b c d e f g i,z a b c d e f g i/\y a b c d e f g i/\x a b c d e f g i/\w a b c d e f g i/\v a b c d e f g i/\u a b c d e f g i/\t a b c d e f g i)(k:∀ a b c d e f g i,z a b c d e f g i->y a b c d e f g i->x a b c d e f g i->w a b c d e f g i->v a b c d e f g i->u a b c d e f g i->t a b c d e f g i->P):P:=h.elim λa h=>h.elim λb h=>h.elim λc h=>h.elim λd h=>h.elim λe h=>h.elim λf h=>h.elim λg h=>h.elim λi h=>k a b c d e f g i h.1 h.2.1 h.2.2.1 h.2.2.2.1 h.2.2.2.2.1 h.2.2.2.2.2.1 h.2.2.2.2.2.2
end
section
variable{z y x w:A->B->C->D->E->F->G->H->I->J->Prop}
def x10_3(h:∃ a b c d e f g i j l,z a b c d e f g i j l/\y a b c d e f g i j l/\x a b c d e f g i j l/\w a b c d e f g i j l)(k:∀ a b c d e f g i j l,z a b c d e f g i j l->y a b c d e f g i j l->x a b c d e f g i j l->w a b c d e f g i j l->P):P:=h.elim λa h=>h.elim λb h=>h.elim λc h=>h.elim λd h=>h.elim λe h=>h.elim λf h=>h.elim λg h=>h.elim λi h=>h.elim λj h=>h.elim λl h=>k a b c d e f g i j l h.1 h.2.1 h.2.2.1 h.2.2.2
end
section
variable{z:A->B->C->D->E->F->G->H->I->J->K->L->Prop}
def x12_0(h:∃ a b c d e f g i j l m n,z a b c d e f g i j l m n)(k:∀ a b c d e f g i j l m n,z a b c d e f g i j l m n->P):P:=h.elim λa h=>h.elim λb h=>h.elim λc h=>h.elim λd h=>h.elim λe h=>h.elim λf h=>h.elim λg h=>h.elim λi h=>h.elim λj h=>h.elim λl h=>h.elim λm h=>h.elim λn h=>k a b c d e f g i j l m n h
end
section
variable{z:A->B->C->D->E->F->G->H->I->J->K->L->M->N->O->Q->R->S->T->U->Prop}
def x20_0(h:∃ a b c d e f g i j l m n o p q r s t u v,z a b c d e f g i j l m n o p q r s t u v)(k:∀ a b c d e f g i j l m n o p q r s t u v,z a b c d e f g i j l m n o p q r s t u v->P):P:=h.elim λa h=>h.elim λb h=>h.elim λc h=>h.elim λd h=>h.elim λe h=>h.elim λf h=>h.elim λg h=>h.elim λi h=>h.elim λj h=>h.elim λl h=>h.elim λm h=>h.elim λn h=>h.elim λo h=>h.elim λp h=>h.elim λq h=>h.elim λr h=>h.elim λs h=>h.elim λt h=>h.elim λu h=>h.elim λv h=>k a b c d e f g i j l m n o p q r s t u v h
end
end
set_option hygiene false
local macro_rules|`(())=>`(aa rfl)
set_option hygiene true
local macro_rules|`(#[$x,*])=>`(⟨$x,*⟩)
open Nat (add_comm le_of_eq le_of_lt min_self sub_zero zero_add zero_le)
open Bool (and_eq_true false_eq_true noConfusion not_eq_true or_eq_true)
open List (all_map any_cons append_nil cons_append drop_zero filterMap_cons find?_cons getElem_of_mem length_append length_cons length_drop length_map length_range length_set map_cons map_map map_nil mem_cons mem_filter mem_range mem_singleton nil_append not_mem_nil range' replicate reverse_cons size_toArray take_length zipWith zip_cons_cons)
open Option (isSome_map)
open Int (natCast_add)
open Array (length_toList)
abbrev J2:=@PySem.wpAny_bind
abbrev Qa:=@PySem.wpAny_pure
abbrev Qb:=@PySem.Heap.get?_push_of_some
abbrev Qc:=@Nat.le_refl
abbrev Qd:=@List.getElem?_set_ne
abbrev Qe:=@List.getElem?_set_self
abbrev Qf:=@PySem.Heap.get?_push_size
abbrev Qg:=@PySem.Heap.lt_size
abbrev Qh:=@decide_eq_false
abbrev Qi:=@Nat.lt_of_lt_of_le
abbrev Qj:=@Bool.false_ne_true
abbrev Qk:=@Nat.ne_of_lt
abbrev Ql:=@List.getElem?_append_left
abbrev Qm:=@List.mem_cons_of_mem
abbrev Qn:=@List.lookup_cons
abbrev Qo:=@List.getElem?_append_right
abbrev Qp:=@Nat.le_trans
abbrev Qq:=@List.mem_cons_self
abbrev Qr:=@List.mem_append_right
abbrev Qs:=@List.isEmpty_iff
abbrev Qt:=@List.mem_of_getElem?
abbrev Qu:=@List.nodup_iff_pairwise_ne
abbrev Qv:=@List.all_eq_true
abbrev Qw:=@List.filter_cons
abbrev Qx:=@List.pairwise_map
abbrev Qy:=@Array.getElem?_toList
abbrev Qz:=@List.all_cons
abbrev QA:=@Nat.lt_trans
abbrev QB:=@List.mem_of_mem_take
abbrev QC:=@List.mem_of_mem_drop
abbrev QD:=@List.append_assoc
abbrev QE:=@List.map_append
abbrev QF:=@List.pairwise_append
abbrev QG:=@Nat.add_sub_cancel_left
abbrev QH:=@Bool.eq_iff_iff
abbrev QI:=@List.map_congr_left
abbrev QJ:=@List.length_reverse
abbrev QK:=@Nat.lt_irrefl
abbrev QL:=@PySem.Heap.size_push
abbrev QM:=@List.getElem?_map
namespace TM
open PySem PySem.W PyProof.Rows
abbrev iter(f:γ->Option (Bool × γ)):Nat->γ->Option γ
 | 0,c=>some c
 | n+1,c=>match f c with
  | some (true,d)=>iter f n d
  | some (false,d)=>some d
  | none=>none
abbrev zs(sa:Nat)(l:List (Nat × Nat))(p:Array Nat):Array Nat:=l.foldl (λa q=>a.setIfInBounds (sa+q.2) q.1) p
end TM
namespace RL
open PySem
abbrev Fo(x:Str):Option Nat:=match x.cps.back? with
 | some n=>if 1114112<=n then some (n-1114112)else none
 | none=>none
abbrev baseOf(x:Str):Str:=if(Fo x).isSome then⟨x.cps.pop⟩else x
open PySem (Str)
@[reducible]noncomputable def Ky:=Sum Int Str
set_option genInjectivity true in
inductive D where
 | cb
 | bl (b:Bool)
 | int (i:Int)
 | str (x:Str)
 | tup (xs:List D)
 | lst (xs:List D)
 | dK (ks:List Ky) (vs:List D)
 | lq (xs:List D)
 | exc (c:Str)
 | fL (xs:List D)
 | obj
  | fK (ks:List Ky) (vs:List D)
 | hd (xs:List D)
 | b0 (d:D) (ps qs:List D)
 deriving Inhabited
mutual
noncomputable def D.ax:D->Bool
 | .tup xs=>ae xs
 | .lst _=>false
 | .dK _ _=>false
 | .lq xs=>ae xs
 | .fL xs=>ae xs
 | .fK _ vs=>ae vs
 | .hd xs=>ae xs
 | .b0 _ _ _=>false
 | _=>true
noncomputable def ae:List D->Bool
 | []=>true
 | d::r=>d.ax&&ae r
end
mutual
noncomputable def D.noF:D->Bool
 | .tup xs=>zU xs
 | .lst xs=>zU xs
 | .dK _ _=>false
 | .lq _=>false
 | .exc _=>false
 | .fL _=>false
 | .fK _ _=>false
 | .hd _=>false
 | .b0 _ _ _=>false
 | _=>true
noncomputable def zU:List D->Bool
 | []=>true
 | d::r=>d.noF&&zU r
end
inductive FR where | add | sub | mul | fdiv | mod | pow
 deriving DecidableEq
inductive mu where | lt | le | gt | ge | eq | ne
 deriving DecidableEq
inductive Bi where | len | list | tuple | all | sortedS
 deriving DecidableEq
inductive Ty where | int | bool | list | tuple | str
 deriving DecidableEq
inductive LK where
 | now
 | len (b:Bool)
 | lst (b:Bool)
 deriving DecidableEq
mutual
inductive E where
 | var (i:Nat)
 | cst (d:D)
 | lp (x:Str) (i:Int)
 | bin (o:FR) (a b:E)
 | cmp (c:mu) (a b:E)
 | chain (c c':mu) (a b e:E)
 | o4 (neg:Bool) (a b:E)
 | inD (neg:Bool) (a b:E)
 | and (a b:E)
 | or (a b:E)
 | not (a:E)
 | nk (t a b:E)
 | tup (es:Es)
 | lst (es:Es)
 | ix (a b:E)
 | su (a b:E)
 | mS (a b:E)
 | ry (a b:E)
 | rev (a:E)
 | call (f:Nat) (es:Es)
 | bi (b:Bi) (a:E)
 | ra (a:E) (t:Ty)
 | dd (a:E)
 | ez (a b:E)
 | hI (c:Int) (a b:E)
 | neg (a:E)
 | comp (e:E) (tg:List Nat) (it:It) (c:E)
 | cn (e:E) (tg:List Nat) (it:It)
 | wh (a b c:E)
 | cy (a:E)
 | D2 (a:E)
 | hC (k:Nat) (a:E)
 | lo (k:LK) (i:Nat)
 | zw (a b c:E)
 | sd (f:Nat) (a:E)
 | x6 (a:E)
 | met (m:Str) (f i:Nat) (es:Es)
inductive Es where
 | nil
 | cons (e:E) (es:Es)
inductive It where
 | seq (e:E)
 | dd (a:E)
 | ez (a b:E)
 | hI (c:Int) (a b:E)
 | chr (e:E)
 | tm (e:E)
end
mutual
inductive S where
 | asg (i:Nat) (e:E)
 | own (i:Nat) (e:E)
 | iw (is:List Nat) (e:E)
 | par (i j:Nat) (a b:E)
 | star (i j:Nat) (e:E)
 | app (i:Nat) (e:E)
 | put (i:Nat) (k e:E)
 | aug (i:Nat) (o:FR) (e:E)
 | mq (i:Nat) (e:E)
 | c7 (t:E) (a b:Ss)
 | D3 (i:Nat) (e:E) (a b:Ss)
 | ef (tg:List Nat) (it:It) (b:Ss)
 | ow (t:E) (b:Ss)
 | kv (f:Nat) (es:Es) (ps ms:List Nat)
 | tie3 (f r p w:Nat)
 | ret (e:E)
 | exc (e:E)
 | never
 | now (i:Nat) (e:E)
 | pf (b:Bool) (i:Nat) (e:E)
 | My (b:Bool) (i:Nat)
 | ppo (b:Bool) (i:Nat)
 | ifL (b:Bool) (i:Nat) (x y:Ss)
 | oD (m:Str) (f i:Nat) (es:Es)
 | zv (m:Str) (f i:Nat) (es:Es)
 | parC (i j:Nat) (a b:E)
inductive Ss where
 | nil
 | cons (s:S) (r:Ss)
 | act (i:Nat) (g:Str) (eH:List (Str × Nat)) (a:E) (es:Es)
 | lx (j:Nat) (e:E) (r:Sq)
 | tell (i f:Nat) (es:Es) (t:E) (a r:Ss)
inductive Sq where
 | cls (r:Ss)
 | cons (s:S) (r:Sq)
 | lx (j:Nat) (e:E) (r:Sq)
 | cy (j:Nat) (r:Ss)
 | fz (j:Nat) (r:Sq)
end
@[reducible]noncomputable def St:=List<|Option D
@[reducible]noncomputable def Cl:=Nat->List D->Option D
abbrev most:Nat:=100000
abbrev cR{α:Type}(xs:List α)(i:Int):Option α :=
 if 0<=i then xs[i.toNat]? else if -(xs.length:Int)<=i then xs[(i+xs.length).toNat]? else none
abbrev mH(n:Nat)(i:Int):Option Nat :=
 if 0<=i then(if i<n then some i.toNat else none)else if -(n:Int)<=i then some (i+n).toNat else none
abbrev cutAt(n:Nat)(i:Int):Nat:=if 0<=i then min i.toNat n else(i+n).toNat
abbrev aT:FR->D->D->Option D
 | .add,.int a,.int b=>some<|.int<|a+b
 | .add,.str a,.str b=>if a.length+b.length<=most then some (.str<|a++b)else none
 | .add,.lst a,.lst b=>if a.length+b.length<=most then some (.lst<|a++b)else none
 | .add,.tup a,.tup b=>if a.length+b.length<=most/\0<a.length then some (.tup<|a++b)else if a.length=0 then some (.tup b)else none
 | .sub,.int a,.int b=>some<|.int<|a-b
 | .mul,.int a,.int b=>if(-(2 ^ 64)<a/\a<2 ^ 64)\/(-(2 ^ 64)<b/\b<2 ^ 64)then some (.int<|a*b)else none
 | .mul,.lst a,.int b=>if 0<=b/\b<=most/\a.length*b.toNat<=most then some (.lst (replicate b.toNat a).flatten)else none
 | .fdiv,.int a,.int b=>if 0<b/\b<2 ^ 200 then some (.int<|a / b)else none
 | .mod,.int a,.int b=>if 0<b then some (.int<|a%b)else none
 | .pow,.int a,.int b=>if 0<=b/\b<=1000/\a.natAbs<2 ^ 64 then some (.int<|a ^ b.toNat)else none
 | _,_,_=>none
abbrev eqs(f:D->D->Option Bool):List D->List D->Option Bool
 | a::r,b::s=>(f a b).bind λe=>(eqs f r s).map λk=>e&&k
 | _,_=>some true
abbrev i1:Nat->D->D->Option Bool
 | _,.int a,.int b=>some<|a == b
 | _,.str a,.str b=>some<|a == b
 | _,.bl a,.bl b=>some<|a == b
 | n+1,.tup a,.tup b=>(eqs (i1 n) a b).map λk=>k&&a.length == b.length
 | n+1,.lst a,.lst b=>(eqs (i1 n) a b).map λk=>k&&a.length == b.length
 | n+1,.fL a,.fL b=>(eqs (i1 n) a b).map λk=>k&&a.length == b.length
 | n+1,.lst a,.fL b=>(eqs (i1 n) a b).map λk=>k&&a.length == b.length
 | n+1,.fL a,.lst b=>(eqs (i1 n) a b).map λk=>k&&a.length == b.length
 | _,_,_=>none
abbrev bW:mu->D->D->Option Bool
 | .lt,.int a,.int b=>some<|decide<|a<b
 | .le,.int a,.int b=>some<|decide<|a<=b
 | .gt,.int a,.int b=>some<|decide<|b<a
 | .ge,.int a,.int b=>some<|decide<|b<=a
 | .le,.str a,.str b=>some<|!decide (b.cps.toList<a.cps.toList)
 | .eq,a,b=>i1 8 a b
 | .ne,a,b=>(i1 8 a b).map not
 | _,_,_=>none
abbrev truth:D->Option Bool
 | .bl b=>some b
 | .lst xs=>some<|!xs.isEmpty
 | .tup xs=>some<|!xs.isEmpty
 | .int i=>some<|i != 0
 | _=>none
abbrev i6:List D->Option (List Bool)
 | []=>some []
 | .bl i::r=>(i6 r).map (i :: ·)
 | _=>none
abbrev strs?:List D->Option (List Str)
 | []=>some []
 | .str i::r=>(strs? r).map (i :: ·)
 | _=>none
abbrev items:D->Option (List D)
 | .lst xs=>some xs
 | .tup xs=>some xs
 | .fL xs=>some xs
 | _=>none
abbrev mh:D->Option (List D)
 | .fL xs=>some xs
 | .lst xs=>some xs
 | .tup xs=>some xs
 | _=>none
@[simp] theorem itemsS_lst:mh (.lst xs)=some xs:=rfl
@[simp] theorem itemsS_tup:mh (.tup xs)=some xs:=rfl
abbrev gA:D->Option (List D)
 | .lst xs=>some xs
 | .tup xs=>some xs
 | .str x=>some (x.cps.toList.map λc=>.str ⟨(List.toArray [c])⟩)
 | _=>none
abbrev rm:List Str->Bool
 | a::b::r=>!decide (b.cps.toList<a.cps.toList)&&rm (b::r)
 | _=>true
abbrev lz:Bi->D->Option D
 | .len,.str x=>if x.length<=most then some (.int x.length)else none
 | .len,.dK ks _=>some<|.int ks.length
 | .len,.fK ks _=>some<|.int ks.length
 | .len,d=>(items d).map λxs=>.int xs.length
 | .list,d=>(items d).map .lst
 | .tuple,d=>(items d).map .tup
 | .all,.lst xs=>(i6 xs).map λbs=>.bl<|bs.all id
 | .all,_=>none
 | .sortedS,.lst xs=>(strs? xs).bind λI=>if rm I&&decide (I.length<64)then some (.lst xs)else none
 | .sortedS,_=>none
abbrev zR:Ty->D->Option Bool
 | .int,.int _=>some true
 | .int,.bl _=>some true
 | .bool,.bl _=>some true
 | .list,.lst _=>some true
 | .list,.fL _=>some true
 | .tuple,.tup _=>some true
 | .str,.str _=>some true
 | _,.cb=>some false
 | _,.bl _=>some false
 | _,.int _=>some false
 | _,.str _=>some false
 | _,.tup _=>some false
 | _,.lst _=>some false
 | _,.fL _=>some false
 | _,_=>none
abbrev keyOf:D->Option Ky
 | .int i=>some<|.inl i
 | .str x=>some<|.inr x
 | _=>none
abbrev aV{κ:Type} [DecidableEq κ]:List κ->List D->κ->Option D
 | k::ks,v::vs,x=>if k=x then some v else aV ks vs x
 | _,_,_=>none
abbrev putD{κ:Type} [DecidableEq κ](ks:List κ)(vs:List D)(x:κ)(d:D):List κ × List D :=
 if x∈ks then(ks,zipWith (λk v=>if k=x then d else v) ks vs)else(ks++[x],vs++[d])
abbrev i0:D->D->Option D
 | .lst xs,.int i=>cR xs i
 | .tup xs,.int i=>cR xs i
 | .str x,.int i=>if x.length<=most then(cR x.cps.toList i).map λc=>.str ⟨(List.toArray [c])⟩else none
 | .fL xs,.int i=>if ae xs then cR xs i else none
 | _,_=>none
abbrev qZ:D->D->Option D
 | .dK ks vs,k=>(keyOf k).bind<|aV ks vs
 | .fK ks vs,k=>(keyOf k).bind<|aV ks vs
 | _,_=>none
abbrev m6:D->D->Option Bool
 | .dK ks vs,k=>(keyOf k).map λk=>(aV ks vs k).isSome
 | .fK ks vs,k=>(keyOf k).map λk=>(aV ks vs k).isSome
 | _,_=>none
abbrev flat:D->Bool
 | .int _=>true
 | .str _=>true
 | _=>false
abbrev tk:D->D->Bool
 | .int a,.int b=>a == b
 | .str a,.str b=>a == b
 | _,_=>false
abbrev z4(a b:D):Option Bool :=
 (items b).bind λxs=>if flat a&&xs.all flat then some (xs.any λx=>tk x a)else none
abbrev m9:D->D->Option D
 | .fL xs,.int k=>some<|.lst<|xs.take<|cutAt xs.length k
 | .lq xs,.int k=>some<|.lst<|xs.take<|cutAt xs.length k
 | .lst xs,.int k=>some<|.lst<|xs.take<|cutAt xs.length k
 | .tup xs,.int k=>some<|.tup<|xs.take<|cutAt xs.length k
 | _,_=>none
abbrev sf:D->D->Option D
 | .fL xs,.int k=>some<|.lst<|xs.drop<|cutAt xs.length k
 | .lst xs,.int k=>some<|.lst<|xs.drop<|cutAt xs.length k
 | .tup xs,.int k=>some<|.tup<|xs.drop<|cutAt xs.length k
 | _,_=>none
abbrev sk:D->D->D->Option D
 | .lst xs,.int i,.int k=>some<|.lst<|(xs.take<|cutAt xs.length k).drop<|cutAt xs.length i
 | .tup xs,.int i,.int k=>some<|.tup<|(xs.take<|cutAt xs.length k).drop<|cutAt xs.length i
 | _,_,_=>none
abbrev dS(lo:Int):Nat->List D
 | 0=>[]
 | n+1=>.int lo::dS (lo+1) n
abbrev cS(c lo:Int):Nat->List D
 | 0=>[]
 | n+1=>.int lo::cS c (lo+c) n
abbrev cB(c a b:Int):Nat:=(if c > 0 then(if a<b then(b-a-1) / c+1 else 0)else(if a > b then(a-b-1) / (-c)+1 else 0)).toNat
abbrev eu:D->D->Option (List D)
 | .int a,.int b=>if(b-a).toNat<=most/\-(2 ^ 60)<=a/\a<2 ^ 60/\-(2 ^ 60)<=b/\b<2 ^ 60 then some (dS a (b-a).toNat)else none
 | _,_=>none
abbrev mL(c:Int):D->D->Option (List D)
 | .int a,.int b=>if c≠0/\-(2 ^ 60)<c/\c<2 ^ 60/\cB c a b<=most/\-(2 ^ 60)<=a/\a<2 ^ 60/\-(2 ^ 60)<=b/\b<2 ^ 60 then some (cS c a<|cB c a b)else none
 | _,_=>none
abbrev fk(i:Int):List D->List D
 | []=>[]
 | d::r=>.tup [.int i,d]::fk (i+1) r
abbrev bA:List Nat->List D->St->Option St
 | [],[],J=>some J
 | i::is,d::ds,J=>bA is ds<|J.set i<|some d
 | _,_,_=>none
abbrev aZ(tg:List Nat)(d:D)(J:St):Option St :=
 match tg with
 | [i]=>some<|J.set i<|some d
 | tg=>match d with
  | .tup ds=>bA tg ds J
  | .lst ds=>bA tg ds J
  | _=>none
abbrev kP(y:Option D)(ys:List D):Option (List D) :=
 match y with
 | some e=>if e.ax then some (e::ys)else none
 | none=>some ys
abbrev bX(f:St->Option (Option D))(tg:List Nat)(J:St):List D->Option (List D)
 | []=>some []
 | d::r=>(aZ tg d J).bind λI=>(f I).bind λy=>(bX f tg J r).bind<|kP y
abbrev aG:D->Bool
 | .lst xs=>ae xs
 | .dK _ vs=>ae vs
 | .b0 d ps qs=>d.ax&&(ae ps&&ae qs)
 | _=>false
abbrev fits(xs:List D):Option (List D):=if xs.length<=most then some xs else none
abbrev aI:E->Bool
 | .lst _=>true
 | .tup _=>true
 | .comp _ _ _ _=>true
 | .cn _ _ _=>true
 | .bin _ _ _=>true
 | .mS _ _=>true
 | .ry _ _=>true
 | .wh _ _ _=>true
 | .rev _=>true
 | .call _ _=>true
 | .bi _ _=>true
 | .dd _=>true
 | .ez _ _=>true
 | .hI _ _ _=>true
 | .D2 _=>true
 | .lo (.lst _) _=>true
 | .sd _ _=>true
 | .x6 _=>true
 | .met _ _ _ _=>true
 | _=>false
abbrev Ax(n c:Str):Bool:=n == c || c == "RibbonError" || c == "ValueError"
abbrev zQ(y:Option D):D->Option D
 | .bl true=>y
 | .bl false=>some<|.bl false
 | _=>none
abbrev orV(y:Option D):D->Option D
 | .bl false=>y
 | .bl true=>some<|.bl true
 | _=>none
abbrev HR:D->Option D
 | .lst xs=>some<|.lst xs.reverse
 | .tup xs=>some<|.tup xs.reverse
 | _=>none
abbrev D6:D->Option D
 | .int i=>some<|.int<|-i
 | _=>none
abbrev kyD:Ky->D
 | .inl i=>.int i
 | .inr x=>.str x
abbrev EF:D->Option (List D)
 | .fK ks _=>some<|ks.map kyD
 | _=>none
abbrev Oo:D->Option D
 | .lst xs=>if ae xs then some (.fL xs)else none
 | _=>none
abbrev jt(eH:List (Str × Nat)):D->Option Nat
 | .str w=>(eH.find? λq=>decide<|q.1=w).map (·.2)
 | _=>none
abbrev tZ:D->Option (D × D)
 | .tup (d::r)=>if d.ax&&ae r then some (d,.fL r)else none
 | _=>none
abbrev vd:D->Option D
 | .dK ks vs=>some<|.fK ks vs
 | _=>none
abbrev cq(b:Bool)(ps qs:List D):List D:=if b then ps else qs
abbrev kB(b:Bool)(d:D)(ps qs xs:List D):D:=if b then .b0 d xs qs else .b0 d ps xs
abbrev jC:D->Option D
 | .b0 d ps qs=>some<|.b0 d ps qs
 | _=>none
abbrev loV:LK->D->Option D
 | .now,.b0 d _ _=>some d
 | .len b,.b0 _ ps qs=>some<|.int (cq b ps qs).length
 | .lst b,.b0 _ ps qs=>some<|.lst<|cq b ps qs
 | _,_=>none
abbrev qt(b:Bool):D->Option Bool
 | .b0 _ ps qs=>some (cq b ps qs).isEmpty
 | _=>none
abbrev CT(k:Nat):D->Option D
 | .hd xs=>xs[k]?
 | _=>none
abbrev zK(x:D):D:=.b0 (.hd [x,.fK [] [],.fK [] []]) [] []
abbrev DN:D->Option D
 | .fK ks vs=>some<|.dK ks vs
 | _=>none
abbrev IP(d:D):D->Option D
 | .b0 _ ps qs=>if d.ax then some (.b0 d ps qs)else none
 | _=>none
abbrev pfV(b:Bool)(x:D):D->Option D
 | .b0 d ps qs=>match x with
  | .lst xs=>if ae xs then some (kB b d ps qs xs)else none
  | _=>none
 | _=>none
abbrev J6(b:Bool):D->Option D
 | .b0 d ps qs=>if(cq b ps qs).length<most then some (kB b d ps qs<|cq b ps qs++[d])else none
 | _=>none
abbrev IU(b:Bool):D->Option D
 | .b0 _ ps qs=>((cq b ps qs)[(cq b ps qs).length-1]?).map λd=>kB b d ps qs (cq b ps qs).dropLast
 | _=>none
abbrev Dj:D->Option (List D)
 | .str x=>gA<|.str x
 | _=>none
@[simp] theorem sv_andt {y:Option D}:zQ y (.bl true)=y:=rfl
@[simp] theorem sv_andf {y:Option D}:zQ y (.bl false)=some (.bl false):=rfl
@[simp] theorem sv_ort {y:Option D}:orV y (.bl true)=some (.bl true):=rfl
@[simp] theorem sv_orf {y:Option D}:orV y (.bl false)=y:=rfl
@[simp] theorem sv_neg {i:Int}:D6 (.int i)=some (.int<|-i):=rfl
mutual
noncomputable def ev(cl:Cl)(J:St):E->Option D
 | .var i=>(J[i]?).bind id
 | .cst d=>some d
 | .lp _ i=>some<|.int i
 | .bin o a b=>(ev cl J a).bind λx=>(ev cl J b).bind λy=>aT o x y
 | .cmp c a b=>(ev cl J a).bind λx=>(ev cl J b).bind λy=>(bW c x y).map .bl
 | .chain c c' a b e=>(ev cl J a).bind λx=>(ev cl J b).bind λy=>(bW c x y).bind λk=>if k then(ev cl J e).bind λz=>(bW c' y z).map .bl else some (.bl false)
 | .o4 neg a b=>(ev cl J a).bind λx=>(ev cl J b).bind λy=>(z4 x y).map λk=>.bl (if neg then !k else k)
 | .inD neg a b=>(ev cl J a).bind λx=>(ev cl J b).bind λy=>(m6 y x).map λk=>.bl (if neg then !k else k)
 | .and a b=>(ev cl J a).bind<|zQ<|ev cl J b
 | .or a b=>(ev cl J a).bind<|orV<|ev cl J b
 | .not a=>((ev cl J a).bind truth).map λk=>.bl<|!k
 | .nk t a b=>((ev cl J t).bind truth).bind λk=>if k then ev cl J a else ev cl J b
 | .tup es=>(c0 cl J es).map .tup
 | .lst es=>(c0 cl J es).map .lst
 | .ix a b=>(ev cl J a).bind λx=>(ev cl J b).bind λy=>i0 x y
 | .su a b=>(ev cl J a).bind λx=>(ev cl J b).bind λy=>qZ x y
 | .mS a b=>(ev cl J a).bind λx=>(ev cl J b).bind λy=>m9 x y
 | .ry a b=>(ev cl J a).bind λx=>(ev cl J b).bind λy=>sf x y
 | .rev a=>(ev cl J a).bind HR
 | .call f es=>(c0 cl J es).bind λds=>cl f ds
 | .bi b a=>(ev cl J a).bind λx=>lz b x
 | .ra a t=>(ev cl J a).bind λx=>(zR t x).map .bl
 | .dd a=>(ev cl J a).bind λx=>(eu (.int 0) x).map .lst
 | .ez a b=>(ev cl J a).bind λx=>(ev cl J b).bind λy=>(eu x y).map .lst
 | .hI c a b=>(ev cl J a).bind λx=>(ev cl J b).bind λy=>(mL c x y).map .lst
 | .neg a=>(ev cl J a).bind D6
 | .comp e tg it c=>(cN cl J it).bind λds=>(fits ds).bind λds=>(bX (λI=>((ev cl I c).bind truth).bind λk=>if k then(ev cl I e).map some else some none) tg J ds).map .lst
 | .cn e tg it=>(cN cl J it).bind λds=>(fits ds).bind λds=>(bX (λI=>(ev cl I e).map some) tg J ds).map .lst
 | .wh a b c=>(ev cl J a).bind λx=>(ev cl J b).bind λy=>(ev cl J c).bind λz=>sk x y z
 | .cy a=>(ev cl J a).bind λx=>if aI a then Oo x else none
 | .D2 a=>((ev cl J a).bind EF).map .lst
 | .hC k a=>(ev cl J a).bind<|CT k
 | .lo k i=>((J[i]?).bind id).bind<|loV k
 | .zw a b c=>(ev cl J a).bind λx=>(ev cl J b).bind λy=>(ev cl J c).bind λz=>if ae [x,y,z]then some (.hd [x,y,z])else none
 | .sd f a=>(ev cl J a).bind λx=>(cl f [x]).bind λ_=>some<|zK x
 | .x6 a=>(ev cl J a).bind DN
 | .met _ f i es=>(((J[i]?).bind id).bind jC).bind λl=>(c0 cl J es).bind λds=>cl f<|l::ds
noncomputable def c0(cl:Cl)(J:St):Es->Option (List D)
 | .nil=>some []
 | .cons e es=>(ev cl J e).bind λd=>(c0 cl J es).map (d :: ·)
noncomputable def cN(cl:Cl)(J:St):It->Option (List D)
 | .seq e=>(ev cl J e).bind mh
 | .dd a=>(ev cl J a).bind λx=>eu (.int 0) x
 | .ez a b=>(ev cl J a).bind λx=>(ev cl J b).bind λy=>eu x y
 | .hI c a b=>(ev cl J a).bind λx=>(ev cl J b).bind λy=>mL c x y
 | .chr e=>(ev cl J e).bind Dj
 | .tm e=>(ev cl J e).bind λx=>(gA x).map<|fk 0
end
inductive Out where
 | nx
 | rt (d:D)
abbrev kd(M:List Nat):E->Bool
 | .var j=>!M.contains j
 | .ix a _=>kd M a
 | .su a _=>kd M a
 | .call _ _=>true
 | .met _ _ _ _=>true
 | .nk _ a b=>kd M a&&kd M b
 | _=>false
abbrev E6(M:List Nat):It->Bool
 | .seq e=>kd M e || aI e
 | .tm e=>kd M e || aI e
 | _=>true
abbrev bU(M:List Nat)(e:E)(d:D):Bool :=
 d.ax || (aG d&&(aI e || match e with | .var i=>M.contains i | _=>false))
abbrev aX(M:List Nat)(e:E)(d:D):Bool:=d.ax || (aG d&&aI e) || kd M e
abbrev isVar:E->Bool
 | .var _=>true
 | _=>false
abbrev bF(M ps:List Nat):Nat->Es->List D->Bool
 | _,.nil,[]=>true
 | q,.cons e es,d::ds=>(if ps.contains q then isVar e else aX M e d)&&bF M ps (q+1) es ds
 | _,_,_=>false
abbrev jG:D->D->D->Option D
 | .lst xs,.int k,d=>(mH xs.length k).map λj=>.lst<|xs.set j d
 | .dK ks vs,k,d=>(keyOf k).bind λk=>if ks.length<most then some (.dK (putD ks vs k d).1 (putD ks vs k d).2)else none
 | _,_,_=>none
abbrev bp(f:St->Option (Out × St))(tg:List Nat):List D->St->Option (Out × St)
 | [],J=>some (.nx,J)
 | d::r,J=>if d.ax then(aZ tg d J).bind λI=>(f I).bind λp=>match p.1 with
   | .nx=>bp f tg r p.2
   | .rt d=>some (.rt d,p.2)
  else none
abbrev vu(t:St->Option Bool)(f:St->Option (Out × St)):Nat->St->Option (Out × St)
 | 0,_=>none
 | n+1,J=>(t J).bind λk=>if k then(f J).bind λp=>match p.1 with
   | .nx=>vu t f n p.2
   | .rt d=>some (.rt d,p.2)
  else some (.nx,J)
abbrev C4:D->Option (D × D)
 | .lst xs=>(xs[xs.length-1]?).map λd=>(d,.lst xs.dropLast)
 | _=>none
abbrev Mq(J:St)(r w:Nat)(l:D):D->Option (Out × St)
 | .tup [_,R]=>some (.nx,(J.set w<|some l).set r<|some R)
 | _=>none
abbrev Fq:D->D->Option D
 | .str a,.str b=>if a.length+b.length<=most then some (.str<|a++b)else none
 | _,_=>none
abbrev back:Out × St->Option (Out × St)
 | (.nx,_)=>none
 | p=>some p
abbrev Oe(i:Nat):E:=.ra (.ix (.var i) 1#1) .list
abbrev told:D->Bool
 | .tup [_,.fL xs]=>decide<|xs.length<most
 | _=>false
mutual
noncomputable def kS(cl:Cl)(M:List Nat):S->St->Option (Out × St)
 | .asg i e,J=>(ev cl J e).bind λd=>if aX M e d then some (.nx,J.set i<|some d)else none
 | .own i e,J=>(ev cl J e).bind λd=>if aG d&&aI e then some (.nx,J.set i<|some d)else none
 | .iw is e,J=>(ev cl J e).bind λd=>(items d).bind λds=>if ae ds then(bA is ds J).map λI=>(.nx,I)else none
 | .par i j a b,J=>(ev cl J a).bind λx=>(ev cl J b).bind λy=>if x.ax&&y.ax then some (.nx,(J.set i<|some x).set j<|some y)else none
 | .star i j e,J=>((ev cl J e).bind tZ).map λq=>(.nx,(J.set i<|some q.1).set j<|some q.2)
 | .app i e,J=>(ev cl J e).bind λd=>((J[i]?).bind id).bind λl=>match l with
  | .lst xs=>if d.ax&&decide (xs.length<most)then some (.nx,J.set i<|some<|.lst<|xs++[d])else none
  | _=>none
 | .put i k e,J=>(ev cl J e).bind λd=>(ev cl J k).bind λU=>((J[i]?).bind id).bind λl=>if d.ax then(jG l U d).map λO=>(.nx,J.set i<|some O)else none
 | .aug i o e,J=>((J[i]?).bind id).bind λx=>(ev cl J e).bind λy=>match x,y with
  | .int a,.int b=>(aT o (.int a)<|.int b).map λz=>(.nx,J.set i<|some z)
  | _,_=>none
 | .mq i e,J=>((J[i]?).bind id).bind λx=>(ev cl J e).bind λy=>(Fq x y).map λz=>(.nx,J.set i<|some z)
 | .c7 t a b,J=>((ev cl J t).bind truth).bind λk=>if k then aq cl M a J else aq cl M b J
 | .D3 i e a b,J=>((J[i]?).bind id).bind λl=>match l with
  | .lst xs=>(xs[xs.length-1]?).bind λd=>(ev cl (J.set i<|some<|.lst xs.dropLast) e).bind λy=>match d,y with
   | .int p,.int q=>if decide (p=q)then aq cl M b (J.set i<|some<|.lst xs.dropLast)else aq cl M a (J.set i<|some<|.lst xs.dropLast)
   | _,_=>none
  | _=>none
 | .ef tg it b,J=>(cN cl J it).bind λds=>bp (aq cl M b) tg ds J
 | .ow t b,J=>vu (λJ=>(ev cl J t).bind truth) (aq cl M b) most J
 | .kv f es ps ms,J=>(c0 cl J es).bind λds=>if bF M ps 0 es ds then(cl f ds).bind λr=>match r with
  | .tup (_::outs)=>(bA ms outs J).map λI=>(.nx,I)
  | _=>none
  else none
 | .tie3 f r p w,J=>((J[r]?).bind id).bind λR=>((J[p]?).bind id).bind λx=>((J[w]?).bind id).bind λl=>(C4 l).bind λq=>if x.ax then(cl f [R,x,q.1]).bind (Mq J r w q.2)else none
 | .ret e,J=>(ev cl J e).bind λd=>if bU M e d then some (.rt d,J)else none
 | .exc e,J=>(ev cl J e).map λ_=>(.nx,J)
 | .never,_=>none
 | .now i e,J=>(ev cl J e).bind λd=>((J[i]?).bind id).bind λl=>(IP d l).map λq=>(.nx,J.set i<|some q)
 | .pf b i e,J=>(ev cl J e).bind λx=>((J[i]?).bind id).bind λl=>if aI e then(pfV b x l).map λq=>(.nx,J.set i<|some q)else none
 | .My b i,J=>((J[i]?).bind id).bind λl=>(J6 b l).map λq=>(.nx,J.set i<|some q)
 | .ppo b i,J=>((J[i]?).bind id).bind λl=>(IU b l).map λq=>(.nx,J.set i<|some q)
 | .ifL b i x y,J=>(((J[i]?).bind id).bind<|qt b).bind λk=>if k then aq cl M x J else aq cl M y J
 | .oD _ f i es,J=>(((J[i]?).bind id).bind jC).bind λ_=>(c0 cl J<|.cons (.var i) es).bind λds=>if bF M [0] 0 (.cons (.var i) es) ds then(cl f ds).bind λr=>match r with
  | .tup (_::outs)=>(bA [i] outs J).map λI=>(.nx,I)
  | _=>none
  else none
 | .parC i j a b,J=>(ev cl J a).bind λx=>(ev cl J b).bind λy=>if(aG x&&aI a)&&(aG y&&aI b)then some (.nx,(J.set i<|some x).set j<|some y)else none
 | .zv _ f i es,J=>(((J[i]?).bind id).bind jC).bind λ_=>(c0 cl J<|.cons (.var i) es).bind λds=>if bF M [0] 0 (.cons (.var i) es) ds then(cl f ds).bind λr=>match r with
  | .tup (d::outs)=>(bA [i] outs J).map λI=>(.rt d,I)
  | _=>none
  else none
noncomputable def aq(cl:Cl)(M:List Nat):Ss->St->Option (Out × St)
 | .nil,J=>some (.nx,J)
 | .cons s r,J=>(kS cl M s J).bind λp=>match p.1 with
  | .nx=>aq cl M r p.2
  | .rt d=>some (.rt d,p.2)
 | .lx j e r,J=>(ev cl J e).bind λd=>if aG d&&aI e then kY cl M (j::M) r (J.set j<|some d)else none
 | .tell i f es t a r,J=>(c0 cl J es).bind λds=>if zU ds then(cl f ds).bind λd=>if d.ax then((ev cl (J.set i<|some d) t).bind truth).bind λk=>if k then(aq cl M a<|J.set i<|some d).bind back else((ev cl (J.set i<|some d)<|Oe i).bind truth).bind λk=>if k then(if told d then aq cl M r (J.set i<|some .obj)else none)else aq cl M r (J.set i<|some d)
  else none else none
 | .act i _ eH a es,J=>((ev cl J a).bind<|jt eH).bind λf=>(c0 cl (J.set i none) es).bind λds=>(cl f ds).bind λd=>if d.ax then some (.rt d,J)else none
noncomputable def kY(cl:Cl)(M:List Nat):List Nat->Sq->St->Option (Out × St)
 | _,.cls r,J=>aq cl M r J
 | M1,.cons s r,J=>(kS cl M1 s J).bind λp=>match p.1 with
  | .nx=>kY cl M M1 r p.2
  | .rt _=>none
 | M1,.lx j e r,J=>(ev cl J e).bind λd=>if aG d&&aI e then kY cl M (j::M1) r (J.set j<|some d)else none
 | _,.cy j r,J=>(((J[j]?).bind id).bind vd).bind λd=>aq cl M r<|J.set j<|some d
 | M1,.fz j r,J=>(((J[j]?).bind id).bind vd).bind λd=>kY cl M M1.tail r<|J.set j<|some d
end
def cX:ev cl J (.var i)=((J[i]?).bind id):=rfl
def j7:ev cl J (.cst d)=(some d):=rfl
def F7:ev cl J (.lp y1 i)=(some<|.int i):=rfl
def j2:ev cl J (.bin o a b)=((ev cl J a).bind λx=>(ev cl J b).bind λy=>aT o x y):=rfl
def mU:ev cl J (.cmp c a b)=((ev cl J a).bind λx=>(ev cl J b).bind λy=>(bW c x y).map .bl):=rfl
def rY:ev cl J (.chain c c' a b e)=((ev cl J a).bind λx=>(ev cl J b).bind λy=>(bW c x y).bind λk=>if k then(ev cl J e).bind λz=>(bW c' y z).map .bl else some (.bl false)):=rfl
def NI:ev cl J (.o4 neg a b)=((ev cl J a).bind λx=>(ev cl J b).bind λy=>(z4 x y).map λk=>.bl (if neg then !k else k)):=rfl
def Mn:ev cl J (.inD neg a b)=((ev cl J a).bind λx=>(ev cl J b).bind λy=>(m6 y x).map λk=>.bl (if neg then !k else k)):=rfl
def qC:ev cl J (.and a b)=((ev cl J a).bind<|zQ<|ev cl J b):=rfl
def Ad:ev cl J (.or a b)=((ev cl J a).bind<|orV<|ev cl J b):=rfl
def ug:ev cl J (.not a)=(((ev cl J a).bind truth).map λk=>.bl<|!k):=rfl
def zj:ev cl J (.nk t a b)=(((ev cl J t).bind truth).bind λk=>if k then ev cl J a else ev cl J b):=rfl
def NG:ev cl J (.tup es)=((c0 cl J es).map .tup):=rfl
def zN:ev cl J (.lst es)=((c0 cl J es).map .lst):=rfl
def Kj:ev cl J (.ix a b)=((ev cl J a).bind λx=>(ev cl J b).bind λy=>i0 x y):=rfl
def Ni:ev cl J (.su a b)=((ev cl J a).bind λx=>(ev cl J b).bind λy=>qZ x y):=rfl
def MF:ev cl J (.mS a b)=((ev cl J a).bind λx=>(ev cl J b).bind λy=>m9 x y):=rfl
def MK:ev cl J (.ry a b)=((ev cl J a).bind λx=>(ev cl J b).bind λy=>sf x y):=rfl
def Fc:ev cl J (.rev a)=((ev cl J a).bind HR):=rfl
def fC:ev cl J (.call f es)=((c0 cl J es).bind λds=>cl f ds):=rfl
def zb:ev cl J (.bi b a)=((ev cl J a).bind λx=>lz b x):=rfl
def Mp:ev cl J (.ra a t)=((ev cl J a).bind λx=>(zR t x).map .bl):=rfl
def uN:ev cl J (.dd a)=((ev cl J a).bind λx=>(eu (.int 0) x).map .lst):=rfl
def wq:ev cl J (.ez a b)=((ev cl J a).bind λx=>(ev cl J b).bind λy=>(eu x y).map .lst):=rfl
def MV:ev cl J (.neg a)=((ev cl J a).bind D6):=rfl
def A2:ev cl J (.comp e tg it c)=((cN cl J it).bind λds=>(fits ds).bind λds=>(bX (λI=>((ev cl I c).bind truth).bind λk=>if k then(ev cl I e).map some else some none) tg J ds).map .lst):=rfl
def ye:ev cl J (.cn e tg it)=((cN cl J it).bind λds=>(fits ds).bind λds=>(bX (λI=>(ev cl I e).map some) tg J ds).map .lst):=rfl
def M7:ev cl J (.wh a b c)=((ev cl J a).bind λx=>(ev cl J b).bind λy=>(ev cl J c).bind λz=>sk x y z):=rfl
def MW:ev cl J (.hC k a)=((ev cl J a).bind<|CT k):=rfl
def Ov:ev cl J (.lo k i)=(((J[i]?).bind id).bind<|loV k):=rfl
def Nb:ev cl J (.zw a b c)=((ev cl J a).bind λx=>(ev cl J b).bind λy=>(ev cl J c).bind λz=>if ae [x,y,z]then some (.hd [x,y,z])else none):=rfl
def MN:ev cl J (.sd f a)=((ev cl J a).bind λx=>(cl f [x]).bind λ_=>some<|zK x):=rfl
def MT:ev cl J (.x6 a)=((ev cl J a).bind DN):=rfl
def MO:ev cl J (.met m f i es)=((((J[i]?).bind id).bind jC).bind λl=>(c0 cl J es).bind λds=>cl f<|l::ds):=rfl
def qB:kS cl M (.asg i e) J=((ev cl J e).bind λd=>if aX M e d then some (.nx,J.set i<|some d)else none):=rfl
def zM:kS cl M (.own i e) J=((ev cl J e).bind λd=>if aG d&&aI e then some (.nx,J.set i<|some d)else none):=rfl
def Nq:kS cl M (.iw is e) J=((ev cl J e).bind λd=>(items d).bind λds=>if ae ds then(bA is ds J).map λI=>(.nx,I)else none):=rfl
def MQ:kS cl M (.par i j a b) J=((ev cl J a).bind λx=>(ev cl J b).bind λy=>if x.ax&&y.ax then some (.nx,(J.set i<|some x).set j<|some y)else none):=rfl
def F6:kS cl M (.app i e) J=((ev cl J e).bind λd=>((J[i]?).bind id).bind λl=>match l with
  | .lst xs=>if d.ax&&decide (xs.length<most)then some (.nx,J.set i<|some<|.lst<|xs++[d])else none
  | _=>none):=rfl
def uh:kS cl M (.put i k e) J=((ev cl J e).bind λd=>(ev cl J k).bind λO=>((J[i]?).bind id).bind λl=>if d.ax then(jG l O d).map λI=>(.nx,J.set i<|some I)else none):=rfl
def Ny:kS cl M (.aug i o e) J=(((J[i]?).bind id).bind λx=>(ev cl J e).bind λy=>match x,y with
  | .int a,.int b=>(aT o (.int a)<|.int b).map λz=>(.nx,J.set i<|some z)
  | _,_=>none):=rfl
def Lw:kS cl M (.mq i e) J=(((J[i]?).bind id).bind λx=>(ev cl J e).bind λy=>(Fq x y).map λz=>(.nx,J.set i<|some z)):=rfl
def kA:kS cl M (.c7 t a b) J=(((ev cl J t).bind truth).bind λk=>if k then aq cl M a J else aq cl M b J):=rfl
def MM:kS cl M (.D3 i e a b) J=(((J[i]?).bind id).bind λl=>match l with
  | .lst xs=>(xs[xs.length-1]?).bind λd=>(ev cl (J.set i<|some<|.lst xs.dropLast) e).bind λy=>match d,y with
   | .int p,.int q=>if decide (p=q)then aq cl M b (J.set i<|some<|.lst xs.dropLast)else aq cl M a (J.set i<|some<|.lst xs.dropLast)
   | _,_=>none
  | _=>none):=rfl
def qM:kS cl M (.ef tg it b) J=((cN cl J it).bind λds=>bp (aq cl M b) tg ds J):=rfl
def Ll:kS cl M (.ow t b) J=(vu (λJ=>(ev cl J t).bind truth) (aq cl M b) most J):=rfl
def Kc:kS cl M (.kv f es ps ms) J=((c0 cl J es).bind λds=>if bF M ps 0 es ds then(cl f ds).bind λr=>match r with
  | .tup (_::outs)=>(bA ms outs J).map λI=>(.nx,I)
  | _=>none
  else none):=rfl
def hJ:kS cl M (.ret e) J=((ev cl J e).bind λd=>if bU M e d then some (.rt d,J)else none):=rfl
def Af:kS cl M (.exc e) J=((ev cl J e).map λ_=>(.nx,J)):=rfl
def NS:aT .add (.lst a) (.lst b)=(if a.length+b.length<=most then some (.lst<|a++b)else none):=rfl
def Oa:aT .add (.tup a) (.tup b)=(if a.length+b.length<=most/\0<a.length then some (.tup<|a++b)else if a.length=0 then some (.tup b)else none):=rfl
def DS:aT .sub (.int a) (.int b)=(some<|.int<|a-b):=rfl
def Er:aT .mul (.int a) (.int b)=(if(-(2 ^ 64)<a/\a<2 ^ 64)\/(-(2 ^ 64)<b/\b<2 ^ 64)then some (.int<|a*b)else none):=rfl
def IA:aT .mul (.lst a) (.int b)=(if 0<=b/\b<=most/\a.length*b.toNat<=most then some (.lst (replicate b.toNat a).flatten)else none):=rfl
def Oi:aT .fdiv (.int a) (.int b)=(if 0<b/\b<2 ^ 200 then some (.int<|a / b)else none):=rfl
def Ez:aT .mod (.int a) (.int b)=(if 0<b then some (.int<|a%b)else none):=rfl
def Lh:jG (.lst xs) (.int k) d=((mH xs.length k).map λj=>.lst<|xs.set j d):=rfl
def Kk:aZ [i] d J=some (J.set i<|some d):=rfl
def Kn:aZ (a::b::t) (.tup ds) J=bA (a::b::t) ds J:=rfl
def Lf:bA [] [] J=some J:=rfl
def Ma:bA (i::is) (d::ds) J=bA is ds (J.set i<|some d):=rfl
def IF:i1 n (.int a) (.int b)=some (a == b):=by cases n<;>rfl
def ED:i1 n (.str a) (.str b)=some (a == b):=by cases n<;>rfl
def IY:i1 n (.bl a) (.bl b)=some (a == b):=by cases n<;>rfl
def II:i1 (n+1) (.tup a) (.tup b)=(eqs (i1 n) a b).map λk=>k&&a.length == b.length:=rfl
def OP:i1 (n+1) (.lst a) (.lst b)=(eqs (i1 n) a b).map λk=>k&&a.length == b.length:=rfl
def zZ:lz .len (.lst xs)=some (.int xs.length):=rfl
def Fh:lz .len (.tup xs)=some (.int xs.length):=rfl
def NN:lz .list d=(items d).map .lst:=rfl
def Ii:lz .tuple d=(items d).map .tup:=rfl
def Nf:lz .len (.str x)=if x.length<=most then some (.int x.length)else none:=rfl
def F3:lz .sortedS (.lst xs)=(strs? xs).bind λI=>if rm I&&decide (I.length<64)then some (.lst xs)else none:=rfl
def NT:kd M (.call f es)=true:=rfl
def Je:kd M (.nk t a b)=(kd M a&&kd M b):=rfl
def zI:kd M (.var j)=!M.contains j:=rfl
set_option autoImplicit false
structure Fn where
 ps:Nat
 nn:Nat
 M:List Nat
 mp:List Nat
 body:Ss
abbrev i5(J:St):List Nat->Option (List D)
 | []=>some []
 | i::is=>((J[i]?).bind id).bind λd=>(i5 J is).map (d :: ·)
abbrev bz(fn:Fn)(d:D)(J:St):Option D :=
 if fn.mp.isEmpty then some d else if d.ax then(i5 J fn.mp).map λos=>.tup (d::os)else none
abbrev au(T:List Fn):Nat->Cl
 | 0,_,_=>none
 | n+1,f,ds=>match T[f]? with
  | some fn=>if ds.length=fn.ps then(aq (au T n) fn.M fn.body<|ds.map some++replicate (fn.nn-fn.ps) none).bind λp=>match p.1 with
   | .nx=>bz fn .cb p.2
   | .rt d=>bz fn d p.2
   else none
  | none=>none
end RL
namespace RT
open RL
abbrev jD:Fn :=
 ⟨1,1,[],[],%[.ret (.and (.ra 0#0 .int)<|.not<|.ra 0#0 .bool)|_]⟩
abbrev fM(I:Nat):Fn :=
 ⟨1,1,[],[],%[.ret (.and (.call I %[0#0|_])<|.chain .le .le 1#1 0#0<|.lp "MOST_PEGS" 10)|_]⟩
abbrev dm(I:Nat):Fn :=
 ⟨1,1,[],[],%[.c7 (.not<|.call I %[0#0|_]) %[.never|_] .nil|_]⟩
abbrev yP:Fn :=
 ⟨3,3,[0,0],[0],%[.put 0 1#0 2#0,.put 0 2#0 1#0|_]⟩
abbrev j0:Fn :=
 ⟨1,1,[],[],%[.ret (.bin .fdiv (.bi .len 0#0) 2#1)|_]⟩
abbrev iW(I:Nat):Fn :=
 ⟨1,1,[],[],%[.exc<|.call I %[0#0|_],.ret (.bi .tuple<|.bin .add (.ez 0#0<|.bin .mul 2#1 0#0)<|.dd 0#0)|_]⟩
abbrev lQ:Fn :=
 ⟨1,3,[],[],%[.asg 1<|.bin .mod (.bin .add (.bin .mul 0#0 48271#1) 11#1) 2147483647#1,.asg 2<|.bin .mod (.bin .add (.bin .add (.bin .mul 1#0 1#0)<|.bin .mul 40692#1 1#0) 0#0) 2147483399#1,.ret (.bin .mod (.bin .add (.bin .add (.bin .mul 2#0 2#0)<|.bin .mul 69621#1 2#0) 1#0) 2147483563#1)|_]⟩
abbrev l7(I:Nat):Ss :=
 %[.asg 3 (.bin .add (.bin .mul 3#0 2147483563#1)<|.call I %[.bin .add (.bin .add 2#0<|.bin .mul 1009#1 1#0) (.bin .mul 7919#1 4#0)|_])|_]
abbrev me(I:Nat):Fn :=
 ⟨2,5,[],[],%[.asg 2<|.bin .add (.bin .mul 7#1 1#0) 3#1,.c7 (.cmp .gt (.bi .len 0#0) 0#1) %[.asg 2 (.bin .add (.ix 0#0<|.bin .mod 1#0<|.bi .len 0#0)<|.bin .mul 9973#1<|.bin .fdiv 1#0<|.bi .len 0#0)|_] .nil,.c7 (.and (.cmp .lt 1#0<|.bi .len 0#0)<|.cmp .ge 2#0<|.bin .pow 10#1 18#1) %[.ret (.bin .sub 2#0<|.bin .pow 10#1 18#1)|_] .nil,.asg 3 0#1,.ef [4] (.dd 40#1)<|l7 I,.ret 3#0|_]⟩
abbrev i8(I:Nat):Ss :=
 %[.app 4<|.bin .mod 3#0 5#0,.asg 3 (.bin .fdiv 3#0 5#0)|_]
abbrev gH(I:Nat):Fn :=
 ⟨3,6,[4],[],%[.asg 3<|.call I %[0#0,1#0|_],.own 4<|.lst .nil,.ef [5] (.seq 2#0)<|i8 I,.ret 4#0|_]⟩
abbrev jf(I:Nat):Fn :=
 ⟨1,2,[],[],%[.ret (.and (.ra 0#0 .tuple)<|.bi .all<|.cn (.call I %[0#0,1#0|_]) [1]<|.dd<|.bi .len 0#0)|_]⟩
abbrev jr(I:Nat):Fn :=
 ⟨2,3,[],[],%[.asg 2<|.ix 0#0 1#0,.ret (.and (.call I %[2#0|_])<|.and (.chain .le .lt 0#1 2#0<|.bi .len 0#0)<|.cmp .eq (.ix 0#0 2#0) 1#0)|_]⟩
abbrev cA:Ss :=
 %[.c7 (.cmp .gt 3#0 2#0) %[.app 1 2#0|_] %[.c7 (.cmp .eq 3#0 2#0) %[.c7 1#0 %[.ret (.cst<|.bl false)|_] .nil|_] %[.D3 1 3#0 %[.ret (.cst<|.bl false)|_] .nil|_]|_]|_]
abbrev gL:Fn :=
 ⟨1,4,[1],[],%[.own 1<|.lst .nil,.ef [2,3] (.tm 0#0)<|cA,.ret (.cst<|.bl true)|_]⟩
abbrev iN(I U R O Y:Nat):Fn :=
 ⟨1,5,[],[],%[.asg 1<|.call Y %[0#0|_],.c7 (.or (.cmp .ne (.bi .len 0#0)<|.bin .mul 2#1 1#0)<|.or (.not<|.call O %[1#0|_])<|.not<|.call R %[0#0|_]) %[.ret (.cst<|.bl false)|_] .nil,.asg 2<|.comp 3#0 [3,4] (.tm 0#0)<|.cmp .eq 3#0 4#0,.ret (.and (.not 2#0)<|.call I %[.call U %[0#0|_]|_])|_]⟩
abbrev fW(I:Nat):Fn :=
 ⟨1,1,[],[],%[.c7 (.not<|.call I %[0#0|_]) %[.never|_] .nil|_]⟩
abbrev eJ:Fn :=
 ⟨2,2,[],[],%[.ret (.nk (.cmp .lt 1#0 0#0) 1#0<|.bin .sub (.bin .sub (.bin .mul 3#1 0#0) 1#1) 1#0)|_]⟩
abbrev gG(R I O:Nat):Fn :=
 ⟨1,3,[],[],%[.asg 1<|.call O %[0#0|_],.ret (.call R %[0#0,.cn (.call I %[1#0,2#0|_]) [2] (.dd<|.bin .mul 2#1 1#0)|_])|_]⟩
abbrev oP:Ss :=
 %[.put 2 (.ix 1#0 3#0) (.ix 1#0 4#0)|_]
abbrev jU:Fn :=
 ⟨2,5,[2],[],%[.own 2<|.bin .mul (.lst %[0#1|_])<|.bi .len 0#0,.ef [3,4] (.tm 0#0)<|oP,.ret (.bi .tuple 2#0)|_]⟩
abbrev qq(U R O I:Nat):Fn :=
 ⟨1,1,[],[],%[.exc<|.call I %[0#0|_],.ret (.call U %[0#0,.call R %[.call O %[0#0|_]|_]|_])|_]⟩
abbrev lG(R O I:Nat):Fn :=
 ⟨1,2,[],[],%[.exc<|.call I %[0#0|_],.asg 1<|.call O %[0#0|_],.ret (.call R %[0#0,.bin .add (.rev<|.dd 1#0) (.rev<|.ez 1#0<|.bin .mul 2#1 1#0)|_])|_]⟩
abbrev B0:Ss :=
 %[.app 3 4#0,.asg 5<|.nk (.cmp .eq (.bin .mod (.bi .len 3#0) 2#1) 0#1) 0#0 1#0,.asg 4 (.ix 5#0 4#0)|_]
abbrev uq:Fn :=
 ⟨3,6,[3],[],%[.own 3<|.lst %[2#0|_],.asg 4<|.ix 1#0 2#0,.ow (.o4 true 4#0<|.tup %[.ix 3#0<|.neg 1#1,2#0|_])<|B0,.ret 3#0|_]⟩
abbrev og(I O:Nat):Ss :=
 %[.c7 (.not<|.ix 2#0 3#0) %[.aug 4 .add 1#1,.kv I %[2#0,.call O %[0#0,1#0,3#0|_]|_] [0] [2]|_] .nil|_]
abbrev nW(I O:Nat):Ss :=
 %[.c7 (.cmp .eq (.ix 0#0 3#0) 3#0) %[.kv I %[2#0,.call O %[0#0,1#0,3#0|_]|_] [0] [2]|_] .nil,.c7 (.cmp .eq (.ix 1#0 3#0) 3#0) %[.kv I %[2#0,.call O %[1#0,0#0,3#0|_]|_] [0] [2]|_] .nil|_]
abbrev l4(I O:Nat):Fn :=
 ⟨2,5,[2],[],%[.own 2<|.bin .mul (.lst %[.cst (.bl false)|_])<|.bi .len 0#0,.ef [3] (.dd<|.bi .len 0#0)<|nW I O,.asg 4 0#1,.ef [3] (.dd<|.bi .len 0#0)<|og I O,.ret 4#0|_]⟩
abbrev xN:Ss :=
 %[.put 0 2#0 (.cst<|.bl true)|_]
abbrev wu:Fn :=
 ⟨2,3,[0,0],[0],%[.ef [2] (.seq 1#0) (xN)|_]⟩
abbrev jH(O U I R:Nat):Fn :=
 ⟨2,10,[],[],%[.asg 2<|.call R %[0#0|_],.asg 3<|.bin .add (.bi .list 0#0)<|.cn (.bin .add (.bin .mul 2#1 2#0) 8#0) [8]<|.seq 1#0,.asg 4<|.call I %[2#0|_],.asg 5<|.bin .add (.dd 2#0)<|.ez (.bin .mul 3#1 2#0)<|.bin .mul 4#1 2#0,.asg 6<|.cn (.ix (.call U %[4#0,3#0,8#0|_])<|.neg 1#1) [8]<|.seq 5#0,.asg 7<|.bi .tuple<|.cn (.nk (.cmp .lt 9#0 2#0) 9#0<|.bin .sub 9#0<|.bin .mul 2#1 2#0) [9]<|.seq 6#0,.ret (.tup %[7#0,.call O %[4#0,3#0|_]|_])|_]⟩
abbrev fX:Fn :=
 ⟨1,5,[],[],%[.asg 1<|.dd 0#0,.asg 2<|.ez 0#0<|.bin .mul 2#1 0#0,.asg 3<|.ez (.bin .mul 2#1 0#0)<|.bin .mul 3#1 0#0,.asg 4<|.ez (.bin .mul 3#1 0#0)<|.bin .mul 4#1 0#0,.ret (.bin .add (.bin .add (.bin .add 1#0 3#0) 2#0) 4#0)|_]⟩
end RT
namespace M
end M
namespace RL
abbrev dn(cl:Cl)(fn:Fn)(ds:List D):Option D:=if ds.length=fn.ps then(aq cl fn.M fn.body<|ds.map some++replicate (fn.nn-fn.ps) none).bind λp=>match p.1 with
  | .nx=>bz fn .cb p.2
  | .rt d=>bz fn d p.2
  else none
def aA(h:T[f]?=some fn):au T (n+1) f ds=dn (au T n) fn ds:=by
 rw[au,h];rfl
abbrev L(xs:List Nat):List D:=xs.map λ(i:Nat)=>.int (i:Int)
def yr(I:List D->St->Prop):∀ (ds done:List D) (J:St),(∀ pre d post J,done++ds=pre++d::post->I pre J->d.ax=true/\∃ O,(aZ tg d J).bind f=some (.nx,O)/\I (pre++[d]) O)->I done J->∃ R,bp f tg ds J=some (.nx,R)/\I (done++ds) R
 | [],done,J,_,h=>#[J,rfl,by simpa using h]
 | d::ds,done,J,hs,h=>by
  let#[Z,O,U,g]:=hs done d ds J rfl h;let#[R,c,b]:=yr I ds (done++[d]) O (λpre e post J a=>hs pre e post J<|by simpa using a) g;refine#[R,?_,by simpa using b];rw[bp,if_pos Z]
  cases hb:aZ tg d J with
  | none=>rw[hb]at U;cases U
  |some Y=>
   rw[hb]at U;simp only[Option.bind_some]at U ⊢;rw[U];exact c
def HG(I:List D->St->Prop)(Y:I [] J)(U:∀ pre d post J,ds=pre++d::post->I pre J->d.ax=true/\∃ O,(aZ tg d J).bind f=some (.nx,O)/\I (pre++[d]) O):∃ R,bp f tg ds J=some (.nx,R)/\I ds R :=
 yr I ds [] J (by simpa using U) Y
@[simp] theorem tf_lst:aI (.lst a)=true:=rfl
@[simp] theorem tf_tup:aI (.tup a)=true:=rfl
@[simp] theorem tf_comp:aI (.comp a b c d)=true:=rfl
@[simp] theorem tf_compA:aI (.cn a b c)=true:=rfl
@[simp] theorem tf_bin:aI (.bin a b c)=true:=rfl
@[simp] theorem tf_slT:aI (.mS a b)=true:=rfl
@[simp] theorem tf_slF:aI (.ry a b)=true:=rfl
@[simp] theorem tf_slB:aI (.wh a b c)=true:=rfl
@[simp] theorem tf_rev:aI (.rev a)=true:=rfl
@[simp] theorem tf_call:aI (.call a b)=true:=rfl
@[simp] theorem tf_bi:aI (.bi a b)=true:=rfl
@[simp] theorem tf_rng1:aI (.dd a)=true:=rfl
@[simp] theorem tf_rng2:aI (.ez a b)=true:=rfl
@[simp] theorem tf_rng3:aI (.hI a b c)=true:=rfl
end RL
namespace RM
open RL RT
section basics
def eX:bW .lt (.int a) (.int b)=some (decide<|a<b):=rfl
def oQ:bW .le (.int a) (.int b)=some (decide<|a<=b):=rfl
def kF:bW .gt (.int a) (.int b)=some (decide<|b<a):=rfl
def L3:bW .ge (.int a) (.int b)=some (decide<|b<=a):=rfl
def js:bW .eq (.int a) (.int b)=some (a == b):=rfl
def Dr:bW .ne (.int a) (.int b)=some (!(a == b)):=rfl
def bQ:aT .add (.int a) (.int b)=some (.int<|a+b):=rfl
def gX:aT .sub (.int a) (.int b)=some (.int<|a-b):=rfl
def lE(h:0<b):aT .mod (.int a) (.int b)=some (.int<|a%b):=Ez.trans<|if_pos h
def qL(h:0<b)(h':b<2 ^ 200):aT .fdiv (.int a) (.int b)=some (.int<|a / b):=Oi.trans<|if_pos ⟨h,h'⟩
def di(O:-(2 ^ 64)<a)(I:a<2 ^ 64):aT .mul (.int a) (.int b)=some (.int<|a*b):=Er.trans<|if_pos<|.inl #[O,I]
def vn(O:-(2 ^ 64)<b)(I:b<2 ^ 64):aT .mul (.int a) (.int b)=some (.int<|a*b):=Er.trans<|if_pos<|.inr #[O,I]
end basics
def Hq(h:L xs=pre++d::post):∃ p x q,xs=p++x::q/\pre=L p/\d=.int (x:Nat)/\post=L q:=by
 let#[p,r,rfl,U,R]:=List.map_eq_append_iff.mp h;let#[x,q,rfl,O,I]:=List.map_eq_cons_iff.mp R;exact#[p,x,q,rfl,U.symm,O.symm,I.symm]
def Ak:∀ {a b:List Nat},L a=L b->a=b
 | [],[],_=>rfl
 | [],_::_,h=>by simp[L]at h
 | _::_,[],h=>by simp[L]at h
 | x::a,y::b,h=>by
  unfold L at h;rw[map_cons,map_cons,List.cons.injEq]at h
  have I:(x:Int)=y:=by injection h.1
  rw[Ak h.2,Int.ofNat_inj.mp I]
def jy(I:List Nat->St->Prop)(c:I [] J)(Y:∀ p x q J,xs=p++x::q->I p J->∃ O,(aZ tg (.int (x:Nat)) J).bind f=some (.nx,O)/\I (p++[x]) O):∃ R,bp f tg (L xs) J=some (.nx,R)/\I xs R:=by
 let#[R,e,p,Z,hi]:=HG (ds:=L xs) (J:=J) (λpre J=>∃ p,pre=L p/\I p J) ⟨[],rfl,c⟩ (by
  rintro pre d post J hd ⟨g,U,hi⟩;let#[p,x,q,rfl,rfl,rfl,rfl]:=Hq hd;have:=Ak U;subst this;let#[O,b,a]:=Y p x q J rfl hi
  exact#[rfl,O,b,p++[x],by simp[L],a])
 have:=Ak Z;subst this;exact#[R,e,hi]
def cZ(xs:List Nat):(L xs).length=xs.length:=by simp[L]
def pT(xs:List Nat)(i:Nat):(L xs)[i]?=(xs[i]?).map λ(i:Nat)=>.int (i:Int):=by simp[L]
def EM(xs:List Nat)(i j:Nat):(L xs).set i (.int j)=L (xs.set i j):=by simp[L]
def bh:∀ xs:List Nat,ae (L xs)=true
 | []=>rfl
 | x::xs=>by
  show((D.int x).ax&&ae (L xs))=true;rw[bh xs];rfl
def gg(xs ys:List Nat):L (xs++ys)=L xs++L ys:=by simp[L]
def gf(xs:List α)(i:Nat):cR xs (i:Int)=xs[i]?:=by
 rfl
def vq(h:i<n):mH n (i:Int)=some i:=by
 unfold mH;rw[if_pos<|Int.natCast_nonneg i,if_pos ⋯];rfl
def oO(a:Nat):∀ n:Nat,dS (a:Int) n=L (range' a n)
 | 0=>rfl
 | n+1=>by
  rw[dS,List.range'_succ];have:=oO (a+1) n;rw[show((a+1:Nat):Int)=(a:Int)+1 by lia]at this;rw[this];rfl
def dU{a b:Nat}(O:a<=1000)(I:b<=1000):eu (.int a) (.int b)=some (L<|range' a<|b-a):=by
 dsimp only[eu]
 have:((b:Int)-a).toNat=b-a:=by lia
 rw[if_pos ⟨by unfold most;lia,by lia,by lia,by lia,by lia⟩,this,oO]
section
def tL(i:Int):dn cl jD [.int i]=some (.bl true):=rfl
def om(h:∀ i:Int,cl f [.int i]=some (.bl true))(i:Int):dn cl (fM f) [.int i]=some (.bl<|decide<|1<=i/\i<=10):=by
 simp[dn,fM,aq,hJ,qC,fC,rY,j7,F7,cX,c0,h,oQ,bU,D.ax,bz];by_cases I:1<=i<;>simp[I,D.ax,bz]
def sE(h:cl f [.int i]=some (.bl true)):dn cl (dm f) [.int i]=some .cb:=by
 simp[dn,dm,aq,kA,fC,ug,cX,c0,h,truth,bz]
def Gr(xs:List Nat)(hi:i<xs.length)(I:j<xs.length):dn cl yP [.lst<|L xs,.int i,.int j]=some (.tup [.cb,.lst<|L<|(xs.set i j).set j i]):=by
 simp[dn,yP,aq,uh,cX,Lh,mH,hi,I,D.ax,bz,i5,cZ,EM]
def xu(xs:List D):dn cl j0 [.lst xs]=some (.int<|xs.length / 2):=rfl
def wV(xs:List D):dn cl j0 [.tup xs]=some (.int<|xs.length / 2):=rfl
abbrev bf(n:Nat):List Nat:=range' n n++range' 0 n
def run_plain{f:Nat}{n:Nat}(hn:n<=10)(h:cl f [.int n]=some .cb):dn cl (iW f) [.int n]=some (.tup<|L<|bf n):=by
 have O:=dU (a:=n) (b:=2*n) ⋯ ⋯;rw[show 2*n-n=n by lia,show((2*n:Nat):Int)=2*(n:Int) by lia]at O;have I:=dU (a:=0) (b:=n) ⋯ ⋯
 have U:aT .mul (.int 2) (.int n)=some (.int<|2*n):=by
  rw[Er];rw[if_pos ⋯]
 have R:aT .add (.lst<|L<|range' n n) (.lst<|L<|range' 0 n)=some (.lst<|L<|bf n):=by
  rw[NS];rw[if_pos (by simp[cZ,most];lia),bf,gg]
 simp only[Int.natCast_zero]at I;simp[dn,iW,aq,Af,hJ,zb,j2,j7,uN,wq,cX,fC,c0,h,O,I,U,R,NN,Ii,items,bU,D.ax,bh,bz]
abbrev at'(f:List Nat)(x:Nat):Nat:=(f[x]?).getD x
structure cv(n:Nat)(f:List Nat):Prop where
 len:f.length=2*n
 lt:∀ x,x<2*n->at' f x<2*n
 inv:∀ x,at' f (at' f x)=x
 no:∀ x,x<2*n->at' f x≠x
def jY(h:x<f.length):f[x]?=some (at' f x):=by simp[at',h]
def jV(h:f.length<=x):at' f x=x:=by simp[at',h]
def jc(h:i<f.length):at' (f.set i j) x=if x=i then j else at' f x:=by
 unfold at';by_cases e:i=x
 ·subst e;simp[h]
 ·simp[e,Ne.symm e]
end
section
def plain_at(n x:Nat):at' (bf n) x=if x<n then n+x else if x<2*n then x-n else x:=by
 unfold at' bf;by_cases I:x<n
 ·rw[Ql (by simpa using I),if_pos I];simp[I]
 ·rw[Qo (by simpa using I),if_neg I];by_cases O:x<2*n
  ·rw[if_pos O];simp[show x-n<n by lia]
  ·rw[if_neg O];simp[show ¬ x-n<n by lia]
def dB(n:Nat):cv n (bf n):=by
 refine#[by simp[bf];lia,λx I=>?_,λx=>?_,λx I=>?_]
 ·rw[plain_at];repeat' split
  all_goals lia
 ·rw[plain_at,plain_at];repeat' split
  all_goals lia
 ·rw[plain_at];repeat' split
  all_goals lia
end
end RM
namespace RL
section
def aK:aq cl M .nil J=some (.nx,J):=by rw[aq]
def cC(h:kS cl M s J=some (.nx,QP))(k:aq cl M r QP=res):aq cl M (.cons s r) J=res:=by
 rw[aq,h];exact k
def pF(h:kS cl M s J=some (.rt d,QP)):aq cl M (.cons s r) J=some (.rt d,QP):=by
 rw[aq,h];rfl
def aJ(h:ev cl J e=some d)(ok:aX M e d=true)(k:aq cl M r (J.set i<|some d)=res):aq cl M (.cons (.asg i e) r) J=res :=
 cC (by rw[qB,h];show(if aX M e d=true then _ else _)=_;rw[if_pos ok]) k
def fR(h:ev cl J e=some d)(ok:(aG d&&aI e)=true)(k:aq cl M r (J.set i<|some d)=res):aq cl M (.cons (.own i e) r) J=res :=
 cC (by rw[zM,h];show(if(aG d&&aI e)=true then _ else _)=_;rw[if_pos ok]) k
def cj(h:ev cl J e=some d)(k:aq cl M r J=res):aq cl M (.cons (.exc e) r) J=res :=
 cC (by rw[Af,h];rfl) k
def aH(h:ev cl J e=some d)(ok:bU M e d=true):aq cl M (.cons (.ret e) r) J=some (.rt d,J) :=
 pF (by rw[hJ,h];show(if bU M e d=true then _ else _)=_;rw[if_pos ok])
def eG(h:(ev cl J t).bind truth=some true)(I:aq cl M a J=some (.nx,QP))(k:aq cl M r QP=res):aq cl M (.cons (.c7 t a b) r) J=res :=
 cC (by rw[kA,h];exact I) k
def fO(h:(ev cl J t).bind truth=some true)(I:aq cl M a J=some (.rt d,QP)):aq cl M (.cons (.c7 t a b) r) J=some (.rt d,QP) :=
 pF (by rw[kA,h];exact I)
def jw(h:(ev cl J t).bind truth=some false)(I:aq cl M b J=some (.nx,QP))(k:aq cl M r QP=res):aq cl M (.cons (.c7 t a b) r) J=res :=
 cC (by rw[kA,h];exact I) k
def nh(h:(ev cl J t).bind truth=some false)(I:aq cl M b J=some (.rt d,QP)):aq cl M (.cons (.c7 t a b) r) J=some (.rt d,QP) :=
 pF (by rw[kA,h];exact I)
def aY(h:(ev cl J t).bind truth=some false)(k:aq cl M r J=res):aq cl M (.cons (.c7 t a .nil) r) J=res:=jw h aK k
def bY(h:ev cl J e=some d)(hd:items d=some ds)(I:ae ds=true)(O:bA is ds J=some QP)(k:aq cl M r QP=res):aq cl M (.cons (.iw is e) r) J=res :=
 cC (by rw[Nq,h,Option.bind_some,hd];show(if ae ds=true then _ else _)=_;rw[if_pos I,O];rfl) k
def Iw(h:ev cl J e=some x)(h':ev cl J e'=some y)(I:(x.ax&&y.ax)=true)(k:aq cl M r ((J.set i<|some x).set j<|some y)=res):aq cl M (.cons (.par i j e e') r) J=res :=
 cC (by rw[MQ,h,Option.bind_some,h'];show(if(x.ax&&y.ax)=true then _ else _)=_;rw[if_pos I]) k
def lY(h:ev cl J e=some d)(hi:(J[i]?).bind id=some (.lst xs))(I:d.ax=true)(hl:xs.length<most)(k:aq cl M r (J.set i<|some<|.lst<|xs++[d])=res):aq cl M (.cons (.app i e) r) J=res :=
 cC (by rw[F6,h,Option.bind_some,hi];show(if(d.ax&&decide (xs.length<most))=true then _ else _)=_;rw[if_pos<|by rw[I,decide_eq_true hl];rfl]) k
def LA(h:ev cl J e'=some x)(h':ev cl J e=some kk)(hi:(J[i]?).bind id=some l)(I:x.ax=true)(O:jG l kk x=some l')(k:aq cl M r (J.set i<|some l')=res):aq cl M (.cons (.put i e e') r) J=res :=
 cC (by rw[uh,h,Option.bind_some,h',Option.bind_some,hi,Option.bind_some,if_pos I,O];rfl) k
def je(hi:(J[i]?).bind id=some (.int x))(h:ev cl J e=some (.int y))(hb:aT o (.int x) (.int y)=some (.int z))(k:aq cl M r (J.set i<|some<|.int z)=res):aq cl M (.cons (.aug i o e) r) J=res :=
 cC (by rw[Ny,hi,Option.bind_some,h];show Option.map _ (aT o (.int x)<|.int y)=_;rw[hb];rfl) k
def dD(h:cN cl J it=some ds)(I:bp (aq cl M b) tg ds J=some (.nx,QP))(k:aq cl M r QP=res):aq cl M (.cons (.ef tg it b) r) J=res :=
 cC (by rw[qM,h];exact I) k
def xY(h:cN cl J it=some ds)(I:bp (aq cl M b) tg ds J=some (.rt d,QP)):aq cl M (.cons (.ef tg it b) r) J=some (.rt d,QP) :=
 pF (by rw[qM,h];exact I)
def Le(I:vu (λJ=>(ev cl J t).bind truth) (aq cl M b) most J=some (.nx,QP))(k:aq cl M r QP=res):aq cl M (.cons (.ow t b) r) J=res :=
 cC (by rw[Ll];exact I) k
def rM(h:c0 cl J es=some ds)(ok:bF M ps 0 es ds=true)(O:cl f ds=some (.tup<|d::outs))(I:bA ms outs J=some QP)(k:aq cl M r QP=res):aq cl M (.cons (.kv f es ps ms) r) J=res :=
 cC (by rw[Kc,h,Option.bind_some,if_pos ok,O,Option.bind_some];show Option.map _ (bA ms outs J)=_;rw[I];rfl) k
def aa(h:(J[i]?).bind id=some d):ev cl J (.var i)=some d:=by rw[cX];exact h
def ah:ev cl J (.cst d)=some d:=by rw[j7]
def ud:ev cl J (.lp x k)=some (.int k):=by rw[F7]
def x_call(h:c0 cl J es=some ds)(I:cl f ds=some d):ev cl J (.call f es)=some d:=by rw[fC,h];exact I
def aD:c0 cl J .nil=some []:=by rw[c0]
def ak(h:ev cl J e=some d)(I:c0 cl J es=some ds):c0 cl J (.cons e es)=some (d::ds):=by rw[c0,h,Option.bind_some,I];rfl
def cz(h:ev cl J e=some d)(I:cl f [d]=some x):ev cl J (.call f %[e|_])=some x:=x_call (ak h aD) I
def bH(h:ev cl J e=some d)(h':ev cl J e'=some d')(I:cl f [d,d']=some x):ev cl J (.call f %[e,e'|_])=some x:=x_call (ak h<|ak h' aD) I
def dJ(h:ev cl J e=some d)(h':ev cl J e'=some d')(I:ev cl J e''=some d'')(O:cl f [d,d',d'']=some x):ev cl J (.call f %[e,e',e''|_])=some x:=x_call (ak h<|ak h'<|ak I aD) O
def aC(h:ev cl J e=some x)(h':ev cl J e'=some y)(hb:aT o x y=some d):ev cl J (.bin o e e')=some d:=by rw[j2,h,Option.bind_some,h'];exact hb
def aF(h:ev cl J e=some x)(h':ev cl J e'=some y)(hb:bW o x y=some k):ev cl J (.cmp o e e')=some (.bl k):=by rw[mU,h,Option.bind_some,h',Option.bind_some,hb];rfl
def cK(h:ev cl J e=some x)(h':ev cl J e'=some y)(hb:i0 x y=some d):ev cl J (.ix e e')=some d:=by rw[Kj,h,Option.bind_some,h'];exact hb
def bP(h:ev cl J e=some x)(hb:lz o x=some d):ev cl J (.bi o e)=some d:=by rw[zb,h];exact hb
def uj(h:ev cl J e=some x)(h':ev cl J e'=some y)(hb:m9 x y=some d):ev cl J (.mS e e')=some d:=by rw[MF,h,Option.bind_some,h'];exact hb
def EY(h:ev cl J e=some x)(h':ev cl J e'=some y)(hb:sf x y=some d):ev cl J (.ry e e')=some d:=by rw[MK,h,Option.bind_some,h'];exact hb
def M8(h:ev cl J e=some x)(h':ev cl J e'=some y)(I:ev cl J e''=some z)(hb:sk x y z=some d):ev cl J (.wh e e' e'')=some d:=by rw[M7,h,Option.bind_some,h',Option.bind_some,I];exact hb
def uc(h:ev cl J e=some x)(h':ev cl J e'=some y)(hb:qZ x y=some d):ev cl J (.su e e')=some d:=by rw[Ni,h,Option.bind_some,h'];exact hb
def zH(h:ev cl J e=some x)(h':ev cl J e'=some y)(hb:z4 x y=some k):ev cl J (.o4 n e e')=some (.bl (if n then !k else k)):=by rw[NI,h,Option.bind_some,h',Option.bind_some,hb];rfl
def zF(h:ev cl J e=some x)(h':ev cl J e'=some y)(hb:m6 y x=some k):ev cl J (.inD n e e')=some (.bl (if n then !k else k)):=by rw[Mn,h,Option.bind_some,h',Option.bind_some,hb];rfl
def Mw{t:Ty}(h:ev cl J e=some x)(hb:zR t x=some k):ev cl J (.ra e t)=some (.bl k):=by rw[Mp,h,Option.bind_some,hb];rfl
def Ag(h:ev cl J e=some (.int k)):ev cl J (.neg e)=some (.int<|-k):=by rw[MV,h];rfl
def mO(h:ev cl J e=some x)(h':ev cl J e'=some y)(I:ev cl J e''=some z)(R:bW c x y=some true)(O:bW c' y z=some k):ev cl J (.chain c c' e e' e'')=some (.bl k):=by rw[rY,h,Option.bind_some,h',Option.bind_some,R,Option.bind_some,if_pos rfl,I,Option.bind_some,O];rfl
def CN(h:ev cl J e=some x)(h':ev cl J e'=some y)(I:bW c x y=some false):ev cl J (.chain c c' e e' e'')=some (.bl false):=by rw[rY,h,Option.bind_some,h',Option.bind_some,I];rfl
def xK(h:ev cl J e=some x)(I:eu (.int 0) x=some ds):ev cl J (.dd e)=some (.lst ds):=by rw[uN,h,Option.bind_some,I];rfl
def mX(h:ev cl J e=some x)(h':ev cl J e'=some y)(I:eu x y=some ds):ev cl J (.ez e e')=some (.lst ds):=by rw[wq,h,Option.bind_some,h',Option.bind_some,I];rfl
def eC(h:c0 cl J es=some ds):ev cl J (.lst es)=some (.lst ds):=by rw[zN,h];rfl
def bg(h:c0 cl J es=some ds):ev cl J (.tup es)=some (.tup ds):=by rw[NG,h];rfl
def gv(h:ev cl J e=some (.bl true))(h':ev cl J e'=some d):ev cl J (.and e e')=some d:=by rw[qC,h];exact h'
def ku(h:ev cl J e=some (.bl false)):ev cl J (.and e e')=some (.bl false):=by rw[qC,h];rfl
def lD(h:ev cl J e=some (.bl false))(h':ev cl J e'=some d):ev cl J (.or e e')=some d:=by rw[Ad,h];exact h'
def Mm(h:ev cl J e=some (.bl true)):ev cl J (.or e e')=some (.bl true):=by rw[Ad,h];rfl
def NA(h:(ev cl J e).bind truth=some k):ev cl J (.not e)=some (.bl<|!k):=by rw[ug,h];rfl
def dQ(h:ev cl J e=some (.bl k)):ev cl J (.not e)=some (.bl<|!k):=NA<|by rw[h];rfl
def j8(h:(ev cl J t).bind truth=some k)(h':ev cl J (if k then e else e')=some d):ev cl J (.nk t e e')=some d:=by
 rw[zj,h];cases k<;>exact h'
def aO(h:ev cl J e=some (.bl k)):(ev cl J e).bind truth=some k:=by rw[h];rfl
def gi(h:cN cl J it=some ds)(O:ds.length<=most)(hm:bX (λI=>(ev cl I e).map some) tg J ds=some ys):ev cl J (.cn e tg it)=some (.lst ys):=by
 rw[ye,h,Option.bind_some,fits,if_pos O,Option.bind_some,hm];rfl
def vv(h:cN cl J it=some ds)(O:ds.length<=most)(hm:bX (λI=>((ev cl I t).bind truth).bind λk=>if k then(ev cl I e).map some else some none) tg J ds=some ys):ev cl J (.comp e tg it t)=some (.lst ys):=by
 rw[A2,h,Option.bind_some,fits,if_pos O,Option.bind_some,hm];rfl
def km(h:ev cl J e=some x)(I:eu (.int 0) x=some ds):cN cl J (.dd e)=some ds:=by rw[cN,h];exact I
def JK(h:ev cl J e=some x)(h':ev cl J e'=some y)(I:mL c x y=some ds):cN cl J (.hI c e e')=some ds:=by rw[cN,h,Option.bind_some,h'];exact I
def Ib(h:ev cl J e=some x)(I:mh x=some ds):cN cl J (.seq e)=some ds:=by rw[cN,h];exact I
def fv(h:ev cl J e=some x)(I:items x=some ds):cN cl J (.seq e)=some ds:=Ib h (by
 cases x with
 | lst _=>exact I
 | tup _=>exact I
 | fL _=>exact I
 | _=>cases I)
def zp(h:ev cl J e=some x)(I:gA x=some ds):cN cl J (.tm e)=some (fk 0 ds):=by rw[cN,h,Option.bind_some,I];rfl
end
def FT(I:d.ax=true)(hb:aZ tg d J=some QR)(h:f QR=some (.nx,QQ))(k:bp f tg r QQ=res):bp f tg (d::r) J=res:=by
 rw[bp,if_pos I,hb,Option.bind_some,h];exact k
def aE(hl:ds.length=fn.ps)(hm:fn.mp=[])(h:aq cl fn.M fn.body (ds.map some++replicate (fn.nn-fn.ps) none)=some (.rt d,QP)):dn cl fn ds=some d:=by
 unfold dn;rw[if_pos hl,h];unfold bz;rw[hm];rfl
def jW(hl:ds.length=fn.ps)(hm:fn.mp=[])(h:aq cl fn.M fn.body (ds.map some++replicate (fn.nn-fn.ps) none)=some (.nx,QP)):dn cl fn ds=some .cb:=by
 unfold dn;rw[if_pos hl,h];unfold bz;rw[hm];rfl
end RL
namespace RM
open RL RT
abbrev LI(xs:List Int):List D:=xs.map D.int
def AM(xs:List Int):(LI xs).length=xs.length:=by simp[LI]
def Cm:∀ xs:List Int,ae (LI xs)=true
 | []=>rfl
 | x::xs=>by
  show((D.int x).ax&&ae (LI xs))=true;rw[Cm xs];rfl
section
def mod_lt{a b:Int}(h:0<b):0<=a%b/\a%b<b:=#[Int.emod_nonneg _ ⋯,Int.emod_lt_of_pos _ h]
def Hw(s:Int):∃ m:Int,dn cl lQ [.int s]=some (.int m):=by
 have a1:=mod_lt (a:=s*48271+11) (b:=2147483647) ∅;generalize h1:(s*48271+11)%2147483647=one at a1;have a2:=mod_lt (a:=one*one+40692*one+s) (b:=2147483399) ∅;generalize h2:(one*one+40692*one+s)%2147483399=two at a2
 exact⟨_,aE rfl rfl (aJ (aC (aC (aC () ah<|vn ∅ ∅) ah bQ) ah<|by rw[lE ∅,h1]) rfl
  (aJ (aC (aC (aC (aC () ()<|di ⋯ ⋯) (aC ah ()<|di ∅ ∅) bQ) () bQ) ah<|by rw[lE ∅,h2]) rfl
  (aH (aC (aC (aC (aC () ()<|di (by omega)<|by omega) (aC ah ()<|di ∅ ∅) bQ) () bQ) ah<|lE ∅) rfl)))⟩
def Gs{f:Nat}(h:∀ s:Int,∃ m:Int,cl f [.int s]=some (.int m)){ns:List Int}(hl:ns.length<=63){k:Nat}(u:k<=1000):∃ r:Int,dn cl (me f) [.lst<|LI ns,.int k]=some (.int r):=by
 have Z:aT .pow (.int 10) (.int 18)=some (.int 1000000000000000000):=rfl
 have rest:∀ c:Int,∃ r I,aq cl [] %[.asg 3 0#1,.ef [4] (.dd 40#1)<|l7 f,.ret 3#0|_] [some<|.lst<|LI ns,some<|.int k,some<|.int c,none,none]=some (.rt<|.int r,I):=by
  intro c;have O:=congrArg some<|oO 0 40
  let#[I,e,r,o,rfl]:=jy (f:=aq cl []<|l7 f) (tg:=[4]) (J:=[some<|.lst<|LI ns,some<|.int k,some<|.int c,some<|.int 0,none])
   (λp J=>∃ (r:Int) (o:Option D),J=[some<|.lst<|LI ns,some<|.int k,some<|.int c,some<|.int r,o]) ⟨0,none,rfl⟩ (by
    rintro p x q J t ⟨r,o,rfl⟩;let#[m,hm]:=h<|c+1009*k+7919*x
    exact#[_,aJ (aC (aC () ah<|vn ∅ ∅) (cz (aC (aC () (aC ah ()<|di ∅ ∅) bQ) (aC ah ()<|di ∅ ∅) bQ) hm) bQ) rfl aK,_,_,rfl])
  exact#[r,_,aJ ah rfl<|dD (km ah O) e<|aH () rfl]
 have len:=congrArg (λn:Nat=>some<|D.int n)<|AM ns
 have first:ev cl [some<|.lst<|LI ns,some<|.int k,none,none,none] (.bin .add (.bin .mul 7#1 1#0) 3#1)=some (.int<|7*k+3):=aC (aC ah ()<|di ∅ ∅) ah bQ
 by_cases w:0<ns.length
 ·have Y:=mod_lt (a:=(k:Int)) (b:=(ns.length:Int)) ⋯;let#[j,l]:=Int.eq_ofNat_of_zero_le Y.1
  have d:j<ns.length:=by lia
  have ix:i0 (.lst<|LI ns) (.int<|(k:Int)%ns.length)=some (.int ns[j]):=by
   show cR (LI ns) _=_;rw[l,gf];simp[LI,d]
  let#[r,I,O]:=rest<|ns[j]+9973*((k:Int) / ns.length);generalize hc:ns[j]+9973*((k:Int) / ns.length)=cell at O
  have R:∀ {g:Ss} {U:Option (Out × St)},aq cl [] g [some<|.lst<|LI ns,some<|.int k,some<|.int cell,none,none]=U->aq cl [] (.cons (.asg 2<|.bin .add (.bin .mul 7#1 1#0) 3#1)<|.cons (.c7 (.cmp .gt (.bi .len 0#0) 0#1) (.cons (.asg 2<|.bin .add (.ix 0#0<|.bin .mod 1#0<|.bi .len 0#0)<|.bin .mul 9973#1<|.bin .fdiv 1#0<|.bi .len 0#0) .nil) .nil) g) [some<|.lst<|LI ns,some<|.int k,none,none,none]=U:=λz =>
   aJ first rfl (eG (aO<|aF (bP () len) ah<|by rw[kF,decide_eq_true ⋯]) (aJ (aC (cK () (aC () (bP () len)<|lE ⋯) ix) (aC ah (aC () (bP () len)<|qL ⋯ ⋯)<|di ∅ ∅)<|by rw[bQ,hc]) rfl aK) z)
  by_cases v:k<ns.length
  ·have c1:bW .lt (.int (k:Nat)) (.int (ns.length:Nat))=some true:=by rw[eX,decide_eq_true ⋯]
   by_cases i:1000000000000000000<=cell
   ·exact#[_,aE rfl rfl<|R<|fO (aO<|gv (aF () (bP () len) c1)<|aF () (aC ah ah Z)<|by rw[L3,decide_eq_true i])<|aH (aC () (aC ah ah Z) gX) rfl]
   ·exact#[r,aE rfl rfl<|R<|aY (aO<|gv (aF () (bP () len) c1)<|aF () (aC ah ah Z)<|by rw[L3,Qh i]) O]
  ·exact#[r,aE rfl rfl<|R<|aY (aO<|ku<|aF () (bP () len)<|by rw[eX,Qh ⋯]) O]
 ·let#[r,I,O]:=rest<|7*k+3;exact#[r,aE rfl rfl<|aJ first rfl<|aY (aO<|aF (bP () len) ah<|by rw[kF,Qh ⋯])<|aY (aO<|ku<|aF () (bP () len)<|by rw[eX,Qh ⋯]) O]
end
section
abbrev lV(ds I:List Nat):Prop:=ds.length=I.length/\∀ (i d s:Nat),ds[i]?=some d->I[i]?=some s->d<s
def lV.snoc(h:lV ds hF)(hd:d<s):lV (ds++[d]) (hF++[s]):=by
 refine#[by simp[h.1],λi x y I O=>?_];by_cases hi:i<ds.length
 ·rw[Ql hi]at I;rw[Ql<|by rw[<-h.1];exact hi]at O;exact h.2 i x y I O
 ·rw[Qo ⋯]at I;rw[Qo<|by rw[<-h.1];lia]at O;rw[h.1]at I
  cases hk:i-hF.length with
  | zero=>rw[hk]at I O;simp at I O;lia
  | succ k=>rw[hk]at I;simp at I
def zm(h:cl f [lq,.int k]=some (.int r))(g:∀ s∈I,0<s/\s<2 ^ 200)(hlen:I.length<=1000):∃ ds:List Nat,lV ds I/\dn cl (gH f) [lq,.int k,.lst<|L I]=some (.lst<|L ds):=by
 let#[a,e,i,ds,o,O,rfl]:=jy (f:=aq cl [4]<|i8 f) (tg:=[5]) (xs:=I) (J:=[some lq,some<|.int k,some<|.lst<|L I,some<|.int r,some<|.lst [],none])
  (λp J=>∃ (r:Int) (ds:List Nat) (o:Option D),lV ds p/\J=[some lq,some<|.int k,some<|.lst<|L I,some<|.int r,some<|.lst<|L ds,o]) ⟨r,[],none,⟨rfl,by simp⟩,rfl⟩ (by
   rintro p x q J Z ⟨r,ds,o,O,rfl⟩;have b:=g x<|by rw[Z];simp
   have c:p.length<1000:=by
    have:=congrArg List.length Z;simp at this;lia
   have R:(0:Int)<x:=by lia
   have U:(x:Int)<2 ^ 200:=by
    lia
   let#[d,hd]:=Int.eq_ofNat_of_zero_le (Int.emod_nonneg r (show(x:Int)≠0 by lia))
   have Y:d<x:=by
    have:=Int.emod_lt_of_pos r R;lia
   refine#[[some lq,some<|.int k,some<|.lst<|L I,some<|.int<|r / x,some<|.lst<|L<|ds++[d],some<|.int x],?_,_,_,_,O.snoc Y,rfl]
   have hl:(L ds).length<most:=by
    rw[cZ,O.1];unfold most;lia
   simp[Kk,i8,aq,F6,qB,j2,cX,lE R,qL R U,hd,D.ax,hl,aX,gg]
   rfl)
 refine#[ds,O,?_];simp[dn,gH,aq,qB,qM,zM,hJ,zN,cX,fC,c0,cN,items,h,aX,D.ax,aG,ae];simp[e,bU,aG,bh,bz]
end
abbrev i4:Nat->List Bool->Option Nat
 | d,[]=>some d
 | d,true::r=>i4 (d+1) r
 | 0,false::_=>none
 | d+1,false::r=>i4 d r
def kQ(b:Bool):∀ (w:List Bool) (d:Nat),i4 d (w++[b])=(i4 d w).bind λe=>i4 e [b]
 | [],d=>rfl
 | true::r,d=>by simpa[i4]using kQ b r (d+1)
 | false::r,0=>rfl
 | false::r,d+1=>by simpa[i4]using kQ b r d
abbrev sg(b:Bool):Nat:=if b then 40 else 41
abbrev tx(w:List Bool):PySem.Str:=#[(w.map sg).toArray]
def qc(w:List Bool):(tx w).length=w.length:=by simp[tx,PySem.Str.length]
def Bs(w v:List Bool):tx w++tx v=tx (w++v):=by
 show PySem.Str.mk _=_;simp[tx]
def Kd:(PySem.Str.ofString "")=tx []:=by decide +kernel
def za:(PySem.Str.ofString "(")=tx [true]:=by decide +kernel
def MR:(PySem.Str.ofString ")")=tx [false]:=by decide +kernel
def nZ(h:(List.range k).map g=p++x::q):p.length<k/\x=g p.length:=by
 have l:((List.range k).map g).length=(p++x::q).length:=by rw[h]
 have e:((List.range k).map g)[p.length]?=(p++x::q)[p.length]?:=by rw[h]
 simp at l e;let#[y,I,e]:=e;refine#[by lia,?_];rw[List.getElem?_range ⋯]at I;cases I;exact e.symm
abbrev rd(n q:Nat):Nat:=if q<n then q else 3*n-1-q
def bj(h:q<2*n):rd n q<2*n:=by unfold rd;split<;>omega
def bT(h:q<2*n):rd n (rd n q)=q:=by
 unfold rd;by_cases e:q<n
 ·rw[if_pos e,if_pos e]
 ·rw[if_neg e,if_neg<|by omega];lia
def jh(O:p<2*n)(I:q<2*n)(h:rd n p=rd n q):p=q:=by rw[<-bT O,h,bT I]
abbrev dV(n:Nat)(f:List Nat)(q:Nat):Nat:=rd n<|at' f<|rd n q
structure Val(n:Nat)(f:List Nat):Prop where
 fj:cv n f
 lk:∀ q q',q<2*n->q'<2*n->¬ (q<q'/\q'<dV n f q/\dV n f q<dV n f q')
structure Mt(n k:Nat)(f S:List Nat):Prop where
 len:f.length=2*n
 kn:k<=2*n
 up:S.Pairwise (·<·)
 lt:∀ s∈S,s<k
 ok:∀ q,q<k->q∉S->dV n f q<k/\dV n f q∉S/\dV n f q≠q/\dV n f (dV n f q)=q
 bt:∀ q s,q<k->q∉S->s∈S->¬ (q<s/\s<dV n f q)
 lk:∀ q q',q<k->q'<k->q∉S->q'∉S->¬ (q<q'/\q'<dV n f q/\dV n f q<dV n f q')
def Mt.push{n k:Nat}{f S:List Nat}(m:Mt n k f S)(i:k<2*n):Mt n (k+1) f (S++[k]):=by
 have U:∀ q,q<k+1->q∉S++[k]->q<k/\q∉S:=by
  intro q O I;simp at I;exact#[by lia,I.1]
 refine#[m.len,by lia,?_,?_,?_,?_,?_]
 ·rw[QF];exact⟨m.up,by simp,λa ha b hb=>by simp at hb;have:=m.lt a ha;lia⟩
 ·intro s R;simp at R;rcases R with h | h
  ·have:=m.lt s h;lia
  ·lia
 ·intro q O I;let#[a,b]:=U q O I;let#[c1,e,d,c]:=m.ok q a b;exact#[by lia,by simp;exact#[e,by lia],d,c]
 ·intro q s O I R;let#[a,b]:=U q O I;simp at R;rcases R with h | h
  ·exact m.bt q s a b h
  ·have:=(m.ok q a b).1;lia
 ·intro q q' O I Z Y;let#[a,b]:=U q O Z;let#[a',g]:=U q' I Y;exact m.lk q q' a a' b g
def sq(hl:f.length=2*n)(I:k<2*n)(hm:m<2*n)(U:q<2*n):dV n ((f.set (rd n m)<|rd n k).set (rd n k)<|rd n m) q=if q=k then m else if q=m then k else dV n f q:=by
 have Z:=bj I;have Y:=bj hm;unfold dV;rw[jc (by simp;lia),jc ⋯];by_cases R:q=k
 ·subst R;rw[if_pos rfl,if_pos rfl,bT hm]
 ·rw[if_neg λh=>R<|jh U I h,if_neg R];by_cases O:q=m
  ·subst O;rw[if_pos rfl,if_pos rfl,bT I]
  ·rw[if_neg λh=>O<|jh U hm h,if_neg O]
def Mt.pop{n k m:Nat}{f S:List Nat}(h:Mt n k f (S++[m]))(j:k<2*n):Mt n (k+1) ((f.set (rd n m)<|rd n k).set (rd n k)<|rd n m) S:=by
 have z:m<k:=h.lt m<|by simp
 have hm:m<2*n:=by lia
 have P:=λq y=>sq h.len j hm (q:=q) y;have up:=QF.mp h.up;have O:=λs e=>up.2.2 s e m<|by simp
 have x:k∉S:=λc=>by have:=O k c;lia
 have w:m∉S:=λc=>by have:=O m c;lia
 have g:∀ q,q<k+1->q∉S->q=k\/q=m\/(q≠k/\q≠m/\q<k/\q∉S++[m]):=by
  intro q U I;by_cases Y:q=k
  ·exact .inl Y
  ·by_cases R:q=m
   ·exact .inr<|.inl R
   ·exact .inr<|.inr #[Y,R,by lia,by simp;exact#[I,R]]
 have Z:∀ q,q<k->q∉S++[m]->dV n f q<k/\dV n f q∉S/\dV n f q≠m/\dV n f q≠q/\dV n f (dV n f q)=q:=by
  intro q U I;let#[c1,i,u,t]:=h.ok q U I;simp at i;exact#[c1,i.1,i.2,u,t]
 refine⟨by simp[h.len],by lia,up.1,λs e=>by have:=O s e;lia,?_,?_,?_⟩
 ·intro q U I
  rcases g q U I with rfl | rfl | ⟨Y,R,d,b⟩
  ·rw[P q j,if_pos rfl,P m hm,if_neg ⋯,if_pos rfl];exact#[by lia,w,by lia,rfl]
  ·rw[P q hm,if_neg ⋯,if_pos rfl,P k j,if_pos rfl];exact#[by lia,x,by lia,rfl]
  ·let#[c1,i,u,t,B]:=Z q d b;rw[P q ⋯,if_neg Y,if_neg R,P _ ⋯,if_neg ⋯,if_neg u];exact#[by lia,i,t,B]
 ·intro q s U I e;have:=O s e
  rcases g q U I with rfl | rfl | ⟨Y,R,d,b⟩
  ·lia
  ·lia
  ·rw[P q ⋯,if_neg Y,if_neg R];exact h.bt q s d b<|by simp[e]
 ·intro q q' U I A v
  rcases g q U A with rfl | rfl | ⟨Y,R,d,b⟩
  ·lia
  ·rw[P q hm,if_neg ⋯,if_pos rfl]
   rcases g q' I v with rfl | rfl | ⟨r,p,o,l⟩
   ·lia
   ·lia
   ·rw[P q' ⋯,if_neg r,if_neg p];have:=(Z q' o l).1;lia
  ·rw[P q ⋯,if_neg Y,if_neg R];have a:=(Z q d b).1
   rcases g q' I v with rfl | rfl | ⟨r,p,o,l⟩
   ·lia
   ·have:=h.bt q q' d b (by simp);lia
   ·rw[P q' ⋯,if_neg r,if_neg p];exact h.lk q q' d o b l
def Mt.val(h:Mt n (2*n) f [])(I:∀ x,x<2*n->at' f x<2*n):Val n f:=by
 refine#[#[h.len,I,?_,?_],λq q' U R=>h.lk q q' U R (by simp)<|by simp]
 ·intro x;by_cases O:x<2*n
  ·have a:=(h.ok (rd n x) (bj O)<|by simp).2.2.2;unfold dV at a;rw[bT O,bT<|I x O]at a;exact jh (I _<|I x O) O a
  ·have e:at' f x=x:=jV (by rw[h.len];lia);rw[e,e]
 ·intro x O e;have a:=(h.ok (rd n x) (bj O)<|by simp).2.2.1;unfold dV at a;rw[bT O,e]at a;exact a rfl
def Cq(g:β->D)(Y:∀ b,(g b).ax=true)(I:List β->St->Prop):∀ (w done:List β) (J:St),(∀ u b v J,done++w=u++b::v->I u J->∃ O,(aZ tg (.tup [.int u.length,g b]) J).bind f=some (.nx,O)/\I (u++[b]) O)->I done J->∃ R,bp f tg (fk done.length<|w.map g) J=some (.nx,R)/\I (done++w) R
 | [],done,J,_,h=>#[J,rfl,by simpa using h]
 | b::w,done,J,hs,h=>by
  let#[O,U,i]:=hs done b w J rfl h;let#[R,Z,d]:=Cq g Y I w (done++[b]) O (λpre e post J c=>hs pre e post J<|by simpa using c) i;refine#[R,?_,by simpa using d];rw[map_cons,fk,bp,if_pos<|by simp[D.ax,ae,Y]];rw[show((done++[b]).length:Int)=(done.length:Int)+1 by simp]at Z
  cases hb:aZ tg (.tup [.int done.length,g b]) J with
  | none=>rw[hb]at U;cases U
  |some a=>
   rw[hb]at U;simp only[Option.bind_some]at U ⊢;rw[U];exact Z
abbrev rC(n:Nat):List Nat:=(List.range<|2*n).map<|rd n
def yp{n q:Nat}(h:q<2*n):i0 (.lst<|L<|rC n) (.int (q:Int))=some (.int ((rd n q:Nat):Int)):=by
 show cR _ _=_;rw[gf,pT];simp[rC,h]
def JM{f:List Nat}{i j:Nat}(h:i<f.length):jG (.lst<|L f) (.int (i:Int)) (.int (j:Int))=some (.lst<|L<|f.set i j):=by
 rw[Lh];rw[cZ,vq h];simp[EM]
def kR(v:List Bool):∀ (w:List Bool) (d:Nat),i4 d (w++v)=(i4 d w).bind λe=>i4 e v
 | [],d=>rfl
 | true::r,d=>by simpa[i4]using kR v r (d+1)
 | false::r,0=>rfl
 | false::r,d+1=>by simpa[i4]using kR v r d
def vP:∀ (w:List Bool) (d:Nat) {e:Nat},i4 d w=some e->e<=d+w.length
 | [],d,e,h=>by cases h;simp
 | true::r,d,e,h=>by have:=vP r (d+1) h;simp;lia
 | false::r,0,e,h=>nomatch h
 | false::r,d+1,e,h=>by have:=vP r d h;simp;lia
abbrev Wd(n:Nat)(u:List Bool)(f S:List Nat):Prop:=∀ q,q<u.length->u[q]?=some (decide<|q∈S\/q<dV n f q)
def Wd.push{S:List Nat}(h:Wd n u f S)(m:Mt n u.length f S):Wd n (u++[true]) f (S++[u.length]):=by
 intro q O;simp at O;by_cases c:q=u.length
 ·subst c;simp
 ·have I:q<u.length:=by lia
  rw[Ql I,h q I];simp[c]
def Wd.pop{S:List Nat}{I:Nat}(h:Wd n u f (S++[I]))(m:Mt n u.length f (S++[I]))(b:u.length<2*n):Wd n (u++[false]) ((f.set (rd n I)<|rd n u.length).set (rd n u.length)<|rd n I) S:=by
 have R:=m.lt I (by simp);have up:=QF.mp m.up;have U:=λs Y=>up.2.2 s Y I (by simp);intro q Z;simp at Z;rw[sq m.len b ⋯ ⋯];by_cases c:q=u.length
 ·subst c
  have:¬ (u.length∈S):=λa=>by have:=U _ a;lia
  simp[this];lia
 ·have O:q<u.length:=by lia
  rw[Ql O,h q O,if_neg c];by_cases c':q=I
  ·subst c';simp[R]
  ·simp[c']
def By(I:∀ x,(g x).ax=true):∀ xs:List Nat,(∀ x∈xs,(aZ tg (.int (x:Nat)) J).bind F=some (some<|g x))->bX F tg J (L xs)=some (xs.map g)
 | [],_=>rfl
 | x::r,h=>by
  have a:=h x (by simp);have b:=By I r (λy R=>h y<|by simp[R]);rw[show L (x::r)=.int x::L r from rfl,bX]
  cases hb:aZ tg (.int x) J with
  | none=>rw[hb]at a;cases a
  |some O=>
   rw[hb]at a;simp only[Option.bind_some]at a ⊢;rw[a,b];simp[kP,I]
def Mi(xs:List Nat)(g:Nat->Nat):(xs.map λx=>D.int (g x:Nat))=L (xs.map g):=by simp[L]
def Iv(h:xs.length<=1000):fits (L xs)=some (L xs):=by
 unfold fits;rw[if_pos<|by rw[cZ];unfold most;lia]
def fB{n:Nat}(h:n<=1000):eu (.int 0) (.int n)=some (L<|List.range n):=by
 have I:=dU (a:=0) ⋯ h;rw[sub_zero,<-List.range_eq_range']at I;exact I
def t7(h:q<2*n):dV n (bf n) q=2*n-1-q:=by
 unfold dV rd;by_cases c:q<n
 ·rw[if_pos c,plain_at,if_pos c,if_neg ⋯];lia
 ·have e:at' (bf n) (3*n-1-q)=2*n-1-q:=by rw[plain_at,if_neg (by omega),if_pos<|by omega];lia
  rw[if_neg c,e,if_pos<|by omega]
def mF(n:Nat):Val n (bf n):=by
 refine#[dB n,λq q' O I=>?_];rw[t7 O,t7 I];omega
set_option synthInstance.maxSize 10000 in
set_option synthInstance.maxHeartbeats 0 in
def half{xs:List D}(h:xs.length=2*n):lz .len (.tup xs)=some (.int<|2*n):=by
 simp[Fh,h]
def uB(h:x<f.length):i0 (.tup<|L f) (.int (x:Nat))=some (.int (at' f x:Nat)):=by
 show cR _ _=_;rw[gf,pT,jY h];rfl
section dicts
variable [DecidableEq κ]
end dicts
abbrev pick(h l:List Nat)(b:Bool):List Nat:=if b then h else l
abbrev A1(n:Nat)(h l:List Nat)(s:Bool × Nat):Bool × Nat:=if s.1=decide (n<=s.2)then(!s.1,at' (pick h l<|!s.1)<|(s.2+n)%(2*n))else s
abbrev sv(n:Nat)(h l:List Nat):Nat->Bool × Nat->Bool × Nat
 | 0,s=>s
 | i+1,s=>A1 n h l<|sv n h l i s
section
def KW(O:∀ x,x<2*n->at' h x<2*n)(hl:∀ x,x<2*n->at' l x<2*n)(I:s.2<2*n):(A1 n h l s).2<2*n:=by
 unfold A1;split
 ·have m:(s.2+n)%(2*n)<2*n:=Nat.mod_lt _ ⋯;cases s.1
  ·exact O _ m
  ·exact hl _ m
 ·exact I
def wG(O:∀ x,x<2*n->at' h x<2*n)(hl:∀ x,x<2*n->at' l x<2*n)(I:s.2<2*n):∀ i,(sv n h l i s).2<2*n
 | 0=>I
 | i+1=>KW O hl<|wG O hl I i
abbrev nz(n:Nat)(h l:List Nat)(p:Nat):Bool × Nat:=(decide<|p<n,at' (pick h l<|decide<|p<n) p)
abbrev aL(n:Nat)(h l:List Nat):List Nat:=(List.range<|2*n).map λp=>(sv n h l (4*n)<|nz n h l p).2
end
def mw(I:∀ x,(g x).ax=true):∀ xs:List Nat,(∀ x∈xs,(aZ tg (h x) J).bind F=some (if c x then some (g x)else none))->bX F tg J (xs.map h)=some ((xs.filter c).map g)
 | [],_=>rfl
 | x::r,hh=>by
  have a:=hh x (by simp);have b:=mw I r (λy R=>hh y<|by simp[R]);rw[map_cons,bX]
  cases hb:aZ tg (h x) J with
  | none=>rw[hb]at a;cases a
  |some O=>
   rw[hb]at a;simp only[Option.bind_some]at a ⊢;rw[a,b];cases hc:c x<;>simp[kP,I,hc]
abbrev pr(f:List Nat)(p:Nat):D:=.tup [.int (p:Nat),.int (at' f p:Nat)]
def yh:∀ (f:List Nat) (k:Nat),fk (k:Int) (L f)=(List.range f.length).map λp=>.tup [.int ((k+p:Nat):Int),.int (at' f p:Nat)]
 | [],k=>rfl
 | x::r,k=>by
  rw[show L (x::r)=.int x::L r from rfl,fk,show(k:Int)+1=((k+1:Nat):Int) by lia,yh r<|k+1,length_cons,List.range_succ_eq_map,map_cons,map_map];congr 1;apply QI;intro p I;simp at I
  have e:at' (x::r) (p+1)=at' r p:=by simp[at',I]
  lia
def v8(h:f.length=m):fk 0 (L f)=(List.range m).map (pr f):=by
 have:=yh f 0;rw[h]at this;simp only[zero_add]at this;exact this
def wo(g:β->D)(Y:∀ b,(g b).ax=true)(I:List β->St->Prop):∀ (w done:List β) (J:St),(∀ u b v J,done++w=u++b::v->I u J->∃ O,(aZ tg (g b) J).bind f=some (.nx,O)/\I (u++[b]) O)->I done J->∃ R,bp f tg (w.map g) J=some (.nx,R)/\I (done++w) R
 | [],done,J,_,h=>#[J,rfl,by simpa using h]
 | b::w,done,J,hs,h=>by
  let#[O,U,i]:=hs done b w J rfl h;let#[R,d,c]:=wo g Y I w (done++[b]) O (λpre e post J a=>hs pre e post J<|by simpa using a) i;refine#[R,?_,by simpa using c];rw[map_cons,bp,if_pos<|Y b]
  cases hb:aZ tg (g b) J with
  | none=>rw[hb]at U;cases U
  |some Z=>
   rw[hb]at U;simp only[Option.bind_some]at U ⊢;rw[U];exact d
section
variable{n:Nat}
def pJ(O:p<2*n):dn cl eJ [.int n,.int (p:Nat)]=some (.int (rd n p:Nat)):=by
 have I:aT .mul (.int 3) (.int n)=some (.int<|3*n):=di ∅ ∅;by_cases c:p<n
 ·have c1:decide (p<n)=true:=by simp;lia
  simp[dn,eJ,aq,hJ,mU,zj,cX,eX,c1,truth,bU,D.ax,bz,rd,c]
 ·have c1:decide (p<n)=false:=by simp;lia
  simp[dn,eJ,aq,hJ,j2,mU,j7,zj,cX,eX,c1,truth,I,gX,bU,D.ax,bz,rd,c];lia
def qK{T:D}{c:List D->D}{to:Nat->Nat}(b:c=.tup\/c=.lst)(hn:n<=10)(F:cv n f)(d:∀ p:Nat,p<2*n->i0 T (.int (p:Nat))=some (.int (to p:Nat)))(U:∀ p,p<2*n->to p<2*n)(inj:∀ p q,p<2*n->q<2*n->to p=to q->p=q) :
  ∃ E:List Nat,E.length=2*n/\(∀ p,p<2*n->at' E (to p)=to (at' f p))/\dn cl jU [c<|L f,T]=some (.tup<|L E):=by
 have h:lz .len (c<|L f)=some (.int<|2*n):=by rcases b with rfl | rfl<;>simp[zZ,Fh,cZ,F.len]
 have it:gA (c<|L f)=some (L f):=by rcases b with rfl | rfl<;>rfl
 have k:=v8 F.len
 have l:aT .mul (.lst [.int 0]) (.int<|2*(n:Int))=some (.lst<|L<|replicate (2*n) 0):=by
  rw[IA];rw[if_pos ⟨by lia,by unfold most;lia,by simp[most];lia⟩]
  have:(2*(n:Int)).toNat=2*n:=by lia
  rw[this];simp[L]
 let#[g,e,E,o3,Y,rfl,Z,a]:=wo (f:=aq cl [2] oP) (tg:=[3,4]) (pr f) (λ_=>rfl)
  (λu J=>∃ (E:List Nat) (o3 Y:Option D),J=[some<|c<|L f,some T,some<|.lst<|L E,o3,Y]/\E.length=2*n/\∀ p∈u,at' E (to p)=to (at' f p))
  (List.range<|2*n) [] [some<|c<|L f,some T,some<|.lst<|L<|replicate (2*n) 0,none,none] (by
   rintro u p v J hu ⟨E,o3,Y,rfl,Z,a⟩
   have O:p<2*n:=by
    have:p∈List.range (2*n):=by
     simp only[nil_append]at hu;rw[hu];simp
    simpa using this
   have R:∀ x∈u,x<2*n/\x≠p:=by
    intro x I;simp only[nil_append]at hu;have nd:(List.range<|2*n).Nodup:=List.nodup_range
    have m:x∈List.range (2*n):=by rw[hu];simp[I]
    rw[hu,List.nodup_append]at nd;exact#[by simpa using m,nd.2.2 x I p<|by simp]
   have t1:=d p O;have t2:=d (at' f p)<|F.lt p O;have pt:=JM (f:=E) (i:=to p) (j:=to<|at' f p) (by have:=U p O;lia);refine#[_,?_,E.set (to p)<|to<|at' f p,some<|.int (p:Nat),some<|.int (at' f p:Nat),rfl,by simp[Z],λx I=>?_]
   ·simp[Kn,Lf,Ma,pr,oP,aq,uh,Kj,cX,t1,t2,D.ax,pt]
   ·rw[jc (by have:=U p O;lia)];simp at I;rcases I with I | rfl
    ·rw[if_neg λc=>(R x I).2<|inj x p (R x I).1 O c];exact a x I
    ·rw[if_pos rfl])
  ⟨_,none,none,rfl,by simp,by simp⟩
 refine#[E,Z,λp O=>a p (by simp[O]),?_];simp only[dn,jU,aq,qM,zM,hJ,zb,j2,j7,zN,cX,c0,cN,itemsS_lst,itemsS_tup];simp[c0,h,l,aG,bh,it,k];rw[e];simp[aq,Ii,items,bU,D.ax,bh,bz]
def AE{T:D}{to:Nat->Nat}(hn:n<=10)(F:cv n f)(O:∀ p:Nat,p<2*n->i0 T (.int (p:Nat))=some (.int (to p:Nat)))(I:∀ p,p<2*n->to p<2*n)(inj:∀ p q,p<2*n->q<2*n->to p=to q->p=q) :
  ∃ E:List Nat,E.length=2*n/\(∀ p,p<2*n->at' E (to p)=to (at' f p))/\dn cl jU [.tup<|L f,T]=some (.tup<|L E):=qK (.inl rfl) hn F O I inj
def lM{c:List D->D}(h:c=.tup\/c=.lst)(hn:n<=10)(F:cv n f)(U:∀ xs:List D,cl fpo [c xs]=some (.int<|xs.length / 2))(R:∀ p:Nat,p<2*n->cl frp [.int n,.int (p:Nat)]=some (.int (rd n p:Nat)))
 (hm:∃ E:List Nat,E.length=2*n/\(∀ p,p<2*n->at' E (rd n p)=rd n (at' f p))/\cl fm [c<|L f,.lst<|L<|rC n]=some (.tup<|L E)) :
  ∃ E:List Nat,E.length=2*n/\(∀ q,q<2*n->at' E q=dV n f q)/\dn cl (gG fm frp fpo) [c<|L f]=some (.tup<|L E):=by
 let#[E,d,e,hm]:=hm;refine#[E,d,λq Z=>?_,?_]
 ·have:=e (rd n q)<|bj Z;rw[bT Z]at this;exact this
 ·have b:aT .mul (.int 2) (.int n)=some (.int<|2*n):=di ∅ ∅;have r2:=fB (n:=2*n) ⋯;rw[show((2*n:Nat):Int)=2*(n:Int) by lia]at r2;have a:=Iv (xs:=List.range<|2*n) (by simp;lia);have po:=U<|L f;rw[cZ,F.len,show(((2*n:Nat):Int) / 2)=(n:Int) by lia]at po
  have O:=By (F:=λI=>(ev cl I<|.call frp<|.cons 1#0<|.cons 2#0 .nil).map some) (tg:=[2]) (J:=[some<|c<|L f,some<|.int n,none]) (g:=λp=>.int (rd n p:Nat)) (λ_=>rfl) (List.range<|2*n) (by
   intro x Y;simp at Y;have:=R x Y
   simp[Kk,fC,cX,c0,this])
  rw[Mi,show(List.range<|2*n).map (λp=>rd n p)=rC n from rfl]at O;simp only[dn,gG,aq,qB,hJ,fC,cX,j2,ye,j7,c0,cN,itemsS_lst,itemsS_tup];simp[c0,po,aX,D.ax,b,r2,a];simp[fC,cX,c0]at O;rw[O];simp[hm,bU,D.ax,bh,bz]
def vQ(hn:n<=10)(F:cv n f)(O:∀ xs:List D,cl fpo [.tup xs]=some (.int<|xs.length / 2))(I:∀ p:Nat,p<2*n->cl frp [.int n,.int (p:Nat)]=some (.int (rd n p:Nat)))
 (hm:∃ E:List Nat,E.length=2*n/\(∀ p,p<2*n->at' E (rd n p)=rd n (at' f p))/\cl fm [.tup<|L f,.lst<|L<|rC n]=some (.tup<|L E)) :
  ∃ E:List Nat,E.length=2*n/\(∀ q,q<2*n->at' E q=dV n f q)/\dn cl (gG fm frp fpo) [.tup<|L f]=some (.tup<|L E):=lM (.inl rfl) hn F O I hm
end
structure Op(r:Nat->Nat)(k:Nat)(W:List Nat):Prop where
 up:W.Pairwise (·<·)
 mem:∀ p,p∈W↔p<k/\k<=r p
section
def Op.push(O:Op r k W)(inv:∀ q,q<m->r (r q)=q)(I:k<m)(h:k<r k):Op r (k+1) (W++[k]):=by
 refine#[?_,λp=>?_]
 ·rw[QF];exact⟨O.up,by simp,λa ha b hb=>by simp at hb;have:=(O.mem a).mp ha;lia⟩
 ·simp only[List.mem_append,mem_singleton,O.mem];constructor
  ·rintro(⟨a,b⟩ | rfl)
   ·refine#[by lia,?_];by_cases c:r p=k
    ·have:=inv p ⋯;lia
    ·lia
   ·lia
  ·rintro⟨a,b⟩;by_cases c:p=k
   ·exact .inr c
   ·exact .inl #[by lia,by lia]
end
section
def uP(t:1<=n)(hn:n<=10)(V:Val n f)(Z:∀ xs:List D,cl fo [.tup xs]=some (.int<|xs.length / 2))(j:cl fc [.int n]=some (.bl true))(i:cl fp [.tup<|L f]=some (.bl true))
 (hi:∃ E:List Nat,E.length=2*n/\(∀ q,q<2*n->at' E q=dV n f q)/\cl fi [.tup<|L f]=some (.tup<|L E))
 (hu:∀ E:List Nat,E.length=2*n->(∀ q,q<2*n->at' E (at' E q)=q)->(∀ q,q<2*n->at' E q≠q)->(∀ q q',q<2*n->q'<2*n->¬ (q<q'/\q'<at' E q/\at' E q<at' E q'))->(∀ q,q<2*n->at' E q<2*n)->cl fu [.tup<|L E]=some (.bl true)) :
  dn cl (iN fu fi fp fc fo) [.tup<|L f]=some (.bl true):=by
 have F:=V.fj;let#[E,s,O,hi]:=hi;have a:∀ q,q<2*n->dV n f q<2*n:=λq I=>bj<|F.lt _<|bj I
 have hu:=hu E s (λq I=>by
   rw[O q I,O _<|a q I];unfold dV
   rw[bT<|F.lt _<|bj I,F.inv,bT I]) (λq I e=>by
   rw[O q I]at e;unfold dV at e;have:=congrArg (rd n) e;rw[bT<|F.lt _<|bj I]at this
   exact F.no _ (bj I) this) (λq q' h h'=>by
   rw[O q h,O q' h']
   exact V.lk q q' h h') (λq I=>by rw[O q I];exact a q I)
 have o:aT .mul (.int 2) (.int n)=some (.int<|2*n):=di ∅ ∅;have d:=half (xs:=L f) (n:=n) (by rw[cZ,F.len]);have po:=Z<|L f;rw[cZ,F.len,show(((2*n:Nat):Int) / 2)=(n:Int) by lia]at po;have m:=v8 F.len
 have l:fits ((List.range<|2*n).map<|pr f)=some ((List.range<|2*n).map<|pr f):=by
  unfold fits;rw[if_pos<|by simp[most];lia]
 have Y:=mw (F:=λR=>((ev cl R<|.cmp .eq 3#0 4#0).bind truth).bind λk=>if k then(ev cl R 3#0).map some else some none) (tg:=[3,4]) (J:=[some<|.tup<|L f,some<|.int n,none,none,none]) (h:=pr f) (g:=λp=>.int (p:Nat)) (c:=λ_=>false) (λ_=>rfl) (List.range<|2*n) (by
  intro x b;simp at b;have r:((x:Int) == (at' f x:Nat))=false:=beq_eq_false_iff_ne.mpr (by have:=F.no x b;lia)
  simp[Kn,Lf,Ma,pr,mU,cX,js,r,truth])
 rw[show(List.range<|2*n).filter (λ_=>false)=[]from List.filter_eq_nil_iff.mpr (by simp),map_nil]at Y
 have U:bW .ne (.int<|2*(n:Int)) (.int<|2*(n:Int))=some false:=by
  rw[Dr];simp
 simp only[dn,iN,aq,qB,kA,hJ,fC,cX,qC,zb,j2,mU,A2,j7,ug,Ad,c0,cN,itemsS_lst,itemsS_tup];simp[c0,po,aX,D.ax,d,o,U,j,i,truth,aq,cN,gA,m,l];simp[mU,cX]at Y;rw[Y];simp[aq,c0,aG,ae,hi,hu,truth,bU,D.ax,bz,NT]
def qP(h:cl fi [x]=some (.bl true)):dn cl (fW fi) [x]=some .cb:=by
 simp[dn,fW,aq,kA,fC,ug,cX,c0,h,truth,bz]
end
def uV{β:Type}{F:St->Option (Option D)}{tg:List Nat}{J:St}{h g:β->D}(I:∀ x,(g x).ax=true):∀ xs:List β,(∀ x∈xs,(aZ tg (h x) J).bind F=some (some<|g x))->bX F tg J (xs.map h)=some (xs.map g)
 | [],_=>rfl
 | x::r,hh=>by
  have a:=hh x (by simp);have b:=uV I r (λy R=>hh y<|by simp[R]);rw[map_cons,bX]
  cases hb:aZ tg (h x) J with
  | none=>rw[hb]at a;cases a
  |some O=>
   rw[hb]at a;simp only[Option.bind_some]at a ⊢;rw[a,b];simp[kP,I]
def uO(g:β->D)(Z:∀ b,(g b).ax=true)(I:List β->St->Prop):∀ (w done:List β) (J:St),(∀ u b v J,done++w=u++b::v->I u J->(∃ O,(aZ tg (g b) J).bind f=some (.nx,O)/\I (u++[b]) O)\/(B/\∃ O,(aZ tg (g b) J).bind f=some (.rt d,O)))->I done J->(∃ R,bp f tg (w.map g) J=some (.nx,R)/\I (done++w) R)\/(B/\∃ R,bp f tg (w.map g) J=some (.rt d,R))
 | [],done,J,_,h=>.inl #[J,rfl,by simpa using h]
 | b::w,done,J,hs,h=>by
  rcases hs done b w J rfl h with⟨O,U,k⟩ | ⟨a,O,U⟩
  ·have go:∀ {r:Option (Out × St)},bp f tg (w.map g) O=r->bp f tg ((b::w).map g) J=r:=λ{r} e=>by
    rw[map_cons,bp,if_pos<|Z b]
    cases hb:aZ tg (g b) J with
    | none=>rw[hb]at U;cases U
    |some Y=>
     rw[hb]at U;simp only[Option.bind_some]at U ⊢;rw[U];exact e
   rcases uO (d:=d) (B:=B) g Z I w (done++[b]) O (λpre e post J i=>hs pre e post J<|by simpa using i) k with⟨R,c,j⟩ | ⟨a,R,c⟩
   ·exact .inl #[R,go c,by simpa using j]
   ·exact .inr #[a,R,go c]
  ·refine .inr #[a,O,?_];rw[map_cons,bp,if_pos<|Z b]
   cases hb:aZ tg (g b) J with
   | none=>rw[hb]at U;cases U
   |some Y=>
    rw[hb]at U;simp only[Option.bind_some]at U ⊢;rw[U];rfl
def Au(hi:(J[i]?).bind id=some (.lst<|xs++[.int p]))(h:ev cl (J.set i<|some<|.lst xs) e=some (.int q))(k:aq cl M (.cons (.c7 (.cst<|.bl<|decide<|p=q) b a) r) (J.set i<|some<|.lst xs)=res):aq cl M (.cons (.D3 i e a b) r) J=res:=by
 have l:kS cl M (.D3 i e a b) J=if decide (p=q)=true then aq cl M b (J.set i<|some<|.lst xs)else aq cl M a (J.set i<|some<|.lst xs):=by
  rw[MM,hi,Option.bind_some];show((xs++[D.int p])[(xs++[D.int p]).length-1]?).bind _=_;rw[show(xs++[D.int p])[(xs++[D.int p]).length-1]?=some (.int p) by simp,Option.bind_some,List.dropLast_concat,h];rfl
 have I:kS cl M (.c7 (.cst<|.bl<|decide<|p=q) b a) (J.set i<|some<|.lst xs)=if decide (p=q)=true then aq cl M b (J.set i<|some<|.lst xs)else aq cl M a (J.set i<|some<|.lst xs):=by
  rfl
 rw[aq,I,<-l,<-aq]at k;exact k
abbrev Nx(r:Nat->Nat)(m:Nat):Prop:=∀ q q',q<q'->q'<r q->r q<m->¬ (r q<r q'\/r q'=q')
structure Oq(r:Nat->Nat)(k:Nat)(W:List Nat):Prop extends Op r k W where
 nx:Nx r k
 al:∀ q q',q<q'->q'<k->k<=r q->r q'≠q'
section
def Oq.push(O:Oq r k W)(inv:∀ q,q<m->r (r q)=q)(U:k<m)(h:k<r k):Oq r (k+1) (W++[k]) where
 toOp:=O.toOp.push inv U h
 nx:=λq q' I R Y=>by
  by_cases c:r q=k
  ·exfalso;have:=inv q ⋯;lia
  ·exact O.nx q q' I R ⋯
 al:=λq q' I R Y=>by
  by_cases c:q'=k
  ·subst c;lia
  ·exact O.al q q' I ⋯ ⋯
def Oq.alone(O:Oq r k [])(inv:∀ q,q<m->r (r q)=q)(Y:k<m)(h:r k=k):Oq r (k+1) []:=by
 have no:∀ q,q<k->k<=r q->False:=λq R I=>by
  have:=(O.mem q).mpr ⟨R,I⟩;cases this
 refine⟨⟨.nil,λp=>⟨λh=>(by cases h),λ⟨a,b⟩=>?_⟩⟩,λq q' R I U=>?_,λq q' R I U=>?_⟩
 ·by_cases c:p=k
  ·subst c;lia
  ·exact(no p ⋯ ⋯).elim
 ·by_cases c:r q=k
  ·exfalso;have:=inv q ⋯;lia
  ·exact O.nx q q' R I ⋯
 ·exact(no q ⋯ ⋯).elim
def Oq.pop(O:Oq r k (W0++[r k]))(inv:∀ q,q<m->r (r q)=q)(Z:k<m)(h:r k<k):Oq r (k+1) W0:=by
 have up:=O.up;rw[QF]at up;refine#[#[up.1,λp=>?_],λq q' R Y d=>?_,λq q' R Y d=>?_]
 ·constructor
  ·intro U;have lt:=up.2.2 p U (r k) (by simp);have:=(O.mem p).mp (by simp[U]);refine#[by lia,?_];by_cases c:r p=k
   ·have i:=inv p ⋯;lia
   ·lia
  ·rintro⟨a,b⟩
   have e:p≠k:=by rintro rfl;lia
   have:=(O.mem p).mpr ⟨by lia,by lia⟩;simp at this;rcases this with h | h
   ·exact h
   ·rw[h,inv k Z]at b;lia
 ·by_cases c:r q=k
  ·have i:=inv q ⋯;rw[c]at i;subst i;rintro(z | z)
   ·have I:=(O.mem q').mpr ⟨by lia,by lia⟩;simp at I;rcases I with I | I
    ·have:=up.2.2 q' I (r k) (by simp);lia
    ·lia
   ·exact O.al (r k) q' R ⋯ ⋯ z
  ·exact O.nx q q' R Y ⋯
 ·by_cases c:q'=k
  ·subst c;lia
  ·exact O.al q q' R ⋯ ⋯
end
def G6{cl:Cl}{m:Nat}{E:List Nat}(hm:m<=1000)(F:E.length=m)(inv:∀ q,q<m->at' E (at' E q)=q)(lt:∀ q,q<m->at' E q<m):∃ b:Bool,dn cl gL [.tup<|L E]=some (.bl b)/\(b=true->Nx (at' E) m)/\(Nx (at' E) m->b=true):=by
 have A:=v8 F
 have st:=uO (B:=¬ Nx (at' E) m) (f:=aq cl [1] cA) (tg:=[2,3]) (d:=.bl false) (pr E) (λ_=>rfl)
  (λu J=>∃ (W:List Nat) (o2 o3:Option D),J=[some<|.tup<|L E,some<|.lst<|L W,o2,o3]/\Oq (at' E) u.length W/\W.length<=u.length)
  (List.range m) [] [some<|.tup<|L E,some<|.lst<|L [],none,none] (by
   rintro u p v J hu ⟨W,o2,o3,rfl,O,C⟩;let#[I,y]:=nZ (g:=id) (by simpa using hu);subst y
   have s:(L W).length<most:=by rw[cZ];unfold most;lia
   by_cases c:u.length<at' E u.length
   ·refine .inl #[_,show aq cl [1] cA [some<|.tup<|L E,some<|.lst<|L W,some<|.int (u.length:Nat),some<|.int (at' E u.length:Nat)]=some (.nx,_)from eG (aO<|aF (k:=true) () ()<|by rw[kF,decide_eq_true ⋯]) (lY () rfl rfl s aK) aK,W++[u.length],some<|.int (u.length:Nat),some<|.int (at' E u.length:Nat),?_,?_,?_]
    ·rw[gg];rfl
    ·rw[length_append];exact O.push inv I c
    ·simp;lia
   ·have U:(ev cl [some<|.tup<|L E,some<|.lst<|L W,some<|.int (u.length:Nat),some<|.int (at' E u.length:Nat)]<|.cmp .gt 3#0 2#0).bind truth=some false:=aO (aF (k:=false) () ()<|by rw[kF,Qh ⋯]);by_cases j:at' E u.length=u.length
    ·have R:(ev cl [some<|.tup<|L E,some<|.lst<|L W,some<|.int (u.length:Nat),some<|.int (at' E u.length:Nat)]<|.cmp .eq 3#0 2#0).bind truth=some true:=aO (aF (k:=true) () ()<|by rw[js,j,beq_self_eq_true])
     cases W with
     |nil=>
      exact .inl #[_,show aq cl [1] cA [some<|.tup<|L E,some<|.lst<|L [],some<|.int (u.length:Nat),some<|.int (at' E u.length:Nat)]=some (.nx,_)from jw U (eG R (aY (by rw[aa rfl];rfl) aK) aK) aK,[],_,_,rfl,by rw[length_append];exact O.alone inv I j,by simp]
     |cons w W=>
      exact .inr ⟨λN=>by
       let#[o,H]:=(O.mem w).mp (Qq ..)
       have wk:at' E w≠u.length:=λz=>by
        have:=inv w ⋯;lia
       exact N w u.length o ⋯ (lt w ⋯)<|.inr j,_,show aq cl [1] cA [some<|.tup<|L E,some<|.lst<|L<|w::W,some<|.int (u.length:Nat),some<|.int (at' E u.length:Nat)]=some (.rt<|.bl false,_)from nh U (fO R<|fO (by rw[aa rfl];rfl)<|aH ah rfl)⟩
    ·have R:(ev cl [some<|.tup<|L E,some<|.lst<|L W,some<|.int (u.length:Nat),some<|.int (at' E u.length:Nat)]<|.cmp .eq 3#0 2#0).bind truth=some false:=aO (aF (k:=false) () ()<|by rw[js,beq_eq_false_iff_ne.mpr ⋯]);have l:at' E u.length∈W:=(O.mem _).mpr ⟨by lia,by rw[inv _ I];exact Qc _⟩;have ne:W≠[]:=List.ne_nil_of_mem l;have Z:=List.dropLast_concat_getLast ne;generalize W.getLast ne=z at Z;generalize W.dropLast=W0 at Z;subst Z
     have hi:(([some<|D.tup<|L E,some<|.lst<|L<|W0++[z],some<|.int (u.length:Nat),some<|.int (at' E u.length:Nat)]:St)[1]?).bind id=some (.lst<|L W0++[.int (z:Nat)]):=by rw[gg];rfl
     by_cases a:z=at' E u.length
     ·refine .inl #[_,show aq cl [1] cA [some<|.tup<|L E,some<|.lst<|L<|W0++[z],some<|.int (u.length:Nat),some<|.int (at' E u.length:Nat)]=some (.nx,_)from jw U (jw R (Au hi ()<|eG (by rw[ah,decide_eq_true ⋯];rfl) aK aK) aK) aK,W0,_,_,rfl,?_,?_]
      ·rw[length_append];subst a;exact O.pop inv I ⋯
      ·simp at C ⊢;lia
     ·exact .inr ⟨λN=>by
       have up:=O.up;rw[QF]at up
       have t:at' E u.length∈W0:=by
        rcases List.mem_append.mp l with h | h
        ·exact h
        ·exact absurd (List.mem_singleton.mp h).symm a
       have x:=up.2.2 _ t z (by simp);have n:=(O.mem z).mp<|by simp
       have G:at' E z≠u.length:=λq=>by
        have:=inv z ⋯;rw[q]at this;exact a this.symm
       have i:=inv u.length I
       exact N (at' E u.length) z x (by rw[i];exact n.1) (by rw[i];exact I) (.inl<|by rw[i];lia),_,show aq cl [1] cA [some<|.tup<|L E,some<|.lst<|L<|W0++[z],some<|.int (u.length:Nat),some<|.int (at' E u.length:Nat)]=some (.rt<|.bl false,_)from nh U (nh R<|Au hi ()<|nh (by rw[ah,Qh ⋯];rfl)<|aH ah rfl)⟩)
  ⟨[],none,none,rfl,⟨⟨by simp,by simp⟩,λq q' _ _ h=>absurd h<|Nat.not_lt_zero _,λq q' _ h=>absurd h<|Nat.not_lt_zero _⟩,by simp⟩
 rw[<-A]at st
 rcases st with⟨Y,e,W,o2,o3,rfl,O,_⟩ | ⟨r,Y,e⟩
 ·refine#[true,aE rfl rfl<|fR (eC aD) rfl<|dD (zp () rfl) e<|aH ah rfl,λ_=>?_,λ_=>rfl];have:=O.nx;rw[nil_append,length_range]at this;exact this
 ·exact⟨false,aE rfl rfl<|fR (eC aD) rfl<|xY (zp () rfl) e,(λh=>by cases h),λN=>absurd N r⟩
abbrev xi(xs:List Int)(p:Nat):Int:=(xs[p]?).getD 0
abbrev nb(xs:List Int)(p:Nat):Bool:=decide (0<=xi xs p/\xi xs p<xs.length)&&decide (xi xs (xi xs p).toNat=p)
def EL(h:p<xs.length):i0 (.tup<|LI xs) (.int (p:Nat))=some (.int<|xi xs p):=by
 show cR _ _=_;rw[gf];simp[LI,xi,h]
def wz(xs:List Int):lz .len (.tup<|LI xs)=some (.int (xs.length:Nat)):=congrArg (λn:Nat=>some<|D.int n)<|AM xs
def bls(g:β->Bool):∀ xs:List β,i6 (xs.map λx=>D.bl<|g x)=some (xs.map g)
 | []=>rfl
 | x::r=>by rw[map_cons,i6,bls g r];rfl
def G0(g:β->Bool)(xs:List β):lz .all (.lst (xs.map λx=>D.bl<|g x))=some (.bl<|xs.all g):=by
 show(i6 (xs.map λx=>D.bl<|g x)).map _=_;rw[bls,Option.map_some,all_map];rfl
section
def KJ(O:∀ i:Int,cl fn [.int i]=some (.bl true))(Y:p<xs.length):dn cl (jr fn) [.tup<|LI xs,.int (p:Nat)]=some (.bl<|nb xs p):=by
 unfold nb;have a1:ev cl [some<|.tup<|LI xs,some<|.int (p:Nat),some<|.int<|xi xs p] (.call fn<|.cons 2#0 .nil)=some (.bl true):=cz ()<|O _;have R:∀ {I:Option (Out × St)} {r:Ss},aq cl [] r [some<|.tup<|LI xs,some<|.int (p:Nat),some<|.int<|xi xs p]=I->aq cl [] (.cons (.asg 2<|.ix 0#0 1#0) r) [some<|.tup<|LI xs,some<|.int (p:Nat),none]=I:=λh=>aJ (cK () ()<|EL Y) rfl h;by_cases c:0<=xi xs p/\xi xs p<xs.length
 ·rw[decide_eq_true c,Bool.true_and];let#[j,Z]:=Int.eq_ofNat_of_zero_le c.1;rw[Z]at c R a1 ⊢;have U:=EL (xs:=xs) (p:=j) ⋯
  exact aE rfl rfl (R (aH (gv a1 (gv (mO ah () (bP ()<|wz xs) (by rw[oQ,decide_eq_true c.1])<|by rw[eX,decide_eq_true c.2]) (aF (cK () () U) () (by
   congr 1)))) rfl))
 ·rw[Qh c,Bool.false_and];by_cases c1:0<=xi xs p
  ·exact aE rfl rfl (R (aH (gv a1 (ku (mO ah () (bP ()<|wz xs) (by rw[oQ,decide_eq_true c1]) (by rw[eX,Qh λz=>c ⟨c1,z⟩])))) rfl))
  ·exact aE rfl rfl<|R<|aH (gv a1<|ku<|CN ah ()<|by rw[oQ,Qh c1]) rfl
def xq(hm:xs.length<=1000)(hb:∀ p:Nat,p<xs.length->cl fb [.tup<|LI xs,.int (p:Nat)]=some (.bl<|nb xs p)):dn cl (jf fb) [.tup<|LI xs]=some (.bl<|(List.range xs.length).all<|nb xs):=by
 have O:=uV (F:=λI=>(ev cl I<|.call fb<|.cons 0#0<|.cons 1#0 .nil).map some) (tg:=[1]) (J:=[some<|.tup<|LI xs,none]) (λ_=>rfl) (List.range xs.length) (by
  intro p R;show(ev cl [some<|.tup<|LI xs,some<|.int (p:Nat)]<|.call fb %[0#0,1#0|_]).map some=_;rw[bH () ()<|hb p<|List.mem_range.mp R]
  rfl)
 exact aE rfl rfl<|aH (gv (Mw () rfl)<|bP (gi (km (bP ()<|wz xs)<|fB hm) (by rw[cZ,length_range];unfold most;lia) O)<|G0 _ _) rfl
def OA(f:List Nat):L f=LI (f.map Int.ofNat):=by unfold L LI;rw[map_map];rfl
def zl(len:h.length=m)(lt:∀ q,q<m->at' h q<m)(inv:∀ q,q<m->at' h (at' h q)=q):(List.range (h.map Int.ofNat).length).all (nb<|h.map Int.ofNat)=true:=by
 have O:∀ q,q<m->xi (h.map Int.ofNat) q=(at' h q:Nat):=λq I=>by simp[xi,at',show q<h.length by lia]
 rw[Qv,length_map,len];intro q I;have I:=List.mem_range.mp I;have l:=lt q I;unfold nb;rw[O q I,Int.toNat_natCast,O _ l,inv q I,length_map,len];rw[decide_eq_true ⟨by lia,by lia⟩];simp
end
structure Dg(T:List Fn)(mx rw dg:Nat):Prop where
 O0:T[mx]?=some lQ
 NV:T[rw]?=some (me mx)
 NZ:T[dg]?=some (gH rw)
def Dg.digits{T:List Fn}{mx rw dg:Nat}(h:Dg T mx rw dg){ns:List Int}(hl:ns.length<=63)(n:Nat){k:Nat}{hF:List Nat}(U:k<=1000)(R:∀ s∈hF,0<s/\s<2 ^ 200)(I:hF.length<=1000) :
  ∃ ds:List Nat,lV ds hF/\au T (n+3) dg [.lst<|LI ns,.int k,.lst<|L hF]=some (.lst<|L ds):=by
 let#[r,O]:=Gs (λs=>by
  let#[m,hm]:=Hw (cl:=au T n) s
  exact#[m,(aA h.O0).trans hm]) hl U
 let#[ds,Z,Y]:=zm ((aA h.NV).trans O) R I;exact#[ds,Z,(aA h.NZ).trans Y]
structure Ck(T:List Fn)(nu pc pa nb un ib cf po rp ir mv:Nat):Prop where
 OB:T[nu]?=some jD
 O3:T[pc]?=some (fM nu)
 OQ:T[pa]?=some (jf nb)
 OF:T[nb]?=some (jr nu)
 Ox:T[un]?=some gL
 ND:T[ib]?=some (iN un ir pa pc po)
 O9:T[cf]?=some (fW ib)
 Ip:T[po]?=some j0
 NL:T[rp]?=some eJ
 Iy:T[ir]?=some (gG mv rp po)
 LV:T[mv]?=some jU
section
variable{T:List Fn}{nu pc pa nb un ib cf po rp ir mv:Nat}
def Ck.num(h:Ck T nu pc pa nb un ib cf po rp ir mv)(n:Nat)(i:Int):au T (n+1) nu [.int i]=some (.bl true):=(aA h.OB).trans<|tL i
def Ck.D0(h:Ck T nu pc pa nb un ib cf po rp ir mv)(n:Nat)(i:Int):au T (n+2) pc [.int i]=some (.bl<|decide<|1<=i/\i<=10):=(aA h.O3).trans<|om (h.num n) i
def Ck.of(h:Ck T nu pc pa nb un ib cf po rp ir mv)(n:Nat)(xs:List D):au T (n+1) po [.tup xs]=some (.int<|xs.length / 2):=(aA h.Ip).trans<|wV xs
def Ck.ofL(h:Ck T nu pc pa nb un ib cf po rp ir mv)(n:Nat)(xs:List D):au T (n+1) po [.lst xs]=some (.int<|xs.length / 2):=(aA h.Ip).trans<|xu xs
def Ck.half(h:Ck T nu pc pa nb un ib cf po rp ir mv)(n:Nat){k:Nat}{f:List Nat}(I:f.length=2*k):au T (n+1) po [.tup<|L f]=some (.int k):=by
 rw[h.of,cZ,I];congr 2;lia
def Ck.place(h:Ck T nu pc pa nb un ib cf po rp ir mv)(n:Nat){k p:Nat}(I:p<2*k):au T (n+1) rp [.int k,.int (p:Nat)]=some (.int (rd k p:Nat)):=(aA h.NL).trans<|pJ I
def Ck.move(h:Ck T nu pc pa nb un ib cf po rp ir mv)(n:Nat){k:Nat}{f:List Nat}{U:D}{to:Nat->Nat}(O:k<=10)(F:cv k f)(R:∀ p:Nat,p<2*k->i0 U (.int (p:Nat))=some (.int (to p:Nat)))(I:∀ p,p<2*k->to p<2*k)(inj:∀ p q,p<2*k->q<2*k->to p=to q->p=q) :
  ∃ E:List Nat,E.length=2*k/\(∀ p,p<2*k->at' E (to p)=to (at' f p))/\au T (n+1) mv [.tup<|L f,U]=some (.tup<|L E):=by
 let#[E,a,Z,Y]:=AE O F R I inj;exact#[E,a,Z,(aA h.LV).trans Y]
def Ck.round(h:Ck T nu pc pa nb un ib cf po rp ir mv)(n:Nat){k:Nat}{f:List Nat}(O:k<=10)(F:cv k f):∃ E:List Nat,E.length=2*k/\(∀ q,q<2*k->at' E q=dV k f q)/\au T (n+2) ir [.tup<|L f]=some (.tup<|L E):=by
 let#[E,Z,Y,U]:=vQ O F (h.of n) (λp I=>h.place n I) (h.move n O F (λp I=>yp I) (λp I=>bj I) λp q I R h=>jh I R h);exact#[E,Z,Y,(aA h.Iy).trans U]
def Ck.frame(h:Ck T nu pc pa nb un ib cf po rp ir mv)(n:Nat){k:Nat}{f:List Nat}(R:1<=k)(I:k<=10)(V:Val k f):au T (n+4) ib [.tup<|L f]=some (.bl true) :=
 (aA h.ND).trans (uP R I V (h.of<|n+2) (by rw[h.D0<|n+1,decide_eq_true ⋯])
  (by
   have F:=V.fj;have p:=(aA h.OQ).trans (xq (xs:=f.map Int.ofNat) (by rw[length_map,F.len];lia) λq O=>(aA h.OF).trans<|KJ (h.num n) O);rw[zl F.len F.lt λq _=>F.inv q,<-OA]at p
   exact p)
  (h.round (n+1) I V.fj) (λE a b c d l=>(aA h.Ox).trans (by
   let#[w,e,_,hb]:=G6 ⋯ a b l
   rw[hb λq q' x y z w=>by
    have:=d q q' ⋯ ⋯;have:=c q' ⋯
    lia]at e
   exact e)))
def Ck.check(h:Ck T nu pc pa nb un ib cf po rp ir mv)(n:Nat){k:Nat}{f:List Nat}(O:1<=k)(I:k<=10)(V:Val k f):au T (n+5) cf [.tup<|L f]=some .cb:=(aA h.O9).trans<|qP<|h.frame n O I V
def Ck.ql(h:Ck T nu pc pa nb un ib cf po rp ir mv){cp:Nat}(I:T[cp]?=some (dm pc))(n:Nat){k:Nat}(R:1<=k)(O:k<=10):au T (n+3) cp [.int k]=some .cb:=(aA I).trans<|sE<|by rw[h.D0,decide_eq_true ⋯]
def Ck.plain(h:Ck T nu pc pa nb un ib cf po rp ir mv){Y R:Nat}(O:T[Y]?=some (dm pc))(I:T[R]?=some (iW Y))(n:Nat){k:Nat}(Z:1<=k)(U:k<=10):au T (n+4) R [.int k]=some (.tup<|L<|bf k):=(aA I).trans<|run_plain U<|h.ql O n Z U
end
inductive Pl:Nat->D->Prop
 | int (n:Nat) (i:Int):Pl n (.int i)
 | bl (n:Nat) (b:Bool):Pl n (.bl b)
 | str (n:Nat) (x:PySem.Str):Pl n (.str x)
 | tup (n:Nat) (xs:List D) (hl:xs.length<=1000) (h:∀ x∈xs,Pl n x):Pl (n+1) (.tup xs)
 | lst (n:Nat) (xs:List D) (hl:xs.length<=1000) (h:∀ x∈xs,Pl n x):Pl (n+1) (.lst xs)
def Pl.L{n:Nat}{xs:List Nat}(h:xs.length<=1000):Pl (n+1) (.tup<|L xs):=.tup _ _ (by rw[cZ];exact h) λx I=>by
 let#[a,_,rfl]:=List.mem_map.mp I;exact .int _ _
abbrev Cyc(a b c d:Nat):Prop:=(a<b/\b<c/\c<d)\/(b<c/\c<d/\d<a)\/(c<d/\d<a/\a<b)\/(d<a/\a<b/\b<c)
def xB{m:Nat}{r:Nat->Nat}(inv:∀ q,q<m->r (r q)=q)(lk:∀ q q',q<m->q'<m->¬ (q<q'/\q'<r q/\r q<r q'))(ha:a<m)(hb:b<m)(I:c<m)(hd:d<m)(R:r a=c)(O:r b=d):¬ Cyc a b c d:=by
 have Y:r c=a:=by rw[<-R];exact inv a ha
 have U:r d=b:=by rw[<-O];exact inv b hb
 rintro(h | h | h | h)
 ·exact lk a b ha hb ⟨h.1,by lia,by lia⟩
 ·exact lk b c hb I ⟨h.1,by lia,by lia⟩
 ·exact lk c d I hd ⟨h.1,by lia,by lia⟩
 ·exact lk d a hd ha ⟨h.1,by lia,by lia⟩
def jT(R:f.length=n)(O:g.length=n)(h:∀ x,x<n->at' f x=at' g x):f=g:=by
 refine List.ext_getElem? λx=>?_;by_cases I:x<n
 ·rw[jY ⋯,jY ⋯,h x I]
 ·rw[List.getElem?_eq_none ⋯,List.getElem?_eq_none ⋯]
structure Way(n:Nat)(to ba:Nat->Nat):Prop where
 lt:∀ p,p<2*n->to p<2*n
 blt:∀ p,p<2*n->ba p<2*n
 tb:∀ p,p<2*n->to (ba p)=p
 bt:∀ p,p<2*n->ba (to p)=p
 cyc:∀ a b c d,a<2*n->b<2*n->c<2*n->d<2*n->a<b->b<c->c<d->Cyc (rd n<|ba<|rd n a) (rd n<|ba<|rd n b) (rd n<|ba<|rd n c) (rd n<|ba<|rd n d)\/Cyc (rd n<|ba<|rd n d) (rd n<|ba<|rd n c) (rd n<|ba<|rd n b) (rd n<|ba<|rd n a)
abbrev dP(n:Nat)(to ba:Nat->Nat)(f:List Nat):List Nat:=(List.range<|2*n).map λp=>to<|at' f<|ba p
def wM(n:Nat)(to ba:Nat->Nat)(f:List Nat):(dP n to ba f).length=2*n:=by simp[dP]
def iU(h:p<2*n):at' (dP n to ba f) p=to (at' f<|ba p):=by
 simp[dP,at',h]
def Way.inj(W:Way n to ba)(O:p<2*n)(I:q<2*n)(h:to p=to q):p=q:=by rw[<-W.bt p O,h,W.bt q I]
def Way.val{n:Nat}{to ba:Nat->Nat}(W:Way n to ba)(V:Val n f):Val n (dP n to ba f):=by
 have F:=V.fj;have hl:=wM n to ba f;refine#[#[hl,λx R=>?_,λx=>?_,λx R e=>?_],λq q' I O h=>?_]
 ·rw[iU R];exact W.lt _<|F.lt _<|W.blt _ R
 ·by_cases R:x<2*n
  ·have U:=F.lt _<|W.blt _ R;rw[iU R,iU<|W.lt _ U,W.bt _ U,F.inv,W.tb _ R]
  ·rw[jV (x:=x) ⋯,jV ⋯]
 ·rw[iU R]at e;have U:=F.lt _ (W.blt _ R)
  have:at' f (ba x)=ba x:=by rw[<-W.bt _ U,e]
  exact F.no _ (W.blt _ R) this
 ·let#[U,i,g]:=h
  have Y:∀ q,q<2*n->dV n f (dV n f q)=q:=λq I=>by
   unfold dV;rw[bT<|F.lt _<|bj I,F.inv,bT I]
  have key:∀ q,q<2*n->dV n (dP n to ba f) q<2*n/\dV n f (rd n<|ba<|rd n q)=rd n (ba<|rd n<|dV n (dP n to ba f) q):=λq I=>by
   have a1:=bj I;have a2:=W.blt _ a1;have a3:=F.lt _ a2;unfold dV;rw[iU a1];refine#[bj<|W.lt _ a3,?_];rw[bT a2,bT<|W.lt _ a3,W.bt _ a3]
  let#[a,d]:=key q I;let#[Z,b]:=key q' O;have bl:∀ q,q<2*n->rd n (ba<|rd n q)<2*n:=λq I=>bj<|W.blt _<|bj I;rcases W.cyc q q' _ _ I O a Z U i g with c | c
  ·exact xB Y V.lk (bl _ I) (bl _ O) (bl _ a) (bl _ Z) d b c
  ·refine xB Y V.lk (bl _ Z) (bl _ a) (bl _ O) (bl _ I) ?_ ?_ c
   ·rw[<-b,Y _<|bl _ O]
   ·rw[<-d,Y _<|bl _ I]
abbrev lg(n p:Nat):Nat:=if p<n then p+n else p-n
abbrev iv(n p:Nat):Nat:=if p<n then n-1-p else 3*n-1-p
def ue(c:q<n):rd n q=q:=by unfold rd;rw[if_pos c]
def uv(c:¬ q<n):rd n q=3*n-1-q:=by unfold rd;rw[if_neg c]
def vI(c:q<n):lg n q=q+n:=by unfold lg;rw[if_pos c]
def uK(c:¬ q<n):lg n q=q-n:=by unfold lg;rw[if_neg c]
def dM(c:q<n):iv n q=n-1-q:=by unfold iv;rw[if_pos c]
def ig(c:¬ q<n):iv n q=3*n-1-q:=by unfold iv;rw[if_neg c]
def pK(I:p<2*n):lg n p<2*n/\lg n (lg n p)=p:=by
 by_cases c:p<n
 ·rw[vI c,uK ⋯];exact#[by lia,by lia]
 ·rw[uK c,vI<|by omega];exact#[by lia,by lia]
def qe(I:p<2*n):iv n p<2*n/\iv n (iv n p)=p:=by
 by_cases c:p<n
 ·rw[dM c,dM<|by omega];exact#[by omega,by lia]
 ·rw[ig c,ig<|by omega];exact#[by omega,by lia]
def pB(I:q<2*n):rd n (lg n<|rd n q)=2*n-1-q:=by
 by_cases c:q<n
 ·rw[ue c,vI c,uv ⋯];lia
 ·rw[uv c,uK (by omega),ue<|by omega];lia
def pQ(I:q<2*n):rd n (iv n<|rd n q)=iv n q:=by
 by_cases c:q<n
 ·rw[ue c,dM c,ue<|by omega]
 ·rw[uv c,ig (by omega),uv (by omega),ig c];lia
def k7(n:Nat):Way n (lg n) (lg n) :=
 ⟨λp I=>(pK I).1,λp I=>(pK I).1,λp I=>(pK I).2,λp I=>(pK I).2,λa b c d ha hb O hd Y U R=>.inr (.inl (by
  rw[pB ha,pB hb,pB O,pB hd]
  exact#[by lia,by lia,by omega]))⟩
def rJ(n:Nat):Way n (iv n) (iv n):=by
 refine#[λp I=>(qe I).1,λp I=>(qe I).1,λp I=>(qe I).2,λp I=>(qe I).2,λa b c d ha hb f hd Y R U=>.inr ?_];rw[pQ ha,pQ hb,pQ f,pQ hd];by_cases O:d<n
 ·rw[dM O,dM<|QA U O,dM<|QA R<|QA U O,dM<|QA Y<|QA R<|QA U O];exact .inl #[by omega,by lia,by lia]
 ·rw[ig O];by_cases cc:c<n
  ·rw[dM cc,dM<|QA R cc,dM<|QA Y<|QA R cc];exact .inr<|.inl #[by omega,by lia,by lia]
  ·rw[ig cc];by_cases Z:b<n
   ·rw[dM Z,dM<|QA Y Z];exact .inr<|.inr<|.inl #[by omega,by lia,by lia]
   ·rw[ig Z];by_cases e:a<n
    ·rw[dM e];exact .inr<|.inr<|.inr #[by omega,by lia,by omega]
    ·rw[ig e];exact .inl #[by lia,by omega,by lia]
def dZ:∀ {a b:List Nat},a.Nodup->(∀ x∈a,x∈b)->a.length<=b.length
 | [],_,_,_=>zero_le _
 | x::r,b,hn,h=>by
  rw[List.nodup_cons]at hn;have O:=h x Qq;have:=dZ (b:=b.erase x) hn.2 λy I=>(List.mem_erase_of_ne λe=>hn.1<|by rw[<-e];exact I).mpr<|h y<|Qm _ I;rw[List.length_erase_of_mem O]at this;have:0<b.length:=List.length_pos_of_mem O;simp only[length_cons];lia
def oM:∀ xs:List D,(∀ x∈xs,f x x=some true)->eqs f xs xs=some true
 | [],_=>rfl
 | x::r,h=>by
  rw[eqs,h x Qq,Option.bind_some,oM r λy I=>h y<|Qm _ I];rfl
def Ff:∀ (k n:Nat) (d:D),Pl k d->k<=n->i1 n d d=some true:=by
 intro k
 induction k with
 |zero=>
  intro n d p _
  cases p with
  | int i=>simp[IF]
  | bl i=>simp[IY]
  | str i=>simp[ED]
 |succ k O=>
  intro n d p hn
  let#[m,rfl]:∃ m,n=m+1:=#[n-1,by lia]
  cases p with
  | int i=>simp[IF]
  | bl i=>simp[IY]
  | str i=>simp[ED]
  | tup _ xs hl h=>rw[II,oM xs λx I=>O m x (h x I) ⋯];simp
  | lst _ xs hl h=>rw[OP,oM xs λx I=>O m x (h x I) ⋯];simp
def j9(p:Pl k d)(h:k<=8):bW .ne d d=some false:=by
 show(i1 8 d d).map not=some false;rw[Ff k 8 d p h];rfl
def Fv(p:Pl k d)(h:k<=8):bW .eq d d=some true:=Ff k 8 d p h
def M6(hl:ns.length<=63):m9 (.lq<|LI ns) (.int 63)=some (.lst<|LI ns):=by
 show some (D.lst<|(LI ns).take<|cutAt (LI ns).length 63)=_;rw[List.take_of_length_le]
 have:(LI ns).length=ns.length:=by simp[LI]
 rw[this];unfold cutAt;rw[if_pos ∅];have:(63:Int).toNat=63:=rfl;lia
section
def Mx(n:Nat):aT .mul (.int 2) (.int (n:Nat))=some (.int ((2*n:Nat):Int)):=by
 rw[di ∅ ∅];simp
def CW(h:p<2*n):i0 (.tup<|L<|bf n) (.int (p:Nat))=some (.int (lg n p:Nat)):=by
 rw[uB (by simp[bf];lia),plain_at];unfold lg;split
 ·rw[add_comm]
 ·rfl
abbrev lS(n:Nat):List Nat:=(List.range n).reverse++(range' n n).reverse
def GA(h:p<2*n):at' (lS n) p=iv n p:=by
 unfold at' lS iv;split
 ·rename_i c;rw[Ql (by simpa using c),List.getElem?_reverse<|by simpa using c];simp;rw[List.getElem?_range<|by omega];rfl
 ·rename_i c;rw[Qo (by simp;lia),List.getElem?_reverse<|by simp;omega];simp;rw[List.getElem?_range'<|by omega];simp;lia
def IC(h:p<2*n):i0 (.lst<|L<|lS n) (.int (p:Nat))=some (.int (iv n p:Nat)):=by
 show cR (L<|lS n) (p:Int)=_;rw[gf,pT,jY (by simp[lS];lia),GA h];rfl
def Mc(hn:n<=10)(h:(J[i]?).bind id=some (.int n)):ev cl J (.bin .add (.rev<|.dd<|.var i)<|.rev<|.ez (.var i)<|.bin .mul 2#1<|.var i)=some (.lst<|L<|lS n):=by
 have R:=fB (n:=n) ⋯;have I:=dU (a:=n) (b:=2*n) ⋯ ⋯;rw[show 2*n-n=n by lia,show((2*n:Nat):Int)=2*(n:Int) by lia]at I;have O:aT .mul (.int 2) (.int (n:Int))=some (.int<|2*(n:Int)):=di ∅ ∅;simp only[j2,j7,Fc,uN,wq,cX,h,Option.bind_some,R,I,O,Option.map_some];show(if(L<|List.range n).reverse.length+(L<|range' n n).reverse.length<=most then some (D.lst<|(L<|List.range n).reverse++(L<|range' n n).reverse)else none)=_;rw[if_pos<|by simp[L,most];lia];simp[lS,L]
def Dk(U:1<=n)(hn:n<=10)(F:cv n f)(R:cl fc [.tup<|L f]=some .cb)(O:cl fo [.tup<|L f]=some (.int n))(I:cl fp [.int n]=some (.tup<|L<|bf n))
 (hm:cl fm [.tup<|L f,.tup<|L<|bf n]=some (.tup<|L<|dP n (lg n) (lg n) f)):dn cl (qq fm fp fo fc) [.tup<|L f]=some (.tup<|L<|dP n (lg n) (lg n) f):=by
 simp[dn,qq,aq,Af,hJ,fC,cX,c0,R,O,I,hm,bU,D.ax,bh,bz]
def vS(R:1<=n)(hn:n<=10)(F:cv n f)(O:cl fc [.tup<|L f]=some .cb)(I:cl fo [.tup<|L f]=some (.int n))
 (hm:cl fm [.tup<|L f,.lst<|L<|lS n]=some (.tup<|L<|dP n (iv n) (iv n) f)):dn cl (lG fm fo fc) [.tup<|L f]=some (.tup<|L<|dP n (iv n) (iv n) f) :=
 aE rfl rfl (cj (cz () O)<|aJ (cz () I) rfl<|aH (bH () (Mc hn rfl) hm)<|by simp[bU,D.ax,bh])
end
section
variable{nu pc pa nb un ib cf po rp ir mv:Nat}
def Lk{n:Nat}{to ba:Nat->Nat}{f E:List Nat}(W:Way n to ba)(R:E.length=2*n)(O:∀ p,p<2*n->at' E (to p)=to (at' f p)):E=dP n to ba f:=by
 refine jT R (wM ..) λp I=>?_;rw[iU I];have:=O (ba p)<|W.blt _ I;rw[W.tb _ I]at this;exact this
def Ck.FA(h:Ck T nu pc pa nb un ib cf po rp ir mv)(n:Nat){k:Nat}{f:List Nat}{U:D}(R:k<=10)(F:cv k f)(W:Way k to ba)(Y:∀ p:Nat,p<2*k->i0 U (.int (p:Nat))=some (.int (to p:Nat))):au T (n+1) mv [.tup<|L f,U]=some (.tup<|L<|dP k to ba f):=by
 let#[E,b,a,Z]:=h.move n R F Y W.lt λp q O I e=>W.inj O I e;rw[Z,Lk W b a]
def Ck.over(h:Ck T nu pc pa nb un ib cf po rp ir mv)(U:T[cp]?=some (dm pc))(O:T[pl]?=some (iW cp))(R:T[ov]?=some (qq mv pl po cf))(n:Nat)(Y:1<=k)(I:k<=10)(V:Val k f):au T (n+6) ov [.tup<|L f]=some (.tup<|L<|dP k (lg k) (lg k) f) :=
 (aA R).trans (Dk Y I V.fj (h.check n Y I V) (h.half (n+4) V.fj.len) (h.plain U O (n+1) Y I) (h.FA (n+4) I V.fj (k7 k) λp Z=>CW Z))
def Ck.mirrored(h:Ck T nu pc pa nb un ib cf po rp ir mv)(I:T[mi]?=some (lG mv po cf))(n:Nat)(R:1<=k)(O:k<=10)(V:Val k f):au T (n+6) mi [.tup<|L f]=some (.tup<|L<|dP k (iv k) (iv k) f) :=
 (aA I).trans (vS R O V.fj (h.check n R O V) (h.half (n+4) V.fj.len) (h.FA (n+4) O V.fj (rJ k) λp U=>IC U))
end
structure hD(m:Nat)(a b:Nat->Nat):Prop where
 al:∀ x,x<m->a x<m
 bl:∀ x,x<m->b x<m
 ai:∀ x,x<m->a (a x)=x
 bi:∀ x,x<m->b (b x)=x
def hD.swap(T:hD m a b):hD m b a:=#[T.bl,T.al,T.bi,T.ai]
abbrev wk(a b:Nat->Nat)(x:Nat):Nat->Nat
 | 0=>x
 | k+1=>if k%2=0 then b (wk a b x k)else a (wk a b x k)
abbrev f6(a b:Nat->Nat)(x k:Nat):Prop:=wk a b x (k+1)=wk a b x k\/wk a b x (k+1)=x
noncomputable instance{a b:Nat->Nat}{x k:Nat}:Decidable (f6 a b x k):=inferInstanceAs<|Decidable<|_\/_
section
def fq(h:k%2=0):wk a b x (k+1)=b (wk a b x k):=by rw[wk,if_pos h]
def iH(h:k%2=1):wk a b x (k+1)=a (wk a b x k):=by rw[wk,if_neg ⋯]
def iG(T:hD m a b)(I:x<m):∀ k,wk a b x k<m
 | 0=>I
 | k+1=>by
  rw[wk];split
  ·exact T.bl _<|iG T I k
  ·exact T.al _<|iG T I k
def kj(T:hD m a b)(I:x<m)(k:Nat):(if k%2=0 then b (wk a b x<|k+1)else a (wk a b x<|k+1))=wk a b x k:=by
 have h:=iG T I k;rw[wk];split
 ·exact T.bi _ h
 ·exact T.ai _ h
def Jo(T:hD m a b)(I:x<m)(O:i%2=j%2)(h:wk a b x (i+1)=wk a b x (j+1)):wk a b x i=wk a b x j:=by
 rw[<-kj T I i,<-kj T I j,h,O]
def yn(T:hD m a b)(I:x<m)(O:∀ j,j<k->¬ f6 a b x j)(hd:d%2=1):∀ i,i+(d+1)<=k->wk a b x i≠wk a b x (i+(d+1))
 | 0,R,h=>O d ⋯<|.inr<|by rw[zero_add]at h;exact h.symm
 | i+1,R,h=>yn T I O hd i ⋯<|Jo T I (i:=i) (j:=i+(d+1)) ⋯<|by rw[h];congr 1;lia
def Bl(T:hD m a b)(I:x<m)(O:∀ j,j<k->¬ f6 a b x j):∀ (c i:Nat),i+(2*c+1)<=k->wk a b x i≠wk a b x (i+(2*c+1))
 | 0,i,U,h=>O i ⋯<|.inl h.symm
 | c+1,i,U,h=>by
  refine Bl T I O c (i+1) ⋯ ?_;have R:=kj T I<|i+(2*c+2);rw[show i+(2*c+2)+1=i+(2*(c+1)+1) by lia,<-h]at R
  have Y:wk a b x (i+1)=if(i+(2*c+2))%2=0 then b (wk a b x i)else a (wk a b x i):=by
   rw[wk]
   have:(i+(2*c+2))%2=i%2:=by lia
   rw[this]
  rw[Y,R];congr 1;lia
def mN(T:hD m a b)(I:x<m)(O:∀ j,j<k->¬ f6 a b x j)(U:i<j)(R:j<=k):wk a b x i≠wk a b x j:=by
 let#[d,rfl]:∃ d,j=i+(d+1):=#[j-i-1,by lia]
 by_cases c:d%2=1
 ·exact yn T I O c i R
 ·let#[e,rfl]:∃ e,d=2*e:=#[d / 2,by lia]
  exact Bl T I O e i R
def least{P:Nat->Prop} [DecidablePred P]:∀ n,P n->∃ k,k<=n/\P k/\∀ j,j<k->¬ P j:=by
 intro n
 induction n using Nat.strongRecOn with
 |_ n R=>
  intro h;by_cases c:∃ j,j<n/\P j
  ·let#[j,O,I]:=c;let#[k,Z,Y,U]:=R j O I;exact#[k,by lia,Y,U]
  ·exact#[n,Qc _,h,λj O I=>c #[j,O,I]]
def kL(T:hD m a b)(R:x<m):∃ k,k<m/\f6 a b x k/\∀ j,j<k->¬ f6 a b x j:=by
 by_cases c:∃ k,k<m/\f6 a b x k
 ·let#[k,g,e]:=c;let#[j,f,d,Z]:=least k e;exact#[j,by lia,d,Z]
 ·exfalso;have Y:∀ j,j<m->¬ f6 a b x j:=λj O h=>c ⟨j,O,h⟩
  have nd:((List.range<|m+1).map<|wk a b x).Nodup:=by
   rw[Qu,Qx];refine List.Pairwise.imp_of_mem ?_<|List.pairwise_lt_range (n:=m+1);intro i j hi O I;exact mN T R Y I (by have:=List.mem_range.mp O;lia)
  have:=dZ nd (b:=List.range m) λy U=>by
   let#[i,_,rfl]:=List.mem_map.mp U;exact List.mem_range.mpr<|iG T R i
  simp at this;lia
inductive Cn (a b:Nat->Nat) (x:Nat):Nat->Prop
 | refl:Cn a b x x
 | sa {y:Nat}:Cn a b x y->Cn a b x (a y)
 | sb {y:Nat}:Cn a b x y->Cn a b x (b y)
def Cn.lt(T:hD m a b)(O:x<m)(h:Cn a b x y):y<m:=by
 induction h with
 | refl=>exact O
 | sa _ I=>exact T.al _ I
 | sb _ I=>exact T.bl _ I
def Cn.trans(h:Cn a b x y)(h':Cn a b y z):Cn a b x z:=by
 induction h' with
 | refl=>exact h
 | sa _ I=>exact .sa I
 | sb _ I=>exact .sb I
def Cn.symm(T:hD m a b)(I:x<m)(h:Cn a b x y):Cn a b y x:=by
 induction h with
 | refl=>exact .refl
 |@sa y h ih=>
  have:=Cn.sa (a:=a) (b:=b)<|Cn.refl (x:=a y);rw[T.ai _<|h.lt T I]at this;exact this.trans ih
 |@sb y h ih=>
  have:=Cn.sb (a:=a) (b:=b)<|Cn.refl (x:=b y);rw[T.bi _<|h.lt T I]at this;exact this.trans ih
def Cn.flip(h:Cn a b x y):Cn b a x y:=by
 induction h with
 | refl=>exact .refl
 | sa _ I=>exact .sb I
 | sb _ I=>exact .sa I
def mV:∀ k,Cn a b x (wk a b x k)
 | 0=>.refl
 | k+1=>by
  rw[wk];split
  ·exact .sb<|mV k
  ·exact .sa<|mV k
def sy(T:hD m a b)(I:x<m)(st:f6 a b x k)(Z:∀ j,j<k->¬ f6 a b x j)(h:a x=x\/∀ y,Cn a b x y->a y≠y/\b y≠y)(Y:Cn a b x y):∃ i,i<=k/\wk a b x i=y:=by
 have d:∃ i,i<=k/\wk a b x i=b x:=by
  by_cases c:k=0
  ·subst c;refine#[0,Qc _,?_];rcases st with st | st
   ·rw[fq rfl]at st;exact st.symm
   ·rw[fq rfl]at st;exact st.symm
  ·exact#[1,by lia,fq rfl]
 have key:∀ j,0<j->j<=k->(∃ i,i<=k/\wk a b x i=a (wk a b x j))/\∃ i,i<=k/\wk a b x i=b (wk a b x j):=by
  intro j l g;have prev:=kj T I<|j-1;rw[show j-1+1=j by omega]at prev
  have next:∃ i,i<=k/\wk a b x i=wk a b x (j+1):=by
   by_cases c:j<k
   ·exact#[j+1,by lia,rfl]
   ·have:j=k:=by lia
    subst this;rcases st with st | st
    ·exact#[j,Qc _,st.symm]
    ·exact#[0,by lia,st.symm]
  by_cases c:j%2=0
  ·rw[if_neg ⋯]at prev
   rw[fq c]at next
   exact#[#[j-1,by lia,prev.symm],next]
  ·rw[if_pos ⋯]at prev
   rw[iH ⋯]at next
   exact#[next,#[j-1,by omega,prev.symm]]
 have f:∃ i,i<=k/\wk a b x i=a x:=by
  rcases h with h | h
  ·exact#[0,by lia,h.symm]
  ·rcases st with st | st
   ·exfalso;have R:=h _<|mV k;by_cases c:k%2=0
    ·rw[fq c]at st;exact R.2 st
    ·rw[iH ⋯]at st;exact R.1 st
   ·by_cases c:k%2=0
    ·exfalso;rw[fq c]at st
     have e:wk a b x k=b x:=by
      have:=congrArg b st;rw[T.bi _<|iG T I k]at this;exact this
     by_cases U:k=0
     ·subst U;exact(h x .refl).2 e.symm
     ·have:wk a b x 1=b x:=fq rfl;exact mN T I Z (i:=1) (j:=k) ⋯ (Qc _)<|by rw[this,e]
    ·rw[iH ⋯]at st
     exact⟨k,Qc _,by
      have:=congrArg a st;rw[T.ai _<|iG T I k]at this
      exact this⟩
 induction Y with
 | refl=>exact#[0,by lia,rfl]
 |sa _ O=>
  let#[i,hi,rfl]:=O;by_cases c:i=0
  ·subst c;exact f
  ·exact(key i ⋯ hi).1
 |sb _ O=>
  let#[i,hi,rfl]:=O;by_cases c:i=0
  ·subst c;exact d
  ·exact(key i ⋯ hi).2
def qQ(T:hD m a b)(I:x<m)(st:f6 a b x k)(R:∀ j,j<k->¬ f6 a b x j)(hb:∀ y,y<m->b y≠y)(ha:a x=x):k%2=1/\a (wk a b x k)=wk a b x k:=by
 have O:=iG T I k;by_cases c:k%2=0
 ·exfalso;rcases st with st | st
  ·rw[fq c]at st;exact hb _ O st
  ·rw[fq c]at st
   have e:wk a b x k=b x:=by
    have:=congrArg b st;rw[T.bi _ O]at this;exact this
   by_cases U:k=0
   ·subst U;exact hb x I e.symm
   ·have:wk a b x 1=b x:=fq rfl;exact mN T I R (i:=1) (j:=k) ⋯ (Qc _)<|by rw[this,e]
 ·refine#[by lia,?_];rcases st with st | st
  ·rw[iH ⋯]at st;exact st
  ·exfalso;rw[iH ⋯]at st
   have e:wk a b x k=x:=by rw[<-T.ai _ O,st,ha]
   exact mN T I R (i:=0) (j:=k) ⋯ (Qc _) e.symm
end
structure cu(m:Nat)(a b:Nat->Nat)(S:List Nat):Prop where
 lt:∀ s∈S,s<m
 nd:S.Pairwise λs t=>¬ Cn a b s t
 ring:∀ s∈S,∀ y,Cn a b s y->a y≠y/\b y≠y
 all:∀ x,x<m->(∃ s,s<m/\(a s=s\/b s=s)/\Cn a b s x)\/∃ s∈S,Cn a b s x
def cu.le{m:Nat}{a b:Nat->Nat}(T:hD m a b){S Y:List Nat}(R:cu m a b S)(f:cu m a b Y):S.length<=Y.length:=by
 have pick:∀ s∈S,∃ t∈Y,Cn a b t s:=λs I=>by
  rcases f.all s (R.lt s I)with⟨q,U,O,d⟩ | h
  ·exfalso;have:=R.ring s I q<|d.symm T U;rcases O with O | O
   ·exact this.1 O
   ·exact this.2 O
  ·exact h
 have:∀ s,∃ t,s∈S->t∈Y/\Cn a b t s:=λs=>by
  by_cases I:s∈S
  ·let#[t,U,O]:=pick s I;exact#[t,λ_=>#[U,O]]
  ·exact#[0,λz=>absurd z I]
 let#[g,Z]:=Classical.axiomOfChoice this
 have nd:(S.map g).Nodup:=by
  rw[Qu,Qx];refine List.Pairwise.imp_of_mem ?_ R.nd;intro s t I j hn e;let#[U,O]:=Z s I;let#[d,c]:=Z t j;rw[<-e]at c;exact hn<|(O.symm T<|f.lt _ U).trans c
 have:=dZ nd λy i=>by
  let#[s,I,rfl]:=List.mem_map.mp i;exact(Z s I).1
 simpa using this
def cu.one{m:Nat}{a b:Nat->Nat}(T:hD m a b){S I:List Nat}(R:cu m a b S)(O:cu m a b I):S.length=I.length:=Nat.le_antisymm (R.le T O)<|O.le T R
def Fu{t:St->Option Bool}{f:St->Option (Out × St)}{J:Nat->St}(O:∀ i,i<k->t (J i)=some true/\f (J i)=some (.nx,J<|i+1))(I:t (J k)=some false):∀ (d i fuel:Nat),i+d=k->d<fuel->vu t f fuel (J i)=some (.nx,J k)
 | 0,i,0,_,h=>by lia
 | 0,i,fuel+1,hi,_=>by
  have:i=k:=by lia
  subst this;rw[vu,I];rfl
 | d+1,i,0,_,h=>by lia
 | d+1,i,fuel+1,hi,hf=>by
  let#[U,R]:=O i ⋯;rw[vu,U,Option.bind_some,if_pos rfl,R,Option.bind_some];exact Fu O I d (i+1) fuel ⋯ ⋯
section
abbrev DB(A B:D):Nat->Option D
 | 0=>none
 | t+1=>some (if t%2=0 then A else B)
abbrev hR(a b:Nat->Nat)(x k:Nat):List Nat:=(List.range<|k+1).map<|wk a b x
def DU(k:Nat):hR a b x (k+1)=hR a b x k++[wk a b x<|k+1]:=by
 unfold hR;rw[List.range_succ,QE];rfl
def wc(k:Nat):i0 (.lst<|L<|hR a b x k) (.int<|-1)=some (.int (wk a b x k:Nat)):=by
 show cR (L<|hR a b x k) (-1)=_;unfold cR
 have hl:(L<|hR a b x k).length=k+1:=by simp[L,hR]
 rw[if_neg ∅,if_pos (by rw[hl];lia),hl,show((-1:Int)+((k+1:Nat):Int)).toNat=k by lia,pT];simp[hR]
def HQ:ev cl J (.neg 1#1)=some (.int<|-1):=Ag ah
def yt(T:hD m a b)(hm:m<=1000)(q:∀ x:Nat,x<m->i0 A (.int (x:Nat))=some (.int (a x:Nat)))(e:∀ x:Nat,x<m->i0 B (.int (x:Nat))=some (.int (b x:Nat)))(I:x<m) :
  ∃ k,k<m/\f6 a b x k/\(∀ j,j<k->¬ f6 a b x j)/\dn cl uq [A,B,.int (x:Nat)]=some (.lst<|L<|hR a b x k):=by
 let#[k,p,st,Z]:=kL T I;refine#[k,p,st,Z,?_]
 have cond:∀ (i:Nat) (o:Option D),(ev cl [some A,some B,some<|.int (x:Nat),some<|.lst<|L<|hR a b x i,some<|.int (wk a b x (i+1):Nat),o]<|.o4 true 4#0<|.tup<|.cons (.ix 3#0<|.neg 1#1)<|.cons 2#0 .nil).bind truth=some (!decide (f6 a b x i)):=λi o=>by
  have l:z4 (.int (wk a b x (i+1):Nat)) (.tup [.int (wk a b x i:Nat),.int (x:Nat)])=some (decide<|f6 a b x i):=by
   show(if(flat (.int (wk a b x (i+1):Nat))&&[D.int (wk a b x i:Nat),.int (x:Nat)].all flat)=true then some ([D.int (wk a b x i:Nat),.int (x:Nat)].any λy=>tk y<|.int (wk a b x (i+1):Nat))else none)=_;rw[if_pos<|by simp[flat]];congr 1;simp only[any_cons,List.any_nil,tk,Bool.or_false];unfold f6;rw[QH];simp only[or_eq_true,beq_iff_eq,decide_eq_true_eq,Int.ofNat_inj];exact#[λh=>decide_eq_true<|h.imp Eq.symm Eq.symm,λh=>(of_decide_eq_true h).imp Eq.symm Eq.symm]
  exact aO<|zH (n:=true) () (bg<|ak (cK () HQ<|wc i)<|ak () aD) l
 have R:=Fu (t:=λJ=>(ev cl J<|.o4 true 4#0<|.tup<|.cons (.ix 3#0<|.neg 1#1)<|.cons 2#0 .nil).bind truth) (f:=aq cl [3] B0) (J:=λi=>[some A,some B,some<|.int (x:Nat),some<|.lst<|L<|hR a b x i,some<|.int (wk a b x (i+1):Nat),DB A B i]) (k:=k) (λi hi=>by
  refine#[by rw[cond];simp[Z i hi],?_]
  have hl:(L<|hR a b x i).length<most:=by simp[L,hR,most];lia
  have ha:L (hR a b x i)++[D.int (wk a b x (i+1):Nat)]=L (hR a b x<|i+1):=by rw[DU,gg];rfl
  have Y:lz .len (.lst<|L<|hR a b x<|i+1)=some (.int ((i+2:Nat):Int)):=by
   show some (D.int ((L<|hR a b x<|i+1).length:Nat))=_;simp[L,hR];lia
  have U:aT .mod (.int ((i+2:Nat):Int)) (.int 2)=some (.int (((i+2)%2:Nat):Int)):=by rw[lE ∅];simp
  have lt:=iG T I<|i+1;refine lY () rfl rfl hl ?_;rw[ha];by_cases c:i%2=0
  ·have O:bW .eq (.int (((i+2)%2:Nat):Int)) (.int 0)=some true:=by
    rw[show(i+2)%2=0 by lia];rfl
   refine aJ (d:=A) (j8 (k:=true) (aO<|aF (aC (bP () Y) ah U) ah O)<|aa rfl) (by simp[aX,Je,zI])<|aJ (cK () ()<|q _ lt) rfl ?_;rw[aK];rw[<-iH (a:=a) (b:=b) (x:=x) (k:=i+1) ⋯];simp[DB,c]
  ·have O:bW .eq (.int (((i+2)%2:Nat):Int)) (.int 0)=some false:=by
    rw[show(i+2)%2=1 by lia];rfl
   refine aJ (d:=B) (j8 (k:=false) (aO<|aF (aC (bP () Y) ah U) ah O)<|aa rfl) (by simp[aX,Je,zI])<|aJ (cK () ()<|e _ lt) rfl ?_;rw[aK];rw[<-fq (a:=a) (b:=b) (x:=x) (k:=i+1) ⋯]
   simp[DB,c]) (by rw[cond];simp[st]) k 0 most ⋯ (by unfold most;lia)
 have g:wk a b x (0+1)=b x:=fq rfl;rw[g]at R;exact aE rfl rfl<|fR (eC<|ak () aD) rfl<|aJ (cK () ()<|e x I) rfl<|Le R<|aH ()<|by simp[bU,aG,bh,uq]
end
def JO(hl:ds.length=fn.ps)(hm:fn.mp=[0])(h:aq cl fn.M fn.body (ds.map some++replicate (fn.nn-fn.ps) none)=some (.nx,QP))(I:(QP[0]?).bind id=some o):dn cl fn ds=some (.tup [.cb,o]):=by
 unfold dn;rw[if_pos hl,h];show bz fn .cb QP=_;unfold bz;rw[hm];rw[if_pos (show D.cb.ax=true from rfl),i5,I];rfl
abbrev BL(s:List Bool):List D:=s.map D.bl
def Cc:∀ s:List Bool,ae (BL s)=true
 | []=>rfl
 | x::r=>by
  show((D.bl x).ax&&ae (BL r))=true;rw[Cc r];rfl
abbrev Sn(m:Nat)(s:List Bool)(P:Nat->Prop):Prop:=s.length=m/\∀ y,y<m->(s[y]?=some true↔P y)
def Sn.set(h:Sn m s P)(U:p<m):Sn m (s.set p true) (λy=>P y\/y=p):=by
 let#[R,O]:=h;refine#[by simp[R],λy I=>?_];rw[List.getElem?_set];by_cases c:p=y
 ·subst c;rw[if_pos rfl,if_pos ⋯];exact#[λ_=>.inr rfl,λ_=>rfl]
 ·rw[if_neg c,O y I];exact#[.inl,λz=>z.resolve_right λe=>c e.symm]
def Sn.congr(h:Sn m s P)(e:∀ y,y<m->(P y↔Q y)):Sn m s Q:=#[h.1,λy I=>(h.2 y I).trans<|e y I]
section
variable{cl:Cl}
def DE(h:Sn m s P)(Y:∀ p∈ps,p<m):∃ s',Sn m s' (λy=>P y\/y∈ps)/\dn cl wu [.lst<|BL s,.lst<|L ps]=some (.tup [.cb,.lst<|BL s']):=by
 let#[U,e,s',o,rfl,R]:=jy (f:=aq cl [0,0] xN) (tg:=[2]) (xs:=ps) (J:=[some<|.lst<|BL s,some<|.lst<|L ps,none]) (λu J=>∃ (s':List Bool) (o:Option D),J=[some<|.lst<|BL s',some<|.lst<|L ps,o]/\Sn m s' λy=>P y\/y∈u) ⟨s,none,rfl,h.congr λy _=>by simp⟩ (by
  rintro u p v J hu ⟨s',o,rfl,R⟩;have O:=Y p<|by rw[hu];simp
  have hl:(BL s').length=m:=by simp[BL,R.1]
  have I:jG (.lst<|BL s') (.int p) (.bl true)=some (.lst<|BL<|s'.set p true):=by
   show Option.map (λj=>D.lst<|(BL s').set j<|.bl true) (mH (BL s').length (p:Int))=_;rw[hl,vq O];simp[BL]
  refine#[_,LA ah () rfl rfl I aK,s'.set p true,_,rfl,(R.set O).congr λy _=>by simp[or_assoc]])
 exact#[s',R,JO rfl rfl (dD (fv () rfl) e aK) rfl]
def FZ(h:Sn m s P)(I:p<m):∃ v:Bool,i0 (.lst<|BL s) (.int (p:Nat))=some (.bl v)/\(v=true↔P p):=by
 have hl:p<s.length:=by rw[h.1];exact I
 refine#[s[p],?_,?_]
 ·show cR (BL s) (p:Int)=_;rw[gf];simp[BL]
 ·rw[<-h.2 p I,List.getElem?_eq_getElem hl];simp
abbrev o7(m:Nat)(a b:Nat->Nat)(y:Nat):Prop:=∃ s,s<m/\(a s=s\/b s=s)/\Cn a b s y
def sL:y∈hR a b x k↔∃ i,i<=k/\wk a b x i=y:=by
 unfold hR;rw[List.mem_map];constructor
 ·rintro⟨i,hi,e⟩;exact⟨i,by have:=List.mem_range.mp hi;lia,e⟩
 ·rintro⟨i,hi,e⟩;exact#[i,List.mem_range.mpr ⋯,e]
def sD(T:hD m a b)(U:∀ x:Nat,x<m->∃ k,k<m/\f6 a b x k/\(∀ j,j<k->¬ f6 a b x j)/\cl fr [A,B,.int (x:Nat)]=some (.lst<|L<|hR a b x k))(I:x<m)(h:a x=x\/∀ y,Cn a b x y->a y≠y/\b y≠y) :
  ∃ ps:List Nat,(∀ p∈ps,p<m)/\(∀ y,y∈ps↔Cn a b x y)/\cl fr [A,B,.int (x:Nat)]=some (.lst<|L ps):=by
 let#[k,_,st,R,e]:=U x I;refine#[_,λp Y=>?_,λy=>?_,e]
 ·let#[i,_,rfl]:=sL.mp Y;exact iG T I i
 ·rw[sL];exact#[λ#[i,_,e]=>e▸mV i,λO=>sy T I st R h O]
def wR(T:hD m a b)(hm:m<=1000)(K:lz .len A=some (.int (m:Nat)))
 (hA:∀ x:Nat,x<m->i0 A (.int (x:Nat))=some (.int (a x:Nat)))(hB:∀ x:Nat,x<m->i0 B (.int (x:Nat))=some (.int (b x:Nat)))
 (hr:∀ x:Nat,x<m->∃ k,k<m/\f6 a b x k/\(∀ j,j<k->¬ f6 a b x j)/\cl fr [A,B,.int (x:Nat)]=some (.lst<|L<|hR a b x k))
 (V:∀ x:Nat,x<m->∃ k,k<m/\f6 b a x k/\(∀ j,j<k->¬ f6 b a x j)/\cl fr [B,A,.int (x:Nat)]=some (.lst<|L<|hR b a x k))
 (X:∀ (s:List Bool) (P:Nat->Prop) (ps:List Nat),Sn m s P->(∀ p∈ps,p<m)->∃ s',Sn m s' (λy=>P y\/y∈ps)/\cl fm [.lst<|BL s,.lst<|L ps]=some (.tup [.cb,.lst<|BL s'])) :
  ∃ S:List Nat,cu m a b S/\dn cl (l4 fm fr) [A,B]=some (.int (S.length:Nat)):=by
 have e1:=fB (n:=m) hm
 let#[QR,l1,s1,o1,rfl,Q]:=jy (f:=aq cl [2]<|nW fm fr) (tg:=[3]) (xs:=List.range m) (J:=[some A,some B,some<|.lst<|BL<|replicate m false,none,none]) (λu J=>∃ (s:List Bool) (o:Option D),J=[some A,some B,some<|.lst<|BL s,o,none]/\Sn m s λy=>∃ x,x∈u/\(a x=x\/b x=x)/\Cn a b x y)
  ⟨_,none,rfl,by simp,λy O=>by
   simp[ O]⟩ (by
  rintro u x v J hu ⟨s,o,rfl,l⟩
  have Y:x<m:=by
   have:x∈List.range m:=by rw[hu];simp
   simpa using this
  let#[s2,i,k2]:∃ s2,Sn m s2 (λy=>(∃ x,x∈u/\(a x=x\/b x=x)/\Cn a b x y)\/(a x=x/\Cn a b x y))/\∀ (r:Ss) (d:Option (Out × St)),aq cl [2] r [some A,some B,some<|.lst<|BL s2,some<|.int (x:Nat),none]=d->aq cl [2] (.cons (.c7 (.cmp .eq (.ix 0#0 3#0) 3#0) (.cons (.kv fm (.cons 2#0<|.cons (.call fr<|.cons 0#0<|.cons 1#0<|.cons 3#0 .nil) .nil) [0] [2]) .nil) .nil) r) [some A,some B,some<|.lst<|BL s,some<|.int (x:Nat),none]=d:=by
   by_cases c:a x=x
   ·let#[ps,p1,p2,p3]:=sD T hr Y<|.inl c;let#[s',Z,e]:=X s _ ps l p1;refine#[s',Z.congr λy _=>by rw[p2];simp[c],λr d k=>eG (aO<|aF (cK () ()<|hA x Y) ()<|by rw[js,c];simp) (rM (ak ()<|ak (dJ () () () p3) aD) (by simp[bF,isVar,aX,D.ax,aG,bh]) e rfl aK) k]
   ·refine#[s,l.congr λy _=>by simp[c],λr d k=>aY (aO<|aF (cK () ()<|hA x Y) ()<|by rw[js];congr 1;simp;lia) k]
  let#[E,N,k3]:∃ E,Sn m E (λy=>((∃ x,x∈u/\(a x=x\/b x=x)/\Cn a b x y)\/(a x=x/\Cn a b x y))\/(b x=x/\Cn a b x y))/\aq cl [2] (.cons (.c7 (.cmp .eq (.ix 1#0 3#0) 3#0) (.cons (.kv fm (.cons 2#0<|.cons (.call fr<|.cons 1#0<|.cons 0#0<|.cons 3#0 .nil) .nil) [0] [2]) .nil) .nil) .nil) [some A,some B,some<|.lst<|BL s2,some<|.int (x:Nat),none]=some (.nx,[some A,some B,some<|.lst<|BL E,some<|.int (x:Nat),none]):=by
   by_cases c:b x=x
   ·let#[ps,p1,p2,p3]:=sD T.swap V Y<|.inl c;let#[s',Z,e]:=X s2 _ ps i p1;refine#[s',Z.congr λy _=>?_,eG (aO<|aF (cK () ()<|hB x Y) ()<|by rw[js,c];simp) (rM (ak ()<|ak (dJ () () () p3) aD) (by simp[bF,isVar,aX,D.ax,aG,bh]) e rfl aK) aK];rw[p2]
    have:Cn b a x y↔Cn a b x y:=#[Cn.flip,Cn.flip]
    simp[c,this]
   ·exact#[s2,i.congr λy _=>by simp[c],aY (aO<|aF (cK () ()<|hB x Y) ()<|by rw[js];congr 1;simp;lia) aK]
  refine#[_,k2 _ _ k3,E,_,rfl,N.congr λy _=>?_];constructor
  ·rintro((⟨z,I,R,g⟩ | ⟨I,R⟩) | ⟨I,R⟩)
   ·exact#[z,by simp[I],R,g]
   ·exact#[x,by simp,.inl I,R]
   ·exact#[x,by simp,.inr I,R]
  ·rintro⟨z,I,R,g⟩;rcases List.mem_append.mp I with I | I
   ·exact .inl<|.inl #[z,I,R,g]
   ·have:z=x:=by simpa using I
    subst this;rcases R with R | R
    ·exact .inl<|.inr #[R,g]
    ·exact .inr #[R,g])
 have q:Sn m s1 (o7 m a b):=Q.congr λy _=>#[λ#[x,I,R,g]=>#[x,by simpa using I,R,g],λ#[x,I,R,g]=>#[x,by simpa using I,R,g]]
 let#[QQ,l2,s2,o2,S,rfl,i,c1,G,C,F]:=jy (f:=aq cl [2]<|og fm fr) (tg:=[3]) (xs:=List.range m) (J:=[some A,some B,some<|.lst<|BL s1,o1,some<|.int ((([]:List Nat).length:Nat):Int)]) (λu J=>∃ (s:List Bool) (o:Option D) (S:List Nat),J=[some A,some B,some<|.lst<|BL s,o,some<|.int (S.length:Nat)]/\Sn m s (λy=>o7 m a b y\/∃ t∈S,Cn a b t y)/\(∀ t∈S,t<m)/\(S.Pairwise λt H=>¬ Cn a b t H)/\(∀ t∈S,¬ o7 m a b t)/\∀ y∈u,o7 m a b y\/∃ t∈S,Cn a b t y)
  ⟨s1,o1,[],rfl,q.congr λy _=>by simp,by simp,.nil,by simp,by simp⟩ (by
  rintro u x v J hu ⟨s,o,S,rfl,l,c1,G,C,F⟩
  have Y:x<m:=by
   have:x∈List.range m:=by rw[hu];simp
   simpa using this
  let#[w,w1,w2]:=FZ l Y
  cases w with
  |true=>
   refine#[_,aY (aO<|dQ<|cK () () w1) aK,s,_,S,rfl,l,c1,G,C,λy O=>?_];rcases List.mem_append.mp O with O | O
   ·exact F y O
   ·have:y=x:=by simpa using O
    subst this;exact w2.mp rfl
  |false=>
   have hn:¬ (o7 m a b x\/∃ t∈S,Cn a b t x):=λz=>noConfusion<|w2.mpr z;have QN:¬ o7 m a b x:=λz=>hn<|.inl z
   have ring:∀ y,Cn a b x y->a y≠y/\b y≠y:=λy O=>#[λe=>QN #[y,O.lt T Y,.inl e,O.symm T Y],λe=>QN #[y,O.lt T Y,.inr e,O.symm T Y]]
   let#[ps,p1,p2,p3]:=sD T hr Y<|.inr ring;let#[s',Z,e]:=X s _ ps l p1;refine#[_,eG (aO<|dQ<|cK () () w1) (je rfl ah bQ<|rM (ak ()<|ak (dJ () () () p3) aD) (by simp[bF,isVar,aX,D.ax,aG,bh]) e rfl aK) aK,s',_,S++[x],by simp;rfl,Z.congr λy _=>?_,λt U=>?_,?_,λt U=>?_,λy O=>?_]
   ·rw[p2];constructor
    ·rintro((h | ⟨t,I,R⟩) | h)
     ·exact .inl h
     ·exact .inr #[t,by simp[I],R]
     ·exact .inr #[x,by simp,h]
    ·rintro(h | ⟨t,I,R⟩)
     ·exact .inl<|.inl h
     ·rcases List.mem_append.mp I with I | I
      ·exact .inl<|.inr #[t,I,R]
      ·have:t=x:=by simpa using I
       subst this;exact .inr R
   ·rcases List.mem_append.mp U with U | U
    ·exact c1 t U
    ·have:t=x:=by simpa using U
     subst this;exact Y
   ·rw[QF];refine#[G,by simp,λt U H M z=>?_]
    have:H=x:=by simpa using M
    subst this;exact hn<|.inr #[t,U,z]
   ·rcases List.mem_append.mp U with U | U
    ·exact C t U
    ·have:t=x:=by simpa using U
     subst this;exact QN
   ·rcases List.mem_append.mp O with O | O
    ·rcases F y O with h | ⟨t,I,R⟩
     ·exact .inl h
     ·exact .inr #[t,by simp[I],R]
    ·have:y=x:=by simpa using O
     subst this
     exact .inr #[y,by simp,.refl])
 refine#[S,#[c1,G,λt U y O=>#[λe=>C t U #[y,O.lt T<|c1 t U,.inl e,O.symm T<|c1 t U],λe=>C t U #[y,O.lt T<|c1 t U,.inr e,O.symm T<|c1 t U]],λx Y=>F x<|by simpa using Y],?_]
 have e0:aT .mul (.lst [.bl false]) (.int (m:Nat))=some (.lst<|BL<|replicate m false):=by
  rw[IA];rw[if_pos ⟨by lia,by unfold most;lia,by simp[most];lia⟩];simp[BL]
 exact aE rfl rfl<|fR (aC (eC<|ak ah aD) (bP () K) e0) (by simp[aG,Cc])<|dD (km (bP () K) e1) l1<|aJ ah rfl<|dD (km (bP () K) e1) l2<|aH () rfl
end
abbrev jn(n x:Nat):Nat:=if x<n then x else if x<2*n then x+n else if x<3*n then x-n else x
abbrev rb(n:Nat)(h l:List Nat)(x:Nat):Nat:=if x<2*n then at' h x else 2*n+at' l (x-2*n)
abbrev out(n p:Nat):Nat:=if p<n then p else p+2*n
section
def two(F:cv n h)(G:cv n l):hD (4*n) (jn n) (rb n h l):=by
 refine#[λx I=>?_,λx I=>?_,λx I=>?_,λx I=>?_]
 ·unfold jn;(repeat' split)<;>lia
 ·unfold rb;split
  ·have:=F.lt x ⋯;lia
  ·have:=G.lt (x-2*n) (by omega);lia
 ·unfold jn;(repeat' split)<;>lia
 ·unfold rb;by_cases c:x<2*n
  ·rw[if_pos c,if_pos<|F.lt x c,F.inv]
  ·rw[if_neg c,if_neg ⋯,QG,G.inv];omega
def iF(F:cv n h)(G:cv n l)(I:x<4*n):rb n h l x≠x:=by
 unfold rb;split
 ·rename_i c;exact F.no x c
 ·have:=G.no (x-2*n) (by omega);lia
def bG(I:p<2*n):out n p<4*n:=by unfold out;split<;>lia
def iu(I:p<2*n):jn n (out n p)=out n p:=by unfold out jn;(repeat' split)<;>lia
def sx(e:out n p=out n q)(O:p<2*n)(I:q<2*n):p=q:=by unfold out at e;(repeat' split at e)<;>lia
def JU(I:x<4*n)(e:jn n x=x):∃ p,p<2*n/\x=out n p:=by
 by_cases c:x<n
 ·exact#[x,by lia,by unfold out;rw[if_pos c]]
 ·have:3*n<=x:=by
   unfold jn at e
   (repeat' split at e)<;>lia
  exact#[x-2*n,by lia,by unfold out;rw[if_neg ⋯];lia]
abbrev nq(n:Nat)(s:Bool × Nat):Nat:=if s.1 then s.2 else 2*n+s.2
def HS(O:s.2<2*n)(c:s.1=decide (n<=s.2)):nq n (A1 n h l s)=rb n h l (jn n<|nq n s):=by
 let#[b,q]:=s;unfold A1;dsimp only at c O ⊢;rw[c];by_cases c:n<=q
 ·have e:(q+n)%(2*n)=q-n:=by rw[Nat.mod_eq_sub_mod ⋯,Nat.mod_eq_of_lt<|by omega];lia
  have I:jn n q=q+n:=by unfold jn;rw[if_neg ⋯,if_pos O]
  simp only[c,decide_true,Bool.not_true,nq,pick,if_true,false_eq_true,if_false,e,I,rb];rw[if_neg ⋯,show q+n-2*n=q-n by lia]
 ·have e:(q+n)%(2*n)=q+n:=Nat.mod_eq_of_lt ⋯
  have I:jn n (2*n+q)=n+q:=by unfold jn;rw[if_neg ⋯,if_neg ⋯,if_pos ⋯];lia
  simp only[c,decide_false,Bool.not_false,nq,pick,if_true,false_eq_true,if_false,e,I,rb];rw[if_pos ⋯,add_comm]
def Ap(I:s.2<2*n):s.1=decide (n<=s.2)↔jn n (nq n s)≠nq n s:=by
 let#[b,q]:=s;cases b
 ·simp only[nq,if_false];by_cases c:n<=q
  ·simp only[c,decide_true,false_eq_true,false_iff,Classical.not_not];unfold jn;rw[if_neg ⋯,if_neg ⋯,if_neg ⋯]
  ·simp only[c,true_iff];unfold jn;rw[if_neg ⋯,if_neg ⋯,if_pos ⋯];lia
 ·simp only[nq,if_true];by_cases c:n<=q
  ·simp only[c,true_iff];unfold jn;rw[if_neg ⋯,if_pos I];lia
  ·simp only[c,decide_false,Bool.true_eq_false,false_iff,Classical.not_not];unfold jn;rw[if_pos ⋯]
def Hc(c:¬ s.1=decide (n<=s.2)):A1 n h l s=s:=by
 unfold A1;rw[if_neg c]
def JL(I:p<2*n):nq n (nz n h l p)=rb n h l (out n p):=by
 unfold nz nq rb out pick;by_cases c:p<n
 ·simp only[c,decide_true,if_true];rw[if_pos ⋯]
 ·simp only[c,decide_false,false_eq_true,if_false];rw[if_neg ⋯,show p+2*n-2*n=p by lia]
def Eh(F:cv n h)(G:cv n l)(O:p<2*n)(st:f6 (jn n) (rb n h l) (out n p) k)(U:∀ j,j<k->¬ f6 (jn n) (rb n h l) (out n p) j) :
  ∀ j,nq n (sv n h l j<|nz n h l p)=wk (jn n) (rb n h l) (out n p) (if 2*j+1<=k then 2*j+1 else k):=by
 have T:=two F G;let#[d,Y]:=qQ T (bG O) st U (λy Z=>iF F G Z)<|iu O
 have blt:(nz n h l p).2<2*n:=by
  unfold nz pick;split
  ·exact F.lt p O
  ·exact G.lt p O
 intro j
 induction j with
 |zero=>
  rw[if_pos ⋯];show nq n (nz n h l p)=_;rw[JL O];exact(fq (k:=0) rfl).symm
 |succ j I=>
  have hl:=wG (λx R=>F.lt x R) (λx R=>G.lt x R) blt j;show nq n (A1 n h l<|sv n h l j<|nz n h l p)=_;by_cases c:2*(j+1)+1<=k
  ·rw[if_pos ⋯]at I;rw[if_pos c]
   have ne:jn n (nq n<|sv n h l j<|nz n h l p)≠nq n (sv n h l j<|nz n h l p):=by
    rw[I];intro e;exact U (2*j+1) ⋯<|.inl<|by rw[iH ⋯];exact e
   rw[HS hl<|(Ap hl).mpr ne,I,<-iH (a:=jn n) (b:=rb n h l) (x:=out n p) (k:=2*j+1) ⋯,<-fq (a:=jn n) (b:=rb n h l) (x:=out n p) (k:=2*j+1+1) ⋯];congr 1
  ·rw[if_neg c]
   have e:(if 2*j+1<=k then 2*j+1 else k)=k:=by split<;>lia
   rw[e]at I;rw[Hc (λz=>(Ap hl).mp z<|by rw[I];exact Y),I]
def dW:(aL n h l).length=2*n:=by simp[aL]
def C6(I:p<2*n):at' (aL n h l) p=(sv n h l (4*n)<|nz n h l p).2:=by simp[aL,at',I]
def mm(F:cv n h)(G:cv n l)(I:p<2*n)(a:k<4*n)(st:f6 (jn n) (rb n h l) (out n p) k)(R:∀ j,j<k->¬ f6 (jn n) (rb n h l) (out n p) j) :
  at' (aL n h l) p<2*n/\wk (jn n) (rb n h l) (out n p) k=out n (at' (aL n h l) p):=by
 have T:=two F G;let#[Z,U]:=qQ T (bG I) st R (λy Y=>iF F G Y)<|iu I;have w:=Eh F G I st R<|4*n;rw[show(if 2*(4*n)+1<=k then 2*(4*n)+1 else k)=k by split<;>lia]at w;rw[C6 I]
 have blt:(nz n h l p).2<2*n:=by
  unfold nz pick;dsimp only;split
  ·exact F.lt p I
  ·exact G.lt p I
 have hl:=wG (λx O=>F.lt x O) (λx O=>G.lt x O) (h:=h) (l:=l) blt<|4*n;refine#[hl,?_];rw[<-w];have no:¬ (sv n h l (4*n)<|nz n h l p).1=decide (n<=(sv n h l (4*n)<|nz n h l p).2):=λz=>(Ap hl).mp z (by rw[w];exact U);generalize sv n h l (4*n) (nz n h l p)=s at *;let#[b,q]:=s;unfold nq out;dsimp only at no hl ⊢;cases b
 ·rw[if_neg ∅];have:¬ q<n:=λc=>no (by simp[show ¬ n<=q by lia]);rw[if_neg this];lia
 ·rw[if_pos rfl]
  have:q<n:=by
   apply Classical.byContradiction;intro c;exact no (by simp[show n<=q by lia])
  rw[if_pos this]
def found_iff(F:cv n h)(G:cv n l)(I:p<2*n)(R:q<2*n)(ne:p≠q):at' (aL n h l) p=q↔Cn (jn n) (rb n h l) (out n p) (out n q):=by
 have T:=two F G;let#[k,Z,st,O]:=kL T<|bG I;let#[a,U]:=mm F G I Z st O;constructor
 ·intro e;rw[<-e,<-U];exact mV k
 ·intro c;let#[i,hi,e]:=sy T (bG I) st O (.inl<|iu I) c
  have fx:jn n (wk (jn n) (rb n h l) (out n p) i)=wk (jn n) (rb n h l) (out n p) i:=by rw[e];exact iu R
  have Y:i=k:=by
   apply Classical.byContradiction;intro z
   have b:i≠0:=λz=>by
    subst z;exact ne<|sx e I R
   by_cases c:i%2=1
   ·exact O i ⋯<|.inl<|by rw[iH c];exact fx
   ·have:=kj T (bG I)<|i-1;rw[show i-1+1=i by lia,if_neg ⋯,fx]at this;exact O (i-1) ⋯ (.inl (by rw[show i-1+1=i by lia];exact this))
  subst Y;rw[U]at e;exact(sx e a R)
def dF(F:cv n h)(G:cv n l):cv n (aL n h l):=by
 have T:=two F G
 have lt:∀ p,p<2*n->at' (aL n h l) p<2*n/\at' (aL n h l) p≠p:=λp I=>by
  let#[k,a,st,O]:=kL T<|bG I;let#[b,Y]:=mm F G I a st O;let#[f,d]:=qQ T (bG I) st O (λy Z=>iF F G Z)<|iu I;refine#[b,λe=>?_];rw[e]at Y;exact mN T (bG I) O (i:=0) ⋯ (Qc _) Y.symm
 refine#[dW,λp I=>(lt p I).1,λp=>?_,λp I=>(lt p I).2];by_cases I:p<2*n
 ·let#[U,R]:=lt p I;have c:=(found_iff F G I U<|Ne.symm R).mp rfl;exact(found_iff F G U I R).mpr<|c.symm T<|bG I
 ·rw[jV (x:=p) (by rw[dW];lia),jV<|by rw[dW];lia]
end
section
def iS{β:Type}{J:St}{e:E}{i:Nat}{u g:β->D}(O:∀ x,(g x).ax=true)(xs:List β)(h:∀ x∈xs,ev cl (J.set i<|some<|u x) e=some (g x)):bX (λI=>(ev cl I e).map some) [i] J (xs.map u)=some (xs.map g) :=
 uV O xs λx R=>by
  show Option.map some (ev cl (J.set i<|some<|u x) e)=_;rw[h x R];rfl
def Hv{J:St}{e:E}{i:Nat}{g:Nat->D}(O:∀ x,(g x).ax=true)(xs:List Nat)(h:∀ x∈xs,ev cl (J.set i<|some<|.int (x:Nat)) e=some (g x)):bX (λI=>(ev cl I e).map some) [i] J (L xs)=some (xs.map g) :=
 iS O xs h
abbrev jL(n:Nat):List Nat:=List.range n++range' (2*n) n++range' n n++range' (3*n) n
abbrev pq(n:Nat)(h l:List Nat):List Nat:=h++l.map λx=>2*n+x
def Cd:(jL n).length=4*n:=by simp[jL];lia
def K1(R:x<4*n):(jL n)[x]?=some (jn n x):=by
 unfold jL jn;by_cases c1:x<n
 ·rw[if_pos c1,QD,QD,Ql (by simpa using c1),List.getElem?_range c1]
 ·rw[if_neg c1];by_cases O:x<2*n
  ·rw[if_pos O,QD,QD,Qo (by simp;lia),length_range,Ql (by simp;omega),List.getElem?_range'<|by omega];congr 1;lia
  ·rw[if_neg O];by_cases I:x<3*n
   ·rw[if_pos I,Ql (by simp;lia),Qo<|by simp;lia];simp only[length_append,length_range,List.length_range'];rw[List.getElem?_range'<|by omega];congr 1;lia
   ·rw[if_neg I,Qo<|by simp;lia];simp only[length_append,length_range,List.length_range'];rw[List.getElem?_range'<|by omega];congr 1;lia
def Nt(I:x<4*n):at' (jL n) x=jn n x:=by
 unfold at';rw[K1 I];rfl
def Gk(F:cv n h)(G:cv n l):(pq n h l).length=4*n:=by simp[pq,F.len,G.len];lia
def Iq(F:cv n h)(G:cv n l)(I:x<4*n):at' (pq n h l) x=rb n h l x:=by
 unfold rb pq;by_cases c:x<2*n
 ·rw[if_pos c];unfold at';rw[Ql<|by rw[F.len];exact c]
 ·rw[if_neg c];unfold at';rw[Qo (by rw[F.len];lia),F.len,QM]
  have:x-2*n<l.length:=by rw[G.len];omega
  simp[this]
def Cj(I:x<f.length):i0 (.lst<|L f) (.int (x:Nat))=some (.int (at' f x:Nat)):=by
 show cR (L f) (x:Int)=_;rw[gf,pT,jY I];rfl
def iL(I:k<100)(n:Nat):aT .mul (.int (k:Nat)) (.int (n:Nat))=some (.int ((k*n:Nat):Int)):=by
 rw[di ⋯ ⋯];simp
def yJ(hn:n<=10):dn cl fX [.int (n:Nat)]=some (.lst<|L<|jL n):=by
 have a1:=fB (n:=n) ⋯;have a2:=dU (a:=n) (b:=2*n) ⋯ ⋯;have a3:=dU (a:=2*n) (b:=3*n) ⋯ ⋯;have a4:=dU (a:=3*n) (b:=4*n) ⋯ ⋯;rw[show 2*n-n=n by lia]at a2;rw[show 3*n-2*n=n by lia]at a3;rw[show 4*n-3*n=n by lia]at a4
 have O:∀ xs ys:List Nat,xs.length+ys.length<=1000->aT .add (.lst<|L xs) (.lst<|L ys)=some (.lst<|L<|xs++ys):=λxs ys hl=>by
  show(if(L xs).length+(L ys).length<=most then some (D.lst<|L xs++L ys)else none)=_;rw[if_pos (by rw[cZ,cZ];unfold most;lia),gg]
 have I:∀ (e:E) (xs:List Nat),aI e=true->aX [] e (.lst<|L xs)=true:=λe xs R=>by simp[aX,D.ax,aG,bh,R]
 refine aE rfl rfl<|aJ (xK () a1) (I _ _ rfl)<|aJ (mX () (aC ah ()<|iL (k:=2) ∅ n) a2) (I _ _ rfl)<|aJ (mX (aC ah ()<|iL (k:=2) ∅ n) (aC ah ()<|iL (k:=3) ∅ n) a3) (I _ _ rfl)<|aJ (mX (aC ah ()<|iL (k:=3) ∅ n) (aC ah ()<|iL (k:=4) ∅ n) a4) (I _ _ rfl)<|aH (aC (aC (aC () ()<|O _ _ ?_) ()<|O _ _ ?_) ()<|O _ _ ?_) ?_
 ·simp;lia
 ·simp;lia
 ·simp;lia
 ·simp[bU,aG,bh]
def tJ{f fr Z fo:Nat}{r:Nat}(M:1<=n)(hn:n<=10)(F:cv n h)(G:cv n l)(A:cl fo [.tup<|L h]=some (.int (n:Nat)))(B:cl Z [.int (n:Nat)]=some (.lst<|L<|jL n))
 (z:∀ x:Nat,x<4*n->∃ k,k<4*n/\f6 (jn n) (rb n h l) x k/\(∀ j,j<k->¬ f6 (jn n) (rb n h l) x j)/\cl fr [.lst<|L<|jL n,.lst<|L<|pq n h l,.int (x:Nat)]=some (.lst<|L<|hR (jn n) (rb n h l) x k))
 (C:cl f [.lst<|L<|jL n,.lst<|L<|pq n h l]=some (.int (r:Nat))):dn cl (jH f fr Z fo) [.tup<|L h,.tup<|L l]=some (.tup [.tup<|L<|aL n h l,.int (r:Nat)]):=by
 have U:∀ xs:List Nat,xs.length<=1000->(L xs).length<=most:=λxs hl=>by rw[cZ];unfold most;lia
 have i:∀ xs ys:List Nat,xs.length+ys.length<=1000->aT .add (.lst<|L xs) (.lst<|L ys)=some (.lst<|L<|xs++ys):=λxs ys hl=>by
  show(if(L xs).length+(L ys).length<=most then some (D.lst<|L xs++L ys)else none)=_;rw[if_pos (by rw[cZ,cZ];unfold most;lia),gg]
 have R:∀ (e:E) (xs:List Nat),aI e=true->aX [] e (.lst<|L xs)=true:=λe xs y=>by simp[aX,D.ax,aG,bh,y]
 have a1:=fB (n:=n) ⋯;have a4:=dU (a:=3*n) (b:=4*n) ⋯ ⋯;rw[show 4*n-3*n=n by lia]at a4
 have m:List.range n++range' (3*n) n=(List.range<|2*n).map (out n):=by
  rw[show 2*n=n+n by lia,List.range_add,QE];congr 1
  ·rw[<-List.map_id (List.range n),map_map];refine QI λp O=>?_;unfold out;rw[Function.comp,id,if_pos<|List.mem_range.mp O]
  ·rw[List.range'_eq_map_range,map_map];refine QI λp O=>?_;unfold out;simp only[Function.comp];rw[if_neg ⋯];lia
 have c1:bX (λI=>(ev cl I<|.bin .add (.bin .mul 2#1 2#0) 8#0).map some) [8] [some<|.tup<|L h,some<|.tup<|L l,some<|.int (n:Nat),none,none,none,none,none,none,none] (L l)=some (L (l.map λx=>2*n+x)):=by
  rw[Hv (g:=λx=>.int ((2*n+x:Nat):Int)) λ_=>rfl,Mi];exact λx _=>aC (aC ah ()<|iL (k:=2) ∅ n) () (show aT .add (.int ((2*n:Nat):Int)) (.int (x:Nat))=some (.int ((2*n+x:Nat):Int)) by rw[bQ];simp)
 have K:bX (λI=>(ev cl I<|.ix (.call fr<|.cons 4#0<|.cons 3#0<|.cons 8#0 .nil)<|.neg 1#1).map some) [8] [some<|.tup<|L h,some<|.tup<|L l,some<|.int (n:Nat),some<|.lst<|L<|pq n h l,some<|.lst<|L<|jL n,some<|.lst<|L<|(List.range<|2*n).map<|out n,none,none,none,none] (L<|(List.range<|2*n).map<|out n)=some (L ((List.range<|2*n).map λp=>out n<|at' (aL n h l) p)):=by
  have e:L ((List.range<|2*n).map<|out n)=(List.range<|2*n).map λp=>D.int (out n p:Nat):=by simp[L]
  rw[e,iS (g:=λp=>.int ((out n (at' (aL n h l) p):Nat):Int)) λ_=>rfl]
  ·simp[L]
  ·intro p O;rw[mem_range]at O;let#[k,u,t,s,q]:=z (out n p)<|bG O;let#[N,H]:=mm F G O u t s;rw[<-H];exact cK (dJ () () () q) HQ<|wc k
 have QN:bX (λI=>(ev cl I<|.nk (.cmp .lt 9#0 2#0) 9#0<|.bin .sub 9#0<|.bin .mul 2#1 2#0).map some) [9] [some<|.tup<|L h,some<|.tup<|L l,some<|.int (n:Nat),some<|.lst<|L<|pq n h l,some<|.lst<|L<|jL n,some<|.lst<|L<|(List.range<|2*n).map<|out n,some (.lst (L ((List.range<|2*n).map λp=>out n<|at' (aL n h l) p))),none,none,none] (L ((List.range<|2*n).map λp=>out n<|at' (aL n h l) p))=some (L<|aL n h l):=by
  have e:L ((List.range<|2*n).map λp=>out n<|at' (aL n h l) p)=(List.range<|2*n).map λp=>D.int (out n (at' (aL n h l) p):Nat):=by simp[L]
  have e':aL n h l=(List.range<|2*n).map (at'<|aL n h l):=jT dW (by simp) λx w=>by simp[at',w]
  have FF:=dF F G;rw[e,iS (g:=λp=>.int ((at' (aL n h l) p:Nat):Int)) λ_=>rfl]
  ·conv=>rhs;rw[e']
   simp[L]
  ·intro p O;rw[mem_range]at O;have hl:=FF.lt p O;by_cases c:at' (aL n h l) p<n
   ·have Y:out n (at' (aL n h l) p)=at' (aL n h l) p:=by unfold out;rw[if_pos c]
    have v:∀ {J:St},(J[9]?).bind id=some (D.int (out n (at' (aL n h l) p):Nat))->ev cl J 9#0 =some (.int (at' (aL n h l) p:Nat)):=λh=>by rw[aa h,Y]
    exact j8 (k:=true) (aO<|aF () ()<|by rw[eX,decide_eq_true ⋯])<|v rfl
   ·have Y:out n (at' (aL n h l) p)=at' (aL n h l) p+2*n:=by unfold out;rw[if_neg c]
    exact j8 (k:=false) (aO<|aF () ()<|by rw[eX,Qh ⋯])<|aC () (aC ah ()<|iL (k:=2) ∅ n)<|by rw[gX,Y];congr 2;lia
 have o:(L l).length<=most:=U l (by rw[G.len];lia);exact aE rfl rfl<|aJ (cz () A) rfl<|aJ (d:=.lst<|L<|pq n h l) (aC (bP () rfl) (gi (fv () rfl) o c1)<|i _ _<|by simp[F.len,G.len];lia) (R _ _ rfl)<|aJ (cz () B) (R _ _ rfl)<|aJ (aC (xK () a1) (mX (aC ah ()<|iL (k:=3) ∅ n) (aC ah ()<|iL (k:=4) ∅ n) a4)<|by rw[i _ _ (by simp;lia),m]) (R _ _ rfl)<|aJ (gi (fv () rfl) (U _<|by simp;lia) K) (R _ _ rfl)<|aJ (bP (gi (fv () rfl) (U _<|by simp;lia) QN) rfl) (by simp[aX,D.ax,bh])<|aH (bg<|ak ()<|ak (bH () () C) aD)<|by simp[bU,D.ax,ae,bh]
end
section
def o7.step{m:Nat}{a b:Nat->Nat}{x y:Nat}(h:o7 m a b x)(c:Cn a b x y):o7 m a b y:=by
 let#[s,R,O,I]:=h;exact#[s,R,O,I.trans c]
def E2(hm:m<n):jn n (n+m)=2*n+m:=by unfold jn;rw[if_neg ⋯,if_pos ⋯];lia
def EB(hm:m<n):jn n (2*n+m)=n+m:=by unfold jn;rw[if_neg ⋯,if_neg ⋯,if_pos ⋯];lia
def Ae(e:a x=y):Cn a b x y:=by rw[<-e];exact .sa .refl
def uk(e:b x=y):Cn a b x y:=by rw[<-e];exact .sb .refl
def vo(F:cv n h)(G:cv n l)(O:x<4*n)(I:¬ o7 (4*n) (jn n) (rb n h l) x):∃ m,m<n/\(x=n+m\/x=2*n+m)/\¬ o7 (4*n) (jn n) (rb n h l) (n+m):=by
 have no:jn n x≠x:=λe=>I ⟨x,O,.inl e,.refl⟩;by_cases c:x<2*n
 ·have:n<=x:=by
   apply Classical.byContradiction;intro z;exact no<|by unfold jn;rw[if_pos ⋯]
  exact#[x-n,by omega,.inl ⋯,by rw[show n+(x-n)=x by lia];exact I]
 ·have:x<3*n:=by
   apply Classical.byContradiction;intro z;exact no<|by unfold jn;rw[if_neg ⋯,if_neg ⋯,if_neg ⋯]
  refine#[x-2*n,by omega,.inr ⋯,λz=>I<|z.step ?_];have:=E2 (n:=n) (m:=x-2*n) (by omega);rw[show 2*n+(x-2*n)=x by lia]at this;exact Ae this
end
structure Hb(T:List Fn)(po rn mk rg jb pu:Nat):Prop where
 Jt:T[rn]?=some uq
 Oj:T[mk]?=some wu
 NP:T[rg]?=some (l4 mk rn)
 Od:T[jb]?=some fX
 NR:T[pu]?=some (jH rg rn jb po)
section
variable{nu pc pa nb un ib cf po rp ir mv rn mk rg jb pu c2 hu:Nat}
def Hb.under(H:Hb T po rn mk rg jb pu)(C:Ck T nu pc pa nb un ib cf po rp ir mv)(n:Nat)(a:1<=k)(U:k<=10)(F:cv k f)(G:cv k g) :
  ∃ S:List Nat,cu (4*k) (jn k) (rb k f g) S/\au T (n+3) pu [.tup<|L f,.tup<|L g]=some (.tup [.tup<|L<|aL k f g,.int (S.length:Nat)]):=by
 have T2:=two F G
 have O:∀ x:Nat,x<4*k->i0 (.lst<|L<|jL k) (.int (x:Nat))=some (.int (jn k x:Nat)):=λx I=>by rw[Cj (by rw[Cd];exact I),Nt I]
 have hb:∀ x:Nat,x<4*k->i0 (.lst<|L<|pq k f g) (.int (x:Nat))=some (.int (rb k f g x:Nat)):=λx I=>by rw[Cj (by rw[Gk F G];exact I),Iq F G I]
 have r1:∀ (n x:Nat),x<4*k->∃ i,i<4*k/\f6 (jn k) (rb k f g) x i/\(∀ j,j<i->¬ f6 (jn k) (rb k f g) x j)/\au T (n+1) rn [.lst<|L<|jL k,.lst<|L<|pq k f g,.int (x:Nat)]=some (.lst<|L<|hR (jn k) (rb k f g) x i):=λn x I=>by
  let#[i,a1,a2,a3,a4]:=yt T2 ⋯ O hb I;exact#[i,a1,a2,a3,(aA H.Jt).trans a4]
 have r2:∀ (n x:Nat),x<4*k->∃ i,i<4*k/\f6 (rb k f g) (jn k) x i/\(∀ j,j<i->¬ f6 (rb k f g) (jn k) x j)/\au T (n+1) rn [.lst<|L<|pq k f g,.lst<|L<|jL k,.int (x:Nat)]=some (.lst<|L<|hR (rb k f g) (jn k) x i):=λn x I=>by
  let#[i,a1,a2,a3,a4]:=yt T2.swap ⋯ hb O I;exact#[i,a1,a2,a3,(aA H.Jt).trans a4]
 let#[S,R,e]:=wR T2 ⋯ (by
  show some (D.int ((L<|jL k).length:Nat))=_
  rw[cZ,Cd]) O hb (r1 n) (r2 n) (λs P ps Y Z=>by
  let#[s',c,b]:=DE Y Z
  exact#[s',c,(aA H.Oj).trans b])
 exact#[S,R,(aA H.NR).trans<|tJ a U F G (C.half (n+1) F.len) ((aA H.Od).trans<|yJ U) (r1<|n+1)<|(aA H.NP).trans e]
end
section
def oq(I:p<2*n):Cn (jn n) (rb n (bf n) f) (out n p) (2*n+p):=by
 unfold out;split
 ·rename_i c
  have e:rb n (bf n) f p=n+p:=by unfold rb;rw[if_pos ⋯,plain_at,if_pos c]
  exact(uk e).trans<|Ae<|E2 c
 ·rw[add_comm];exact .refl
def oA(I:p<2*n):Cn (jn n) (rb n f<|bf n) (out n p) p:=by
 unfold out;split
 ·exact .refl
 ·rename_i c
  have e:rb n f (bf n) (p+2*n)=2*n+(p-n):=by unfold rb;rw[if_neg ⋯,show p+2*n-2*n=p by lia,plain_at,if_neg c,if_pos I]
  have:=EB (n:=n) (m:=p-n) ⋯;rw[show n+(p-n)=p by lia]at this;exact(uk e).trans<|Ae this
def rG(F:cv n f):aL n (bf n) f=f:=by
 have T:=two (dB n) F;refine jT dW F.len λp I=>?_;have hl:=F.lt p I;refine(found_iff (dB n) F I hl<|Ne.symm<|F.no p I).mpr ?_
 have e:rb n (bf n) f (2*n+p)=2*n+at' f p:=by unfold rb;rw[if_neg ⋯,show 2*n+p-2*n=p by lia]
 exact(oq I).trans<|(uk e).trans<|(oq hl).symm T<|bG hl
def rK(F:cv n f):aL n f (bf n)=f:=by
 have T:=two F<|dB n;refine jT dW F.len λp I=>?_;have hl:=F.lt p I;refine(found_iff F (dB n) I hl<|Ne.symm<|F.no p I).mpr ?_
 have e:rb n f (bf n) p=at' f p:=by unfold rb;rw[if_pos I]
 exact(oA I).trans<|(uk e).trans<|(oA hl).symm T<|bG hl
def rF(F:cv n f):cu (4*n) (jn n) (rb n (bf n) f) []:=by
 refine#[by simp,.nil,by simp,λx O=>.inl ?_];apply Classical.byContradiction;intro I;let#[m,hm,_,nm]:=vo (dB n) F O I;refine nm ⟨out n m,bG ⋯,.inl<|iu ⋯,?_⟩;have:=Cn.sa<|oq (n:=n) (f:=f) (p:=m) ⋯;rw[EB hm]at this;exact this
def sC(F:cv n f):cu (4*n) (jn n) (rb n f<|bf n) []:=by
 refine#[by simp,.nil,by simp,λx O=>.inl ?_];apply Classical.byContradiction;intro I;let#[m,hm,_,nm]:=vo F (dB n) O I;exact nm ⟨out n<|n+m,bG ⋯,.inl<|iu ⋯,oA ⋯⟩
end
def uE{xs:List Nat}{b:Nat->Nat}(nd:xs.Nodup)(cl:∀ x∈xs,b x∈xs)(bi:∀ x∈xs,b (b x)=x)(no:∀ x∈xs,b x≠x):xs.length%2=0:=by
 have a:(xs.filter λx=>decide<|x<b x).length<=(xs.filter λx=>decide<|b x<x).length:=by
  have:(xs.filter λx=>decide<|x<b x).length=((xs.filter λx=>decide<|x<b x).map b).length:=by simp
  rw[this];refine dZ ?_ λy O=>?_
  ·rw[Qu,Qx];refine List.Pairwise.imp_of_mem ?_<|Qu.mp<|nd.filter _;intro x y I O R e;rw[mem_filter]at I O;exact R<|by rw[<-bi x I.1,e,bi y O.1]
  ·let#[x,I,rfl]:=List.mem_map.mp O;rw[mem_filter,decide_eq_true_eq]at I ⊢;exact#[cl x I.1,by rw[bi x I.1];exact I.2]
 have Z:(xs.filter λx=>decide<|b x<x).length<=(xs.filter λx=>decide<|x<b x).length:=by
  have:(xs.filter λx=>decide<|b x<x).length=((xs.filter λx=>decide<|b x<x).map b).length:=by simp
  rw[this];refine dZ ?_ λy O=>?_
  ·rw[Qu,Qx];refine List.Pairwise.imp_of_mem ?_<|Qu.mp<|nd.filter _;intro x y I O R e;rw[mem_filter]at I O;exact R<|by rw[<-bi x I.1,e,bi y O.1]
  ·let#[x,I,rfl]:=List.mem_map.mp O;rw[mem_filter,decide_eq_true_eq]at I ⊢;exact#[cl x I.1,by rw[bi x I.1];exact I.2]
 have Y:∀ ys:List Nat,(∀ x∈ys,b x≠x)->ys.length=(ys.filter λx=>decide<|x<b x).length+(ys.filter λx=>decide<|b x<x).length:=by
  intro ys
  induction ys with
  | nil=>intro _;rfl
  |cons y ys U=>
   intro h;have i:=U λx I=>h x<|Qm _ I;have O:=h y Qq;rw[Qw,Qw];by_cases c:y<b y
   ·rw[if_pos<|decide_eq_true c,if_neg<|by rw[decide_eq_true_eq];lia];simp only[length_cons];lia
   ·rw[if_neg (by rw[decide_eq_true_eq];exact c),if_pos<|decide_eq_true ⋯];simp only[length_cons];lia
 have:=Y xs no;lia
section
abbrev rp(n x:Nat):Nat:=if x<2*n then rd n x else 2*n+rd n (x-2*n)
abbrev ni(n:Nat)(Q:List Nat)(x:Nat):Nat:=(Q.filter λy=>decide (y<2*n↔x<2*n)&&decide (rp n y<rp n x)).length
def iy(Q:List Nat)(P R:Nat->Bool):(Q.filter P).length=(Q.filter λy=>P y&&R y).length+(Q.filter λy=>P y && !R y).length:=by
 induction Q with
 | nil=>rfl
 |cons y Q I=>
  rw[Qw,Qw,Qw];cases P y<;>cases R y<;>simp[]<;>lia
def cF{Q:List Nat}(e:∀ y∈Q,P y=R y):(Q.filter P).length=(Q.filter R).length:=by rw[List.filter_congr e]
def qk(R:x<4*n)(O:y<4*n)(e:rp n x=rp n y):x=y:=by
 unfold rp at e;have:∀ q,q<2*n->rd n q<2*n:=λq I=>bj I;split at e<;>split at e
 ·exact jh ⋯ ⋯ e
 ·have:=this x ⋯;lia
 ·have:=this y ⋯;lia
 ·have:=jh (n:=n) (p:=x-2*n) (q:=y-2*n) (by omega) (by omega) ⋯;omega
def Bn(V:Val n h)(W:Val n l)(e:x<4*n)(d:y<4*n):¬ (rp n x<rp n y/\rp n y<rp n (rb n h l x)/\rp n (rb n h l x)<rp n (rb n h l y)):=by
 have F:=V.fj;have G:=W.fj;have T:=two F G;rintro⟨Y,O,R⟩;have r2:∀ q,q<2*n->rd n q<2*n:=λq c=>bj c;by_cases U:x<2*n
 ·have ex:rb n h l x=at' h x:=by unfold rb;rw[if_pos U]
  have Z:=F.lt x U;by_cases I:y<2*n
  ·have a:rb n h l y=at' h y:=by unfold rb;rw[if_pos I]
   have b:=F.lt y I;rw[ex]at O R;rw[a]at R;unfold rp at Y O R;rw[if_pos U,if_pos I]at Y;rw[if_pos I,if_pos Z]at O;rw[if_pos Z,if_pos b]at R;refine V.lk (rd n x) (rd n y) (bj U) (bj I) ?_;unfold dV;rw[bT U,bT I];exact#[Y,O,R]
  ·rw[ex]at O;unfold rp at O;rw[if_neg I,if_pos Z]at O;have:=r2 _ Z;lia
 ·have ex:rb n h l x=2*n+at' l (x-2*n):=by unfold rb;rw[if_neg U]
  have Z:=G.lt (x-2*n) (by omega);by_cases I:y<2*n
  ·unfold rp at Y;rw[if_neg U,if_pos I]at Y;have:=r2 _ I;lia
  ·have a:rb n h l y=2*n+at' l (y-2*n):=by unfold rb;rw[if_neg I]
   have b:=G.lt (y-2*n) (by omega);rw[ex]at O R;rw[a]at R;unfold rp at Y O R;rw[if_neg U,if_neg I]at Y;rw[if_neg I,if_neg ⋯,QG]at O;rw[if_neg ⋯,if_neg ⋯,QG,QG]at R;refine W.lk (rd n<|x-2*n) (rd n<|y-2*n) (bj<|by omega) (bj<|by omega) ?_;unfold dV;rw[bT (by omega),bT<|by omega];exact#[by lia,by lia,by lia]
structure h8(n:Nat)(h l Q:List Nat):Prop where
 nd:Q.Nodup
 lt:∀ y∈Q,y<4*n
 b:∀ y∈Q,rb n h l y∈Q
 a:∀ y∈Q,jn n y∈Q
def so(F:cv n h)(G:cv n l)(I:x<4*n):rb n h l x<2*n↔x<2*n:=by
 unfold rb;split
 ·rename_i c;have:=F.lt x c;lia
 ·lia
def MI(V:Val n h)(W:Val n l){Q:List Nat}(C:h8 n h l Q)(I:x<4*n)(R:x∉Q):ni n Q (rb n h l x)%2=ni n Q x%2:=by
 have F:=V.fj;have G:=W.fj;have T:=two F G
 have key:∀ x,x<4*n->x∉Q->rp n x<rp n (rb n h l x)->ni n Q (rb n h l x)%2=ni n Q x%2:=by
  intro x I R lt;have bl:=T.bl x I;have a:rb n h l x∉Q:=λz=>R (by have:=C.b _ z;rw[T.bi x I]at this;exact this);have d:=so F G (h:=h) (l:=l) I
  have e:ni n Q (rb n h l x)=ni n Q x+(Q.filter λy=>decide (y<2*n↔x<2*n)&&(decide (rp n x<rp n y)&&decide (rp n y<rp n (rb n h l x)))).length:=by
   unfold ni;rw[iy Q (λy=>decide (y<2*n↔rb n h l x<2*n)&&decide (rp n y<rp n (rb n h l x))) λy=>decide<|rp n y<rp n x];congr 1
   ·refine cF λy O=>?_;rw[QH];simp only[and_eq_true,decide_eq_true_eq];rw[d];lia
   ·refine cF λy O=>?_;have ne:rp n y≠rp n x:=λe=>R<|qk (C.lt y O) I e▸O;rw[QH];simp only[and_eq_true,decide_eq_true_eq,Bool.not_eq_true',decide_eq_false_iff_not];rw[d];lia
  have ev:=uE (b:=rb n h l) (xs:=Q.filter λy=>decide (y<2*n↔x<2*n)&&(decide (rp n x<rp n y)&&decide (rp n y<rp n (rb n h l x)))) (C.nd.filter _) (λy O=>by
   simp only[mem_filter,and_eq_true,decide_eq_true_eq]at O ⊢;let#[U,f,k,j]:=O;have Y:=C.lt y U;have Z:=T.bl y Y;refine#[C.b y U,by rw[so F G Y];exact f,?_];have n1:=Bn V W I Y;have n2:=Bn V W Z I;rw[T.bi y Y]at n2;have i:rp n (rb n h l y)≠rp n x:=λe=>R<|qk Z I e▸C.b y U;have g:rp n (rb n h l y)≠rp n (rb n h l x):=λe=>a<|qk Z bl e▸C.b y U
   lia) (λy O=>by
   simp only[mem_filter]at O
   exact T.bi y<|C.lt y O.1) (λy O=>by
   simp only[mem_filter]at O
   exact iF F G<|C.lt y O.1)
  lia
 by_cases c:rp n x<rp n (rb n h l x)
 ·exact key x I R c
 ·have bl:=T.bl x I;have a:rb n h l x∉Q:=λz=>R (by have:=C.b _ z;rw[T.bi x I]at this;exact this);have ne:rp n (rb n h l x)≠rp n x:=λe=>iF F G I<|qk bl I e;have:=key (rb n h l x) bl a (by rw[T.bi x I];lia);rw[T.bi x I]at this;exact this.symm
def xS(F:cv n h)(G:cv n l){Q:List Nat}(C:h8 n h l Q):(Q.filter λy=>decide<|y<2*n).length%2=0:=by
 have T:=two F G;refine uE (b:=rb n h l) (C.nd.filter _) (λy I=>?_) (λy I=>?_) λy I=>?_
 ·simp only[mem_filter,decide_eq_true_eq]at I ⊢;exact#[C.b y I.1,(so F G<|C.lt y I.1).mpr I.2]
 ·simp only[mem_filter]at I;exact T.bi y<|C.lt y I.1
 ·simp only[mem_filter]at I;exact iF F G<|C.lt y I.1
set_option synthInstance.maxSize 10000 in
set_option synthInstance.maxHeartbeats 0 in
def jQ:∀ n,n<11->∀ m,m<n->∀ y,y<4*n->(decide (y<2*n↔2*n+m<2*n)&&decide (rp n y<rp n (2*n+m)))=decide (2*n<=y/\y<2*n+m) /\
  (y≠n+m->(decide (y<2*n) && !decide (rp n y<rp n (n+m)))=decide (n<=y/\y<n+m))/\(decide (y<2*n↔n+m<2*n)&&decide (rp n y<rp n (n+m)))=(decide (y<2*n)&&decide (rp n y<rp n (n+m))) /\
  (2*n<=y->y<2*n+m->n<=jn n y/\jn n y<n+m)/\(n<=y->y<n+m->2*n<=jn n y/\jn n y<2*n+m):=by decide +kernel
def xZ(hn:n<11)(F:cv n h)(G:cv n l){Q:List Nat}(C:h8 n h l Q)(hm:m<n)(Z:n+m∉Q):ni n Q (2*n+m)%2=ni n Q (n+m)%2:=by
 have T:=two F G
 have swap:(Q.filter λy=>decide<|2*n<=y/\y<2*n+m).length=(Q.filter λy=>decide<|n<=y/\y<n+m).length:=by
  have go:∀ (P R:Nat->Bool),(∀ y,y<4*n->P y=true->R (jn n y)=true)->(Q.filter P).length<=(Q.filter R).length:=λP R Y=>by
   have:(Q.filter P).length=((Q.filter P).map<|jn n).length:=by simp
   rw[this];refine dZ ?_ λy I=>?_
   ·rw[Qu,Qx];refine List.Pairwise.imp_of_mem ?_<|Qu.mp<|C.nd.filter _;intro x y O I U e;rw[mem_filter]at O I;exact U<|by rw[<-T.ai x (C.lt x O.1),e,T.ai y<|C.lt y I.1]
   ·let#[x,O,rfl]:=List.mem_map.mp I;rw[mem_filter]at O ⊢;exact#[C.a x O.1,Y x (C.lt x O.1) O.2]
  refine Nat.le_antisymm (go _ _ λy I e=>?_) (go _ _ λy I e=>?_)
  ·rw[decide_eq_true_eq]at e ⊢;exact(jQ n hn m hm y I).2.2.2.1 e.1 e.2
  ·rw[decide_eq_true_eq]at e ⊢;exact(jQ n hn m hm y I).2.2.2.2 e.1 e.2
 have d:ni n Q (2*n+m)=(Q.filter λy=>decide<|2*n<=y/\y<2*n+m).length:=cF λy I=>(jQ n hn m hm y<|C.lt y I).1
 have c:ni n Q (n+m)+(Q.filter λy=>decide<|n<=y/\y<n+m).length=(Q.filter λy=>decide<|y<2*n).length:=by
  rw[iy Q (λy=>decide<|y<2*n) λy=>decide<|rp n y<rp n (n+m)];congr 1
  ·exact cF λy I=>(jQ n hn m hm y<|C.lt y I).2.2.1
  ·exact(cF λy I=>(jQ n hn m hm y<|C.lt y I).2.1 λe=>Z<|e▸I).symm
 have b:=xS F G C;lia
def Jj(hn:n<11)(V:Val n h)(W:Val n l)(C:h8 n h l Q)(Y:x<4*n)(d:x∉Q)(c:Cn (jn n) (rb n h l) x z):z∉Q/\ni n Q z%2=ni n Q x%2:=by
 have F:=V.fj;have G:=W.fj;have T:=two F G
 induction c with
 | refl=>exact#[d,rfl]
 |@sa y hy ih=>
  let#[I,R]:=ih;have O:=hy.lt T Y;have U:jn n y∉Q:=λz=>I (by have:=C.a _ z;rw[T.ai y O]at this;exact this);refine#[U,?_];rw[<-R];by_cases c1:y<n
  ·have:jn n y=y:=by unfold jn;rw[if_pos c1]
   rw[this]
  ·by_cases g:y<2*n
   ·have e:y=n+(y-n):=by lia
    have:jn n y=2*n+(y-n):=by rw[e,E2 ⋯];lia
    rw[this];have:=xZ hn F G C (m:=y-n) ⋯ (by rw[<-e];exact I);rw[<-e]at this;exact this
   ·by_cases f:y<3*n
    ·have e:y=2*n+(y-2*n):=by lia
     have Z:jn n y=n+(y-2*n):=by rw[e,EB ⋯];lia
     have:=xZ hn F G C (m:=y-2*n) ⋯ (by rw[<-Z];exact U);rw[<-e,<-Z]at this;exact this.symm
    ·have:jn n y=y:=by unfold jn;rw[if_neg c1,if_neg g,if_neg f]
     rw[this]
 |@sb y hy ih=>
  let#[I,R]:=ih;have O:=hy.lt T Y;exact⟨λz=>I (by have:=C.b _ z;rw[T.bi y O]at this;exact this),by rw[MI V W C O I,R]⟩
end
section
def FW{Q:List Nat}(nd:Q.Nodup)(hu:u∈Q)(R:v∈Q)(ne:u≠v)(only:∀ y∈Q,P y=true->y=u\/y=v):(Q.filter P).length=([u,v].filter P).length:=by
 have O:[u,v].Nodup:=by simp[ne]
 refine Nat.le_antisymm (dZ (nd.filter _) λy I=>?_) (dZ (O.filter _) λy I=>?_)
 ·rw[mem_filter]at I ⊢;exact⟨by rcases only y I.1 I.2 with e | e<;>simp[e],I.2⟩
 ·rw[mem_filter]at I ⊢;refine#[?_,I.2];have:=I.1;simp only[mem_cons,not_mem_nil,or_false]at this;rcases this with rfl | rfl<;>assumption
abbrev r6(n p y:Nat):Bool:=(decide (y<n)&&decide (y<rd n p)) || (decide (3*n<=y)&&decide (rd n (y-2*n)<rd n p))
set_option synthInstance.maxSize 10000 in
set_option synthInstance.maxHeartbeats 0 in
def xQ:∀ n,n<11->∀ p,p<2*n->∀ y,y<4*n->(p<n->(decide (y<2*n↔p<2*n)&&decide (rp n y<rp n p))=r6 n p y) /\
  (¬ p<n->(decide (y<2*n↔p+2*n<2*n)&&decide (rp n y<rp n (p+2*n))&&decide (y<3*n))=decide (2*n<=y/\y<3*n) /\
   (decide (y<2*n↔p+2*n<2*n)&&decide (rp n y<rp n (p+2*n)) && !decide (y<3*n))=(decide (3*n<=y)&&decide (rd n (y-2*n)<rd n p)) /\
   (r6 n p y&&decide (y<n))=decide (y<n)/\(r6 n p y && !decide (y<n))=(decide (3*n<=y)&&decide (rd n (y-2*n)<rd n p))) /\
  (decide (y<2*n)&&decide (y<n))=decide (y<n)/\(decide (y<2*n) && !decide (y<n))=decide (n<=y/\y<2*n) /\
  (2*n<=y->y<3*n->n<=jn n y/\jn n y<2*n)/\(n<=y->y<2*n->2*n<=jn n y/\jn n y<3*n)/\(r6 n p y=true->jn n y=y):=by decide +kernel
def yz(hn:n<11)(F:cv n h)(G:cv n l)(C:h8 n h l Q)(d:p<2*n):ni n Q (out n p)%2=(Q.filter<|r6 n p).length%2:=by
 have T:=two F G;have O:=λy (I:y∈Q)=>xQ n hn p d y<|C.lt y I;by_cases c:p<n
 ·have b:out n p=p:=by unfold out;rw[if_pos c]
  rw[b];congr 1;exact cF λy I=>(O y I).1 c
 ·have b:out n p=p+2*n:=by unfold out;rw[if_neg c]
  have go:∀ (P R:Nat->Bool),(∀ y,y∈Q->P y=true->R (jn n y)=true)->(Q.filter P).length<=(Q.filter R).length:=λP R Z=>by
   have:(Q.filter P).length=((Q.filter P).map<|jn n).length:=by simp
   rw[this];refine dZ ?_ λy I=>?_
   ·rw[Qu,Qx];refine List.Pairwise.imp_of_mem ?_<|Qu.mp<|C.nd.filter _;intro x y U I Y e;rw[mem_filter]at U I;exact Y<|by rw[<-T.ai x (C.lt x U.1),e,T.ai y<|C.lt y I.1]
   ·let#[x,U,rfl]:=List.mem_map.mp I;rw[mem_filter]at U ⊢;exact#[C.a x U.1,Z x U.1 U.2]
  have swap:(Q.filter λy=>decide<|2*n<=y/\y<3*n).length=(Q.filter λy=>decide<|n<=y/\y<2*n).length:=by
   refine Nat.le_antisymm (go _ _ λy I e=>?_) (go _ _ λy I e=>?_)
   ·rw[decide_eq_true_eq]at e ⊢;exact(O y I).2.2.2.2.1 e.1 e.2
   ·rw[decide_eq_true_eq]at e ⊢;exact(O y I).2.2.2.2.2.1 e.1 e.2
  have j:ni n Q (p+2*n)=(Q.filter λy=>decide<|2*n<=y/\y<3*n).length+(Q.filter λy=>decide (3*n<=y)&&decide (rd n (y-2*n)<rd n p)).length:=by
   unfold ni;rw[iy Q (λy=>decide (y<2*n↔p+2*n<2*n)&&decide (rp n y<rp n (p+2*n))) λy=>decide<|y<3*n,cF λy I=>((O y I).2.1 c).1,cF λy I=>((O y I).2.1 c).2.1]
  have i:(Q.filter<|r6 n p).length=(Q.filter λy=>decide<|y<n).length+(Q.filter λy=>decide (3*n<=y)&&decide (rd n (y-2*n)<rd n p)).length:=by
   rw[iy Q (r6 n p) λy=>decide<|y<n,cF λy I=>((O y I).2.1 c).2.2.1,cF λy I=>((O y I).2.1 c).2.2.2]
  have g:(Q.filter λy=>decide<|y<2*n).length=(Q.filter λy=>decide<|y<n).length+(Q.filter λy=>decide<|n<=y/\y<2*n).length:=by
   rw[iy Q (λy=>decide<|y<2*n) λy=>decide<|y<n,cF λy I=>(O y I).2.2.1,cF λy I=>(O y I).2.2.2.1]
  have f:=xS F G C;lia
def Kq(F:cv n h)(G:cv n l)(O:s<2*n):∃ Q,h8 n h l Q/\∀ y,y∈Q↔Cn (jn n) (rb n h l) (out n s) y:=by
 have T:=two F G;let#[k,Y,st,hn]:=kL T<|bG O
 have mem:∀ y,y∈hR (jn n) (rb n h l) (out n s) k↔Cn (jn n) (rb n h l) (out n s) y:=λy=>by
  rw[sL];exact#[λ#[i,_,e]=>e▸mV i,λc=>sy T (bG O) st hn (.inl<|iu O) c]
 refine#[_,#[?_,λy I=>((mem y).mp I).lt T<|bG O,λy I=>(mem _).mpr<|.sb<|(mem y).mp I,λy I=>(mem _).mpr<|.sa<|(mem y).mp I],mem];unfold hR;rw[Qu,Qx];refine List.Pairwise.imp_of_mem ?_<|List.pairwise_lt_range (n:=k+1);intro i j hi U R;exact mN T (bG O) hn R (by have:=List.mem_range.mp U;lia)
def mR(O:p<2*n)(I:q<2*n):r6 n p (out n q)=decide (rd n q<rd n p):=by
 unfold r6 out;split
 ·rename_i c
  have:rd n q=q:=by unfold rd;rw[if_pos c]
  lia
 ·rename_i c;rw[show q+2*n-2*n=q by lia];lia
def j5(hn:n<=10)(V:Val n h)(W:Val n l):Val n (aL n h l):=by
 have F:=V.fj;have G:=W.fj;have FF:=dF F G;refine#[FF,λq q' f R k=>?_];let#[c1,o,m]:=k;have p1:=bj f;have s1:=bj R;unfold dV at o m;have ep:rd n (rd n q)=q:=bT f;have es:rd n (rd n q')=q':=bT R;generalize rd n q=p at *;generalize rd n q'=s at *;have O:=FF.lt p p1;have Y:=FF.lt s s1;let#[Q,C,mem]:=Kq F G s1;have i:=(mem _).mpr .refl;have g:=(mem _).mpr<|(found_iff F G s1 Y<|Ne.symm<|FF.no s s1).mp rfl;have Z:=λe=>FF.no s s1 (sx e s1 Y).symm
 have only:∀ t,t<2*n->out n t∈Q->t=s\/t=at' (aL n h l) s:=λt a hm=>by
  by_cases c:s=t
  ·exact .inl c.symm
  ·exact .inr ((found_iff F G s1 a c).mpr<|(mem _).mp hm).symm
 have j:out n p∉Q:=λz=>by
  rcases only p p1 z with e | e
  ·subst e;lia
  ·subst e;lia
 have pc:=(found_iff F G p1 O<|Ne.symm<|FF.no p p1).mp rfl;let#[_,U]:=Jj ⋯ V W C (bG p1) j pc;rw[yz ⋯ F G C O,yz ⋯ F G C p1]at U
 have I:∀ t,t<2*n->(Q.filter<|r6 n t).length=([out n s,out n<|at' (aL n h l) s].filter<|r6 n t).length:=λt a=>by
  refine FW C.nd i g Z λy d e=>?_;have b:=C.lt y d;have:jn n y=y:=(xQ n ⋯ t a y b).2.2.2.2.2.2 e;let#[u,hu,rfl]:=JU b this;rcases only u hu d with e | e
  ·exact .inl<|by rw[e]
  ·exact .inr<|by rw[e]
 rw[I p p1,I _ O,Qw,Qw,Qw,Qw,mR O s1,mR O Y,mR p1 s1,mR p1 Y]at U;rw[if_pos (by rw[decide_eq_true_eq];lia),if_neg (by rw[decide_eq_true_eq];lia),if_neg (by rw[decide_eq_true_eq];lia),if_neg<|by rw[decide_eq_true_eq];lia]at U;simp at U
end
structure n0(M:Nat)(a a' b:Nat->Nat)(N:Nat)(c f o:Nat->Nat):Prop where
 T:hD M a b
 T':hD M a' b
 T2:hD N c f
 ol:∀ p,p<N->o p<M
 oi:∀ p q,p<N->q<N->o p=o q->p=q
 fx:∀ x,x<M->a x=x->∃ p,p<N/\x=o p
 fo:∀ p,p<N->a (o p)=o p
 jo:∀ p,p<N->a' (o p)=o (c p)
 jj:∀ x,x<M->a x≠x->a' x=a x
 ff:∀ p q,p<N->q<N->p≠q->(f p=q↔Cn a b (o p) (o q))
 nb:∀ x,x<M->b x≠x
 nf:∀ p,p<N->f p≠p
section
def n0.up(D:n0 M a a' b N c f o)(I:x<M)(h:Cn a b x y):Cn a' b x y:=by
 induction h with
 | refl=>exact .refl
 |@sa y hy ih=>
  by_cases e:a y=y
  ·rw[e];exact ih
  ·rw[<-D.jj y (hy.lt D.T I) e];exact .sa ih
 | @sb y hy ih=>exact .sb ih
def n0.to(D:n0 M a a' b N c f o)(O:p<N)(h:Cn c f p q):Cn a' b (o p) (o q):=by
 induction h with
 | refl=>exact .refl
 | @sa y hy ih=>rw[<-D.jo y (hy.lt D.T2 O)];exact .sa ih
 |@sb y hy ih=>
  have I:=hy.lt D.T2 O;exact ih.trans<|D.up (D.ol y I)<|(D.ff y _ I (D.T2.bl y I)<|Ne.symm<|D.nf y I).mp rfl
def n0.one(D:n0 M a a' b N c f o)(R:q<N)(O:t<N)(I:Cn c f p q)(U:Cn a b (o q) (o t)):Cn c f p t:=by
 by_cases z:q=t
 ·rw[<-z];exact I
 ·have:=(D.ff q t R O z).mpr U;rw[<-this];exact .sb I
def n0.back(D:n0 M a a' b N c f o)(Z:p<N)(h:Cn a' b (o p) y):∃ q,q<N/\Cn c f p q/\Cn a b (o q) y:=by
 induction h with
 | refl=>exact#[p,Z,.refl,.refl]
 |@sa y hy ih=>
  let#[q,O,R,I]:=ih;have Y:=I.lt D.T<|D.ol q O;by_cases e:a y=y
  ·let#[t,U,rfl]:=D.fx y Y e;exact#[c t,D.T2.al t U,.sa<|D.one O U R I,by rw[D.jo t U];exact .refl]
  ·exact#[q,O,R,by rw[D.jj y Y e];exact .sa I]
 |@sb y hy ih=>
  let#[q,O,R,I]:=ih;exact#[q,O,R,.sb I]
def n0.iff(D:n0 M a a' b N c f o)(I:p<N)(O:q<N):Cn c f p q↔Cn a' b (o p) (o q) :=
 ⟨D.to I,λh=>by
  let#[t,Y,U,R]:=D.back I h
  exact D.one Y O U R⟩
def n0.ring(D:n0 M a a' b N c f o)(O:x<M)(R:¬ o7 M a b x)(h:Cn a' b x y):Cn a b x y:=by
 induction h with
 | refl=>exact .refl
 |@sa y hy ih=>
  have I:=ih.lt D.T O;rw[D.jj y I λe=>R ⟨y,I,.inl e,ih.symm D.T O⟩];exact .sa ih
 | @sb y hy ih=>exact .sb ih
def n0.rings(D:n0 M a a' b N c f o){S C:List Nat}(R:cu M a b S)(Z:cu N c f C):cu M a' b (S++C.map o):=by
 have j:∀ s∈S,¬ o7 M a b s:=λs I ⟨q,U,O,i⟩=>by
  have:=R.ring s I q<|i.symm D.T U;rcases O with O | O
  ·exact this.1 O
  ·exact this.2 O
 refine#[λs I=>?_,?_,λs I y h=>?_,λx m=>?_]
 ·rcases List.mem_append.mp I with I | I
  ·exact R.lt s I
  ·let#[p,Y,rfl]:=List.mem_map.mp I;exact D.ol p<|Z.lt p Y
 ·rw[QF,Qx];refine#[List.Pairwise.imp_of_mem (λ{s t} I d hn h=>hn<|D.ring (R.lt s I) (j s I) h) R.nd,List.Pairwise.imp_of_mem (λ{p q} Y n hn h=>hn<|(D.iff (Z.lt p Y)<|Z.lt q n).mpr h) Z.nd,λs I t d h=>?_];let#[p,Y,rfl]:=List.mem_map.mp d;have l:=Z.lt p Y;exact j s I ⟨o p,D.ol p l,.inl<|D.fo p l,(D.ring (R.lt s I) (j s I) h).symm D.T<|R.lt s I⟩
 ·rcases List.mem_append.mp I with I | I
  ·have c1:=D.ring (R.lt s I) (j s I) h;have g:=R.ring s I y c1;exact#[by rw[D.jj y (c1.lt D.T<|R.lt s I) g.1];exact g.1,g.2]
  ·let#[p,Y,rfl]:=List.mem_map.mp I;let#[q,U,O,i]:=D.back (Z.lt p Y) h;have k:=i.lt D.T<|D.ol q U;refine#[λe=>?_,D.nb y k];by_cases z:a y=y
   ·let#[t,d,rfl]:=D.fx y k z;rw[D.jo t d]at e;exact(Z.ring p Y t<|D.one U d O i).1<|D.oi _ _ (D.T2.al t d) d e
   ·exact z<|(D.jj y k z).symm.trans e
 ·by_cases z:o7 M a b x
  ·let#[s,U,O,i]:=z;have O:a s=s:=O.resolve_right<|D.nb s U;let#[p,Y,rfl]:=D.fx s U O;have u:=D.up U i
   rcases Z.all p Y with⟨q,g1,g2,r⟩ | ⟨q,g1,g2⟩
   ·have g2:=g2.resolve_right<|D.nf q g1;exact .inl #[o q,D.ol q g1,.inl (by rw[D.jo q g1,g2]),(D.to g1 r).trans u]
   ·exact .inr #[o q,List.mem_append.mpr<|.inr<|List.mem_map.mpr #[q,g1,rfl],(D.to (Z.lt q g1) g2).trans u]
  ·rcases R.all x m with h | ⟨s,U,O⟩
   ·exact absurd h z
   ·exact .inr #[s,List.mem_append.mpr<|.inl U,D.up (R.lt s U) O]
end
def l6(T:hD m a b):∃ S,cu m a b S:=by
 classical
 refine#[(List.range m).filter λx=>decide ((∀ y,Cn a b x y->a y≠y/\b y≠y)/\∀ y,Cn a b x y->x<=y),λs U=>?_,?_,λs U y c=>?_,λx I=>?_]
 ·exact List.mem_range.mp (List.mem_filter.mp U).1
 ·refine List.Pairwise.imp_of_mem ?_<|List.pairwise_lt_range.filter _;intro x y I R lt c;have R:=List.mem_filter.mp R;have d:=List.mem_range.mp (List.mem_filter.mp I).1;have:=(of_decide_eq_true R.2).2 x<|c.symm T d;lia
 ·exact(of_decide_eq_true (List.mem_filter.mp U).2).1 y c
 ·by_cases p:o7 m a b x
  ·exact .inl p
  ·refine .inr ?_;let#[k,_,O,hm]:=least (P:=λk=>Cn a b x k) x .refl;have f:=O.lt T I;refine#[k,List.mem_filter.mpr #[List.mem_range.mpr f,decide_eq_true #[λy c=>?_,λy c=>Nat.le_of_not_lt λz=>hm y z<|O.trans c]],O.symm T I];have Y:=O.trans c;have Z:=Y.lt T I;exact#[λe=>p #[y,Z,.inl e,Y.symm T I],λe=>p #[y,Z,.inr e,Y.symm T I]]
section
def Cn.map{t:Nat->Nat}(T:hD m a b)(ha:∀ x,x<m->t (a x)=a' (t x))(hb:∀ x,x<m->t (b x)=b' (t x))(I:x<m)(c:Cn a b x y):Cn a' b' (t x) (t y):=by
 induction c with
 | refl=>exact .refl
 | @sa y hy ih=>rw[ha y<|hy.lt T I];exact .sa ih
 | @sb y hy ih=>rw[hb y<|hy.lt T I];exact .sb ih
end
abbrev j3(n x:Nat):Nat:=if x<n then x else if x<2*n then x+n else if x<3*n then x-n else if x<4*n then x+n else if x<5*n then x-n else x
abbrev jB(n x:Nat):Nat:=if x<3*n then x else if x<4*n then x+n else if x<5*n then x-n else x
abbrev r3(n:Nat)(h m l:List Nat)(x:Nat):Nat:=if x<2*n then at' h x else 2*n+rb n m l (x-2*n)
abbrev oB(n p:Nat):Nat:=if p<3*n then p else p+2*n
def cu.part{m M:Nat}{a b a' Z t:Nat->Nat}(T':hD m a' Z)(h:∀ x,x<m->t x<M)(ti:∀ x y,x<m->y<m->t x=t y->x=y)(ha:∀ x,x<m->t (a' x)=a (t x))(hb:∀ x,x<m->t (Z x)=b (t x))(rest:∀ z,z<M->(∃ x,x<m/\z=t x)\/a z=z){S:List Nat}(R:cu m a' Z S):cu M a b (S.map t):=by
 have back:∀ {x w:Nat},x<m->Cn a b (t x) w->∃ v,v<m/\w=t v/\Cn a' Z x v:=λ{x w} U c=>by
  induction c with
  | refl=>exact#[x,U,rfl,.refl]
  |sa _ d=>
   let#[v,I,rfl,O]:=d;exact#[_,T'.al v I,(ha v I).symm,.sa O]
  |sb _ d=>
   let#[v,I,rfl,O]:=d;exact#[_,T'.bl v I,(hb v I).symm,.sb O]
 refine#[λs f=>?_,?_,λs f y c=>?_,λz i=>?_]
 ·let#[x,U,rfl]:=List.mem_map.mp f;exact h x<|R.lt x U
 ·rw[Qx];refine List.Pairwise.imp_of_mem (λ{x y} U j hn c=>?_) R.nd;let#[v,I,O,Y]:=back (R.lt x U) c;exact hn<|by rw[ti y v (R.lt y j) I O];exact Y
 ·let#[x,U,rfl]:=List.mem_map.mp f;let#[v,I,rfl,Y]:=back (R.lt x U) c;have g:=R.ring x U v Y;exact#[λe=>g.1<|ti _ _ (T'.al v I) I<|(ha v I).trans e,λe=>g.2<|ti _ _ (T'.bl v I) I<|(hb v I).trans e]
 ·rcases rest z i with⟨x,U,rfl⟩ | e
  ·rcases R.all x U with⟨s,I,O,Y⟩ | ⟨s,I,O⟩
   ·refine .inl #[t s,h s I,?_,Y.map T' ha hb I];rcases O with O | O
    ·exact .inl<|by rw[<-ha s I,O]
    ·exact .inr<|by rw[<-hb s I,O]
   ·exact .inr #[t s,List.mem_map.mpr #[s,I,rfl],O.map T' ha hb<|R.lt s I]
  ·exact .inl #[z,i,.inl e,.refl]
section
def ng(F:cv n h)(I:x<4*n):r3 n h m l x=rb n h m x:=by
 unfold r3 rb;by_cases c:x<2*n
 ·rw[if_pos c,if_pos c]
 ·rw[if_neg c,if_neg c,if_pos<|by omega]
def Nn(I:4*n<=x):r3 n h m l x=4*n+at' l (x-4*n):=by
 unfold r3 rb;rw[if_neg ⋯,if_neg ⋯,show x-2*n-2*n=x-4*n by lia];lia
def pX:r3 n h m l (2*n+x)=2*n+rb n m l x:=by
 unfold r3;rw[if_neg ⋯,show 2*n+x-2*n=x by lia]
def mM(F:cv n h)(G:cv n m)(H:cv n l)(O:x<6*n):r3 n h m l x<6*n/\r3 n h m l (r3 n h m l x)=x/\r3 n h m l x≠x:=by
 by_cases c:x<2*n
 ·have e:r3 n h m l x=at' h x:=by unfold r3;rw[if_pos c]
  have lt:=F.lt x c;rw[e];refine#[by lia,?_,F.no x c];unfold r3;rw[if_pos lt];exact F.inv x
 ·let#[y,rfl]:∃ y,x=2*n+y:=#[x-2*n,by omega]
  have T:=two G H
  have I:y<4*n:=by lia
  have lt:=T.bl y I;rw[pX];refine#[by lia,by rw[pX,T.bi y I],?_];have:=iF G H I;lia
def uo(F:cv n h)(G:cv n m)(H:cv n l)(O:∀ x,x<6*n->j x<6*n)(jj:∀ x,x<6*n->j (j x)=x):hD (6*n) j (r3 n h m l):=#[O,λx I=>(mM F G H I).1,jj,λx I=>(mM F G H I).2.1]
def F4(I:p<2*n):rb n f g p=at' f p:=by unfold rb;rw[if_pos I]
def ER:rb n f g (2*n+p)=2*n+at' g p:=by unfold rb;rw[if_neg ⋯,show 2*n+p-2*n=p by lia]
def AS(U:a x=x)(R:a (b x)=b x)(O:b (b x)=x)(c:Cn a b x y):y=x\/y=b x:=by
 induction c with
 | refl=>exact .inl rfl
 |sa _ I=>
  rcases I with rfl | rfl
  ·exact .inl U
  ·exact .inr R
 |sb _ I=>
  rcases I with rfl | rfl
  ·exact .inr rfl
  ·exact .inl O
set_option synthInstance.maxSize 10000 in
set_option synthInstance.maxHeartbeats 0 in
def EX:∀ n,n<11->∀ x,x<6*n->(jn n x<6*n/\jn n (jn n x)=x)/\(j3 n x<6*n/\j3 n (j3 n x)=x)/\(jB n x<6*n/\jB n (jB n x)=x)/\(jn n x=x->x<n\/3*n<=x)/\(jn n x≠x->j3 n x=jn n x)/\(jB n x=x->x<3*n\/5*n<=x)/\(jB n x≠x->j3 n x=jB n x):=by decide +kernel
set_option synthInstance.maxSize 10000 in
set_option synthInstance.maxHeartbeats 0 in
def Ft:∀ n,n<11->∀ p,p<4*n->(out n p<6*n/\jn n (out n p)=out n p/\j3 n (out n p)=out n (jn n p))/\(oB n p<6*n/\jB n (oB n p)=oB n p/\j3 n (oB n p)=oB n (jn n p)):=by decide +kernel
def gq(c:¬ p<n):out n p=p+2*n:=by unfold out;rw[if_neg c]
def jk(c:p<n):out n p=p:=by unfold out;rw[if_pos c]
def jz(c:p<3*n):oB n p=p:=by unfold oB;rw[if_pos c]
def mI(c:¬ p<3*n):oB n p=p+2*n:=by unfold oB;rw[if_neg c]
def zV(e:out n p=out n q):p=q:=by
 by_cases c:p<n
 ·rw[jk c]at e;by_cases d:q<n
  ·rw[jk d]at e;exact e
  ·rw[gq d]at e;lia
 ·rw[gq c]at e;by_cases d:q<n
  ·rw[jk d]at e;lia
  ·rw[gq d]at e;lia
def DY(e:oB n p=oB n q):p=q:=by
 by_cases c:p<3*n
 ·rw[jz c]at e;by_cases d:q<3*n
  ·rw[jz d]at e;exact e
  ·rw[mI d]at e;lia
 ·rw[mI c]at e;by_cases d:q<3*n
  ·rw[jz d]at e;lia
  ·rw[mI d]at e;lia
def Cu(hn:n<11)(F:cv n h)(G:cv n m)(H:cv n l):n0 (6*n) (jn n) (j3 n) (r3 n h m l) (4*n) (jn n) (rb n (aL n h m) l) (out n):=by
 have FF:=dF F G;have U:=EX n hn;have Z:=Ft n hn;have R:hD (4*n) (jn n) (rb n h m):=two F G
 have b:hD (4*n) (jn n) (r3 n h m l):=#[R.al,λx I=>by rw[ng F I];exact R.bl x I,R.ai,λx I=>by rw[ng F I,ng F<|R.bl x I];exact R.bi x I]
 refine⟨uo F G H (λx I=>(U x I).1.1) λx I=>(U x I).1.2,uo F G H (λx I=>(U x I).2.1.1) λx I=>(U x I).2.1.2,two FF H,
  λp O=>(Z p O).1.1,λp q _ _ e=>zV e,λx I e=>?_,λp O=>(Z p O).1.2.1,λp O=>(Z p O).1.2.2,λx I e=>(U x I).2.2.2.2.1 e,λp q O r ne=>?_,λx I=>(mM F G H I).2.2,λp O=>iF FF H O⟩
 ·rcases(U x I).2.2.2.1 e with c | c
  ·exact#[x,by lia,(jk c).symm]
  ·exact#[x-2*n,by lia,by rw[gq ⋯];lia]
 ·by_cases c:p<2*n
  ·have lo:=bG c;rw[F4 c];constructor
   ·rintro rfl;have lf:=FF.lt p c;exact((found_iff F G c lf ne).mp rfl).map R (t:=λx=>x) (λx I=>rfl) (λx I=>(ng F I).symm) lo
   ·intro z;have z:=z.map b (t:=λx=>x) (a':=jn n) (b':=rb n h m) (λx I=>rfl) (λx I=>ng F I) lo;have g:=z.lt R lo
    have j:q<2*n:=by
     by_cases d:q<n
     ·lia
     ·rw[gq d]at g;lia
    exact(found_iff F G c j ne).mpr z
  ·let#[y,rfl]:∃ y,p=2*n+y:=#[p-2*n,by lia]
   have i:y<2*n:=by lia
   have o:=H.lt y i
   have Y:∀ y,out n (2*n+y)=4*n+y:=λy=>by rw[gq ⋯];lia
   have a:∀ y,r3 n h m l (4*n+y)=4*n+at' l y:=λy=>by rw[Nn ⋯,QG]
   have f:∀ y,jn n (4*n+y)=4*n+y:=λy=>by unfold jn;rw[if_neg ⋯,if_neg ⋯,if_neg ⋯]
   rw[ER,Y];constructor
   ·rintro rfl;rw[Y,<-a];exact .sb .refl
   ·intro z;have k:=(mM (l:=l) F G H (x:=4*n+y) ⋯).2.1;rcases AS (f y) (by rw[a,f]) k z with w | w
    ·exact absurd (zV<|(Y y).trans w.symm) ne
    ·rw[a,<-Y]at w;exact zV w.symm
def Fz(y:Nat):jB n (2*n+y)=2*n+jn n y:=by
 unfold jB jn;by_cases c:y<n
 ·rw[if_pos c,if_pos ⋯]
 ·rw[if_neg c,if_neg ⋯];by_cases d:y<2*n
  ·rw[if_pos d,if_pos ⋯];lia
  ·rw[if_neg d,if_neg ⋯];by_cases e:y<3*n
   ·rw[if_pos e,if_pos ⋯];lia
   ·rw[if_neg e,if_neg ⋯]
def BO(hn:n<11)(F:cv n h)(G:cv n m)(H:cv n l):n0 (6*n) (jB n) (j3 n) (r3 n h m l) (4*n) (jn n) (rb n h<|aL n m l) (oB n):=by
 have FF:=dF G H;have U:=EX n hn;have i:=Ft n hn;have A:hD (4*n) (jn n) (rb n m l):=two G H
 have k:∀ y,oB n (2*n+y)=2*n+out n y:=λy=>by
  by_cases c:y<n
  ·rw[jz ⋯,jk c]
  ·rw[mI ⋯,gq c];lia
 have o:=Fz (n:=n)
 refine⟨uo F G H (λx I=>(U x I).2.2.1.1) λx I=>(U x I).2.2.1.2,uo F G H (λx I=>(U x I).2.1.1) λx I=>(U x I).2.1.2,two F FF,
  λp O=>(i p O).2.1,λp q _ _ e=>DY e,λx I e=>?_,λp O=>(i p O).2.2.1,λp O=>(i p O).2.2.2,λx I e=>(U x I).2.2.2.2.2.2 e,λp q O B ne=>?_,λx I=>(mM F G H I).2.2,λp O=>iF F FF O⟩
 ·rcases(U x I).2.2.2.2.2.1 e with c | c
  ·exact#[x,by lia,(jz c).symm]
  ·exact#[x-2*n,by lia,by rw[mI ⋯];lia]
 ·by_cases c:p<2*n
  ·have b:=F.lt p c;have a:∀ {y:Nat},y<2*n->oB n y=y:=λ{y} g=>jz ⋯
   have j:∀ {y:Nat},y<2*n->r3 n h m l y=at' h y:=λ{y} g=>by unfold r3;rw[if_pos g]
   have Y:∀ {y:Nat},y<2*n->jB n y=y:=λ{y} g=>by unfold jB;rw[if_pos ⋯]
   rw[F4 c,a c];constructor
   ·rintro rfl;rw[a b,<-j c];exact .sb .refl
   ·intro z;have r:=(mM (l:=l) F G H (x:=p) ⋯).2.1;rcases AS (Y c) (by rw[j c,Y b]) r z with w | w
    ·exact absurd (DY<|(a c).trans w.symm) ne
    ·rw[j c,<-a b]at w;exact DY w.symm
  ·let#[y,rfl]:∃ y,p=2*n+y:=#[p-2*n,by lia]
   have Z:y<2*n:=by lia
   have lo:=bG Z;rw[ER,k];constructor
   ·rintro rfl;have lf:=FF.lt y Z;rw[k];exact((found_iff G H Z lf ⋯).mp rfl).map A (t:=λx=>2*n+x) (λx I=>(o x).symm) (λx I=>pX.symm) lo
   ·intro z
    have back:∀ {x w:Nat},x<4*n->Cn (jB n) (r3 n h m l) (2*n+x) w->∃ v,w=2*n+v/\Cn (jn n) (rb n m l) x v:=λ{x w} I cc=>by
     induction cc with
     | refl=>exact#[x,rfl,.refl]
     |sa _ f=>
      let#[v,rfl,R]:=f;exact#[_,o v,.sa R]
     |sb _ f=>
      let#[v,rfl,R]:=f;exact#[_,pX,.sb R]
    let#[v,R,s]:=back lo z
    let#[u,rfl]:∃ u,q=2*n+u:=⟨q-2*n,by
     by_cases d:q<3*n
     ·rw[jz d]at R;lia
     ·lia⟩
    rw[k]at R;have:v=out n u:=Nat.add_left_cancel R.symm;subst this;rw[(found_iff G H Z (show u<2*n by lia) ⋯).mpr s]
def xp(hn:n<11)(F:cv n h)(G:cv n m)(H:cv n l):aL n (aL n h m) l=aL n h (aL n m l):=by
 have A:=dF F G;have B:=dF G H;have C:=dF A H;refine jT dW dW λp I=>?_;have O:=C.lt p I;have ne:=Ne.symm<|C.no p I;have c1:=((Cu hn F G H).iff (bG I)<|bG O).mp<|(found_iff A H I O ne).mp rfl
 have e:∀ {p:Nat},p<2*n->out n (out n p)=oB n (out n p):=λ{p} I=>by
  by_cases c:p<n
  ·rw[jk c,jk c,jz ⋯]
  ·rw[gq c,gq ⋯,mI ⋯]
 rw[e I,e O]at c1;exact((found_iff F B I O ne).mpr<|((BO hn F G H).iff (bG I)<|bG O).mpr c1).symm
def xw(hn:n<11)(F:cv n h)(G:cv n m)(H:cv n l){Z Y U R:List Nat}(R1:cu (4*n) (jn n) (rb n h m) Z)(R2:cu (4*n) (jn n) (rb n (aL n h m) l) Y)(R3:cu (4*n) (jn n) (rb n m l) U)(i:cu (4*n) (jn n) (rb n h<|aL n m l) R):Z.length+Y.length=U.length+R.length:=by
 have a1:=R1.part (M:=6*n) (a:=jn n) (b:=r3 n h m l) (t:=λx=>x) (two F G) (λx I=>by lia) (λ_ _ _ _ e=>e) (λ_ _=>rfl) (λx I=>(ng F I).symm) (λz d=>by
  by_cases c:z<4*n
  ·exact .inl #[z,c,rfl]
  ·exact .inr<|by unfold jn;rw[if_neg ⋯,if_neg ⋯,if_neg ⋯])
 have a3:=R3.part (M:=6*n) (a:=jB n) (b:=r3 n h m l) (t:=λx=>2*n+x) (two G H) (λx I=>by lia) (λ_ _ _ _ e=>by lia) (λx I=>(Fz x).symm) (λx I=>pX.symm) (λz d=>by
  by_cases c:z<2*n
  ·exact .inr<|by unfold jB;rw[if_pos ⋯]
  ·exact .inl #[z-2*n,by omega,by lia])
 have O:=Cu hn F G H;have g:=O.rings a1 R2;have f:=(BO hn F G H).rings a3 i;have:=g.one O.T' f;simpa using this
end
abbrev r0(n:Nat)(h l:List Nat):Nat:=Classical.epsilon λr=>∃ S,cu (4*n) (jn n) (rb n h l) S/\S.length=r
section
def kW(F:cv n h)(G:cv n l){S:List Nat}(R:cu (4*n) (jn n) (rb n h l) S):r0 n h l=S.length:=by
 have:=Classical.epsilon_spec (p:=λr=>∃ S,cu (4*n) (jn n) (rb n h l) S/\S.length=r) ⟨_,S,R,rfl⟩;let#[O,I,e]:=this;exact e.symm.trans<|I.one (two F G) R
abbrev eV(n:Nat)(a b:List Nat × Nat):List Nat × Nat:=(aL n a.1 b.1,r0 n a.1 b.1+a.2+b.2)
def yX(hn:n<=10){a b c:List Nat × Nat}(A:cv n a.1)(B:cv n b.1)(C:cv n c.1):eV n (eV n a b) c=eV n a (eV n b c):=by
 have R:=dF A B;have O:=dF B C;let#[d,R1]:=l6<|two A B;let#[Z,R2]:=l6<|two R C;let#[Y,R3]:=l6<|two B C;let#[U,I]:=l6<|two A O;have e:=xw ⋯ A B C R1 R2 R3 I;rw[<-kW A B R1,<-kW R C R2,<-kW B C R3,<-kW A O I]at e;unfold eV;refine Prod.ext (xp ⋯ A B C) ?_;dsimp only;lia
def Ed{a:List Nat × Nat}(A:cv n a.1):eV n a (bf n,0)=a:=by
 unfold eV;refine Prod.ext (rK A) ?_;dsimp only;rw[kW A (dB n)<|sC A];simp
def oW{a:List Nat × Nat}(A:cv n a.1):eV n (bf n,0) a=a:=by
 unfold eV;refine Prod.ext (rG A) ?_;dsimp only;rw[kW (dB n) A<|rF A];simp
abbrev kG(n:Nat)(a:List Nat × Nat)(fs:List (List Nat)):List Nat × Nat:=fs.foldl (λa f=>eV n a (f,0)) a
abbrev eo(n:Nat)(fs:List (List Nat)):List Nat × Nat:=kG n (bf n,0) fs
def CS(hn:n<=10)(V:∀ f∈fs,Val n f):∀ {a:List Nat × Nat},Val n a.1->Val n (kG n a fs).1:=by
 induction fs with
 | nil=>exact λA=>A
 | cons f r I=>exact λ{a} A=>I (λg O=>V g<|by simp[O]) (a:=eV n a (f,0))<|j5 hn A<|V f<|by simp
def n8(hn:n<=10)(V:∀ f∈fs,Val n f):Val n (eo n fs).1:=CS hn V<|mF n
def DQ(hn:n<=10)(V:∀ f∈fs,Val n f):∀ {a:List Nat × Nat},Val n a.1->kG n a fs=eV n a (eo n fs):=by
 induction fs with
 | nil=>exact λA=>(Ed A.fj).symm
 |cons f r R=>
  intro a A;have I:=V f (by simp);have O:∀ g∈r,Val n g:=λg Z=>V g (by simp[Z]);have Y:=R O (a:=eV n a (f,0))<|j5 hn A I;have U:=R O (a:=eV n (bf n,0) (f,0))<|j5 hn (mF n) I;rw[oW (a:=(f,0)) I.fj]at U;have d:kG n a (f::r)=kG n (eV n a (f,0)) r:=rfl;have c:eo n (f::r)=kG n (eV n (bf n,0) (f,0)) r:=rfl;rw[d,Y,c,oW (a:=(f,0)) I.fj,U,yX hn (b:=(f,0)) A.fj I.fj (n8 hn O).fj]
def iJ(hn:n<=10)(X:∀ f∈xs,Val n f)(Y:∀ f∈ys,Val n f):eo n (xs++ys)=eV n (eo n xs) (eo n ys):=by
 have:eo n (xs++ys)=kG n (eo n xs) ys:=by unfold eo kG;rw[List.foldl_append]
 rw[this,DQ hn Y<|n8 hn X]
end
end RM
namespace RT
open RL
abbrev pI(I Y U O R:Nat):Ss :=
 %[.iw [3,5]<|.call I %[3#0,2#0|_],.aug 4 .add 5#0|_]
abbrev pO(U Y I O R:Nat):Ss :=
 %[.c7 (.cmp .ne (.call I %[2#0|_]) 0#0) %[.never|_] .nil|_]
abbrev qg(R Y U I O:Nat):Ss :=
 %[.exc (.call I %[2#0|_])|_]
abbrev tG(R Y U O I:Nat):Fn :=
 ⟨2,6,[],[],%[.exc<|.call I %[0#0|_],.ef [2] (.seq 1#0)<|qg R Y U O I,.ef [2] (.seq 1#0)<|pO R Y U O I,.asg 3<|.call Y %[0#0|_],.asg 4 0#1,.ef [2] (.seq 1#0)<|pI R Y U O I,.ret (.tup %[3#0,4#0|_])|_]⟩
end RT
namespace RM
open RL RT
abbrev x4(fs:List (List Nat)):List D:=fs.map λf=>.tup<|L f
abbrev fy(a:List Nat × Nat):D:=.tup [.tup<|L a.1,.int (a.2:Nat)]
def rO(f:List Nat):(D.tup<|L f).ax=true:=by simp[D.ax,bh]
def il(a:List Nat × Nat):(fy a).ax=true:=by
 show((D.tup<|L a.1).ax&&((D.int (a.2:Nat)).ax&&true))=true;rw[rO];rfl
def uf(I:List (List Nat)->St->Prop):∀ (xs done:List (List Nat)) (J:St),(∀ x∈xs,∀ (d:List (List Nat)) (J:St),I d J->∃ O,f (J.set i<|some<|.tup<|L x)=some (.nx,O)/\I (d++[x]) O)->I done J->∃ R,bp f [i] (x4 xs) J=some (.nx,R)/\I (done++xs) R
 | [],done,J,_,h0=>#[J,rfl,by simpa using h0]
 | x::r,done,J,hs,h0=>by
  let#[O,b,a]:=hs x (by simp) done J h0;let#[R,Z,Y]:=uf I r (done++[x]) O (λy U=>hs y<|by simp[U]) a;exact#[R,FT (rO x) rfl b Z,by simpa using Y]
section
variable{nu pc pa nb un ib cf po rp ir mv rn mk rg jb pu c2 hu:Nat}
def Hb.LQ(H:Hb T po rn mk rg jb pu)(C:Ck T nu pc pa nb un ib cf po rp ir mv)(n:Nat)(O:1<=k)(I:k<=10)(F:cv k f)(G:cv k g):au T (n+3) pu [.tup<|L f,.tup<|L g]=some (fy (aL k f g,r0 k f g)):=by
 let#[S,R,e]:=H.under C n O I F G;rw[e,fy,kW F G R]
def Hb.sM(H:Hb T po rn mk rg jb pu)(C:Ck T nu pc pa nb un ib cf po rp ir mv)(R:T[cp]?=some (dm pc))(a:T[pl]?=some (iW cp))(Z:T[st]?=some (tG pu pl po cf cp))(n:Nat)(U:1<=k)(O:k<=10)(V:∀ f∈fs,Val k f) :
  au T (n+6) st [.int (k:Nat),.lst<|x4 fs]=some (fy<|eo k fs):=by
 let#[g,m,o1,rfl]:=uf (f:=aq (au T<|n+5) []<|qg pu pl po cf cp) (i:=2) (λ_ J=>∃ o,J=[some<|.int (k:Nat),some<|.lst<|x4 fs,o,none,none,none]) fs [] _ (λx I d J ⟨o,e⟩=>by
  subst e
  exact#[_,cj (cz ()<|C.check n U O<|V x I) aK,_,rfl]) ⟨none,rfl⟩
 let#[c,l,o2,rfl]:=uf (f:=aq (au T<|n+5) []<|pO pu pl po cf cp) (i:=2) (λ_ J=>∃ o,J=[some<|.int (k:Nat),some<|.lst<|x4 fs,o,none,none,none]) fs [] _ (λx I d J ⟨o,e⟩=>by
  subst e
  exact#[_,aY (aO (aF (cz ()<|C.half (n+4) (V x I).fj.len) () (show bW .ne (.int (k:Nat)) (.int (k:Nat))=some false by rw[Dr];simp))) aK,_,rfl]) ⟨o1,rfl⟩
 let#[b,j,o3,Y,rfl,p]:=uf (f:=aq (au T<|n+5) []<|pI pu pl po cf cp) (i:=2) (λd J=>∃ o Y,J=[some<|.int (k:Nat),some<|.lst<|x4 fs,o,some<|.tup<|L (eo k d).1,some<|.int ((eo k d).2:Nat),Y]/\Val k (eo k d).1) fs [] [some<|.int (k:Nat),some<|.lst<|x4 fs,o2,some<|.tup<|L<|bf k,some<|.int ((0:Nat):Int),none] (λx I d J ⟨o,Y,e,W⟩=>by
  subst e
  have h:eo k (d++[x])=eV k (eo k d) (x,0):=by unfold eo kG;rw[List.foldl_append];rfl
  rw[h]
  exact⟨_,bY (bH () ()<|H.LQ C (n+2) U O W.fj (V x I).fj) rfl (by simp[ae,D.ax,bh]) rfl<|je rfl () bQ aK,_,_,by
   show _=[some<|D.int (k:Nat),some<|.lst<|x4 fs,some<|.tup<|L x,some<|.tup<|L<|aL k (eo k d).1 x,some<|.int ((r0 k (eo k d).1 x+(eo k d).2+0:Nat):Int),some<|.int (r0 k (eo k d).1 x:Nat)];rw[show((r0 k (eo k d).1 x+(eo k d).2+0:Nat):Int)=((eo k d).2:Int)+(r0 k (eo k d).1 x:Nat) by omega]
   rfl,j5 O W<|V x I⟩) ⟨o2,none,rfl,mF k⟩
 exact(aA Z).trans<|aE rfl rfl<|cj (cz ()<|C.ql R (n+2) U O)<|dD (fv () rfl) m<|dD (fv () rfl) l<|aJ (cz ()<|C.plain R a (n+1) U O) (by simp[aX,D.ax,bh])<|aJ ah rfl<|dD (fv () rfl) j<|aH (d:=fy<|eo k fs) (bg<|ak ()<|ak () aD)<|by unfold bU;rw[il];rfl
end
end RM
namespace RT
open RL
end RT
namespace RM
open RL RT
end RM
namespace RT
open RL
end RT
namespace RM
open RL RT
end RM
namespace RT
open RL
end RT
namespace RM
open RL RT
end RM
namespace RT
open RL
end RT
namespace RM
open RL RT
abbrev Cb(m:Nat):Nat->Nat
 | 0=>1
 | i+1=>Cb m i*(m-i) / (i+1)
abbrev Wy(m g:Nat):Nat:=if g<=m/\(m-g)%2=0 then(if m=g then 1 else Cb m ((m-g) / 2)-Cb m ((m-g) / 2-1))else 0
def mr{m g:Nat}(h:m<g):Wy m g=0:=by
 unfold Wy;rw[if_neg ⋯]
end RM
namespace RT
open RL
abbrev BJ(I:Nat):Fn :=
 ⟨2,3,[],[],%[.c7 (.or (.cmp .lt 1#0 0#1)<|.or (.cmp .gt 1#0 0#0)<|.cmp .eq (.bin .mod (.bin .sub 0#0 1#0) 2#1) 1#1) %[.ret 0#1|_] .nil,.asg 2<|.bin .fdiv (.bin .sub 0#0 1#0) 2#1,.ret (.bin .sub (.call I %[0#0,2#0|_])<|.call I %[0#0,.bin .sub 2#0 1#1|_])|_]⟩
abbrev pM:Ss :=
 %[.asg 2 (.bin .fdiv (.bin .mul 2#0<|.bin .sub 0#0 3#0)<|.bin .add 3#0 1#1)|_]
abbrev mG:Fn :=
 ⟨2,4,[],[],%[.c7 (.cmp .lt 1#0 0#1) %[.ret 0#1|_] .nil,.asg 2 1#1,.ef [3] (.dd 1#0)<|pM,.ret 2#0|_]⟩
abbrev rT(I:Nat):Fn :=
 ⟨2,2,[],[],%[.c7 (.or (.not<|.call I %[0#0|_])<|.not<|.chain .le .lt 0#1 0#0 1#0) %[.never|_] .nil|_]⟩
end RT
namespace RM
open RL RT
section
variable{cl:Cl}
def qh{M:List Nat}{e:E}(i:Int):aX M e (.int i)=true:=rfl
def vz{M:List Nat}{e:E}(i:Int):bU M e (.int i)=true:=rfl
def xh{m c:Nat}(hm:m<=100)(a:c<=m):dn cl mG [.int (m:Nat),.int (c:Nat)]=some (.int (Cb m c:Nat)):=by
 let#[O,e,o3,rfl]:=wo (f:=aq cl [] pM) (tg:=[3]) (λp:Nat=>.int (p:Nat)) (λ_=>rfl)
  (λu J=>∃ o3:Option D,J=[some<|.int (m:Nat),some<|.int (c:Nat),some<|.int (Cb m u.length:Nat),o3])
  (List.range c) [] [some<|.int (m:Nat),some<|.int (c:Nat),some<|.int (Cb m 0:Nat),none] (by
   rintro u p v J hu ⟨o3,rfl⟩;let#[Z,I]:=nZ (g:=id) (by simpa using hu);simp only[id]at I;subst I;have lt:((u.length:Nat):Int)+1<2 ^ 200:=Int.lt_of_lt_of_le (b:=1000) ⋯ ∅;have R:((m:Nat):Int)-(u.length:Nat)<2 ^ 64:=Int.lt_of_lt_of_le (b:=1000) ⋯ ∅;have U:-(2 ^ 64)<((m:Nat):Int)-(u.length:Nat):=Int.lt_of_lt_of_le (b:=0) ∅ ⋯
   have a1:ev cl [some<|.int (m:Nat),some<|.int (c:Nat),some<|.int (Cb m u.length:Nat),some<|.int (u.length:Nat)] (.bin .fdiv (.bin .mul 2#0<|.bin .sub 0#0 3#0)<|.bin .add 3#0 1#1)=some (.int (Cb m (u.length+1):Nat)):=by
    refine aC (x:=.int<|(Cb m u.length:Nat)*((m:Nat)-(u.length:Nat))) (y:=.int<|(u.length:Nat)+1) (aC () (aC () () gX)<|vn U R) (aC () ah bQ) ?_;rw[qL ⋯ lt,Cb,Int.natCast_ediv,Int.natCast_mul,Int.natCast_sub ⋯];rfl
   have Y:=aJ (cl:=cl) (M:=[]) (i:=2) a1 (qh _) aK;refine#[[some<|.int (m:Nat),some<|.int (c:Nat),some<|.int (Cb m (u.length+1):Nat),some<|.int (u.length:Nat)],?_,some<|.int (u.length:Nat),?_]
   ·have bt:aZ [3] (.int (u.length:Nat)) [some<|.int (m:Nat),some<|.int (c:Nat),some<|.int (Cb m u.length:Nat),o3]=some [some<|.int (m:Nat),some<|.int (c:Nat),some<|.int (Cb m u.length:Nat),some<|.int (u.length:Nat)]:=rfl;rw[bt,Option.bind_some];exact Y
   rw[length_append,List.length_singleton]) ⟨none,rfl⟩
 rw[nil_append,length_range]at e;exact aE rfl rfl<|aY (aO<|aF (k:=false) () ah<|by rw[eX,Qh ⋯])<|aJ (d:=.int (Cb m 0:Nat)) ah (qh _)<|dD (km ()<|fB ⋯) e<|aH (d:=.int (Cb m c:Nat)) ()<|vz _
def uI{m:Nat}:dn cl mG [.int (m:Nat),.int<|-1]=some (.int 0) :=
 aE rfl rfl (fO (aO<|aF (k:=true) () ah rfl)<|aH ah rfl)
def Dw{R m g:Nat}(hm:m<=100)(le:g<=m->m≠g->Cb m ((m-g) / 2-1)<=Cb m ((m-g) / 2))(Z:∀ c:Nat,c<=m->cl R [.int (m:Nat),.int (c:Nat)]=some (.int (Cb m c:Nat)))(i:cl R [.int (m:Nat),.int<|-1]=some (.int 0)):dn cl (BJ R) [.int (m:Nat),.int (g:Nat)]=some (.int (Wy m g:Nat)):=by
 have s1:ev cl [some<|.int (m:Nat),some<|.int (g:Nat),none] (.cmp .lt 1#0 0#1)=some (.bl false):=aF () ah (by rw[eX,Qh ⋯]);by_cases c:m<g
 ·rw[mr c];exact aE rfl rfl<|fO (aO<|lD s1<|Mm<|aF (k:=true) () ()<|by rw[kF,decide_eq_true ⋯])<|aH ah rfl
 ·have s2:ev cl [some<|.int (m:Nat),some<|.int (g:Nat),none] (.cmp .gt 1#0 0#0)=some (.bl false):=aF () () (by rw[kF,Qh ⋯]);have sb:∀ {J:St},(J[0]?).bind id=some (D.int (m:Nat))->(J[1]?).bind id=some (D.int (g:Nat))->ev cl J (.bin .sub 0#0 1#0)=some (.int ((m-g:Nat):Int)):=λa b=>aC (aa a) (aa b) (by rw[gX,Int.natCast_sub ⋯])
  have Y:aT .mod (.int ((m-g:Nat):Int)) (.int 2)=some (.int (((m-g)%2:Nat):Int)):=by rw[lE ∅];rfl
  by_cases l:(m-g)%2=1
  ·have e:Wy m g=0:=by unfold Wy;rw[if_neg ⋯]
   rw[e];exact aE rfl rfl<|fO (aO<|lD s1<|lD s2<|aF (k:=true) (aC (sb rfl rfl) ah Y) ah<|by rw[js,l];rfl)<|aH ah rfl
  ·have f:ev cl [some<|.int (m:Nat),some<|.int (g:Nat),none] (.cmp .eq (.bin .mod (.bin .sub 0#0 1#0) 2#1) 1#1)=some (.bl false):=aF (aC (sb rfl rfl) ah Y) ah (by rw[js,beq_eq_false_iff_ne.mpr ⋯])
   have j:aT .fdiv (.int ((m-g:Nat):Int)) (.int 2)=some (.int (((m-g) / 2:Nat):Int)):=by rw[qL ∅ ∅];rfl
   have O:=Z ((m-g) / 2) ⋯;refine aE rfl rfl<|aY (aO<|lD s1<|lD s2 f)<|aJ (aC (sb rfl rfl) ah j) (qh _)<|aH (d:=.int (Wy m g:Nat)) ?_<|vz _;by_cases U:m=g
   ·have I:Wy m g=1:=by unfold Wy;rw[if_pos ⟨by lia,by lia⟩,if_pos U]
    rw[I]
    have z:(m-g) / 2=0:=by lia
    rw[z]at O ⊢;exact aC (bH () () O) (bH () (aC () ah gX) i) rfl
   ·have h:=Z ((m-g) / 2-1) ⋯
    have I:Wy m g=Cb m ((m-g) / 2)-Cb m ((m-g) / 2-1):=by unfold Wy;rw[if_pos ⟨by lia,by lia⟩,if_neg U]
    have le:=le (by omega) U;rw[I];refine aC (bH () () O) (bH () (aC () ah (by rw[gX,show(((m-g) / 2:Nat):Int)-1=(((m-g) / 2-1:Nat):Int) by lia])) h) ?_;rw[gX,Int.natCast_sub le]
end
def Km{M:List Nat}{e:E}(xs:List Nat):bU M e (.tup<|L xs)=true:=by
 unfold bU;rw[show(D.tup<|L xs).ax=true from bh xs];rfl
def cv.rlt(F:cv n f)(h:q<2*n):dV n f q<2*n:=bj<|F.lt _<|bj h
def cv.Ob(F:cv n f)(h:q<2*n):dV n f (dV n f q)=q:=by
 unfold dV;rw[bT<|F.lt _<|bj h,F.inv,bT h]
def cv.rno(F:cv n f)(h:q<2*n):dV n f q≠q:=λc=>by
 have:=F.no (rd n q)<|bj h;exact this<|by rw[<-bT (F.lt _<|bj h)];exact congrArg (rd n) c
end RM
namespace RL
open PySem (Str)
end RL
namespace RT
open RL
end RT
namespace RM
open RL RT
end RM
namespace RT
open RL
abbrev eg(O R I:Nat):Ss :=
 %[.c7 (.cmp .eq 4#0<|.cst<|.str "(") %[.app 2 3#0|_] %[.tie3 R 1 3 2|_]|_]
abbrev j1(O R I:Nat):Fn :=
 ⟨1,5,[1,2],[],%[.c7 (.not<|.call I %[0#0|_]) %[.never|_] .nil,.own 1<|.bin .mul (.lst %[0#1|_])<|.bi .len 0#0,.own 2<|.lst .nil,.ef [3,4] (.tm 0#0)<|eg O R I,.ret (.call O %[1#0|_])|_]⟩
abbrev fE(I:Nat):Ss :=
 %[.c7 (.o4 true 2#0<|.tup %[.cst<|.str "(",.cst (.str ")")|_]) %[.ret (.cst<|.bl false)|_] .nil,.aug 1 .add<|.nk (.cmp .eq 2#0<|.cst<|.str "(") 1#1<|.neg 1#1,.c7 (.cmp .lt 1#0 0#1) %[.ret (.cst<|.bl false)|_] .nil|_]
abbrev lN(I:Nat):Fn :=
 ⟨1,3,[],[],%[.c7 (.not<|.call I %[.bin .fdiv (.bi .len 0#0) 2#1|_]) %[.ret (.cst<|.bl false)|_] .nil,.asg 1 0#1,.ef [2] (.chr 0#0)<|fE I,.ret (.cmp .eq 1#0 0#1)|_]⟩
end RT
namespace RM
open RL RT
def GS{xs:List D}{R I x d u:D}(a:(J[r]?).bind id=some R)(Z:(J[p]?).bind id=some x)(Y:(J[w]?).bind id=some (.lst<|xs++[d]))(O:x.ax=true)(U:cl f [R,x,d]=some (.tup [u,I]))(k:aq cl M b ((J.set w<|some<|.lst xs).set r<|some I)=res):aq cl M (.cons (.tie3 f r p w) b) J=res:=cC (by
 show((J[r]?).bind id).bind _=_;rw[a,Option.bind_some,Z,Option.bind_some,Y,Option.bind_some,show C4 (.lst<|xs++[d])=some (d,.lst xs) by simp[C4],Option.bind_some,if_pos O,U]
 rfl) k
def Ck.Lo{nu pc pa nb un ib cf po rp ir mv:Nat}(h:Ck T nu pc pa nb un ib cf po rp ir mv)(n:Nat){k:Nat}{f:List Nat}(Y:k<=10)(F:cv k f):∃ E:List Nat,E.length=2*k/\(∀ q,q<2*k->at' E q=dV k f q)/\au T (n+2) ir [.lst<|L f]=some (.tup<|L E):=by
 let#[E,U,R,O]:=lM (c:=.lst) (cl:=au T<|n+1) (fm:=mv) (frp:=rp) (fpo:=po) (.inr rfl) Y F (h.ofL n) (λp I=>h.place n I) (by
  let#[E,U,R,O]:=qK (c:=.lst) (cl:=au T n) (T:=.lst<|L<|rC k) (to:=rd k) (.inr rfl) Y F (λp I=>yp I) (λp I=>bj I) λp q I Z h=>jh I Z h
  exact#[E,U,R,(aA h.LV).trans O])
 exact#[E,U,R,(aA h.Iy).trans O]
def nQ{s ti ir:Nat}(h1:1<=n)(hn:n<=10)(B:w.length=2*n)(hd:i4 0 w=some 0)(hb:cl s [.str<|tx w]=some (.bl true))
 (H:∀ (xs:List Nat) (i j:Nat),i<xs.length->j<xs.length->cl ti [.lst<|L xs,.int (i:Nat),.int (j:Nat)]=some (.tup [.cb,.lst<|L<|(xs.set i j).set j i]))
 (QN:∀ R:List Nat,cv n R->∃ E:List Nat,E.length=2*n/\(∀ q,q<2*n->at' E q=dV n R q)/\cl ir [.lst<|L R]=some (.tup<|L E)) :
  ∃ f:List Nat,(Val n f/\Wd n w f [])/\dn cl (j1 ir ti s) [.str<|tx w]=some (.tup<|L f):=by
 have G:rd n 0=0:=by unfold rd;rw[if_pos ⋯]
 let#[C,e,I]:=Cq (f:=aq cl [1,2]<|eg ir ti s) (tg:=[3,4]) (λb:Bool=>D.str<|tx [b]) (λ_=>rfl)
  (λu J=>∃ (R f S:List Nat) (o3 A:Option D),J=[some<|.str<|tx w,some<|.lst<|L R,some<|.lst<|L S,o3,A]/\i4 0 u=some S.length/\Mt n u.length f S/\(∀ x,x<2*n->at' f x<2*n)/\Wd n u f S/\R.length=2*n/\∀ q,q<2*n->at' R q=dV n f q)
  w [] [some<|.str<|tx w,some<|.lst<|L<|replicate (2*n) 0,some<|.lst<|L [],none,none] (by
   rintro u b v J hu ⟨R,f,S,o3,A,rfl,c,m,Y,r,y,a⟩
   have t:u.length<2*n:=by
    rw[<-B];have:=congrArg List.length hu;simp at this;lia
   have l:∃ d,i4 S.length [b]=some d:=by
    have:i4 0 (u++b::v)=some 0:=by rw[<-hu];exact hd
    rw[kR,c]at this
    revert this
    cases b with
    | true=>exact λ_=>#[_,rfl]
    |false=>
     cases S.length with
     | zero=>exact λh=>nomatch h
     | succ d=>exact λ_=>#[_,rfl]
   cases b with
   |true=>
    have hl:S.length<most:=by have:=vP u 0 c;unfold most;lia
    have ap:L (S++[u.length])=L S++[.int ((u.length:Nat):Int)]:=by simp[L]
    refine#[[some<|.str<|tx w,some<|.lst<|L R,some<|.lst<|L<|S++[u.length],some<|.int u.length,some<|.str<|tx [true]],?_,R,f,S++[u.length],_,_,rfl,?_,by simpa using m.push t,Y,r.push m,y,a]
    ·rw[ap];exact show aq cl [1,2] (eg ir ti s) [some<|.str<|tx w,some<|.lst<|L R,some<|.lst<|L S,some<|.int u.length,some<|.str<|tx [true]]=some (.nx,_)from eG (aO<|aF (k:=true) () ah<|by rw[za];decide) (lY () rfl rfl (by rw[cZ];exact hl) aK) aK
    ·rw[kQ,c];simp[i4]
   |false=>
    let#[d,l]:=l
    have Z:S≠[]:=by
     rintro rfl;simp[i4]at l
    let#[p,U,rfl]:∃ p U,S=p++[U]:=#[S.dropLast,S.getLast Z,(List.dropLast_concat_getLast Z).symm]
    have K:U<u.length:=m.lt U<|by simp
    have ap:L (p++[U])=L p++[.int ((U:Nat):Int)]:=by simp[L]
    have M:=H R u.length U ⋯ ⋯;refine#[[some<|.str<|tx w,some<|.lst<|L<|(R.set u.length U).set U u.length,some<|.lst<|L p,some<|.int u.length,some<|.str<|tx [false]],?_,_,(f.set (rd n U)<|rd n u.length).set (rd n u.length)<|rd n U,p,_,_,rfl,?_,by simpa using m.pop t,?_,r.pop m t,by simp[y],?_]
    ·rw[ap];exact show aq cl [1,2] (eg ir ti s) [some<|.str<|tx w,some<|.lst<|L R,some<|.lst<|L p++[.int ((U:Nat):Int)],some<|.int u.length,some<|.str<|tx [false]]=some (.nx,_)from jw (aO<|aF (k:=false) () ah<|by rw[za];decide) (GS rfl rfl rfl rfl M aK) aK
    ·rw[kQ,c];simp[i4]
    ·intro x O;rw[jc (by simp[m.len];exact bj ⋯),jc<|by rw[m.len];exact bj ⋯];have:=bj (n:=n) (q:=U) ⋯;have:=bj (n:=n) (q:=u.length) ⋯;have:=Y x O
     repeat' split
     all_goals lia
    ·intro q g;rw[jc (by simp;lia),jc ⋯,sq m.len t ⋯ g,a q g]
     repeat' split
     all_goals lia)
  ⟨replicate (2*n) 0,replicate (2*n) 0,[],none,none,rfl,rfl,⟨by simp,by simp,by simp,by simp,by simp,by simp,by simp⟩,λx O=>by simp[at',O];lia,λq g=>by simp at g,by simp,λq g=>by
   have z:∀ x,x<2*n->at' (replicate (2*n) 0) x=0:=λx O=>by simp[at',O]
   unfold dV
   rw[z _<|bj g,z q g,G]⟩
 let#[R,f,S,o3,A,rfl,c,m,Y,r,y,a]:=I;simp only[nil_append]at c m r;rw[hd]at c;have Z:S=[]:=List.eq_nil_of_length_eq_zero (by simpa using c.symm);subst Z;rw[B]at m;have V:=m.val Y;have F:=V.fj
 have T:cv n R:=⟨y,λx O=>by rw[a x O];exact F.rlt O,λx=>by
  by_cases O:x<2*n
  ·rw[a x O,a _<|F.rlt O,F.Ob O]
  ·have o:=jV (f:=R) (x:=x) ⋯
   rw[o,o],λx O=>by rw[a x O];exact F.rno O⟩
 let#[E,X,EE,N]:=QN R T
 have P:E=f:=jT X F.len λx O=>by
  rw[EE x O];unfold dV;rw[a _<|bj O];unfold dV;rw[bT O,bT<|F.lt x O]
 subst P;refine#[E,#[V,r],?_]
 have len:lz .len (.str<|tx w)=some (.int ((2*n:Nat):Int)):=by
  dsimp only[lz];rw[qc,B,if_pos<|by unfold most;lia]
 have Q:aT .mul (.lst [.int 0]) (.int ((2*n:Nat):Int))=some (.lst<|L<|replicate (2*n) 0):=by
  dsimp only[aT];rw[if_pos ⟨by lia,by unfold most;lia,by simp[most];lia⟩];simp[L];lia
 have it:gA (.str<|tx w)=some (w.map λb=>D.str<|tx [b]):=by
  simp[gA,tx,Function.comp_def]
 exact aE rfl rfl (aY (aO<|dQ<|cz () hb) (fR (aC (eC<|ak ah aD) (bP () len) Q) (by rw[show aG (.lst<|L<|replicate (2*n) 0)=true from bh _];rfl) (fR (eC aD) rfl
  (dD (zp () it) e (aH (cz () N) (by unfold bU;rw[show(D.tup<|L E).ax=true from bh _];rfl))))))
def I0:∀ s,s<20->∀ d,d<22->Wy (s+1) d=Wy s (d+1)+(if d=0 then 0 else Wy s (d-1)):=by decide +kernel
def Fm(I:s<20):Wy (s+1) d=Wy s (d+1)+(if d=0 then 0 else Wy s (d-1)):=by
 by_cases c:d<22
 ·exact I0 s I d c
 ·rw[mr ⋯,mr ⋯,if_neg ⋯,mr ⋯]
abbrev rk:Nat->List Bool->Nat
 | _,[]=>0
 | d,true::w=>rk (d+1) w
 | d,false::w=>Wy w.length (d+1)+rk (d-1) w
abbrev ur:Nat->Nat->Nat->List Bool
 | 0,_,_=>[]
 | s+1,d,r=>if r<Wy s (d+1)then true::ur s (d+1) r else false::ur s (d-1) (r-Wy s (d+1))
def Oz:Wy 0 d=if d=0 then 1 else 0:=by
 by_cases c:d=0
 ·subst c;rfl
 ·rw[if_neg c,mr ⋯]
def yL:∀ s d r,s<=20->r<Wy s d->(ur s d r).length=s/\i4 d (ur s d r)=some 0/\rk d (ur s d r)=r
 | 0,d,r,_,h=>by
  rw[Oz]at h;by_cases c:d=0
  ·subst c;rw[if_pos rfl]at h;exact#[rfl,rfl,by show 0=r;lia]
  ·rw[if_neg c]at h;lia
 | s+1,d,r,hs,h=>by
  rw[Fm ⋯]at h;unfold ur;by_cases c:r<Wy s (d+1)
  ·rw[if_pos c];let#[a,b,e]:=yL s (d+1) r ⋯ c;exact#[by simp[a],b,e]
  ·rw[if_neg c]
   have O:d≠0:=λz=>by rw[if_pos z]at h;lia
   rw[if_neg O]at h
   let#[I,rfl]:∃ I,d=I+1:=#[d-1,by lia]
   let#[a,b,e]:=yL s (I+1-1) (r-Wy s (I+1+1)) ⋯ ⋯;exact#[by rw[length_cons,a],b,by rw[rk,a,e];lia]
end RM
namespace RT
open RL
abbrev yO(O I:Nat):Fn :=
 ⟨1,1,[],[],%[.exc<|.call I %[0#0|_],.ret (.call O %[.bin .mul 2#1 0#0,0#1|_])|_]⟩
abbrev gU(I R O U:Nat):Ss :=
 %[.asg 6<|.call R %[5#0,.bin .add 3#0 1#1|_],.c7 (.cmp .lt 1#0<|.bin .add 4#0 6#0) %[.mq 2<|.cst<|.str "(",.aug 3 .add 1#1|_] %[.mq 2<|.cst<|.str ")",.aug 3 .sub 1#1,.aug 4 .add 6#0|_]|_]
abbrev qm(I U O R:Nat):Fn :=
 ⟨2,7,[],[],%[.exc<|.call O %[1#0,.call R %[0#0|_]|_],.asg 2<|.cst<|.str "",.asg 3 0#1,.asg 4 0#1,.ef [5] (.hI (-1) (.bin .sub (.bin .mul 2#1 0#0) 1#1)<|.neg 1#1)<|gU I U O R,.ret (.call I %[2#0|_])|_]⟩
end RT
namespace RM
open RL RT
def yI(hi:(J[i]?).bind id=some (.str a))(h:ev cl J e=some (.str b))(hl:a.length+b.length<=most)(k:aq cl M r (J.set i<|some<|.str<|a++b)=res):aq cl M (.cons (.mq i e) r) J=res :=
 cC (by
  rw[Lw,hi,Option.bind_some,h,Option.bind_some];show(if a.length+b.length<=most then _ else none).map _=_;rw[if_pos hl]
  rfl) k
def qA:∀ (k a:Nat),k<=a+1->cS (-1) (a:Int) k=L ((List.range k).map λi=>a-i)
 | 0,_,_=>rfl
 | k+1,0,h=>by
  have:k=0:=by lia
  subst this;rfl
 | k+1,a+1,h=>by
  rw[cS,List.range_succ_eq_map,show(((a+1:Nat):Int)+-1)=(a:Nat) by lia,qA k a ⋯];rw[map_cons,map_map];show _=D.int ((a+1-0:Nat):Int)::L _;congr 1;unfold L;congr 1;apply QI;intro i _;simp only[Function.comp];lia
def JB(h:1<=m)(hm:m<=1000):mL (-1) (.int<|(m:Nat)-1) (.int<|-1)=some (L ((List.range m).map λi=>m-1-i)):=by
 have e:cB (-1) ((m:Nat)-1) (-1)=m:=by
  unfold cB;rw[if_neg ∅,if_pos ⋯];simp<;>lia
 show(if _ then some (cS (-1) ((m:Nat)-1)<|cB (-1) ((m:Nat)-1)<|-1)else none)=_;rw[e,if_pos ⟨by decide,by decide,by decide,by unfold most;lia,by lia,by lia,by decide,by decide⟩,show((m:Nat):Int)-1=((m-1:Nat):Int) by lia,qA m (m-1) ⋯]
section
def uT{Z wy a Y:Nat}(N:1<=n)(hn:n<=10)(F:r<Wy (2*n) 0)(c1:cl Y [.int (n:Nat)]=some (.int (Wy (2*n) 0:Nat)))(M:cl a [.int (r:Nat),.int (Wy (2*n) 0:Nat)]=some .cb)
 (K:∀ s d:Nat,s<=20->cl wy [.int (s:Nat),.int (d:Nat)]=some (.int (Wy s d:Nat)))(t:cl Z [.str<|tx<|ur (2*n) 0 r]=some (.tup<|L f)):dn cl (qm Z wy a Y) [.int (n:Nat),.int (r:Nat)]=some (.tup<|L f):=by
 let#[B,e,pre,d,A,I,g,O,rfl,j,q,p,U]:=jy (f:=aq cl []<|gU Z wy a Y) (tg:=[5]) (xs:=(List.range<|2*n).map λi=>2*n-1-i) (J:=[some<|.int (n:Nat),some<|.int (r:Nat),some<|.str<|tx [],some<|.int (0:Nat),some<|.int (0:Nat),none,none])
  (λu J=>∃ (pre:List Bool) (d A I:Nat) (g O:Option D),J=[some<|.int (n:Nat),some<|.int (r:Nat),some<|.str<|tx pre,some<|.int (d:Nat),some<|.int (A:Nat),g,O]/\pre.length=u.length/\A+I=r/\I<Wy (2*n-u.length) d/\ur (2*n) 0 r=pre++ur (2*n-u.length) d I)
  ⟨[],0,0,r,none,none,rfl,rfl,by lia,F,rfl⟩ (by
  rintro u x v J hu ⟨pre,d,A,I,g,O,rfl,j,q,p,U⟩;have hl:=congrArg List.length hu;simp at hl
  have C:x=2*n-1-u.length:=by
   have:=congrArg (λl=>l[u.length]?) hu;simp[show u.length<2*n by lia]at this;exact this.symm
  subst C
  let#[s,E]:∃ s,2*n-u.length=s+1:=#[2*n-u.length-1,by lia]
  rw[E]at p U
  have ex:2*n-1-u.length=s:=by lia
  rw[ex];have QN:=K s (d+1) ⋯
  have a6:∀ {R:Option (Out × St)} {b:Ss},aq cl [] b [some<|.int (n:Nat),some<|.int (r:Nat),some<|.str<|tx pre,some<|.int (d:Nat),some<|.int (A:Nat),some<|.int (s:Nat),some<|.int (Wy s (d+1):Nat)]=R->aq cl [] (.cons (.asg 6<|.call wy<|.cons 5#0<|.cons (.bin .add 3#0 1#1) .nil) b) [some<|.int (n:Nat),some<|.int (r:Nat),some<|.str<|tx pre,some<|.int (d:Nat),some<|.int (A:Nat),some<|.int (s:Nat),O]=R:=λh =>
   aJ (bH () (aC () ah (show _=some (.int ((d+1:Nat):Int))from rfl)) QN) (qh _) h
  have o:∀ b:Bool,(tx pre).length+(tx [b]).length<=most:=λb=>by rw[qc,qc];unfold most;simp;lia
  have ns:2*n-(u++[s]).length=s:=by simp;lia
  by_cases c:I<Wy s (d+1)
  ·refine#[_,show aq cl [] (gU Z wy a Y) [some<|.int (n:Nat),some<|.int (r:Nat),some<|.str<|tx pre,some<|.int (d:Nat),some<|.int (A:Nat),some<|.int (s:Nat),O]=some (.nx,_)from a6 (eG (aO<|aF (k:=true) () (aC () () bQ)<|by rw[eX,decide_eq_true ⋯]) (yI (b:=tx [true]) rfl (by rw[<-za];exact ah) (o _)<|je (y:=1) (z:=((d+1:Nat):Int)) rfl ah rfl aK) aK),pre++[true],d+1,A,I,_,_,by rw[<-Bs];rfl,by simp[j],q,by rw[ns];exact c,?_];rw[ns,U,ur,if_pos c];simp
  ·have st:=Fm (s:=s) (d:=d) ⋯
   have H:d≠0:=λz=>by rw[if_pos z]at st;lia
   rw[if_neg H]at st
   let#[e,rfl]:∃ e,d=e+1:=#[d-1,by lia]
   refine#[_,show aq cl [] (gU Z wy a Y) [some<|.int (n:Nat),some<|.int (r:Nat),some<|.str<|tx pre,some<|.int ((e+1:Nat):Int),some<|.int (A:Nat),some<|.int (s:Nat),O]=some (.nx,_)from a6 (jw (aO<|aF (k:=false) () (aC () () bQ)<|by rw[eX,Qh ⋯]) (yI (b:=tx [false]) rfl (by rw[<-MR];exact ah) (o _)<|je (y:=1) (z:=(e:Nat)) rfl ah (by rw[gX];congr 2;lia)<|je (z:=((A+Wy s (e+1+1):Nat):Int)) rfl () rfl aK) aK),pre++[false],e,A+Wy s (e+1+1),I-Wy s (e+1+1),_,_,by rw[<-Bs];rfl,by simp[j],by lia,by rw[ns];rw[Nat.add_sub_cancel]at st;lia,?_];rw[ns,U,ur,if_neg c]
   simp)
 have w:ur (2*n) 0 r=pre:=by
  rw[U];simp[ur]
 rw[w]at t
 have G:aT .mul (.int 2) (.int (n:Nat))=some (.int ((2*n:Nat):Int)):=by rw[di ∅ ∅];rfl
 exact aE rfl rfl<|cj (bH () (cz () c1) M)<|aJ (d:=.str<|tx []) (by rw[<-Kd];exact ah) rfl<|aJ ah rfl<|aJ ah rfl<|dD (JK (aC (aC ah () G) ah gX) (Ag ah)<|JB (m:=2*n) ⋯ ⋯) e<|aH (cz () t)<|Km _
end
abbrev gd:Nat->List Nat->Option Nat
 | d,[]=>some d
 | d,c::r=>if c=40 then gd (d+1) r else if c=41 then(if d=0 then none else gd (d-1) r)else none
def i7(v:List Nat):∀ (u:List Nat) (d:Nat),gd d (u++v)=(gd d u).bind λe=>gd e v
 | [],d=>rfl
 | c::r,d=>by
  rw[cons_append,gd,gd,i7 v r,i7 v r]
  repeat' split
  all_goals rfl
def uQ:∀ (w:List Bool) (d:Nat),gd d (w.map sg)=i4 d w
 | [],d=>rfl
 | true::w,d=>by
  rw[map_cons,gd,if_pos (show sg true=40 from rfl),uQ w];rfl
 | false::w,0=>rfl
 | false::w,d+1=>by
  rw[map_cons,gd,if_neg ∅,if_pos (show sg false=41 from rfl),if_neg ⋯,uQ w];rfl
abbrev c1(c:Nat):D:=.str ⟨(List.toArray [c])⟩
def BZ(c c':Nat):((⟨(List.toArray [c])⟩:PySem.Str) == ⟨(List.toArray [c'])⟩)=decide (c=c'):=by
 by_cases h:c=c'
 ·subst h;simp
 ·rw[Qh h,beq_eq_false_iff_ne];intro e;exact h<|by simpa using e
def Md:PySem.Str.ofString "(" = ⟨(List.toArray [40])⟩:=by decide +kernel
def O6:PySem.Str.ofString ")" = ⟨(List.toArray [41])⟩:=by decide +kernel
def F8(c:Nat):z4 (c1 c) (.tup [.str<|PySem.Str.ofString "(",.str<|PySem.Str.ofString ")"])=some (decide<|c=40\/c=41):=by
 rw[Md,O6];show some ([D.str ⟨(List.toArray [40])⟩,D.str ⟨(List.toArray [41])⟩].any λx=>tk x<|c1 c)=_;simp only[any_cons,List.any_nil,c1,tk,BZ];congr 1;simp[eq_comm]
def Fd(c:Nat):bW .eq (c1 c) (.str<|PySem.Str.ofString "(")=some (decide<|c=40):=by
 rw[Md,<-BZ];rfl
def yS(h:ev cl J e=some x)(I:Dj x=some ds):cN cl J (.chr e)=some ds:=by
 show(ev cl J e).bind _=_;rw[h];exact I
def zJ{s:PySem.Str}(h:s.length<=most):lz .len (.str s)=some (.int (s.length:Nat)):=by
 dsimp only[lz];rw[if_pos h]
def qo{s:PySem.Str}{pc:Nat}{k:Bool}(hl:s.length<=most)(Z:cl pc [.int ((s.length / 2:Nat):Int)]=some (.bl k)):dn cl (lN pc) [.str s]=some (.bl<|k&&decide (gd 0 s.cps.toList=some 0)):=by
 have g:aT .fdiv (.int (s.length:Nat)) (.int 2)=some (.int ((s.length / 2:Nat):Int)):=by
  rw[qL ∅ ∅];congr 2
 cases k with
 |false=>
  exact aE rfl rfl<|fO (aO<|dQ<|cz (aC (bP ()<|zJ hl) ah g) Z)<|aH ah rfl
 |true=>
  have L:=uO (f:=aq cl []<|fE pc) (tg:=[2]) (d:=.bl false) (B:=gd 0 s.cps.toList=none) c1 (λ_=>rfl)
   (λu J=>∃ (d:Nat) (o2:Option D),J=[some<|.str s,some<|.int (d:Nat),o2]/\gd 0 u=some d) s.cps.toList [] [some<|.str s,some<|.int (0:Nat),none] (by
    rintro u c v J hu ⟨d,o2,rfl,hd⟩
    have j:gd 0 s.cps.toList=gd d (c::v):=by
     rw[show s.cps.toList=u++c::v from hu,i7,hd];rfl
    have st:∀ {o:Out} {I:St},aq cl [] (fE pc) [some<|.str s,some<|.int (d:Nat),some<|c1 c]=some (o,I)->(aZ [2] (c1 c) [some<|.str s,some<|.int (d:Nat),o2]).bind (aq cl []<|fE pc)=some (o,I):=λh=>h;by_cases a:c=40\/c=41
    ·have R:ev cl [some<|.str s,some<|.int (d:Nat),some<|c1 c] (.o4 true 2#0<|.tup %[.cst<|.str "(",.cst (.str ")")|_])=some (.bl false):=by
      have:=zH (cl:=cl) (J:=[some<|.str s,some<|.int (d:Nat),some<|c1 c]) (n:=true) (e:=.var 2) () (bg<|ak ah<|ak ah aD)<|F8 c;rw[decide_eq_true a]at this;exact this
     by_cases b:c=40
     ·subst b;refine .inl #[_,st (aY (aO R)<|je (y:=1) (z:=((d+1:Nat):Int)) rfl (j8 (k:=true) (aO<|aF () ah<|Fd 40) ah) bQ<|aY (aO<|aF (k:=false) () ah<|by rw[eX,Qh ⋯]) aK),d+1,_,rfl,?_];rw[i7,hd];rfl
     ·have q:c=41:=by lia
      subst q;have i:∀ {l O},aq cl [] l [some<|.str s,some<|.int<|(d:Nat)-1,some<|c1 41]=O->aq cl [] (.cons (.aug 1 .add<|.nk (.cmp .eq 2#0<|.cst<|.str "(") 1#1<|.neg 1#1) l) [some<|.str s,some<|.int (d:Nat),some<|c1 41]=O:=λh=>je (y:=-1) (z:=(d:Nat)-1) rfl (j8 (k:=false) (aO<|aF () ah<|Fd 41)<|Ag ah) bQ h;by_cases z:d=0
      ·subst z;exact .inr #[by rw[j];rfl,_,st<|aY (aO R)<|i<|fO (aO<|aF (k:=true) () ah rfl)<|aH ah rfl]
      ·let#[U,rfl]:∃ U,d=U+1:=#[d-1,by lia]
       have p:(((U+1:Nat):Int)-1)=(U:Nat):=by lia
       rw[p]at i;refine .inl #[_,st (aY (aO R)<|i<|aY (aO<|aF (k:=false) () ah<|by rw[eX,Qh ⋯]) aK),U,_,rfl,?_];rw[i7,hd];rfl
    ·have R:ev cl [some<|.str s,some<|.int (d:Nat),some<|c1 c] (.o4 true 2#0<|.tup %[.cst<|.str "(",.cst (.str ")")|_])=some (.bl true):=by
      have:=zH (cl:=cl) (J:=[some<|.str s,some<|.int (d:Nat),some<|c1 c]) (n:=true) (e:=.var 2) () (bg<|ak ah<|ak ah aD)<|F8 c;rw[Qh a]at this;exact this
     exact .inr #[by rw[j,gd,if_neg ⋯,if_neg ⋯],_,st<|fO (aO R)<|aH ah rfl])
   ⟨0,none,rfl,rfl⟩
  rcases L with⟨Y,e,d,o2,rfl,hd⟩ | ⟨m,Y,e⟩
  ·rw[nil_append]at hd;rw[hd];refine aE rfl rfl<|aY (aO<|dQ<|cz (aC (bP ()<|zJ hl) ah g) Z)<|aJ ah rfl<|dD (yS () rfl) e<|aH (aF () ah ?_) rfl;rw[js];congr 1;rw[QH];simp
  ·rw[m];exact aE rfl rfl<|aY (aO<|dQ<|cz (aC (bP ()<|zJ hl) ah g) Z)<|aJ ah rfl<|xY (yS () rfl) e
end RM
namespace gV
open RL RT
abbrev vM:Fn :=
 ⟨3,4,[],[],(.lx 3 (.x6<|.hC 1 0#0)<|.cons (.put 3 1#0 2#0)<|.cy 3 %[.ret (.zw (.hC 0 0#0) 3#0<|.hC 2 0#0)|_])⟩
abbrev xn:Fn :=
 ⟨3,4,[],[],(.lx 3 (.x6<|.hC 2 0#0)<|.cons (.put 3 1#0 2#0)<|.cy 3 %[.ret (.zw (.hC 0 0#0) (.hC 1 0#0) 3#0)|_])⟩
abbrev BG:Fn :=
 ⟨1,2,[],[],%[.c7 (.or (.not<|.ra 0#0 .str)<|.not<|.chain .le .le 1#1 (.bi .len 0#0)<|.lp "LONGEST_NAME" 8) %[.ret (.cst<|.bl false)|_] .nil,.ret (.bi .all<|.cn (.chain .le .le (.cst<|.str "a") 1#0<|.cst<|.str "z") [1]<|.chr 0#0)|_]⟩
abbrev tO:Fn :=
 ⟨2,2,[],[],%[.c7 (.inD true 1#0<|.hC 1 0#0) %[.never|_] .nil,.ret (.su (.hC 1 0#0) 1#0)|_]⟩
abbrev tM:Fn :=
 ⟨2,2,[],[],%[.c7 (.inD true 1#0<|.hC 2 0#0) %[.never|_] .nil,.ret (.su (.hC 2 0#0) 1#0)|_]⟩
abbrev tW(I:Nat):Fn :=
 ⟨3,3,[],[],%[.c7 (.or (.not<|.call I %[0#0|_])<|.not<|.chain .le .le 1#0 0#0 2#0) %[.never|_] .nil|_]⟩
abbrev zX(O I:Nat):Fn :=
 ⟨2,7,[],[],%[.iw [2,3] 1#0,.iw [4,5]<|.call O %[.hC 0 0#0,.cn (.call I %[0#0,6#0|_]) [6] (.seq 3#0)|_],.ret (.tup %[4#0,.bin .add 2#0 5#0|_])|_]⟩
abbrev tX(I O:Nat):Fn :=
 ⟨2,7,[],[],%[.c7 (.cmp .eq (.ix 1#0 0#1)<|.cst<|.str "hook") %[.never|_] .nil,.iw [3,4,5,6] 1#0,.asg 2<|.su (.hC 1 0#0) 4#0,.c7 5#0 %[.asg 2 (.call O %[2#0|_])|_] .nil,.ret (.nk 6#0 (.call I %[2#0|_]) 2#0)|_]⟩
abbrev xt(U R O I:Nat):Fn :=
 ⟨4,6,[],[],%[.iw [4,5]<|.call I %[0#0,1#0|_],.exc<|.call O %[0#0,3#0|_],.exc<|.call R %[2#0,0#1,.bi .len 5#0|_],.ret (.tup %[4#0,.bin .add (.bin .add (.mS 5#0 2#0)<|.tup %[.call U %[3#0|_]|_]) (.ry 5#0 2#0)|_])|_]⟩
abbrev AH:Fn :=
 ⟨1,1,[],[],%[.ret (.tup %[.cst<|.str "frame",0#0,.cst<|.bl false,.cst (.bl false)|_])|_]⟩
abbrev xr(R U O I:Nat):Fn :=
 ⟨2,4,[],[],%[.iw [2,3] 1#0,.exc<|.call I %[.hC 1 0#0,2#0|_],.exc<|.call O %[0#0,3#0|_],.exc<|.call U %[.bin .add (.bi .len<|.hC 1 0#0) 1#1,.lp "MOST_FRAMES" 12|_],.ret (.tup %[.call R %[0#0,2#0,3#0|_],.cst .cb|_])|_]⟩
abbrev tN(R I O:Nat):Fn :=
 ⟨2,4,[],[],%[.iw [2,3] 1#0,.exc<|.call O %[0#0,2#0|_],.exc<|.call I %[0#0,3#0|_],.ret (.tup %[.call R %[0#0,2#0,3#0|_],.cst .cb|_])|_]⟩
abbrev uF:Fn :=
 ⟨2,4,[],[],%[.never,.never,.never,.never,.never|_]⟩
abbrev tY(O I:Nat):Fn :=
 ⟨2,3,[],[],%[.asg 2<|.ix 1#0 0#1,.exc<|.call I %[0#0,2#0|_],.ret (.tup %[.call O %[0#0,2#0,.tup %[0#1,.tup .nil|_]|_],.cst .cb|_])|_]⟩
abbrev vx:Fn :=
 ⟨2,3,[],[],%[.never,.never,.never|_]⟩
abbrev uy(O I R:Nat):Fn :=
 ⟨2,7,[],[],%[.iw [2,3,4] 1#0,.iw [5,6]<|.call R %[0#0,2#0,3#0,4#0|_],.exc<|.call I %[.bi .len 6#0,.lp "MOST_ENTRIES" 24|_],.ret (.tup %[.call O %[0#0,2#0,.tup %[5#0,6#0|_]|_],.cst .cb|_])|_]⟩
abbrev xg:Fn :=
 ⟨2,7,[],[],%[.never,.never,.never,.never,.never,.never,.never|_]⟩
abbrev sF:Fn :=
 ⟨2,7,[],[],%[.never,.never,.never,.never,.never|_]⟩
abbrev r8:Fn :=
 ⟨2,6,[],[],%[.never,.never,.never,.never,.never|_]⟩
abbrev uU(R I O:Nat):Fn :=
 ⟨2,6,[],[],%[.asg 2<|.ix 1#0 0#1,.iw [4,3]<|.call O %[0#0,2#0|_],.asg 3<|.bi .tuple<|.cn (.call I %[5#0|_]) [5]<|.seq<|.rev 3#0,.ret (.tup %[.call R %[0#0,2#0,.tup %[4#0,3#0|_]|_],.cst .cb|_])|_]⟩
abbrev sj(R I O:Nat):Fn :=
 ⟨2,6,[],[],%[.asg 2<|.ix 1#0 0#1,.iw [4,3]<|.call O %[0#0,2#0|_],.asg 3<|.bi .tuple<|.cn (.call I %[.hC 0 0#0,5#0|_]) [5]<|.seq 3#0,.ret (.tup %[.call R %[0#0,2#0,.tup %[4#0,3#0|_]|_],.cst .cb|_])|_]⟩
abbrev oJ(Z U b a Y I R O:Nat):Fn :=
 ⟨2,9,[],[],%[.iw [3,4,5] 1#0,.iw [6,2]<|.call O %[0#0,3#0|_],.exc<|.call R %[4#0,0#1,.bin .sub (.bi .len 2#0) 2#1|_],.exc<|.call I %[.hC 1 0#0,5#0|_],.exc<|.call Y %[.bin .add (.bi .len<|.hC 1 0#0) 1#1,.lp "MOST_FRAMES" 12|_],.iw [7,8]<|.call a %[0#0,.tup %[0#1,.wh 2#0 4#0 (.bin .add 4#0 2#1)|_]|_],.asg 2<|.bin .add (.bin .add (.mS 2#0 4#0)<|.tup %[.call b %[5#0|_]|_])<|.ry 2#0<|.bin .add 4#0 2#1,.ret (.tup %[.call Z %[.call U %[0#0,5#0,7#0|_],3#0,.tup %[.bin .add 6#0 8#0,2#0|_]|_],8#0|_])|_]⟩
abbrev xm:Fn :=
 ⟨2,8,[],[],%[.never,.never,.never,.never,.never,.never|_]⟩
abbrev A9(e Y d Z b c f O R a U I g:Nat):Fn :=
 ⟨2,5,[],[],(.cons (.star 3 4 1#0)<|.act 2 "DEEDS" [("tie",e),("retie",Y),("drop",d),("stack",Z),("unstack",b),("hang",c),("hook",f),("unhang",O),("swap",R),("turn",a),("mirror",U),("splice",I),("cut",g)] 3#0 %[0#0,4#0|_])⟩
abbrev oz(I:Nat):Fn :=
 ⟨2,2,[],[],%[.c7 (.not<|.call I %[1#0|_]) %[.never|_] .nil,.c7 (.inD false 1#0 0#0) %[.never|_] .nil|_]⟩
abbrev nM(O I:Nat):Fn :=
 ⟨2,2,[],[],%[.exc<|.call I %[.hC 2 0#0,1#0|_],.exc (.call O %[.bin .add (.bi .len<|.hC 2 0#0) 1#1,.lp "MOST_STACKS" 8|_])|_]⟩
abbrev pP(O I:Nat):Fn :=
 ⟨2,2,[],[],%[.exc<|.call I %[1#0|_],.c7 (.cmp .ne (.call O %[1#0|_])<|.hC 0 0#0) %[.never|_] .nil|_]⟩
abbrev vc:Fn :=
 ⟨2,2,[],[],%[.c7 (.cmp .gt 0#0 1#0) %[.never|_] .nil|_]⟩
abbrev tV:Fn :=
 ⟨1,5,[],[],%[.c7 (.cmp .eq (.ix 0#0 0#1)<|.cst<|.str "hook") %[.ret 0#0|_] .nil,.iw [1,2,3,4] 0#0,.ret (.tup %[1#0,2#0,.not 3#0,4#0|_])|_]⟩
abbrev qU:Fn :=
 ⟨2,6,[],[],%[.c7 (.cmp .eq (.ix 1#0 0#1)<|.cst<|.str "hook") %[.ret (.tup %[.cst<|.str "hook",.bin .sub (.bin .sub 0#0 2#1) (.ix 1#0 1#1)|_])|_] .nil,.iw [2,3,4,5] 1#0,.ret (.tup %[2#0,3#0,4#0,.not 5#0|_])|_]⟩
abbrev xo(I:Nat):Fn :=
 ⟨1,2,[1],[],%[.own 1<|.sd I<|.hC 0 0#0,.now 1 0#0,.ret 1#0|_]⟩
abbrev rf(O I R:Nat):Fn :=
 ⟨3,3,[],[],%[.ret (.call O %[2#0,.ix (.call I %[0#0,1#0,.lst %[.call R %[2#0|_]|_]|_]) 0#1|_])|_]⟩
abbrev jq(I O:Nat):Ss :=
 %[.iw [6,4,7,8]<|.call I %[0#0,.bin .add 5#1 3#0,.lst %[7#1,2#1,12#1,3#1|_]|_],.asg 4<|.ix (.cst<|.str "st") 4#0,.asg 5<|.bi .len<|.comp 9#0 [9] (.seq 2#0)<|.cmp .eq (.mS 9#0 2#1)<|.tup %[.cst<|.str "hang",4#0|_],.c7 (.cmp .lt 6#0 5#1) %[.app 2 (.tup %[.cst<|.str "hang",4#0,.bin .mod 7#0<|.bin .add 5#0 1#1,.ix (.cst<|.str "aab") 8#0|_])|_] %[.app 2 (.tup %[.ix (.lst %[.cst<|.str "turn",.cst (.str "mirror")|_])<|.bin .sub 6#0 5#1,4#0|_])|_]|_]
abbrev oh(O I:Nat):Fn :=
 ⟨2,10,[2],[],%[.own 2<|.lst %[.tup %[.cst<|.str "tie",.cst<|.str "b",.call I %[0#0,1#1,1#0|_]|_],.tup %[.cst<|.str "stack",.cst (.str "s")|_],.tup %[.cst<|.str "stack",.cst (.str "t")|_]|_],.ef [3] (.dd 14#1)<|jq O I,.ret 2#0|_]⟩
abbrev Bk(d e f h b c g a Y Z I i O U R:Nat):Ss :=
 %[.oD "do" I 9 %[2#0|_],.oD "do" I 10 %[2#0|_]|_]
abbrev Bm(R I O U e f g d b c i h Y a Z:Nat):Ss :=
 %[.oD "turn" U 6 %[.cst (.str "s")|_],.oD "undo" O 9 .nil,.oD "undo" O 6 .nil,.c7 (.cmp .ne (.cn (.met "comes" I 6 %[13#0|_]) [13]<|.chr<|.cst<|.str "st") 4#0) %[.ret (.cst<|.bl false)|_] .nil,.ret (.and (.cmp .eq (.cn (.met "comes" I 9 %[13#0|_]) [13]<|.chr<|.cst<|.str "st") 4#0)<|.cmp .eq (.met "frame" R 9 %[.cst (.str "a")|_]) 11#0)|_]
abbrev A8(O I f g R Y b e c d i h U a Z:Nat):Ss :=
 (.cons (.asg 5<|.comp (.met "frame" O 9 %[13#0|_]) [13] (.seq<|.met "frames" R 9 .nil)<|.cmp .ne 13#0<|.cst<|.str "a")<|.cons (.own 6<|.met "twin" b 9 .nil)<|.cons (.oD "retie" Y 9 %[.cst<|.str "a",12#0|_])<|.cons (.c7 (.or (.cmp .ne (.cn (.met "comes" I 6 %[13#0|_]) [13]<|.chr<|.cst<|.str "st") 4#0)<|.cmp .ne (.met "frame" O 6 %[.cst (.str "a")|_]) 11#0) %[.ret (.cst<|.bl false)|_] .nil)<|.cons (.c7 (.or (.cmp .ne (.comp (.met "frame" O 9 %[13#0|_]) [13] (.seq<|.met "frames" R 9 .nil)<|.cmp .ne 13#0<|.cst<|.str "a") 5#0)<|.cmp .ne (.met "frame" O 9 %[.cst (.str "a")|_]) 12#0) %[.ret (.cst<|.bl false)|_] .nil)<|.cons (.c7 (.cmp .ne (.met "comes" I 9 %[.cst (.str "t")|_])<|.met "comes" I 10 %[.cst (.str "t")|_]) %[.ret (.cst<|.bl false)|_] .nil)<|.cons (.c7 (.and (.cmp .eq (.met "frames" R 9 .nil)<|.lst %[.cst<|.str "a",.cst (.str "b")|_])<|.cmp .ne (.met "comes" I 9 %[.cst (.str "s")|_])<|.met "comes" I 10 %[.cst (.str "s")|_]) %[.ret (.cst<|.bl false)|_] .nil)<|Bm O I f g R Y b e c d i h U a Z)
abbrev Bb(d I e g b c f R O a i h U Z Y:Nat):Ss :=
 (.cons (.asg 3<|.bi .len<|.met "entries" O 9 %[.cst (.str "s")|_])<|.cons (.asg 4<|.cn (.met "comes" I 9 %[13#0|_]) [13]<|.chr<|.cst<|.str "st")<|.cons (.c7 (.and (.cmp .eq 7#0 1#1)<|.cmp .gt 3#0 1#1) %[.oD "splice" R 9 %[.cst<|.str "s",.bin .mod 8#0<|.bin .sub 3#0 1#1,.cst (.str "c")|_],.c7 (.cmp .ne (.cn (.met "comes" I 9 %[13#0|_]) [13]<|.chr<|.cst<|.str "st") 4#0) %[.ret (.cst<|.bl false)|_] .nil|_] .nil)<|A8 d I e g b c f R O a i h U Z Y)
abbrev MZ(d e f h b c g a Z U i Y I O R:Nat):Fn :=
 ⟨1,14,[6,9,10],[],(.cons (.asg 0<|.mS 0#0 63#1)<|.cons (.iw [1,7,8]<|.call R %[0#0,62#1,.lst %[10#1,2#1,12#1|_]|_])<|.cons (.asg 1<|.bin .add 1#1 1#0)<|.cons (.parC 9 10 (.sd O 1#0)<|.sd O 1#0)<|.cons (.par 11 12 (.call I %[0#0,2#1,1#0|_])<|.call I %[0#0,3#1,1#0|_])<|.cons (.oD "tie" Y 9 %[.cst<|.str "a",11#0|_])<|.cons (.oD "tie" Y 10 %[.cst<|.str "a",12#0|_])<|.cons (.ef [2] (.seq<|.call U %[0#0,1#0|_])<|Bk d e f h b c g a Z U i Y I O R)<|Bb d e f h b c g a Z U i Y I O R)⟩
abbrev AO(O I:Nat):Fn :=
 ⟨2,2,[],[],%[.ret (.call O %[.lo .now 0,.call I %[.lo .now 0,1#0|_]|_])|_]⟩
abbrev AR(I:Nat):Fn :=
 ⟨2,4,[0,0],[0],%[.iw [2,3]<|.call I %[.lo .now 0,1#0|_],.My true 0,.now 0 2#0,.pf false 0<|.lst .nil,.ret 3#0|_]⟩
abbrev xl(I:Nat):Fn :=
 ⟨2,2,[],[],%[.ret (.bi .list<|.ix (.call I %[.lo .now 0,1#0|_]) 1#1)|_]⟩
abbrev AQ(I:Nat):Fn :=
 ⟨2,2,[],[],%[.ret (.call I %[.lo .now 0,1#0|_])|_]⟩
abbrev zg:Fn :=
 ⟨1,1,[],[],%[.ret (.bi .sortedS<|.D2<|.hC 1<|.lo .now 0)|_]⟩
abbrev Av(I:Nat):Fn :=
 ⟨3,3,[0,0],[0],%[.zv "do" I 0 %[.tup %[.cst<|.str "retie",1#0,2#0|_]|_]|_]⟩
abbrev yQ(I:Nat):Fn :=
 ⟨4,4,[0,0],[0],%[.zv "do" I 0 %[.tup %[.cst<|.str "splice",1#0,2#0,3#0|_]|_]|_]⟩
abbrev GU(I:Nat):Fn :=
 ⟨3,3,[0,0],[0],%[.zv "do" I 0 %[.tup %[.cst<|.str "tie",1#0,2#0|_]|_]|_]⟩
abbrev CQ(I:Nat):Fn :=
 ⟨2,2,[0,0],[0],%[.zv "do" I 0 %[.tup %[.cst<|.str "turn",1#0|_]|_]|_]⟩
abbrev Dt(I:Nat):Fn :=
 ⟨1,2,[1],[],%[.own 1<|.call I %[.lo .now 0|_],.pf true 1<|.lo (.lst true) 0,.pf false 1<|.lo (.lst false) 0,.ret 1#0|_]⟩
abbrev vA:Fn :=
 ⟨1,1,[0,0],[0],%[.ifL true 0 %[.never|_] .nil,.My false 0,.ppo true 0|_]⟩
abbrev T:List Fn:=[jD,fM 0,dm 1,jf 4,jr 0,gL,yP,uq,l4 9 7,wu,iN 5 19 3 1 12,fW 10,j0,iW 2,qq 20 13 12 11,lG 20 12 11,j1 19 6 17,lN 1,eJ,gG 20 18 12,jU,tG 22 13 12 11 2,jH 8 7 23 12,fX,vM,xn,BG,tO,tM,tW 0,zX 21 31,tX 15 14,xt 33 29 27 28,AH,xr 24 51 50 48,tN 24 50 27,uF,tY 25 49,vx,uy 25 51 32,xg,sF,r8,uU 25 52 28,sj 25 53 28,oJ 25 24 33 30 51 48 29 28,xm,A9 34 35 36 37 38 39 40 41 42 43 44 45 46,oz 26,nM 51 48,pP 12 11,vc,tV,qU,xo 2,yO 57 2,qm 16 57 59 55,BJ 58,mG,rT 0,lQ,me 60,gH 61,rf 56 62 55,oh 62 63,MZ 69 66 76 74 70 71 75 72 68 64 67 73 63 2 62,AO 30 28,AR 47,xl 28,AQ 27,zg,Av 67,yQ 67,GU 67,CQ 67,Dt 54,vA]
end gV
namespace RL
section
variable{cl:Cl}
def cD(h:ev cl J a=some (.hd xs))(I:xs[k]?=some d):ev cl J (.hC k a)=some d:=by
 rw[MW,h];exact I
def kK(h:(J[i]?).bind id=some l)(I:loV k l=some d):ev cl J (.lo k i)=some d:=by
 rw[Ov,h];exact I
def Fx(h:ev cl J a=some x)(h':ev cl J b=some y)(I:ev cl J c=some z)(O:ae [x,y,z]=true):ev cl J (.zw a b c)=some (.hd [x,y,z]):=by
 rw[Nb,h,Option.bind_some,h',Option.bind_some,I,Option.bind_some];exact if_pos O
def zo(h:ev cl J a=some x)(I:cl f [x]=some y):ev cl J (.sd f a)=some (zK x):=by
 rw[MN,h,Option.bind_some,I];rfl
def EH(h:ev cl J a=some (.fK ks vs)):ev cl J (.x6 a)=some (.dK ks vs):=by
 rw[MT,h];rfl
def dI(hi:(J[i]?).bind id=some (.b0 x ps qs))(h:c0 cl J es=some ds)(I:cl f (.b0 x ps qs::ds)=some d):ev cl J (.met m f i es)=some d:=by
 rw[MO,hi,Option.bind_some,show jC (.b0 x ps qs)=some (.b0 x ps qs)from rfl,Option.bind_some,h,Option.bind_some];exact I
def Mo(h:ev cl J a=some (.fK ks vs)):ev cl J (.D2 a)=some (.lst<|ks.map kyD):=by
 show((ev cl J a).bind EF).map _=_;rw[h];rfl
def B2(h:ev cl J e=some d)(ok:(aG d&&aI e)=true)(k:kY cl M (j::M) r (J.set j<|some d)=res):aq cl M (.lx j e r) J=res:=by
 show((ev cl J e).bind λd=>if(aG d&&aI e)=true then _ else _)=_;rw[h,Option.bind_some,if_pos ok];exact k
def AV(h:ev cl J e'=some x)(h':ev cl J e=some kk)(hi:(J[i]?).bind id=some l)(I:x.ax=true)(O:jG l kk x=some l')(k:kY cl M M' r (J.set i<|some l')=res):kY cl M M' (.cons (.put i e e') r) J=res:=by
 show(kS cl M' (.put i e e') J).bind _=_;rw[uh,h,Option.bind_some,h',Option.bind_some,hi,Option.bind_some,if_pos I,O];exact k
def BP(hi:(J[j]?).bind id=some l)(I:vd l=some d)(k:aq cl M r (J.set j<|some d)=res):kY cl M M' (.cy j r) J=res:=by
 show(((J[j]?).bind id).bind vd).bind _=_;rw[hi,Option.bind_some,I];exact k
def GG(h:ev cl J e=some (.tup<|d::ds))(I:(d.ax&&ae ds)=true)(k:aq cl M r ((J.set i<|some d).set j<|some<|.fL ds)=res):aq cl M (.cons (.star i j e) r) J=res :=
 cC (by
  show((ev cl J e).bind tZ).map _=_;rw[h,Option.bind_some,show tZ (.tup<|d::ds)=if(d.ax&&ae ds)=true then some (d,.fL ds)else none from rfl,if_pos I]
  rfl) k
def LH(h:ev cl J a=some x)(O:jt eH x=some f)(R:c0 cl (J.set i none) es=some ds)(U:cl f ds=some d)(I:d.ax=true):aq cl M (.act i g eH a es) J=some (.rt d,J):=by
 show((ev cl J a).bind<|jt eH).bind _=_;rw[h,Option.bind_some,O,Option.bind_some,R,Option.bind_some,U,Option.bind_some];exact if_pos I
def AA(h:ev cl J e=some d)(hi:(J[i]?).bind id=some (.b0 x ps qs))(I:d.ax=true)(k:aq cl M r (J.set i<|some<|.b0 d ps qs)=res):aq cl M (.cons (.now i e) r) J=res :=
 cC (by
  show(ev cl J e).bind _=_
  rw[h,Option.bind_some,hi,Option.bind_some,show IP d (.b0 x ps qs)=if d.ax=true then some (.b0 d ps qs)else none from rfl,if_pos I];rfl) k
def zY(h:ev cl J e=some (.lst xs))(I:aI e=true)(hi:(J[i]?).bind id=some (.b0 d ps qs))(O:ae xs=true)(k:aq cl M r (J.set i<|some<|kB b d ps qs xs)=res):aq cl M (.cons (.pf b i e) r) J=res :=
 cC (by
  show(ev cl J e).bind _=_
  rw[h,Option.bind_some,hi,Option.bind_some,if_pos I,show pfV b (.lst xs) (.b0 d ps qs)=if ae xs=true then some (kB b d ps qs xs)else none from rfl,if_pos O];rfl) k
def BW(hi:(J[i]?).bind id=some (.b0 d ps qs))(hl:(cq b ps qs).length<most)(k:aq cl M r (J.set i<|some<|kB b d ps qs<|cq b ps qs++[d])=res):aq cl M (.cons (.My b i) r) J=res :=
 cC (by
  show((J[i]?).bind id).bind _=_
  rw[hi,Option.bind_some,show J6 b (.b0 d ps qs)=if(cq b ps qs).length<most then some (kB b d ps qs<|cq b ps qs++[d])else none from rfl,if_pos hl];rfl) k
def Me(hi:(J[i]?).bind id=some (.b0 d ps qs))(I:cq b ps qs=xs++[y])(k:aq cl M r (J.set i<|some<|kB b y ps qs xs)=res):aq cl M (.cons (.ppo b i) r) J=res :=
 cC (by
  show((J[i]?).bind id).bind _=_;rw[hi,Option.bind_some,show IU b (.b0 d ps qs)=((cq b ps qs)[(cq b ps qs).length-1]?).map λd=>kB b d ps qs (cq b ps qs).dropLast from rfl,I]
  simp) k
def Hn(hi:(J[i]?).bind id=some (.b0 d ps qs))(I:(cq b ps qs).isEmpty=false)(k:aq cl M r J=res):aq cl M (.cons (.ifL b i x .nil) r) J=res :=
 cC (by
  show(((J[i]?).bind id).bind<|qt b).bind _=_;rw[hi,Option.bind_some,show qt b (.b0 d ps qs)=some (cq b ps qs).isEmpty from rfl,I,Option.bind_some]
  exact aK (cl:=cl) (M:=M)) k
def gz(hi:(J[i]?).bind id=some (.b0 x ps qs))(h:c0 cl J es=some ds)(ok:bF M [0] 0 (.cons (.var i) es) (.b0 x ps qs::ds)=true)(I:cl f (.b0 x ps qs::ds)=some (.tup [d,l]))(k:aq cl M r (J.set i<|some l)=res):aq cl M (.cons (.oD m f i es) r) J=res :=
 cC (by
  show(((J[i]?).bind id).bind jC).bind _=_
  rw[hi,Option.bind_some,show jC (.b0 x ps qs)=some (.b0 x ps qs)from rfl,Option.bind_some,ak (aa hi) h,Option.bind_some,if_pos ok,I];rfl) k
def qf(hi:(J[i]?).bind id=some (.b0 x ps qs))(h:c0 cl J es=some ds)(ok:bF M [0] 0 (.cons (.var i) es) (.b0 x ps qs::ds)=true)(I:cl f (.b0 x ps qs::ds)=some (.tup [d,l])):aq cl M (.cons (.zv m f i es) r) J=some (.rt d,J.set i<|some l) :=
 pF (by
  show(((J[i]?).bind id).bind jC).bind _=_
  rw[hi,Option.bind_some,show jC (.b0 x ps qs)=some (.b0 x ps qs)from rfl,Option.bind_some,ak (aa hi) h,Option.bind_some,if_pos ok,I];rfl)
def Gv(h:ev cl J e=some x)(h':ev cl J e'=some y)(ok:((aG x&&aI e)&&(aG y&&aI e'))=true)(k:aq cl M r ((J.set i<|some x).set j<|some y)=res):aq cl M (.cons (.parC i j e e') r) J=res :=
 cC (by
  show(ev cl J e).bind _=_
  rw[h,Option.bind_some,h',Option.bind_some];exact if_pos ok) k
def pV(hl:ds.length=fn.ps)(hm:fn.mp=[0])(h:aq cl fn.M fn.body (ds.map some++replicate (fn.nn-fn.ps) none)=some (.rt d,QP))(I:d.ax=true)(O:(QP[0]?).bind id=some x):dn cl fn ds=some (.tup [d,x]):=by
 unfold dn;rw[if_pos hl,h];show bz fn d QP=_;unfold bz;rw[hm,if_neg (by simp),if_pos I];show(((QP[0]?).bind id).bind _).map _=_;rw[O];rfl
def HV(hl:ds.length=fn.ps)(hm:fn.mp=[0])(h:aq cl fn.M fn.body (ds.map some++replicate (fn.nn-fn.ps) none)=some (.nx,QP))(I:(QP[0]?).bind id=some x):dn cl fn ds=some (.tup [.cb,x]):=by
 unfold dn;rw[if_pos hl,h];show bz fn .cb QP=_;unfold bz;rw[hm,if_neg (by simp),if_pos (show D.cb.ax=true from rfl)];show(((QP[0]?).bind id).bind _).map _=_;rw[I];rfl
end
end RL
namespace gV
open RL RT RM
def ck:Ck T 0 1 3 4 5 10 11 12 18 19 20:=#[rfl,rfl,rfl,rfl,rfl,rfl,rfl,rfl,rfl,rfl,rfl]
def hb:Hb T 12 7 9 8 23 22:=#[rfl,rfl,rfl,rfl,rfl]
def dg:Dg T 60 61 62:=#[rfl,rfl,rfl]
def JN:∀ m,m<=20->∀ g,g<=m->m≠g->Cb m ((m-g) / 2-1)<=Cb m ((m-g) / 2):=by decide +kernel
def wy(m:Nat)(s d:Nat)(I:s<=20):au T (m+2) 57 [.int (s:Nat),.int (d:Nat)]=some (.int (Wy s d:Nat)) :=
 (aA rfl).trans (Dw (by omega) (λh=>JN s I d h) (λc O=>(aA rfl).trans<|xh (by omega) O)<|(aA rfl).trans uI)
def how(m:Nat)(I:1<=n)(hn:n<=10):au T (m+4) 55 [.int (n:Nat)]=some (.int (Wy (2*n) 0:Nat)) :=
 (aA rfl).trans (aE rfl rfl<|cj (cz ()<|ck.ql rfl m I hn)<|aH (bH (aC ah ()<|Mx n) ah<|wy (m+1) (2*n) 0<|by omega)<|vz _)
def b8(m:Nat)(h:r<z):au T (m+2) 59 [.int (r:Nat),.int (z:Nat)]=some .cb :=
 (aA rfl).trans (jW rfl rfl<|aY (aO<|lD (dQ<|cz ()<|ck.num m _)<|dQ (k:=true)<|mO ah () () (by rw[oQ,decide_eq_true<|by omega])<|by rw[eX,decide_eq_true<|by omega]) aK)
def isb(m:Nat)(O:1<=n)(hn:n<=10)(I:w.length=2*n)(hd:i4 0 w=some 0):au T (m+3) 17 [.str<|tx w]=some (.bl true):=by
 have l:(tx w).length=2*n:=by rw[qc,I]
 have e:=(aA (f:=17) rfl).trans (qo (by rw[l];unfold most;omega)<|ck.D0 m _);rw[e,l];congr 2;rw[decide_eq_true (by omega),Bool.true_and,decide_eq_true_eq];have:=uQ w 0;rw[hd]at this;simpa[tx]using this
def frb(m:Nat)(O:1<=n)(hn:n<=10)(I:w.length=2*n)(hd:i4 0 w=some 0):∃ f,Val n f/\au T (m+5) 16 [.str<|tx w]=some (.tup<|L f):=by
 let#[g,#[U,W],e]:=nQ (ti:=6) O hn I hd (isb (m+1) O hn I hd) (λxs i j hi Y=>(aA rfl).trans<|Gr xs hi Y) λR F=>ck.Lo (m+2) hn F;exact#[g,U,(aA rfl).trans e]
def num(m:Nat)(O:1<=n)(hn:n<=10)(I:r<Wy (2*n) 0):∃ f,Val n f/\au T (m+6) 56 [.int (n:Nat),.int (r:Nat)]=some (.tup<|L f):=by
 let#[a,b,_]:=yL (2*n) 0 r (by omega) I;let#[f,V,c]:=frb m O hn a b;exact#[f,V,(aA rfl).trans (uT O hn I (how (m+1) O hn) (b8 (m+3) I) (λs d R=>wy (m+3) s d R) c)]
def Kt:∀ n,n<=10->1<=n->0<Wy (2*n) 0/\Wy (2*n) 0<2 ^ 200:=by decide +kernel
def oK(m:Nat){ns:List Int}(hl:ns.length<=63)(O:k<=1000)(I:1<=n)(hn:n<=10):∃ f,Val n f/\au T (m+7) 63 [.lst<|LI ns,.int (k:Nat),.int (n:Nat)]=some (.tup<|L f):=by
 let#[ds,D,e]:=dg.digits hl (m+3) O (λs h=>by rw[List.mem_singleton.mp h];exact Kt n hn I) (by simp);let#[hl,hd]:=D
 match ds,hl with
 |[r],_=>
  let#[f,V,c]:=num m I hn<|hd 0 r _ rfl rfl;exact#[f,V,(aA rfl).trans<|aE rfl rfl<|aH (bH () (cK (dJ () () (eC<|ak (cz ()<|how (m+2) I hn) aD) e) ah rfl) c)<|by simp[bU,D.ax,bh]]
abbrev nm:Nat->PySem.Str
 | 0 => "a"
 | 1 => "b"
 | _ => "c"
abbrev sn:Nat->PySem.Str
 | 0 => "s"
 | _ => "t"
@[reducible]noncomputable def En:=Nat × Bool × Bool
abbrev eE(e:En):D:=.tup [.str "frame",.str<|nm e.1,.bl e.2.1,.bl e.2.2]
abbrev fg(k:Nat)(es:List En):D:=.tup [.int (k:Nat),.tup<|es.map eE]
@[reducible]noncomputable def Hd(n:Nat)(ks:List Ky)(vs:List D)(I:List Ky)(ps:List D):D:=.hd [.int (n:Nat),.fK ks vs,.fK I ps]
abbrev tw(n:Nat)(f:List Nat)(t u:Bool):List Nat :=
 let g:=if t then dP n (lg n) (lg n) f else f
 if u then dP n (iv n) (iv n) g else g
def Ba(V:Val n f):Val n (tw n f t u):=by
 cases t<;>cases u
 ·exact V
 ·exact(rJ n).val V
 ·exact(k7 n).val V
 ·exact(rJ n).val<|(k7 n).val V
abbrev fr(n:Nat)(F:Nat->List Nat)(e:En):List Nat:=tw n (F e.1) e.2.1 e.2.2
abbrev cm(n:Nat)(F:Nat->List Nat)(k:Nat)(es:List En):List Nat × Nat:=((eo n<|es.map<|fr n F).1,k+(eo n<|es.map<|fr n F).2)
def my(es:List En):ae (es.map eE)=true:=by
 induction es with
 | nil=>rfl
 | cons e r I=>show((eE e).ax&&ae (r.map eE))=true;rw[I];rfl
def bZ(k:Nat)(es:List En):(fg k es).ax=true:=by
 show((D.int k).ax&&((D.tup<|es.map eE).ax&&true))=true;rw[show(D.tup<|es.map eE).ax=ae (es.map eE)from rfl,my];rfl
abbrev i2(n:Nat)(ks:List Ky)(vs:List D)(F:Nat->List Nat)(es:List En):Prop:=∀ e∈es,aV ks vs (.inr<|nm e.1)=some (.tup<|L<|F e.1)/\Val n (F e.1)
def cP(h:d.ax=true):bU M e d=true:=by unfold bU;rw[h];rfl
def kq(h:d.ax=true):aX M e d=true:=by unfold aX;rw[h];rfl
def aW(f:List Nat):(D.tup<|L f).ax=true:=by simp[D.ax,bh]
def ixk(h:aV ks vs (.inr x)=some v):qZ (.fK ks vs) (.str x)=some v:=h
def ink(h:aV ks vs (.inr x)=some v):m6 (.fK ks vs) (.str x)=some true:=by
 show some (aV ks vs<|.inr x).isSome=_;rw[h];rfl
def nik(h:aV ks vs (.inr x)=none):m6 (.fK ks vs) (.str x)=some false:=by
 show some (aV ks vs<|.inr x).isSome=_;rw[h];rfl
def eR(m:Nat)(h:aV ss ps (.inr x)=some v)(I:v.ax=true):au T (m+1) 28 [Hd n ks vs ss ps,.str x]=some v :=
 (aA rfl).trans (aE rfl rfl<|aY (aO<|zF () (cD () rfl)<|ink h)<|aH (uc (cD () rfl) ()<|ixk h)<|cP I)
def jA(m:Nat)(h:aV ks vs (.inr x)=some v)(I:v.ax=true):au T (m+1) 27 [Hd n ks vs ss ps,.str x]=some v :=
 (aA rfl).trans (aE rfl rfl<|aY (aO<|zF () (cD () rfl)<|ink h)<|aH (uc (cD () rfl) ()<|ixk h)<|cP I)
def ov(m:Nat)(I:1<=n)(hn:n<=10)(V:Val n f):au T (m+6) 14 [.tup<|L f]=some (.tup<|L<|dP n (lg n) (lg n) f):=ck.over rfl rfl rfl m I hn V
def mi(m:Nat)(I:1<=n)(hn:n<=10)(V:Val n f):au T (m+6) 15 [.tup<|L f]=some (.tup<|L<|dP n (iv n) (iv n) f):=ck.mirrored rfl m I hn V
def fh:bW .eq (.str "frame") (.str "hook")=some false:=by decide +kernel
def xj(m:Nat)(I:1<=n)(hn:n<=10)(e:En)(h:aV ks vs (.inr<|nm e.1)=some (.tup<|L f))(V:Val n f):au T (m+7) 31 [Hd n ks vs ss ps,eE e]=some (.tup<|L<|tw n f e.2.1 e.2.2):=by
 let#[i,t,u]:=e
 have g:∀ {g:List Nat},Val n g->aq (au T<|m+6) [] (.cons (.ret<|.nk 6#0 (.call 15<|.cons 2#0 .nil) 2#0) .nil) [some<|Hd n ks vs ss ps,some<|eE (i,t,u),some<|.tup<|L g,some<|.str "frame",some<|.str<|nm i,some<|.bl t,some<|.bl u]=some (.rt (.tup (L (if u then dP n (iv n) (iv n) g else g))),[some<|Hd n ks vs ss ps,some<|eE (i,t,u),some<|.tup<|L g,some<|.str "frame",some<|.str<|nm i,some<|.bl t,some<|.bl u]):=λ{g} W=>aH (by
  cases u
  ·exact j8 (aO<|aa rfl)<|aa rfl
  ·exact j8 (aO<|aa rfl)<|cz ()<|mi m I hn W) (cP (aW _))
 cases t
 ·exact(aA rfl).trans<|aE rfl rfl<|aY (aO<|aF (cK () ah rfl) ah fh)<|bY () rfl rfl rfl<|aJ (uc (cD () rfl) ()<|ixk h) (kq<|aW _)<|aY (aO<|aa rfl)<|g V
 ·exact(aA rfl).trans<|aE rfl rfl<|aY (aO<|aF (cK () ah rfl) ah fh)<|bY () rfl rfl rfl<|aJ (uc (cD () rfl) ()<|ixk h) (kq<|aW _)<|eG (aO<|aa rfl) (aJ (cz ()<|ov m I hn V) (kq<|aW _) aK)<|g<|(k7 n).val V
def x8(H:i2 n ks vs F es):∀ f∈es.map (fr n F),Val n f:=λf I=>by
 let#[e,O,rfl]:=List.mem_map.mp I;exact Ba (H e O).2
def sM(m:Nat)(I:1<=n)(hn:n<=10)(V:∀ f∈fs,Val n f):au T (m+6) 21 [.int (n:Nat),.lst<|x4 fs]=some (fy<|eo n fs):=hb.sM ck rfl rfl rfl m I hn V
def uz(m:Nat)(O:1<=n)(hn:n<=10)(H:i2 n ks vs F es)(hl:es.length<=100):au T (m+8) 30 [Hd n ks vs ss ps,fg k es]=some (fy<|cm n F k es):=by
 have c:=iS (J:=[some<|Hd n ks vs ss ps,some<|fg k es,some<|.int k,some<|.tup<|es.map eE,none,none,none]) (e:=.call 31<|.cons 0#0<|.cons 6#0 .nil) (i:=6) (g:=λe=>.tup<|L<|fr n F e) (λf=>rO _) es λe I=>bH () ()<|xj m O hn e (H e I).1 (H e I).2
 have c':(es.map λe=>D.tup<|L<|fr n F e)=x4 (es.map<|fr n F):=by unfold x4;rw[map_map];rfl
 rw[c']at c
 refine(aA rfl).trans (aE rfl rfl (bY () rfl (by
  exact bZ k es) rfl (bY (bH (cD () rfl) (gi (fv () rfl) (by rw[length_map];unfold most;omega) c) (sM (m+1) O hn (x8 H))) rfl (by
  exact il _) rfl (aH (bg (ak () (ak (aC () () (by rw[bQ,<-natCast_add];rfl)) aD))) (cP (il _))))))
def bc(O:ae vs=true)(I:ae ps=true):(Hd n ks vs ss ps).ax=true:=by
 show(true&&((D.fK ks vs).ax&&((D.fK ss ps).ax&&true)))=true;rw[show(D.fK ks vs).ax=ae vs from rfl,show(D.fK ss ps).ax=ae ps from rfl,O,I];rfl
def EI(hl:ks.length<most)(I:putD ks vs (.inr x) v=(hK,ph)):jG (.dK ks vs) (.str x) v=some (.dK hK ph):=by
 show(if ks.length<most then some (D.dK (putD ks vs (.inr x) v).1 (putD ks vs (.inr x) v).2)else none)=_;rw[if_pos hl,I]
def hW(m:Nat)(R:v.ax=true)(O:ae vs=true)(U:ae ps=true)(hl:ss.length<most)(Y:putD ss ps (.inr x) v=(rr,i3))(I:ae i3=true):au T (m+1) 25 [Hd n ks vs ss ps,.str x,v]=some (Hd n ks vs rr i3) :=
 (aA rfl).trans (aE rfl rfl (B2 (EH<|cD () rfl) (by show(ae ps&&true)=true;rw[U];rfl)<|AV () () rfl R (EI hl Y)<|BP rfl rfl<|aH (Fx (cD () rfl) (cD () rfl) ()<|bc O I)<|cP<|bc O I))
def l3(m:Nat)(R:v.ax=true)(U:ae vs=true)(O:ae ps=true)(hl:ks.length<most)(Y:putD ks vs (.inr x) v=(hK,ph))(I:ae ph=true):au T (m+1) 24 [Hd n ks vs ss ps,.str x,v]=some (Hd n hK ph ss ps) :=
 (aA rfl).trans (aE rfl rfl (B2 (EH<|cD () rfl) (by show(ae vs&&true)=true;rw[U];rfl)<|AV () () rfl R (EI hl Y)<|BP rfl rfl<|aH (Fx (cD () rfl) () (cD () rfl)<|bc I O)<|cP<|bc I O))
def yE(m:Nat)(i:Nat):au T (m+1) 33 [.str<|nm i]=some (eE (i,false,false)) :=
 (aA rfl).trans (aE rfl rfl<|aH (bg<|ak ah<|ak ()<|ak ah<|ak ah aD) rfl)
abbrev Nm(x:PySem.Str):Prop:=∀ m,au T (m+1) 26 [.str x]=some (.bl true)
def NW:Nm "a" := λm=>by kernel_rfl
def O2:Nm "b" := λm=>by kernel_rfl
def NQ:Nm "c" := λm=>by kernel_rfl
def OC:Nm "s" := λm=>by kernel_rfl
def Of:Nm "t" := λm=>by kernel_rfl
def oR(m:Nat)(h:Nm x)(I:aV ks vs (.inr x)=none):au T (m+2) 48 [.fK ks vs,.str x]=some .cb :=
 (aA rfl).trans (jW rfl rfl<|aY (aO<|dQ<|cz ()<|h m)<|aY (aO<|zF () ()<|nik I) aK)
def room(m:Nat){a b:Int}(h:a<=b):au T (m+1) 51 [.int a,.int b]=some .cb :=
 (aA rfl).trans (jW rfl rfl<|aY (aO<|aF () ()<|by rw[kF,Qh<|by omega]) aK)
def place(m:Nat){a b c:Int}(h:b<=a)(h':a<=c):au T (m+2) 29 [.int a,.int b,.int c]=some .cb :=
 (aA rfl).trans (jW rfl rfl<|aY (aO<|lD (dQ<|cz ()<|ck.num m _)<|dQ<|mO () () () (by rw[oQ,decide_eq_true h])<|by rw[oQ,decide_eq_true h']) aK)
def xO(m:Nat)(I:1<=n)(hn:n<=10)(V:Val n f):au T (m+6) 50 [Hd n ks vs ss ps,.tup<|L f]=some .cb :=
 (aA rfl).trans (jW rfl rfl<|cj (cz ()<|ck.check m I hn V)<|aY (aO<|aF (cz ()<|ck.half (m+4) V.fj.len) (cD () rfl)<|by rw[Dr];simp) aK)
def BU(m:Nat)(h:Nm x)(I:aV ss ps (.inr x)=none)(hl:ss.length<8):au T (m+3) 49 [Hd n ks vs ss ps,.str x]=some .cb :=
 (aA rfl).trans (jW rfl rfl<|cj (bH (cD () rfl) ()<|oR m h I)<|cj (bH (aC (bP (cD () rfl) rfl) ah bQ) ud<|room (m+1)<|by omega) aK)
def cE(h:d.ax=true)(h':d'.ax=true):(D.tup [d,d']).ax=true:=by
 show(d.ax&&(d'.ax&&true))=true;rw[h,h'];rfl
def tD(m:Nat)(Z:1<=n)(hn:n<=10)(V:Val n f)(h:Nm x)(Y:aV ks vs (.inr x)=none)(hl:ks.length<12)(R:ae vs=true)(O:ae ps=true)(U:putD ks vs (.inr x) (.tup<|L f)=(hK,ph))(I:ae ph=true) :
  au T (m+7) 34 [Hd n ks vs ss ps,.fL [.str x,.tup<|L f]]=some (.tup [Hd n hK ph ss ps,.cb]) :=
 (aA rfl).trans (aE rfl rfl<|bY () rfl (by simp[ae,aW];rfl) rfl<|cj (bH (cD () rfl) ()<|oR (m+4) h Y)<|cj (bH () ()<|xO m Z hn V)<|cj (bH (aC (bP (cD () rfl) rfl) ah bQ) ud<|room (m+5)<|by omega)<|aH (bg<|ak (dJ () () ()<|l3 (m+5) (aW f) R O (by unfold most;omega) U I)<|ak ah aD)<|cP<|cE (bc I O) rfl)
def xv(m:Nat)(a:1<=n)(hn:n<=10)(V:Val n f)(Z:aV ks vs (.inr x)=some w)(R:w.ax=true)(hl:ks.length<=12)(U:ae vs=true)(O:ae ps=true)(Y:putD ks vs (.inr x) (.tup<|L f)=(hK,ph))(I:ae ph=true) :
  au T (m+7) 35 [Hd n ks vs ss ps,.fL [.str x,.tup<|L f]]=some (.tup [Hd n hK ph ss ps,.cb]) :=
 (aA rfl).trans (aE rfl rfl<|bY () rfl (by simp[ae,aW];rfl) rfl<|cj (bH () ()<|jA (m+5) Z R)<|cj (bH () ()<|xO m a hn V)<|aH (bg<|ak (dJ () () ()<|l3 (m+5) (aW f) U O (by unfold most;omega) Y I)<|ak ah aD)<|cP<|cE (bc I O) rfl)
def oa(m:Nat)(h:Nm x)(Y:aV ss ps (.inr x)=none)(hl:ss.length<8)(O:ae vs=true)(R:ae ps=true)(U:putD ss ps (.inr x) (fg 0 [])=(rr,i3))(I:ae i3=true) :
  au T (m+4) 37 [Hd n ks vs ss ps,.fL [.str x]]=some (.tup [Hd n ks vs rr i3,.cb]) :=
 (aA rfl).trans (aE rfl rfl<|aJ (cK () ah rfl) rfl<|cj (bH () ()<|BU m h Y hl)<|aH (bg<|ak (dJ () () (bg<|ak ah<|ak (bg aD) aD)<|hW (m+2) (bZ 0 []) O R (by unfold most;omega) U I)<|ak ah aD)<|cP<|cE (bc O I) rfl)
def nr{a b:List D}(h:a.length+b.length<=most):aT .add (.tup a) (.tup b)=some (.tup<|a++b):=by
 rw[Oa]
 cases a with
 | nil=>rw[if_neg (by simp),if_pos<|by rfl];rfl
 | cons x a=>rw[if_pos ⟨h,by simp⟩]
def nD{n i:Nat}(h:i<=n):cutAt n (i:Nat)=i:=by
 unfold cutAt;rw[if_pos (by omega),Int.toNat_natCast];omega
def EN{es:List En}(h:a<=es.length):m9 (.tup<|es.map eE) (.int (a:Nat))=some (.tup<|(es.take a).map eE):=by
 show some (D.tup<|(es.map eE).take<|cutAt (es.map eE).length (a:Nat))=_;rw[nD (by simpa using h),List.map_take]
def Fg{es:List En}(h:a<=es.length):sf (.tup<|es.map eE) (.int (a:Nat))=some (.tup<|(es.drop a).map eE):=by
 show some (D.tup<|(es.map eE).drop<|cutAt (es.map eE).length (a:Nat))=_;rw[nD (by simpa using h),List.map_drop]
abbrev ins(a:Nat)(e:En)(es:List En):List En:=es.take a++[e]++es.drop a
def AG(m:Nat){es:List En}(O:aV ss ps (.inr x)=some (fg k es))(R:aV ks vs (.inr<|nm i)=some w)(I:w.ax=true)(ha:a<=es.length)(hl:es.length<=100) :
  au T (m+3) 32 [Hd n ks vs ss ps,.str x,.int (a:Nat),.str<|nm i]=some (fg k<|ins a (i,false,false) es) :=
 (aA rfl).trans (aE rfl rfl (bY (bH () ()<|eR (m+1) O<|bZ k es) rfl (bZ k es) rfl (cj (bH () ()<|jA (m+1) R I) (cj (dJ () ah (bP () rfl)<|place m (by omega)<|by rw[length_map];omega) (aH (bg (ak () (ak (aC (aC (uj () ()<|EN ha) (bg<|ak (cz ()<|yE (m+1) i) aD)<|nr<|by simp;unfold most;omega) (EY () ()<|Fg ha) (by
  rw[nr<|by simp;unfold most;omega];unfold ins
  simp)) aD))) (cP (bZ _ _)))))))
def qa(m:Nat){es:List En}(Y:aV ss ps (.inr x)=some (fg k es))(b:aV ks vs (.inr<|nm i)=some w)(R:w.ax=true)(ha:a<=es.length)(hl:es.length<24)(O:ae vs=true)(U:ae ps=true)(sl:ss.length<=8)(Z:putD ss ps (.inr x) (fg k<|ins a (i,false,false) es)=(rr,i3))(I:ae i3=true) :
  au T (m+4) 39 [Hd n ks vs ss ps,.fL [.str x,.int (a:Nat),.str<|nm i]]=some (.tup [Hd n ks vs rr i3,.cb]) :=
 (aA rfl).trans (aE rfl rfl<|bY () rfl rfl rfl<|bY (x_call (ak ()<|ak ()<|ak ()<|ak () aD)<|AG m Y b R ha<|by omega) rfl (bZ _ _) rfl<|cj (bH (bP () rfl) ud<|room (m+2)<|by rw[length_map];unfold ins;simp;omega)<|aH (bg<|ak (dJ () () (bg<|ak ()<|ak () aD)<|hW (m+2) (bZ _ _) O U (by unfold most;omega) Z I)<|ak ah aD)<|cP<|cE (bc O I) rfl)
abbrev I3(e:En):En:=(e.1,!e.2.1,e.2.2)
abbrev OY(e:En):En:=(e.1,e.2.1,!e.2.2)
def turned(m:Nat)(e:En):au T (m+1) 52 [eE e]=some (eE<|I3 e) :=
 (aA rfl).trans (aE rfl rfl<|aY (aO<|aF (cK () ah rfl) ah fh)<|bY () rfl rfl rfl<|aH (bg<|ak ()<|ak ()<|ak (dQ<|aa rfl)<|ak () aD) rfl)
def flipped(m:Nat)(e:En):au T (m+1) 53 [.int w,eE e]=some (eE<|OY e) :=
 (aA rfl).trans (aE rfl rfl<|aY (aO<|aF (cK () ah rfl) ah fh)<|bY () rfl rfl rfl<|aH (bg<|ak ()<|ak ()<|ak ()<|ak (dQ<|aa rfl) aD) rfl)
def k9(m:Nat){es:List En}(U:aV ss ps (.inr x)=some (fg k es))(hl:es.length<=100)(O:ae vs=true)(R:ae ps=true)(sl:ss.length<=8)(Y:putD ss ps (.inr x) (fg k<|es.reverse.map I3)=(rr,i3))(I:ae i3=true) :
  au T (m+2) 43 [Hd n ks vs ss ps,.fL [.str x]]=some (.tup [Hd n ks vs rr i3,.cb]):=by
 have c:=iS (J:=[some<|Hd n ks vs ss ps,some<|.fL [.str x],some<|.str x,some<|.tup<|es.map eE,some<|.int k,none]) (e:=.call 52<|.cons 5#0 .nil) (i:=5) (λ_=>rfl) es.reverse λe Z=>cz ()<|turned m e
 exact(aA rfl).trans (aE rfl rfl (aJ (cK () ah rfl) rfl (bY (bH () ()<|eR m U<|bZ k es) rfl (bZ k es) rfl (aJ (d:=.tup<|(es.reverse.map I3).map eE) (bP (gi (fv (show ev _ _ (.rev 3#0)=some (.tup<|es.reverse.map eE) by
  rw[Fc,aa rfl,List.map_reverse];rfl) rfl) (by rw[length_map,QJ];unfold most;omega) c) (by rw[map_map];rfl)) (kq (my _)) (aH (bg (ak (dJ () () (bg (ak () (ak () aD))) (hW m (bZ _ _) O R (by unfold most;omega) Y I)) (ak ah aD))) (cP (cE (bc O I) rfl)))))))
def mE(m:Nat){es:List En}(U:aV ss ps (.inr x)=some (fg k es))(hl:es.length<=100)(O:ae vs=true)(R:ae ps=true)(sl:ss.length<=8)(Y:putD ss ps (.inr x) (fg k<|es.map OY)=(rr,i3))(I:ae i3=true) :
  au T (m+2) 44 [Hd n ks vs ss ps,.fL [.str x]]=some (.tup [Hd n ks vs rr i3,.cb]):=by
 have c:=iS (J:=[some<|Hd n ks vs ss ps,some<|.fL [.str x],some<|.str x,some<|.tup<|es.map eE,some<|.int k,none]) (e:=.call 53<|.cons (.hC 0 0#0)<|.cons 5#0 .nil) (i:=5) (λ_=>rfl) es λe Z=>bH (cD () rfl) ()<|flipped m e;exact(aA rfl).trans<|aE rfl rfl<|aJ (cK () ah rfl) rfl<|bY (bH () ()<|eR m U<|bZ k es) rfl (bZ k es) rfl<|aJ (d:=.tup<|(es.map OY).map eE) (bP (gi (fv () rfl) (by rw[length_map];unfold most;omega) c)<|by rw[map_map];rfl) (kq<|my _)<|aH (bg<|ak (dJ () () (bg<|ak ()<|ak () aD)<|hW m (bZ _ _) O R (by unfold most;omega) Y I)<|ak ah aD)<|cP<|cE (bc O I) rfl
abbrev lb(a i:Nat)(es:List En):List En:=es.take a++[(i,false,false)]++es.drop (a+2)
abbrev mid(a:Nat)(es:List En):List En:=(es.take<|a+2).drop a
def Jf(a:Nat):aT .add (.int (a:Nat)) (.int 2)=some (.int ((a+2:Nat):Int)):=by rw[bQ,natCast_add];rfl
def LO{es:List En}(h:a+2<=es.length):sk (.tup<|es.map eE) (.int (a:Nat)) (.int ((a+2:Nat):Int))=some (.tup<|(mid a es).map eE):=by
 show some (D.tup<|((es.map eE).take<|cutAt (es.map eE).length ((a+2:Nat):Int)).drop<|cutAt (es.map eE).length (a:Nat))=_;rw[nD (by rw[length_map];omega),nD (by rw[length_map];omega),<-List.map_take,<-List.map_drop];rfl
def yb(H:i2 n ks vs F es)(h:∀ e∈I,e∈es):i2 n ks vs F I:=λe O=>H e<|h e O
def se(m:Nat){es:List En}(h:1<=n)(hn:n<=10)(Z:aV ss ps (.inr x)=some (fg k es))(H:i2 n ks vs F es)(ha:a+2<=es.length)(hl:es.length<=50)(U:Nm (nm i))(f:aV ks vs (.inr<|nm i)=none)(Y:ae vs=true)(R:ae ps=true)(kl:ks.length<12)(sl:ss.length<=8)
 (c:putD ks vs (.inr<|nm i) (.tup<|L (cm n F 0<|mid a es).1)=(hK,ph))(I:ae ph=true)(b:putD ss ps (.inr x) (fg (k+(cm n F 0<|mid a es).2)<|lb a i es)=(rr,i3))(O:ae i3=true) :
  au T (m+9) 45 [Hd n ks vs ss ps,.fL [.str x,.int (a:Nat),.str<|nm i]]=some (.tup [Hd n hK ph rr i3,.int ((cm n F 0<|mid a es).2:Nat)]) :=
 (aA rfl).trans (aE rfl rfl (bY () rfl rfl rfl
  (bY (bH () ()<|eR (m+7) Z<|bZ k es) rfl (bZ k es) rfl
  (cj (dJ () ah (aC (bP () rfl) ah rfl)<|place (m+6) (by omega)<|by rw[length_map];omega)
  (cj (bH (cD () rfl) ()<|oR (m+6) U f)
  (cj (bH (aC (bP (cD () rfl) rfl) ah bQ) ud<|room (m+7)<|by omega)
  (bY (bH () (bg<|ak ah<|ak (M8 () () (aC () ah<|Jf a)<|LO ha) aD) (uz m h hn (yb H λe g=>QB<|QC g)<|by unfold mid;simp;omega)) rfl (il _) rfl
  (aJ (d:=.tup<|(lb a i es).map eE) (aC (aC (uj () ()<|EN<|by omega) (bg<|ak (cz ()<|yE (m+7) i) aD)<|nr<|by simp;unfold most;omega) (EY () (aC () ah<|Jf a)<|Fg ha) (by
   rw[nr<|by simp;unfold most;omega];unfold lb
   simp)) (kq (my _))
  (aH (bg<|ak (dJ (dJ () () ()<|l3 (m+7) (aW _) Y R (by unfold most;omega) c I) () (bg<|ak (aC () ()<|by rw[bQ,<-natCast_add])<|ak () aD)<|hW (m+7) (bZ _ _) I R (by unfold most;omega) b O)<|ak () aD)<|cP<|cE (bc I O) rfl)))))))))
def done(m:Nat)(w:PySem.Str)(args:List D){H d:D}(f:Nat)(R:jt [("tie",34),("retie",35),("drop",36),("stack",37),("unstack",38),("hang",39),("hook",40),("unhang",41),("swap",42),("turn",43),("mirror",44),("splice",45),("cut",46)] (.str w)=some f)(O:ae args=true)(U:au T m f [H,.fL args]=some d)(I:d.ax=true) :
  au T (m+1) 47 [H,.tup<|.str w::args]=some d :=
 (aA (fn:=A9 34 35 36 37 38 39 40 41 42 43 44 45 46) rfl).trans (aE rfl rfl<|GG () O<|LH () R (ak ()<|ak () aD) U I)
def Ea(m:Nat){H H' r I:D}{P Q:List D}(U:au T m 47 [H,I]=some (.tup [H',r]))(R:H'.ax=true)(O:r.ax=true)(hl:P.length<most) :
  au T (m+1) 67 [.b0 H P Q,I]=some (.tup [r,.b0 H' (P++[H]) []]) :=
 (aA (fn:=AR 47) rfl).trans (pV rfl rfl (bY (bH (kK rfl rfl) () U) rfl (cE R O) rfl<|BW rfl hl<|AA () rfl R<|zY (eC aD) rfl rfl rfl<|aH ()<|cP O) O rfl)
def OK(m:Nat){H:D}{P Q:List D}(O:au T m 67 [.b0 H P Q,.tup [.str "tie",.str x,.tup<|L f]]=some (.tup [d,l]))(I:d.ax=true):au T (m+1) 73 [.b0 H P Q,.str x,.tup<|L f]=some (.tup [d,l]) :=
 (aA rfl).trans (pV rfl rfl (qf rfl (ak (bg<|ak ah<|ak ()<|ak () aD) aD) (by simp[bF,isVar,aX,D.ax,ae,bh]) O) I rfl)
def Ij(m:Nat){H:D}{P Q:List D}(O:au T m 67 [.b0 H P Q,.tup [.str "retie",.str x,.tup<|L f]]=some (.tup [d,l]))(I:d.ax=true):au T (m+1) 71 [.b0 H P Q,.str x,.tup<|L f]=some (.tup [d,l]) :=
 (aA rfl).trans (pV rfl rfl (qf rfl (ak (bg<|ak ah<|ak ()<|ak () aD) aD) (by simp[bF,isVar,aX,D.ax,ae,bh]) O) I rfl)
def Gq(m:Nat){H:D}{P Q:List D}{a:Int}(O:au T m 67 [.b0 H P Q,.tup [.str "splice",.str x,.int a,.str y]]=some (.tup [d,l]))(I:d.ax=true):au T (m+1) 72 [.b0 H P Q,.str x,.int a,.str y]=some (.tup [d,l]) :=
 (aA rfl).trans (pV rfl rfl (qf rfl (ak (bg<|ak ah<|ak ()<|ak ()<|ak () aD) aD) (by simp[bF,isVar,aX,D.ax,ae]) O) I rfl)
def N7(m:Nat){H:D}{P Q:List D}(O:au T m 67 [.b0 H P Q,.tup [.str "turn",.str x]]=some (.tup [d,l]))(I:d.ax=true):au T (m+1) 74 [.b0 H P Q,.str x]=some (.tup [d,l]) :=
 (aA rfl).trans (pV rfl rfl (qf rfl (ak (bg<|ak ah<|ak () aD) aD) (by simp[bF,isVar,aX,D.ax,ae]) O) I rfl)
def FC(m:Nat){H X:D}{P Q:List D}(hl:Q.length<most):au T (m+1) 76 [.b0 H (P++[X]) Q]=some (.tup [.cb,.b0 X P<|Q++[H]]) :=
 (aA (fn:=vA) rfl).trans (HV rfl rfl (Hn rfl (by show(P++[X]).isEmpty=false;simp)<|BW rfl hl<|Me rfl rfl aK) rfl)
def MG(m:Nat){P Q:List D}(Y:1<=n)(hn:n<=10)(O:ae vs=true)(I:ae ps=true)(U:ae P=true)(R:ae Q=true) :
  au T (m+5) 75 [.b0 (Hd n ks vs ss ps) P Q]=some (.b0 (Hd n ks vs ss ps) P Q):=by
 have w:au T (m+4) 54 [Hd n ks vs ss ps]=some (.b0 (Hd n ks vs ss ps) [] []) :=
  (aA rfl).trans (aE rfl rfl (fR (zo (cD () rfl)<|ck.ql rfl m Y hn) rfl (AA () rfl (bc O I) (aH () (by
   show((D.ax<|.b0 (Hd n ks vs ss ps) [] []) || (aG (.b0 (Hd n ks vs ss ps) [] [])&&_))=true
   rw[show aG (.b0 (Hd n ks vs ss ps) [] [])=((Hd n ks vs ss ps).ax&&true)from rfl,bc O I];rfl)))))
 exact(aA rfl).trans (aE rfl rfl (fR (cz (kK rfl rfl) w) (by
   rw[show aG (.b0 (Hd n ks vs ss ps) [] [])=((Hd n ks vs ss ps).ax&&true)from rfl,bc O I];rfl) (zY (xs:=P) (kK rfl rfl) rfl rfl U (zY (xs:=Q) (kK rfl rfl) rfl rfl R (aH () (by
   show((D.ax<|.b0 (Hd n ks vs ss ps) P Q) || (aG (.b0 (Hd n ks vs ss ps) P Q)&&_))=true
   rw[show aG (.b0 (Hd n ks vs ss ps) P Q)=((Hd n ks vs ss ps).ax&&(ae P&&ae Q))from rfl,bc O I,U,R];rfl))))))
def eF(m:Nat){P Q:List D}(O:1<=n)(hn:n<=10)(I:aV ss ps (.inr x)=some (fg k es))(H:i2 n ks vs F es)(hl:es.length<=100):au T (m+9) 66 [.b0 (Hd n ks vs ss ps) P Q,.str x]=some (fy<|cm n F k es) :=
 (aA rfl).trans (aE rfl rfl<|aH (bH (kK rfl rfl) (bH (kK rfl rfl) ()<|eR (m+7) I<|bZ k es)<|uz m O hn H hl)<|cP<|il _)
def mframe(m:Nat){P Q:List D}(O:aV ks vs (.inr x)=some v)(I:v.ax=true):au T (m+2) 69 [.b0 (Hd n ks vs ss ps) P Q,.str x]=some v :=
 (aA rfl).trans (aE rfl rfl<|aH (bH (kK rfl rfl) ()<|jA m O I)<|cP I)
def CI(m:Nat){P Q:List D}(I:aV ss ps (.inr x)=some (fg k es)):au T (m+2) 68 [.b0 (Hd n ks vs ss ps) P Q,.str x]=some (.lst<|es.map eE) :=
 (aA rfl).trans (aE rfl rfl (aH (bP (cK (bH (kK rfl rfl) ()<|eR m I<|bZ k es) ah rfl) rfl) (by
  show(false || (ae (es.map eE)&&true))=true
  rw[my];rfl)))
def mP(m:Nat){P Q:List D}{xs:List PySem.Str}(R:ks=xs.map .inr)(ha:(rm xs&&decide (xs.length<64))=true):au T (m+1) 70 [.b0 (Hd n ks vs ss ps) P Q]=some (.lst<|xs.map .str):=by
 subst R
 have st:∀ xs:List PySem.Str,strs? (xs.map .str)=some xs:=λxs=>by
  induction xs with
  | nil=>rfl
  | cons a r I=>show(strs?<|r.map .str).map _=_;rw[I];rfl
 have e:((xs.map .inr:List Ky).map kyD)=xs.map D.str:=by rw[map_map];rfl
 have O:∀ xs:List PySem.Str,ae (xs.map D.str)=true:=λxs=>by
  induction xs with
  | nil=>rfl
  | cons a r I=>exact I
 exact(aA rfl).trans (aE rfl rfl (aH (bP (Mo<|cD (kK rfl rfl) rfl) (by
  rw[e,F3,st,Option.bind_some,if_pos ha])) (by
  show(false || (ae (xs.map D.str)&&true))=true
  rw[O];rfl)))
inductive Dd where
 | ik (s a w:Nat)
 | turn (s:Nat)
 | mirror (s:Nat)
abbrev jl:Dd->D
 | .ik s a w=>.tup [.str "hang",.str<|sn s,.int (a:Nat),.str<|nm w]
 | .turn s=>.tup [.str "turn",.str<|sn s]
 | .mirror s=>.tup [.str "mirror",.str<|sn s]
abbrev e8(s:Nat):D:=.tup [.str "stack",.str<|sn s]
abbrev cV(f:List Nat):D:=.tup [.str "tie",.str "b",.tup<|L f]
abbrev lA(s:Nat):Dd->Bool
 | .ik s' _ _=>s' == s
 | _=>false
abbrev Dx(pre:List Dd):Dd->Prop
 | .ik s a w=>s<2/\w<2/\a<=pre.countP (lA s)
 | .turn s=>s<2
 | .mirror s=>s<2
abbrev OT:List Dd->List Dd->Prop
 | _,[]=>True
 | pre,d::r=>Dx pre d/\OT (pre++[d]) r
def oG:∀ ds pre,OT pre ds->Dx (pre++ds) d->OT pre (ds++[d])
 | [],pre,_,h=>#[by simpa using h,trivial]
 | x::r,pre,h,h'=>#[h.1,oG r (pre++[x]) h.2<|by simpa using h']
def mD(d:Dd):(jl d).ax=true:=by cases d<;>rfl
def He(ds:List Dd):ae (ds.map jl)=true:=by
 induction ds with
 | nil=>rfl
 | cons d r I=>show((jl d).ax&&ae (r.map jl))=true;rw[mD,I];rfl
abbrev cH(s:Nat):D->Bool
 | .tup (.str w :: .str y::_)=>decide (w = "hang")&&decide (y=sn s)
 | _=>false
def Mu(h:s<2)(h':s'<2):decide (sn s'=sn s)=(s' == s):=by
 have k:∀ s,s<2->∀ s',s'<2->decide (sn s'=sn s)=(s' == s):=by decide +kernel
 exact k s h s' h'
def ML(h:s<2)(k:Dx pre d):cH s (jl d)=lA s d:=by
 cases d with
 |ik s' a w=>
  show(decide (PySem.Str.ofString "hang" = "hang")&&decide (sn s'=sn s))=(s' == s);rw[decide_eq_true rfl,Bool.true_and,Mu h k.1]
 |turn s'=>
  show(decide (PySem.Str.ofString "turn" = "hang")&&decide (sn s'=sn s))=false;rw[show decide (PySem.Str.ofString "turn" = "hang")=false by decide +kernel];rfl
 |mirror s'=>
  show(decide (PySem.Str.ofString "mirror" = "hang")&&decide (sn s'=sn s))=false;rw[show decide (PySem.Str.ofString "mirror" = "hang")=false by decide +kernel];rfl
def xC:∀ ds pre,OT pre ds->∀ d∈ds,∃ I,Dx I d
 | [],_,_,d,h=>absurd h<|by simp
 | x::r,pre,h,d,hd=>by
  rcases List.mem_cons.mp hd with rfl | hd
  ·exact#[pre,h.1]
  ·exact xC r _ h.2 d hd
def Iz(h:s<2):∀ ds:List Dd,(∀ d∈ds,∃ pre,Dx pre d)->((ds.map jl).filter<|cH s).length=ds.countP (lA s)
 | [],_=>rfl
 | d::r,k=>by
  let#[pre,I]:=k d (by simp);rw[map_cons,Qw,List.countP_cons,ML h I,<-Iz h r λd hd=>k d<|by simp[hd]];cases lA s d<;>rfl
def Nz(h:s<2)(f:List Nat):[cV f,e8 0,e8 1].filter (cH s)=[]:=by
 have a:cH s (cV f)=false:=by
  show(decide (PySem.Str.ofString "tie" = "hang")&&decide (PySem.Str.ofString "b" = sn s))=false;rw[show decide (PySem.Str.ofString "tie" = "hang")=false by decide +kernel];rfl
 have b:∀ k,cH s (e8 k)=false:=λk=>by
  show(decide (PySem.Str.ofString "stack" = "hang")&&decide (sn k=sn s))=false;rw[show decide (PySem.Str.ofString "stack" = "hang")=false by decide +kernel];rfl
 simp[a,b]
def mw{F:St->Option (Option D)}{tg:List Nat}{J:St}{c:D->Bool}:∀ xs:List D,(∀ x∈xs,x.ax=true/\(aZ tg x J).bind F=some (if c x then some x else none))->bX F tg J xs=some (xs.filter c)
 | [],_=>rfl
 | x::r,h=>by
  let#[O,a]:=h x (by simp);have b:=mw r λy R=>h y (by simp[R]);rw[bX]
  cases hb:aZ tg x J with
  | none=>rw[hb]at a;cases a
  |some I=>
   rw[hb]at a;simp only[Option.bind_some]at a ⊢;rw[a,b,Qw];cases c x<;>simp[kP,O]
def eq2{w y v z:PySem.Str}:bW .eq (.tup [.str w,.str y]) (.tup [.str v,.str z])=some (decide (w=v)&&decide (y=z)):=by
 show i1 8 _ _=_;rw[II];simp[eqs,ED];congr 1
def test(x:D)(I:(∃ f,x=cV f)\/(∃ s,x=e8 s)\/∃ d,x=jl d){J:St}(hi:(J[9]?).bind id=some x)(O:(J[4]?).bind id=some (.str<|sn s)):((ev cl J<|.cmp .eq (.mS 9#0 2#1)<|.tup %[.cst<|.str "hang",4#0|_]).bind truth)=some (cH s x):=by
 have g:∀ {w y:PySem.Str} {r:List D},m9 x (.int 2)=some (.tup [.str w,.str y])->cH s x=(decide (w = "hang")&&decide (y=sn s))->((ev cl J<|.cmp .eq (.mS 9#0 2#1)<|.tup<|.cons (.cst<|.str "hang")<|.cons 4#0 .nil).bind truth)=some (cH s x):=λ{w y r} a b=>by
  rw[b];exact aO<|aF (uj (aa hi) ah a) (bg<|ak ah<|ak (aa O) aD) eq2
 rcases I with⟨f,rfl⟩ | ⟨k,rfl⟩ | ⟨d,rfl⟩
 ·exact g (r:=[]) rfl rfl
 ·exact g (r:=[]) rfl rfl
 ·cases d with
  | ik a b c=>exact g (r:=[]) rfl rfl
  | turn a=>exact g (r:=[]) rfl rfl
  | mirror a=>exact g (r:=[]) rfl rfl
def N3:∀ x,x<2->i0 (.str "st") (.int (x:Nat))=some (.str<|sn x)
 | 0,_=>by kernel_rfl
 | 1,_=>by kernel_rfl
 | _+2,h=>absurd h<|by omega
def Jc:∀ x,x<3->∃ w,w<2/\i0 (.str "aab") (.int (x:Nat))=some (.str<|nm w)
 | 0,_=>#[0,by decide,by kernel_rfl]
 | 1,_=>#[0,by decide,by kernel_rfl]
 | 2,_=>#[1,by decide,by kernel_rfl]
 | _+3,h=>absurd h<|by omega
def N8{ds:List Nat}{a b c d:Nat}(h:lV ds [a,b,c,d]):∃ x y z w,ds=[x,y,z,w]/\x<a/\y<b/\z<c/\w<d:=by
 let#[O,I]:=h
 match ds,O with
 | [x,y,z,w],_=>exact#[x,y,z,w,rfl,I 0 x a rfl rfl,I 1 y b rfl rfl,I 2 z c rfl rfl,I 3 w d rfl rfl]
def modS(x q:Nat):aT .mod (.int (x:Nat)) (.int<|(q:Int)+1)=some (.int ((x%(q+1):Nat):Int)):=by
 rw[Ez,if_pos<|by omega];congr 2
def Bp{ns:List Int}(hl:ns.length<=63)(E:1<=n)(hn:n<=10):∃ f ds,Val n f/\OT [] ds/\ds.length=14/\au T 29 64 [.lst<|LI ns,.int (n:Nat)]=some (.lst<|[cV f,e8 0,e8 1]++ds.map jl):=by
 let#[f,V,QN]:=oK 21 hl (k:=1) ∅ E hn
 let#[q,e,ds,o3,g,R,Z,Y,U,rfl,ok,i]:=jy (f:=aq (au T 28) [2]<|jq 62 63) (tg:=[3]) (xs:=List.range 14) (J:=[some<|.lst<|LI ns,some<|.int (n:Nat),some<|.lst [cV f,e8 0,e8 1],none,none,none,none,none,none,none])
  (λu J=>∃ (ds:List Dd) (o3 g R Z Y U:Option D),J=[some<|.lst<|LI ns,some<|.int (n:Nat),some<|.lst<|[cV f,e8 0,e8 1]++ds.map jl,o3,g,R,Z,Y,U,none]/\OT [] ds/\ds.length=u.length)
  ⟨[],none,none,none,none,none,none,rfl,trivial,rfl⟩ (by
  rintro u x v J hu ⟨ds,o3,g,R,Z,Y,U,rfl,ok,i⟩
  have M:x<14:=by
   have:x∈List.range 14:=by rw[hu];simp
   simpa using this
  have p:ds.length<=14:=by
   have:=congrArg List.length hu;simp at this;omega
  let#[es,Dg,K]:=dg.digits hl 25 (k:=5+x) (hF:=[7,2,12,3]) (by omega) ∅ ∅;let#[a,b,c,d,rfl,ha,hb,N,hd]:=N8 Dg;let#[w,B,G]:=Jc d hd
  have bs:∀ y∈[cV f,e8 0,e8 1]++ds.map jl,(∃ f,y=cV f)\/(∃ s,y=e8 s)\/∃ d,y=jl d:=λy j=>by
   rcases List.mem_append.mp j with h | h
   ·simp only[mem_cons,not_mem_nil,or_false]at h;rcases h with rfl | rfl | rfl
    ·exact .inl #[_,rfl]
    ·exact .inr<|.inl #[_,rfl]
    ·exact .inr<|.inl #[_,rfl]
   ·let#[d,_,rfl]:=List.mem_map.mp h;exact .inr<|.inr #[d,rfl]
  have t:=mw (c:=cH b) (F:=λI=>((ev (au T 28) I<|.cmp .eq (.mS 9#0 2#1)<|.tup<|.cons (.cst<|.str "hang")<|.cons 4#0 .nil).bind truth).bind λk=>if k then(ev (au T 28) I 9#0).map some else some none) (tg:=[9])
   (J:=[some<|.lst<|LI ns,some<|.int (n:Nat),some<|.lst<|[cV f,e8 0,e8 1]++ds.map jl,some<|.int (x:Nat),some<|.str<|sn b,R,some<|.int (a:Nat),some<|.int (c:Nat),some<|.int (d:Nat),none]) ([cV f,e8 0,e8 1]++ds.map jl) (λy j=>⟨by
    rcases bs y j with⟨f,rfl⟩ | ⟨s,rfl⟩ | ⟨d,rfl⟩
    ·simp[cV,D.ax,ae,bh]
    ·rfl
    ·exact mD d,by
    show((ev _ _ _).bind truth).bind _=_;rw[test (s:=b) y (bs y j) rfl rfl,Option.bind_some]
    cases cH b y<;>rfl⟩)
  have L:(([cV f,e8 0,e8 1]++ds.map jl).filter<|cH b).length=ds.countP (lA b):=by
   rw[List.filter_append,Nz hb,nil_append,Iz hb ds<|xC ds [] ok]
  have pre:∀ {O},aq (au T 28) [2] %[.c7 (.cmp .lt 6#0 5#1) %[.app 2 (.tup %[.cst<|.str "hang",4#0,.bin .mod 7#0<|.bin .add 5#0 1#1,.ix (.cst<|.str "aab") 8#0|_])|_] %[.app 2 (.tup %[.ix (.lst %[.cst<|.str "turn",.cst (.str "mirror")|_])<|.bin .sub 6#0 5#1,4#0|_])|_]|_]
    [some<|.lst<|LI ns,some<|.int (n:Nat),some<|.lst<|[cV f,e8 0,e8 1]++ds.map jl,some<|.int (x:Nat),some<|.str<|sn b,some<|.int (ds.countP (lA b):Nat),some<|.int (a:Nat),some<|.int (c:Nat),some<|.int (d:Nat),none]=O ->
    aq (au T 28) [2] (jq 62 63) [some<|.lst<|LI ns,some<|.int (n:Nat),some<|.lst<|[cV f,e8 0,e8 1]++ds.map jl,some<|.int (x:Nat),g,R,Z,Y,U,none]=O:=λh =>
   bY (dJ () (aC ah () (by rw[bQ];exact congrArg (λz=>some<|D.int z) (natCast_add 5 x).symm)) (eC<|ak ah<|ak ah<|ak ah<|ak ah aD) K) rfl rfl rfl
   (aJ (cK ah ()<|N3 b hb) rfl
   (aJ (d:=.int (ds.countP (lA b):Nat)) (bP (vv (fv () rfl) (by simp;unfold most;omega) t)<|by rw[zZ,L]) rfl h))
  by_cases P:a<5
  ·refine#[_,pre (eG (aO<|aF (k:=true) () ah<|by rw[eX,decide_eq_true<|by omega]) (lY (bg<|ak ah<|ak ()<|ak (aC () (aC () ah bQ)<|modS c _)<|ak (cK ah () G) aD) rfl rfl (by simp;unfold most;omega) aK) aK),ds++[.ik b (c%(ds.countP (lA b)+1)) w],_,_,_,_,_,_,(by rw[QE,<-QD];rfl),oG (d:=.ik b (c%(ds.countP (lA b)+1)) w) ds [] ok #[hb,B,?_],by simp[i]];have:=Nat.mod_lt c (show ds.countP (lA b)+1 > 0 by omega);simp only[nil_append];omega
  ·have r:∃ k,Dx ds k/\∀ {J},(J[6]?).bind id=some (.int (a:Nat))->(J[4]?).bind id=some (.str<|sn b)->ev (au T 28) J (.tup %[.ix (.lst %[.cst<|.str "turn",.cst (.str "mirror")|_])<|.bin .sub 6#0 5#1,4#0|_])=some (jl k):=by
    rcases(show a=5\/a=6 by omega)with rfl | rfl
    ·exact#[.turn b,hb,λm o=>bg<|ak (cK (eC<|ak ah<|ak ah aD) (aC (aa m) ah DS) rfl)<|ak (aa o) aD]
    ·exact#[.mirror b,hb,λm o=>bg<|ak (cK (eC<|ak ah<|ak ah aD) (aC (aa m) ah DS) rfl)<|ak (aa o) aD]
   let#[k,C,H]:=r
   exact#[_,pre (jw (aO<|aF (k:=false) () ah<|by rw[eX,Qh<|by omega]) (lY (d:=jl k) (H rfl rfl) rfl (mD k) (by simp;unfold most;omega) aK) aK),ds++[k],_,_,_,_,_,_,(by rw[QE,<-QD];rfl),oG ds [] ok C,by simp[i]])
 have A:ae ([cV f,e8 0,e8 1]++ds.map jl)=true:=by
  show((cV f).ax&&(true&&(true&&ae (ds.map jl))))=true;rw[He];simp[cV,D.ax,ae,bh]
 have l:ae [cV f,e8 0,e8 1]=true:=by
  show((cV f).ax&&(true&&(true&&true)))=true;simp[cV,D.ax,ae,bh]
 exact⟨f,ds,V,ok,by simpa using i,(aA (fn:=oh 62 63) rfl).trans (aE rfl rfl (fR (d:=.lst [cV f,e8 0,e8 1]) (eC<|ak (bg<|ak ah<|ak ah<|ak (dJ () ah () QN) aD)<|ak (bg<|ak ah<|ak ah aD)<|ak (bg<|ak ah<|ak ah aD) aD) (by show(ae [cV f,e8 0,e8 1]&&true)=true;rw[l];rfl) (dD (km ah<|fB ∅) e (aH () (by
  show(false || (ae ([cV f,e8 0,e8 1]++ds.map jl)&&true))=true
  rw[A];rfl)))))⟩
@[reducible]noncomputable def ka:Ky:=.inr "a"
@[reducible]noncomputable def kb:Ky:=.inr "b"
@[reducible]noncomputable def kc:Ky:=.inr "c"
@[reducible]noncomputable def hK:Ky:=.inr "s"
@[reducible]noncomputable def kt:Ky:=.inr "t"
abbrev fD(f:List Nat):D:=.tup<|L f
abbrev Hx(n:Nat)(kr:List Ky)(vr:List D)(A B:List Nat)(k:Nat)(p:List En × List En):D:=Hd n (ka::kb::kr) (fD A::fD B::vr) [hK,kt] [fg k p.1,fg 0 p.2]
abbrev St(n:Nat)(A B:List Nat)(p:List En × List En):D:=Hx n [] [] A B 0 p
def iE:aV [hK,kt] [v,w] hK=some v:=by kernel_rfl
def lJ:aV [hK,kt] [v,w] kt=some w:=by kernel_rfl
def v5:putD [hK,kt] [v,w] hK x=([hK,kt],[x,w]):=by kernel_rfl
def C1:putD [hK,kt] [v,w] kt x=([hK,kt],[v,x]):=by kernel_rfl
def oF:aV (ka::kb::kr) (v::w::vr) ka=some v:=by kernel_rfl
def wK:aV (ka::kb::kr) (v::w::vr) kb=some w:=by kernel_rfl
def Jx:aV [ka,kb,kc] [v,w,u] kc=some u:=by kernel_rfl
def OG:aV [ka,kb] [v,w] kc=none:=by kernel_rfl
def OI:putD [ka,kb] [v,w] kc x=([ka,kb,kc],[v,w,x]):=by kernel_rfl
def M9:putD [ka,kb] [v,w] ka x=([ka,kb],[x,w]):=by kernel_rfl
def MS:putD [ka,kb,kc] [v,w,u] ka x=([ka,kb,kc],[x,w,u]):=by kernel_rfl
abbrev FF(A B C:List Nat):Nat->List Nat
 | 0=>A
 | 1=>B
 | _=>C
def oI{es:List En}(R:Val n A)(O:Val n B)(h:∀ e∈es,e.1<2):i2 n (ka::kb::kr) (fD A::fD B::vr) (FF A B C) es:=λe I=>by
 let#[i,t]:=e;have:=h _ I
 match i,this with
 | 0,_=>exact#[oF,R]
 | 1,_=>exact#[wK,O]
def KI{es:List En}(U:Val n A)(R:Val n B)(O:Val n C)(h:∀ e∈es,e.1<3):i2 n [ka,kb,kc] [fD A,fD B,fD C] (FF A B C) es:=λe I=>by
 let#[i,t]:=e;have:=h _ I
 match i,this with
 | 0,_=>exact#[oF,U]
 | 1,_=>exact#[wK,R]
 | 2,_=>exact#[Jx,O]
def bL(k I:Nat)(p q:List En):ae [fg k p,fg I q]=true:=by
 show((fg k p).ax&&((fg I q).ax&&true))=true;rw[bZ,bZ];rfl
def bB(A B:List Nat)(h:ae vr=true):ae (fD A::fD B::vr)=true:=by
 show((fD A).ax&&((fD B).ax&&ae vr))=true;rw[show(fD A).ax=true from aW A,show(fD B).ax=true from aW B,h];rfl
def Aw(h:ae vr=true):(Hx n kr vr A B k p).ax=true:=bc (bB A B h)<|bL _ _ _ _
def pD:(St n A B p).ax=true:=Aw rfl
abbrev act:Dd->List En × List En->List En × List En
 | .ik 0 a w,p=>(ins a (w,false,false) p.1,p.2)
 | .ik _ a w,p=>(p.1,ins a (w,false,false) p.2)
 | .turn 0,p=>(p.1.reverse.map I3,p.2)
 | .turn _,p=>(p.1,p.2.reverse.map I3)
 | .mirror 0,p=>(p.1.map OY,p.2)
 | .mirror _,p=>(p.1,p.2.map OY)
abbrev qV(pre:List Dd)(p:List En × List En):Prop:=(p.1.length=pre.countP (lA 0)/\p.2.length=pre.countP (lA 1))/\(∀ e∈p.1,e.1<2)/\∀ e∈p.2,e.1<2
def yo(h:a<=es.length):(ins a e es).length=es.length+1:=by unfold ins;simp;omega
def xR{es:List En}(h:∀ e∈es,e.1<2)(O:w<2):∀ e∈ins a (w,false,false) es,e.1<2:=λe I=>by
 unfold ins at I;simp only[List.mem_append,mem_cons,not_mem_nil,or_false]at I;rcases I with(I | rfl) | I
 ·exact h e<|QB I
 ·exact O
 ·exact h e<|QC I
def nt{es:List En}{g:En->En}(O:∀ e,(g e).1=e.1)(h:∀ e∈es,e.1<2):∀ e∈es.map g,e.1<2:=λe R=>by
 let#[x,I,rfl]:=List.mem_map.mp R;rw[O];exact h x I
def GI(ok:Dx pre d)(I:qV pre p):qV (pre++[d]) (act d p):=by
 let#[#[a0,a1],R,O]:=I
 have Z:∀ s,(pre++[d]).countP (lA s)=pre.countP (lA s)+if lA s d then 1 else 0:=λs=>by rw[List.countP_append,List.countP_singleton]
 unfold qV;rw[Z,Z]
 cases d with
 |ik s a w=>
  let#[b,Y,c]:=ok
  match s,b with
  | 0,_=>exact#[#[by rw[show act (.ik 0 a w) p=(ins a (w,false,false) p.1,p.2)from rfl,yo (by omega),a0];rfl,a1],xR R Y,O]
  | 1,_=>exact#[#[a0,by rw[show act (.ik 1 a w) p=(p.1,ins a (w,false,false) p.2)from rfl,yo (by omega),a1];rfl],R,xR O Y]
 |turn s=>
  match s,(show s<2 from ok)with
  | 0,_=>exact#[#[by rw[show act (.turn 0) p=(p.1.reverse.map I3,p.2)from rfl,length_map,QJ];exact a0,a1],nt (λ_=>rfl) λe U=>R e<|List.mem_reverse.mp U,O]
  | 1,_=>exact#[#[a0,by rw[show act (.turn 1) p=(p.1,p.2.reverse.map I3)from rfl,length_map,QJ];exact a1],R,nt (λ_=>rfl) λe U=>O e<|List.mem_reverse.mp U]
 |mirror s=>
  match s,(show s<2 from ok)with
  | 0,_=>exact#[#[by rw[show act (.mirror 0) p=(p.1.map OY,p.2)from rfl,length_map];exact a0,a1],nt (λ_=>rfl) R,O]
  | 1,_=>exact#[#[a0,by rw[show act (.mirror 1) p=(p.1,p.2.map OY)from rfl,length_map];exact a1],R,nt (λ_=>rfl) O]
def yA(ok:Dx pre d)(I:qV pre p)(hl:pre.length<=14)(b:P.length<most):au T 29 67 [.b0 (St n A B p) P Q,jl d]=some (.tup [.cb,.b0 (St n A B<|act d p) (P++[St n A B p]) []]):=by
 let#[#[a0,a1],j,i]:=I;have h:=List.countP_le_length (p:=lA 0) (l:=pre);have c1:=List.countP_le_length (p:=lA 1) (l:=pre)
 have nx:∀ w,w<2->∃ v,aV [ka,kb] [fD A,fD B] (.inr<|nm w)=some v/\v.ax=true:=λw U=>by
  match w,U with
  | 0,_=>exact#[_,oF,aW A]
  | 1,_=>exact#[_,wK,aW B]
 have go:∀ {w:PySem.Str} {args:List D} {f:Nat},jt [("tie",34),("retie",35),("drop",36),("stack",37),("unstack",38),("hang",39),("hook",40),("unhang",41),("swap",42),("turn",43),("mirror",44),("splice",45),("cut",46)] (.str w)=some f->ae args=true->au T 27 f [St n A B p,.fL args]=some (.tup [St n A B<|act d p,.cb]) ->
   au T 29 67 [.b0 (St n A B p) P Q,.tup<|.str w::args]=some (.tup [.cb,.b0 (St n A B<|act d p) (P++[St n A B p]) []]):=λ{w args f} Y R Z=>Ea 28 (done 27 w args f Y R Z<|cE pD rfl) pD rfl b
 cases d with
 |ik s a w=>
  let#[e,c,g]:=ok;let#[v,ev,O]:=nx w c
  match s,e with
  | 0,_=>exact go (by kernel_rfl) rfl<|qa 23 iE ev O (by omega) (by omega) (bB A B rfl) (bL _ _ _ _) ∅ v5<|bL _ _ _ _
  | 1,_=>exact go (by kernel_rfl) rfl<|qa 23 lJ ev O (by omega) (by omega) (bB A B rfl) (bL _ _ _ _) ∅ C1<|bL _ _ _ _
 |turn s=>
  match s,(show s<2 from ok)with
  | 0,_=>exact go (by kernel_rfl) rfl<|k9 25 iE (by omega) (bB A B rfl) (bL _ _ _ _) ∅ v5<|bL _ _ _ _
  | 1,_=>exact go (by kernel_rfl) rfl<|k9 25 lJ (by omega) (bB A B rfl) (bL _ _ _ _) ∅ C1<|bL _ _ _ _
 |mirror s=>
  match s,(show s<2 from ok)with
  | 0,_=>exact go (by kernel_rfl) rfl<|mE 25 iE (by omega) (bB A B rfl) (bL _ _ _ _) ∅ v5<|bL _ _ _ _
  | 1,_=>exact go (by kernel_rfl) rfl<|mE 25 lJ (by omega) (bB A B rfl) (bL _ _ _ _) ∅ C1<|bL _ _ _ _
@[reducible]noncomputable def SG(ns:List Int)(n:Nat)(R O:Nat)(A N:List Nat)(o2 o3 Z Y U:Option D)(h I:D):RL.St:=[some<|.lst<|LI ns,some<|.int (n:Nat),o2,o3,Z,Y,U,some<|.int (R:Nat),some<|.int (O:Nat),some h,some I,some<|fD A,some<|fD N,none]
@[reducible]noncomputable def B1:Ss:=Bk 69 66 76 74 70 71 75 72 68 64 67 73 63 2 62
def nB(I:d.ax=true)(R:au T 29 67 [.b0 H P Q,d]=some (.tup [r,.b0 H1 P1 Q1]))(O:au T 29 67 [.b0 H' P' Q',d]=some (.tup [r',.b0 H1' P1' Q1'])) :
  (aZ [2] d<|SG ns n q7 q8 A N o2 none none none none (.b0 H P Q)<|.b0 H' P' Q').bind (aq (au T 29) [6,9,10] B1)=some (.nx,SG ns n q7 q8 A N (some d) none none none none (.b0 H1 P1 Q1)<|.b0 H1' P1' Q1') :=
 gz rfl (ak () aD) (by simp[bF,isVar,aX,I]) R (gz rfl (ak () aD) (by simp[bF,isVar,aX,I]) O aK)
def pH{f:RL.St->Option (Out × RL.St)}(O:d.ax=true)(hb:(aZ tg d J).bind f=some (.nx,QQ))(k:bp f tg r QQ=res):bp f tg (d::r) J=res:=by
 rw[bp,if_pos O]
 cases h:aZ tg d J with
 | none=>rw[h]at hb;cases hb
 |some I=>
  rw[h]at hb;simp only[Option.bind_some]at hb ⊢;rw[hb];exact k
def iZ(h:ae P=true)(i:d.ax=true):ae (P++[d])=true:=by
 induction P with
 | nil=>show(d.ax&&true)=true;rw[i];rfl
 |cons x r I=>
  have h:(x.ax&&ae r)=true:=h;rw[and_eq_true]at h;show(x.ax&&ae (r++[d]))=true;rw[h.1,I h.2];rfl
def loop:∀ (ds pre:List Dd) (P R:List D) (p:List En × List En) (o2:Option D) (Q U:List D),OT pre ds->qV pre p->(pre++ds).length<=14->P.length+ds.length<=20->R.length+ds.length<=20->ae P=true->Q=[]->U=[] ->
  ∃ Y O p1 o,bp (aq (au T 29) [6,9,10] B1) [2] (ds.map jl) (SG ns n q7 q8 A N o2 none none none none (.b0 (St n A B p) P Q)<|.b0 (St n N B p) R U)=some (.nx,SG ns n q7 q8 A N o none none none none (.b0 (St n A B p1) Y [])<|.b0 (St n N B p1) O [])/\qV (pre++ds) p1/\Y.length<=20/\ae Y=true
 | [],pre,P,R,p,o2,Q,U,_,I,_,l1,l2,iP,hQ,hQ'=>by
  subst hQ hQ';exact#[P,R,p,o2,rfl,by simpa using I,by simpa using l1,iP]
 | d::ds,pre,P,R,p,o2,Q,U,ok,I,hl,l1,l2,iP,hQ,hQ'=>by
  simp only[length_append,length_cons]at hl l1 l2;have a:=yA (n:=n) (A:=A) (B:=B) (P:=P) (Q:=Q) ok.1 I (by omega) (by unfold most;omega);have Z:=yA (n:=n) (A:=N) (B:=B) (P:=R) (Q:=U) ok.1 I (by omega) (by unfold most;omega);let#[Y,O,p1,o,e,b,l,i]:=loop (n:=n) (A:=A) (N:=N) ds (pre++[d]) (P++[St n A B p]) (R++[St n N B p]) (act d p) (some<|jl d) [] [] ok.2 (GI ok.1 I) (by simp;omega) (by simp;omega) (by simp;omega) (iZ iP pD) rfl rfl;exact#[Y,O,p1,o,pH (mD d) (nB (mD d) a Z) e,by simpa using b,l,i]
def kD{es:List En}(h:∀ e∈es,F e.1=G e.1):cm n F k es=cm n G k es:=by
 have e:es.map (fr n F)=es.map (fr n G):=QI λx I=>by unfold fr;rw[h x I]
 unfold cm;rw[e]
def ui{es:List En}(h:∀ e∈es,e.1<2):∀ e∈es,FF A B C e.1=FF A B C' e.1:=λe I=>by
 let#[i,t]:=e;have:=h _ I
 match i,this with
 | 0,_=>rfl
 | 1,_=>rfl
def Om(a:Nat)(es:List En):es=es.take a++mid a es++es.drop (a+2):=by
 have e:es.take a++mid a es=es.take (a+2):=by
  have:es.take a=(es.take<|a+2).take a:=by rw[List.take_take,Nat.min_eq_left<|by omega]
  unfold mid;rw[this,List.take_append_drop]
 rw[e,List.take_append_drop]
def JI(hn:n<=10){es:List En}(V:∀ e∈es,Val n<|F e.1)(c:F 2=(cm n F 0<|mid a es).1):cm n F (0+(cm n F 0<|mid a es).2) (lb a 2 es)=cm n F 0 es:=by
 have v:∀ {xs:List En},(∀ e∈xs,e∈es)->∀ f∈xs.map (fr n F),Val n f:=λ{xs} h f O=>by
  let#[e,I,rfl]:=List.mem_map.mp O;exact Ba<|V e<|h e I
 have v1:=v (xs:=es.take a) λe I=>QB I;have v2:=v (xs:=mid a es) λe I=>QB<|QC I;have v3:=v (xs:=es.drop<|a+2) λe I=>QC I;have d:(cm n F 0<|mid a es).1=(eo n<|(mid a es).map<|fr n F).1:=rfl;have c1:(cm n F 0<|mid a es).2=0+(eo n<|(mid a es).map<|fr n F).2:=rfl
 have g2:fr n F (2,false,false)=(eo n<|(mid a es).map<|fr n F).1:=by
  show F 2=_;rw[c,d]
 have R:=n8 hn v2;have one:eo n [(eo n<|(mid a es).map<|fr n F).1]=((eo n<|(mid a es).map<|fr n F).1,0):=oW (a:=(_,0)) R.fj
 have b:(lb a 2 es).map (fr n F)=(es.take a).map (fr n F)++[(eo n<|(mid a es).map<|fr n F).1]++(es.drop<|a+2).map (fr n F):=by
  unfold lb;rw[QE,QE,map_cons,g2];rfl
 have Z:es.map (fr n F)=(es.take a).map (fr n F)++(mid a es).map (fr n F)++(es.drop<|a+2).map (fr n F):=by
  rw[<-QE,<-QE,<-Om]
 have Y:=λf O=>(List.mem_append.mp O).elim (v1 f)<|v2 f
 have U:=λf O=>(List.mem_append.mp O).elim (v1 f) λh=>by rw[List.mem_singleton.mp h];exact R
 rw[show cm n F (0+(cm n F 0<|mid a es).2) (lb a 2 es)=((eo n<|(lb a 2 es).map<|fr n F).1,0+(cm n F 0<|mid a es).2+(eo n<|(lb a 2 es).map<|fr n F).2)from rfl,show cm n F 0 es=((eo n<|es.map<|fr n F).1,0+(eo n<|es.map<|fr n F).2)from rfl,c1,
  b,Z,iJ hn Y v3,iJ hn v1 v2,iJ hn U v3,iJ hn v1 (λf h=>by rw[List.mem_singleton.mp h];exact R),one]
 generalize eo n ((es.take a).map<|fr n F)=S1;generalize eo n ((mid a es).map<|fr n F)=S2;generalize eo n ((es.drop<|a+2).map<|fr n F)=S3;show(aL n (aL n S1.1 S2.1) S3.1,0+(0+S2.2)+(r0 n (aL n S1.1 S2.1) S3.1+(r0 n S1.1 S2.1+S1.2+0)+S3.2))=(aL n (aL n S1.1 S2.1) S3.1,0+(r0 n (aL n S1.1 S2.1) S3.1+(r0 n S1.1 S2.1+S1.2+S2.2)+S3.2));congr 1;omega
def ux{a:List Nat × Nat}(V:Val n a.1)(hn:n<=10):Pl 2 (fy a):=.tup _ _ (by simp) λx I=>by
 simp only[mem_cons,not_mem_nil,or_false]at I;rcases I with rfl | rfl
 ·exact Pl.L<|by rw[V.fj.len];omega
 ·exact .int _ _
def vb{a b:List Nat × Nat}(V:Val n a.1)(W:Val n b.1)(hn:n<=10):Pl 3 (.lst [fy a,fy b]):=.lst _ _ (by simp) λx I=>by
 simp only[mem_cons,not_mem_nil,or_false]at I;rcases I with rfl | rfl
 ·exact ux V hn
 ·exact ux W hn
def gx(hn:n<=10)(H:i2 n ks vs F es):Val n (cm n F k es).1:=n8 hn<|x8 H
def lW{F:RL.St->Option (Option D)}(h:(aZ tg d J).bind F=some (some e))(O:e.ax=true)(k:bX F tg J r=some ys):bX F tg J (d::r)=some (e::ys):=by
 rw[bX]
 cases hb:aZ tg d J with
 | none=>rw[hb]at h;cases h
 |some I=>
  rw[hb]at h;simp only[Option.bind_some]at h ⊢;rw[h,k];simp[kP,O]
def Ce{F:RL.St->Option (Option D)}(h:(aZ tg d J).bind F=some none)(k:bX F tg J r=some ys):bX F tg J (d::r)=some ys:=by
 rw[bX]
 cases hb:aZ tg d J with
 | none=>rw[hb]at h;cases h
 |some I=>
  rw[hb]at h;simp only[Option.bind_some]at h ⊢;rw[h,k];rfl
def KR:Dj (.str "st")=some [.str "s",.str "t"]:=by kernel_rfl
def both(i:Nat)(hi:∀ x,((J.set 13<|some x)[i]?).bind id=some (.b0 X P Q))(I:∀ x,((J.set 13<|some x)[13]?).bind id=some x)(R:cl 66 [.b0 X P Q,.str "s"]=some (fy a))(O:cl 66 [.b0 X P Q,.str "t"]=some (fy b)) :
  ev cl J (.cn (.met "comes" 66 i %[13#0|_]) [13]<|.chr<|.cst<|.str "st")=some (.lst [fy a,fy b]) :=
 gi (yS ah KR) ∅ (lW (by
  show(ev cl (J.set 13<|some<|.str "s") _).map some=_
  rw[dI (hi _) (ak (aa<|I _) aD) R];rfl) (il a) (lW (by
  show(ev cl (J.set 13<|some<|.str "t") _).map some=_
  rw[dI (hi _) (ak (aa<|I _) aD) O];rfl) (il b) rfl))
@[reducible]noncomputable def Ml:E:=.comp (.met "frame" 69 9 %[13#0|_]) [13] (.seq<|.met "frames" 70 9 .nil)<|.cmp .ne 13#0<|.cst<|.str "a"
def BF(hi:∀ x,((J.set 13<|some x)[9]?).bind id=some (.b0 X P Q))(O:∀ x,((J.set 13<|some x)[13]?).bind id=some x):(aZ [13] (.str "a") J).bind (λI=>((ev cl I<|.cmp .ne 13#0<|.cst<|.str "a").bind truth).bind λk=>if k then(ev cl I<|.met "frame" 69 9<|.cons 13#0 .nil).map some else some none)=some none:=by
 show((ev cl (J.set 13<|some<|.str "a") _).bind truth).bind _=_;rw[aO<|aF (k:=false) (aa<|O _) ah<|by kernel_rfl];rfl
def uX{x:PySem.Str}(ne:bW .ne (.str x) (.str "a")=some true)(hi:∀ x,((J.set 13<|some x)[9]?).bind id=some (.b0 X P Q))(O:∀ x,((J.set 13<|some x)[13]?).bind id=some x)(e:cl 69 [.b0 X P Q,.str x]=some v):(aZ [13] (.str x) J).bind (λI=>((ev cl I<|.cmp .ne 13#0<|.cst<|.str "a").bind truth).bind λk=>if k then(ev cl I<|.met "frame" 69 9<|.cons 13#0 .nil).map some else some none)=some (some v):=by
 show((ev cl (J.set 13<|some<|.str x) _).bind truth).bind _=_;rw[aO<|aF (aa<|O _) ah ne,Option.bind_some,if_pos rfl,dI (hi _) (ak (aa<|O _) aD) e];rfl
structure Rest(n:Nat)(kr:List Ky)(vr:List D)(B:List Nat)(fs kp:List D):Prop where
 vi:ae vr=true
 ki:ae kp=true
 kl:Pl 3 (.lst kp)
 len:(ka::kb::kr).length<=12
 pu:∀ v x,putD (ka::kb::kr) (v::fD B::vr) ka x=(ka::kb::kr,x::fD B::vr)
 fr:∀ A k p P Q,au T 29 70 [.b0 (Hx n kr vr A B k p) P Q]=some (.lst fs)
 kp:∀ A k p P Q J,(J[9]?).bind id=some (.b0 (Hx n kr vr A B k p) P Q)->(∀ x,((J.set 13<|some x)[9]?).bind id=some (.b0 (Hx n kr vr A B k p) P Q))->(∀ x,((J.set 13<|some x)[13]?).bind id=some x)->ev (au T 29) J Ml=some (.lst kp)
def Im(h:X.ax=true)(h':ae P=true):aG (.b0 X P [])=true:=by
 show(X.ax&&(ae P&&true))=true;rw[h,h'];rfl
@[reducible]noncomputable def R2:Ss:=A8 69 66 76 74 70 71 75 72 68 64 67 73 63 2 62
@[reducible]noncomputable def R3:Ss:=Bm 69 66 76 74 70 71 75 72 68 64 67 73 63 2 62
def An(V:Val n f)(hn:n<=10):Pl 1 (fD f):=Pl.L<|by rw[V.fj.len];omega
def r3(Z:1<=n)(hn:n<=10)(h:Val n A)(R:Rest n kr vr B fs kp)(f:i2 n (ka::kb::kr) (fD A::fD B::vr) F p.1)(e:i2 n (ka::kb::kr) (fD A::fD B::vr) F p.2)(U:p.1.length<=100)(g:p.2.length<=100)(i:P.length<=50) :
  ∃ I,aq (au T 29) [6,9,10] R3 (SG ns n q7 q8 A N o2 o3 (some<|.lst [fy<|cm n F k p.1,fy<|cm n F 0 p.2]) o5 (some<|.b0 (Hx n kr vr A B k p) P []) (.b0 Y (P++[Hx n kr vr A B k p]) []) th)=some (.rt<|.bl true,I):=by
 have c:∀ P Q,au T 29 66 [.b0 (Hx n kr vr A B k p) P Q,.str "s"]=some (fy<|cm n F k p.1):=λP Q=>eF 20 Z hn iE f U;have d:∀ P Q,au T 29 66 [.b0 (Hx n kr vr A B k p) P Q,.str "t"]=some (fy<|cm n F 0 p.2):=λP Q=>eF 20 Z hn lJ e g;have tn:=N7 28 (P:=P) (Q:=[]) (Ea 27 (done 26 "turn" [.str "s"] 43 (by kernel_rfl) rfl (k9 (n:=n) (ks:=ka::kb::kr) 24 (k:=k) iE U (bB A B R.vi) (bL k 0 p.1 p.2) ∅ v5<|bL _ _ _ _)<|cE (bc (bB A B R.vi)<|bL _ _ _ _) rfl) (bc (bB A B R.vi)<|bL _ _ _ _) rfl<|by unfold most;omega) rfl;have O:=vb (a:=cm n F k p.1) (b:=cm n F 0 p.2) (gx hn f) (gx hn e) hn
 exact⟨_,gz rfl (ak ah aD) rfl tn (gz rfl aD rfl (FC 28 ∅) (gz rfl aD rfl (FC 28 ∅)
  (aY (aO (aF (both 6 (λ_=>rfl) (λ_=>rfl) (c _ _)<|d _ _) ()<|j9 O ∅))
  (aH (gv (aF (both 9 (λ_=>rfl) (λ_=>rfl) (c _ _)<|d _ _) ()<|Fv O ∅)<|aF (dI rfl (ak ah aD)<|mframe 27 oF<|aW A) ()<|Fv (An h hn) ∅) rfl))))⟩
def r2(I:1<=n)(hn:n<=10)(s:Val n A)(r:Val n N)(R:Rest n kr vr B fs kp)(l:i2 n (ka::kb::kr) (fD A::fD B::vr) F p.1)(j:i2 n (ka::kb::kr) (fD A::fD B::vr) F p.2)(H:i2 n (ka::kb::kr) (fD N::fD B::vr) G p.1)(E:i2 n (ka::kb::kr) (fD N::fD B::vr) G p.2)
 (i:p.1.length<=100)(g:p.2.length<=100)(w:P.length<=50)(m:ae P=true)(u:i2 n [ka,kb] [fD N,fD B] U p'.1)(t:i2 n [ka,kb] [fD N,fD B] U p'.2)(h:p'.1.length<=100)(Z:p'.2.length<=100)(y:cm n G 0 p.2=cm n U 0 p'.2)
 (es:bW .eq (.lst fs) (.lst [.str "a",.str "b"])=some false\/(bW .eq (.lst fs) (.lst [.str "a",.str "b"])=some true/\cm n G k p.1=cm n U 0 p'.1)) :
  ∃ O,aq (au T 29) [6,9,10] R2 (SG ns n q7 q8 A N o2 o3 (some<|.lst [fy<|cm n F k p.1,fy<|cm n F 0 p.2]) none none (.b0 (Hx n kr vr A B k p) P [])<|.b0 (St n N B p') P' [])=some (.rt<|.bl true,O):=by
 have o:∀ A,(Hx n kr vr A B k p).ax=true:=λA=>Aw R.vi;have c:∀ P Q,au T 29 66 [.b0 (Hx n kr vr A B k p) P Q,.str "s"]=some (fy<|cm n F k p.1):=λP Q=>eF 20 I hn iE l i;have d:∀ P Q,au T 29 66 [.b0 (Hx n kr vr A B k p) P Q,.str "t"]=some (fy<|cm n F 0 p.2):=λP Q=>eF 20 I hn lJ j g;have c':∀ P Q,au T 29 66 [.b0 (Hx n kr vr N B k p) P Q,.str "s"]=some (fy<|cm n G k p.1):=λP Q=>eF 20 I hn iE H i;have d':∀ P Q,au T 29 66 [.b0 (Hx n kr vr N B k p) P Q,.str "t"]=some (fy<|cm n G 0 p.2):=λP Q=>eF 20 I hn lJ E g;have C:∀ P Q,au T 29 66 [.b0 (St n N B p') P Q,.str "s"]=some (fy<|cm n U 0 p'.1):=λP Q=>eF 20 I hn iE u h;have z:∀ P Q,au T 29 66 [.b0 (St n N B p') P Q,.str "t"]=some (fy<|cm n U 0 p'.2):=λP Q=>eF 20 I hn lJ t Z;have v:=vb (a:=cm n F k p.1) (b:=cm n F 0 p.2) (gx hn l) (gx hn j) hn;have tw:=MG (n:=n) (ks:=ka::kb::kr) (vs:=fD A::fD B::vr) (ss:=[hK,kt]) (ps:=[fg k p.1,fg 0 p.2]) 24 (P:=P) (Q:=[]) I hn (bB A B R.vi) (bL _ _ _ _) m rfl;have rt:=Ij 28 (P:=P) (Q:=[]) (x := "a") (f:=N) (Ea 27 (done 26 "retie" [.str "a",.tup<|L N] 35 (by kernel_rfl) (by simp[ae,D.ax,bh]) (xv (n:=n) (ks:=ka::kb::kr) (vs:=fD A::fD B::vr) (ss:=[hK,kt]) 19 I hn r oF (aW A) R.len (bB A B R.vi) (bL _ _ _ _) (R.pu (fD A)<|fD N)<|bB N B R.vi)<|cE (o N) rfl) (o N) rfl<|by unfold most;omega) rfl;let#[O,q]:=r3 (ns:=ns) (q7:=q7) (q8:=q8) (N:=N) (o2:=o2) (o3:=o3) (o5:=some<|.lst kp) (k:=k) (Y:=Hx n kr vr N B k p) I hn s R l j i g w
 refine⟨O,aJ (R.kp A k p P [] _ rfl (λ_=>rfl) λ_=>rfl) (by simp[aX,aG,R.ki]) (fR (dI rfl aD tw) (by rw[Im (bc (bB A B R.vi)<|bL _ _ _ _) m];rfl) (gz rfl (ak ah<|ak () aD) (by simp[bF,isVar,aX,D.ax,ae,bh,fD]) rt
  (aY (aO (lD (aF (both 6 (λ_=>rfl) (λ_=>rfl) (c _ _)<|d _ _) ()<|j9 v ∅)<|aF (dI rfl (ak ah aD)<|mframe 27 oF<|aW A) ()<|j9 (An s hn) ∅))
  (aY (aO (lD (aF (R.kp N k p _ [] _ rfl (λ_=>rfl) λ_=>rfl) ()<|j9 R.kl ∅)<|aF (dI rfl (ak ah aD)<|mframe 27 oF<|aW N) ()<|j9 (An r hn) ∅))
  (aY (aO<|aF (dI rfl (ak ah aD)<|d' _ _) (dI rfl (ak ah aD)<|z _ _)<|by rw[y];exact j9 (ux (gx hn t) hn) ∅) ?_)))))⟩
 rcases es with es | ⟨es,e⟩
 ·exact aY (aO<|ku<|aF (dI rfl aD<|R.fr N k p _ []) (eC<|ak ah<|ak ah aD) es) q
 ·exact aY (aO<|gv (aF (k:=true) (dI rfl aD<|R.fr N k p _ []) (eC<|ak ah<|ak ah aD) es)<|aF (dI rfl (ak ah aD)<|c' _ _) (dI rfl (ak ah aD)<|C _ _)<|by rw[e];exact j9 (ux (gx hn u) hn) ∅) q
@[reducible]noncomputable def R1:Ss:=Bb 69 66 76 74 70 71 75 72 68 64 67 73 63 2 62
def Nu(hn:n<=10)(U:Val n B):Rest n [] [] B [.str "a",.str "b"] [fD B] where
 vi:=rfl
 ki:=by
  show((fD B).ax&&true)=true;rw[show(fD B).ax=true from aW B];rfl
 kl:=.lst _ _ (by simp) λx O=>by
  rw[List.mem_singleton.mp O];exact Pl.L<|by rw[U.fj.len];omega
 len:=by decide
 pu:=λv x=>M9
 fr:=λA k p P Q=>mP 28 (xs:=["a", "b"]) rfl<|by kernel_rfl
 kp:=λA k p P Q J R hi I=>vv (fv (dI R aD<|mP 28 (xs:=["a", "b"]) rfl<|by kernel_rfl) rfl) ∅<|Ce (BF hi I)<|lW (uX (by kernel_rfl) hi I<|mframe 27 wK<|aW B) (aW B) rfl
def MD(hn:n<=10)(Y:Val n B)(U:Val n C):Rest n [kc] [fD C] B [.str "a",.str "b",.str "c"] [fD B,fD C] where
 vi:=by
  show((fD C).ax&&true)=true;rw[show(fD C).ax=true from aW C];rfl
 ki:=by
  show((fD B).ax&&((fD C).ax&&true))=true;rw[show(fD B).ax=true from aW B,show(fD C).ax=true from aW C];rfl
 kl:=.lst _ _ (by simp) λx O=>by
  simp only[mem_cons,not_mem_nil,or_false]at O;rcases O with rfl | rfl
  ·exact Pl.L<|by rw[Y.fj.len];omega
  ·exact Pl.L<|by rw[U.fj.len];omega
 len:=by decide
 pu:=λv x=>MS
 fr:=λA k p P Q=>mP 28 (xs:=["a", "b", "c"]) rfl<|by kernel_rfl
 kp:=λA k p P Q J R hi I=>vv (fv (dI R aD<|mP 28 (xs:=["a", "b", "c"]) rfl<|by kernel_rfl) rfl) ∅<|Ce (BF hi I)<|lW (uX (by kernel_rfl) hi I<|mframe 27 wK<|aW B) (aW B)<|lW (uX (by kernel_rfl) hi I<|mframe 27 Jx<|aW C) (aW C) rfl
def xF{es:List En}(h:∀ e∈es,e.1<2):∀ e∈lb a 2 es,e.1<3:=λe I=>by
 unfold lb at I;simp only[List.mem_append,mem_cons,not_mem_nil,or_false]at I;rcases I with(I | rfl) | I
 ·have:=h e<|QB I;omega
 ·decide
 ·have:=h e<|QC I;omega
def GK{q l:Nat}(h:1<l):aT .mod (.int (q:Nat)) (.int<|(l:Int)-1)=some (.int ((q%(l-1):Nat):Int)):=by
 rw[Ez,if_pos (by omega),show((l:Nat):Int)-1=((l-1:Nat):Int) by omega];rfl
def r1(R:1<=n)(hn:n<=10)(Y:Val n A)(f:Val n N)(O:Val n B)(X:p.1.length<=14)(V:p.2.length<=14)(U:∀ e∈p.1,e.1<2)(Z:∀ e∈p.2,e.1<2)(hP:P.length<=20)(v:ae P=true) :
  ∃ I,aq (au T 29) [6,9,10] R1 (SG ns n q7 q8 A N o2 none none none none (.b0 (St n A B p) P [])<|.b0 (St n N B p) P' [])=some (.rt<|.bl true,I):=by
 have l:i2 n [ka,kb] [fD A,fD B] (FF A B []) p.1:=oI Y O U;have u:i2 n [ka,kb] [fD A,fD B] (FF A B []) p.2:=oI Y O Z;have t:i2 n [ka,kb] [fD N,fD B] (FF N B []) p.1:=oI f O U;have s:i2 n [ka,kb] [fD N,fD B] (FF N B []) p.2:=oI f O Z;have c:∀ P Q,au T 29 66 [.b0 (St n A B p) P Q,.str "s"]=some (fy<|cm n (FF A B []) 0 p.1):=λP Q=>eF 20 R hn iE l (by omega);have d:∀ P Q,au T 29 66 [.b0 (St n A B p) P Q,.str "t"]=some (fy<|cm n (FF A B []) 0 p.2):=λP Q=>eF 20 R hn lJ u<|by omega
 have pre:∀ {g},aq (au T 29) [6,9,10] (.cons (.c7 (.and (.cmp .eq 7#0 1#1)<|.cmp .gt 3#0 1#1) %[.oD "splice" 72 9 %[.cst<|.str "s",.bin .mod 8#0<|.bin .sub 3#0 1#1,.cst (.str "c")|_],.c7 (.cmp .ne (.cn (.met "comes" 66 9 %[13#0|_]) [13]<|.chr<|.cst<|.str "st") 4#0) %[.ret (.cst<|.bl false)|_] .nil|_] .nil) R2)
   (SG ns n q7 q8 A N o2 (some<|.int (p.1.length:Nat)) (some<|.lst [fy<|cm n (FF A B []) 0 p.1,fy<|cm n (FF A B []) 0 p.2]) none none (.b0 (St n A B p) P [])<|.b0 (St n N B p) P' [])=g ->
   aq (au T 29) [6,9,10] R1 (SG ns n q7 q8 A N o2 none none none none (.b0 (St n A B p) P [])<|.b0 (St n N B p) P' [])=g:=λh =>
  aJ (d:=.int (p.1.length:Nat)) (bP (dI rfl (ak ah aD)<|CI 27 iE)<|by rw[zZ,length_map]) rfl
  (aJ (both 9 (λ_=>rfl) (λ_=>rfl) (c _ _)<|d _ _) (by simp[aX,aG,ae,il]) h)
 by_cases r:q7=1/\1<p.1.length
 ·let#[rfl,r]:=r
  have ha:q8%(p.1.length-1)+2<=p.1.length:=by
   have:=Nat.mod_lt q8 (show p.1.length-1 > 0 by omega);omega
  generalize hq:q8%(p.1.length-1)=a at ha;have o:Val n (cm n (FF A B []) 0<|mid a p.1).1:=gx hn (yb l λe j=>QB<|QC j);generalize hc:cm n (FF A B []) 0 (mid a p.1)=C at o
  have hm:cm n (FF A B C.1) 0 (mid a p.1)=C:=by
   rw[<-hc];exact kD (ui λe j=>U e<|QB<|QC j)
  have sp:=Gq 28 (P:=P) (Q:=[]) (x := "s") (y := "c") (a:=(a:Nat)) (Ea 27 (done 26 "splice" [.str "s",.int (a:Nat),.str "c"] 45 (by kernel_rfl) rfl (se (n:=n) (ks:=[ka,kb]) (vs:=[fD A,fD B]) (ss:=[hK,kt]) (ps:=[fg 0 p.1,fg 0 p.2]) (i:=2) 17 R hn iE l ha (by omega) NQ OG (bB A B rfl) (bL _ _ _ _) ∅ ∅ OI (by
    show((fD A).ax&&((fD B).ax&&((D.tup<|L _).ax&&true)))=true
    rw[show(fD A).ax=true from aW A,show(fD B).ax=true from aW B,aW];rfl) v5 (bL _ _ _ _)) (cE (bc (by
    show((fD A).ax&&((fD B).ax&&((D.tup<|L _).ax&&true)))=true
    rw[show(fD A).ax=true from aW A,show(fD B).ax=true from aW B,aW];rfl) (bL _ _ _ _)) rfl)) (bc (by
    show((fD A).ax&&((fD B).ax&&((D.tup<|L _).ax&&true)))=true
    rw[show(fD A).ax=true from aW A,show(fD B).ax=true from aW B,aW];rfl) (bL _ _ _ _)) rfl (by unfold most;omega)) rfl
  rw[hc]at sp;have F:i2 n [ka,kb,kc] [fD A,fD B,fD C.1] (FF A B C.1) (lb a 2 p.1):=KI Y O o<|xF U;have E:i2 n [ka,kb,kc] [fD A,fD B,fD C.1] (FF A B C.1) p.2:=oI Y O Z;have S:i2 n [ka,kb,kc] [fD N,fD B,fD C.1] (FF N B C.1) (lb a 2 p.1):=KI f O o<|xF U;have M:i2 n [ka,kb,kc] [fD N,fD B,fD C.1] (FF N B C.1) p.2:=oI f O Z;have G:∀ e∈p.1,Val n<|FF A B C.1 e.1:=λe j=>(oI (kr:=[]) (vr:=[]) Y O U e j).2
  have es:cm n (FF A B C.1) (0+C.2) (lb a 2 p.1)=cm n (FF A B []) 0 p.1:=by
   have z:=JI hn (a:=a) G (by rw[hm];rfl);rw[hm]at z;rw[z];exact kD<|ui U
  have w:cm n (FF A B C.1) 0 p.2=cm n (FF A B []) 0 p.2:=kD<|ui Z
  have sl:(lb a 2 p.1).length<=14:=by unfold lb;simp;omega
  have K:∀ P Q,au T 29 66 [.b0 (Hx n [kc] [fD C.1] A B (0+C.2) (lb a 2 p.1,p.2)) P Q,.str "s"]=some (fy<|cm n (FF A B []) 0 p.1):=λP Q=>es▸eF 20 R hn iE F (by omega);have QN:∀ P Q,au T 29 66 [.b0 (Hx n [kc] [fD C.1] A B (0+C.2) (lb a 2 p.1,p.2)) P Q,.str "t"]=some (fy<|cm n (FF A B []) 0 p.2):=λP Q=>w▸eF 20 R hn lJ E (by omega);have H:=vb (a:=cm n (FF A B []) 0 p.1) (b:=cm n (FF A B []) 0 p.2) (gx hn l) (gx hn u) hn;let#[I,m]:=r2 (ns:=ns) (q7:=1) (q8:=q8) (o2:=o2) (o3:=some<|.int (p.1.length:Nat)) (k:=0+C.2) (p:=(lb a 2 p.1,p.2)) (P:=P++[St n A B p]) (P':=P') R hn Y f (MD hn O o) F E S M (show(lb a 2 p.1).length<=100 by omega) (show p.2.length<=100 by omega) (by simp;omega) (iZ v pD) t s (by omega) (by omega) (kD<|ui Z) (.inl<|by kernel_rfl);rw[show cm n (FF A B C.1) (0+C.2) (lb a 2 p.1,p.2).1=cm n (FF A B []) 0 p.1 from es,show cm n (FF A B C.1) 0 (lb a 2 p.1,p.2).2=cm n (FF A B []) 0 p.2 from w]at m
  exact⟨I,pre (eG (aO<|gv (aF (k:=true) () ah rfl)<|aF (k:=true) () ah<|by rw[kF,decide_eq_true<|by omega]) (gz rfl (ak ah<|ak (aC () (aC () ah DS)<|by rw[GK r,hq])<|ak ah aD) (by simp[bF,isVar,aX,D.ax,ae]) sp
   (aY (aO (aF (both 9 (λ_=>rfl) (λ_=>rfl) (K _ _)<|QN _ _) ()<|j9 H ∅)) aK)) m)⟩
 ·let#[I,m]:=r2 (ns:=ns) (q7:=q7) (q8:=q8) (o2:=o2) (o3:=some<|.int (p.1.length:Nat)) (k:=0) (p:=p) (P:=P) (P':=P') R hn Y f (Nu hn O) l u t s (by omega) (by omega) (by omega) v t s (by omega) (by omega) rfl (.inr #[by kernel_rfl,rfl]);refine#[I,pre<|aY (aO (k:=false) ?_) m];by_cases q:q7=1
  ·subst q;exact gv (aF (k:=true) () ah rfl)<|aF (k:=false) () ah<|by rw[kF,Qh<|by omega]
  ·exact ku<|aF (k:=false) () ah<|by rw[js,beq_eq_false_iff_ne.mpr<|by omega]
def MP{ds:List Nat}{a b c:Nat}(h:lV ds [a,b,c]):∃ x y z,ds=[x,y,z]/\x<a/\y<b/\z<c:=by
 let#[O,I]:=h
 match ds,O with
 | [x,y,z],_=>exact#[x,y,z,rfl,I 0 x a rfl rfl,I 1 y b rfl rfl,I 2 z c rfl rfl]
def main(ns:List Int)(hl:ns.length<=63):au T 30 65 [.lq<|ns.map D.int]=some (.bl true):=by
 let#[es,Dg,r]:=dg.digits hl 26 (k:=62) (hF:=[10,2,12]) ∅ ∅ ∅;let#[p,q7,q8,rfl,x,_,_]:=MP Dg
 have n1:1<=1+p:=by omega
 have n2:1+p<=10:=by omega
 have v:aT .add (.int 1) (.int (p:Nat))=some (.int ((1+p:Nat):Int)):=by rw[bQ,natCast_add];rfl
 generalize 1+p=n at *;let#[A,g,t]:=oK 22 hl (k:=2) ∅ n1 n2;let#[N,d,s]:=oK 22 hl (k:=3) ∅ n1 n2;let#[B,ds,e,ok,Y,U]:=Bp hl n1 n2;have mk:=ck.ql (cp:=2) rfl 26 n1 n2
 have R:=λf=>by
  show((fD f).ax&&true)=true;rw[show(fD f).ax=true from aW f];rfl
 have a:∀ f,Val n f->au T 29 73 [.b0 (Hd n [] [] [] []) [] [],.str "a",.tup<|L f]=some (.tup [.cb,.b0 (Hd n [ka] [fD f] [] []) ([]++[Hd n [] [] [] []]) []]):=λf V =>
  OK 28 (Ea 27 (done 26 "tie" [.str "a",.tup<|L f] 34 (by kernel_rfl) (by simp[ae,D.ax,bh]) (tD 19 n1 n2 V NW rfl ∅ rfl rfl rfl<|R f)<|cE (bc (R f) rfl) rfl) (bc (R f) rfl) rfl ∅) rfl
 have tb:∀ f P Q,P.length<=20->au T 29 67 [.b0 (Hd n [ka] [fD f] [] []) P Q,cV B]=some (.tup [.cb,.b0 (Hd n [ka,kb] [fD f,fD B] [] []) (P++[Hd n [ka] [fD f] [] []]) []]):=λf P Q c =>
  Ea 28 (done 27 "tie" [.str "b",.tup<|L B] 34 (by kernel_rfl) (by simp[ae,D.ax,bh]) (tD 20 n1 n2 e O2 (by kernel_rfl) ∅ (R f) rfl (show putD [ka] [fD f] kb (fD B)=([ka,kb],[fD f,fD B]) by kernel_rfl)<|bB f B rfl)<|cE (bc (bB f B rfl) rfl) rfl) (bc (bB f B rfl) rfl) rfl (by unfold most;omega)
 have b:∀ f P Q,P.length<=20->au T 29 67 [.b0 (Hd n [ka,kb] [fD f,fD B] [] []) P Q,e8 0]=some (.tup [.cb,.b0 (Hd n [ka,kb] [fD f,fD B] [hK] [fg 0 []]) (P++[Hd n [ka,kb] [fD f,fD B] [] []]) []]):=λf P Q c =>
  Ea 28 (done 27 "stack" [.str "s"] 37 (by kernel_rfl) rfl (oa 23 OC rfl ∅ (bB f B rfl) rfl rfl rfl)<|cE (bc (bB f B rfl) rfl) rfl) (bc (bB f B rfl) rfl) rfl (by unfold most;omega)
 have st:∀ f P Q,P.length<=20->au T 29 67 [.b0 (Hd n [ka,kb] [fD f,fD B] [hK] [fg 0 []]) P Q,e8 1]=some (.tup [.cb,.b0 (St n f B ([],[])) (P++[Hd n [ka,kb] [fD f,fD B] [hK] [fg 0 []]]) []]):=λf P Q c =>
  Ea 28 (done 27 "stack" [.str "t"] 37 (by kernel_rfl) rfl (oa 23 Of (by kernel_rfl) ∅ (bB f B rfl) rfl (show putD [hK] [fg 0 []] kt (fg 0 [])=([hK,kt],[fg 0 [],fg 0 []]) by kernel_rfl) rfl)<|cE (bc (bB f B rfl) rfl) rfl) (bc (bB f B rfl) rfl) rfl (by unfold most;omega)
 let#[w,Z,p1,o,q,I,j,m]:=loop (ns:=ns) (n:=n) (q7:=q7) (q8:=q8) (A:=A) (N:=N) (B:=B) ds [] ([]++[Hd n [] [] [] []]++[Hd n [ka] [fD A] [] []]++[Hd n [ka,kb] [fD A,fD B] [] []]++[Hd n [ka,kb] [fD A,fD B] [hK] [fg 0 []]]) ([]++[Hd n [] [] [] []]++[Hd n [ka] [fD N] [] []]++[Hd n [ka,kb] [fD N,fD B] [] []]++[Hd n [ka,kb] [fD N,fD B] [hK] [fg 0 []]]) ([],[]) (some<|e8 1) [] [] ok ⟨⟨rfl,rfl⟩,λ_ h=>absurd h (by simp),λ_ h=>absurd h<|by simp⟩ (by simp[Y]) (by simp[Y]) (by simp[Y]) (iZ (iZ (iZ (iZ rfl rfl)<|bc (R A) rfl)<|bc (bB A B rfl) rfl)<|bc (bB A B rfl) rfl) rfl rfl;rw[nil_append]at I;have y:=List.countP_le_length (p:=lA 0) (l:=ds);have c1:=List.countP_le_length (p:=lA 1) (l:=ds);let#[i,u]:=r1 (ns:=ns) (q7:=q7) (q8:=q8) (o2:=o) (p:=p1) (P:=w) (P':=Z) n1 n2 g d e (by rw[I.1.1];omega) (by rw[I.1.2];omega) I.2.1 I.2.2 j m
 have O:(cV B).ax=true:=by simp[cV,D.ax,ae,bh]
 exact(aA rfl).trans (aE rfl rfl (aJ (uj () ah<|M6 hl) (by simp[aX,D.ax,aG,Cm])
  (bY (dJ () ah (eC<|ak ah<|ak ah<|ak ah aD) r) rfl rfl rfl
  (aJ (aC ah () v) rfl
  (Gv (zo () mk) (zo () mk) rfl
  (Iw (dJ () ah () t) (dJ () ah () s) (by rw[aW,aW];rfl)
  (gz rfl (ak ah<|ak () aD) (by simp[bF,isVar,aX,D.ax,ae,bh]) (a A g)
  (gz rfl (ak ah<|ak () aD) (by simp[bF,isVar,aX,D.ax,ae,bh]) (a N d)
  (dD (fv (bH () () U) rfl) (pH O (nB O (tb A _ _<|by simp)<|tb N _ _<|by simp)<|pH rfl (nB rfl (b A _ _<|by simp)<|b N _ _<|by simp)<|pH rfl (nB rfl (st A _ _<|by simp)<|st N _ _<|by simp) q) u)))))))))
end gV
namespace TM
open PySem PySem.W PyProof.Rows
end TM
namespace L2
open PySem PySem.Spec PyProof.Rows
@[reducible]noncomputable def Key:=Sum Int Str
abbrev mZ:Key->Value->Bool
 | .inl k,v=>Value.isInt k v
 | .inr x,v=>Value.isStrOf x v
abbrev OD(w:World):Key->Int
 | .inl k=>hashInt k
 | .inr x=>hashStr w x
def c9:∀ {k:Key} {v:Value},mZ k v=true->(∃ i t,k=Sum.inl i/\v=Value.int i t)\/(∃ x t,k=Sum.inr x/\v=Value.str x t)
 | .inl i,v,h=>by
  let#[t,e]:=Value.isInt_shape h;exact .inl #[i,t,rfl,e]
 | .inr x,v,h=>by
  let#[t,e]:=Value.isStrOf_shape h;exact .inr #[x,t,rfl,e]
def BR(i:Int)(t:Tok):mZ (.inl i) (.int i t)=true:=by simp[mZ,Value.isInt]
def Cs(x:Str)(t:Tok):mZ (.inr x) (.str x t)=true:=by simp[mZ,Value.isStrOf]
def Jz(a b:Int):decide ((Sum.inl a:Key)=Sum.inl b)=(a == b):=by
 by_cases e:a=b
 ·subst e;simp
 ·have h:¬ (Sum.inl a:Key)=Sum.inl b:=λq=>e<|Sum.inl.inj q;rw[Qh h];exact(beq_eq_false_iff_ne.mpr e).symm
def Cw(a b:Str):decide ((Sum.inr a:Key)=Sum.inr b)=decide (a=b):=by
 by_cases e:a=b
 ·subst e;simp
 ·have h:¬ (Sum.inr a:Key)=Sum.inr b:=λq=>e<|Sum.inr.inj q;rw[Qh h,Qh e]
def IL(a:Int)(b:Str):decide ((Sum.inl a:Key)=Sum.inr b)=false:=Qh (λq=>nomatch q)
def Io(a:Str)(b:Int):decide ((Sum.inr a:Key)=Sum.inl b)=false:=Qh (λq=>nomatch q)
abbrev bo(prog:Program)(w:World):PySem.KeyKind prog w Key where
 is:=mZ
 hash:=OD w
 inj:=λv a b ha hb=>by
  rcases c9 ha with⟨i,t,rfl,rfl⟩ | ⟨x,t,rfl,rfl⟩
  ·rcases c9 hb with⟨j,u,rfl,e⟩ | ⟨y,u,rfl,e⟩
   ·injection e with I _;rw[I]
   ·exact nomatch e
  ·rcases c9 hb with⟨j,u,rfl,e⟩ | ⟨y,u,rfl,e⟩
   ·exact nomatch e
   ·injection e with I _;rw[I]
 byValue:=λk v h=>by
  rcases c9 h with⟨i,t,rfl,rfl⟩ | ⟨x,t,rfl,rfl⟩<;>rfl
 pyHash:=λO h=>by
  rcases c9 O with⟨i,t,rfl,rfl⟩ | ⟨x,t,rfl,rfl⟩
  ·exact wpAny_pyHash_int h
  ·exact wpAny_pyHash_str h
 eqBool:=λhu O h=>by
  rcases c9 hu with⟨i,t,rfl,rfl⟩ | ⟨x,t,rfl,rfl⟩
  ·rcases c9 O with⟨j,u,rfl,rfl⟩ | ⟨y,u,rfl,rfl⟩
   ·rw[Jz]at h;exact wpAny_eqBool_int h
   ·rw[IL]at h;exact SeqAt.EqAt.int_str i t y u _ _ _ _ h
  ·rcases c9 O with⟨j,u,rfl,rfl⟩ | ⟨y,u,rfl,rfl⟩
   ·rw[Io]at h;exact SeqAt.EqAt.str_int x t j u _ _ _ _ h
   ·rw[Cw]at h;exact wpAny_eqBool_str h
 «strs»:=λk x t v h=>by
  rcases c9 h with⟨i,u,rfl,e⟩ | ⟨y,u,rfl,e⟩
  ·exact nomatch e
  ·injection e with I _;subst I;cases v<;>rfl
def wY(prog:Program)(w:World)(i:Int)(t:Tok):(bo prog w).is (.inl i) (.int i t)=true:=BR i t
def oj(prog:Program)(w:World)(x:Str)(t:Tok):(bo prog w).is (.inr x) (.str x t)=true:=Cs x t
set_option genInjectivity true in
inductive V where
 | cb | bl (b:Bool) | int (i:Int) | str (x:Str) | o8 (b:Array UInt8) | x5 (b:UInt64) | ref (a:Addr) | ty (n:String)
 deriving DecidableEq
abbrev RelV:V->Value->Prop
 | .cb,u=>u=Value.none
 | .bl b,u=>u=Value.bool b
 | .int i,u=>∃ t,u=Value.int i t
 | .str x,u=>∃ t,u=Value.str x t
 | .o8 b,u=>∃ t,u=Value.bytes b t
 | .x5 b,u=>∃ t,u=Value.float b t
 | .ref a,u=>u=Value.ref a
 | .ty n,u=>u=Value.type n
@[reducible]noncomputable def Vals:List V->List Value->Prop:=Paired RelV
def Vals.length(r:Vals xs us):xs.length=us.length:=Paired.length r
def Vals.get:∀ {xs:List V} {us:List Value} {i:Nat} {x:V},Vals xs us->xs[i]?=some x->∃ u,us[i]?=some u/\RelV x u
 | _,_,_,_,.nil,e=>by simp at e
 | _,_,0,_,.cons r _,e=>by simp at e;subst e;exact#[_,rfl,r]
 | _,_,i+1,x,.cons _ t,e=>by
  let#[u,O,I]:=Vals.get t (by simpa using e);exact#[u,by simpa using O,I]
def Vals.set(r:RelV x u):∀ {xs:List V} {us:List Value} (i:Nat),Vals xs us->Vals (xs.set i x) (us.set i u)
 | _,_,_,.nil=>.nil
 | _,_,0,.cons _ t=>.cons r t
 | _,_,i+1,.cons q t=>.cons q<|Vals.set r i t
def Vals.append:∀ {xs ys:List V} {us I:List Value},Vals xs us->Vals ys I->Vals (xs++ys) (us++I)
 | _,_,_,_,.nil,s=>s
 | _,_,_,_,.cons r t,s=>.cons r<|Vals.append t s
def Vals.take:∀ {xs:List V} {us:List Value} (n:Nat),Vals xs us->Vals (xs.take n) (us.take n)
 | _,_,0,_=>.nil
 | _,_,_+1,.nil=>.nil
 | _,_,n+1,.cons r t=>.cons r<|Vals.take n t
def Vals.drop:∀ {xs:List V} {us:List Value} (n:Nat),Vals xs us->Vals (xs.drop n) (us.drop n)
 | _,_,0,r=>r
 | _,_,_+1,.nil=>.nil
 | _,_,n+1,.cons _ t=>Vals.drop n t
abbrev f9:Option V->Option Value->Prop
 | some v,some u=>RelV v u
 | none,none=>True
 | _,_=>False
abbrev KV:List (κ × V)->List (κ × Value)->Prop:=Paired λ(p:κ × V) (q:κ × Value)=>p.1=q.1/\RelV p.2 q.2
abbrev kV:Key->V
 | .inl i=>.int i
 | .inr x=>.str x
inductive HO where
  | lst (xs:List V)
  | tup (xs:List V)
  | dK (bx:List (Key × V)) | dT (bx:List (List Key × V))
  | set (S:Int->Bool) (n:Nat)
  | ins (C dx:Addr) (fs:List (Str × V))
  | own (x:Addr)
  | xd (fs:List (Str × V))
  | met (f x:Addr)
  | rng (lo hi:Int)
  | cy (o:Obj) (u:HO)
  | eH (ps:Array Value)
  | b0 (C dx ap af:Addr) (v:V) (ps qs:List V)
  | ext (φ:Heap->Prop)
@[reducible]noncomputable def Hp:=Addr->Option HO
abbrev d7(ap af:Addr)(v:V):List (Str × V):=[("now",v),("past",.ref ap),("future",.ref af)]
abbrev LstAt(h:Heap)(a:Addr)(xs:List V):Prop:=xs.length<=sizeLine/\∃ (bq:List Value) (n:Nat),Vals xs bq/\h.get? a=some { cls:=.type "list",data:=.seq bq.toArray n }
abbrev upd(H:Hp)(a:Addr)(o:HO):Hp:=λb=>if b=a then some o else H b
def ao:upd H a o a=some o:=by unfold upd;rw[if_pos rfl]
def aj(h:b≠a):upd H a o b=H b:=by unfold upd;rw[if_neg h]
def mQ:upd (upd H a o) a u=upd H a u:=by
 funext b;unfold upd;split<;>rfl
def dE{H:Hp}(h:H a=some o)(h':H b=some u)(d:o≠u):a≠b:=by
 intro e;subst e;rw[h]at h';exact d<|Option.some.inj h'
def aM{H:Hp}(h:H a=some o)(h':H b=none):a≠b:=by
 intro e;subst e;rw[h]at h';cases h'
section
variable(P:Program)(w:World)
abbrev bN(H:Hp)(h:Heap)(a:Addr):HO->Prop
 | .lst xs=>xs.length<=sizeLine/\∃ (bq:List Value) (n:Nat),Vals xs bq/\h.get? a=some { cls:=.type "list",data:=.seq bq.toArray n }
 | .tup xs=>xs.length<=sizeLine/\∃ bq:List Value,Vals xs bq/\IsTup h a bq.toArray
 | .dK bx=>bx.length<=sizeLine/\(a == sysModules)=false/\∃ vs,KV bx vs/\h.DictOf (bo P w) a vs
 | .dT bx=>bx.length<=sizeLine/\(a == sysModules)=false/\∃ xs:List (List Key × Addr × Value),
   Paired (λ(p:List Key × V) (q:List Key × Addr × Value)=>p.1=q.1/\H q.2.1=some (.tup<|p.1.map kV)/\RelV p.2 q.2.2) bx xs /\
   ∃ o es ep,h.get? a=some o/\o.ExactDict/\o.data=.dict es ep/\es.toList=xs.map (entryOfKey<|tupleKind<|bo P w)/\(xs.map (·.1)).Nodup
 | .set S n=>h.SetOf (intKind P w) a S n
 | .ins C dx fs=>H dx=some (.own a)/\fs.length<=1000/\dx≠a/\h.get? a=some (W.instObj C dx) /\
   ∃ mA,h.Ns1 dx mA/\(∀ f,f9 (fs.lookup f)<|mA f)/\PySem.Within mA (fs.map (·.1))
 | .own _=>∃ o,h.get? a=some o
 | .xd fs=>∃ mA,h.Ns1 a mA/\∀ f,f9 (fs.lookup f)<|mA f
 | .rng lo hi=>∃ t u v,h.get? a=some { cls:=.type "range",data:=.fields (List.toArray [.int lo t,.int hi u,.int 1 v]) }
 | .cy o u=>h.get? a=some o/\bN H h a u
 | .eH ps=>h.get? a=some { cls:=.none,data:=.fields ps }
 | .b0 C dx ap af v ps qs=>H dx=some (.own a)/\H ap=some (.own a)/\H af=some (.own a)/\(dx≠a/\ap≠af)/\h.get? a=some (W.instObj C dx) /\
   (∃ mA,h.Ns1 dx mA/\(∀ f,f9 ((d7 ap af v).lookup f)<|mA f)/\PySem.Within mA ((d7 ap af v).map (·.1)))/\LstAt h ap ps/\LstAt h af qs
 | .met f x=>h.get? a=some (W.methodObj (.ref f)<|.ref x)
 | .ext φ=>φ h/\(∃ o,h.get? a=some o)/\∀ O I:Heap,φ O->(∀ o,O.get? a=some o->I.get? a=some o)->φ I
abbrev hj(H:Hp)(h:Heap):Prop:=∀ a o,H a=some o->bN P w H h a o
end
section
variable{P:Program}{w:World}{H H':Hp}{h h':Heap}{a:Addr}{o:HO}
def bN.lt(x:bN P w H h a o):a<h.objs.size:=by
 cases o with
 | lst xs=>let#[_,_,_,_,e]:=x;exact Qg e
 | tup xs=>let#[_,_,_,p]:=x;exact p.lt
 | dK bx=>let#[_,_,_,_,o,_,_,e,_]:=x;exact Qg e
 | dT bx=>let#[_,_,_,_,o,_,_,e,_]:=x;exact Qg e
 | set S n=>let#[o,_,_,_,e,_]:=x;exact Qg e
 | ins C dx fs=>let#[_,_,_,e,_]:=x;exact Qg e
 | own y=>let#[_,e]:=x;exact Qg e
 | xd fs=>let#[_,#[_,_,_,e,_],_]:=x;exact Qg e
 | rng lo hi=>let#[_,_,_,e]:=x;exact Qg e
 | cy I u=>let#[e,_]:=x;exact Qg e
 | eH ps=>exact Qg (show h.get? a=some _ from x)
 | b0 C dx ap af v ps qs=>let#[_,_,_,_,e,_]:=x;exact Qg e
 | met f y=>exact Qg (show h.get? a=some _ from x)
 | ext φ=>let#[_,#[_,e],_]:=x;exact Qg e
def Paired.CJ:∀ {O:List α} {I:List β},Paired F O I->(∀ a b,F a b->G a b)->Paired G O I
 | _,_,.nil,_=>.nil
 | _,_,.cons r t,f=>.cons (f _ _ r)<|Paired.CJ t f
def bN.kO(x:bN P w H h a o)(k:∀ b u,(b=a\/H b=some (.own a))->h.get? b=some u->h'.get? b=some u)
 (O:∀ b,H b=some (.own a)->H' b=some (.own a))(s:∀ b xs,H b=some (.tup xs)->H' b=some (.tup xs)):bN P w H' h' a o:=by
 induction o with
 | lst xs=>let#[z,bq,n,r,e]:=x;exact#[z,bq,n,r,k _ _ (.inl rfl) e]
 | tup xs=>let#[z,bq,r,I,e,c]:=x;exact#[z,bq,r,I,k _ _ (.inl rfl) e,c]
 | dK bx=>let#[z,y,vs,r,I,es,ep,e,c]:=x;exact#[z,y,vs,r,I,es,ep,k _ _ (.inl rfl) e,c]
 |dT bx=>
  let#[z,y,xs,r,I,es,ep,e,c]:=x;exact#[z,y,xs,Paired.CJ r λp q z=>#[z.1,s _ _ z.2.1,z.2.2],I,es,ep,k _ _ (.inl rfl) e,c]
 | set S n=>let#[I,es,ep,t,e,c]:=x;exact#[I,es,ep,t,k _ _ (.inl rfl) e,c]
 |ins C dx fs=>
  let#[d,z,ne,e,mA,#[od,es,ep,R,c],r]:=x;exact#[O _ d,z,ne,k _ _ (.inl rfl) e,mA,#[od,es,ep,k _ _ (.inr d) R,c],r]
 | own y=>let#[I,e]:=x;exact#[I,k _ _ (.inl rfl) e]
 | xd fs=>let#[mA,#[od,es,ep,e,c],r]:=x;exact#[mA,#[od,es,ep,k _ _ (.inl rfl) e,c],r]
 | rng lo hi=>let#[t,u,v,e]:=x;exact#[t,u,v,k _ _ (.inl rfl) e]
 |b0 C dx ap af v ps qs=>
  let#[Z,Y,U,ne,e,#[mA,#[od,es,ep,R,c],r],#[i,m,n1,r1,g1],g,l,n2,r2,g2]:=x;exact#[O _ Z,O _ Y,O _ U,ne,k _ _ (.inl rfl) e,#[mA,#[od,es,ep,k _ _ (.inr Z) R,c],r],#[i,m,n1,r1,k _ _ (.inr Y) g1],g,l,n2,r2,k _ _ (.inr U) g2]
 | cy I u j=>let#[e,q]:=x;exact#[k _ _ (.inl rfl) e,j q]
 |eH ps=>
  have e:h.get? a=some { cls:=.none,data:=.fields ps }:=x;show h'.get? a=some { cls:=.none,data:=.fields ps };exact k a _ (.inl rfl) e
 |met f y=>
  have e:h.get? a=some (W.methodObj (.ref f)<|.ref y):=x;show h'.get? a=some (W.methodObj (.ref f)<|.ref y);exact k a _ (.inl rfl) e
 | ext φ=>let#[p,#[o,e],st]:=x;exact#[st _ _ p λo q=>k _ _ (.inl rfl) q,#[o,k _ _ (.inl rfl) e],st]
def hj.lt(x:hj P w H h)(e:H a=some o):a<h.objs.size:=(x a o e).lt
def hj.fresh(x:hj P w H h)(e:h.objs.size<=a):H a=none:=by
 cases q:H a with
 | none=>rfl
 | some u=>exact absurd (Qi (x.lt q) e)<|QK _
def hj.kept(x:hj P w H h)(k:∀ b u,h.get? b=some u->h'.get? b=some u):hj P w H h':=λa o e =>
 (x a o e).kO (λb u _ q=>k b u q) (λ_ q=>q) λ_ _ q=>q
def hj.laid(x:hj P w H h)(k:∀ b u,h.get? b=some u->h'.get? b=some u)(I:h.objs.size<=a)(new:bN P w (upd H a o) h' a o):hj P w (upd H a o) h':=λb u e=>by
 have hn:=x.fresh I;by_cases hb:b=a
 ·subst hb;rw[ao]at e;cases e;exact new
 ·rw[aj hb]at e
  exact(x b u e).kO (λc v _ q=>k c v q) (λc q=>by rw[aj<|aM q hn];exact q) λc xs q=>by rw[aj<|aM q hn];exact q
end
abbrev Rd(H:Hp)(a:Addr)(u:HO):Prop:=H a=some u\/∃ o,H a=some (.cy o u)
def Rd.ok(r:Rd H a u)(x:hj P w H h):bN P w H h a u:=by
 rcases r with r | ⟨o,r⟩
 ·exact x a u r
 ·let#[_,q]:=x a _ r;exact q
abbrev Mut:Option HO->Prop
 | some (.lst _)=>True
 | some (.dK _)=>True
 | some (.dT _)=>True
 | some (.set _ _)=>True
 | some (.ins _ _ _)=>True
 | some (.b0 _ _ _ _ _ _ _)=>True
 | some (.ext _)=>True
 | _=>False
section
variable{P:Program}{w:World}{H:Hp}{h h':Heap}{x e:Addr}{o':HO}
def hj.write(ok:hj P w H h)(U:Mut (H x))(a:e=x\/H e=some (.own x))(k:∀ b u,b≠e->h.get? b=some u->h'.get? b=some u)(Z:∃ u,h'.get? e=some u)
 (new:bN P w (upd H x o') h' x o'):hj P w (upd H x o') h':=λb u q=>by
 have O:∀ c y,H c=some (.own y)->c≠x:=λc y r z=>by subst z;rw[r]at U;exact U
 have R:∀ c xs,H c=some (.tup xs)->c≠x:=λc xs r z=>by subst z;rw[r]at U;exact U
 by_cases hb:b=x
 ·subst hb;rw[ao]at q;cases q;exact new
 ·rw[aj hb]at q;by_cases I:b=e
  ·have q':H b=some (.own x):=by
    rcases a with z | z
    ·exact absurd (I.trans z) hb
    ·rw[I];exact z
   rw[q]at q';cases q';let#[v,d]:=Z;exact#[v,by rw[I];exact d]
  ·refine(ok b u q).kO (λc v Y r=>k c v ?_ r) (λc r=>by rw[aj<|O c b r];exact r) λc xs r=>by rw[aj<|R c xs r];exact r
   rcases Y with rfl | Y
   ·exact I
   ·rintro rfl;rcases a with z | z
    ·exact O c b Y z
    ·rw[Y]at z;cases z;exact hb rfl
end
structure Un(fs ex:List Addr)(H H':Hp)(h h':Heap):Prop where
 keep:∀ b o,h.get? b=some o->H b=none->b∉fs->b∉ex->h'.get? b=some o
 slot:∀ b o,h.get? b=some o->H b=none->b∈fs->b∉ex->∃ sl,h'.get? b=some { o with slots:=sl }
 free:∀ b o,h.get? b=some o->H b=none->b∉ex->H' b=none
 there:∀ b o,h.get? b=some o->b∉ex->∃ o',h'.get? b=some o'
 mB:∀ b xs,H b=some (.tup xs)->H' b=some (.tup xs)
 jE:∀ b o u,H b=some (.cy o u)->H' b=some (.cy o u)
 mj:∀ b ps,H b=some (.eH ps)->∃ more,H' b=some (.eH<|ps++more)
section
variable{fs fs' ex ex':List Addr}{H H1 H2:Hp}{h h1 h2 h':Heap}{a x e:Addr}{o:HO}
def Un.any(u:Un fs ex H H1 h h1)(q:h.get? b=some ob)(n:H b=none)(I:b∉ex):∃ sl,h1.get? b=some { ob with slots:=sl }:=by
 by_cases hb:b∈fs
 ·exact u.slot b ob q n hb I
 ·exact#[ob.slots,u.keep b ob q n hb I]
def Un.kept(k:∀ b u,h.get? b=some u->h'.get? b=some u):Un fs ex H H h h' :=
 ⟨λb I q _ _ _=>k b I q,λb I q _ _ _=>#[I.slots,k b I q],λ_ _ _ n _=>n,λb I q _=>#[I,k b I q],λ_ _ q=>q,λ_ _ _ q=>q,λ_ ps q=>#[(List.toArray []),by rw[q];simp]⟩
def Un.refl:Un fs ex H H h h:=Un.kept λ_ _ q=>q
def Un.laid(k:∀ b u,h.get? b=some u->h'.get? b=some u)(I:h.objs.size<=a)(hn:H a=none):Un fs ex H (upd H a o) h h' where
 keep:=λb u q _ _ _=>k b u q
 slot:=λb u q _ _ _=>#[u.slots,k b u q]
 free:=λb u q n _=>by rw[aj<|Qk<|Qi (Qg q) I];exact n
 there:=λb u q _=>#[u,k b u q]
 mB:=λb xs q=>by rw[aj<|aM q hn];exact q
 jE:=λb u xs q=>by rw[aj<|aM q hn];exact q
 mj:=λb ps q=>#[(List.toArray []),by rw[aj<|aM q hn,q];simp]
def Un.write(O:Mut (H x))(Y:e=x\/H e=some (.own x))(k:∀ b u,b≠e->h.get? b=some u->h'.get? b=some u)(R:∃ u,h'.get? e=some u):Un fs ex H (upd H x o) h h':=by
 have U:∀ b,H b=none->b≠x:=λb n z=>by subst z;rw[n]at O;exact O
 have hb:∀ b,H b=none->b≠e:=λb n z=>by
  subst z;rcases Y with r | r
  ·exact U b n r
  ·rw[n]at r;cases r
 have hm:∀ b u,H b=some u->¬ Mut (some u)->b≠x:=λb u q nm z=>by subst z;rw[q]at O;exact nm O
 refine⟨λb u q n _ _=>k b u (hb b n) q,λb u q n _ _=>#[u.slots,k b u (hb b n) q],λb u q n _=>by rw[aj<|U b n];exact n,λb u q _=>?_,
  λb xs q=>by rw[aj (hm b _ q λz=>z)];exact q,λb u xs q=>by rw[aj (hm b _ q λz=>z)];exact q,λb ps q=>#[(List.toArray []),by rw[aj (hm b _ q λz=>z),q];simp]⟩
 by_cases I:b=e
 ·subst I;exact R
 ·exact#[u,k b u I q]
end
abbrev trk(h:Heap)(H:Hp):List Addr:=(List.range h.objs.size).filter λa=>(H a).isSome
abbrev lu(h:Heap)(H:Hp):Heap:=W.hideAll h<|trk h H
def Cr(h:Heap)(H:Hp):(lu h H).objs.size=h.objs.size:=W.hideAll_size _ _
def E4(e:h.get? b=some o)(n:H b=none):(lu h H).get? b=some o :=
 W.hideAll_get _ e λhm=>by
  have q:=(List.mem_filter.mp hm).2;rw[n]at q;simp at q
def Hk(e:(lu h H).get? b=some o):h.get? b=some o/\H b=none:=by
 have e':=W.of_hideAll (trk h H) e;refine#[e',?_]
 cases q:H b with
 | none=>rfl
 |some x=>
  have hm:b∈trk h H:=List.mem_filter.mpr ⟨List.mem_range.mpr<|Qg e',by simp[q]⟩;have z:(lu h H).get? b=none:=W.hideAll_none (trk h H) hm;rw[z]at e;cases e
structure Mod(K:W.Frag)(mg:Str->Option Value)(base:Heap):Prop where
 kin:K.In base
 glob:base.Ns mainGlobals mg
 blt:∃ mb,base.Ns builtinsNs mb/\∀ x:Str,x ≠ "__name__" -> mb x=bootBuiltins x
 nolimit:base.NoLimit
structure Cx where
 prog:Program
 w:World
 K:W.Frag
 mg:Str->Option Value
 base:Heap
 A:Around
 N:List Str
 s₀:Shared
 H₀:Hp
 env:Env
 outer:List Env
 stack:List Env
 ex:List Addr
 fn:Str->Bool
 calm:Bool
 pn:List (Addr × Obj)
 xe:Value->Shared->Prop
abbrev tf(l:List Env):List Addr:=l.filterMap (·.frame)
@[reducible]noncomputable def Cx.fs(X:Cx):List Addr:=tf X.outer
abbrev vl(sc:Scope)(x:Str):Prop:=sc.names.lookup x=some .local\/sc.names.lookup x=some .cell\/sc.names.lookup x=some .free
abbrev Loc(sc:Scope)(x:Str):Prop:=sc.names.lookup x=some .local\/sc.names.lookup x=some .cell
abbrev Look(env:Env)(h:Heap)(m:Str->Option Value)(x:Str)(u:Value):Prop :=
 (env.kindOf x=some .local/\m x=some u)\/((env.kindOf x=some .cell\/env.kindOf x=some .free)/\∃ c,env.cells.lookup x=some c/\h.IsCell c (some u))
abbrev HX(X:Cx):Prop:=X.A.handled=none\/∃ h o u vs,X.A.handled=some (.ref h)/\X.H₀ h=some (.cy o u)/\o.data=.fields vs/\vs[2]?=some .none
structure Cx.Ok(X:Cx):Prop where
 mod:Mod X.K X.mg X.base
 kind:X.env.scope.kind=.function
 glob:X.env.globals=mainGlobals
 blt:X.env.builtins=builtinsNs
 above:X.s₀.heap.objs.size<=X.env.locals
 inj:∀ x y c,X.env.cells.lookup x=some c->X.env.cells.lookup y=some c->x=y
 has:∀ x,(X.env.kindOf x=some .cell\/X.env.kindOf x=some .free)->∃ c,X.env.cells.lookup x=some c
 cab:∀ x c,X.fn x=true->X.env.cells.lookup x=some c->X.s₀.heap.objs.size<=c
 hd:(X.calm=true->X.A.handled=none)/\HX X
 frames:X.A.frames=some X.stack
 eo:X.stack=X.outer\/(X.stack=X.env::X.outer/\X.env.frame=some X.env.locals)
 exf:∀ b∈X.ex,b≠X.env.locals/\∀ x c,X.env.cells.lookup x=some c->c≠b
 bs:∀ b o,X.base.get? b=some o->X.s₀.heap.get? b=some o/\X.H₀ b=none
 AB:X.base.objs.size<=X.s₀.heap.objs.size
 vU:∀ b o,X.base.get? b=some o->b∉X.ex
 vY:∀ b∈X.ex,b∉X.fs
 iA:X.s₀.heap.FunFrames X.base X.outer
 OX:∀ b∈X.fs,X.H₀ b=none
structure Inv(X:Cx)(ag:List (Addr × Obj))(J:List (Option V))(H:Hp)(s:Shared):Prop where
 ok:X.Ok
 os:s.os=X.s₀.os
 bare:AllBare s.gens
 base:Un X.fs X.ex X.H₀ H X.s₀.heap s.heap
 loc:∃ m,s.heap.Ns X.env.locals m/\∀ (i:Nat) (x:Str) (v:V),X.N[i]?=some x->J[i]?=some (some v)->vl X.env.scope x->∃ u,RelV v u/\Look X.env s.heap m x u
 cell:∀ x c,X.env.cells.lookup x=some c->∃ v,s.heap.IsCell c v
 free:H X.env.locals=none
 gw:∀ x c,X.env.cells.lookup x=some c->H c=none
 pin:∀ p∈X.pn++ag,s.heap.get? p.1=some p.2/\H p.1=none/\p.1≠X.env.locals/\p.1∉X.fs/\∀ v,p.2.data≠.cell v
 b9:hj X.prog X.w H s.heap
 len:J.length=X.N.length
section
variable{X:Cx}{ag:List (Addr × Obj)}{J:List (Option V)}{H H':Hp}{s:Shared}{h':Heap}
def Cx.Ok.Ot(ok:X.Ok)(e:X.base.get? b=some o):b∉X.fs:=λhb=>by
 have:=(ok.iA.mem hb).1;rw[e]at this;cases this
def Inv.bs(I:Inv X ag J H s):∀ b o,X.base.get? b=some o->s.heap.get? b=some o/\H b=none:=λb o e =>
 ⟨I.base.keep b o (I.ok.bs b o e).1 (I.ok.bs b o e).2 (I.ok.Ot e)<|I.ok.vU b o e,I.base.free b o (I.ok.bs b o e).1 (I.ok.bs b o e).2<|I.ok.vU b o e⟩
def Inv.bk(I:Inv X ag J H s):∀ b o,X.base.get? b=some o->s.heap.get? b=some o:=λb o e=>(I.bs b o e).1
def Inv.mod(I:Inv X ag J H s):Mod X.K X.mg X.base:=I.ok.mod
def Inv.h9(I:Inv X ag J H s):X.K.In s.heap:=I.ok.mod.kin.keeps I.bk
def Inv.lt(I:Inv X ag J H s):X.env.locals<s.heap.objs.size:=let ⟨_,hn,_⟩:=I.loc;hn.lt
def Inv.sz(I:Inv X ag J H s):X.s₀.heap.objs.size<=s.heap.objs.size:=Qp I.ok.above<|le_of_lt I.lt
def Inv.NX(I:Inv X ag J H s)(h:s.heap.objs.size<=a):a∉X.fs:=λhb=>by
 let#[_,o,O,_]:=I.ok.iA.mem hb;exact absurd (Qi (Qg O)<|Qp I.sz h)<|QK _
def Inv.OZ(I:Inv X ag J H s):∀ x c,X.env.cells.lookup x=some c->c≠X.env.locals:=λx c e z=>by
 let#[v,o,U,hd]:=I.cell x c e;let#[m,#[o',es,ep,O,R,_],_]:=I.loc;rw[z,O]at U;cases U;rw[R]at hd;cases hd
def Inv.iA(I:Inv X ag J H s):s.heap.FunFrames X.base X.outer:=by
 have all:∀ (l:List Env),(∀ b∈tf l,b∈X.fs)->X.s₀.heap.FunFrames X.base l->s.heap.FunFrames X.base l:=by
  intro l
  induction l with
  | nil=>intro _ _;trivial
  |cons env r Y=>
   intro U hl;let#[c,#[L,o,O,hn,a,hd],Z]:=hl;have R:=U L (by unfold tf;rw[filterMap_cons,O];exact Qq);let#[sl,e]:=I.base.slot L o a (I.ok.OX L R) R λz=>I.ok.vY L z R;exact#[c,#[L,_,O,hn,e,hd],Y (λb hb=>U b<|by unfold tf;rw[filterMap_cons,O];exact Qm _ hb) Z]
 exact all X.outer (λ_ hb=>hb) I.ok.iA
def Inv.stack(I:Inv X ag J H s):s.heap.FunFrames X.base X.stack:=by
 rcases I.ok.eo with e | ⟨e,O⟩
 ·rw[e];exact I.iA
 ·rw[e];let#[m,hn,_]:=I.loc;refine .cons (by rw[I.ok.kind];decide) O hn ?_ I.iA;exact Heap.get?_none_of_le<|Qp I.ok.AB I.ok.above
def Inv.wm(I:Inv X ag J H s):∀ b∈tf X.stack,b∈X.env.locals::X.fs:=λb hb=>by
 rcases I.ok.eo with e | ⟨e,O⟩
 ·rw[e]at hb;exact Qm _ hb
 ·rw[e]at hb;unfold tf at hb;rw[filterMap_cons,O]at hb;exact hb
def Inv.yB(I:Inv X ag J H s):∀ b∈tf X.stack,H b=none:=λb hb=>by
 rcases List.mem_cons.mp (I.wm b hb)with e | hb
 ·rw[e];exact I.free
 ·let#[_,o,O,_]:=I.ok.iA.mem hb;exact I.base.free b o O (I.ok.OX b hb) λz=>I.ok.vY b z hb
def Inv.step{g':Array GenState}{y:Nat}{d':Drawn}{ch:List Addr}(I:Inv X ag J H s)
 (U:∀ b∈ch,(b∈X.ex\/X.s₀.heap.objs.size<=b)/\b≠X.env.locals/\(∀ x c,X.env.cells.lookup x=some c->c≠b)/\∀ p∈X.pn++ag,p.1≠b)
 (keep:∀ b o,b≠X.env.locals->b∉X.fs->b∉ch->s.heap.get? b=some o->H b=none->h'.get? b=some o)
 (slot:∀ b o,b≠X.env.locals->b∈X.fs->b∉ch->s.heap.get? b=some o->H b=none->∃ sl,h'.get? b=some { o with slots:=sl })(free:∀ b o,b∉ch->s.heap.get? b=some o->H b=none->H' b=none)
 (there:∀ b o,b∉ch->s.heap.get? b=some o->∃ o',h'.get? b=some o')
 (mB:∀ b xs,H b=some (.tup xs)->H' b=some (.tup xs))(jE:∀ b o u,H b=some (.cy o u)->H' b=some (.cy o u))(mj:∀ b ps,H b=some (.eH ps)->∃ more,H' b=some (.eH<|ps++more))
 (ns:∀ m,s.heap.Ns X.env.locals m->h'.Ns X.env.locals m)(b9:hj X.prog X.w H' h')(C:AllBare g') :
  Inv X ag J H' { s with heap:=h',gens:=g',drawn:=d',toks:=y }:=by
 have f:∀ b o,X.s₀.heap.get? b=some o->b≠X.env.locals:=λb o e=>Qk<|Qi (Qg e) I.ok.above
 have Y:∀ b o,X.s₀.heap.get? b=some o->b∉X.ex->b∉ch:=λb o e O hb=>by
  rcases(U b hb).1 with z | z
  ·exact O z
  ·exact absurd (Qi (Qg e) z)<|QK _
 have cellK:∀ x c,X.env.cells.lookup x=some c->∀ v,s.heap.IsCell c v->h'.IsCell c v:=λx c e v ⟨o,a,hd⟩=>by
  have R:c∉ch:=λz=>(U c z).2.2.1 x c e rfl;by_cases t:c∈X.fs
  ·let#[sl,q]:=slot c o (I.OZ x c e) t R a<|I.gw x c e;exact#[_,q,hd]
  ·exact#[o,keep c o (I.OZ x c e) t R a<|I.gw x c e,hd]
 refine#[I.ok,I.os,C,#[λb o e n hb O=>?_,λb o e n hb O=>?_,λb o e n O=>?_,λb o e O=>?_,λb xs e=>mB b xs<|I.base.mB b xs e,λb o xs e=>jE b o xs<|I.base.jE b o xs e,λb ps e=>?_],?_,λx c e=>?_,?_,λx c e=>?_,λp j=>?_,b9,I.len]
 ·exact keep b o (f b o e) hb (Y b o e O) (I.base.keep b o e n hb O)<|I.base.free b o e n O
 ·let#[sl,Z]:=I.base.slot b o e n hb O;let#[h,g]:=slot b _ (f b o e) hb (Y b o e O) Z<|I.base.free b o e n O;exact#[h,g]
 ·let#[o',Z]:=I.base.there b o e O;exact free b o' (Y b o e O) Z<|I.base.free b o e n O
 ·let#[o',Z]:=I.base.there b o e O;exact there b o' (Y b o e O) Z
 ·let#[B,Z]:=I.base.mj b ps e;let#[A,g]:=mj b _ Z;exact#[B++A,by rw[g,Array.append_assoc]]
 ·let#[m,hn,hl]:=I.loc;refine#[m,ns m hn,λi x v Z g D=>?_];let#[u,r,l]:=hl i x v Z g D;refine#[u,r,?_]
  rcases l with l | ⟨k,c,e,z⟩
  ·exact .inl l
  ·exact .inr #[k,c,e,cellK x c e _ z]
 ·let#[v,z]:=I.cell x c e;exact#[v,cellK x c e v z]
 ·let#[m,#[o,_,_,a,_],_]:=I.loc;exact free _ o (λz=>(U _ z).2.1 rfl) a I.free
 ·let#[v,o,a,hd]:=I.cell x c e;exact free c o (λz=>(U c z).2.2.1 x c e rfl) a<|I.gw x c e
 ·let#[e,n,ne,nf,d]:=I.pin p j;have R:p.1∉ch:=λz=>(U p.1 z).2.2.2 p j rfl;exact#[keep p.1 p.2 ne nf R e n,free p.1 p.2 R e n,ne,nf,d]
def Inv.un(I:Inv X ag J H s)(u:Un X.fs [] H H' s.heap h')(b9:hj X.prog X.w H' h'):Inv X ag J H' { s with heap:=h',toks:=t' }:=by
 let#[m,#[o,es,ep,Y,r],_]:=id I.loc;let#[sl,a]:=u.any Y I.free<|by simp
 exact I.step (g':=s.gens) (d':=s.drawn) (ch:=[]) (λ_ z=>nomatch z) (λb o _ hb _ e n=>u.keep b o e n hb<|by simp) (λb o _ hb _ e n=>u.slot b o e n hb<|by simp) (λb o _ e n=>u.free b o e n<|by simp) (λb o _ e=>u.there b o e<|by simp) u.mB u.jE u.mj (λc hm=>by
  let#[o',R,U,O,Z]:=hm;rw[Y]at O;cases O
  exact#[_,R,U,a,Z]) b9 I.bare
def Inv.call(I:Inv X ag J H s)(u:Un (tf X.stack) ch H H' s.heap h')(b9:hj X.prog X.w H' h')(g:AllBare g')
 (U:∀ b∈ch,(b∈X.ex\/X.s₀.heap.objs.size<=b)/\b≠X.env.locals/\(∀ x c,X.env.cells.lookup x=some c->c≠b)/\∀ p∈X.pn++ag,p.1≠b) :
  Inv X ag J H' { s with heap:=h',gens:=g',drawn:=d',toks:=t' }:=by
 let#[m,#[o,es,ep,d,r],_]:=id I.loc;let#[sl,Y]:=u.any d I.free λz=>(U _ z).2.1 rfl
 exact I.step (ch:=ch) U (λb o Y hb O e n=>u.keep b o e n (λz=>(List.mem_cons.mp<|I.wm b z).elim Y hb) O) (λb o _ _ O e n=>u.any e n O) (λb o O e n=>u.free b o e n O) (λb o O e=>u.there b o e O) u.mB u.jE u.mj (λh hm=>by
  let#[o',Z,a,R,f]:=hm;rw[d]at R;cases R
  exact#[_,Z,a,Y,f]) b9 g
def Inv.turned(I:Inv X ag J H s)(k:∀ b o,b≠it->s.heap.get? b=some o->h'.get? b=some o)(hn:H it=none)(U:it≠X.env.locals)
 (d:it∈X.ex\/X.s₀.heap.objs.size<=it)(a:∀ x c,X.env.cells.lookup x=some c->c≠it)(Z:∀ p∈X.pn++ag,p.1≠it):Inv X ag J H { s with heap:=h',toks:=t' }:=by
 have R:∀ b u,H b=some u->b≠it:=λb u e z=>by rw[z,hn]at e;cases e
 refine I.step (g':=s.gens) (d':=s.drawn) (ch:=[it]) (λb hb=>?_) (λb o _ _ O e _=>k b o (λz=>O<|by simp[z]) e) (λb o _ _ O e _=>#[o.slots,k b o (λz=>O<|by simp[z]) e]) (λ_ _ _ _ n=>n)
  (λb o O e=>#[o,k b o (λz=>O<|by simp[z]) e]) (λ_ _ e=>e) (λ_ _ _ e=>e) (λb ps e=>#[(List.toArray []),by rw[e];simp]) (λm hm=>?_) (λb u e=>?_) I.bare
 ·have e:b=it:=by simpa using hb
  subst e;exact#[d,U,a,Z]
 ·let#[o,es,ep,Y,r]:=hm;exact#[o,es,ep,k _ o (Ne.symm U) Y,r]
 ·refine(I.b9 b u e).kO (λc v O q=>k c v ?_ q) (λ_ q=>q) λ_ _ q=>q;rcases O with z | z
  ·rw[z];exact R b u e
  ·exact R c _ z
def Inv.tok(I:Inv X ag J H s)(t:Nat):Inv X ag J H { s with toks:=t }:=I.un Un.refl I.b9
def Inv.kept(I:Inv X ag J H s)(k:∀ b u,s.heap.get? b=some u->h'.get? b=some u):Inv X ag J H { s with heap:=h',toks:=t' }:=I.un (Un.kept k)<|I.b9.kept k
def Inv.laid(I:Inv X ag J H s)(k:∀ b u,s.heap.get? b=some u->h'.get? b=some u)(O:s.heap.objs.size<=a)(new:bN X.prog X.w (upd H a o) h' a o) :
  Inv X ag J (upd H a o) { s with heap:=h',toks:=t' }:=I.un (Un.laid k O<|I.b9.fresh O)<|I.b9.laid k O new
def Inv.write(I:Inv X ag J H s)(R:Mut (H x))(U:e=x\/H e=some (.own x))(k:∀ b u,b≠e->s.heap.get? b=some u->h'.get? b=some u)(O:∃ u,h'.get? e=some u)
 (new:bN X.prog X.w (upd H x o) h' x o):Inv X ag J (upd H x o) { s with heap:=h',toks:=t' }:=I.un (Un.write R U k O)<|I.b9.write R U k O new
def Inv.weak(I:Inv X ag J H s)(hl:QP.length=J.length)(w:∀ (i:Nat) v,QP[i]?=some (some v)->J[i]?=some (some v)):Inv X ag QP H s :=
 ⟨I.ok,I.os,I.bare,I.base,let ⟨m,hn,O⟩:=I.loc;⟨m,hn,λi x v Y U R=>O i x v Y (w i v U) R⟩,I.cell,I.free,I.gw,I.pin,I.b9,hl.trans I.len⟩
def Inv.xy(I:Inv X ag J H s)(h:∀ p∈O,s.heap.get? p.1=some p.2/\H p.1=none/\p.1≠X.env.locals/\p.1∉X.fs/\∀ v,p.2.data≠.cell v):Inv X O J H s :=
 ⟨I.ok,I.os,I.bare,I.base,I.loc,I.cell,I.free,I.gw,λp R=>(List.mem_append.mp R).elim (λz=>I.pin p<|List.mem_append_left _ z)<|h p,I.b9,I.len⟩
def vW{N:List Str}(I:N.Nodup){i j:Nat}(a:N[i]?=some x)(b:N[j]?=some x):i=j:=by
 let#[Y,R]:=List.getElem?_eq_some_iff.mp a;let#[U,O]:=List.getElem?_eq_some_iff.mp b;exact(List.getElem_inj I).mp<|R.trans O.symm
def sS{M:Model}{A:Around}(I:Inv X ag J H s)(hN:X.N.Nodup)(hi:X.N[i]?=some x)(Y:Loc X.env.scope x)(r:RelV v u)
 (h:∀ s',Inv X ag (J.set i<|some v) H s'->(∃ a,Heap.SameBut a s.heap s'.heap/\(a=X.env.locals\/X.env.cells.lookup x=some a))->Q ⟨⟩ s')(hf:X.fn x=true\/X.env.scope.names.lookup x=some .local):wpAny M A (storeName X.env x u) Q E s:=by
 let#[m,hn,hl]:=id I.loc
 have F:(X.env.scope.kind == .class || (X.env.scope.kind == .module&&X.env.locals != X.env.globals))=false:=by rw[I.ok.kind];rfl
 have l:i<J.length:=by rw[I.len];exact(List.getElem?_eq_some_iff.mp hi).1
 have OZ:=I.OZ
 have tracked:∀ {a:Addr} {h':Heap},(∃ o,s.heap.get? a=some o/\H a=none)->Heap.SameBut a s.heap h'->hj X.prog X.w H h':=λ{a h'} ha O b ob e=>by
  let#[_,_,Z]:=ha;refine(I.b9 b ob e).kO (λc K U q=>(O.2 c ?_).trans q) (λ_ q=>q) λ_ _ q=>q;rintro rfl;rcases U with rfl | U
  ·rw[Z]at e;cases e
  ·rw[Z]at U;cases U
 rcases Y with g | g
 ·refine wpAny_storeName_local g hn (λh' hn' O=>?_) F;let#[oL,_,_,V,_]:=id hn;refine h _ ⟨I.ok,I.os,I.bare,⟨λb o e n hb Y=>?_,λb o e n hb Y=>?_,I.base.free,λb o e Y=>?_,I.base.mB,I.base.jE,I.base.mj⟩,⟨_,hn',λj y L R f e3=>?_⟩,λy c e=>?_,I.free,I.gw,λp T=>?_,tracked ⟨oL,V,I.free⟩ O,by simpa using I.len⟩ ⟨_,O,.inl rfl⟩
  ·exact(O.2 b<|Qk<|Qi (Qg e) I.ok.above).trans<|I.base.keep b o e n hb Y
  ·let#[sl,R]:=I.base.slot b o e n hb Y;exact#[sl,(O.2 b<|Qk<|Qi (Qg e) I.ok.above).trans R]
  ·let#[o',R]:=I.base.there b o e Y;exact#[o',(O.2 b<|Qk<|Qi (Qg e) I.ok.above).trans R]
  ·by_cases t:j=i
   ·subst t;rw[hi]at R;cases R;rw[Qe l]at f;cases f;exact#[u,r,.inl #[g,by simp]]
   ·rw[Qd<|Ne.symm t]at f;let#[P,S,q]:=hl j y L R f e3;refine#[P,S,?_]
    rcases q with⟨k,e⟩ | ⟨k,c,e,z⟩
    ·refine .inl #[k,?_];have:y≠x:=λe=>t<|vW hN R<|e▸hi;simp[this,e]
    ·exact .inr #[k,c,e,z.sameBut O<|OZ y c e]
  ·let#[K,z]:=I.cell y c e;exact#[K,z.sameBut O<|OZ y c e]
  ·let#[e,n,ne,nf,d]:=I.pin p T;exact#[(O.2 p.1 ne).trans e,n,ne,nf,d]
 ·have B:X.fn x=true:=by
   rcases hf with z | z
   ·exact z
   ·rw[z]at g;cases g
  let#[c,U]:=I.ok.has x<|.inl g;let#[K,z]:=I.cell x c U;refine wpAny_storeName_cell I.ok.kind g U z λh' QN O=>?_;let#[oc,D,C]:=id z;refine h { s with heap:=h' } ⟨I.ok,I.os,I.bare,⟨λb o e n hb Y=>?_,λb o e n hb Y=>?_,I.base.free,λb o e Y=>?_,I.base.mB,I.base.jE,I.base.mj⟩,⟨m,hn.sameBut O<|Ne.symm<|OZ x c U,λj y L R f e3=>?_⟩,λy c' e=>?_,I.free,I.gw,λp T=>?_,tracked ⟨oc,D,I.gw x c U⟩ O,by simpa using I.len⟩ ⟨c,O,.inr U⟩
  ·exact(O.2 b<|Qk<|Qi (Qg e)<|I.ok.cab x c B U).trans<|I.base.keep b o e n hb Y
  ·let#[sl,R]:=I.base.slot b o e n hb Y;exact#[sl,(O.2 b<|Qk<|Qi (Qg e)<|I.ok.cab x c B U).trans R]
  ·let#[o',R]:=I.base.there b o e Y;exact#[o',(O.2 b<|Qk<|Qi (Qg e)<|I.ok.cab x c B U).trans R]
  ·by_cases t:j=i
   ·subst t;rw[hi]at R;cases R;rw[Qe l]at f;cases f;exact#[u,r,.inr #[.inl g,c,U,QN]]
   ·rw[Qd<|Ne.symm t]at f;let#[P,S,q]:=hl j y L R f e3;refine#[P,S,?_]
    rcases q with q | ⟨k,c',e,z'⟩
    ·exact .inl q
    ·refine .inr #[k,c',e,z'.sameBut O ?_];rintro rfl;exact t<|vW hN R<|I.ok.inj _ _ _ e U▸hi
  ·by_cases G:c'=c
   ·subst G;exact#[_,QN]
   ·let#[w2,z2]:=I.cell y c' e;exact#[w2,z2.sameBut O G]
  ·let#[e,n,ne,nf,d]:=I.pin p T;refine#[(O.2 p.1 ?_).trans e,n,ne,nf,d];intro q;rw[q,D]at e;have q':oc=p.2:=Option.some.inj e;exact d K<|by rw[<-q'];exact C
def ji(I:Inv X ag J H s)(U:X.N.Nodup)(hi:X.N[i]?=some x)(O:Loc X.env.scope x)(r:RelV v u)
 (h:∀ s',Inv X ag (J.set i<|some v) H s'->Q ⟨⟩ s')(R:X.fn x=true\/X.env.scope.names.lookup x=some .local):wpAny M A (storeName X.env x u) Q E s :=
 sS I U hi O r (λs' Y _=>h s' Y) R
def Inv.EO(I:Inv X ag J H s)(R:s'.os=s.os)(u:Un (tf X.stack) ch H H' s.heap s'.heap)(b9:hj X.prog X.w H' s'.heap)(U:AllBare s'.gens)
 (O:∀ b∈ch,(b∈X.ex\/X.s₀.heap.objs.size<=b)/\b≠X.env.locals/\(∀ x c,X.env.cells.lookup x=some c->c≠b)/\∀ p∈X.pn++ag,p.1≠b):Inv X ag J H' s':=by
 let#[h',g',d',t',o']:=s';have e:o'=s.os:=R;subst e;exact I.call (g':=g') (t':=t') (d':=d') u b9 U O
end
@[reducible]noncomputable def XK:=Value->Option Addr->Hp->Prop
@[reducible]noncomputable def St:=List<|Option V
@[reducible]noncomputable def VK:=V->Hp->Prop
@[reducible]noncomputable def TE:=St->Hp->VK->Prop
@[reducible]noncomputable def TT:=St->Hp->(Bool->Hp->Prop)->Prop
@[reducible]noncomputable def TA:=St->Hp->(List V->Hp->Prop)->Prop
structure Ends where
 nx:St->Hp->Prop
 rt:VK
 bk:St->Hp->Prop:=λ_ _=>False
 ct:St->Hp->Prop:=λ_ _=>False
@[reducible]noncomputable def TS:=Ends->St->Hp->Prop
abbrev EP(X:Cx)(ag:List (Addr × Obj))(J:St)(Q:VK)(u:Value)(s':Shared):Prop:=∃ v H',Inv X ag J H' s'/\RelV v u/\Q v H'
abbrev TP(X:Cx)(ag:List (Addr × Obj))(J:St)(Q:Bool->Hp->Prop)(b:Bool)(s':Shared):Prop:=∃ H',Inv X ag J H' s'/\Q b H'
abbrev AP(X:Cx)(ag:List (Addr × Obj))(J:St)(Q:List V->Hp->Prop)(us:List Value)(s':Shared):Prop:=∃ vs H',Inv X ag J H' s'/\Vals vs us/\Q vs H'
abbrev SP(X:Cx)(ag:List (Addr × Obj))(D:Ends)(f:Flow)(s':Shared):Prop :=
 match f with
 | .next=>∃ I H',Inv X ag I H' s'/\D.nx I H'
 | .brk=>∃ I H',Inv X ag I H' s'/\D.bk I H'
 | .cont=>∃ I H',Inv X ag I H' s'/\D.ct I H'
 | .ret u=>∃ v I H',Inv X ag I H' s'/\RelV v u/\D.rt v H'
abbrev PE(X:Cx)(e:Expr)(t:TE):Prop :=
 ∀ (ag:List (Addr × Obj)) (s:Shared) (J:St) (H:Hp) (Q:VK),Inv X ag J H s->t J H Q->wpAny (model X.prog X.w) X.A (eval e X.env) (EP X ag J Q) X.xe s
abbrev PT(X:Cx)(e:Expr)(t:TT):Prop :=
 ∀ (ag:List (Addr × Obj)) (s:Shared) (J:St) (H:Hp) (Q:Bool->Hp->Prop),Inv X ag J H s->t J H Q->wpAny (model X.prog X.w) X.A (isTrue e X.env<|eval e X.env) (TP X ag J Q) X.xe s
abbrev PW(X:Cx)(e:Expr)(t:TT):Prop :=
 ∀ (whole:Sem Value) (ag:List (Addr × Obj)) (s:Shared) (J:St) (H:Hp) (Q:Bool->Hp->Prop),Inv X ag J H s->t J H Q->wpAny (model X.prog X.w) X.A (isTrue e X.env whole) (TP X ag J Q) X.xe s
def PW.pt(h:PW X e t):PT X e t:=h _
abbrev PA(X:Cx)(es:List Expr)(t:TA):Prop :=
 ∀ (I:Pos) (ag:List (Addr × Obj)) (s:Shared) (J:St) (H:Hp) (Q:List V->Hp->Prop),Inv X ag J H s->t J H Q->wpAny (model X.prog X.w) X.A (spliced<|backTo I<|starEach es X.env) (AP X ag J Q) X.xe s
abbrev PS(X:Cx)(st:Stmt)(t:TS):Prop :=
 ∀ (ag:List (Addr × Obj)) (s:Shared) (J:St) (H:Hp) (D:Ends),Inv X ag J H s->t D J H->wpAny (model X.prog X.w) X.A (exec st X.env) (SP X ag D) X.xe s
abbrev hY(X:Cx)(st:List Stmt)(t:TS):Prop :=
 ∀ (ag:List (Addr × Obj)) (s:Shared) (J:St) (H:Hp) (D:Ends),Inv X ag J H s->t D J H->wpAny (model X.prog X.w) X.A (execs st X.env) (SP X ag D) X.xe s
def cg(h:wpAny M A t Q E s)(I:∀ a s,Q a s->Q' a s):wpAny M A t Q' E s:=wpAny_mono h I λ_ _ x=>x
section
variable{X:Cx}
abbrev bD(i:Nat):TE:=λJ H Q=>∃ v,J[i]?=some (some v)/\Q v H
abbrev tC(v:V):TE:=λ_ H Q=>Q v H
def cI(b:X.N[i]?=some x)(a:vl X.env.scope x)(hd:(x == ("__debug__" : Str))=false)(Y:(x == ("__classdict__" : Str))=false):PE X (.Name x pos) (bD i):=by
 intro ag s J H Q I h;let#[v,e,h]:=h;let#[m,hn,hl]:=I.loc;let#[u,r,l]:=hl i x v b e a
 have U:EP X ag J Q u s:=#[v,H,I,r,h]
 rcases l with⟨R,hm⟩ | ⟨R,c,Z,O⟩
 ·exact wpAny_Name (wpAny_loadName_local I.ok.kind R hn hm U) hd
 ·rcases R with R | R
  ·exact wpAny_Name (wpAny_loadName_cell I.ok.kind R Z O U) hd
  ·exact wpAny_Name (wpAny_loadName_free I.ok.kind R Z O U Y) hd
def uS:PE X (.Constant (.int i) j pos) (tC<|.int i):=λ_ _ _ H _ I h=>wpAny_Constant_int ⟨.int i,H,I.tok _,⟨_,rfl⟩,h⟩
def NC:PE X (.Constant (.bool b) j pos) (tC<|.bl b):=λ_ _ _ H _ I h=>Constant_bool ⟨.bl b,H,I,rfl,h⟩
def Ig:PE X (.Constant .none j pos) (tC .cb):=λ_ _ _ H _ I h=>Constant_none ⟨.cb,H,I,rfl,h⟩
def IX:PE X (.Constant (.str x) j pos) (tC<|.str x):=λ_ _ _ H _ I h=>Calls.Constant_str ⟨.str x,H,I.tok _,⟨_,rfl⟩,h⟩
abbrev Gl(X:Cx)(x:Str):Prop:=X.env.kindOf x=some .globalImplicit
def nI(I:Inv X ag J H s)(O:Gl X x)(hm:X.mg x=some u)(h:Q u s)
 (hd:(x == ("__debug__" : Str))=false):wpAny (model X.prog X.w) X.A (eval (.Name x pos) X.env) Q E s :=
 Calls.Name_function_global I.ok.kind O (Calls.loadGlobal_global (by rw[I.ok.glob];exact I.mod.glob.keeps I.bk) hm h) hd
def kf(I:Inv X ag J H s)(R:Gl X x)(hm:X.mg x=none)(O:bootBuiltins x=some u)(h:Q u s)
 (hn:x ≠ "__name__")(hd:(x == ("__debug__" : Str))=false):wpAny (model X.prog X.w) X.A (eval (.Name x pos) X.env) Q E s:=by
 let#[mb,Y,U]:=I.mod.blt;exact Calls.Name_function_global I.ok.kind R (Calls.loadGlobal_builtin (by rw[I.ok.glob];exact I.mod.glob.keeps I.bk) hm (by rw[I.ok.blt];exact Y.keeps I.bk) ((U x hn).trans O) h) hd
def FL(O:Gl X x)(hm:X.mg x=some u)(r:RelV v u)(hd:(x == ("__debug__" : Str))=false):PE X (.Name x pos) (tC v) :=
 λ_ _ _ H _ I h=>nI I O hm ⟨v,H,I,r,h⟩ hd
def HL(R:Gl X x)(hm:X.mg x=none)(O:bootBuiltins x=some u)(r:RelV v u)(hn:x ≠ "__name__")(hd:(x == ("__debug__" : Str))=false):PE X (.Name x pos) (tC v) :=
 λ_ _ _ H _ I h=>kf I R hm O ⟨v,H,I,r,h⟩ hn hd
variable{a b:Expr}{ta tb:TE}{pos:Pos}
abbrev PC(X:Cx)(R:CmpOp)(a b:Expr)(t:TE):Prop :=
 ∀ (ag:List (Addr × Obj)) (s:Shared) (J:St) (H:Hp) (Q:VK),Inv X ag J H s->t J H Q ->
  wpAny (model X.prog X.w) X.A (eval a X.env) (λv O=>wpAny (model X.prog X.w) X.A (eval b X.env) (λu I=>wpAny (model X.prog X.w) X.A (compareOp R v u) (EP X ag J Q) X.xe I) X.xe O) X.xe s
abbrev tB(t:TE):TT:=λJ H Q=>t J H λx I=>∃ c,x=.bl c/\Q c I
def L9(h:PC X op a b t)(R:behindInMarks op b=false):PE X (.Compare a [op] [b] pos) t:=λag s J H Q I O=>wpAny_Compare1 (h ag s J H Q I O) R
def J4(h:PC X op a b t)(O:behindInMarks op b=false):PT X (.Compare a [op] [b] pos) (tB t):=by
 intro ag s J H Q I Y;refine wpAny_isTrue_Compare1 (cg (h ag s J H _ I Y) λv s1 O=>cg O λu s2 Z=>cg Z λc g R=>x2_2 R λx f e r1 U=>?_) O;let#[d,rfl,q]:=U;cases r1;exact wpAny_truthy_bool ⟨f,e,q⟩
variable{tA tB':TT}{rest:List Expr}
abbrev OO(t u:TT):TT:=λJ H Q=>t J H λc I=>if c=true then u J I Q else Q false I
abbrev tOr(t u:TT):TT:=λJ H Q=>t J H λc I=>if c=true then Q true I else u J I Q
abbrev OJ(t:TT):TT:=λJ H Q=>t J H λc I=>Q (!c) I
def HE(ha:PT X a tA):PW X (.BoolOp .And [a] pos) tA:=by
 intro O ag s J H Q I h;refine isTrue_and (cg (ha ag s J H Q I h) λc s1 e=>?_)
 cases c with
 | true=>exact isTrue_and_nil e
 | false=>exact e
def IW(ha:PT X a tA):PW X (.BoolOp .Or [a] pos) tA:=by
 intro O ag s J H Q I h;refine isTrue_or (cg (ha ag s J H Q I h) λc s1 e=>?_)
 cases c with
 | false=>exact isTrue_or_nil e
 | true=>exact e
def JQ(ha:PT X a tA)(hb:PW X (.BoolOp .And (b::rest) pos) tB'):PW X (.BoolOp .And (a::b::rest) pos) (OO tA tB'):=by
 intro Z ag s J H Q I h;refine isTrue_and (cg (ha ag s J H _ I h) λc s1 Y=>x1_1 Y λU R O=>?_)
 cases c with
 | true=>exact hb Z ag s1 J U Q R O
 | false=>exact#[U,R,O]
def NF(ha:PT X a tA)(hb:PW X (.BoolOp .Or (b::rest) pos) tB'):PW X (.BoolOp .Or (a::b::rest) pos) (tOr tA tB'):=by
 intro Z ag s J H Q I h;refine isTrue_or (cg (ha ag s J H _ I h) λc s1 Y=>x1_1 Y λU R O=>?_)
 cases c with
 | true=>exact#[U,R,O]
 | false=>exact hb Z ag s1 J U Q R O
def BQ(ha:PT X a tA):PT X (.UnaryOp .Not a pos) (OJ tA):=by
 intro ag s J H Q I h;exact isTrue_not (ha ag s J H (λc O=>Q (!c) O) I h)
abbrev Mv(ta tb:TE):TE:=λJ H Q=>ta J H λx I=>∃ c,x=.bl c/\if c=true then tb J I Q else Q (.bl false) I
abbrev Oc(ta tb:TE):TE:=λJ H Q=>ta J H λx I=>∃ c,x=.bl c/\if c=true then Q (.bl true) I else tb J I Q
def Ia(h:PE X a t):PE X (.BoolOp op [a] pos) t:=λag s J H Q I O=>BoolOp_one<|h ag s J H Q I O
def Kv(ha:PE X a ta)(hb:PE X (.BoolOp .And (b::rest) pos) tb):PE X (.BoolOp .And (a::b::rest) pos) (Mv ta tb):=by
 intro ag s J H Q I h;refine BoolOp_and (cg (ha ag s J H _ I h) λv s1 Y=>x2_2 Y λx U R r1 O=>?_);let#[c,rfl,O]:=O;cases r1;refine wpAny_truthy_bool ?_
 cases c with
 | true=>exact hb ag s1 J U Q R O
 | false=>exact#[.bl false,U,R,rfl,O]
def N5(ha:PE X a ta)(hb:PE X (.BoolOp .Or (b::rest) pos) tb):PE X (.BoolOp .Or (a::b::rest) pos) (Oc ta tb):=by
 intro ag s J H Q I h;refine BoolOp_or (cg (ha ag s J H _ I h) λv s1 Y=>x2_2 Y λx U R r1 O=>?_);let#[c,rfl,O]:=O;cases r1;refine wpAny_truthy_bool ?_
 cases c with
 | false=>exact hb ag s1 J U Q R O
 | true=>exact#[.bl true,U,R,rfl,O]
abbrev tIf(t:TT)(ta tb:TE):TE:=λJ H Q=>t J H λc I=>if c=true then ta J I Q else tb J I Q
def Dh(Z:PT X c tA)(ha:PE X a ta)(hb:PE X b tb):PE X (.IfExp c a b pos) (tIf tA ta tb):=by
 intro ag s J H Q I h;refine wpAny_IfExp (cg (Z ag s J H _ I h) λd s1 Y=>x1_1 Y λU R O=>?_)
 cases d with
 | true=>exact ha ag s1 J U Q R O
 | false=>exact hb ag s1 J U Q R O
end
abbrev dz(K:W.Frag)(H:Hp)(a:Addr)(xs:List V):Prop :=
 Rd H a (.lst xs) \/
  ∃ (o:Obj) (bq:Array Value) (n:Nat),K.lookup a=some o/\o.cls=.type "list" /\ o.dict=none/\o.data=.seq bq n/\bq.size<=sizeLine/\Vals xs bq.toList
abbrev ed(K:W.Frag)(H:Hp)(a:Addr)(xs:List V):Prop :=
 Rd H a (.tup xs) \/
  ∃ (o:Obj) (bq:Array Value) (n:Nat),K.lookup a=some o/\o.cls=.type "tuple" /\ o.data=.seq bq n/\bq.size<=sizeLine/\Vals xs bq.toList
abbrev ON:Value->Option V
 | .none=>some .cb
 | .bool b=>some<|.bl b
 | .int i _=>some<|.int i
 | .str x _=>some<|.str x
 | .bytes b _=>some<|.o8 b
 | .float b _=>some<|.x5 b
 | .ref a=>some<|.ref a
 | .type n=>some<|.ty n
 | _=>none
def RelV.abs(r:RelV x u):ON u=some x:=by
 cases x with
 | cb=>cases r;rfl
 | bl _=>cases r;rfl
 | int _=>let#[t,rfl]:=r;rfl
 | str _=>let#[t,rfl]:=r;rfl
 | o8 _=>let#[t,rfl]:=r;rfl
 | x5 _=>let#[t,rfl]:=r;rfl
 | ref _=>cases r;rfl
 | ty _=>cases r;rfl
def RelV.inj(r:RelV x u)(q:RelV y u):x=y:=Option.some.inj<|r.abs.symm.trans q.abs
def Vals.inj:∀ {xs ys:List V} {us:List Value},Vals xs us->Vals ys us->xs=ys
 | _,_,_,.nil,.nil=>rfl
 | _,_,_,.cons r t,.cons r' t'=>by rw[r.inj r',Vals.inj t t']
section
variable{X:Cx}{ag:List (Addr × Obj)}{J:St}{H:Hp}{s:Shared}{a:Addr}{xs ys:List V}
def dz.of{K:W.Frag}(h:H a=some (.lst xs)):dz K H a xs:=.inl<|.inl h
def ed.of{K:W.Frag}(h:H a=some (.tup xs)):ed K H a xs:=.inl<|.inl h
def Inv.list(I:Inv X ag J H s)(h:dz X.K H a xs):∃ bq:List Value,Vals xs bq/\PlainL s.heap a bq.toArray/\xs.length<=sizeLine:=by
 rcases h with h | ⟨o,bq,n,R,U,hd,O,Y,r⟩
 ·let#[z,bq,n,r,e]:=h.ok I.b9;exact#[bq,r,#[_,n,e,rfl,rfl,rfl],z]
 ·refine#[bq.toList,r,#[o,n,I.h9 a o R,U,hd,by simpa using O],?_];have e:=r.length;simp only[length_toList]at e;omega
def Inv.tuple(I:Inv X ag J H s)(h:ed X.K H a xs):∃ bq:List Value,Vals xs bq/\IsTup s.heap a bq.toArray/\xs.length<=sizeLine:=by
 rcases h with h | ⟨o,bq,n,R,U,O,Y,r⟩
 ·let#[z,bq,r,p]:=h.ok I.b9;exact#[bq,r,p,z]
 ·refine#[bq.toList,r,#[o,I.h9 a o R,U,n,by simpa using O],?_];have e:=r.length;simp only[length_toList]at e;omega
def Inv.CK(I:Inv X ag J H s)(h:dz X.K H a xs)(h':dz X.K H a ys):xs=ys:=by
 let#[bq,r,#[o,n,e,_,_,d],_]:=I.list h;let#[O,U,#[o',Z,e',_,_,R],_]:=I.list h';rw[e]at e';cases e';rw[d]at R;injection R with Y _
 have:bq=O:=by simpa using congrArg Array.toList Y
 subst this;exact r.inj U
def Inv.Cg(I:Inv X ag J H s)(h:ed X.K H a xs)(h':ed X.K H a ys):xs=ys:=by
 let#[bq,r,#[o,e,_,n,d],_]:=I.tuple h;let#[O,U,#[o',e',_,Z,R],_]:=I.tuple h';rw[e]at e';cases e';rw[d]at R;injection R with Y _
 have:bq=O:=by simpa using congrArg Array.toList Y
 subst this;exact r.inj U
end
@[reducible]noncomputable def Cx.jJ(X:Cx)(E:Value->Shared->Prop):Cx:={ X with xe:=E }
@[reducible]noncomputable def Cx.lk(X:Cx):Cx:=X.jJ λ_ _=>False
def Cx.Ok.jJ{X:Cx}(ok:X.Ok)(E:Value->Shared->Prop):(X.jJ E).Ok :=
 ⟨ok.mod,ok.kind,ok.glob,ok.blt,ok.above,ok.inj,ok.has,ok.cab,ok.hd,ok.frames,ok.eo,ok.exf,ok.bs,ok.AB,ok.vU,ok.vY,ok.iA,ok.OX⟩
def Cx.Ok.hU{X:Cx}(ok:(X.jJ E).Ok):X.Ok :=
 ⟨ok.mod,ok.kind,ok.glob,ok.blt,ok.above,ok.inj,ok.has,ok.cab,ok.hd,ok.frames,ok.eo,ok.exf,ok.bs,ok.AB,ok.vU,ok.vY,ok.iA,ok.OX⟩
section
variable{X:Cx}{ag:List (Addr × Obj)}{J:St}{H:Hp}{s:Shared}{E:Value->Shared->Prop}
def Inv.jJ(I:Inv X ag J H s)(E:Value->Shared->Prop):Inv (X.jJ E) ag J H s:=#[I.ok.jJ E,I.os,I.bare,I.base,I.loc,I.cell,I.free,I.gw,I.pin,I.b9,I.len]
def Inv.hU(I:Inv (X.jJ E) ag J H s):Inv X ag J H s:=#[I.ok.hU,I.os,I.bare,I.base,I.loc,I.cell,I.free,I.gw,I.pin,I.b9,I.len]
def SP.hU(h:SP (X.jJ E) ag D f s'):SP X ag D f s':=by
 cases f with
 | next=>let#[O,H',I,q]:=h;exact#[O,H',I.hU,q]
 | brk=>let#[O,H',I,q]:=h;exact#[O,H',I.hU,q]
 | cont=>let#[O,H',I,q]:=h;exact#[O,H',I.hU,q]
 | ret u=>let#[v,O,H',I,r,q]:=h;exact#[v,O,H',I.hU,r,q]
def hY.lk{st:List Stmt}(h:hY X.lk st t):hY X st t:=λag s J H D I O =>
 wpAny_mono (h ag s J H D (I.jJ _) O) (λ_ _ q=>q.hU) λ_ _ z=>False.elim z
end
section
variable{X:Cx}{st:Stmt}{rest:List Stmt}{t u:TS}{e:Expr}{te:TE}{pos:Pos}
abbrev M5:TS:=λD J H=>D.nx J H
abbrev Oh(t u:TS):TS:=λD J H=>t { D with nx:=u D } J H
def qX:hY X [] M5:=λ_ _ J H _ I h=>wpAny_execs_nil ⟨J,H,I,h⟩
def de(U:PS X st t)(R:hY X rest u):hY X (st::rest) (Oh t u):=by
 intro ag s J H D I h;refine wpAny_execs_cons (cg (U ag s J H { D with nx:=u D } I h) λf s1 q=>?_)
 cases f with
 |next=>
  let#[O,H',Y,q]:=q;exact R ag s1 O H' D Y q
 | ret v=>exact q
 | brk=>exact q
 | cont=>exact q
def Ha(O:PS X st t):hY X [st] t:=by
 intro ag s J H D I h;refine wpAny_execs_cons (cg (O ag s J H D I h) λf s1 q=>?_)
 cases f with
 | next=>exact wpAny_execs_nil q
 | ret v=>exact q
 | brk=>exact q
 | cont=>exact q
def Inv.quiet(I:Inv X ag J H s):interactive X.env=false:=by simp[interactive,I.ok.kind]
abbrev mJ(te:TE):TS:=λD J H=>te J H λ_ I=>D.nx J I
def gJ(Y:PE X e te)(U:swapsWith e none pos.line X.env=pure false):PS X (.Expr e pos) (mJ te):=by
 intro ag s J H D I h;exact wpAny_Expr_any (cg (Y ag s J H _ I h) λv s1 O=>x2_2 O λx a Z r1 R=>#[J,a,Z,R]) I.quiet U
abbrev NY(te:TE):TS:=λD J H=>te J H D.rt
def qr(U:PE X e te):PS X (.Return (some e) pos) (NY te):=by
 intro ag s J H D I h;exact wpAny_Return_some (cg (U ag s J H _ I h) λv s1 O=>x2_2 O λx Z Y r1 R=>#[x,J,Z,Y,r1,R])
abbrev OH(c:TT)(t u:TS):TS:=λD J H=>c J H λb I=>if b=true then t D J I else u D J I
def yR(Z:PT X c tc)(ha:hY X a t)(hb:hY X b u):PS X (.If c a b pos) (OH tc t u):=by
 intro ag s J H D I h;refine wpAny_If (cg (Z ag s J H _ I h) λd s1 Y=>x1_1 Y λU R O=>?_)
 cases d with
 | true=>exact ha ag s1 J U D R O
 | false=>exact hb ag s1 J U D R O
abbrev K6:TS:=λ_ _ _=>False
def E5:PS X st K6:=λ_ _ _ _ _ _ h=>h.elim
end
@[reducible]noncomputable def TG:=V->St->Hp->(St->Hp->Prop)->Prop
@[reducible]noncomputable def Pb:=List V->St->Hp->(St->Hp->Prop)->Prop
abbrev PG(X:Cx)(target:Expr)(t:TG):Prop :=
 ∀ (ag:List (Addr × Obj)) (s:Shared) (J:St) (H:Hp) (v:V) (u:Value) (Q:St->Hp->Prop),Inv X ag J H s->RelV v u->t v J H Q ->
  wpAny (model X.prog X.w) X.A (assign target X.env u) (λ_ s'=>∃ I H',Inv X ag I H' s'/\Q I H') X.xe s
abbrev PGs(X:Cx)(O:List Expr)(t:Pb):Prop :=
 ∀ (ag:List (Addr × Obj)) (s:Shared) (J:St) (H:Hp) (vs:List V) (us:List Value) (Q:St->Hp->Prop),Inv X ag J H s->Vals vs us->t vs J H Q ->
  wpAny (model X.prog X.w) X.A (assignInOrder ((assignEach O X.env).map (·.2)) us) (λ_ s'=>∃ I H',Inv X ag I H' s'/\Q I H') X.xe s
@[reducible]noncomputable def K8:=V->V->V->Hp->(Hp->Prop)->Prop
abbrev Li(X:Cx)(t:K8):Prop :=
 ∀ (ag:List (Addr × Obj)) (s:Shared) (J:St) (H:Hp) (o i v:V) (ov I u:Value) (Q:Hp->Prop),Inv X ag J H s->RelV o ov->RelV i I->RelV v u->t o i v H Q ->
  wpAny (model X.prog X.w) X.A (setItem ov I u) (λ_ s'=>∃ H',Inv X ag J H' s'/\Q H') X.xe s
@[reducible]noncomputable def TIp:=V->V->Hp->VK->Prop
abbrev PIp(X:Cx)(I:Operator)(t:TIp):Prop :=
 ∀ (ag:List (Addr × Obj)) (s:Shared) (J:St) (H:Hp) (x y:V) (v u:Value) (Q:VK),Inv X ag J H s->RelV x v->RelV y u->t x y H Q ->
  wpAny (model X.prog X.w) X.A (inplaceOp I v u) (EP X ag J Q) X.xe s
section
variable{X:Cx}{pos:Pos}
abbrev nj(i:Nat):TG:=λv J H Q=>Q (J.set i<|some v) H
def nF(U:X.N.Nodup)(hi:X.N[i]?=some x)(O:Loc X.env.scope x)(R:X.fn x=true\/X.env.scope.names.lookup x=some .local):PG X (.Name x pos) (nj i):=by
 intro ag s J H v u Q I r h;exact wpAny_assign_Name (ji I U hi O r (λs' Y=>#[_,H,Y,h]) R)
abbrev Lq:Pb:=λvs J H Q=>vs=[]/\Q J H
abbrev EJ(t:TG)(u:Pb):Pb:=λvs J H Q=>∃ v r,vs=v::r/\t v J H λI H'=>u r I H' Q
def HH:PGs X [] Lq:=by
 intro ag s J H vs us Q I r h;let#[e,h]:=h;subst e;cases r;exact assignInOrder_nil ⟨J,H,I,h⟩
def DI(a:PG X e t)(Z:PGs X es u)
 (Y:(assignEach (e::es) X.env).map (·.2)=assign e X.env::(assignEach es X.env).map (·.2)):PGs X (e::es) (EJ t u):=by
 intro ag s J H vs us Q I r h;let#[v,vr,b,h]:=h;subst b
 cases r with
 |cons r R=>
  rw[Y];refine assignInOrder_cons (cg (a ag s J H _ _ _ I r h) λ_ s1 ⟨O,d,c,U⟩=>?_);exact Z ag s1 O d _ _ Q c R U
abbrev rP(K:W.Frag)(n:Nat)(t:Pb):TG:=λv J H Q=>∃ a xs,v=.ref a/\ed K H a xs/\xs.length=n/\t xs J H Q
def wX(d:X.calm=true)(h:PGs X es t)
 (hn:(assignEach es X.env).length=n)(R:(assignEach es X.env).findIdx? (·.1)=none):PG X (.Tuple es k pos) (rP X.K n t):=by
 intro ag s J H v u Q I r O;let#[a,xs,f,c,hl,O]:=O;subst f;cases r;let#[bq,U,Z,i]:=I.tuple c;refine assign_Tuple_tuple (I.ok.hd.1 d) Z (by simp[hn,<-hl,U.length]) R λh' Y=>?_;have g:=I.kept (t':=s.toks) λb o e=>Y b o (Qk<|Qg e) e;exact h ag _ J H xs _ Q g (by simpa using U) O
abbrev C7(to ti:TE)(t:K8):TG:=λv J H Q=>to J H λo O=>ti J O λi H2=>t o i v H2 λI=>Q J I
def K4(b:PE X o to)(hi:PE X i ti)(a:Li X t)
 (ha:∀ v,assign (.Subscript o i pos) X.env v=(do
   let ov <- holding [v] (eval o X.env)
   let R <- holding [v,ov] (eval i X.env)
   standAt pos
   holding [v,ov,R] (setItem ov R v)
   release [v,ov,R] []):=by intro _;rfl):PG X (.Subscript o i pos) (C7 to ti t):=by
 intro ag s J H v u Q I r h;refine J2 (wpAny_holding (cg (b ag s J H _ I h) λov s1 O=>x2_2 O λx g e r1 Z=>?_));refine J2 (wpAny_holding (cg (hi ag s1 J g _ e Z) λR s2 O=>x2_2 O λy H2 d r2 Y=>?_));refine J2 (wpAny_standAt (J2 (wpAny_holding (cg (a ag s2 J H2 x y v ov R u _ d r1 r2 r Y) λ_ j O=>x1_1 O λf c U=>?_))));exact wpAny_release ⟨J,f,c,U⟩
abbrev pe(te:TE)(g:TG):TS:=λD J H=>te J H λx I=>g x J I D.nx
def pA(a:PE X e te)(Z:PG X tg g)(Y:swapsWithSole [tg] e pos.line X.env=pure false)(U:swappedStores [tg] e X.env=pure none)
 (b:(assignEach [tg] X.env).map (·.2)=[assign tg X.env]):PS X (.Assign [tg] e pos) (pe te g):=by
 intro ag s J H D I h;refine wpAny_Assign_stores (cg (a ag s J H _ I h) λv s1 O=>x2_2 O λx d c r1 R=>?_) Y U;rw[b];exact cg (Z ag s1 J d x v _ c r1 R) λ_ s2 q=>q
def BD(b:X.N.Nodup)(hi:X.N[i]?=some x)(U:Loc X.env.scope x)(a:PE X e te)(Y:swapsWith e (some<|.Name x pos') pos.line X.env=pure false)(Z:X.fn x=true\/X.env.scope.names.lookup x=some .local) :
  PS X (.Assign [.Name x pos'] e pos) (pe te<|nj i):=by
 intro ag s J H D I h;refine wpAny_Assign_Name (cg (a ag s J H _ I h) λv s1 O=>x2_2 O λy f d r1 R=>?_) Y;exact ji d b hi U r1 (λs2 c=>#[_,f,c,R]) Z
abbrev Ly(i j:Nat)(I:TA):TS:=λD J H=>I J H λvs O=>∃ v w,vs=[v,w]/\D.nx ((J.set i<|some v).set j<|some w) O
def KN(z:X.calm=true)(g:X.N.Nodup)(hi:X.N[i]?=some x)(u:X.N[j]?=some y)(c:i≠j)
 (f:X.env.scope.names.lookup x=some .local)(d:X.env.scope.names.lookup y=some .local)(ha:PA X [a,b] ta)
 (t:swappedStores [.Tuple [.Name x px,.Name y py] kt pt] (.Tuple [a,b] k2 pt2) X.env=pure (some [x,y]))
 (QN:swapsWithSole [.Tuple [.Name x px,.Name y py] kt pt] (.Tuple [a,b] k2 pt2) pos.line X.env=pure false) :
  PS X (.Assign [.Tuple [.Name x px,.Name y py] kt pt] (.Tuple [a,b] k2 pt2) pos) (Ly i j ta):=by
 intro ag s J H D I h;refine J2<|wpAny_standAt ?_;refine J2<|Qa ?_;refine J2 (Tuple_ (cg (ha _ ag s J H _ I h) λus s1 m=>x2_2 m λvs l F r1 Y=>?_));let#[v,w,A,Y]:=Y;subst A
 let#[R,O,rfl,n,U]:∃ R O,us=[R,O]/\RelV v R/\RelV w O:=by
  cases r1 with
  |cons p q=>
   cases q with
   |cons r q'=>
    cases q';exact#[_,_,rfl,p,r]
 refine wpAny_newObj_type ?_ (by show 2<=sizeLine;decide);have E:Inv X ag J l { s1 with heap:=s1.heap.push { cls:=.type "tuple",data:=.seq [R,O].toArray } }:=F.kept λb o e=>Qb _ e;rw[t];refine J2<|Qa ?_;refine J2 (wpAny_rule (J2 (unpackItems_tuple (items:=(List.toArray [R,O])) (I.ok.hd.1 z) (IsTup.new s1.heap _) λh' Z=>?_)));have C:=E.kept (t':=s1.toks) λb o e=>Z b o (Qk<|Qg e) e;refine J2 (assignInOrder_cons (wpAny_bindName (ji C g u (.inl d) U (λs2 B=>?_)<|.inr d)));refine assignInOrder_cons (wpAny_bindName (ji B g hi (.inl f) n (λG k=>assignInOrder_nil<|Qa ?_)<|.inr f));rw[List.set_comm _ _<|Ne.symm c]at k;exact#[_,l,k,Y]
abbrev Ep(i:Nat)(te:TE)(ti:TIp):TS:=λD J H=>∃ x,J[i]?=some (some x)/\te J H λy I=>ti x y I λz H2=>D.nx (J.set i<|some z) H2
def wF(o:X.N.Nodup)(hi:X.N[i]?=some x)(a:Loc X.env.scope x)(j:PE X e te)(f:PIp X op ti)(g:X.fn x=true\/X.env.scope.names.lookup x=some .local) :
  PS X (.AugAssign (.Name x pos') op e pos) (Ep i te ti):=by
 intro ag s J H D I h;let#[v,p,h]:=h;let#[m,hn,hl]:=I.loc
 have x7:vl X.env.scope x:=by rcases a with k | k;exact .inl k;exact .inr<|.inl k
 let#[u,r,l]:=hl i x v hi p x7;refine wpAny_AugAssign_Name ?_
 have go:wpAny (model X.prog X.w) X.A (eval e X.env) (λw Y=>wpAny (model X.prog X.w) X.A (inplaceOp op u w) (λr U=>wpAny (model X.prog X.w) X.A (storeName X.env x r) (λ_=>SP X ag D .next) X.xe U) X.xe Y) X.xe s:=by
  refine cg (j ag s J H _ I h) λw s1 Z=>x2_2 Z λy C B r1 d=>?_;refine cg (f ag s1 J C v y u w _ B r r1 d) λz s2 Z=>x2_2 Z λE H2 t r2 b=>?_;exact ji t o hi a r2 (λF q=>#[_,H2,q,b]) g
 rcases l with⟨O,hm⟩ | ⟨O,c,n,R⟩
 ·exact wpAny_loadName_local I.ok.kind O hn hm go
 ·rcases O with O | O
  ·exact wpAny_loadName_cell I.ok.kind O n R go
  ·rcases a with k | k
   ·have:X.env.scope.names.lookup x=some .free:=O;rw[k]at this;cases this
   ·have:X.env.scope.names.lookup x=some .free:=O;rw[k]at this;cases this
abbrev ipI(f:Int->Int->Int):TIp:=λx y H Q=>∃ i j,x=.int i/\y=.int j/\Q (.int<|f i j) H
def KP:PIp X .Add (ipI λi j=>i+j):=by
 intro ag s J H x y v u Q I r1 r2 h;let#[i,j,R,O,q]:=h;subst R;subst O;let#[t,rfl]:=r1;let#[U,rfl]:=r2;exact iadd_int ⟨.int _,H,I.tok _,⟨_,rfl⟩,q⟩
def Mj:PIp X .Sub (ipI λi j=>i-j):=by
 intro ag s J H x y v u Q I r1 r2 h;let#[i,j,R,O,q]:=h;subst R;subst O;let#[t,rfl]:=r1;let#[U,rfl]:=r2;exact isub_int ⟨.int _,H,I.tok _,⟨_,rfl⟩,q⟩
end
section
variable{X:Cx}{pos:Pos}
abbrev JH(c:TT)(tb:TS):TS:=λD J H=>∃ W:Nat->St->Hp->Prop,(∃ m,W m J H)/\∀ m J H,W m J H ->
 c J H λb R=>if b=true then ∃ N:St->Hp->Prop,(∀ I H',N I H'->∃ O,O<m/\W O I H')/\tb { D with nx:=N,ct:=N,bk:=D.nx } J R else D.nx J R
def D9(i:PassesOwn (model X.prog X.w) X.A X.env X.xe)(r:PT X c tc)(hb:hY X body tb):PS X (.While c body [] pos) (JH tc tb):=by
 intro ag s J H D I h;let#[W,#[q,p],turn]:=h;refine wpAny_While (codeAny_whileLoop (λn s'=>∃ U H',Inv X ag U H' s'/\W n U H') ?_ q ⟨J,H,I,p⟩);rintro n s1 ⟨R,l,t,o⟩;refine wpAny_passesOwn i (cg (r ag s1 R l _ t<|turn n R l o) λb s2 m=>x1_1 m λH2 k a=>?_)
 cases b with
 |true=>
  let#[N,j,a]:=a;refine wpAny_passesOwn i (cg (hb ag s2 R H2 _ k a) λf u Z=>?_)
  cases f with
  |next=>
   let#[O,Y,g,n3]:=Z;let#[e,hm,d]:=j O Y n3;exact#[e,hm,O,Y,g,d]
  |cont=>
   let#[O,Y,g,n3]:=Z;let#[e,hm,d]:=j O Y n3;exact#[e,hm,O,Y,g,d]
  | brk=>exact Z
  | ret v=>exact Z
 |false=>
  exact wpAny_execs_nil ⟨R,H2,k,a⟩
end
structure It where
 go:Nat->Hp->Prop
 n7:Nat->Hp->V->Hp->Prop
 stop:Nat->Hp->Prop
abbrev kM(X:Cx)(ag:List (Addr × Obj))(H:Hp)(b:Addr):Prop :=
 H b=none/\b≠X.env.locals/\b∉X.fs/\(b∈X.ex\/X.s₀.heap.objs.size<=b)/\(∀ x c,X.env.cells.lookup x=some c->c≠b)/\∀ p∈X.pn++ag,p.1≠b
def Inv.sH(I:Inv X ag J H s)(hb:s.heap.objs.size<=b)(hn:H' b=none):kM X ag H' b:=by
 refine#[hn,Nat.ne_of_gt<|Qi I.lt hb,I.NX hb,.inr<|Qp I.sz hb,λx c e z=>?_,λp O z=>?_]
 ·let#[v,q]:=I.cell x c e;exact absurd (Qi q.lt<|by rw[z];exact hb)<|QK _
 ·exact absurd (Qi (Qg (I.pin p O).1)<|by rw[z];exact hb)<|QK _
structure EU(CM:Cx->Prop)(P:Program)(w:World)(K:W.Frag)(tg:Expr)(QN:It)(fp:List Addr)(it:Addr)(tn:Nat->Heap->Prop):Prop where
 mem:it∈fp
 obj:∀ i h,tn i h->∀ b∈fp,∃ o,h.get? b=some o/\∀ v,o.data≠.cell v
 keep:∀ i h h',tn i h->(∀ b∈fp,∀ o,h.get? b=some o->h'.get? b=some o)->tn i h'
 item:∀ (X:Cx),X.prog=P->X.w=w->X.K=K->CM X->∀ (i:Nat) (ag:List (Addr × Obj)) (s:Shared) (J:St) (H:Hp) (E:Value->Shared->Prop),Inv X ag J H s->(∀ b∈fp,kM X ag H b)->tn i s.heap->QN.go i H ->
  wpAny (model P w) X.A (pyNext<|.ref it) (λr s1=>∃ u,r=some u /\
   wpAny (model P w) X.A (letOwnedTupleGo tg (.ref it) u) (λ_ s2=>∃ x H',Inv X ag J H' s2/\RelV x u/\QN.n7 i H x H'/\tn (i+1) s2.heap/\∀ b∈fp,H' b=none) E s1) E s
 done:∀ (X:Cx),X.prog=P->X.w=w->X.K=K->CM X->∀ (i:Nat) (ag:List (Addr × Obj)) (s:Shared) (J:St) (H:Hp) (E:Value->Shared->Prop),Inv X ag J H s->(∀ b∈fp,kM X ag H b)->tn i s.heap->QN.stop i H ->
  wpAny (model P w) X.A (pyNext<|.ref it) (λr s1=>r=none/\Inv X ag J H s1) E s
 self:∀ (A:Around) (i:Nat) (s:Shared) (Q:Value->Shared->Prop) (E:Value->Shared->Prop),tn i s.heap->Q (.ref it) s->wpAny (model P w) A (pyIter<|.ref it) Q E s
@[reducible]noncomputable def Calm:Cx->Prop:=λX=>X.calm=true
@[reducible]noncomputable def Turn:=EU Calm
@[reducible]noncomputable def TI:=St->Hp->(It->Hp->Prop)->Prop
abbrev JG(CM:Cx->Prop)(X:Cx)(ag:List (Addr × Obj))(J:St)(tg:Expr)(R:It->Hp->Prop)(I:Value)(s2:Shared):Prop :=
 ∃ (it:Addr) (fp:List Addr) (tn:Nat->Heap->Prop) (QN:It) (H':Hp),I=.ref it/\Inv X ag J H' s2/\EU CM X.prog X.w X.K tg QN fp it tn/\tn 0 s2.heap/\(∀ b∈fp,kM X ag H' b)/\R QN H'
@[reducible]noncomputable def PIE:=JG Calm
abbrev PI'(CM:Cx->Prop)(X:Cx)(tg iter:Expr)(I:TI):Prop :=
 ∀ (ag:List (Addr × Obj)) (s:Shared) (J:St) (H:Hp) (R:It->Hp->Prop),Inv X ag J H s->I J H R ->
  wpAny (model X.prog X.w) X.A (eval iter X.env) (λv s1=>wpAny (model X.prog X.w) X.A (pyIter v) (JG CM X ag J tg R) X.xe s1) X.xe s
@[reducible]noncomputable def PI:=PI' Calm
def pR(O:s.heap.get? it=some o)(R:o.cls=.type n)(hd:o.data=.fields vs)
 (hn:["enumerate", "zip", "dict_itemiterator", "dict_reverseitemiterator", "odict_iterator", "itertools.zip_longest", "itertools.pairwise"].contains n=false)(I:Q ⟨⟩ s):wpAny M A (letOwnedTupleGo tg (.ref it) u) Q E s:=by
 unfold letOwnedTupleGo
 cases tg<;>first
  | exact Qa I
  | (cases u<;>first
    | exact Qa I
    | (refine J2 (wpAny_load O ?_)
       rw[R,hd];show wpAny M A (if(["enumerate", "zip", "dict_itemiterator", "dict_reverseitemiterator", "odict_iterator", "itertools.zip_longest", "itertools.pairwise"].contains n&&vs[0]? == some (rawInt _))=true then _ else _) Q E s;rw[if_neg (by intro h;rw[hn,Bool.false_and]at h;cases h)]
       exact Qa I))
abbrev Itl(K:W.Frag)(a:Addr):It :=
 ⟨λi H=>∃ xs x,dz K H a xs/\xs[i]?=some x,λi H x H'=>H'=H/\∀ xs,dz K H a xs->xs[i]?=some x,λi H=>∃ xs,dz K H a xs/\xs.length<=i⟩
abbrev Itt(K:W.Frag)(a:Addr):It :=
 ⟨λi H=>∃ xs x,ed K H a xs/\xs[i]?=some x,λi H x H'=>H'=H/\∀ xs,ed K H a xs->xs[i]?=some x,λi H=>∃ xs,ed K H a xs/\xs.length<=i⟩
abbrev Itr(lo:Int)(n:Nat):It:=#[λi _=>i<n,λi H x H'=>H'=H/\x=.int (lo+i),λi _=>n<=i]
def Bx{P:Program}{w:World}{K:W.Frag}(a it:Addr):Turn P w K tg (Itl K a) [it] it (λi h=>h.IsListIter it a i) where
 mem:=by simp
 obj:=λi h st b hb=>by
  have e:b=it:=by simpa using hb
  subst e;let#[o,e,c,d]:=st;exact⟨o,e,λv z=>by rw[d]at z;cases z⟩
 keep:=λi h h' st k=>st.at λo e=>k it (by simp) o e
 item:=by
  intro X j f l y i ag s J H E I U st g;subst j f l;let#[xs,x,R,Z]:=g;let#[bq,Y,p,B]:=I.list R;let#[u,hu,A]:=Y.get Z;let#[t,r,D,q,n,m]:=U it (by simp);refine wpAny_pyNext_list_item st p.isList (by simpa using hu) λh' O sb=>?_;have G:=I.turned (t':=s.toks) (λb o hb e=>(sb.2 b hb).trans e) t r q n m;let#[o,e,c,d]:=id O;exact#[u,rfl,pR e c d ∅ #[x,H,G,A,#[rfl,λys C=>by rw[I.CK C R];exact Z],O,λb hb=>(U b hb).1]]
 done:=by
  intro X j f l y i ag s J H E I U st g;subst j f l;let#[xs,R,Z]:=g;let#[bq,Y,p,B]:=I.list R;let#[t,r,D,q,n,m]:=U it (by simp);have hl:=Y.length
  exact wpAny_pyNext_list_end (I.ok.hd.1 y) st p.isList (by simp;omega) λh' F=>#[rfl,I.turned (λb o hb e=>F b o hb e) t r q n m]
 self:=λ_ _ _ _ _ st h=>wpAny_pyIter_listiter st h
def Am{P:Program}{w:World}{K:W.Frag}(a it:Addr):Turn P w K tg (Itt K a) [it] it (λi h=>h.IsTupleIter it a i) where
 mem:=by simp
 obj:=λi h st b hb=>by
  have e:b=it:=by simpa using hb
  subst e;let#[o,e,c,d]:=st;exact⟨o,e,λv z=>by rw[d]at z;cases z⟩
 keep:=λi h h' st k=>st.at λo e=>k it (by simp) o e
 item:=by
  intro X j f l y i ag s J H E I U st g;subst j f l;let#[xs,x,R,Z]:=g;let#[bq,Y,p,B]:=I.tuple R;let#[u,hu,A]:=Y.get Z;let#[t,r,D,q,n,m]:=U it (by simp);refine wpAny_pyNext_tuple_item st (show s.heap.IsTuple a bq.toArray from p) (by simpa using hu) λh' O sb=>?_;have G:=I.turned (t':=s.toks) (λb o hb e=>(sb.2 b hb).trans e) t r q n m;let#[o,e,c,d]:=id O;exact#[u,rfl,pR e c d ∅ #[x,H,G,A,#[rfl,λys C=>by rw[I.Cg C R];exact Z],O,λb hb=>(U b hb).1]]
 done:=by
  intro X j f l y i ag s J H E I U st g;subst j f l;let#[xs,R,Z]:=g;let#[bq,Y,p,B]:=I.tuple R;let#[t,r,D,q,n,m]:=U it (by simp);have hl:=Y.length
  exact wpAny_pyNext_tuple_end (I.ok.hd.1 y) st (show s.heap.IsTuple a bq.toArray from p) (by simp;omega) λh' F=>#[rfl,I.turned (λb o hb e=>F b o hb e) t r q n m]
 self:=λ_ _ _ _ _ st h=>wpAny_pyIter_tupleiter st h
def zC{P:Program}{w:World}{K:PySem.W.Frag}(it:Addr)(lo:Int)(n:Nat):Turn P w K tg (Itr lo n) [it] it (λi h=>IsRangeIter h it (lo+(i:Nat)*1) ((n:Int)-(i:Nat)) 1) where
 mem:=by simp
 obj:=λi h st b hb=>by
  have e:b=it:=by simpa using hb
  subst e
  exact⟨_,st,λv z=>by
   have m:=z
   cases m⟩
 keep:=λi h h' st k=>k it (by simp) _ st
 item:=by
  intro X j g l Y i ag s J H E I R st U;subst j g l;let#[f,d,u,c,a,Z]:=R it (by simp);have W:=Walks.range (prog:=X.prog) (w:=X.w) (I.ok.hd.1 Y) it lo 1 n;refine W.item i s _ _ U st λv h' p r O q=>?_;let#[t,rfl]:=r;have y:Inv X ag J H { s with heap:=h',toks:=p }:=I.turned (λb o hb e=>q b o (by simpa using hb) e) f d c a Z;refine#[_,rfl,pR O rfl rfl ∅ #[.int<|lo+i,H,y,#[t,?_],#[rfl,rfl],O,λb hb=>(R b hb).1]];rw[Int.mul_one]
 done:=by
  intro X j g l Y i ag s J H E I R st U;let#[f,d,u,c,a,Z]:=R it<|by simp
  exact wpAny_pyNext_range_end (I.ok.hd.1 Y) st (by have:n<=i:=U;omega) λh' x=>#[rfl,I.turned (λb o hb e=>x b o hb e) f d c a Z]
 self:=λ_ _ _ _ _ st h=>wpAny_pyIter_rangeiter st h
section
variable{X:Cx}{tg:Expr}
def vh{ag:List (Addr × Obj)}{J:St}{H:Hp}{s:Shared}{R:It->Hp->Prop}{E:Value->Shared->Prop}{lo hi:Int}{t u v:Tok}{O:Nat}(I:Inv X ag J H s)(c:-(2 ^ 62)<=lo)(a:lo<2 ^ 62)(Z:-(2 ^ 62)<=hi)(Y:hi<2 ^ 62)
 (q:R (Itr lo (hi-lo).toNat) H):wpAny (model X.prog X.w) X.A (pyIter<|.ref s.heap.objs.size) (PIE X ag J tg R) E { s with heap:=s.heap.push { cls:=.type "range",data:=.fields (List.toArray [.int lo t,.int hi u,.int 1 v]) },toks:=O }:=by
 refine wpAny_pyIter_range (IsRange.new ..) (small_one c a Z Y) ?_;have U:Inv X ag J H { s with heap:=s.heap.push { cls:=.type "range",data:=.fields (List.toArray [.int lo t,.int hi u,.int 1 v]) },toks:=O }:=I.kept λb o e=>Qb _ e
 refine⟨(s.heap.push { cls:=.type "range",data:=.fields (List.toArray [.int lo t,.int hi u,.int 1 v]) }).objs.size,[(s.heap.push { cls:=.type "range",data:=.fields (List.toArray [.int lo t,.int hi u,.int 1 v]) }).objs.size],_,_,H,rfl,
  U.kept (t':=O) λb o e=>Qb _ e,zC _ lo (hi-lo).toNat,?_,λb hb=>?_,q⟩
 ·have f:lo+((0:Nat):Int)*1=lo:=by simp
  have d:(((hi-lo).toNat:Nat):Int)-((0:Nat):Int)=Builtin.Range.rangeSize lo hi 1:=by rw[rangeSize_one];split<;>omega
  show IsRangeIter _ _ (lo+((0:Nat):Int)*1) ((((hi-lo).toNat:Nat):Int)-((0:Nat):Int)) 1;rw[f,d];exact Qf _ rfl
 ·have e:b=(s.heap.push { cls:=.type "range",data:=.fields (List.toArray [.int lo t,.int hi u,.int 1 v]) }).objs.size:=by simpa using hb
  subst e;exact U.sH (Qc _)<|U.b9.fresh<|Qc _
abbrev Mr(I:TA):TI:=λJ H R=>I J H λvs O=>∃ j:Int,vs=[.int j]/\-(2 ^ 62)<=j/\j<2 ^ 62/\R (Itr 0 j.toNat) O
abbrev MC(I:TA):TI:=λJ H R=>I J H λvs O=>∃ i j:Int,vs=[.int i,.int j]/\(-(2 ^ 62)<=i/\i<2 ^ 62/\-(2 ^ 62)<=j/\j<2 ^ 62)/\R (Itr i (j-i).toNat) O
def BM{a:Expr}{Y:TA}{p O:Pos}(f:Gl X "range")(hm:X.mg "range" = none)(ha:PA X [a] Y)(d:starEach [a] X.env=[(false,eval a X.env)]):PI X tg (.Call (.Name "range" p) [a] [] O) (Mr Y):=by
 intro ag s J H R I h;refine Call_ (kf I f hm boot_range (PyProof.Rows.callWith_type1 (cg (ha O ag s J H _ I h) λus s1 Z=>x2_2 Z λvs i g r1 U=>?_) d rfl) ∅ ∅);let#[j,e,U,c,q]:=U;subst e
 cases r1 with
 |cons r b=>
  cases b;let#[t,rfl]:=r;exact call_range_1<|vh g (by omega) (by omega) U c<|by simpa using q
def Cv(l:Gl X "range")(hm:X.mg "range" = none)(ha:PA X [a,b] ta)(k:starEach [a,b] X.env=[(false,eval a X.env),(false,eval b X.env)])(O:starEach [b] X.env=[(false,eval b X.env)]) :
  PI X tg (.Call (.Name "range" p) [a,b] [] pos) (MC ta):=by
 intro ag s J H R I h;refine Call_ (kf I l hm boot_range (PyProof.Rows.callWith_type1 (cg (ha pos ag s J H _ I h) λus s1 Z=>x2_2 Z λvs o m r1 Y=>?_) (by rw[k,O])<|by rw[O];rfl) ∅ ∅);let#[i,j,e,#[Y,g,f,d],q]:=Y;subst e
 cases r1 with
 |cons r U=>
  cases U with
  |cons c U=>
   cases U;let#[t,rfl]:=r;let#[n,rfl]:=c;exact call_range_2<|vh m Y g f d q
abbrev OE(U:TI)(g:TG)(tb:TS):TS:=λD J H=>U J H λQN Y=>∃ W:Nat->Nat->St->Hp->Prop,(∃ m,W 0 m J Y)/\∀ i m J H,W i m J H ->
 (QN.stop i H/\D.nx J H)\/(QN.go i H/\∃ N:St->Hp->Prop,(∀ I H',N I H'->∃ R,R<m/\W (i+1) R I H')/\∀ x H',QN.n7 i H x H'->g x J H' λO H2=>tb { D with nx:=N,ct:=N,bk:=D.nx } O H2)
abbrev ma(fp:List Addr)(h:Heap):List (Addr × Obj):=fp.filterMap λb=>(h.get? b).map λo=>(b,o)
def iK(hb:b∈fp)(e:h.get? b=some o):(b,o)∈ma fp h:=List.mem_filterMap.mpr ⟨b,hb,by rw[e];rfl⟩
def AZ(I:p∈ma fp h):p.1∈fp/\h.get? p.1=some p.2:=by
 let#[b,hb,e]:=List.mem_filterMap.mp I
 cases q:h.get? b with
 | none=>rw[q]at e;cases e
 |some o=>
  rw[q]at e;have e':=Option.some.inj e;subst e';exact#[hb,q]
def Inv.pinned(I:Inv X ag J H s)(U:∀ b∈fp,kM X ag H b)(R:∀ b∈fp,∃ o,s.heap.get? b=some o/\∀ v,o.data≠.cell v):Inv X (ag++ma fp s.heap) J H s :=
 I.xy λp O=>(List.mem_append.mp O).elim (λz=>I.pin p<|Qr _ z) λz=>by
  let#[hb,e]:=AZ z;let#[a,Z,Y,_]:=U p.1 hb;let#[o,e',d]:=R p.1 hb;rw[e]at e';cases e';exact#[e,a,Z,Y,d]
def Inv.k8(I:Inv X (ag++pl) J H s):Inv X ag J H s:=I.xy λp O=>I.pin p<|Qr _<|List.mem_append_left _ O
def Kp(p:PassesOwn (model X.prog X.w) X.A X.env X.xe)(L:X.calm=true)(hi:PI X tg iter wi)(hg:PG X tg g)(hb:hY X body tb)
 (hs:∀ x,foldedSetIterable iter X.env x=pure x):PS X (.For tg iter body [] pos) (OE wi g tb):=by
 intro ag s J H D I h;refine wpAny_For (cg (hi ag s J H _ I h) λv s1 h1=>cg h1 λitv s2 h2=>?_) hs;let#[it,fp,tn,QN,H2,e,I2,T,z,M,W,#[m0,w0],turn]:=h2;subst e
 have Y:∀ {H':Hp},(∀ b∈fp,H' b=none)->∀ b∈fp,kM X ag H' b:=λhn b hb=>#[hn b hb,(M b hb).2]
 refine codeAny_forLoop_any (λn s'=>∃ i U H',Inv X ag U H' s'/\tn i s'.heap/\(∀ b∈fp,H' b=none)/\W i n U H') ?_ m0 ⟨0,J,H2,I2,z,λb hb=>(M b hb).1,w0⟩;rintro n K ⟨i,R,t,P,k,q,w3⟩
 rcases turn i n R t w3 with⟨stop,qn⟩ | ⟨go,N,hN,step⟩
 ·refine wpAny_passesOwn p (cg (T.done X rfl rfl rfl L i ag K R t X.xe P (Y q) k stop) λr s4 ⟨C,I4⟩=>?_);subst C;exact wpAny_execs_nil ⟨R,t,I4,qn⟩
 ·refine wpAny_passesOwn p (cg (T.item X rfl rfl rfl L i ag K R t X.xe P (Y q) k go) λr s4 ⟨u,C,h4⟩=>?_);subst C;refine wpAny_passesOwn p (cg h4 λ_ G ⟨x,Q,I5,r5,S,j,E⟩=>?_);have F:=I5.pinned (Y E)<|T.obj _ _ j;refine wpAny_passesOwn p (cg (hg _ G R Q x u _ F r5<|step x Q S) λ_ s6 ⟨y,H6,I6,q6⟩=>?_);refine wpAny_passesOwn p (cg (hb _ s6 y H6 _ I6 q6) λf B c=>?_)
  have again:∀ {O:St} {a:Hp},Inv X (ag++ma fp G.heap) O a B->N O a->∃ m,m<n/\∃ i U H',Inv X ag U H' B/\tn i B.heap/\(∀ b∈fp,H' b=none)/\W i m U H':=λ{O a} Z l=>by
   let#[m',hm,w7]:=hN O a l;refine#[m',hm,i+1,O,a,Z.k8,T.keep _ _ _ j λb hb o e=>(Z.pin (b,o)<|Qr _<|Qr _<|iK hb e).1,λb hb=>?_,w7];let#[o,e,d]:=T.obj _ _ j b hb;exact(Z.pin (b,o)<|Qr _<|Qr _<|iK hb e).2.1
  cases f with
  | next=>let#[O,a,Z,l]:=c;exact again Z l
  | cont=>let#[O,a,Z,l]:=c;exact again Z l
  | brk=>let#[O,a,Z,c]:=c;exact#[O,a,Z.k8,c]
  | ret v=>let#[V,O,a,Z,r7,c]:=c;exact#[V,O,a,Z.k8,r7,c]
end
@[reducible]noncomputable def R2:=V->V->Hp->VK->Prop
abbrev hE(X:Cx)(f:Value->Value->Sem Value)(r:R2):Prop :=
 ∀ (ag:List (Addr × Obj)) (s:Shared) (J:St) (H:Hp) (x y:V) (v u:Value) (Q:VK),Inv X ag J H s->RelV x v->RelV y u->r x y H Q ->
  wpAny (model X.prog X.w) X.A (f v u) (EP X ag J Q) X.xe s
abbrev UnR(X:Cx)(f:Value->Sem Value)(r:V->Hp->VK->Prop):Prop :=
 ∀ (ag:List (Addr × Obj)) (s:Shared) (J:St) (H:Hp) (x:V) (v:Value) (Q:VK),Inv X ag J H s->RelV x v->r x H Q ->
  wpAny (model X.prog X.w) X.A (f v) (EP X ag J Q) X.xe s
abbrev bM(X:Cx)(f:Value)(r:List V->Hp->VK->Prop):Prop :=
 ∀ (ag:List (Addr × Obj)) (s:Shared) (J:St) (H:Hp) (xs:List V) (us:List Value) (Q:VK),Inv X ag J H s->Vals xs us->r xs H Q ->
  wpAny (model X.prog X.w) X.A (call f us) (EP X ag J Q) X.xe s
abbrev O4(X:Cx)(r:V->Hp->(Bool->Hp->Prop)->Prop):Prop :=
 ∀ (ag:List (Addr × Obj)) (s:Shared) (J:St) (H:Hp) (x:V) (v:Value) (Q:Bool->Hp->Prop),Inv X ag J H s->RelV x v->r x H Q ->
  wpAny (model X.prog X.w) X.A (truthy v) (TP X ag J Q) X.xe s
abbrev tOp(r:R2)(I tb:TE):TE:=λJ H Q=>I J H λx O=>tb J O λy H2=>r x y H2 Q
abbrev tUn(r:V->Hp->VK->Prop)(I:TE):TE:=λJ H Q=>I J H λx O=>r x O Q
abbrev rI(C:Int->Int->Prop)(g:Int->Int->V):R2:=λx y H Q=>∃ i j,x=.int i/\y=.int j/\C i j/\Q (g i j) H
abbrev rI0(g:Int->Int->V):R2:=λx y H Q=>∃ i j,x=.int i/\y=.int j/\Q (g i j) H
abbrev rU(g:Int->V):V->Hp->VK->Prop:=λx H Q=>∃ i,x=.int i/\Q (g i) H
section
variable{X:Cx}{a b c:Expr}{ta tb tc:TE}{pos:Pos}
def Di(ha:PE X a ta)(hb:PE X b tb){ag:List (Addr × Obj)}{s:Shared}{J:St}{H:Hp}{R:V->V->Hp->Prop}(I:Inv X ag J H s)
 (h:ta J H λx Z=>tb J Z λy H2=>R x y H2){Q:Value->Shared->Prop}{f:Value->Value->Sem Value}
 (e:∀ v u s2 x y H2,Inv X ag J H2 s2->RelV x v->RelV y u->R x y H2->wpAny (model X.prog X.w) X.A (f v u) Q X.xe s2) :
  wpAny (model X.prog X.w) X.A (eval a X.env) (λv U=>wpAny (model X.prog X.w) X.A (eval b X.env) (λu O=>wpAny (model X.prog X.w) X.A (f v u) Q X.xe O) X.xe U) X.xe s:=by
 refine cg (ha ag s J H _ I h) λv s1 Y=>x2_2 Y λx Z i r1 d=>?_;refine cg (hb ag s1 J Z _ i d) λu s2 Y=>x2_2 Y λy H2 g r2 c=>?_;exact e v u s2 x y H2 g r1 r2 c
def MU{O:Operator}{r:R2}(Y:hE X (binaryOp O) r)(ha:PE X a ta)(hb:PE X b tb):PE X (.BinOp a O b pos) (tOp r ta tb):=by
 intro ag s J H Q I h;exact wpAny_BinOp (Di ha hb I h λv u s2 x y H2 Z U R q=>Y ag s2 J H2 x y v u Q Z U R q)
def ET(U:UnR X (unaryOp op) r)(ha:PE X a ta):PE X (.UnaryOp op a pos) (tUn r ta):=by
 intro ag s J H Q I h;exact UnaryOp_ (cg (ha ag s J H _ I h) λv s1 O=>x2_2 O λx Z Y r1 R=>U ag s1 J Z x v Q Y r1 R)
def opI{f:Value->Value->Sem Value}{C:Int->Int->Prop}{g:Int->Int->Int}
 (rule:∀ (i j:Int) (t u:Tok) (s:Shared) (Q:Value->Shared->Prop) (E:Value->Shared->Prop),C i j->Q (.int (g i j) s.toks) { s with toks:=s.toks+1 }->wpAny (model X.prog X.w) X.A (f (.int i t)<|.int j u) Q E s) :
  hE X f (rI C λi j=>.int<|g i j):=by
 intro ag s J H x y v u Q I U R h;let#[i,j,rfl,rfl,Y,q]:=h;let#[t,rfl]:=U;let#[O,rfl]:=R;exact rule i j t O s _ _ Y ⟨.int<|g i j,H,I.tok _,⟨_,rfl⟩,q⟩
def Il{f:Value->Value->Sem Value}{g:Int->Int->Int}
 (rule:∀ (i j:Int) (t u:Tok) (s:Shared) (Q:Value->Shared->Prop) (E:Value->Shared->Prop),Q (.int (g i j) s.toks) { s with toks:=s.toks+1 }->wpAny (model X.prog X.w) X.A (f (.int i t)<|.int j u) Q E s) :
  hE X f (rI0 λi j=>.int<|g i j):=by
 intro ag s J H x y v u Q I U R h;let#[i,j,rfl,rfl,q]:=h;let#[t,rfl]:=U;let#[O,rfl]:=R;exact rule i j t O s _ _ ⟨.int<|g i j,H,I.tok _,⟨_,rfl⟩,q⟩
abbrev Kx(i j:Int):Prop:=0<=j/\j<=1000000/\i.natAbs<2 ^ 64
abbrev zx(i j:Int):Prop:=(-(2 ^ 64)<i/\i<2 ^ 64)\/(-(2 ^ 64)<j/\j<2 ^ 64)
def zx.ok(h:zx i j):IntMulOk i j:=by
 rcases h with⟨O,I⟩ | ⟨O,I⟩
 ·exact .of_left<|intBits_le_64 O I
 ·exact .of_right<|intBits_le_64 O I
def HN:hE X (binaryOp .Add) (rI0 λi j=>.int<|i+j):=Il λ_ _ _ _ _ _ _ q=>add_int q
def Kb:hE X (binaryOp .Sub) (rI0 λi j=>.int<|i-j):=Il λ_ _ _ _ _ _ _ q=>sub_int q
def JF:hE X (binaryOp .Mult) (rI zx λi j=>.int<|i*j):=opI λ_ _ _ _ _ _ _ I q=>mul_int q I.ok
def Lp:hE X (binaryOp .Mod) (rI (λ_ j=>0<j) λi j=>.int<|i%j):=opI λi j _ _ _ _ _ I q=>by
 have O:(0:Int)<j:=I;exact mod_int' (by omega)<|by rw[Int.fmod_eq_emod_of_nonneg i<|by omega];exact q
def K5:hE X (binaryOp .Pow) (rI Kx λi j=>.int<|i ^ j.toNat):=opI λ_ _ _ _ _ _ _ I q=>pow_int_small I.1 I.2.1 I.2.2 q
def unI{f:Value->Sem Value}{g:Int->Int}
 (rule:∀ (i:Int) (t:Tok) (s:Shared) (Q:Value->Shared->Prop) (E:Value->Shared->Prop),Q (.int (g i) s.toks) { s with toks:=s.toks+1 }->wpAny (model X.prog X.w) X.A (f<|.int i t) Q E s) :
  UnR X f (rU λi=>.int<|g i):=by
 intro ag s J H x v Q I O h;let#[i,rfl,q]:=h;let#[t,rfl]:=O;exact rule i t s _ _ ⟨.int<|g i,H,I.tok _,⟨_,rfl⟩,q⟩
def Cf:UnR X (unaryOp .USub) (rU λi=>.int<|-i):=unI λ_ _ _ _ _ q=>neg_int q
end
abbrev NU:V->V->Bool
 | .cb,.cb=>true | .cb,.int _=>true | .int _,.cb=>true | .cb,.bl _=>true | .bl _,.cb=>true | .cb,.str _=>true | .str _,.cb=>true
 | .int _,.int _=>true | .bl _,.bl _=>true | .str _,.str _=>true | .o8 _,.o8 _=>true
 | .int _,.str _=>true | .str _,.int _=>true | .bl _,.str _=>true | .str _,.bl _=>true
 | _,_=>false
abbrev rNe:R2:=λx y H Q=>NU x y=true/\Q (.bl<|!decide (x=y)) H
def Hi:decide (V.int i=V.int j)=(i == j):=by
 rw[QH];simp
def IB:decide (V.bl i=V.bl j)=(i == j):=by
 rw[QH];simp
def Gf:decide (V.str i=V.str j)=(i == j):=by
 rw[QH];simp
def HC:decide (V.o8 i=V.o8 j)=(i.toList == j.toList):=by
 rw[QH];cases i;cases j;simp
section
variable{X:Cx}{a b c:Expr}{ta tb tc:TE}{pos:Pos}
def dh(I:Inv X ag J H s)(q:Q (.bl k) H)(e:k=k'):EP X ag J Q (.bool k') s:=by
 subst e;exact#[.bl k,H,I,rfl,q]
def Nh:hE X (compareOp .NotEq) rNe:=by
 intro ag s J H x y v u Q I Y O h;let#[U,q]:=h
 cases x with
 |cb=>
  cases Y
  cases y with
  | cb=>cases O;exact PySem.EqNone.ne_none_none<|dh I q<|by simp
  | bl j=>cases O;exact PySem.EqNone.ne_none_bool<|dh I q<|by simp
  | int j=>let#[R,rfl]:=O;exact PySem.EqNone.ne_none_int<|dh I q<|by simp
  | str j=>let#[R,rfl]:=O;exact PySem.EqNone.ne_none_str<|dh I q<|by simp
  | _=>exact absurd (show false=true from U) Qj
 |bl i=>
  cases Y
  cases y with
  | cb=>cases O;exact PySem.EqNone.ne_bool_none<|dh I q<|by simp
  | bl j=>cases O;exact ne_bool<|dh I q<|congrArg not IB
  | str j=>let#[R,rfl]:=O;exact PySem.EqMixed.ne_bool_str<|dh I q<|by simp
  | _=>exact absurd (show false=true from U) Qj
 |int i=>
  let#[t,rfl]:=Y
  cases y with
  | cb=>cases O;exact PySem.EqNone.ne_int_none<|dh I q<|by simp
  | int j=>let#[R,rfl]:=O;exact ne_int<|dh I q<|congrArg not Hi
  | str j=>let#[R,rfl]:=O;exact PySem.EqMixed.ne_int_str<|dh I q<|by simp
  | _=>exact absurd (show false=true from U) Qj
 |str i=>
  let#[t,rfl]:=Y
  cases y with
  | cb=>cases O;exact PySem.EqNone.ne_str_none<|dh I q<|by simp
  | bl j=>cases O;exact PySem.EqMixed.ne_str_bool<|dh I q<|by simp
  | int j=>let#[R,rfl]:=O;exact PySem.EqMixed.ne_str_int<|dh I q<|by simp
  | str j=>let#[R,rfl]:=O;exact ne_str<|dh I q<|congrArg not Gf
  | _=>exact absurd (show false=true from U) Qj
 |o8 i=>
  let#[t,rfl]:=Y
  cases y with
  | o8 j=>let#[R,rfl]:=O;exact W.ne_bytes<|dh I q<|congrArg not HC
  | _=>exact absurd (show false=true from U) Qj
 | _=>cases y<;>exact absurd (show false=true from U) Qj
def hE.or(h:hE X f r)(h':hE X f r'):hE X f (λx y H Q=>r x y H Q\/r' x y H Q):=by
 intro ag s J H x y v u Q I R O q;rcases q with q | q
 ·exact h ag s J H x y v u Q I R O q
 ·exact h' ag s J H x y v u Q I R O q
def A5(b:Expr)(h:op≠.In)(I:op≠.NotIn):behindInMarks op b=false:=by
 have R:(op == CmpOp.In)=false:=by cases op<;>first | rfl | exact absurd rfl h
 have O:(op == CmpOp.NotIn)=false:=by cases op<;>first | rfl | exact absurd rfl I
 cases b<;>simp[behindInMarks,R,O]
def yl{O:CmpOp}{r:R2}(Y:hE X (compareOp O) r)(ha:PE X a ta)(hb:PE X b tb)(hm:behindInMarks O b=false):PE X (.Compare a [O] [b] pos) (tOp r ta tb):=by
 intro ag s J H Q I h;exact wpAny_Compare1 (Di ha hb I h λv u s2 x y H2 Z U R q=>Y ag s2 J H2 x y v u Q Z U R q) hm
abbrev Fe(t:TE):TT:=λJ H Q=>t J H λx H'=>∃ k,x=.bl k/\Q k H'
def rA(d:hE X (compareOp op) r)(ha:PE X a ta)(hb:PE X b tb)(hm:behindInMarks op b=false):PT X (.Compare a [op] [b] pos) (Fe<|tOp r ta tb):=by
 intro ag s J H Q I h
 refine wpAny_isTrue_Compare1 (cg (ha ag s J H _ I h) λv s1 O=>x2_2 O λx l i r1 Z=>cg (hb ag s1 J l _ i Z) λu s2 O=>x2_2 O λy H2 g r2 Y =>
  cg (d ag s2 J H2 x y v u _ g r1 r2 Y) λc m O=>x2_2 O λz j f r3 R=>x1_1 R λk e U=>?_) hm
 subst e;cases r3;exact wpAny_truthy_bool ⟨j,f,U⟩
abbrev vf(r R:R2)(ta tb tc:TE):TE:=λJ H Q=>ta J H λx Y=>tb J Y λy H2=>r x y H2 λz I=>∃ k,z=.bl k /\
 (if k=true then tc J I λO U=>R y O U Q else Q (.bl false) I)
def CU(q:hE X (compareOp op) r)(R:hE X (compareOp N0) r')(ha:PE X a ta)(hb:PE X b tb)(t:PE X c tc)
 (hm:lastMarks [op,N0] [b,c]=false):PE X (.Compare a [op,N0] [b,c] pos) (vf r r' ta tb tc):=by
 intro ag s J H Q I h
 refine Compare_chain (cg (ha ag s J H _ I h) λv s1 O=>x2_2 O λx D B r1 p=>chain_link (cg (hb ag s1 J D _ B p) λu s2 O=>x2_2 O λy H2 A r2 o =>
  cg (q ag s2 J H2 x y v u _ A r1 r2 o) λd l O=>x2_2 O λz Z Y r3 f=>x1_1 f λk e U=>?_)) hm
 subst e;cases r3;refine wpAny_truthy_bool ?_
 cases k with
 | false=>exact ite_ff ⟨.bl false,Z,Y,rfl,U⟩
 | true=>exact ite_tt (chain_last (cg (t ag l J Z _ Y U) λi j O=>x2_2 O λg C w m n=>R ag j J C y g u i Q w r2 m n))
def Du(w:hE X (compareOp op) r)(U:hE X (compareOp N0) r')(ha:PE X a ta)(hb:PE X b tb)(A:PE X c tc)
 (hm:lastMarks [op,N0] [b,c]=false):PT X (.Compare a [op,N0] [b,c] pos) (Fe<|vf r r' ta tb tc):=by
 intro ag s J H Q I h
 refine isTrue_chain (cg (ha ag s J H _ I h) λv s1 O=>x2_2 O λx K F r1 t=>test_link (cg (hb ag s1 J K _ F t) λu s2 O=>x2_2 O λy H2 E r2 q =>
  cg (w ag s2 J H2 x y v u _ E r1 r2 q) λd l O=>x2_2 O λz f Z r3 R=>x1_1 R λk e Y=>?_)) hm
 subst e;cases r3;refine wpAny_truthy_bool ?_
 cases k with
 |false=>
  let#[P,e',q']:=Y;cases e';exact ite_ff ⟨f,Z,q'⟩
 |true=>
  refine ite_tt (test_last (cg (A ag l J f _ Z Y) λi j O=>x2_2 O λg QN D n p=>cg (U ag j J QN y g u i _ D r2 n p) λS M O=>x2_2 O λL G C m R=>x1_1 R λN B o=>?_));subst B;cases m;exact wpAny_truthy_bool ⟨G,C,o⟩
abbrev zD(K:W.Frag)(x:V)(H:Hp)(k:Bool):Prop :=
 match x with
 | .cb=>k=false
 | .bl b=>k=b
 | .int i=>k=(i != 0)
 | .str y=>y.length<=sizeLine/\k=((y.length:Int) != 0)
 | .o8 y=>y.size<=sizeLine/\k=((y.size:Int) != 0)
 | .ref p=>(∃ xs,dz K H p xs/\k=!xs.isEmpty)\/(∃ xs,ed K H p xs/\k=!xs.isEmpty)\/∃ bx,H p=some (.dK bx)/\k=!bx.isEmpty
 | _=>False
def zT(r:KV bx vs):(!vs.isEmpty)=!bx.isEmpty:=by
 cases r<;>rfl
def qH(r:Vals xs bq):(!bq.toArray.isEmpty)=!xs.isEmpty:=by
 cases r<;>simp
def lR:(sizeLine:Nat)<2 ^ 63:=by rw[sizeLine_eq];decide
def Bj:O4 X (λx H Q=>∃ k,zD X.K x H k/\Q k H):=by
 intro ag s J H x v Q I O h;let#[k,e,q]:=h;have c:sizeLine=16777216:=sizeLine_eq
 cases x with
 |cb=>
  cases O;have e':=e;subst e';exact truthy_none ⟨H,I,q⟩
 |bl b=>
  cases O;have e':=e;subst e';exact wpAny_truthy_bool ⟨H,I,q⟩
 |int i=>
  let#[t,rfl]:=O;have e':=e;subst e';exact PySem.P.truthy_int ⟨H,I,q⟩
 |str y=>
  let#[t,rfl]:=O;let#[Z,e']:y.length<=sizeLine/\k=((y.length:Int) != 0):=e;subst e';exact PySem.P.truthy_str (by omega) ⟨H,I.tok _,q⟩
 |o8 y=>
  let#[t,rfl]:=O;let#[Z,e']:y.size<=sizeLine/\k=((y.size:Int) != 0):=e;subst e';exact W.truthy_bytes (by omega) ⟨H,I.tok _,q⟩
 |ref p=>
  cases O;have e':=e
  rcases e' with⟨xs,R,e'⟩ | ⟨xs,R,e'⟩ | ⟨bx,R,e'⟩
  ·subst e';let#[bq,r,U,Y]:=I.list R;have hlen:=r.length;exact wpAny_truthy_list U.isList (by simp only[size_toArray];omega) ⟨H,I.tok _,by rw[qH r];exact q⟩
  ·subst e';let#[bq,r,U,Y]:=I.tuple R;have hlen:=r.length;exact truthy_tuple U (by simp only[size_toArray];omega) ⟨H,I.tok _,by rw[qH r];exact q⟩
  ·subst e';let#[Y,a,vs,r,m]:bx.length<=sizeLine/\(p == sysModules)=false/\∃ vs,KV bx vs/\s.heap.DictOf (bo X.prog X.w) p vs:=I.b9 p _ R;have hlen:bx.length=vs.length:=Paired.length r;exact wpAny_truthy_dict a m (by omega) ⟨H,I.tok _,by rw[zT r];exact q⟩
 | _=>exact(show False from e).elim
def vt(ha:PE X a ta)(U:∀ whole,isTrue a X.env whole=(do let v <- whole;standAt a.pos;holding [v]<|truthy v)) :
  PT X a (λJ H Q=>ta J H λx H'=>∃ k,zD X.K x H' k/\Q k H'):=by
 intro ag s J H Q I h;exact isTrue_plain (cg (ha ag s J H _ I h) λv s1 O=>x2_2 O λx Z Y r1 R=>Bj ag s1 J Z x v Q Y r1 R)<|U _
def yY:hE X (binaryOp .Add) (λx y H Q=>∃ i j,x=.str i/\y=.str j/\i.length+j.length<=sizeLine/\Q (.str<|i++j) H):=by
 intro ag s J H x y v u Q I U R h;let#[i,j,rfl,rfl,Y,q]:=h;let#[t,rfl]:=U;let#[O,rfl]:=R;exact add_str (λO Z=>#[.str<|i++j,H,I.tok _,#[_,rfl],q]) Y
def vals1(r:Vals [x] us):∃ u,us=[u]/\RelV x u:=by
 cases r with
 | cons r1 r2=>cases r2;exact#[_,rfl,r1]
def vals2(r:Vals [x,y] us):∃ u I,us=[u,I]/\RelV x u/\RelV y I:=by
 cases r with
 |cons r1 r2=>
  cases r2 with
  | cons r3 O=>cases O;exact#[_,_,rfl,r1,r3]
abbrev JY(K:W.Frag)(x:V)(H:Hp)(n:Nat):Prop :=
 match x with
 | .str y=>y.length<=sizeLine/\n=y.length
 | .o8 y=>y.size<=sizeLine/\n=y.size
 | .ref p=>(∃ xs,dz K H p xs/\n=xs.length)\/∃ xs,ed K H p xs/\n=xs.length
 | _=>False
def D7:bM X (.builtin "len") (λxs H Q=>∃ x n,xs=[x]/\JY X.K x H n/\Q (.int n) H):=by
 intro ag s J H xs us Q I r h;let#[x,n,rfl,e,q]:=h;let#[u,rfl,O]:=vals1 r;have b:sizeLine=16777216:=sizeLine_eq
 cases x with
 |str y=>
  let#[t,rfl]:=O;let#[a,e']:y.length<=sizeLine/\n=y.length:=e;subst e';exact len_str (by omega) ⟨.int _,H,I.tok _,⟨_,rfl⟩,q⟩
 |o8 y=>
  let#[t,rfl]:=O;let#[a,e']:y.size<=sizeLine/\n=y.size:=e;subst e';exact W.len_bytes (by omega) ⟨.int _,H,I.tok _,⟨_,rfl⟩,q⟩
 |ref p=>
  cases O;have e':=e
  rcases e' with⟨xs,Y,e'⟩ | ⟨xs,Y,e'⟩
  ·subst e';let#[bq,R,U,Z]:=I.list Y;have hlen:=R.length;exact Calls.call_len_list U.isList (by simp only[size_toArray];omega) ⟨.int xs.length,H,I.tok _,⟨_,by simp only[size_toArray];rw[hlen]⟩,q⟩
  ·subst e';let#[bq,R,U,Z]:=I.tuple Y;have hlen:=R.length;exact len_tuple U (by simp only[size_toArray];omega) ⟨.int xs.length,H,I.tok _,⟨_,by simp only[size_toArray];rw[hlen]⟩,q⟩
 | _=>exact(show False from e).elim
end
structure oU(h:Heap)(x dx C:Addr)(mA:Str->Option Value):Prop where
 obj:h.get? x=some (W.instObj C dx)
 ns:h.Ns1 dx mA
 ne:dx≠x
def BE{h:Heap}(n:h.Ns1 dx mA):∃ od,h.get? dx=some od/\∀ name,W.lookIn name od=some (mA name):=by
 let#[o,es,ep,R,hd,U,_,hm]:=n;refine#[o,R,λname=>?_];have e:=hm name;unfold nsFind findBy at e;rw[<-Array.find?_toList]at e;unfold W.lookIn;rw[hd];dsimp only;split
 ·rename_i y q;rw[q]at e;exact congrArg some e
 ·rename_i q;rw[q]at e
  have a:es.toList.any (·.refKey)=false:=by
   rw[List.any_eq_false];intro y O;let#[z,t,I]:=U y<|Array.mem_toList_iff.mp O;simp[DictEntry.refKey,I]
  have a':¬ es.toList.any (·.refKey)=true:=by rw[a];exact Qj
  rw[if_neg a'];exact congrArg some e
def oU.look(I:oU h x dx C mA):∃ od,W.InstAt h x (W.instObj C dx) C (some od)/\∀ name,W.lookIn name od=some (mA name) :=
 let ⟨od,O,hl⟩:=BE I.ns
 ⟨od,⟨I.obj,rfl,rfl,O⟩,hl⟩
section
variable{prog:Program}{w:World}{A:Around}{E:Value->Shared->Prop}{s:Shared}{K:W.Frag}{x dx C f:Addr}{mA:Str->Option Value}{name:Str}{v:Value}
def get_map(X:K.In s.heap)(I:oU s.heap x dx C mA)(Y:W.plainGet K C name=true)(U:W.hasDictIn K C=true)
 (ha:W.findIn K (.ref C) name=some none)(R:mA name=some v)(O:W.handedIn v=true)(h:Q v { s with toks:=s.toks+1 }) :
  wpAny (model prog w) A (getAttr (.ref x) name expr) Q E s:=by
 let#[od,QN,hl]:=I.look;exact W.get_value X QN (W.plainGet_of Y).1 (W.findObj_own U ha rfl<|by rw[hl,R]) O h
def CO(X:K.In s.heap)(I:oU s.heap x dx C mA)(O:W.plainGet K C name=true)
 (Y:W.findIn K (.ref C) name=some (some<|.ref f))(U:W.isFn K (.ref f)=true)(R:mA name=none)(h:Q (.ref f,[.ref x]) s) :
  wpAny (model prog w) A (getMethod (.ref x) name pl) Q E s:=by
 let#[od,QN,hl]:=I.look;exact W.method_fn X QN (W.plainGet_of O).1 (W.plainGet_of O).2 Y (beq_iff_eq.mp U) (by show(W.lookIn name od).map (·.isSome)=some false;rw[hl,R];rfl) h
def Hy(X:K.In s.heap)(I:oU s.heap x dx C mA)
 (i:W.findIn K (.ref C) "__setattr__" = some (some<|.builtin "object.__setattr__"))(j:W.plainOver K C=true)(f:W.takerIn K C name=some none)(k:W.hasDictIn K C=true)
 (e:PySem.Within mA ns)(g:ns.length<=sizeLine)
 (h:∀ h',oU h' x dx C (λy=>if y=name then some v else mA y)->Heap.SameBut dx s.heap h'->Q ⟨⟩ { s with heap:=h',toks:=s.toks+2 }) :
  wpAny (model prog w) A (setAttr (.ref x) name v) Q E s:=by
 let#[od,QN,hl]:=I.look;refine W.set_plain X QN i (W.osa_open (s:={ s with toks:=s.toks+1 }) (r:=none) X QN j f λb=>?_);let#[p,l,Z]:=W.any_some k;have d:s.heap.get? x=some ⟨.ref C,some dx,.plain,(List.toArray [])⟩:=I.obj;refine J2<|Qa<|J2<|J2<|wpAny_loadPart d<|J2<|W.Looks.here (s:={ s with toks:=s.toks+1 }) (W.looks_clsIn X l) ?_;rw[Z];refine Qa (a:=some dx)<|J2<|Qa<|J2 ?_;refine wpAny_nsSet1 (s:={ s with toks:=s.toks+1 }) I.ns λh' R O=>?_;let#[o,m,n,U,Y,c]:=R.count<|PySem.Within.cons name v e;refine J2 (wpAny_lookBehind U (by rw[Y];exact pastItsLine_dict<|Qp c<|by rw[length_cons];omega) ?_);exact Qa<|h _ ⟨(O.2 _<|Ne.symm I.ne).trans I.obj,R,I.ne⟩ O
def C8(X:K.In s.heap)(hm:W.makesIn K C=true)
 (hi:W.findIn K (.ref C) "__init__" = some (some<|.ref f))(I:W.typeIn K (.ref f)=some (.type "function"))
 (h:codeAny (model prog w) (A.under<|.builtin "type.__call__" ⟨.ref C::vs,kw⟩) (.call (.ref f) ⟨.ref (s.heap.objs.size+1)::vs,kw⟩) (W.InitBack (s.heap.objs.size+1) R)
   { s with heap:=(s.heap.push W.emptyDict).push (W.instObj C s.heap.objs.size) }) :
  codeAny (model prog w) A (.call (.ref C) ⟨vs,kw⟩) R s:=by
 let#[O,g,d,t,os]:=s;exact W.make_core (W.makes_of X hm) (W.looks_findIn X hi) (λself=>W.bind_fn X self I) (.inl rfl) h
end
abbrev dY(f:Str)(v:V):List (Str × V)->List (Str × V)
 | []=>[(f,v)]
 | (g,x)::r=>if g=f then(g,v)::r else(g,x)::dY f v r
def nY(f g:Str)(v:V):∀ fs:List (Str × V),(dY f v fs).lookup g=if g=f then some v else fs.lookup g
 | []=>by
  show List.lookup g [(f,v)]=_;by_cases h:g=f
  ·have hb:(g == f)=true:=beq_iff_eq.mpr h;simp only[List.lookup,hb,if_pos h]
  ·have hb:(g == f)=false:=beq_eq_false_iff_ne.mpr h;simp only[List.lookup,hb,if_neg h]
 | (k,x)::r=>by
  have O:=nY f g v r;rw[show dY f v ((k,x)::r)=(if k=f then(k,v)::r else(k,x)::dY f v r)from rfl];by_cases I:k=f
  ·rw[if_pos I];by_cases h:g=k
   ·have hb:(g == k)=true:=beq_iff_eq.mpr h;simp only[List.lookup,hb,if_pos<|h.trans I]
   ·have hb:(g == k)=false:=beq_eq_false_iff_ne.mpr h;simp only[List.lookup,hb,if_neg λe:g=f=>h<|e.trans I.symm]
  ·rw[if_neg I];by_cases h:g=k
   ·have hb:(g == k)=true:=beq_iff_eq.mpr h;simp only[List.lookup,hb,if_neg λe:g=f=>I<|h.symm.trans e]
   ·have hb:(g == k)=false:=beq_eq_false_iff_ne.mpr h;simp only[List.lookup,hb];exact O
def lO(f:Str)(v:V):∀ fs:List (Str × V),f∈(dY f v fs).map (·.1)/\∀ g,g∈fs.map (·.1)->g∈(dY f v fs).map (·.1)
 | []=>#[by simp[dY],λg h=>by simp at h]
 | (k,x)::r=>by
  let#[R,O]:=lO f v r;rw[show dY f v ((k,x)::r)=(if k=f then(k,v)::r else(k,x)::dY f v r)from rfl];by_cases I:k=f
  ·rw[if_pos I];subst I;exact#[by simp,λg h=>by simpa using h]
  ·rw[if_neg I];refine#[?_,λg h=>?_]
   ·rw[map_cons];exact Qm _ R
   ·rw[map_cons]at h ⊢;rcases List.mem_cons.mp h with e | e
    ·exact List.mem_cons.mpr<|.inl e
    ·exact Qm _<|O g e
def nU(f:Str)(v:V):∀ fs:List (Str × V),(dY f v fs).length<=fs.length+1
 | []=>by simp[dY]
 | (k,x)::r=>by
  have O:=nU f v r;rw[show dY f v ((k,x)::r)=(if k=f then(k,v)::r else(k,x)::dY f v r)from rfl];by_cases I:k=f
  ·rw[if_pos I,length_cons,length_cons];omega
  ·rw[if_neg I,length_cons,length_cons];omega
def f9.some_of(r:f9 (some v) o):∃ u,o=some u/\RelV v u:=by
 cases o with
 | none=>exact(show False from r).elim
 | some u=>exact#[u,rfl,r]
def f9.none_of(r:f9 none o):o=none:=by
 cases o with
 | none=>rfl
 | some u=>exact(show False from r).elim
def AK(r:RelV v u):W.handedIn u=true:=by
 cases v with
 | cb=>cases(show u=Value.none from r);rfl
 | bl b=>cases(show u=Value.bool b from r);rfl
 | int i=>let#[t,e]:=(show ∃ t,u=Value.int i t from r);cases e;rfl
 | str x=>let#[t,e]:=(show ∃ t,u=Value.str x t from r);cases e;rfl
 | o8 b=>let#[t,e]:=(show ∃ t,u=Value.bytes b t from r);cases e;rfl
 | x5 b=>let#[t,e]:=(show ∃ t,u=Value.float b t from r);cases e;rfl
 | ref a=>cases(show u=Value.ref a from r);rfl
 | ty n=>cases(show u=Value.type n from r);rfl
section
variable{P:Program}{w:World}{H H':Hp}{h h':Heap}{a C dx:Addr}{fs fs':List (Str × V)}
def n9(b9:hj P w H h)(e:H a=some (.ins C dx fs)):∃ mA,oU h a dx C mA/\(∀ f,f9 (fs.lookup f)<|mA f)/\PySem.Within mA (fs.map (·.1))/\fs.length<=1000/\H dx=some (.own a):=by
 let#[d,z,ne,I,mA,n,r,q]:=(show bN P w H h a (.ins C dx fs)from b9 a _ e)
 exact#[mA,#[I,n,ne],r,q,z,d]
end
structure h8(K:W.Frag)(C:Addr):Prop where
 pg:W.plainGet K C Str.empty=true
 hd:W.hasDictIn K C=true
 po:W.plainOver K C=true
 sa:W.findIn K (.ref C) "__setattr__" = some (some<|.builtin "object.__setattr__")
def h8.get{K:W.Frag}(c:h8 K C)(f:Str):W.plainGet K C f=true:=c.pg
abbrev bV(K:W.Frag)(C:Addr)(f:Str):Prop:=W.findIn K (.ref C) f=some none
def bV.N9{K:W.Frag}(n:bV K C f):W.takerIn K C f=some none:=by
 unfold W.takerIn;rw[show W.findIn K (.ref C) f=some none from n];rfl
structure Meth(K:W.Frag)(C:Addr)(m:Str)(f:Addr):Prop where
 at_:W.findIn K (.ref C) m=some (some<|.ref f)
 fn:W.isFn K (.ref f)=true
 kp:W.keepIn K (.ref f)=true
section
variable{X:Cx}{ag:List (Addr × Obj)}{J:St}{H:Hp}{s:Shared}{a C dx:Addr}{fs:List (Str × V)}{f:Str}{v:V}{A:Around}{E:Value->Shared->Prop}
def pY(I:Inv X ag J H s)(e:H a=some (.ins C dx fs))(c:h8 X.K C)(n:bV X.K C f)(l:fs.lookup f=some v)
 (h:∀ u s',Inv X ag J H s'->RelV v u->Q u s'):wpAny (model X.prog X.w) A (getAttr (.ref a) f b) Q E s:=by
 let#[mA,O,r,_,_,_]:=n9 I.b9 e;let#[u,hu,R]:=f9.some_of (v:=v) (o:=mA f) (by rw[<-l];exact r f);exact get_map I.h9 O (c.get f) c.hd n hu (AK R)<|h u _ (I.tok _) R
def qi(I:Inv X ag J H s)(e:H a=some (.ins C dx fs))(c:h8 X.K C)(k:Meth X.K C m g)(l:fs.lookup m=none)
 (h:Q (.ref g,[.ref a]) s):wpAny (model X.prog X.w) A (getMethod (.ref a) m pl) Q E s:=by
 let#[mA,O,r,_,_,_]:=n9 I.b9 e;have hn:mA m=none:=f9.none_of (by rw[<-l];exact r m);exact CO I.h9 O (c.get m) k.at_ k.fn hn h
def kJ(I:Inv X ag J H s)(e:H a=some (.ins C dx fs))(c:h8 X.K C)(n:bV X.K C f)(hl:fs.length<1000)(Z:RelV y u)
 (h:∀ s',Inv X ag J (upd H a<|.ins C dx<|dY f y fs) s'->Q ⟨⟩ s'):wpAny (model X.prog X.w) A (setAttr (.ref a) f u) Q E s:=by
 let#[mA,O,r,U,_,Y]:=n9 I.b9 e
 have d:(fs.map (·.1)).length<=sizeLine:=by rw[length_map,sizeLine_eq];omega
 refine Hy I.h9 O c.sa c.po n.N9 c.hd U d λh' R sb=>h _ ?_;have hd:∃ o,h'.get? dx=some o:=let ⟨o,_,_,e',_⟩:=R.ns;⟨o,e'⟩;refine I.write (x:=a) (e:=dx) (by rw[e];exact True.intro) (.inr Y) (λb q hb z=>(sb.2 b hb).trans z) hd ?_;refine#[by rw[aj O.ne];exact Y,?_,O.ne,R.obj,_,R.ns,λg=>?_,λg i=>?_]
 ·have:=nU f y fs;omega
 ·show f9 ((dY f y fs).lookup g) (if g=f then some u else mA g);rw[nY];by_cases q:g=f
  ·rw[if_pos q,if_pos q];exact Z
  ·rw[if_neg q,if_neg q];exact r g
 ·by_cases q:g=f
  ·rw[q];exact(lO f y fs).1
  ·refine(lO f y fs).2 g (U g λz=>i ?_);show(if g=f then some u else mA g)=none;rw[if_neg q];exact z
def Inv.made(I:Inv X ag J H s):Inv X ag J (upd (upd H s.heap.objs.size<|.own<|s.heap.objs.size+1) (s.heap.objs.size+1)<|.ins C s.heap.objs.size [])
  { s with heap:=(s.heap.push W.emptyDict).push (W.instObj C s.heap.objs.size) }:=by
 have O:(s.heap.push W.emptyDict).get? s.heap.objs.size=some W.emptyDict:=Qf s.heap rfl
 have Z:((s.heap.push W.emptyDict).push<|W.instObj C s.heap.objs.size).get? (s.heap.objs.size+1)=some (W.instObj C s.heap.objs.size):=by
  have:=Qf (s.heap.push W.emptyDict) (o:=W.instObj C s.heap.objs.size) rfl
  rwa [QL]at this
 have Y:(s.heap.push W.emptyDict).Ns s.heap.objs.size (λ_=>none):=#[W.emptyDict,(List.toArray []),_,O,rfl,(λe U=>absurd U<|by simp),λ_=>rfl]
 have c:=I.laid (a:=s.heap.objs.size) (o:=.own<|s.heap.objs.size+1) (h':=s.heap.push W.emptyDict) (t':=s.toks) (λb u q=>Qb _ q) (Qc _) ⟨_,O⟩;refine c.laid (a:=s.heap.objs.size+1) (o:=.ins C s.heap.objs.size []) (t':=s.toks) (λb u q=>Qb _ q) (le_of_eq<|QL _ _) ?_;have ne:s.heap.objs.size≠s.heap.objs.size+1:=Qk<|Nat.lt_succ_self _;refine#[by rw[aj ne,ao],zero_le _,ne,Z,λ_=>none,(Heap.Ns1.of_empty Y).at λo q=>Qb _ q,λ_=>True.intro,λy R=>absurd rfl R]
def xX(hb:attributeBase e f env (eval e env)=eval e env)
 (h:wpAny (model prog w) A (eval e env) (λo I=>wpAny (model prog w) A (getAttr o f true) Q E I) E s):wpAny (model prog w) A (eval (.Attribute e f pos) env) Q E s :=
 Attribute_any_ h (by rw[arm_eval_Attribute,hb])
end
abbrev EC(K:W.Frag)(O:TE)(f:Str):TE:=λJ H Q=>O J H λx I=>∃ a C dx fs v,x=.ref a/\I a=some (.ins C dx fs)/\h8 K C/\bV K C f/\fs.lookup f=some v/\Q v I
abbrev ID(K:W.Frag)(O I:TE)(f:Str):TS:=λD J H=>I J H λy R=>O J R λx H2=>∃ a C dx fs,x=.ref a/\H2 a=some (.ins C dx fs)/\h8 K C/\bV K C f/\fs.length<1000 /\
 D.nx J (upd H2 a<|.ins C dx<|dY f y fs)
section
variable{X:Cx}{o e value:Expr}{f:Str}{pos pos' tpos:Pos}{ta tv:TE}
def wI(Z:PE X e ta)(hb:attributeBase e f X.env (eval e X.env)=eval e X.env):PE X (.Attribute e f pos) (EC X.K ta f):=by
 intro ag s J H Q I h;refine xX hb (cg (Z ag s J H _ I h) λu s1 R=>x2_2 R λx i g U O=>x5_5 O λa C dx fs v ex b c n l q=>?_);subst ex;obtain rfl:u=Value.ref a:=U
 exact pY g b c n l λj s2 d Y=>#[v,i,d,Y,q]
def jd(ha:PE X o ta)(b:PE X value tv)(d:swapsWith value (some<|.Attribute o f pos') pos.line X.env=pure false):PS X (.Assign [.Attribute o f pos'] value pos) (ID X.K ta tv f):=by
 intro ag s J H D I h;refine plainObj_wpAny_Assign_Attribute (cg (b ag s J H _ I h) λu s1 O=>x2_2 O λy k j U q=>cg (ha ag s1 J k _ j q) λov s2 O=>x2_2 O λx H2 i Y R=>x4_5 R λa C dx fs ex e c n l Z=>?_) d;subst ex;obtain rfl:ov=Value.ref a:=Y
 exact kJ i e c n l U λm g=>#[J,_,g,Z]
end
section
variable{X:Cx}{ag:List (Addr × Obj)}{J:St}{H:Hp}{s:Shared}{A:Around}{E:Value->Shared->Prop}{Q:Value->Shared->Prop}{c:Value}{b:Bool}
inductive gF (K:W.Frag) (H:Hp):V->Value->Prop where
 | cb:gF K H .cb (.type "NoneType")
 | bl (x:Bool):gF K H (.bl x) (.type "bool")
 | int (i:Int):gF K H (.int i) (.type "int")
 | str (x:Str):gF K H (.str x) (.type "str")
 | x5 (x:UInt64):gF K H (.x5 x) (.type "float")
 | lst {a:Addr} {xs:List V} (e:H a=some (.lst xs)):gF K H (.ref a) (.type "list")
 | cy {a:Addr} {o:Obj} {xs:List V} (e:H a=some (.cy o (.lst xs))):gF K H (.ref a) (.type "list")
 | tup {a:Addr} {xs:List V} (e:H a=some (.tup xs)):gF K H (.ref a) (.type "tuple")
 | dK {a:Addr} {bx:List (Key × V)} (e:H a=some (.dK bx)):gF K H (.ref a) (.type "dict")
 | dT {a:Addr} {bx:List (List Key × V)} (e:H a=some (.dT bx)):gF K H (.ref a) (.type "dict")
 | ins {a C dx:Addr} {fs:List (Str × V)} (e:H a=some (.ins C dx fs)) (cl:h8 K C) (ha:W.findIn K (.ref C) "__class__" = some (some (.builtin "object.__class__")))
   (hn:W.specialIn K (.builtin "object.__class__") "__get__" = some (some<|.builtin "getset_descriptor.__get__")) (htk:W.takesIn K (.builtin "object.__class__")=some true)
   (hm:W.mroIn K C (.type "object")=some true):gF K H (.ref a) (.ref C)
def Bf(I:Inv X ag J H s)(R:RelV x u)(ty:gF X.K H x t)(e:W.kitOne X.K t c=some b)(h:∀ Z,Q (.bool b) { s with toks:=Z }) :
  wpAny (model X.prog X.w) A (call (.builtin "isinstance") [u,c]) Q E s:=by
 cases ty with
 | cb=>cases(show u=Value.none from R);exact W.kia_one W.kitx_none I.h9 True.intro e (λz=>nomatch z) h
 | bl y=>cases(show u=Value.bool y from R);exact W.kia_one W.kitx_bool I.h9 True.intro e (λz=>nomatch z) h
 | int i=>let#[t,q]:=(show ∃ t,u=Value.int i t from R);cases q;exact W.kia_one W.kitx_int I.h9 True.intro e (λz=>nomatch z) h
 | str y=>let#[t,q]:=(show ∃ t,u=Value.str y t from R);cases q;exact W.kia_one W.kitx_str I.h9 True.intro e (λz=>nomatch z) h
 | x5 y=>let#[t,q]:=(show ∃ t,u=Value.float y t from R);cases q;exact W.kia_one W.kitx_float I.h9 True.intro e (λz=>nomatch z) h
 |@lst a xs ea=>
  cases(show u=Value.ref a from R)
  let#[_,_,n,_,U]:=(show bN X.prog X.w H s.heap a (.lst xs)from I.b9 a _ ea)
  exact W.kia_one W.kitx_list I.h9 ⟨_,U,rfl⟩ e (λz=>nomatch z) h
 |@cy a ob xs ea=>
  cases(show u=Value.ref a from R)
  let#[_,_,_,n,_,U]:=(show bN X.prog X.w H s.heap a (.cy ob<|.lst xs)from I.b9 a _ ea)
  exact W.kia_one W.kitx_list I.h9 ⟨_,U,rfl⟩ e (λz=>nomatch z) h
 |@tup a xs ea=>
  cases(show u=Value.ref a from R)
  let#[_,_,_,p]:=(show bN X.prog X.w H s.heap a (.tup xs)from I.b9 a _ ea)
  let#[o,U,Y,_]:=p;exact W.kia_one W.kitx_tuple I.h9 ⟨o,U,Y⟩ e (λz=>nomatch z) h
 |@dK a bx ea=>
  cases(show u=Value.ref a from R)
  let#[_,_,vs,_,p]:=(show bN X.prog X.w H s.heap a (.dK bx)from I.b9 a _ ea)
  let#[o,es,ep,U,Y,_]:=p;exact W.kia_one W.kitx_dict I.h9 ⟨o,U,Y.1⟩ e (λz=>nomatch z) h
 |@dT a bx ea=>
  cases(show u=Value.ref a from R)
  let#[_,_,xs,_,o,es,ep,U,Y,_]:=(show bN X.prog X.w H s.heap a (.dT bx)from I.b9 a _ ea)
  exact W.kia_one W.kitx_dict I.h9 ⟨o,U,Y.1⟩ e (λz=>nomatch z) h
 |@ins a C dx fs ea cl ha hn htk hm=>
  cases(show u=Value.ref a from R);let#[mA,O,_]:=n9 I.b9 ea;let#[od,QN,_]:=O.look;exact W.kia_one (W.kitx_own (cl.get _) cl.hd ha hn htk hm) I.h9 QN e (λz=>nomatch z) h
end
structure bS(k:Nat)(A:Around):Prop where
 hd:A.handled=none
 dp:A.depth+3*k+5<recursionLimit
 un:A.units+16*k+200<cLine
def bS.mono(r:bS k A)(h:j<=k):bS j A:=⟨r.hd,by have:=r.dp;omega,by have:=r.un;omega⟩
def bS.deeper(r:bS (k+1) A)(env:Env):bS k (A.deeper env) :=
 ⟨r.hd,by have:=r.dp;show A.depth+1+3*k+5<_;omega,by have:=r.un;show A.units+3+16*k+200<_;omega⟩
def zW{A:Around}:(A.under<|.builtin "type.__call__" ⟨.ref C::us,kw⟩).depth=A.depth+1:=by
 first | rfl | simp[Around.under,Code.weight,Code.isCreation,Code.isGuard,Code.isCaller,Code.frames,Code.isFrame,guardIds]
def zP{A:Around}:(A.under<|.builtin "type.__call__" ⟨.ref C::us,kw⟩).units=A.units+1:=by
 first | rfl | simp[Around.under,Code.cUnits,Code.frames,Code.isFrame]
def bS.make(r:bS (k+1) A)(C:Addr)(us:List Value)(I:List (Str × Value)):bS k (A.under<|.builtin "type.__call__" ⟨.ref C::us,I⟩) :=
 ⟨r.hd,by have:=r.dp;rw[zW];omega,by have:=r.un;rw[zP];omega⟩
def bS.depth(r:bS k A):A.depth<recursionLimit:=by have:=r.dp;omega
abbrev v9:TA:=λ_ H Q=>Q [] H
abbrev kI(O:TE)(I:TA):TA:=λJ H Q=>O J H λx R=>I J R λxs H2=>Q (x::xs) H2
section
variable{X:Cx}{e:Expr}{es:List Expr}{te:TE}{t:TA}{pos:Pos}
def cU:PA X [] v9:=λ_ _ _ _ H Q I h=>Calls.spliced_nil ⟨[],H,I,.nil,h⟩
def bu(ha:PE X e te)(Z:PA X es t)(Y:starEach (e::es) X.env=(false,eval e X.env)::starEach es X.env):PA X (e::es) (kI te t):=by
 intro pos ag s J H Q I h;rw[Y];refine Calls.spliced_cons (cg (ha ag s J H _ I h) λu s1 O=>x2_2 O λx c b r1 U=>?_)
 exact cg (Z pos ag s1 J c _ b U) λus s2 O=>x2_2 O λxs H2 a r2 R=>#[x::xs,H2,a,.cons r1 r2,R]
abbrev Lu(t:TA):TE:=λJ H Q=>t J H λxs I=>xs.length<=sizeLine/\∀ p,I p=none->Q (.ref p) (upd I p<|.tup xs)
abbrev Og(t:TA):TE:=λJ H Q=>t J H λxs I=>xs.length<=sizeLine/\∀ p,I p=none->Q (.ref p) (upd I p<|.lst xs)
def Bv(h:PA X es t):PE X (.Tuple es x1 pos) (Lu t):=by
 intro ag s J H Q I U;refine wpAny_Tuple_spliced (cg (h pos ag s J H _ I U) λus s1 R=>x2_3 R λxs Z O r z q=>#[by rw[<-r.length];exact z,?_]);have Y:=O.b9.fresh<|Qc _;refine#[.ref s1.heap.objs.size,upd Z s1.heap.objs.size<|.tup xs,O.laid (λb u e=>Qb _ e) (Qc _) ?_,rfl,q _ Y];exact#[z,us,r,#[_,Qf _ rfl,rfl,_,rfl]]
def uG(h:PA X es t):PE X (.List es pos) (Og t):=by
 intro ag s J H Q I U;refine wpAny_List_spliced (cg (h pos ag s J H _ I U) λus s1 R=>x2_3 R λxs Z O r z q=>#[by rw[<-r.length];exact z,?_]);have Y:=O.b9.fresh<|Qc _;refine#[.ref s1.heap.objs.size,upd Z s1.heap.objs.size<|.lst xs,O.laid (λb u e=>Qb _ e) (Qc _) ?_,rfl,q _ Y];exact#[z,us,0,r,Qf _ rfl]
end
@[reducible]noncomputable def Sp:=List V->Hp->VK->XK->Prop
@[reducible]noncomputable def rl:=List Env->Hp->Shared->XK->Value->Shared->Prop
structure oH(P:Program)(w:World)(K:W.Frag)(mg:Str->Option Value)(base:Heap)(A:Around)(outer:List Env)(s:Shared)(H:Hp):Prop where
 frames:A.frames=some outer
 mod:Mod K mg base
 bs:∀ b o,base.get? b=some o->s.heap.get? b=some o/\H b=none
 AB:base.objs.size<=s.heap.objs.size
 iA:s.heap.FunFrames base outer
 OX:∀ b∈tf outer,H b=none
 b9:hj P w H s.heap
 bare:AllBare s.gens
abbrev CE(outer:List Env)(P:Program)(w:World)(H:Hp)(s:Shared)(Q:VK)(u:Value)(s':Shared):Prop :=
 ∃ v H',s'.os=s.os/\AllBare s'.gens/\Un (tf outer) [] H H' s.heap s'.heap/\hj P w H' s'.heap/\RelV v u/\Q v H'
abbrev CR(CX:rl)(outer:List Env)(P:Program)(w:World)(H:Hp)(s:Shared)(Q:VK)(E:XK)(r:Result)(s':Shared):Prop :=
 match r with
 | .ok (.ret u)=>CE outer P w H s Q u s'
 | .ok _=>False
 | .error e=>CX outer H s E e s'
structure dt(P:Program)(w:World)(K:W.Frag)(mg:Str->Option Value)(base:Heap)(CX:rl)(k:Nat)(f:Addr)(fd:FuncData)(ps:List Str)(sp:Sp):Prop where
 len:∀ vs H Q E,sp vs H Q E->vs.length=ps.length
 run:∀ (A:Around) (outer:List Env) (s:Shared) (H:Hp) (args:Args) (us:List Value) (vs:List V) (Q:VK) (E:XK),bS k A->oH P w K mg base A outer s H->BindsTo s fd args (ps.zip us)->Vals vs us->sp vs H Q E ->
  codeAny (model P w) A (.call (.ref f) args) (CR CX outer P w H s Q E) s
def oH.make{P:Program}{w:World}{K:W.Frag}{mg:Str->Option Value}{base:Heap}{A:Around}{outer:List Env}{s:Shared}{H:Hp}(e:oH P w K mg base A outer s H)(C:Addr)(us:List Value)(I:List (Str × Value)) :
  oH P w K mg base (A.under<|.builtin "type.__call__" ⟨.ref C::us,I⟩) outer s H:=#[by first | exact e.frames | (simpa[Around.under,Code.envs,Code.isFrame,pushEnvs]using e.frames),e.mod,e.bs,e.AB,e.iA,e.OX,e.b9,e.bare]
section
variable{X:Cx}{ag:List (Addr × Obj)}{J:St}{H:Hp}{s s':Shared}
def Inv.Ie(I:Inv X ag J H s):oH X.prog X.w X.K X.mg X.base X.A X.stack s H :=
 ⟨I.ok.frames,I.ok.mod,I.bs,Qp I.ok.AB I.sz,I.stack,I.yB,I.b9,I.bare⟩
def Inv.after(I:Inv X ag J H s)(h:CE X.stack X.prog X.w H s Q u s'):EP X ag J Q u s':=by
 let#[v,H',os,bare,un,b9,r,q]:=h;let#[R,g,d,t,O]:=s';obtain rfl:O=s.os:=os;exact#[v,H',I.call (h':=R) (g':=g) (d':=d) (t':=t) (ch:=[]) un b9 bare (λb z=>absurd z<|by simp),r,q]
end
abbrev mT(sp:Sp)(I:List V)(E:XK)(t:TA):TE:=λJ H Q=>t J H λvs O=>sp (vs++I) O Q E
abbrev Nk(C:Addr)(sp:Sp)(I:List V)(E:XK)(t:TA):TE:=λJ H Q=>t J H λvs O=>∀ x dx,O x=none->O dx=none->dx≠x ->
 sp (.ref x::(vs++I)) (upd (upd O dx<|.own x) x<|.ins C dx []) (λv H2=>v=.cb/\Q (.ref x) H2) E
abbrev Binds(K:W.Frag)(fd:FuncData)(ps:List Str)(ds:List Value):Prop :=
 ∀ (s:Shared) (us:List Value),K.In s.heap->(us++ds).length=ps.length->BindsTo s fd ⟨us,[]⟩ (ps.zip<|us++ds)
def Binds.all{K:W.Frag}(h:∀ us:List Value,us.length=ps.length->bindArgs fd ⟨us,[]⟩=pure (ps.zip us)):Binds K fd ps []:=λs us _ hl=>by
 rw[append_nil]at hl ⊢;exact .of_eq<|h us hl
abbrev Passes(CX:rl)(X:Cx)(E:XK):Prop:=∀ (ag:List (Addr × Obj)) (J:St) (H:Hp) (s:Shared) (e:Value) (s':Shared),Inv X ag J H s->CX X.stack H s E e s'->X.xe e s'
section
variable{X:Cx}{CX:rl}{k:Nat}{f C:Addr}{fd:FuncData}{ps:List Str}{sp:Sp}{uu:List V}{ds:List Value}{E:XK}{x m:Str}{p pos apos:Pos}{e o:Expr}{es:List Expr}{ta:TE}{t:TA}
def qO(F:dt X.prog X.w X.K X.mg X.base CX k f fd ps sp)(U:bS k X.A)(hb:Binds X.K fd ps ds)(hd:Vals uu ds)(R:Passes CX X E)
 (I:Inv X ag J H s)(r:Vals vs us)(h:sp (vs++uu) H Q E):wpAny (model X.prog X.w) X.A (call (.ref f) us) (EP X ag J Q) X.xe s:=by
 have r2:Vals (vs++uu) (us++ds):=r.append hd
 have hl:(us++ds).length=ps.length:=by rw[<-r2.length];exact F.len _ _ _ _ h
 refine wpAny_call (codeAny_mono (F.run X.A X.stack s H ⟨us,[]⟩ (us++ds) (vs++uu) Q E U I.Ie (hb s us I.h9 hl) r2 h) λr s' O=>?_)
 cases r with
 | error e=>exact R ag J H s e s' I O
 |ok Y=>
  cases Y with
  | ret u=>exact I.after O
  | next=>exact False.elim O
  | brk=>exact False.elim O
  | cont=>exact False.elim O
def mK(F:dt X.prog X.w X.K X.mg X.base CX k f fd ps sp)(a:bS k X.A)(c:Gl X x)(hm:X.mg x=some (.ref f))(b:W.keepIn X.K (.ref f)=true)(hb:Binds X.K fd ps ds)(hd:Vals uu ds)(Z:Passes CX X E)
 (ha:PA X (e::es) t)(R:(x == ("__debug__" : Str))=false)(d:starEach (e::es) X.env=(false,eval e X.env)::starEach es X.env)(O:(backTo pos<|starEach es X.env).any (·.1)=false) :
  PE X (.Call (.Name x p) (e::es) [] pos) (mT sp uu E t):=by
 intro ag s J H Q I h;refine wpAny_Call_Name_kw<|nI I c hm ?_ R;refine W.callWith_K I.ok.mod.kin b (cg (ha pos ag s J H _ I h) λus s1 Y=>x2_2 Y λvs g U r q=>#[U.h9,?_]) d O;exact qO F a hb hd Z U r q
structure Mk(K:W.Frag)(C f:Addr):Prop where
 makes:W.makesIn K C=true
 init:W.findIn K (.ref C) "__init__" = some (some<|.ref f)
 fn:W.isFn K (.ref f)=true
 kp:W.keepIn K (.ref C)=true
def EG(M:Mk X.K C f)(F:dt X.prog X.w X.K X.mg X.base CX k f fd ps sp)(b:bS (k+1) X.A)(hb:Binds X.K fd ps ds)(hd:Vals uu ds)
 (a:Passes CX X E)(I:Inv X ag J H s)(r:Vals vs us)
 (h:∀ x dx,H x=none->H dx=none->dx≠x->sp (.ref x::(vs++uu)) (upd (upd H dx<|.own x) x<|.ins C dx []) (λv H2=>v=.cb/\Q (.ref x) H2) E) :
  wpAny (model X.prog X.w) X.A (call (.ref C) us) (EP X ag J Q) X.xe s:=by
 have U:=h (s.heap.objs.size+1) s.heap.objs.size (I.b9.fresh<|Nat.le_succ _) (I.b9.fresh<|Qc _)<|Qk<|Nat.lt_succ_self _;have R:=Inv.made (C:=C) I;have r2:Vals (V.ref (s.heap.objs.size+1)::(vs++uu)) (Value.ref (s.heap.objs.size+1)::(us++ds)):=.cons rfl<|r.append hd
 have hl:(Value.ref (s.heap.objs.size+1)::us++ds).length=ps.length:=by
  have e:=r2.length;rw[F.len _ _ _ _ U]at e;exact e.symm
 refine wpAny_call (C8 (f:=f) I.h9 M.makes M.init (beq_iff_eq.mp M.fn) (codeAny_mono (F.run _ X.stack _ _ ⟨Value.ref (s.heap.objs.size+1)::us,[]⟩ (Value.ref (s.heap.objs.size+1)::(us++ds)) _ _ E (b.make C us [])
  (R.Ie.make C us []) (hb _ (Value.ref (s.heap.objs.size+1)::us) R.h9 hl) r2 U) λr s' O=>?_))
 cases r with
 | error e=>exact a ag J _ _ e s' R O
 |ok c=>
  cases c with
  |ret u=>
   let#[v,H',d,Y,ev,Z]:=R.after O;subst ev;exact#[Y,#[V.ref<|s.heap.objs.size+1,H',d,rfl,Z]]
  | next=>exact False.elim O
  | brk=>exact False.elim O
  | cont=>exact False.elim O
def qS(M:Mk X.K C f)(F:dt X.prog X.w X.K X.mg X.base CX k f fd ps sp)(a:bS (k+1) X.A)(b:Gl X x)(hm:X.mg x=some (.ref C))(hb:Binds X.K fd ps ds)(hd:Vals uu ds)(Z:Passes CX X E)
 (ha:PA X (e::es) t)(R:(x == ("__debug__" : Str))=false)(c:starEach (e::es) X.env=(false,eval e X.env)::starEach es X.env)(O:(backTo pos<|starEach es X.env).any (·.1)=false) :
  PE X (.Call (.Name x p) (e::es) [] pos) (Nk C sp uu E t):=by
 intro ag s J H Q I h;refine wpAny_Call_Name_kw<|nI I b hm ?_ R;refine W.callWith_K (h₀:=X.base) I.ok.mod.kin M.kp (cg (ha pos ag s J H _ I h) λus s1 Y=>x2_2 Y λvs d U r q=>#[U.h9,?_]) c O;exact EG M F a hb hd Z U r q
end
structure iR(N P:List Str)(sc:Scope):Prop where
 kind:sc.kind=.function
 co:sc.isCoroutine=false
 gen:sc.isGenerator=false
 nd:N.Nodup
 pre:N.take P.length=P
 par:∀ x∈P,sc.names.lookup x=some .local\/sc.names.lookup x=some .cell
 Jr:∀ y∈sc.names,y.2≠.free
def sQ{kindOf:Str->Option NameKind}:∀ {binds:List (Str × Value)} {m:Str->Option Value},(∀ v,(x,v)∉binds)->bindL kindOf binds m x=m x
 | [],_,_=>rfl
 | (n,v)::r,m,h=>by
  unfold bindL;rw[sQ λw I=>h w<|Qm _ I];split
  ·have:x≠n:=by rintro rfl;exact h v Qq
   simp[this]
  ·rfl
def tu{kindOf:Str->Option NameKind}:∀ {binds:List (Str × Value)} {m:Str->Option Value},(∀ v,(x,v)∉binds)->bindC kindOf binds m x=m x
 | [],_,_=>rfl
 | (n,v)::r,m,h=>by
  unfold bindC;rw[tu λw I=>h w<|Qm _ I];split
  ·rfl
  ·have:x≠n:=by rintro rfl;exact h v Qq
   simp[this]
def sY{kindOf:Str->Option NameKind}:∀ {P:List Str} {vs:List Value} {i:Nat} {m:Str->Option Value},P.Nodup->P[i]?=some x->vs[i]?=some v->kindOf x=some .local ->
  bindL kindOf (P.zip vs) m x=some v
 | [],_,_,_,_,h,_,_=>by simp at h
 | _::_,[],_,_,_,_,h,_=>by simp at h
 | p::P,w::vs,0,m,nd,h1,h2,hk=>by
  simp at h1 h2;subst h1;subst h2;show bindL kindOf ((p,w)::P.zip vs) m p=_;unfold bindL;rw[sQ λv I=>(List.nodup_cons.mp nd).1 (List.of_mem_zip I).1,if_pos hk];simp
 | p::P,w::vs,i+1,m,nd,h1,h2,hk=>by
  unfold bindL;exact sY (List.nodup_cons.mp nd).2 (by simpa using h1) (by simpa using h2) hk
def sZ{kindOf:Str->Option NameKind}:∀ {P:List Str} {vs:List Value} {i:Nat} {m:Str->Option Value},P.Nodup->P[i]?=some x->vs[i]?=some v->kindOf x≠some .local ->
  bindC kindOf (P.zip vs) m x=some v
 | [],_,_,_,_,h,_,_=>by simp at h
 | _::_,[],_,_,_,_,h,_=>by simp at h
 | p::P,w::vs,0,m,nd,h1,h2,hk=>by
  simp at h1 h2;subst h1;subst h2;show bindC kindOf ((p,w)::P.zip vs) m p=_;unfold bindC;rw[tu λv I=>(List.nodup_cons.mp nd).1 (List.of_mem_zip I).1,if_neg hk];simp
 | p::P,w::vs,i+1,m,nd,h1,h2,hk=>by
  unfold bindC;exact sZ (List.nodup_cons.mp nd).2 (by simpa using h1) (by simpa using h2) hk
abbrev start(N:List Str)(vs:List V):St:=vs.map some++replicate (N.length-vs.length) none
abbrev kX(CX:rl)(P:Program)(w:World)(K:W.Frag)(mg:Str->Option Value)(base:Heap)(N:List Str)(qual:Str)(scope:Scope)(f:Addr)(O:Value)(A:Around)(outer:List Env)(s:Shared)(H:Hp)(E:XK):Cx where
 prog:=P
 w:=w
 K:=K
 mg:=mg
 base:=base
 A:=A.deeper<|envOfC qual scope s.heap.objs.size f O
 N:=N
 s₀:=s
 H₀:=H
 env:=envOfC qual scope s.heap.objs.size f O
 outer:=outer
 stack:=envOfC qual scope s.heap.objs.size f O::outer
 ex:=[]
 calm:=true
 fn:=λ_=>true
 pn:=[]
 xe:=λe s'=>wpAny (model P w) (A.deeper<|envOfC qual scope s.heap.objs.size f O) (leaving (envOfC qual scope s.heap.objs.size f O) e) (λ_ I=>CX outer H s E e I) (λe' I=>CX outer H s E e' I) s'
def vL{sc:Scope}(h:sc.names.lookup x=some .cell):∃ c,(cellsFrom n sc.names []).lookup x=some c:=by
 have q:=W.cellsFrom_some sc.names n []<|.inl h;exact Option.isSome_iff_exists.mp q
def B5{CX:rl}{P:Program}{w:World}{K:W.Frag}{mg:Str->Option Value}{base:Heap}{N ps:List Str}{qual:Str}{scope:Scope}{f:Addr}{g:Value}{A:Around}{outer:List Env}{s s1:Shared}{H:Hp}{E:XK}{us:List Value}{vs:List V}
 (S:iR N ps scope)(hd:A.handled=none)(O:oH P w K mg base A outer s H)(hl:vs.length=ps.length)(r:Vals vs us)
 (x:InCallC s s.heap.objs.size (bindL (envOfC qual scope s.heap.objs.size f g).kindOf (ps.zip us) λ_=>none) (cellsFrom (s.heap.objs.size+1) scope.names []) (bindC (envOfC qual scope s.heap.objs.size f g).kindOf (ps.zip us) λ_=>none) s1) :
  Inv (kX CX P w K mg base N qual scope f g A outer s H E) [] (start N vs) H s1:=by
 have m:ps.length<=N.length:=by have:=congrArg List.length S.pre;rw[List.length_take]at this;omega
 let#[d,n,rfl,j]:=x.done;have R:∀ b:Addr,b∉(kX CX P w K mg base N qual scope f g A outer s H E).ex:=λb z=>absurd (show b∈([]:List Addr)from z)<|by simp
 refine⟨⟨O.mod,S.kind,rfl,rfl,Qc _,λy z c d I=>?_,λy U=>?_,λy c _ h=>?_,⟨λ_=>hd,.inl hd⟩,Around.frames_deeper O.frames,.inr #[rfl,rfl],λb z=>absurd z<|R b,O.bs,O.AB,λb _ _=>R b,λb z=>absurd z<|R b,O.iA,O.OX⟩,
  rfl,O.bare,Un.kept j,⟨_,x.toInCall.ns,λi y v d I o=>?_⟩,λy c h=>#[_,x.cell y c h],O.b9.fresh<|Qc _,λy c h=>?_,λp Z=>absurd (show p∈([]:List (Addr × Obj))from Z) (by simp),O.b9.kept j,?_⟩
 ·exact name_of_addr x.apart (PySem.mem_of_lookup d)<|PySem.mem_of_lookup I
 ·have U:=U;rcases U with U | U
  ·exact vL U
  ·exact absurd rfl<|S.Jr _<|PySem.mem_of_lookup U
 ·exact le_of_lt<|x.above y c<|PySem.mem_of_lookup h
 ·have hi:i<vs.length:=by
   unfold start at I;by_cases hi:i<vs.length
   ·exact hi
   ·rw[Qo<|by simpa using hi]at I;rw[List.getElem?_replicate]at I;split at I<;>cases I
  have ha:vs[i]?=some v:=by
   unfold start at I;rw[Ql (by simpa using hi),QM]at I
   cases e:vs[i]? with
   | none=>rw[e]at I;cases I
   | some a=>rw[e]at I;cases I;rfl
  let#[u,hu,l]:=r.get ha
  have Z:ps[i]?=some y:=by
   rw[<-S.pre,List.getElem?_take_of_lt<|by omega];exact d
  have Y:ps.Nodup:=by rw[<-S.pre];exact S.nd.sublist<|List.take_sublist _ _
  refine#[u,l,?_];rcases S.par y (Qt Z)with k | k
  ·exact .inl #[k,sY Y Z hu k]
  ·let#[c,e]:=vL k;refine .inr #[.inl k,c,e,?_];have q:=x.cell y c e;rw[sZ Y Z hu (by show scope.names.lookup y≠_;rw[k];decide)]at q;exact q
 ·exact O.b9.fresh<|le_of_lt<|x.above y c<|PySem.mem_of_lookup h
 ·unfold start;show _=N.length;rw[length_append,length_map,List.length_replicate];omega
def M3{CX:rl}{P:Program}{w:World}{K:W.Frag}{mg:Str->Option Value}{base:Heap}{k:Nat}{f:Addr}{name qual:Str}{params:Arguments}{body:List Stmt}{scope:Scope}{j kV doc pm ft ct oc:Value}{an od:Option Addr}
 {zr:Array (Option Value)}{N ps:List Str}{sp:Sp}(m:K.lookup f=some ⟨oc,od,.func<|W.fnOf name qual params body scope j kV doc pm an ft ct,zr⟩)(i:W.codeIn K ft qual=true)(S:iR N ps scope)
 (len:∀ vs H Q E,sp vs H Q E->vs.length=ps.length)
 (U:∀ (A:Around) (outer:List Env) (s:Shared) (H:Hp) (vs:List V) (Q:VK) (E:XK),bS k (A.deeper<|envOfC qual scope s.heap.objs.size f ft)->sp vs H Q E ->
   ∃ t,hY (kX CX P w K mg base N qual scope f ft A outer s H E) body t/\t { nx:=λ_ H'=>Q .cb H',rt:=Q } (start N vs) H) :
  dt P w K mg base CX (k+1) f (W.fnOf name qual params body scope j kV doc pm an ft ct) ps sp:=by
 refine#[len,λA outer s H args us vs Q E h c hb r Z=>?_];have hl:=len _ _ _ _ Z;have l:K.In s.heap:=c.mod.kin.keeps λb o e=>(c.bs b o e).1;have g:s.heap.NoLimit:=c.mod.nolimit.keeps λb o e=>(c.bs b o e).1
 have R:∀ y∈ps.zip us,scope.names.lookup y.1=some .local\/(scope.names.lookup y.1=some .cell/\((cellsFrom (s.heap.objs.size+1) scope.names []).lookup y.1).isSome=true):=λ⟨n,v⟩ p=>by
  rcases S.par n (List.of_mem_zip p).1 with q | q
  ·exact .inl q
  ·exact .inr #[q,W.cellsFrom_some _ _ _<|.inl q]
 refine codeAny_call_function h.depth (l _ _ m) rfl S.co S.gen rfl (W.codeRec_of l i)<|hb _ _ _ _ ?_;refine wpAny_newFunctionEnv_cells S.kind R λenv C s1 x=>?_;subst C;refine#[g.keeps x.toInCall.keep,codeAny_func ?_];let#[t,z,B]:=U A outer s H vs Q E (h.deeper _) Z;have I:Inv (kX CX P w K mg base N qual scope f ft A outer s H E) [] (start N vs) H s1:=B5 S h.hd c hl r x;refine wpAny_mono (z [] s1 (start N vs) H _ I B) (λD s' Y=>?_) λe s' Y=>Y
 have a:∀ {O:St} {H':Hp} {v:V} {u:Value},Inv (kX CX P w K mg base N qual scope f ft A outer s H E) [] O H' s'->RelV v u->Q v H'->CE outer P w H s Q u s' :=
  λ{O H' v u} QN d q=>#[v,H',QN.os,QN.bare,QN.base,QN.b9,d,q]
 cases D with
 |ret u=>
  let#[v,O,H',QN,d,q]:=Y;exact a QN d q
 |next=>
  let#[O,H',QN,q]:=Y;exact a (v:=V.cb) (u:=Value.none) QN rfl q
 |brk=>
  let#[_,_,_,q]:=Y;exact False.elim q
 |cont=>
  let#[_,_,_,q]:=Y;exact False.elim q
section
variable{X:Cx}{x:Str}{p pos:Pos}{e:Expr}{es:List Expr}{t:TA}{id T:String}{r:List V->Hp->VK->Prop}
abbrev tCB(r:List V->Hp->VK->Prop)(t:TA):TE:=λJ H Q=>t J H λvs I=>r vs I Q
def oT(c:bM X (.builtin id) r)(a:Gl X x)(hm:X.mg x=none)(Z:bootBuiltins x=some (.builtin id))(ha:PA X (e::es) t)(hn:x ≠ "__name__")(R:(x == ("__debug__" : Str))=false)
 (b:starEach (e::es) X.env=(false,eval e X.env)::starEach es X.env)(O:(backTo pos<|starEach es X.env).any (·.1)=false):PE X (.Call (.Name x p) (e::es) [] pos) (tCB r t):=by
 intro ag s J H Q I h;refine wpAny_Call_Name_kw<|kf I a hm Z ?_ hn R;exact PyProof.Rows.callWith_builtin1 (cg (ha pos ag s J H _ I h) λus s1 U=>x2_2 U λvs f d r1 Y=>c ag s1 J f vs us Q d r1 Y) b O
def cQ(c:bM X (.type T) r)(a:Gl X x)(hm:X.mg x=none)(Z:bootBuiltins x=some (.type T))(ha:PA X (e::es) t)(hn:x ≠ "__name__")(R:(x == ("__debug__" : Str))=false)
 (b:starEach (e::es) X.env=(false,eval e X.env)::starEach es X.env)(O:(backTo pos<|starEach es X.env).any (·.1)=false):PE X (.Call (.Name x p) (e::es) [] pos) (tCB r t):=by
 intro ag s J H Q I h;refine wpAny_Call_Name_kw<|kf I a hm Z ?_ hn R;exact PyProof.Rows.callWith_type1 (cg (ha pos ag s J H _ I h) λus s1 U=>x2_2 U λvs f d r1 Y=>c ag s1 J f vs us Q d r1 Y) b O
end
end L2
namespace HT
open PySem PyProof.Rows
section
variable{prog:Program}{w:World}{A:Around}{E:Value->Shared->Prop}{s:Shared}
def HD(j:IsTup s.heap t vs.toArray)(hb:IsTup s.heap b I.toArray)(f:vs≠[])
 (l:I=[]->Q (.ref t) s)(k:I≠[]->Q (.ref s.heap.objs.size) { s with heap:=s.heap.push { cls:=.type "tuple",data:=.seq (vs++I).toArray } })
 (d:vs.length+I.length<=sizeLine):wpAny (model prog w) A (binaryOp .Add (.ref t)<|.ref b) Q E s:=by
 let#[#[cls,h,data,sl],c,g,n,hd]:=id j;let#[#[i,Z,data2,R],O,Y,n2,U]:=id hb;simp only at g hd Y U;subst g hd Y U
 have e:vs.toArray++I.toArray=(vs++I).toArray:=by simp
 by_cases a:I=[]
 ·exact concat_meets ⟨_,c,rfl⟩ ⟨_,O,rfl⟩ noFill_tuple_add seq_tuple_add PySem.F.slot_tuple_add PySem.F.entry_tuple_add (PySem.F.args_tuple_add_2 _ _)
   (tuple_addW1 t b vs.toArray I.toArray n n2 h Z sl R (by simpa using f)<|by simp[a]) ⟨c,O,l a⟩
 ·refine concat_meets ⟨_,c,rfl⟩ ⟨_,O,rfl⟩ noFill_tuple_add seq_tuple_add PySem.F.slot_tuple_add PySem.F.entry_tuple_add (PySem.F.args_tuple_add_2 _ _)
   (tuple_addW2 t b vs.toArray I.toArray n n2 h Z sl R (by simpa using f) (by simpa using a)<|by rw[size_toArray,size_toArray];exact d) ⟨c,O,?_⟩
  rw[e];exact k a
abbrev cw(n d:Nat):Option Int->Nat
 | none=>d
 | some v=>if v<0 then(v+(n:Int)).toNat else min v.toNat n
def vy(n d:Nat):cw n d none=d:=rfl
def iV(v:Int)(n d:Nat):(if v<0 then max (v+(n:Int)) 0 else min v (n:Int))=((cw n d (some v):Nat):Int):=by
 show(if v<0 then max (v+(n:Int)) 0 else min v (n:Int))=(((if v<0 then(v+(n:Int)).toNat else min v.toNat n):Nat):Int);by_cases I:v<0
 ·simp only[if_pos I];omega
 ·simp only[if_neg I];omega
def yK(lo hi:Option Int)(n:Nat):Builtin.Slice.sliceAdjust lo hi 1 (n:Int)=(((cw n 0 lo:Nat):Int),((cw n n hi:Nat):Int)):=by
 have I:¬ (1<0):=by omega
 refine Prod.ext ?_ ?_
 ·cases lo with
  | none=>rfl
  | some v=>exact iV v n 0
 ·cases hi with
  | none=>rfl
  | some v=>exact iV v n n
def zO(i j:Nat):Builtin.Slice.slicePlaces (i:Int) (j:Int) 1=j-i:=by
 unfold Builtin.Slice.slicePlaces
 have I:1 > 0:=by omega
 split<;>omega
def gC(p:IsPart v o)(h:Q o s):wpAny (model prog w) A (Builtin.Slice.slicePartIndex v) Q E s:=by
 cases p with
 | none=>exact slicePart_none h
 | int i t=>exact slicePart_int h
def ja{sl:Addr}{U R:Value}{lo hi:Option Int}{n:Nat}{Q:Int × Int × Nat->Shared->Prop}(Z:s.heap.IsSliceOf sl U R .none)(Y:IsPart U lo)(pu:IsPart R hi)
 (h:Q (((cw n 0 lo:Nat):Int),1,cw n n hi-cw n 0 lo) s):wpAny (model prog w) A (Builtin.Slice.sliceApplied (.ref sl)<|pure (n:Int)) Q E s:=by
 let#[os,I,a,O]:=id Z;refine J2<|J2<|wpAny_field I O rfl<|J2<|wpAny_field I O rfl<|J2<|wpAny_field I O rfl<|Qa ?_;refine J2<|slicePart_none ?_;refine J2<|gC Y<|J2<|gC pu<|J2<|Qa ?_;show wpAny _ _ (match Builtin.Slice.sliceAdjust lo hi 1 (n:Int)with | (lo,hi)=>pure (lo,(1:Int),Builtin.Slice.slicePlaces lo hi 1)) _ _ s;rw[yK lo hi n];show wpAny _ _ (pure (((cw n 0 lo:Nat):Int),(1:Int),Builtin.Slice.slicePlaces ((cw n 0 lo:Nat):Int) ((cw n n hi:Nat):Int) 1)) _ _ s;rw[zO];exact Qa h
def E1(xs:Array Value)(i k:Nat):((List.range k).filterMap λ(m:Nat)=>xs[((i:Int)+(m:Int)*1).toNat]?).toArray=((xs.toList.drop i).take k).toArray:=by
 have e:(λ(m:Nat)=>xs[(i+(m:Int)*1).toNat]?)=λm=>xs[i+m]?:=by
  funext m
  have:(i+(m:Int)*1).toNat=i+m:=by omega
  rw[this]
 rw[e];have:=pick_run xs i k;rw[List.filterMap_map]at this;have I:((λx=>xs[x]?) ∘ λx=>i+x)=λm=>xs[i+m]?:=rfl;rw[I]at this;rw[this]
def nR{t sl:Addr}{items:Array Value}{b a:Value}{lo hi:Option Int}{Q:Value->Shared->Prop}(O:IsTup s.heap t items)(c:s.heap.IsSliceOf sl b a .none)(d:IsPart b lo)(pu:IsPart a hi)
 (e:¬ (cw items.size 0 lo=0/\cw items.size items.size hi=items.size))
 (h:Q (.ref s.heap.objs.size) { s with heap:=s.heap.push { cls:=.type "tuple",data:=.seq ((items.toList.drop<|cw items.size 0 lo).take<|cw items.size items.size hi-cw items.size 0 lo).toArray } })
 (f:items.size<=sizeLine):wpAny (model prog w) A (getItem (.ref t)<|.ref sl) Q E s:=by
 have I:sizeOk (.seq ((items.toList.drop<|cw items.size 0 lo).take<|cw items.size items.size hi-cw items.size 0 lo).toArray):=by
  show((items.toList.drop<|cw items.size 0 lo).take<|cw items.size items.size hi-cw items.size 0 lo).toArray.size<=sizeLine;rw[size_toArray,List.length_take,length_drop,length_toList];omega
 let#[os,R,Y,g]:=id c
 have Z:s.TypeIs (.ref sl) "slice" := #[os,R,Y]
 unfold getItem
 try with_reducible refine wpAny_holding ?_
 first | refine J2 (Qa ?_) | skip
 refine J2<|wpAny_sequenceKey O.typeIs ∅ ?_
 refine J2 (wpAny_callSpecial?_slot O.typeIs PyProof.Rows.slot_tuple_getitem
  (wpAny_call_entry PyProof.Rows.slot_tuple_getitem O.typeIs entry_tuple_getitem ?_<|args_tuple_getitem _ _))
 show wpAny _ _ (Builtin.Tuple.tupleItemsOf (.ref t) >>= _) _ _ s;refine J2<|tupleItemsOf_ O ?_;refine J2<|wpAny_typeOf Z ?_;refine J2<|ja c d pu ?_
 have U:¬ ((((cw items.size 0 lo:Nat):Int) == 0&&(1:Int) == 1&&(cw items.size items.size hi-cw items.size 0 lo) == items.size)=true):=by
  intro q;rw[and_eq_true,and_eq_true]at q;have j:((cw items.size 0 lo:Nat):Int)=0:=eq_of_beq q.1.1;have i:cw items.size items.size hi-cw items.size 0 lo=items.size:=eq_of_beq q.2;exact e ⟨by omega,by omega⟩
 show wpAny _ _ (if(((cw items.size 0 lo:Nat):Int) == 0&&(1:Int) == 1&&(cw items.size items.size hi-cw items.size 0 lo) == items.size)=true then _ else _) _ _ s;rw[if_neg U,E1]
 first
  | exact J2 (wpAny_newObj_type (Qa ⟨_,rfl,Qa h⟩) I)
  | exact J2 (wpAny_newObj_type (J2 (Qa (Qa ⟨_,rfl,Qa h⟩))) I)
  | exact J2 (J2 (wpAny_newObj_type (Qa (Qa ⟨_,rfl,Qa h⟩)) I))
  | exact J2 (J2 (wpAny_newObj_type (Qa ⟨_,rfl,Qa h⟩) I))
end
end HT
namespace L2
open PySem PySem.Spec PyProof.Rows
@[reducible]noncomputable def TO:=St->Hp->(Option Int->Hp->Prop)->Prop
abbrev PO(X:Cx)(e:Option Expr)(t:TO):Prop :=
 ∀ (ag:List (Addr × Obj)) (s:Shared) (J:St) (H:Hp) (Q:Option Int->Hp->Prop),Inv X ag J H s->t J H Q ->
  wpAny (model X.prog X.w) X.A (evalPart e X.env) (λu s'=>∃ o H',Inv X ag J H' s'/\IsPart u o/\Q o H') X.xe s
abbrev Gu:TO:=λ_ H Q=>Q none H
abbrev MH(t:TE):TO:=λJ H Q=>t J H λx I=>∃ i,x=.int i/\Q (some i) I
section
variable{X:Cx}{e:Expr}{te:TE}{lo hi:Option Expr}{tl th:TO}{pos p2:Pos}
def xH:PO X none Gu:=by
 intro ag s J H Q I h;exact Qa ⟨none,H,I,.none,h⟩
def nH(h:PE X e te):PO X (some e) (MH te):=by
 intro ag s J H Q I U;refine cg (h ag s J H _ I U) λu s1 O=>x2_2 O λx Z Y r1 R=>?_;let#[i,rfl,q]:=R;let#[t,rfl]:=r1;exact#[some i,Z,Y,.int i t,q]
abbrev vm(X:Cx)(r:V->Option Int->Option Int->Hp->VK->Prop):Prop :=
 ∀ (ag:List (Addr × Obj)) (s:Shared) (J:St) (H:Hp) (x:V) (v O I:Value) (lo hi:Option Int) (sl:Addr) (Q:VK),Inv X ag J H s->RelV x v->s.heap.IsSliceOf sl O I .none->IsPart O lo->IsPart I hi->r x lo hi H Q ->
  ∃ T id,typeLookup (.type T) "__getitem__" = pure (some<|.builtin id)/\s.TypeIs v T/\wpAny (model X.prog X.w) X.A (getItem v<|.ref sl) (EP X ag J Q) X.xe s
def vm.or(h:vm X r)(h':vm X r'):vm X (λx lo hi H Q=>r x lo hi H Q\/r' x lo hi H Q):=by
 intro ag s J H x v R O lo hi sl Q I U Z Y pu q;rcases q with q | q
 ·exact h ag s J H x v R O lo hi sl Q I U Z Y pu q
 ·exact h' ag s J H x v R O lo hi sl Q I U Z Y pu q
abbrev tSl(r:V->Option Int->Option Int->Hp->VK->Prop)(te:TE)(tl th:TO):TE:=λJ H Q=>te J H λx O=>tl J O λl H2=>th J H2 λu I=>r x l u I Q
def oC(i:vm X r)(k:PE X e te)(hl:PO X lo tl)(hu:PO X hi th):PE X (.Subscript e (.Slice lo hi none p2) pos) (tSl r te tl th):=by
 intro ag s J H Q I h;refine Subscript_ (cg (k ag s J H _ I h) λv s1 R=>x2_2 R λx y t r1 d=>?_);refine wpAny_Slice (cg (hl ag s1 J y _ t d) λY s2 R=>x2_2 R λl H2 p f c=>cg (hu ag s2 J H2 _ p c) λU O R=>x2_2 R λu Z o pu a=>?_);rw[evalPart_none];refine Qa ?_;have n:Inv X ag J Z { O with heap:=O.heap.push { cls:=.type "slice",data:=.fields (List.toArray [Y,U,.none]) } }:=o.kept (t':=O.toks) λb z q=>Qb _ q;let#[T,id,m,g,j]:=i ag { O with heap:=O.heap.push { cls:=.type "slice",data:=.fields (List.toArray [Y,U,.none]) } } J Z x v Y U l u O.heap.objs.size Q n r1 (Heap.IsSliceOf.new ..) f pu a;show wpAny (model X.prog X.w) X.A (subscriptTail e (.Slice lo hi none p2) v<|.ref O.heap.objs.size) (EP X ag J Q) X.xe { O with heap:=O.heap.push { cls:=.type "slice",data:=.fields (List.toArray [Y,U,.none]) } };exact tail_any (ops:=[.ref O.heap.objs.size,v]) g m j<|by with_unfolding_all rfl
abbrev iD(xs:List V)(lo hi:Option Int):List V:=(xs.drop<|HT.cw xs.length 0 lo).take<|HT.cw xs.length xs.length hi-HT.cw xs.length 0 lo
def nT(xs:List V)(lo hi:Option Int):(iD xs lo hi).length<=xs.length:=by
 unfold iD;rw[List.length_take,length_drop];omega
abbrev Ou(K:W.Frag):V->Option Int->Option Int->Hp->VK->Prop:=λx lo hi H Q=>∃ a xs,x=.ref a/\ed K H a xs /\
 ¬ (HT.cw xs.length 0 lo=0/\HT.cw xs.length xs.length hi=xs.length)/\∀ p,H p=none->Q (.ref p) (upd H p<|.tup<|iD xs lo hi)
def LJ:vm X (Ou X.K):=by
 intro ag s J H x v f e lo hi sl Q I U d Y pu h;let#[a,xs,rfl,Z,c,q]:=h;cases U;let#[bq,r,R,O]:=I.tuple Z
 have hlen:bq.toArray.size=xs.length:=by rw[size_toArray];exact r.length.symm
 refine#["tuple",_,PyProof.Rows.slot_tuple_getitem.lookup,R.typeIs,?_];refine HT.nR R d Y pu (by rw[hlen];exact c) ?_ (by rw[hlen];exact O);rw[hlen];refine#[.ref s.heap.objs.size,_,I.laid (λb g q=>Qb _ q) (Qc _) ?_,rfl,q _<|I.b9.fresh<|Qc _];exact#[Qp (nT xs lo hi) O,_,(r.drop<|HT.cw xs.length 0 lo).take<|HT.cw xs.length xs.length hi-HT.cw xs.length 0 lo,IsTup.new _ _]
abbrev Nv(K:W.Frag):R2:=λx y H Q=>∃ a b xs ys,x=.ref a/\y=.ref b/\ed K H a xs/\ed K H b ys/\xs≠[]/\xs.length+ys.length<=sizeLine /\
 (ys=[]->Q (.ref a) H)/\(ys≠[]->∀ p,H p=none->Q (.ref p) (upd H p<|.tup<|xs++ys))
def Vals.rW(r:Vals xs us):us=[]↔xs=[]:=by
 cases r with
 | nil=>simp
 | cons _ _=>simp
def G8:hE X (binaryOp .Add) (Nv X.K):=by
 intro ag s J H x y v u Q I Y U h;let#[a,b,xs,ys,rfl,rfl,ha,hb,d,R,c,Z]:=h;cases Y;cases U;let#[bq,r1,p1,_]:=I.tuple ha;let#[O,r2,p2,_]:=I.tuple hb;refine HT.HD p1 p2 (λz=>d<|r1.rW.mp z) (λz=>#[.ref a,H,I,rfl,c<|r2.rW.mp z]) (λz=>?_) (by rw[<-r1.length,<-r2.length];exact R);refine#[.ref s.heap.objs.size,_,I.laid (λb e q=>Qb _ q) (Qc _) ?_,rfl,Z (λw=>z<|r2.rW.mpr w) _<|I.b9.fresh<|Qc _];exact#[by rw[length_append];exact R,_,r1.append r2,IsTup.new _ _]
end
abbrev OV(n:Nat)(i:Int):Option Nat:=if 0<=i then(if i<n then some i.toNat else none)else if -(n:Int)<=i then some (i+n).toNat else none
abbrev Pa(xs:List α)(i:Int):Option α:=(OV xs.length i).bind λj=>xs[j]?
def yx(h:OV n i=some j):seqIndex? i n=some j/\j<n/\-(n:Int)<=i/\i<n:=by
 unfold OV at h;by_cases O:0<=i
 ·rw[if_pos O]at h;by_cases I:i<n
  ·rw[if_pos I]at h;have e:=Option.some.inj h;exact#[by rw[seqIndex_of O I,e],by omega,by omega,I]
  ·rw[if_neg I]at h;cases h
 ·rw[if_neg O]at h;by_cases I:-n<=i
  ·rw[if_pos I]at h;have e:=Option.some.inj h;exact#[by rw[seqIndex_neg (by omega) I,e],by omega,I,by omega]
  ·rw[if_neg I]at h;cases h
def rq(h:Pa xs i=some v):∃ j,seqIndex? i xs.length=some j/\xs[j]?=some v/\j<xs.length/\-(xs.length:Int)<=i/\i<xs.length:=by
 unfold Pa at h
 cases e:OV xs.length i with
 | none=>rw[e]at h;cases h
 |some j=>
  rw[e]at h;let#[U,R,O,I]:=yx e;exact#[j,U,h,R,O,I]
abbrev yi(b:Expr):Prop:=∀ o i,subscripted b false o i=operate [o,i] (getItem o i)
abbrev A0(X:Cx)(r:R2):Prop :=
 ∀ (value slice:Expr) (ag:List (Addr × Obj)) (s:Shared) (J:St) (H:Hp) (x y:V) (v u:Value) (Q:VK),Inv X ag J H s->RelV x v->RelV y u->r x y H Q ->
  subscripted slice false v u=operate [v,u] (getItem v u)->wpAny (model X.prog X.w) X.A (subscriptTail value slice v u) (EP X ag J Q) X.xe s
abbrev MtR(X:Cx)(id:String)(r:V->List V->Hp->VK->Prop):Prop :=
 ∀ (ag:List (Addr × Obj)) (s:Shared) (J:St) (H:Hp) (x:V) (xs:List V) (v:Value) (us:List Value) (Q:VK),Inv X ag J H s->RelV x v->Vals xs us->r x xs H Q ->
  wpAny (model X.prog X.w) X.A (call (.builtin id)<|v::us) (EP X ag J Q) X.xe s
section
variable{X:Cx}{a b:Expr}{ta tb:TE}{pos:Pos}
def A0.or(h:A0 X r)(h':A0 X r'):A0 X (λx y H Q=>r x y H Q\/r' x y H Q):=by
 intro value slice ag s J H x y v u Q I R O q U;rcases q with q | q
 ·exact h value slice ag s J H x y v u Q I R O q U
 ·exact h' value slice ag s J H x y v u Q I R O q U
def NJ{r:R2}(Y:A0 X r)(ha:PE X a ta)(hb:PE X b tb)(U:yi b):PE X (.Subscript a b pos) (tOp r ta tb):=by
 intro ag s J H Q I h;exact Subscript_ (Di ha hb I h λv u s2 x y H2 Z R O q=>Y a b ag s2 J H2 x y v u Q Z R O q<|U _ _)
abbrev Jw(K:W.Frag):R2:=λx y H Q=>∃ p xs i v,x=.ref p/\y=.int i/\dz K H p xs/\Pa xs i=some v/\Q v H
abbrev KG(K:W.Frag):R2:=λx y H Q=>∃ p xs i v,x=.ref p/\y=.int i/\ed K H p xs/\Pa xs i=some v/\Q v H
abbrev K2:R2:=λx y H Q=>∃ z i c,x=.str z/\y=.int i/\z.length<=sizeLine/\Pa z.cps.toList i=some c/\Q (.str ⟨(List.toArray [c])⟩) H
def HM:A0 X (Jw X.K):=by
 intro value slice ag s J H x y v u Q I e d h a;let#[p,xs,i,z,rfl,rfl,f,g,q]:=h;cases e;let#[t,rfl]:=d;let#[bq,r,Y,n]:=I.list f;let#[j,R,m,o,l,k]:=rq g;let#[w,c,U]:=r.get m;have hl:=r.length;have hn:=lR
 have O:EP X ag J Q w s:=#[z,H,I,U,q]
 by_cases b:0<=i
 ·have Z:i.toNat=j:=by
   rw[seqIndex_of b k]at R;exact Option.some.inj R
  exact item_listR Y.isList b (by omega) (by rw[Z];simpa using c) O a
 ·have Z:(i+(bq.toArray.size:Int)).toNat=j:=by
   rw[seqIndex_neg (by omega) l]at R;rw[size_toArray,<-hl];exact Option.some.inj R
  exact subscriptTail_builtinR Y.isList.typeIs slot_list_getitem.lookup
   (wpAny_getItem_list_neg Y.isList (by omega) (by rw[size_toArray]<;>omega) (by omega) (by rw[Z];simpa using c) ⟨rfl,O⟩) a
def uB:A0 X (KG X.K):=by
 intro value slice ag s J H x y v u Q I Z Y h a;let#[p,xs,i,z,rfl,rfl,b,c,q]:=h;cases Z;let#[t,rfl]:=Y;let#[bq,r,U,g]:=I.tuple b;let#[j,e,d,m,l,k]:=rq c;let#[w,f,O]:=r.get d;have hl:=r.length;have hn:=lR
 have R:EP X ag J Q w s:=#[z,H,I,O,q]
 exact subscriptTail_builtinR U.typeIs slot_tuple_getitem.lookup
  (getItem_tuple U (by omega) (by omega) (by rw[size_toArray,<-hl];exact e) (by simpa using f) ⟨rfl,R⟩) a
def Lm:A0 X K2:=by
 intro value slice ag s J H x y v u Q I U R h Y;let#[z,i,c,rfl,rfl,k,Z,q]:=h;let#[t,rfl]:=U;let#[g,rfl]:=R;let#[j,O,d,l,b,a]:=rq Z
 have hl:z.cps.toList.length=z.length:=by simp[Str.length]
 rw[hl]at O b a;have hn:=lR
 exact tail_any (typeIs_str s z t) slot_str_getitem.lookup (getItem_str (by
  have f:decide (i < -(2 ^ 63:Int))=false:=Qh (by omega);have e:decide (i≥2 ^ 63)=false:=Qh<|by omega
  rw[f,e,Bool.or_false]) (by rw[O];simpa using d) ⟨.str ⟨(List.toArray [c])⟩,H,I.tok _,⟨_,rfl⟩,q⟩) Y
abbrev rIx(K:W.Frag):R2:=λx y H Q=>Jw K x y H Q\/KG K x y H Q\/K2 x y H Q
def Iu:A0 X (rIx X.K):=HM.or<|uB.or Lm
def Ai(bq:List Value)(n j:Nat)(u:Value):Obj.mapSeq (·.setIfInBounds j u) { cls:=.type "list",data:=.seq bq.toArray n }={ cls:=.type "list",data:=.seq (bq.set j u).toArray n }:=by
 simp[Obj.mapSeq]
def Inv.lst{ag:List (Addr × Obj)}{J:St}{H:Hp}{s:Shared}{p:Addr}{xs:List V}(I:Inv X ag J H s)(h:H p=some (.lst xs)) :
  ∃ (bq:List Value) (n:Nat),Vals xs bq/\s.heap.get? p=some { cls:=.type "list",data:=.seq bq.toArray n }/\xs.length<=sizeLine:=by
 let#[z,bq,n,r,e]:=I.b9 p _ h;exact#[bq,n,r,e,z]
def Inv.Jl{ag:List (Addr × Obj)}{J:St}{H:Hp}{s:Shared}{p:Addr}{xs ys:List V}{bq O:List Value}{n R:Nat}{f:Obj->Obj}(I:Inv X ag J H s)(h:H p=some (.lst xs))
 (Z:s.heap.get? p=some { cls:=.type "list",data:=.seq bq.toArray n })(U:f { cls:=.type "list",data:=.seq bq.toArray n }={ cls:=.type "list",data:=.seq O.toArray R })(r:Vals ys O)(Y:ys.length<=sizeLine)(t:Nat) :
  Inv X ag J (upd H p<|.lst ys) { s with heap:=s.heap.update p f,toks:=t }:=by
 have e:(s.heap.update p f).get? p=some { cls:=.type "list",data:=.seq O.toArray R }:=by
  rw[Heap.get?_update_self f Z (by rw[U]<;>rfl),U]
 refine I.write (x:=p) (e:=p) (by rw[h];trivial) (.inl rfl) (λb u hb q=>(Heap.get?_update_other _ _<|Ne.symm hb).trans q) ⟨_,e⟩ ?_;exact#[Y,O,R,r,e]
abbrev zh:V->V->V->Hp->(Hp->Prop)->Prop:=λo i v H Q=>∃ p xs k j,o=.ref p/\i=.int k/\H p=some (.lst xs)/\OV xs.length k=some j/\Q (upd H p<|.lst<|xs.set j v)
def set_list:Li X zh:=by
 intro ag s J H o i v ov m u Q I e f d h;let#[p,xs,k,j,rfl,rfl,Y,l,q]:=h;cases e;let#[t,rfl]:=f;let#[bq,n,r,R,g]:=I.lst Y;let#[O,w,a,Z]:=yx l;have hl:=r.length;have hn:=lR
 have c:Inv X ag J (upd H p<|.lst<|xs.set j v) { s with heap:=s.heap.update p (Obj.mapSeq (·.setIfInBounds j u)) } :=
  I.Jl Y R (Ai bq n j u) (r.set d j) (by rw[length_set];exact g) s.toks
 by_cases b:0<=k
 ·have U:k.toNat=j:=by
   rw[seqIndex_of b Z]at O;exact Option.some.inj O
  exact W.ki_setAt R b (by omega) (by rw[size_toArray,<-hl];exact Z)<|by rw[U];exact#[_,c,q]
 ·have U:(k+(bq.toArray.size:Int)).toNat=j:=by
   rw[seqIndex_neg (by omega) a]at O;rw[size_toArray,<-hl];exact Option.some.inj O
  exact W.ki_setBack R (by omega) (by rw[size_toArray,<-hl];exact a) (by omega)<|by rw[U];exact#[_,c,q]
def u0(lo hi:Option Int)(n:Nat):(sliceBounds lo hi none n).1=((HT.cw n 0 lo:Nat):Int)/\(sliceBounds lo hi none n).2.1=((HT.cw n n hi:Nat):Int)/\(sliceBounds lo hi none n).2.2=1:=by
 refine#[?_,?_,rfl]
 ·cases lo with
  | none=>simp[sliceBounds,HT.cw]
  |some i=>
   simp only[sliceBounds,HT.cw,Option.getD_none,show(1:Int) > 0 by decide,if_true];by_cases h:i<0
   ·simp only[h,if_true]<;>omega
   ·simp only[h,if_false]<;>omega
 ·cases hi with
  | none=>simp[sliceBounds,HT.cw]
  |some i=>
   simp only[sliceBounds,HT.cw,Option.getD_none,show(1:Int) > 0 by decide,if_true];by_cases h:i<0
   ·simp only[h,if_true]<;>omega
   ·simp only[h,if_false]<;>omega
def tR(bq:List Value)(lo hi:Option Int):slicePick bq.toArray lo hi none=((bq.drop<|HT.cw bq.length 0 lo).take<|HT.cw bq.length bq.length hi-HT.cw bq.length 0 lo).toArray:=by
 let#[R,O,I]:=u0 lo hi bq.toArray.size;unfold slicePick;rw[R,O,I];simp only[sliceRange_one,pick_run]<;>rfl
abbrev Oy(K:W.Frag):V->Option Int->Option Int->Hp->VK->Prop:=λx lo hi H Q=>∃ a xs,x=.ref a/\dz K H a xs/\∀ p,H p=none->Q (.ref p) (upd H p<|.lst<|iD xs lo hi)
def rN:vm X (Oy X.K):=by
 intro ag s J H x v e d lo hi sl Q I R c U pu h;let#[a,xs,rfl,Z,q]:=h;cases R;let#[bq,r,O,Y]:=I.list Z;have hlen:=r.length;refine#["list",_,slot_list_getitem.lookup,O.isList.typeIs,?_];refine wpAny_getItem_list_slice O.isList c U pu .none (by simp) ?_ (by rw[size_toArray]<;>omega);rw[tR,<-hlen];refine#[.ref s.heap.objs.size,_,I.laid (λb f q=>Qb _ q) (Qc _) ?_,rfl,q _<|I.b9.fresh<|Qc _];exact#[Qp (nT xs lo hi) Y,_,0,(r.drop<|HT.cw xs.length 0 lo).take<|HT.cw xs.length xs.length hi-HT.cw xs.length 0 lo,Qf _ rfl]
abbrev gY:V->Bool
 | .cb=>true
 | .bl _=>true
 | .int _=>true
 | .str _=>true
 | _=>false
abbrev pk:V->V->Bool
 | .cb,.cb=>true
 | .bl a,.bl b=>a == b
 | .bl a,.int b=>(if a then 1 else 0) == b
 | .int a,.bl b=>a == (if b then 1 else 0)
 | .int a,.int b=>a == b
 | .str a,.str b=>a == b
 | _,_=>false
def Mf(R:RelV y u)(I:RelV x v)(U:gY y=true)(fx:gY x=true):SeqAt.EqAt A s u v (pk y x):=by
 cases y with
 |cb=>
  cases R
  cases x with
  | cb=>cases I;exact SeqAt.EqAt.same _
  | bl b=>cases I;exact SeqAt.EqAt.none_bool b
  | int b=>let#[t,rfl]:=I;exact SeqAt.EqAt.none_int b t
  | str b=>let#[t,rfl]:=I;exact SeqAt.EqAt.none_str b t
  | _=>exact absurd (show false=true from fx) Qj
 |bl a=>
  cases R
  cases x with
  | cb=>cases I;exact SeqAt.EqAt.bool_none a
  | bl b=>cases I;exact SeqAt.EqAt.bool_bool a b
  | int b=>let#[t,rfl]:=I;exact SeqAt.EqAt.bool_int a b t
  | str b=>let#[t,rfl]:=I;exact SeqAt.EqAt.bool_str a b t
  | _=>exact absurd (show false=true from fx) Qj
 |int a=>
  let#[O,rfl]:=R
  cases x with
  | cb=>cases I;exact SeqAt.EqAt.int_none a O
  | bl b=>cases I;exact SeqAt.EqAt.int_bool a O b
  | int b=>let#[t,rfl]:=I;exact SeqAt.EqAt.int_int a O b t
  | str b=>let#[t,rfl]:=I;exact SeqAt.EqAt.int_str a O b t
  | _=>exact absurd (show false=true from fx) Qj
 |str a=>
  let#[O,rfl]:=R
  cases x with
  | cb=>cases I;exact SeqAt.EqAt.str_none a O
  | bl b=>cases I;exact SeqAt.EqAt.str_bool a O b
  | int b=>let#[t,rfl]:=I;exact SeqAt.EqAt.str_int a O b t
  | str b=>let#[t,rfl]:=I;exact SeqAt.EqAt.str_str a O b t
  | _=>exact absurd (show false=true from fx) Qj
 | _=>exact absurd (show false=true from U) Qj
abbrev o6(x:V)(u:Value):Bool:=match u with
 | .none=>pk .cb x
 | .bool b=>pk (.bl b) x
 | .int i _=>pk (.int i) x
 | .str z _=>pk (.str z) x
 | _=>false
def Bd(r:RelV y u)(f:gY y=true):o6 x u=pk y x:=by
 cases y with
 | cb=>cases r;rfl
 | bl b=>cases r;rfl
 | int i=>let#[t,rfl]:=r;rfl
 | str z=>let#[t,rfl]:=r;rfl
 | _=>exact absurd (show false=true from f) Qj
def jK:∀ {xs:List V} {us:List Value},Vals xs us->xs.all gY=true->us.any (o6 x)=xs.any λy=>pk y x
 | _,_,.nil,_=>rfl
 | y::xs,u::us,.cons r t,f=>by
  rw[Qz,and_eq_true]at f;rw[any_cons,any_cons,Bd r f.1,jK t f.2]
def jm(I:RelV x v)(fx:gY x=true):∀ {xs:List V} {us:List Value},Vals xs us->xs.all gY=true->∀ u∈us,SeqAt.EqAt A s u v (o6 x u)
 | _,_,.nil,_=>λu hu=>by cases hu
 | y::xs,u::us,.cons r t,f=>λO hu=>by
  rw[Qz,and_eq_true]at f;rcases List.mem_cons.mp hu with rfl | hu
  ·rw[Bd r f.1];exact Mf r I f.1 fx
  ·exact jm I fx t f.2 O hu
abbrev z4(x:V)(xs:List V):Bool:=xs.any λy=>pk y x
abbrev rIn(K:W.Frag)(neg:Bool):R2:=λx y H Q=>∃ p xs,y=.ref p/\(dz K H p xs\/ed K H p xs)/\gY x=true/\xs.all gY=true/\Q (.bl (if neg then !z4 x xs else z4 x xs)) H
def Ct:hE X (compareOp .In) (rIn X.K false):=by
 intro ag s J H x y v u Q I Y Z h;let#[p,xs,rfl,O,fx,fs,q]:=h;cases Z;rcases O with O | O
 ·let#[bq,r,R,a]:=I.list O;refine SeqAt.in_listAt (o6 x) R.isList (λw U=>jm Y fx r fs w<|by simpa using U) ⟨.bl _,H,I,rfl,?_⟩;rw[show bq.toArray.any (o6 x)=bq.any (o6 x) by simp,jK r fs];exact q
 ·let#[bq,r,R,a]:=I.tuple O;refine SeqAt.in_tupleAt (o6 x) R (λw U=>jm Y fx r fs w<|by simpa using U) ⟨.bl _,H,I,rfl,?_⟩;rw[show bq.toArray.any (o6 x)=bq.any (o6 x) by simp,jK r fs];exact q
def uJ:hE X (compareOp .NotIn) (rIn X.K true):=by
 intro ag s J H x y v u Q I Y Z h;let#[p,xs,rfl,O,fx,fs,q]:=h;cases Z;rcases O with O | O
 ·let#[bq,r,R,a]:=I.list O;refine SeqAt.notIn_listAt (o6 x) R.isList (λw U=>jm Y fx r fs w<|by simpa using U) ⟨.bl _,H,I,rfl,?_⟩;rw[show bq.toArray.any (o6 x)=bq.any (o6 x) by simp,jK r fs];exact q
 ·let#[bq,r,R,a]:=I.tuple O;refine SeqAt.notIn_tupleAt (o6 x) R (λw U=>jm Y fx r fs w<|by simpa using U) ⟨.bl _,H,I,rfl,?_⟩;rw[show bq.toArray.any (o6 x)=bq.any (o6 x) by simp,jK r fs];exact q
def wj:bM X (.builtin "len") (λxs H Q=>∃ p ys,xs=[.ref p]/\(dz X.K H p ys\/ed X.K H p ys)/\Q (.int ys.length) H):=by
 intro ag s J H xs us Q I r h;let#[p,ys,rfl,O,q]:=h;let#[u,rfl,Y]:=vals1 r;cases Y;have hn:=lR;rcases O with O | O
 ·let#[bq,R,U,Z]:=I.list O;have hlen:=R.length;exact Calls.call_len_list U.isList (by simp only[size_toArray]<;>omega) ⟨.int ys.length,H,I.tok _,⟨s.toks+1,by rw[size_toArray,hlen]⟩,q⟩
 ·let#[bq,R,U,Z]:=I.tuple O;have hlen:=R.length;exact len_tuple U (by simp only[size_toArray]<;>omega) ⟨.int ys.length,H,I.tok _,⟨s.toks+1,by rw[size_toArray,hlen]⟩,q⟩
def bM.or(h:bM X f r)(h':bM X f r'):bM X f (λxs H Q=>r xs H Q\/r' xs H Q):=by
 intro ag s J H xs us Q I O q;rcases q with q | q
 ·exact h ag s J H xs us Q I O q
 ·exact h' ag s J H xs us Q I O q
def mf:bM X (.type "list") (λxs H Q=>∃ p ys,xs=[.ref p]/\(dz X.K H p ys\/ed X.K H p ys)/\∀ l,H l=none->Q (.ref l) (upd H l<|.lst ys)):=by
 intro ag s J H xs us Q I r h;let#[p,ys,rfl,U,q]:=h;let#[u,rfl,d]:=vals1 r;cases d
 have Y:∀ (bq:List Value),Vals ys bq->ys.length<=sizeLine->∀ (h':Heap) c',(∀ b o',s.heap.get? b=some o'->h'.get? b=some o') ->
   h'.get? s.heap.objs.size=some { cls:=.type "list",dict:=none,data:=.seq bq.toArray c',slots:=(List.toArray []) }->EP X ag J Q (.ref s.heap.objs.size) { s with heap:=h' }:=λbq O R h' c' kp e =>
  ⟨.ref s.heap.objs.size,_,I.laid kp (Qc _) (show bN X.prog X.w _ h' _ (.lst ys)from⟨R,bq,c',O,e⟩),rfl,q _<|I.b9.fresh<|Qc _⟩
 rcases U with U | U
 ·let#[bq,O,Z,R]:=I.list U;have hlen:=O.length;let#[o,a,c,n,hd]:=Z.isList;exact call_list_seq p (.inl rfl) a c hd (λh' c' kp e=>Y bq O R h' c' kp e)<|by simp only[size_toArray]<;>omega
 ·let#[bq,O,Z,R]:=I.tuple U;have hlen:=O.length;let#[o,a,c,n,hd]:=Z;exact call_list_seq p (.inr rfl) a c hd (λh' c' kp e=>Y bq O R h' c' kp e)<|by simp only[size_toArray]<;>omega
def tP:bM X (.type "tuple") (λxs H Q=>∃ p ys,xs=[.ref p]/\((dz X.K H p ys/\∀ l,H l=none->Q (.ref l) (upd H l<|.tup ys))\/(ed X.K H p ys/\Q (.ref p) H))):=by
 intro ag s J H xs us Q I r h;let#[p,ys,rfl,h]:=h;let#[u,rfl,a]:=vals1 r;cases a
 rcases h with⟨U,q⟩ | ⟨U,q⟩
 ·let#[bq,O,R,Y]:=I.list U;have hlen:=O.length;refine call_tuple_list R.isList (λh' kp=>?_) (by simp only[size_toArray]<;>omega);have Z:=I.kept (t':=s.toks) kp
  have c:Inv X ag J (upd H h'.objs.size<|.tup ys) { s with heap:=h'.push { cls:=.type "tuple",data:=.seq bq.toArray } } :=
   Z.laid (λb o e=>Qb _ e) (Qc _) (show bN X.prog X.w _ _ _ (.tup ys)from⟨Y,bq,O,IsTup.new _ _⟩)
  exact#[.ref h'.objs.size,_,c,rfl,q _<|Z.b9.fresh<|Qc _]
 ·let#[bq,O,R,Y]:=I.tuple U;exact call_tuple_same R ⟨.ref p,H,I,rfl,q⟩
abbrev tyV(K:W.Frag)(T:String)(x:V)(H:Hp):Prop:=match x with
 | .str _=>T = "str"
 | .int _=>T = "int"
 | .ref p=>(T = "list" /\ ∃ xs,dz K H p xs)\/(T = "tuple" /\ ∃ o,K.lookup p=some o/\o.cls=.type "tuple" /\ o.dict=none) \/
   (T = "dict" /\ ((∃ bx,H p=some (.dK bx))\/∃ bx,H p=some (.dT bx)))\/(T = "set" /\ ∃ S n,H p=some (.set S n))
 | _=>False
def As(I:Inv X ag J H s)(r:RelV x v)(ty:tyV X.K T x H) :
  s.TypeIs v T/\∀ a,v=.ref a->∃ Y,s.heap.get? a=some Y/\Y.dict=none:=by
 cases x with
 |str z=>
  let#[t,rfl]:=r;cases(show T = "str" from ty);exact#[typeIs_str s z t,λ_ e=>nomatch e]
 |int i=>
  let#[t,rfl]:=r;cases(show T = "int" from ty);exact#[typeIs_int s i t,λ_ e=>nomatch e]
 |ref p=>
  cases r
  rcases ty with⟨rfl,xs,Z⟩ | ⟨rfl,o,O,b,hd⟩ | ⟨rfl,O⟩ | ⟨rfl,S,n,O⟩
  ·let#[bq,_,U,_]:=I.list Z;refine#[U.isList.typeIs,λa e=>?_];cases e;let#[o,n,e,c,hd,_]:=U;exact#[o,e,hd]
  ·refine#[#[o,I.h9 p o O,b],λa e=>?_];cases e;exact#[o,I.h9 _ o O,hd]
  ·have z:∃ o,s.heap.get? p=some o/\o.ExactDict:=by
    rcases O with⟨bx,O⟩ | ⟨bx,O⟩
    ·let#[_,_,_,_,o,_,_,e,ex,_]:=I.b9 p _ O;exact#[o,e,ex]
    ·let#[_,_,_,_,o,_,_,e,ex,_]:=I.b9 p _ O;exact#[o,e,ex]
   let#[o,e,ex]:=z;refine#[#[o,e,ex.1],λa R=>?_];cases R;exact#[o,e,ex.2.1]
  ·let#[o,_,_,_,e,ex,_]:=I.b9 p _ O;refine#[#[o,e,ex.1],λa R=>?_];cases R;exact#[o,e,ex.2.1]
 | _=>exact False.elim ty
abbrev Ao(K:W.Frag)(T:String)(r:V->List V->Hp->VK->Prop)(to:TE):TE:=λJ H Q=>to J H λx I=>tyV K T x I/\r x [] I Q
abbrev tBM(K:W.Frag)(T:String)(r:V->List V->Hp->VK->Prop)(to:TE)(t:TA):TE:=λJ H Q=>to J H λx I=>tyV K T x I/\t J I λxs H2=>r x xs H2 Q
variable{o e:Expr}{es:List Expr}{to:TE}{t:TA}{name:Str}{apos mc:Pos}{T id:String}{r:V->List V->Hp->VK->Prop}
def wQ(pa:PlainAttrs T)(slot:Slot T name id)(U:typeOf (.builtin id)=pure (.type "method_descriptor"))(hm:MtR X id r)(b:PE X o to)
 (R:attributeBase o name X.env (eval o X.env)=eval o X.env)(O:(apos.endLine == mc.line)=true):PE X (.Call (.Attribute o name apos) [] [] mc) (Ao X.K T r to):=by
 intro ag s J H Q I h;refine wpAny_Call_method0_late R O (cg (b ag s J H _ I h) λv s1 Z=>x2_3 Z λx e Y r1 ty a=>?_);let#[d,c]:=As Y r1 ty;exact#[T,id,pa,slot,U,d,c,Calls.callWith_builtin rfl<|PySem.evalArgs_none<|hm ag s1 J e x [] v [] Q Y r1 .nil a]
def EZ(pa:PlainAttrs T)(slot:Slot T name id)(a:typeOf (.builtin id)=pure (.type "method_descriptor"))(hm:MtR X id r)(i:PE X o to)(ha:PA X (e::es) t)
 (U:attributeBase o name X.env (eval o X.env)=eval o X.env)
 (Y:((backTo mc<|starEach (e::es) X.env).all (λx=>!x.1)&&(backToKw mc<|keywordEach [] X.env).all (λx=>x.1.isSome)
   && decide ((e::es).length+([]:List Keyword).length+(if([]:List Keyword).isEmpty then 0 else 1)<30))=true:=by rfl)
 (R:(apos.endLine == mc.line)=true)(g:starEach (e::es) X.env=(false,eval e X.env)::starEach es X.env)(O:(backTo mc<|starEach es X.env).any (·.1)=false) :
  PE X (.Call (.Attribute o name apos) (e::es) [] mc) (tBM X.K T r to t):=by
 intro ag s J H Q I h;refine wpAny_Call_method_late U Y R rfl (cg (i ag s J H _ I h) λv s1 Z=>x2_3 Z λx m c r1 ty f=>?_);let#[k,j]:=As c r1 ty;refine#[T,id,pa,slot,a,k,j,?_];have b:=ha mc ag s1 J m _ c f;rw[g]at b ⊢;refine Calls.callWith_builtin (by show(false || (backTo mc<|starEach es X.env).any (·.1))=false;rw[O]<;>rfl)<|Calls.evalArgs_plain ?_;exact cg b λus s2 Z=>x2_2 Z λvs H2 l r2 d=>hm ag s2 J H2 x vs v us Q l r1 r2 d
end
abbrev MtM(X:Cx)(id:String)(r:V->List V->Hp->VK->Prop):Prop :=
 ∀ (ag:List (Addr × Obj)) (s:Shared) (J:St) (H:Hp) (x:V) (xs:List V) (v:Value) (us:List Value) (Q:VK),Inv X ag J H s->RelV x v->Vals xs us->r x xs H Q ->
  wpAny (model X.prog X.w) X.A (call (.builtin id)<|v::us) (EP X ag J Q) X.xe s
def Vals.inv(h:Vals (x::xs) us):∃ u t,us=u::t/\RelV x u/\Vals xs t:=by
 cases h with
 | cons r t=>exact#[_,_,rfl,r,t]
def Vals.OL(h:Vals [] us):us=[]:=by
 cases h;rfl
def Vals.one{x:V}{us:List Value}(h:Vals [x] us):∃ u,us=[u]/\RelV x u :=
 let ⟨u,_,e,r,h⟩:=h.inv
 ⟨u,by rw[e,h.OL],r⟩
def Vals.zero:∀ {us:List Value},Vals [] us->us=[]
 | _,.nil=>rfl
def Vals.dropLast(h:Vals xs us):Vals xs.dropLast us.dropLast:=by
 induction h with
 | nil=>exact .nil
 |cons r t I=>
  cases t with
  | nil=>exact .nil
  | cons q O=>exact .cons r I
def Vals.reverse(h:Vals xs us):Vals xs.reverse us.reverse:=by
 induction h with
 | nil=>exact .nil
 | cons r t I=>rw[reverse_cons,reverse_cons];exact Vals.append I<|.cons r .nil
def Vals.rep(h:Vals xs us):∀ k:Nat,Vals (replicate k xs).flatten (replicate k us).flatten
 | 0=>.nil
 | k+1=>by
  exact Vals.append h<|Vals.rep h k
def yU(l:List α):l.eraseIdx (l.length-1)=l.dropLast:=by
 induction l with
 | nil=>rfl
 |cons a r I=>
  cases r with
  | nil=>rfl
  |cons b r=>
   have e:(a::b::r).length-1=((b::r).length-1)+1:=by
    have R:(a::b::r).length=r.length+2:=rfl;have O:(b::r).length=r.length+1:=rfl;omega
   rw[e,List.eraseIdx_cons_succ,I]
   all_goals rfl
def foldl_rep(bq:List Value):∀ (k:Nat) (I:List Value),
  List.foldl (λR O=>R++O) I.toArray (replicate k bq.toArray)=(I++(replicate k bq).flatten).toArray
 | 0,I=>by simp
 | k+1,I=>by
  have e:I.toArray++bq.toArray=(I++bq).toArray:=by simp
  have U:(I++bq)++(replicate k bq).flatten=I++(replicate (k+1) bq).flatten:=by
   rw[List.replicate_succ,List.flatten_cons,QD]
  rw[<-U,<-foldl_rep bq k (I++bq),<-e,List.replicate_succ,List.foldl_cons]
section
variable{X:Cx}{ag:List (Addr × Obj)}{J:St}{H:Hp}{s:Shared}{l b:Addr}{xs ys zs:List V}
def Inv.Ki{bq O:List Value}{n:Nat}{f:Array Value->Array Value}{R:Nat}(I:Inv X ag J H s)(a:H l=some (.lst xs))
 (e:s.heap.get? l=some { cls:=.type "list",data:=.seq bq.toArray n })(Z:f bq.toArray=O.toArray)(Y:Vals ys O)(U:ys.length<=sizeLine) :
  Inv X ag J (upd H l<|.lst ys) { s with heap:=s.heap.update l<|Obj.mapSeq f,toks:=R }:=by
 have q:=PySem.IsL.update e f;rw[Z]at q;refine I.write (by rw[a];exact trivial) (.inl rfl) (λb u hb hu=>(Heap.get?_update_other s.heap (Obj.mapSeq f)<|Ne.symm hb).trans hu) ⟨_,q⟩ ?_;exact#[U,O,_,Y,q]
def Inv.Em(I:Inv X ag J H s)(R:Vals ys bq)(O:ys.length<=sizeLine) :
  Inv X ag J (upd H s.heap.objs.size<|.lst ys) { s with heap:=s.heap.push { cls:=.type "list",data:=.seq bq.toArray },toks:=t' } :=
 I.laid (λ_ _ q=>Qb _ q) (Qc _) ⟨O,bq,0,R,Qf _ rfl⟩
def Inv.fresh(I:Inv X ag J H s):H s.heap.objs.size=none:=I.b9.fresh<|Qc _
def Inv.uL(I:Inv X ag J H s)(O:H l=some (.lst xs)):xs.length<=sizeLine/\∃ (bq:List Value) (n:Nat),Vals xs bq/\xs.length=bq.length/\s.heap.get? l=some { cls:=.type "list",data:=.seq bq.toArray n }:=by
 let#[z,bq,n,r,e]:=I.b9 l _ O;exact#[z,bq,n,r,r.length,e]
def DP(h:n<=sizeLine):Builtin.List.listTooLong n=false:=by
 exact Qh<|by omega
end
section
variable{X:Cx}
abbrev yH:V->List V->Hp->VK->Prop:=λx vs H Q=>∃ l xs y,x=.ref l/\vs=[y]/\H l=some (.lst xs)/\xs.length<sizeLine/\Q .cb (upd H l<|.lst<|xs++[y])
def m5:MtM X "list.append" yH:=by
 intro ag s J H x vs v us Q I R U h;let#[l,xs,y,rfl,rfl,O,Z,q]:=h;cases R;let#[u,rfl,Y]:=U.one;let#[z,bq,n,r,hl,e]:=I.uL O;refine call_meets F.slot_list_append ⟨_,e,rfl⟩ F.entry_list_append (F.args_list_append_2 _ _) (PySem.list_append l bq.toArray n u<|by rw[size_toArray];omega) ⟨e,?_⟩;refine#[.cb,_,I.Ki O e (by simp) (r.append %[Y|_]) ?_,rfl,q];rw[length_append,List.length_singleton];omega
abbrev Dz:V->List V->Hp->VK->Prop:=λx vs H Q=>∃ l xs y,x=.ref l/\vs=[]/\H l=some (.lst xs)/\xs[xs.length-1]?=some y/\Q y (upd H l<|.lst xs.dropLast)
def vD:MtM X "list.pop" Dz:=by
 intro ag s J H x vs v us Q I Y Z h;let#[l,xs,y,rfl,rfl,U,b,q]:=h;cases Y;have R:=Z.zero;subst R;let#[z,bq,n,r,hl,e]:=I.uL U;let#[u,hu,a]:=r.get b
 have O:bq.toArray[bq.toArray.size-1]?=some u:=by
  show bq.toArray[bq.length-1]?=some u;rw[<-Qy,<-hl];exact hu
 refine call_meets F.slot_list_pop ⟨_,e,rfl⟩ F.entry_list_pop (F.args_list_pop_1 _) (MeetsSeq.list_pop_last l bq.toArray n u O<|by rw[size_toArray];omega) ⟨e,?_⟩;refine#[y,_,I.Ki U e ?_ r.dropLast ?_,a,q]
 ·rw[size_toArray,List.eraseIdxIfInBounds_toArray,yU]
 ·rw[List.length_dropLast];omega
abbrev O1:R2:=λx y H Q=>∃ l b xs zs,x=.ref l/\y=.ref b/\H l=some (.lst xs)/\H b=some (.lst zs)/\xs.length+zs.length<=sizeLine/\∀ p,H p=none->Q (.ref p) (upd H p<|.lst<|xs++zs)
def LB:hE X (binaryOp .Add) O1:=by
 intro ag s J H x y v u Q I U R h;let#[l,b,xs,zs,rfl,rfl,Z,a,g,q]:=h;cases U;cases R;let#[z,bq,n,r,hl,e]:=I.uL Z;let#[f,O,n2,r2,Y,d]:=I.uL a;refine PySem.P.add_list e d ?_<|by rw[size_toArray,size_toArray];omega
 have c:bq.toArray++O.toArray=(bq++O).toArray:=by simp
 rw[c];exact#[.ref _,_,I.Em (r.append r2) (by rw[length_append];omega),rfl,q _ I.fresh]
abbrev NM:R2:=λx y H Q=>∃ l k xs,x=.ref l/\y=.int k/\H l=some (.lst xs)/\-(2 ^ 63)<=k/\k<2 ^ 63/\xs.length*k.toNat<=sizeLine /\
 ∀ p,H p=none->Q (.ref p) (upd H p<|.lst (replicate k.toNat xs).flatten)
def len_rep(xs:List α)(k:Nat):(replicate k xs).flatten.length=k*xs.length:=by
 induction k with
 | zero=>simp
 | succ k I=>rw[List.replicate_succ,List.flatten_cons,length_append,I,Nat.succ_mul,add_comm]
def Jb:hE X (binaryOp .Mult) NM:=by
 intro ag s J H x y v u Q I f d h;let#[l,k,xs,rfl,rfl,g,j,i,Z,q]:=h;cases f;let#[t,rfl]:=d;let#[z,bq,n,r,hl,e]:=I.uL g
 have hlen:bq.toArray.size*k.toNat<=sizeLine:=by rw[size_toArray,<-hl];exact Z
 have Y:¬ bq.toArray.size*k.toNat > (2 ^ 63-1) / 8:=by
  have:sizeLine<=(2 ^ 63-1) / 8:=by decide
  omega
 have U:¬ (!Builtin.List.listFitsIndex k)=true:=by
  rw[fitsIndex_both j i];exact Qj
 have O:¬ Builtin.List.listTooLong (bq.toArray.size*k.toNat)=true:=by
  rw[DP hlen];exact Qj
 have R:List.foldl (λc b=>c++b) (List.toArray []) (replicate (if bq.toArray.isEmpty=true then 0 else k.toNat) bq.toArray)=(replicate k.toNat bq).flatten.toArray:=by
  have o:=λm=>by
   have:=foldl_rep bq m [];rw[nil_append]at this;exact this
  rw[o]
  cases bq with
  | nil=>simp
  | cons a p=>rw[if_neg<|by simp]
 refine wpAny_binaryOp_repeat_ref ∅ ⟨_,e,rfl⟩ (λs'=>typeIs_int s' k t) noFill_list_mul F.fills_int_mul F.slot_int_rmul repeat_list F.slot_int_index.lookup
  (call_meets F.slot_int_rmul (typeIs_int s k t) F.entry_int_rmul (F.args_int_rmul_2 _ _) (int___rmul___int_list k t l bq.toArray n)
   ⟨e,rfl,⟨_,e,rfl⟩,call_meets F.slot_list_mul ⟨_,e,rfl⟩ F.entry_list_mul (F.args_list_mul_2 _ _) (AutoListH.list___mul___list_int_3 l bq.toArray n k t U Y O) ⟨e,?_⟩⟩)
 rw[R];exact#[.ref _,_,I.Em (r.rep k.toNat) (by rw[len_rep,Nat.mul_comm];exact Z),rfl,q _ I.fresh]
end
section
variable{κ:Type} [DecidableEq κ]
abbrev gN(bx:List (κ × V))(k:κ):Option V:=(bx.find? λI=>decide<|I.1=k).map (·.2)
abbrev putK(bx:List (κ × V))(k:κ)(v:V):List (κ × V) :=
 if(bx.any λI=>decide<|I.1=k)=true then bx.map (λI=>if I.1=k then(I.1,v)else I)else bx++[(k,v)]
def lL{p:κ × V}{r:List (κ × V)}{k:κ}(e:p.1=k):gN (p::r) k=some p.2:=by simp[gN,e]
def kT{p:κ × V}{r:List (κ × V)}{k:κ}(e:¬ p.1=k):gN (p::r) k=gN r k:=by simp[gN,e]
def v7(k:κ):∀ bx:List (κ × V),(bx.any λI=>decide<|I.1=k)=(gN bx k).isSome
 | []=>rfl
 | p::r=>by
  rw[any_cons];by_cases e:p.1=k
  ·simp only[lL e,decide_eq_true e,Bool.true_or,Option.isSome_some]
  ·rw[kT e,Qh e,Bool.false_or];exact v7 k r
def nV(bx:List (κ × V))(k:κ)(v:V):(putK bx k v).length<=bx.length+1:=by
 unfold putK;split
 ·rw[length_map];omega
 ·rw[length_append,length_cons,List.length_nil];omega
def f9.hZ(r:f9 o u):o.isSome=u.isSome:=by
 cases o with
 | none=>cases u with
  | none=>rfl
  | some _=>exact(show False from r).elim
 | some _=>cases u with
  | none=>exact(show False from r).elim
  | some _=>rfl
def KV.val{bx:List (κ × V)}{vs:List (κ × Value)}(r:KV bx vs)(k:κ):f9 (gN bx k) (valueAt vs k):=by
 unfold KV at r
 induction r with
 | nil=>exact True.intro
 |@cons p q ps qs h t ih=>
  let#[I,O]:=h;by_cases e:p.1=k
  ·have e':q.1=k:=I.symm.trans e
   have b:valueAt (q::qs) k=some q.2:=by simp[valueAt,find?_cons,e']
   rw[lL e,b];exact O
  ·have e':¬ q.1=k:=λz=>e (I.trans z)
   have b:valueAt (q::qs) k=valueAt qs k:=by simp[valueAt,find?_cons,e']
   rw[kT e,b];exact ih
def KV.any(r:KV bx vs)(k:κ):(bx.any λI=>decide<|I.1=k)=vs.any λI=>decide<|I.1=k:=by
 induction r with
 | nil=>rfl
 | cons h t O=>rw[any_cons,any_cons,O,h.1]
def KV.Dn(r:KV bx vs)(k:κ)(R:RelV y u) :
  KV (bx.map λI=>if I.1=k then(I.1,y)else I) (vs.map λI=>if I.1=k then(I.1,u)else I):=by
 induction r with
 | nil=>exact .nil
 |@cons p q ps qs h t ih=>
  rw[map_cons,map_cons];refine .cons ?_ ih;let#[O,U]:=h;by_cases e:p.1=k
  ·rw[if_pos e,if_pos<|O.symm.trans e];exact#[O,R]
  ·rw[if_neg e,if_neg λz=>e<|O.trans z];exact#[O,U]
def KV.put(r:KV bx vs)(k:κ)(I:RelV y u):KV (putK bx k y) (stored vs k u):=by
 unfold putK stored;rw[r.any k];by_cases e:(vs.any λO=>decide<|O.1=k)=true
 ·rw[if_pos e,if_pos e];exact r.Dn k I
 ·rw[if_neg e,if_neg e];exact Paired.snoc r ⟨rfl,I⟩
def KV.length(r:KV bx vs):bx.length=vs.length:=Paired.length r
end
def nv(r:RelV (kV k) u):(bo P w).is k u=true:=by
 cases k with
 | inl i=>let#[t,e]:=(show ∃ t,u=Value.int i t from r);subst e;exact wY P w i t
 | inr x=>let#[t,e]:=(show ∃ t,u=Value.str x t from r);subst e;exact oj P w x t
def sP:∀ {ks:List Key} {us:List Value},Vals (ks.map kV) us->ItemsAre (bo P w) ks us
 | [],_,r=>by rw[map_nil]at r;cases r;exact .nil
 | k::ks,_,r=>by
  cases r with
  | cons h t=>exact .cons (nv h)<|sP t
@[reducible]noncomputable def KT(H:Hp):List (List Key × V)->List (List Key × Addr × Value)->Prop:=Paired λp q=>p.1=q.1/\H q.2.1=some (.tup<|p.1.map kV)/\RelV p.2 q.2.2
def KT.val{H:Hp}{bx:List (List Key × V)}{xs:List (List Key × Addr × Value)}(r:KT H bx xs)(k:List Key):f9 (gN bx k) ((atKey xs k).map (·.2)):=by
 induction r with
 | nil=>exact True.intro
 |@cons p q ps qs h t ih=>
  let#[I,_,O]:=h;by_cases e:p.1=k
  ·have e':=I.symm.trans e
   have b:atKey (q::qs) k=some q.2:=by simp[atKey,e']
   rw[lL e,b];exact O
  ·have e':¬ q.1=k:=λz=>e (I.trans z)
   have b:atKey (q::qs) k=atKey qs k:=by simp[atKey,e']
   rw[kT e,b];exact ih
def KT.Dn(r:KT H bx xs)(k:List Key)(U:RelV y u) :
  KT H (bx.map λO=>if O.1=k then(O.1,y)else O) (xs.map<|putAt k u):=by
 induction r with
 | nil=>exact .nil
 |@cons p q ps qs h t ih=>
  rw[map_cons,map_cons];refine .cons ?_ ih;let#[I,R,Y]:=h;unfold putAt;by_cases e:p.1=k
  ·rw[if_pos e,if_pos<|I.symm.trans e];exact#[I,R,U]
  ·rw[if_neg e,if_neg λz=>e<|I.trans z];exact#[I,R,Y]
def KT.put(r:KT H bx xs)(k:List Key)(hb:H b=some (.tup<|k.map kV))(I:RelV y u) :
  KT H (putK bx k y) (storedH xs k b u):=by
 have e:(bx.any λO=>decide<|O.1=k)=(atKey xs k).isSome:=by
  rw[v7,(r.val k).hZ,isSome_map]
 unfold putK storedH;rw[e];by_cases q:(atKey xs k).isSome=true
 ·rw[if_pos q,if_pos q];exact r.Dn k I
 ·rw[if_neg q,if_neg q];exact Paired.snoc r ⟨rfl,hb,I⟩
def KT.keeps(r:KT H bx xs)(I:∀ b ys,H b=some (.tup ys)->H' b=some (.tup ys)):KT H' bx xs :=
 Paired.CJ r λ_ _ z=>#[z.1,I _ _ z.2.1,z.2.2]
section
variable{P:Program}{w:World}{H:Hp}{h:Heap}{a:Addr}
def ES(ok:hj P w H h)(e:Rd H a u):bN P w H h a u:=e.ok ok
def lF(ok:hj P w H h)(e:Rd H a (.dK bx)):bx.length<=sizeLine/\(a == sysModules)=false/\∃ vs,KV bx vs/\h.DictOf (bo P w) a vs :=
 show bN P w H h a (.dK bx)from ES ok e
def Na(ok:hj P w H h)(e:H a=some (.dK bx)):bx.length<=sizeLine/\(a == sysModules)=false/\∃ vs,KV bx vs/\h.DictOf (bo P w) a vs:=lF ok<|.inl e
def mC(ok:hj P w H h)(e:H a=some (.tup<|ks.map kV)):(tupleKind<|bo P w).is h ks a:=by
 let#[_,bq,r,o,R,O,n,I]:=(show bN P w H h a (.tup<|ks.map kV)from ok a _ e)
 exact#[o,bq.toArray,n,R,O,I,by simpa using sP r]
def pG(ok:hj P w H h)(e:Rd H a (.dT bx)):bx.length<=sizeLine/\(a == sysModules)=false /\
  ∃ xs,KT H bx xs/\h.DictOfH (tupleKind<|bo P w) a xs:=by
 let#[z,y,xs,r,o,es,ep,Z,Y,U,R,O]:=(show bN P w H h a (.dT bx)from ES ok e)
 refine#[z,y,xs,r,o,es,ep,Z,Y,U,R,λx I=>?_,O]
 have all:∀ {l:List (List Key × V)} {m:List (List Key × Addr × Value)},KT H l m->∀ x∈m,(tupleKind<|bo P w).is h x.1 x.2.1:=by
  intro l m q
  induction q with
  | nil=>intro x I;exact nomatch I
  |@cons p q ps qs hq t ih=>
   intro x I;rcases List.mem_cons.mp I with e | I
   ·subst e;exact mC ok<|by rw[<-hq.1];exact hq.2.1
   ·exact ih x I
 exact all r x I
def Fi(ok:hj P w H h)(e:H a=some (.dT bx)):bx.length<=sizeLine/\(a == sysModules)=false /\
  ∃ xs,KT H bx xs/\h.DictOfH (tupleKind<|bo P w) a xs:=pG ok<|.inl e
end
abbrev iB(H:Hp)(a:Addr)(y:V)(r:Option V):Prop :=
 (∃ bx k,Rd H a (.dK bx)/\y=kV k/\r=gN bx k)\/∃ bx k b,Rd H a (.dT bx)/\y=.ref b/\H b=some (.tup<|k.map kV)/\r=gN bx k
abbrev u9(H:Hp)(a:Addr)(y v:V)(H':Hp):Prop :=
 (∃ bx k,H a=some (.dK bx)/\y=kV k/\bx.length<sizeLine/\H'=upd H a (.dK<|putK bx k v)) \/
 ∃ bx k b,H a=some (.dT bx)/\y=.ref b/\H b=some (.tup<|k.map kV)/\bx.length<sizeLine/\H'=upd H a (.dT<|putK bx k v)
def iB.k{H:Hp}{a:Addr}{bx:List (Key × V)}{k:Key}(e:H a=some (.dK bx)):iB H a (kV k) (gN bx k):=.inl #[bx,k,.inl e,rfl,rfl]
def u9.k{H:Hp}{a:Addr}{bx:List (Key × V)}{k:Key}{v:V}(e:H a=some (.dK bx))(hl:bx.length<sizeLine):u9 H a (kV k) v (upd H a<|.dK<|putK bx k v):=.inl #[bx,k,e,rfl,hl,rfl]
section
variable{X:Cx}{ag:List (Addr × Obj)}{J:St}{H:Hp}{s:Shared}{a:Addr}{y v:V}{u r:Value}{o:Option V}{A:Around}{E:Value->Shared->Prop}
def Inv.big(I:Inv X ag J H s):sysModules<s.heap.objs.size:=by
 have h:=(I.mod.glob.keeps I.bk).lt;exact QA ∅ h
def Bw(hu:A.units+1<cLine)(I:Inv X ag J H s)(g:iB H a y (some v))(f:RelV y u)(h:∀ U s',Inv X ag J H s'->RelV v U->Q U s') :
  wpAny (model X.prog X.w) A (getItem (.ref a) u) Q E s:=by
 rcases g with⟨bx,k,e,c,l⟩ | ⟨bx,k,b,e,c,j,l⟩
 ·subst c;let#[z,hd,vs,R,d]:=lF I.b9 e;let#[U,Y,O]:=f9.some_of (v:=v) (o:=valueAt vs k) (by rw[l];exact R.val k);exact wpAny_getItem_of (nv f) d.mapOf Y<|h U _ (I.tok _) O
 ·subst c;cases(show u=Value.ref b from f);let#[z,hd,xs,R,d]:=pG I.b9 e;let#[U,Y,O]:=f9.some_of (v:=v) (o:=(atKey xs k).map (·.2)) (by rw[l];exact R.val k);let#[p,i,Z]:=Option.map_eq_some_iff.mp Y;refine wpAny_getItem_heap (tupleKind_room_in1 hu) (mC I.b9 j) d i ?_;rw[Z];exact h U _ (I.tok _) O
def Ow(hu:A.units+1<cLine)(I:Inv X ag J H s)(g:iB H a y o)(Y:RelV y u)(h:∀ s',Inv X ag J H s'->Q (.bool o.isSome) s') :
  wpAny (model X.prog X.w) A (compareOp .In u<|.ref a) Q E s:=by
 rcases g with⟨bx,k,e,R,l⟩ | ⟨bx,k,b,e,R,Z,l⟩
 ·subst R;let#[z,hd,vs,O,U]:=lF I.b9 e;refine wpAny_in_of (nv Y) hd U.mapOf ?_;rw[<-(O.val k).hZ,<-l];exact h _<|I.tok _
 ·subst R;cases(show u=Value.ref b from Y);let#[z,hd,xs,O,U]:=pG I.b9 e;refine wpAny_in_heap (tupleKind_room_in1 hu) (mC I.b9 Z) hd U ?_;have q:=(O.val k).hZ;rw[isSome_map]at q;rw[<-q,<-l];exact h _<|I.tok _
def FO(hu:A.units+1<cLine)(I:Inv X ag J H s)(g:iB H a y o)(Y:RelV y u)(h:∀ s',Inv X ag J H s'->Q (.bool<|!o.isSome) s') :
  wpAny (model X.prog X.w) A (compareOp .NotIn u<|.ref a) Q E s:=by
 rcases g with⟨bx,k,e,R,l⟩ | ⟨bx,k,b,e,R,Z,l⟩
 ·subst R;let#[z,hd,vs,O,U]:=lF I.b9 e;refine wpAny_notIn_of (nv Y) hd U.mapOf ?_;rw[<-(O.val k).hZ,<-l];exact h _<|I.tok _
 ·subst R;cases(show u=Value.ref b from Y);let#[z,hd,xs,O,U]:=pG I.b9 e;refine wpAny_notIn_heap (tupleKind_room_in1 hu) (mC I.b9 Z) hd U ?_;have q:=(O.val k).hZ;rw[isSome_map]at q;rw[<-q,<-l];exact h _<|I.tok _
def xE(I:Inv X ag J H s)(O:Mut (H a))(R:Heap.SameBut a s.heap h')(U:∃ q,h'.get? a=some q)(new:bN X.prog X.w (upd H a ob) h' a ob) :
  Inv X ag J (upd H a ob) { s with heap:=h',toks:=Y } :=
 I.write (x:=a) (e:=a) O (.inl rfl) (λb q hb z=>(R.2 b hb).trans z) U new
def AJ(z:bx.length<=sizeLine)(hd:(a == sysModules)=false)(I:KV bx vs)(O:h'.DictOf (bo P w) a vs) :
  bN P w H' h' a (.dK bx):=#[z,hd,vs,I,O]
def Ar(hu:A.units+1<cLine)(I:Inv X ag J H s)(g:u9 H a y v H')(j:RelV y u)(m:RelV v r)(h:∀ s',Inv X ag J H' s'->Q ⟨⟩ s') :
  wpAny (model X.prog X.w) A (setItem (.ref a) u r) Q E s:=by
 rcases g with⟨bx,k,e,d,l,f⟩ | ⟨bx,k,b,e,d,o,l,f⟩
 ·subst d f;let#[z,hd,vs,O,i]:=Na I.b9 e
  have Y:vs.length<=sizeLine:=by rw[<-O.length];exact z
  have hl:(putK bx k v).length<=sizeLine:=by have:=nV bx k v;omega
  refine wpAny_setItem_pairs (hsz:=Y) (nv j) i λh' R Z=>h _ ?_;have p:∃ q,h'.get? a=some q:=let ⟨q,_,_,U,_⟩:=R;⟨q,U⟩;exact xE I (by rw[e];exact True.intro) Z p<|AJ hl hd (O.put k m) R
 ·subst d f;cases(show u=Value.ref b from j);let#[z,hd,xs,O,i]:=Fi I.b9 e
  have Y:xs.length<=sizeLine:=by rw[<-Paired.length O];exact z
  have hl:(putK bx k v).length<=sizeLine:=by have:=nV bx k v;omega
  refine wpAny_setItem_heap (hsz:=Y) (tupleKind_room_in1 hu) (mC I.b9 o) i λh' R Z=>h _ ?_;let#[q,es,ep,U,C,B,x,_,t]:=R;refine xE I (by rw[e];exact True.intro) Z ⟨q,U⟩ ⟨hl,hd,_,(O.put k o m).keeps λc ys n=>?_,q,es,ep,U,C,B,x,t⟩;rw[aj (dE n e (λz=>nomatch z))];exact n
end
section
variable{X:Cx}{ag:List (Addr × Obj)}{J:St}{H:Hp}{s:Shared}{a:Addr}{bx:List (Key × V)}{k:Key}{u:Value}{A:Around}{E:Value->Shared->Prop}
def F2(I:Inv X ag J H s)(e:Rd H a (.dK bx))(h:∀ t s',Inv X ag J H s'->Q (.int bx.length t) s'):wpAny (model X.prog X.w) A (call (.builtin "len") [.ref a]) Q E s:=by
 let#[z,hd,vs,O,R]:=lF I.b9 e;refine call_len_dict hd R (by rw[<-O.length];rw[sizeLine_eq]at z;omega) ?_;rw[<-O.length];exact h _ _<|I.tok _
end
abbrev rQ(i:Expr):Prop:=∀ ov I,subscripted i false ov I=operate [ov,I] (getItem ov I)
def xA{prog:Program}{w:World}{A:Around}{E:Value->Shared->Prop}{s:Shared}{env:Env}{value slice:Expr}{b:Pos}{T id:String}{Q:Value->Shared->Prop}
 (hl:typeLookup (.type T) "__getitem__" = pure (some<|.builtin id))(c:rQ slice)
 (h:wpAny (model prog w) A (eval value env) (λo U=>wpAny (model prog w) A (eval slice env) (λi I=>I.TypeIs o T/\wpAny (model prog w) A (getItem o i) Q E I) E U) E s) :
  wpAny (model prog w) A (eval (.Subscript value slice b) env) Q E s:=by
 refine Subscript_ (wpAny_mono h (λo U a=>wpAny_mono a (λi I O=>?_) λ_ _ x=>x) λ_ _ x=>x);let#[d,O]:=O;refine J2 ?_;refine J2<|wpAny_specialOf d hl ?_
 have Y:wpAny (model prog w) A (subscripted slice false o i) (λr R=>wpAny (model prog w) A (letTemporaryGo value o r >>= λ_=>pure r) Q E R) E I:=by
  rw[c o i];exact wpAny_operating (wpAny_mono O (λr R Z=>J2<|wpAny_letTemporaryGo<|Qa Z) λ_ _ x=>x)
 first
  | exact Qa (J2 Y)
  | exact J2 (Qa (J2 Y))
  | exact J2 Y
def xf(I:Inv X ag J H s)(g:iB H a y o):s.TypeIs (.ref a) "dict" := by
 rcases g with⟨bx,k,e,_,_⟩ | ⟨bx,k,b,e,_,_,_⟩
 ·let#[_,_,vs,_,O]:=lF I.b9 e;exact O.typeIs
 ·let#[_,_,xs,_,O]:=pG I.b9 e;exact O.typeIs
abbrev Mz(I ty:TE):TE:=λJ H Q=>I J H λx O=>ty J O λy H2=>∃ a v,x=.ref a/\iB H2 a y (some v)/\Q v H2
abbrev LR(ty I:TE):TE:=λJ H Q=>ty J H λy O=>I J O λx H2=>∃ a o,x=.ref a/\iB H2 a y o/\Q (.bl o.isSome) H2
abbrev yF(ty I:TE):TE:=λJ H Q=>ty J H λy O=>I J O λx H2=>∃ a o,x=.ref a/\iB H2 a y o/\Q (.bl<|!o.isSome) H2
abbrev Aa(R ty O:TE):TS:=λD J H=>O J H λv Y=>R J Y λx H2=>ty J H2 λy U=>∃ a I,x=.ref a/\u9 U a y v I/\D.nx J I
section
variable{X:Cx}{o i e value:Expr}{pos pos' tpos:Pos}{td ty tv:TE}
def G3(hu:X.A.units+1<cLine)(f:PE X o td)(hi:PE X i ty)(e:rQ i):PE X (.Subscript o i pos) (Mz td ty):=by
 intro ag s J H Q I h;refine xA PySem.F.slot_dict_getitem.lookup e (cg (f ag s J H _ I h) λu s1 O=>x2_2 O λx l k b d=>cg (hi ag s1 J l _ k d) λp s2 O=>x2_2 O λy H2 U Z Y=>x2_2 Y λa v ex g c=>?_);subst ex;obtain rfl:u=Value.ref a:=b;exact#[xf U g,Bw hu U g Z λm n j R=>#[v,H2,j,R,c]]
def K0(hu:X.A.units+1<cLine)(hi:PE X i ty)(c:PE X o td):PC X .In i o (LR ty td):=by
 intro ag s J H Q I h;refine cg (hi ag s J H _ I h) λl s1 O=>x2_2 O λy j f U b=>cg (c ag s1 J j _ f b) λu s2 O=>x2_2 O λx H2 e Y R=>x2_2 R λa ov ex g Z=>?_;subst ex;obtain rfl:u=Value.ref a:=Y
 exact Ow hu e g U λk d=>#[.bl ov.isSome,H2,d,rfl,Z]
def Bh(hu:X.A.units+1<cLine)(hi:PE X i ty)(c:PE X o td):PC X .NotIn i o (yF ty td):=by
 intro ag s J H Q I h;refine cg (hi ag s J H _ I h) λl s1 O=>x2_2 O λy j f U b=>cg (c ag s1 J j _ f b) λu s2 O=>x2_2 O λx H2 e Y R=>x2_2 R λa ov ex g Z=>?_;subst ex;obtain rfl:u=Value.ref a:=Y
 exact FO hu e g U λk d=>#[.bl<|!ov.isSome,H2,d,rfl,Z]
def Gn(hu:X.A.units+1<cLine)(j:PE X o td)(hi:PE X i ty)(e:PE X value tv)(f:swapsWith value (some<|.Subscript o i pos') pos.line X.env=pure false) :
  PS X (.Assign [.Subscript o i pos'] value pos) (Aa td ty tv):=by
 intro ag s J H D I h;refine wpAny_Assign_Subscript (cg (e ag s J H _ I h) λr s1 O=>x2_2 O λv q n Z d=>cg (j ag s1 J q _ n d) λu s2 O=>x2_2 O λx H2 m Y c=>cg (hi ag s2 J H2 _ m c) λz w O=>x2_2 O λy B l U R=>x2_2 R λa p ex g b=>?_) f;subst ex;obtain rfl:u=Value.ref a:=Y
 exact Ar hu l g U Z λt k=>#[J,p,k,b]
end
def Df(h:Heap)(hb:sysModules<h.objs.size):bN P w H (h.push { cls:=.type "dict",data:=.dict (List.toArray []) }) h.objs.size (.dK []) :=
 ⟨zero_le _,beq_eq_false_iff_ne.mpr<|Ne.symm<|Qk hb,[],.nil,Heap.DictOf.new h⟩
abbrev Jn:TE:=λ_ H Q=>∀ p,H p=none->Q (.ref p) (upd H p<|.dK [])
section
variable{X:Cx}{pos:Pos}
def vJ:PE X (.Dict [] [] pos) Jn:=λag s J H Q I h =>
 wpAny_Dict_empty ⟨.ref s.heap.objs.size,_,I.laid (λ_ _ q=>Qb _ q) (Qc _)<|Df s.heap I.big,rfl,h _<|I.b9.fresh<|Qc _⟩
end
section
variable{X:Cx}{ag:List (Addr × Obj)}{J:St}{H:Hp}{s:Shared}{a:Addr}{bx:List (Key × V)}{A:Around}{E:Value->Shared->Prop}
def DA(I:Inv X ag J H s)(e:Rd H a (.dK bx))(h:∀ p s',H p=none->Inv X ag J (upd H p<|.dK bx) s'->Q (.ref p) s'):wpAny (model X.prog X.w) A (call (.type "dict") [.ref a]) Q E s:=by
 let#[z,hd,vs,O,Z]:=lF I.b9 e;refine kt_call_dict hd Z (by rw[<-O.length];exact z) λh' R Y=>?_;refine h _ _ (I.b9.fresh<|Qc _) (I.laid (a:=s.heap.objs.size) (o:=.dK bx) (t':=s.toks) (λb q U=>?_) (Qc _)<|AJ z (beq_eq_false_iff_ne.mpr<|Ne.symm<|Qk I.big) O R);exact(Y.2 b<|Qk<|Qg U).trans<|Qb _ U
end
end L2
namespace Att
open PySem PySem.W PySem.Calls PyProof.Rows
def pS:∀ (ns:List Int) (vs:List Value),WellAll P h vs (ns.map WData.int)->IntsAre vs ns:=by
 intro ns
 induction ns with
 |nil=>
  intro vs w;cases w;exact .nil
 |cons n ns I=>
  intro vs w
  cases w with
  |cons a b=>
   cases a;exact .cons _ _<|I _ b
def B7{l:OpenLaw}{n:Nat}(hn:l.most=some n){P:Params}{h:Heap}{args:List WData}{vals:List Value}
 (I:l.row.toRowW.claim.pre args=true)(U:WellAll P h vals args) :
  ∃ a vs ns,vals=[Value.ref a]/\args=[WData.list<|ns.map WData.int]/\h.get? a=some { cls:=.type "list",data:=.seq vs.toArray }/\IntsAre vs ns/\ns.length<=n:=by
 have Y:=(pre_splitW I).1;have f:l.pre.holds [] { args:=args }=true:=(pre_splitW I).2;let#[d,r,rfl,j,i]:=hasAllW_cons Y;obtain rfl:=hasAllW_nil i;let#[xs,rfl,g]:=hasW_list j;let#[ns,rfl]:=items_int g
 have hlen:ns.length<=n:=by
  have R:(WTm.not<|.lt (.lit<|.int n)<|.len<|.arg 0).holds [] { args:=[.list<|ns.map .int] }=true:=by
   have R:=(holds_andW f).1;rw[hn]at R;exact R
  have Z:=condW_of R<|w_not<|w_lt w_lit<|w_len_list<|w_arg rfl;refine Nat.le_of_not_lt λq=>?_
  have q':n<((ns.length:Nat):Int):=by omega
  first
   | (rw[decide_eq_true q']at Z;exact absurd Z ∅)
   | (simp at Z;omega)
 cases U with
 |cons c b=>
  cases b
  cases c with
  | list e O=>exact#[_,_,ns,rfl,rfl,e,pS ns _ O,hlen]
def Bt(l:OpenLaw)(args:List WData):l.row.toRowW.claim.post args (.bool true) args=true :=
 postW_of
  (show WShape.has [] (.bool true) .bool=true by first | rfl | decide | simp[ WShape.arms])
  (show(WTm.eq .res<|.lit<|.bool true).value [] { args:=args,res:=some<|.bool true,after:=args }=some (.bool<|true == true)from w_eq_bool (w_res rfl) w_lit) rfl
def wZ{l:OpenLaw}{n:Nat}{q:Program}{loose:List Str}{j:(Str->Option Value)->Heap->Prop}{i:World->Heap->Prop}{d:DefRec}
 (hn:l.most=some n)(c:d.params.defaults=[])
 (call:∀ (w:World) (s₀ I:Shared) (mg mb:Str->Option Value) (fa:Addr) (o:Obj) (pm U doc:Value) (a:Addr) (vs:List Value) (ns:List Int),
   Ground q loose [] j w s₀ mg mb I.heap->i w I.heap ->
   I.heap.get? fa=some o->o.data=.func (docDef d.name d.params d.body d.scope pm U doc)->I.heap.CodeRec U d.name->mg d.name=some (.ref fa) ->
   I.heap.get? a=some { cls:=.type "list",data:=.seq vs.toArray }->IntsAre vs ns->ns.length<=n->I.gens=(List.toArray []) ->
   codeAny (model l.prog w) callerA (.call (.ref fa) ⟨[.ref a],[]⟩) (λr s'=>r=.ok (.ret<|.bool true)/\OldK I.heap s'.heap/\s'.os=I.os/\AllBare s'.gens) I) :
  WalkO q loose j i l.row.toRowW d [] (λf vs=>PySem.call f vs):=by
 intro w s₀ I mg mb G Y fa o pm U doc y kV p hd e h b t args vals z O g k Z s;obtain rfl:y=.none:=Dflts.none h c;obtain rfl:kV=.none:=Dflts.noKw h;let#[a,vs,ns,rfl,rfl,R,hints,hlen]:=B7 hn O Z;refine enter_call (codeAny_mono (call w s₀ I mg mb fa o pm U doc a vs ns G Y p (fd_plain hd) e b R hints hlen t) λr s' m=>?_);let#[rfl,x,v,u]:=m;exact#[.inl #[.bool true,.bool true,[],rfl,λ_=>rfl,.bool true,Bt l _,λ_=>#[List.Pairwise.nil,λ_ hm=>(nomatch hm)]],x,v,u]
end Att
namespace L2
open PySem PySem.Spec PyProof.Rows
def tq:∀ {vs:List Value} {ns:List Int},IntsAre vs ns->Vals (ns.map V.int) vs
 | _,_,.nil=>.nil
 | _,_,.cons n t h=>.cons ⟨t,rfl⟩<|tq h
abbrev vg(H:Hp):Prop:=∀ b,H b=none\/∃ o xs,H b=some (.cy o<|.lst xs)
def DZ{P:Program}{w:World}{K:W.Frag}{mg mb:Str->Option Value}{CX:rl}{k:Nat}{fa a:Addr}{fd:FuncData}{x:Str}{sp:Sp}{I:Shared}{vs:List Value}{ns:List Int}
 (D:K.In I.heap)(f:I.heap.Ns mainGlobals mg)(hb:I.heap.Ns builtinsNs mb)(p:∀ x:Str,x ≠ "__name__" -> mb x=bootBuiltins x)(g:I.heap.NoLimit)(N:I.gens=(List.toArray []))
 (ha:I.heap.get? a=some { cls:=.type "list",data:=.seq vs.toArray })(hi:IntsAre vs ns)(hl:ns.length<=sizeLine)(M:bS k callerA)
 (F:∀ base:Heap,K.In base->base.Ns mainGlobals mg->dt P w K mg base CX k fa fd [x] sp)(U:∀ (s:Shared) (u:Value),BindsTo s fd ⟨[u],[]⟩ [(x,u)])
 (l:∀ H:Hp,vg H->dz K H a (ns.map V.int)->sp [.ref a] H (λv _=>v=.bl true) λ_ _ _=>False)
 (t:∀ H e s',CX [] H I (λ_ _ _=>False) e s'->False) :
  codeAny (model P w) callerA (.call (.ref fa) ⟨[.ref a],[]⟩) (λr s'=>r=.ok (.ret<|.bool true)/\OldK I.heap s'.heap/\s'.os=I.os/\AllBare s'.gens) I:=by
 have y:=tq hi;have Z:=hi.length
 have core:∀ H:Hp,vg H->dz K H a (ns.map V.int)->hj P w H I.heap->(∀ b,H b≠none->b=a)->(H a≠none->K.lookup a=none) ->
   codeAny (model P w) callerA (.call (.ref fa) ⟨[.ref a],[]⟩) (λr s'=>r=.ok (.ret<|.bool true)/\OldK I.heap s'.heap/\s'.os=I.os/\AllBare s'.gens) I:=by
  intro H A Q b9 B T;have O:∀ {b:Addr} {o:Obj},I.heap.get? b=some o->H b=none->(lu I.heap H).get? b=some o:=λe n=>E4 e n
  have j:∀ {b:Addr} {o:Obj} {es:Array DictEntry} {ep:Nat},I.heap.get? b=some o->o.data=.dict es ep->H b=none:=λ{b o es ep} e d=>by
   cases q:H b with
   | none=>rfl
   |some u=>
    have e':b=a:=B b (by rw[q];simp);subst e';rw[ha]at e;cases e;have d':Data.seq vs.toArray _=Data.dict es ep:=d;cases d'
  have R:∀ {b:Addr} {m:Str->Option Value},I.heap.Ns b m->(lu I.heap H).Ns b m:=λ{b m} ⟨o,es,ep,e,d,r⟩=>#[o,es,ep,O e<|j e d,d,r]
  have i:K.In (lu I.heap H):=λb o e=>O (D b o e) (by
   cases q:H b with
   | none=>rfl
   |some u=>
    have e':b=a:=B b (by rw[q];simp);subst e'
    rw[T<|by rw[q];simp]at e;cases e)
  have S:Mod K mg (lu I.heap H):=⟨i,R f,⟨mb,R hb,p⟩,let ⟨L,h1,X⟩:=g;⟨L,R h1,X⟩⟩
  have e0:oH P w K mg (lu I.heap H) callerA [] I H:=#[rfl,S,λb o e=>Hk e,le_of_eq<|Cr _ _,trivial,λb hb=>absurd (show b∈([]:List Addr)from hb) (by simp),b9,.of_eq N]
  refine codeAny_mono ((F _ i<|R f).run callerA [] I H ⟨[.ref a],[]⟩ [.ref a] [.ref a] _ _ M e0 (U I<|.ref a) (.cons rfl .nil)<|l H A Q) λr s' h=>?_
  cases r with
  | error e=>exact(t H e s' h).elim
  |ok fl=>
   cases fl with
   | next=>exact False.elim h
   | brk=>exact False.elim h
   | cont=>exact False.elim h
   |ret u=>
    let#[v,H',os,bare,un,c,G,q]:=h;have q':v=.bl true:=q;subst q';obtain rfl:u=Value.bool true:=G;refine#[rfl,OldK.of_keep λb o e=>?_,os,bare]
    cases q:H b with
    | none=>exact un.keep b o e q (by intro z;exact absurd (show b∈([]:List Addr)from z)<|by simp)<|by simp
    |some u=>
     rcases A b with z | ⟨QN,xs,z⟩
     ·rw[q]at z;cases z
     ·have E:=un.jE b QN _ z;let#[C,_]:=b9 b _ z;let#[e2,_]:=c b _ E;rw[e]at C;cases C;exact e2
 cases hk:K.lookup a with
 |some o=>
  have e:=D a o hk;rw[ha]at e;cases e;refine core (λ_=>none) (λ_=>.inl rfl) (.inr #[_,vs.toArray,_,hk,rfl,rfl,rfl,by rw[size_toArray,Z];exact hl,by simpa using y]) (λb u z=>by have Y:(none:Option HO)=some u:=z;cases Y) (λb z=>absurd rfl z) λz=>absurd rfl z
 |none=>
  refine core (λb=>if b=a then some (.cy { cls:=.type "list",data:=.seq vs.toArray }<|.lst<|ns.map V.int)else none) (λb=>?_) (.inl<|.inr #[{ cls:=.type "list",data:=.seq vs.toArray },if_pos rfl]) (λb u z=>?_) (λb z=>?_) λ_=>hk
  ·by_cases hb:b=a
   ·exact .inr #[_,_,if_pos hb]
   ·exact .inl<|if_neg hb
  ·by_cases hb:b=a
   ·have Y:=(if_pos hb).symm.trans z;cases Y;subst hb;exact#[ha,by rw[length_map];exact hl,vs,_,y,ha]
   ·have Y:=(if_neg hb).symm.trans z;cases Y
  ·by_cases hb:b=a
   ·exact hb
   ·exact absurd (if_neg hb) z
@[reducible]noncomputable def KOf{K:W.Frag}{h:Heap}(_:K.In h):W.Frag:=K
def xD{l:W.OpenLaw}{n k:Nat}{q:Program}{loose:List Str}{C:(Str->Option Value)->Heap->Prop}{j:World->Heap->Prop}{d:DefRec}{K:Params->W.Frag}{CX:World->rl}{sp:World->Sp}{x:Str}
 (hn:l.most=some n)(U:n<=sizeLine)(c:d.params.defaults=[])(p:bS k callerA)
 (y:∀ (w:World) (h:Heap),j w h->(K w.params).In h)
 (F:∀ (w:World) (mg:Str->Option Value) (fa:Addr) (h:Heap),(K w.params).In h->h.Ns mainGlobals mg->mg d.name=some (.ref fa) ->
   ∃ fd:FuncData,(∀ (s:Shared) (u:Value),BindsTo s fd ⟨[u],[]⟩ [(x,u)]) /\
    ∀ base:Heap,(K w.params).In base->base.Ns mainGlobals mg->dt l.prog w (K w.params) mg base (CX w) k fa fd [x] (sp w))
 (R:∀ (w:World) (H:Hp) (a:Addr) (ns:List Int),ns.length<=n->vg H->dz (K w.params) H a (ns.map V.int)->sp w [.ref a] H (λv _=>v=.bl true) λ_ _ _=>False)
 (i:∀ (w:World) (H:Hp) (s:Shared) (e:Value) (s':Shared),CX w [] H s (λ_ _ _=>False) e s'->False) :
  W.WalkO q loose C j l.row.toRowW d [] (λf vs=>PySem.call f vs):=by
 refine Att.wZ hn c λw s₀ I mg mb fa o pm E doc a vs ns G Y D hd t Z O hints hlen r=>?_;have m:=y w _ Y;let#[fd,hb,B]:=F w mg fa _ m G.T.g Z;exact DZ m G.T.g G.T.b G.T.builtins G.T.nolimit r O hints (Qp hlen U) p B hb (λH A z=>R w H a ns hlen A z) λH e s'=>i w H I e s'
def CP{l:W.OpenLaw}{n k:Nat}{q:Program}{loose:List Str}{j:(Str->Option Value)->Heap->Prop}{Y:World->Heap->Prop}{d:DefRec}{K:Params->W.Frag}{CX:rl}{sp:W.Frag->Sp}{x:Str}
 (hn:l.most=some n)(O:n<=sizeLine)(R:d.params.defaults=[])(Z:bS k callerA)
 (b:∀ (w:World) (h:Heap),Y w h->(K w.params).In h)
 (F:∀ (w:World) (mg:Str->Option Value) (fa:Addr) (h:Heap),(K w.params).In h->h.Ns mainGlobals mg->mg d.name=some (.ref fa) ->
   ∃ fd:FuncData,(∀ (s:Shared) (u:Value),BindsTo s fd ⟨[u],[]⟩ [(x,u)]) /\
    ∀ base:Heap,(K w.params).In base->base.Ns mainGlobals mg->dt l.prog w (K w.params) mg base CX k fa fd [x] (sp<|K w.params))
 (I:∀ (K:W.Frag) (H:Hp) (a:Addr) (ns:List Int),ns.length<=n->vg H->dz K H a (ns.map V.int)->sp K [.ref a] H (λv _=>v=.bl true) λ_ _ _=>False)
 (U:∀ (H:Hp) (s:Shared) (e:Value) (s':Shared),CX [] H s (λ_ _ _=>False) e s'->False) :
  W.WalkO q loose j Y l.row.toRowW d [] (λf vs=>PySem.call f vs) :=
 xD (K:=K) (CX:=λ_=>CX) (sp:=λw=>sp<|K w.params) hn O R Z b F (λw H a ns i g c=>I (K w.params) H a ns i g c) λ_ H s e s'=>U H s e s'
abbrev eQ(s:Stmt):Arguments:=match s with
 | .FunctionDef _ a _ _ _ _ _ _ _ _=>a
 | _=>{ posonlyargs:=[],args:=[],vararg:=none,kwonlyargs:=[],kw_defaults:=[],kwarg:=none,defaults:=[] }
abbrev cY(s:Stmt):List Stmt:=match s with
 | .FunctionDef _ _ b _ _ _ _ _ _ _=>b
 | _=>[]
abbrev aS(s:Stmt):Scope:=match s with
 | .FunctionDef _ _ _ _ _ _ sc _ _ _=>sc
 | _=>{ kind:=.function,names:=[],isGenerator:=false,isCoroutine:=false }
@[reducible]noncomputable def ml:rl:=λ_ _ _ _ _ _=>False
@[reducible]noncomputable def E0:XK:=λ_ _ _=>False
def hG:Passes ml X E0:=λ_ _ _ _ _ _ _ h=>h.elim
structure nN(K:W.Frag)(x qual:Str)(st:Stmt)(f:Addr)(fd:FuncData):Prop where
 ex:∃ (oc:Value) (od:Option Addr) (kV doc pm:Value) (an:Option Addr) (ft ct:Value) (zr:Array (Option Value)),
  fd=W.fnOf x qual (eQ st) (cY st) (aS st) .none kV doc pm an ft ct/\K.lookup f=some ⟨oc,od,.func fd,zr⟩/\W.codeIn K ft qual=true
 kp:W.keepIn K (.ref f)=true
section
variable{P:Program}{w:World}{K:W.Frag}{mg:Str->Option Value}{base:Heap}
def nN.ok{x qual:Str}{st:Stmt}{f:Addr}{fd:FuncData}{N ps:List Str}{k:Nat}{sp:Sp}(F:nN K x qual st f fd)(S:iR N ps (aS st))(len:∀ vs H Q E,sp vs H Q E->vs.length=ps.length)
 (I:∀ (ft:Value) (A:Around) (outer:List Env) (s:Shared) (H:Hp) (vs:List V) (Q:VK) (E:XK),bS k (A.deeper<|envOfC qual (aS st) s.heap.objs.size f ft)->sp vs H Q E ->
   ∃ t,hY (kX ml P w K mg base N qual (aS st) f ft A outer s H E).lk (cY st) t/\t { nx:=λ_ H'=>Q .cb H',rt:=Q } (start N vs) H):dt P w K mg base ml (k+1) f fd ps sp:=by
 let#[oc,od,kV,doc,pm,an,ft,ct,zr,rfl,U,R]:=F.ex;refine M3 U R S len λA outer s H vs Q E Y O=>?_;let#[t,h,q]:=I ft A outer s H vs Q E Y O;exact#[t,h.lk,q]
def nN.binds{x qual:Str}{st:Stmt}{f:Addr}{fd:FuncData}{ps:List Str}(F:nN K x qual st f fd)
 (h:∀ (kV doc pm:Value) (an:Option Addr) (ft ct:Value) (us:List Value),us.length=ps.length->bindArgs (W.fnOf x qual (eQ st) (cY st) (aS st) .none kV doc pm an ft ct) ⟨us,[]⟩=pure (ps.zip us)):Binds K fd ps []:=by
 let#[oc,od,kV,doc,pm,an,ft,ct,zr,rfl,O,I]:=F.ex;exact .all<|h kV doc pm an ft ct
def ko{x qual:Str}{st:Stmt}{f:Addr}{oc:Value}{od an:Option Addr}{zr:Array (Option Value)}{kV doc pm ft ct:Value}(l:K.lookup f=some ⟨oc,od,.func<|W.fnOf x qual (eQ st) (cY st) (aS st) .none kV doc pm an ft ct,zr⟩)
 (c:W.codeIn K ft qual=true)(k:W.keepIn K (.ref f)=true):nN K x qual st f (W.fnOf x qual (eQ st) (cY st) (aS st) .none kV doc pm an ft ct):=#[#[oc,od,kV,doc,pm,an,ft,ct,zr,rfl,l,c],k]
end
def sV(h:n<=1000):n<sizeLine:=Nat.lt_of_le_of_lt h ∅
def gO{A B:Prop}(h:B):if false=true then A else B:=by
 exact h
def gu{A B:Prop}(h:A):if true=true then A else B:=by
 exact h
abbrev aB(H H':Hp):Prop:=∀ b o,H b=some o->H' b=some o
def aB.refl(H:Hp):aB H H:=λ_ _ h=>h
def aB.trans(a:aB H H1)(b:aB H1 H2):aB H H2:=λc o h=>b c o<|a c o h
def aB.free(e:aB H H')(h:H' l=Option.none):H l=Option.none:=by
 cases q:H l with
 | none=>rfl
 |some o=>
  rw[e l o q]at h;cases h
section
variable{X:Cx}
def B3:bM X (.builtin "len") (λxs H Q=>∃ a bx,xs=[V.ref a]/\H a=some (.dK bx)/\Q (.int bx.length) H):=by
 intro ag s J H xs us Q I r h;let#[a,bx,rfl,ha,q]:=h;let#[u,rfl,O]:=vals1 r;cases O
 exact F2 I (.inl ha) λt s' R=>#[.int bx.length,H,R,#[t,rfl],q]
end
end L2
namespace RS
open PySem PySem.Spec PyProof.Rows L2
@[reducible]def VE:List Value:=[.type "ValueError",.type "Exception",.type "BaseException",.type "object"]
abbrev CF:List Str:=["RibbonError", "BadPegs", "BadFrame", "BadHalf", "BadHook", "BadName", "NoNumber", "NoFrame", "NoStack", "NoPlace", "Taken", "Full", "NothingThere", "BadTrade", "Hangs", "BadPage"]
abbrev KH(f:Option PySem.Builtin.ObjectAttr.Found):Bool:=match f with
 | some (.bind (.builtin a) (.builtin b))=>a == "getset_descriptor.__get__" && b == "object.__class__"
 | _=>false
abbrev Nr(K:W.Frag)(C:Addr):Bool:=match K.lookup C with
 | some ⟨.type "type",_,.cls cd,sl⟩=>(match cd.mro,sl.toList with
  | .ref C'::bm,[_,_,_,_,some (.builtin n),_]=>C' == C&&n == "ValueError.__new__" && !cd.hasDel&&W.tailIn K VE bm
  | _,_=>false)
 | _=>false
abbrev O8(K:W.Frag)(C:Addr):Bool:=Nr K C&&(W.findIn K (.ref C) "at" == some none&&W.hasDictIn K C)
abbrev NH(K:W.Frag)(x:Str)(C:Addr):Bool :=
 O8 K C&&W.findIn K (.ref C) "__getattribute__" == some (some<|.builtin "BaseException.__getattribute__")&&W.findIn K (.ref C) "__getattr__" == some none&&KH (W.findObj K C none "__class__") &&
 W.mroIn K C (.type "object") == some true&&W.subIn K (.ref C) (.type "BaseException") == some true&&(W.clsIn K C).isSome&&W.kitOne K (.ref C) (.type "ValueError") == some true &&
 CF.all λc=>match W.nsIn K mainGlobals c with
  | some (some (.ref D))=>W.kitOne K (.ref C) (.ref D) == some (RL.Ax x c)&&W.subIn K (.ref C) (.ref D) == some (RL.Ax x c)
  | _=>true
structure h8(K:W.Frag)(x:Str)(C:Addr):Prop where
 ns:W.nsIn K mainGlobals x=some (some<|.ref C)
 ok:NH K x C=true
abbrev nP:Addr->Prop:=λ_=>False
abbrev mn(K:W.Frag)(H:Hp)(a:Addr)(xs:List V):Prop:=(∃ o,H a=some (.cy o<|.lst xs))\/dz K (λ_=>none) a xs
def mn.seq{K:W.Frag}(h:mn K H a xs):dz K H a xs:=by
 rcases h with⟨o,h⟩ | (h | ⟨o,h⟩) | h
 ·exact .inl<|.inr #[o,h]
 ·cases h
 ·cases h
 ·exact .inr h
def mn.same{K:W.Frag}(e:aB H H')(h:mn K H a xs):mn K H' a xs:=by
 rcases h with⟨o,h⟩ | h
 ·exact .inl #[o,e _ _ h]
 ·exact .inr h
abbrev Ac(H:Hp)(f:Option Nat)(od:Option Addr):Prop:=match f with
 | none=>od=none
 | some k=>∃ n u R O I,od=some n/\H n=some (.cy { cls:=.type "dict",data:=.dict (List.toArray [⟨R,.str "at" O,.int k I⟩]) 1 } u)
def Ac.keep(h:Ac H f od)(k:∀ b o u,H b=some (.cy o u)->H' b=some (.cy o u)):Ac H' f od:=by
 cases f with
 | none=>exact h
 | some m=>exact let ⟨n,u,R,O,I,Y,U⟩:=h;⟨n,u,R,O,I,Y,k _ _ _ U⟩
abbrev ExV(K:W.Frag)(H:Hp)(c:Str)(v:V):Prop:=∃ a o u D vs,v=.ref a/\H a=some (.cy o u)/\(o.cls=.ref D/\Ac H (RL.Fo c) o.dict)/\o.data=.fields vs/\vs[2]?=some .none/\h8 K (RL.baseOf c) D
def ExV.keep{K:W.Frag}(h:ExV K H c v)(k:∀ b o u,H b=some (.cy o u)->H' b=some (.cy o u)):ExV K H' c v :=
 let ⟨a,o,u,D,vs,R,O,I,r⟩:=h;⟨a,o,u,D,vs,R,k _ _ _ O,⟨I.1,I.2.keep k⟩,r⟩
abbrev dX(K:W.Frag)(c:Str)(C:Addr):Prop:=W.nsIn K mainGlobals c=some (some<|.ref C)
abbrev lP:List Str:=["width", "tied", "piled"]
mutual
noncomputable def Rep(P:Addr->Prop)(K:W.Frag)(H:Hp):RL.D->V->Prop
 | .cb,v=>v=.cb
 | .bl b,v=>v=.bl b
 | .int i,v=>v=.int i
 | .str x,v=>v=.str x
 | .tup ds,v=>∃ a xs,v=.ref a/\H a=some (.tup xs)/\ab P K H ds xs
 | .lst ds,v=>∃ a xs,v=.ref a/\¬ P a/\H a=some (.lst xs)/\ab P K H ds xs
 | .dK ks ds,v=>∃ a xs,v=.ref a/\¬ P a/\H a=some (.dK<|ks.zip xs)/\ks.length=ds.length/\ab P K H ds xs
 | .lq ds,v=>∃ a xs,v=.ref a/\mn K H a xs/\ab P K H ds xs
 | .exc c,v=>ExV K H c v
 | .obj,v=>∃ a,v=.ref a
 | .fL ds,v=>∃ a o xs,v=.ref a/\H a=some (.cy o<|.lst xs)/\ab P K H ds xs
 | .fK ks ds,v=>∃ a o xs,v=.ref a/\H a=some (.cy o<|.dK<|ks.zip xs)/\ks.length=ds.length/\ab P K H ds xs
 | .hd ds,v=>∃ a C dx xs,v=.ref a/\H a=some (.ins C dx<|lP.zip xs)/\(dX K "Holding" C/\ds.length=3)/\ab P K H ds xs
 | .b0 d ps qs,v=>∃ a C dx ap af x xs ys,v=.ref a/\¬ P a/\H a=some (.b0 C dx ap af x xs ys)/\dX K "Loft" C/\Rep P K H d x/\ab P K H ps xs/\ab P K H qs ys
noncomputable def ab(P:Addr->Prop)(K:W.Frag)(H:Hp):List RL.D->List V->Prop
 | [],xs=>xs=[]
 | d::r,xs=>∃ x t,xs=x::t/\Rep P K H d x/\ab P K H r t
end
mutual
theorem Rep.same{P:Addr->Prop}{K:W.Frag}{H H':Hp}(e:aB H H'):∀ {d:RL.D} {v:V},Rep P K H d v->Rep P K H' d v
 | .cb,v,h=>by simpa[Rep]using h
 | .bl _,v,h=>by simpa[Rep]using h
 | .int _,v,h=>by simpa[Rep]using h
 | .str _,v,h=>by simpa[Rep]using h
 | .tup ds,v,h=>by
  rw[Rep]at h ⊢;let#[a,xs,R,O,I]:=h;exact#[a,xs,R,e _ _ O,ab.same e I]
 | .lst ds,v,h=>by
  rw[Rep]at h ⊢;let#[a,xs,R,U,O,I]:=h;exact#[a,xs,R,U,e _ _ O,ab.same e I]
 | .dK ks ds,v,h=>by
  rw[Rep]at h ⊢;let#[a,xs,R,U,O,Y,I]:=h;exact#[a,xs,R,U,e _ _ O,Y,ab.same e I]
 | .lq ds,v,h=>by
  rw[Rep]at h ⊢;let#[a,xs,R,O,I]:=h;exact#[a,xs,R,mn.same e O,ab.same e I]
 | .exc c,v,h=>by rw[Rep]at h ⊢;exact h.keep λ_ _ _ q=>e _ _ q
 | .obj,v,h=>by rw[Rep]at h ⊢;exact h
 | .fL ds,v,h=>by rw[Rep]at h ⊢;let#[a,o,xs,R,O,I]:=h;exact#[a,o,xs,R,e _ _ O,ab.same e I]
 | .fK ks ds,v,h=>by rw[Rep]at h ⊢;let#[a,o,xs,R,O,Y,I]:=h;exact#[a,o,xs,R,e _ _ O,Y,ab.same e I]
 | .hd ds,v,h=>by rw[Rep]at h ⊢;let#[a,C,dx,xs,R,O,Z,I]:=h;exact#[a,C,dx,xs,R,e _ _ O,Z,ab.same e I]
 | .b0 d ps qs,v,h=>by rw[Rep]at h ⊢;let#[a,C,dx,ap,af,x,xs,ys,R,U,O,Z,I,f,b]:=h;exact#[a,C,dx,ap,af,x,xs,ys,R,U,e _ _ O,Z,Rep.same e I,ab.same e f,ab.same e b]
theorem ab.same{P:Addr->Prop}{K:W.Frag}{H H':Hp}(e:aB H H'):∀ {ds:List RL.D} {xs:List V},ab P K H ds xs->ab P K H' ds xs
 | [],xs,h=>by rw[ab]at h ⊢;exact h
 | d::r,xs,h=>by
  rw[ab]at h ⊢;let#[x,t,R,O,I]:=h;exact#[x,t,R,Rep.same e O,ab.same e I]
end
mutual
theorem Rep.weak{P b:Addr->Prop}{K:W.Frag}{H:Hp}(e:∀ a,b a->P a):∀ {d:RL.D} {v:V},Rep P K H d v->Rep b K H d v
 | .cb,v,h=>by simpa[Rep]using h
 | .bl _,v,h=>by simpa[Rep]using h
 | .int _,v,h=>by simpa[Rep]using h
 | .str _,v,h=>by simpa[Rep]using h
 | .tup ds,v,h=>by
  rw[Rep]at h ⊢;let#[a,xs,R,O,I]:=h;exact#[a,xs,R,O,ab.weak e I]
 | .lst ds,v,h=>by
  rw[Rep]at h ⊢;let#[a,xs,R,U,O,I]:=h;exact#[a,xs,R,λz=>U<|e a z,O,ab.weak e I]
 | .dK ks ds,v,h=>by
  rw[Rep]at h ⊢;let#[a,xs,R,U,O,Y,I]:=h;exact#[a,xs,R,λz=>U<|e a z,O,Y,ab.weak e I]
 | .lq ds,v,h=>by
  rw[Rep]at h ⊢;let#[a,xs,R,O,I]:=h;exact#[a,xs,R,O,ab.weak e I]
 | .exc c,v,h=>by rw[Rep]at h ⊢;exact h
 | .obj,v,h=>by rw[Rep]at h ⊢;exact h
 | .fL ds,v,h=>by rw[Rep]at h ⊢;let#[a,o,xs,R,O,I]:=h;exact#[a,o,xs,R,O,ab.weak e I]
 | .fK ks ds,v,h=>by rw[Rep]at h ⊢;let#[a,o,xs,R,O,Y,I]:=h;exact#[a,o,xs,R,O,Y,ab.weak e I]
 | .hd ds,v,h=>by rw[Rep]at h ⊢;let#[a,C,dx,xs,R,O,Z,I]:=h;exact#[a,C,dx,xs,R,O,Z,ab.weak e I]
 | .b0 d ps qs,v,h=>by rw[Rep]at h ⊢;let#[a,C,dx,ap,af,x,xs,ys,R,U,O,Z,I,g,f]:=h;exact#[a,C,dx,ap,af,x,xs,ys,R,λz=>U<|e a z,O,Z,Rep.weak e I,ab.weak e g,ab.weak e f]
theorem ab.weak{P I:Addr->Prop}{K:W.Frag}{H:Hp}(e:∀ a,I a->P a):∀ {ds:List RL.D} {xs:List V},ab P K H ds xs->ab I K H ds xs
 | [],xs,h=>by rw[ab]at h ⊢;exact h
 | d::r,xs,h=>by
  rw[ab]at h ⊢;let#[x,t,U,R,O]:=h;exact#[x,t,U,Rep.weak e R,ab.weak e O]
end
def Rep.none{P:Addr->Prop}{K:W.Frag}(h:Rep P K H d v):Rep nP K H d v:=h.weak λ_ z=>z.elim
mutual
theorem Rep.ax{P Z:Addr->Prop}{K:W.Frag}{H:Hp}:∀ {d:RL.D} {v:V},d.ax=true->Rep P K H d v->Rep Z K H d v
 | .cb,v,_,h=>by simpa[Rep]using h
 | .bl _,v,_,h=>by simpa[Rep]using h
 | .int _,v,_,h=>by simpa[Rep]using h
 | .str _,v,_,h=>by simpa[Rep]using h
 | .tup ds,v,i,h=>by
  rw[Rep]at h ⊢;rw[RL.D.ax]at i;let#[a,xs,R,O,I]:=h;exact#[a,xs,R,O,ab.ax i I]
 | .lst ds,v,i,h=>by rw[RL.D.ax]at i;cases i
 | .dK ks ds,v,i,h=>by rw[RL.D.ax]at i;cases i
 | .lq ds,v,i,h=>by
  rw[Rep]at h ⊢;rw[RL.D.ax]at i;let#[a,xs,R,O,I]:=h;exact#[a,xs,R,O,ab.ax i I]
 | .exc c,v,i,h=>by rw[Rep]at h ⊢;exact h
 | .obj,v,i,h=>by rw[Rep]at h ⊢;exact h
 | .fL ds,v,i,h=>by rw[Rep]at h ⊢;rw[RL.D.ax]at i;let#[a,o,xs,R,O,I]:=h;exact#[a,o,xs,R,O,ab.ax i I]
 | .fK ks ds,v,i,h=>by rw[Rep]at h ⊢;rw[RL.D.ax]at i;let#[a,o,xs,R,O,U,I]:=h;exact#[a,o,xs,R,O,U,ab.ax i I]
 | .hd ds,v,i,h=>by rw[Rep]at h ⊢;rw[RL.D.ax]at i;let#[a,C,dx,xs,R,O,Y,I]:=h;exact#[a,C,dx,xs,R,O,Y,ab.ax i I]
 | .b0 _ _ _,v,i,h=>by rw[RL.D.ax]at i;cases i
theorem ab.ax{P U:Addr->Prop}{K:W.Frag}{H:Hp}:∀ {ds:List RL.D} {xs:List V},RL.ae ds=true->ab P K H ds xs->ab U K H ds xs
 | [],xs,_,h=>by rw[ab]at h ⊢;exact h
 | d::r,xs,i,h=>by
  rw[ab]at h ⊢;rw[RL.ae,and_eq_true]at i;let#[x,t,R,O,I]:=h;exact#[x,t,R,Rep.ax i.1 O,ab.ax i.2 I]
end
abbrev d6:HO->Prop
 | .lst _=>True
 | .dK _=>True
 | .dT _=>True
 | .b0 _ _ _ _ _ _ _=>True
 | _=>False
mutual
theorem Rep.upd{P:Addr->Prop}{K:W.Frag}{H:Hp}{a:Addr}{o o':HO}(ha:H a=some o)(m:d6 o)(p:P a):∀ {d:RL.D} {v:V},Rep P K H d v->Rep P K (upd H a o') d v
 | .cb,v,h=>by simpa[Rep]using h
 | .bl _,v,h=>by simpa[Rep]using h
 | .int _,v,h=>by simpa[Rep]using h
 | .str _,v,h=>by simpa[Rep]using h
 | .tup ds,v,h=>by
  rw[Rep]at h ⊢;let#[b,xs,R,I,O]:=h;have n:b≠a:=dE I ha (λq=>by subst q;exact m);exact#[b,xs,R,by rw[L2.aj n];exact I,ab.upd ha m p O]
 | .lst ds,v,h=>by
  rw[Rep]at h ⊢;let#[b,xs,R,U,I,O]:=h;have n:b≠a:=λz=>U<|z▸p;exact#[b,xs,R,U,by rw[L2.aj n];exact I,ab.upd ha m p O]
 | .dK ks ds,v,h=>by
  rw[Rep]at h ⊢;let#[b,xs,R,U,I,Y,O]:=h;have n:b≠a:=λz=>U<|z▸p;exact#[b,xs,R,U,by rw[L2.aj n];exact I,Y,ab.upd ha m p O]
 | .lq ds,v,h=>by
  rw[Rep]at h ⊢;let#[b,xs,R,I,O]:=h;refine#[b,xs,R,?_,ab.upd ha m p O];rcases I with⟨q,I⟩ | I
  ·have n:b≠a:=dE I ha (λq=>by subst q;exact m);exact .inl #[q,by rw[L2.aj n];exact I]
  ·exact .inr I
 | .obj,v,h=>by rw[Rep]at h ⊢;exact h
 | .exc c,v,h=>by
  rw[Rep]at h ⊢;refine h.keep λb Z u q=>?_;have n:b≠a:=dE q ha (λq=>by subst q;exact m);rw[L2.aj n];exact q
 | .fL ds,v,h=>by
  rw[Rep]at h ⊢;let#[b,Z,xs,R,I,O]:=h;have n:b≠a:=dE I ha (λq=>by subst q;exact m);exact#[b,Z,xs,R,by rw[L2.aj n];exact I,ab.upd ha m p O]
 | .fK ks ds,v,h=>by
  rw[Rep]at h ⊢;let#[b,Z,xs,R,I,Y,O]:=h;have n:b≠a:=dE I ha (λq=>by subst q;exact m);exact#[b,Z,xs,R,by rw[L2.aj n];exact I,Y,ab.upd ha m p O]
 | .hd ds,v,h=>by
  rw[Rep]at h ⊢;let#[b,C,dx,xs,R,I,Y,O]:=h;have n:b≠a:=dE I ha (λq=>by subst q;exact m);exact#[b,C,dx,xs,R,by rw[L2.aj n];exact I,Y,ab.upd ha m p O]
 | .b0 d ps qs,v,h=>by
  rw[Rep]at h ⊢;let#[b,C,dx,ap,af,x,xs,ys,R,U,I,e,O,g,f]:=h;have n:b≠a:=λz=>U<|z▸p;exact#[b,C,dx,ap,af,x,xs,ys,R,U,by rw[L2.aj n];exact I,e,Rep.upd ha m p O,ab.upd ha m p g,ab.upd ha m p f]
theorem ab.upd{P:Addr->Prop}{K:W.Frag}{H:Hp}{a:Addr}{o o':HO}(ha:H a=some o)(m:d6 o)(p:P a):∀ {ds:List RL.D} {xs:List V},ab P K H ds xs->ab P K (upd H a o') ds xs
 | [],xs,h=>by rw[ab]at h ⊢;exact h
 | d::r,xs,h=>by
  rw[ab]at h ⊢;let#[x,t,R,O,I]:=h;exact#[x,t,R,Rep.upd ha m p O,ab.upd ha m p I]
end
section lists
variable{K:W.Frag}
def ab.nil:ab P K H [] []:=by rw[ab]
def ab.cons{d:RL.D}{ds:List RL.D}{x:V}{xs:List V}(h:Rep P K H d x)(t:ab P K H ds xs):ab P K H (d::ds) (x::xs):=by rw[ab];exact#[x,xs,rfl,h,t]
def ab.length:∀ {ds:List RL.D} {xs:List V},ab P K H ds xs->ds.length=xs.length
 | [],xs,h=>by rw[ab]at h;rw[h];rfl
 | d::r,xs,h=>by
  let#[x,t,rfl,_,I]:=h;rw[length_cons,length_cons,ab.length I]
def ab.append:∀ {ds es:List RL.D} {xs ys:List V},ab P K H ds xs->ab P K H es ys->ab P K H (ds++es) (xs++ys)
 | [],_,xs,_,h,k=>by rw[ab]at h;rw[h];exact k
 | d::r,_,xs,_,h,k=>by
  let#[x,t,rfl,O,I]:=h;exact ab.cons O<|ab.append I k
def ab.get:∀ {ds:List RL.D} {xs:List V} {i:Nat} {d:RL.D},ab P K H ds xs->ds[i]?=some d->∃ x,xs[i]?=some x/\Rep P K H d x
 | [],_,i,d,_,e=>by simp at e
 | d::r,xs,0,d',h,e=>by
  let#[x,t,rfl,U,_]:=h;simp at e;subst e;exact#[x,rfl,U]
 | d::r,xs,i+1,d',h,e=>by
  let#[x,t,rfl,_,R]:=h;let#[y,O,I]:=ab.get R (by simpa using e);exact#[y,by simpa using O,I]
def ab.set:∀ {ds:List RL.D} {xs:List V} (i:Nat) {d:RL.D} {x:V},ab P K H ds xs->Rep P K H d x->ab P K H (ds.set i d) (xs.set i x)
 | [],xs,_,_,_,h,_=>by rw[ab]at h;rw[h];exact ab.nil
 | d::r,xs,0,_,_,h,k=>by
  let#[x,t,rfl,_,I]:=h;exact ab.cons k I
 | d::r,xs,i+1,_,_,h,k=>by
  let#[x,t,rfl,O,I]:=h;exact ab.cons O<|ab.set i I k
def ab.take:∀ {ds:List RL.D} {xs:List V} (n:Nat),ab P K H ds xs->ab P K H (ds.take n) (xs.take n)
 | _,_,0,_=>by simpa using ab.nil
 | [],xs,n+1,h=>by rw[ab]at h;rw[h];simpa using ab.nil
 | d::r,xs,n+1,h=>by
  let#[x,t,rfl,O,I]:=h;exact ab.cons O<|ab.take n I
def ab.drop:∀ {ds:List RL.D} {xs:List V} (n:Nat),ab P K H ds xs->ab P K H (ds.drop n) (xs.drop n)
 | _,_,0,h=>h
 | [],xs,n+1,h=>by rw[ab]at h;rw[h];simpa using ab.nil
 | d::r,xs,n+1,h=>by
  let#[x,t,rfl,_,I]:=h;exact ab.drop n I
def ab.rev(h:ab P K H ds xs):ab P K H ds.reverse xs.reverse:=by
 induction ds generalizing xs with
 | nil=>rw[ab]at h;rw[h];exact ab.nil
 |cons d r I=>
  let#[x,t,rfl,R,O]:=h;rw[reverse_cons,reverse_cons];exact ab.append (I O)<|ab.cons R ab.nil
def ab.rep(h:ab P K H ds xs):∀ n:Nat,ab P K H (replicate n ds).flatten (replicate n xs).flatten
 | 0=>ab.nil
 | n+1=>by
  exact ab.append h<|ab.rep h n
end lists
abbrev la(K:W.Frag)(I:RL.St)(J:L2.St)(H:Hp):Prop:=I.length<=J.length/\∀ (i:Nat) (d:RL.D),I[i]?=some (some d)->∃ v,J[i]?=some (some v)/\Rep nP K H d v
def la.same{K:W.Frag}(h:la K QO J H)(e:aB H H'):la K QO J H':=⟨h.1,λi d q=>by
 let#[v,O,I]:=h.2 i d q
 exact#[v,O,I.same e]⟩
abbrev kZ:RL.D->Bool
 | .lst _=>true
 | .dK _ _=>true
 | .b0 _ _ _=>true
 | _=>false
structure Res(K:W.Frag)(QO:RL.St)(J:L2.St)(H:Hp)(e:RL.E)(d:RL.D)(v:V)(H':Hp):Prop where
 same:aB H H'
 rep:Rep nP K H' d v
 fresh:RL.aI e=true->kZ d=true->∀ a,v=.ref a->H a=none
 av:∀ M,RL.kd M e=true->∀ P:Addr->Prop,(∀ a,P a->H a≠none)->(∀ (j:Nat) (dj:RL.D) (vj:V),M.contains j=false->QO[j]?=some (some dj)->J[j]?=some (some vj)->Rep P K H dj vj)->Rep P K H' d v
abbrev tE(K:W.Frag)(cl:RL.Cl)(e:RL.E):TE:=λJ H Q=>∃ I d,la K I J H/\RL.ev cl I e=some d/\∀ v H',Res K I J H e d v H'->Q v H'
abbrev SE(X:Cx)(cl:RL.Cl)(e:Expr)(e':RL.E):Prop:=PE X e<|tE X.K cl e'
def PE.weak(h:PE X e t)(w:∀ J H Q,t' J H Q->t J H Q):PE X e t':=λag s J H Q I q=>h ag s J H Q I<|w J H Q q
abbrev tEs(K:W.Frag)(cl:RL.Cl)(es:RL.Es):TA:=λJ H Q=>∃ I ds,la K I J H/\RL.c0 cl I es=some ds/\∀ vs H',aB H H'->ab nP K H' ds vs->Q vs H'
abbrev vp(X:Cx)(cl:RL.Cl)(es:List Expr)(I:RL.Es):Prop:=PA X es<|tEs X.K cl I
section rules
variable{X:Cx}
def two{I:RL.St}{J:L2.St}{H:Hp}{x y:RL.D}{R:V->V->Hp->Prop}(U:la X.K I J H)(Z:RL.ev cl I a'=some x)(Y:RL.ev cl I b'=some y)
 (k:∀ v u O H2,aB H O->aB O H2->Rep nP X.K H2 x v->Rep nP X.K H2 y u->Res X.K I J H a' x v O->Res X.K I J O b' y u H2->R v u H2) :
  tE X.K cl a' J H λv O=>tE X.K cl b' J O λu H2=>R v u H2 :=
 ⟨I,x,U,Z,λv O r1=>#[I,y,U.same r1.same,Y,λu H2 r2=>k v u O H2 r1.same r2.same (r1.rep.same r2.same) r2.rep r1 r2]⟩
def bind_some(h:o.bind f=some y):∃ x,o=some x/\f x=some y:=by
 cases o with
 | none=>cases h
 | some x=>exact#[x,rfl,h]
def map_some(h:o.map f=some y):∃ x,o=some x/\f x=y:=by
 cases o with
 | none=>cases h
 | some x=>exact#[x,rfl,Option.some.inj h]
def cT:RL.most<=sizeLine:=by decide
def aB.d8(hn:H p=none):aB H (upd H p o):=λb u e=>by rw[aj<|aM e hn];exact e
def LN(a:X.N[i]?=some x)(Z:vl X.env.scope x)(hd:(x == ("__debug__" : Str))=false)(U:(x == ("__classdict__" : Str))=false):SE X cl (.Name x pos) (.var i):=by
 refine PE.weak (cI a Z hd U) λJ H Q h=>?_;let#[R,d,Y,e,k]:=h
 have e':R[i]?=some (some d):=by
  let#[o,O,I]:=bind_some e
  cases o with
  | none=>cases I
  | some z=>cases I;exact O
 let#[v,O,I]:=Y.2 i d e';refine⟨v,O,k v H ⟨aB.refl H,I,λz=>(by cases z),λM z P b av=>?_⟩⟩;rw[RL.zI]at z;exact av i d v (by simpa using z) e' O
def pZ(h:PE X (.Constant k j pos) (tC v))(r:∀ P H,Rep P X.K H d v)(hm:kZ d=false):SE X cl (.Constant k j pos) (.cst d):=by
 refine PE.weak h λJ H Q q=>?_;let#[I,R,O,e,k]:=q;cases e;exact k v H ⟨aB.refl H,r _ _,λz=>(by cases z),λM z=>nomatch (show false=true from z)⟩
def Jv{x:Str}{i:Int}{u:Value}(h:PE X (.Name x pos) (tC<|.int i)):SE X cl (.Name x pos) (.lp x i):=by
 refine PE.weak h λJ H Q q=>?_;let#[I,R,O,e,k]:=q;cases e;exact k _ H ⟨aB.refl H,(by rw[Rep]),λz=>(by cases z),λM z=>nomatch (show false=true from z)⟩
end rules
section rules
variable{X:Cx}
def dN(O:aB H H')(r:Rep nP X.K H' d v)(I:d.ax=true):Res X.K QO J H e d v H' where
 same:=O
 rep:=r
 fresh:=λ_ m=>by
  cases d with
  | lst _=>cases I
  | dK _ _=>cases I
  | b0 _ _ _=>cases I
  | _=>cases m
 av:=λM _ P _ _=>r.ax I
def E3:hE X (binaryOp .FloorDiv) (rI (λ_ j=>0<j/\j<2 ^ 200) λi j=>.int<|i / j):=opI λi j _ _ _ _ _ R q=>by
 refine floordiv_int ⋯ ?_<|.inl<|PyProof.noPylong_of_log2 ?_
 ·rw[Int.fdiv_eq_ediv_of_nonneg _ ⋯];exact q
 ·have O:j.natAbs≠0:=by lia
  have I:j.natAbs<2 ^ 200:=by
   omega
  have U:j.natAbs.log2<200:=(Nat.log2_lt O).mpr I;lia
def d9(O:aB H H1)(hn:H1 p=none)(r:ab nP X.K H1 ds xs)(I:∀ M,RL.kd M e=false):Res X.K QO J H e (.lst ds) (.ref p) (upd H1 p<|.lst xs) where
 same:=O.trans<|aB.d8 hn
 rep:=by
  exact#[p,xs,rfl,λz=>z,ao,r.same<|aB.d8 hn]
 fresh:=λ_ _ a z=>by
  cases z;exact O.free hn
 av:=λM z=>by rw[I M]at z;cases z
def gS(O:aB H H1)(hn:H1 p=none)(r:ab nP X.K H1 ds xs)(I:∀ M,RL.kd M e=false):Res X.K QO J H e (.tup ds) (.ref p) (upd H1 p<|.tup xs) where
 same:=O.trans<|aB.d8 hn
 rep:=by
  exact#[p,xs,rfl,ao,r.same<|aB.d8 hn]
 fresh:=λ_ m=>by cases m
 av:=λM z=>by rw[I M]at z;cases z
abbrev wA:RL.FR->Operator
 | .add=>.Add
 | .sub=>.Sub
 | .mul=>.Mult
 | .fdiv=>.FloorDiv
 | .mod=>.Mod
 | .pow=>.Pow
def bC{P:Addr->Prop}{K:W.Frag}:Rep P K H (.int i) (.int i):=by rw[Rep]
def wW{P:Addr->Prop}{K:W.Frag}:Rep P K H (.bl i) (.bl i):=by rw[Rep]
def gn{P:Addr->Prop}{K:W.Frag}:Rep P K H (.str i) (.str i):=by rw[Rep]
def ay{P:Addr->Prop}{K:W.Frag}(h:Rep P K H (.int i) v):v=.int i:=by rw[Rep]at h;exact h
def bJ{P:Addr->Prop}{K:W.Frag}(h:Rep P K H (.bl i) v):v=.bl i:=by rw[Rep]at h;exact h
def aR{P:Addr->Prop}{K:W.Frag}(h:Rep P K H (.str i) v):v=.str i:=by rw[Rep]at h;exact h
abbrev qF(X:Cx)(o:RL.FR)(r:R2):Prop :=
 ∀ (I:RL.St) (J:L2.St) (H H2:Hp) (e:RL.E) (x y d:RL.D) (v u:V) (Q:VK),aB H H2->Rep nP X.K H2 x v->Rep nP X.K H2 y u->RL.aT o x y=some d->(∀ M,RL.kd M e=false) ->
  (∀ w H',Res X.K I J H e d w H'->Q w H')->r v u H2 Q
def iT(Y:hE X (binaryOp<|wA o) r)(ok:qF X o r)(ha:SE X cl a a')(hb:SE X cl b b'):SE X cl (.BinOp a (wA o) b pos) (.bin o a' b'):=by
 refine PE.weak (MU Y ha hb) λJ H Q h=>?_;let#[I,d,U,e,k]:=h;let#[x,c,e]:=bind_some e;let#[y,Z,e]:=bind_some e;refine two U c Z λv u f H2 s1 s2 R O _ _=>?_;exact ok I J H H2 _ x y d v u Q (s1.trans s2) R O e (λ_=>rfl) k
end rules
section rules
variable{X:Cx}{cl:RL.Cl}{a b c:Expr}{a' b' c':RL.E}{pos:Pos}
def bO{α:Type}{c:Prop} [Decidable c]{a d:α}(h:(if c then some a else none)=some d):c/\d=a:=by
 by_cases I:c
 ·rw[if_pos I]at h;exact#[I,(Option.some.inj h).symm]
 ·rw[if_neg I]at h;cases h
def ly{α:Type}{o:Option α}{d:α}{p:Prop}(e:o=none)(h:o=some d):p:=by rw[e]at h;cases h
def Ef{x y d:RL.D}(h:RL.aT .add x y=some d):(∃ i j,x=.int i/\y=.int j/\d=.int (i+j))\/(∃ i j:Str,x=.str i/\y=.str j/\i.length+j.length<=RL.most/\d=.str (i++j)) \/
  (∃ i j,x=.lst i/\y=.lst j/\i.length+j.length<=RL.most/\d=.lst (i++j)) \/
  (∃ i j,x=.tup i/\y=.tup j/\(i.length+j.length<=RL.most/\0<i.length)/\d=.tup (i++j))\/∃ j,x=.tup []/\y=.tup j/\d=.tup j:=by
 cases x with
 | int i=>cases y with
  | int j=>cases h;exact .inl #[i,j,rfl,rfl,rfl]
  | _=>exact ly rfl h
 | str i=>cases y with
  |str j=>
   let#[I,e]:=bO h;exact .inr<|.inl #[i,j,rfl,rfl,I,e]
  | _=>exact ly rfl h
 | lst i=>cases y with
  |lst j=>
   let#[I,e]:=bO h;exact .inr<|.inr<|.inl #[i,j,rfl,rfl,I,e]
  | _=>exact ly rfl h
 | tup i=>cases y with
  |tup j=>
   have h:(if i.length+j.length<=RL.most/\0<i.length then some (RL.D.tup<|i++j)else if i.length=0 then some (.tup j)else none)=some d:=h;by_cases I:i.length+j.length<=RL.most/\0<i.length
   ·rw[if_pos I]at h;cases h;exact .inr<|.inr<|.inr<|.inl #[i,j,rfl,rfl,I,rfl]
   ·rw[if_neg I]at h;let#[O,e]:=bO h;exact .inr<|.inr<|.inr<|.inr #[j,by rw[List.length_eq_zero_iff.mp O],rfl,e]
  | _=>exact ly rfl h
 | _=>exact ly rfl h
def Et{x y d:RL.D}(h:RL.aT .mul x y=some d):(∃ i j,x=.int i/\y=.int j/\zx i j/\d=.int (i*j)) \/
  (∃ i j,x=.lst i/\y=.int j/\(0<=j/\j<=RL.most/\i.length*j.toNat<=RL.most)/\d=.lst (replicate j.toNat i).flatten):=by
 cases x with
 | int i=>cases y with
  |int j=>
   let#[I,e]:=bO h;exact .inl #[i,j,rfl,rfl,I,e]
  | _=>exact ly rfl h
 | lst i=>cases y with
  |int j=>
   let#[I,e]:=bO h;exact .inr #[i,j,rfl,rfl,I,e]
  | _=>exact ly rfl h
 | _=>exact ly rfl h
def j6{o:RL.FR}{x y d:RL.D}(h:RL.aT o x y=some d)(I:o≠.add)(hm:o≠.mul):∃ i j,x=.int i/\y=.int j/\RL.aT o (.int i) (.int j)=some d:=by
 have no:∀ {a b:RL.D},RL.aT .sub a b=none->RL.aT .fdiv a b=none->RL.aT .mod a b=none->RL.aT .pow a b=none->RL.aT o a b=some d->False:=λY U R O h=>by
  cases o with
  | add=>exact I rfl
  | mul=>exact hm rfl
  | sub=>rw[Y]at h;cases h
  | fdiv=>rw[U]at h;cases h
  | mod=>rw[R]at h;cases h
  | pow=>rw[O]at h;cases h
 cases x with
 | int i=>cases y with
  | int j=>exact#[i,j,rfl,rfl,h]
  | _=>exact(no rfl rfl rfl rfl h).elim
 | _=>exact(no rfl rfl rfl rfl h).elim
def Ex{x y d:RL.D}(h:RL.aT .sub x y=some d):∃ i j,x=.int i/\y=.int j/\d=.int (i-j):=by
 let#[i,j,O,I,h]:=j6 h ∅ ∅;cases h;exact#[i,j,O,I,rfl]
def Bq{x y d:RL.D}(h:RL.aT .fdiv x y=some d):∃ i j,x=.int i/\y=.int j/\(0<j/\j<2 ^ 200)/\d=.int (i / j):=by
 let#[i,j,R,O,h]:=j6 h ∅ ∅;let#[I,e]:=bO h;exact#[i,j,R,O,I,e]
def E9{x y d:RL.D}(h:RL.aT .mod x y=some d):∃ i j,x=.int i/\y=.int j/\0<j/\d=.int (i%j):=by
 let#[i,j,R,O,h]:=j6 h ∅ ∅;let#[I,e]:=bO h;exact#[i,j,R,O,I,e]
def Dp{x y d:RL.D}(h:RL.aT .pow x y=some d):∃ i j,x=.int i/\y=.int j/\(0<=j/\j<=1000/\i.natAbs<2 ^ 64)/\d=.int (i ^ j.toNat):=by
 let#[i,j,R,O,h]:=j6 h ∅ ∅;let#[I,e]:=bO h;exact#[i,j,R,O,I,e]
def bb{P:Addr->Prop}{K:W.Frag}{H:Hp}{ds:List RL.D}{v:V}(h:Rep P K H (.lst ds) v):∃ a xs,v=.ref a/\¬ P a/\H a=some (.lst xs)/\ab P K H ds xs:=by rw[Rep]at h;exact h
def bw{P:Addr->Prop}{K:W.Frag}{H:Hp}{ds:List RL.D}{v:V}(h:Rep P K H (.tup ds) v):∃ a xs,v=.ref a/\H a=some (.tup xs)/\ab P K H ds xs:=by rw[Rep]at h;exact h
def Jd:qF X .sub (rI0 λi j=>.int<|i-j):=by
 intro I J H H2 e x y d v u Q O U R h Y k;let#[i,j,rfl,rfl,rfl]:=Ex h;exact#[i,j,ay U,ay R,k _ _<|dN O bC rfl]
def FV:qF X .fdiv (rI (λ_ j=>0<j/\j<2 ^ 200) λi j=>.int<|i / j):=by
 intro I J H H2 e x y d v u Q O U R h Z k;let#[i,j,rfl,rfl,Y,rfl]:=Bq h;exact#[i,j,ay U,ay R,Y,k _ _<|dN O bC rfl]
def L6:qF X .mod (rI (λ_ j=>0<j) λi j=>.int<|i%j):=by
 intro I J H H2 e x y d v u Q O U R h Z k;let#[i,j,rfl,rfl,Y,rfl]:=E9 h;exact#[i,j,ay U,ay R,Y,k _ _<|dN O bC rfl]
def J9:qF X .pow (rI Kx λi j=>.int<|i ^ j.toNat):=by
 intro O J H H2 e x y d v u Q R Y U h Z k;let#[i,j,rfl,rfl,I,rfl]:=Dp h;exact#[i,j,ay Y,ay U,#[I.1,Int.le_trans I.2.1 ∅,I.2.2],k _ _<|dN R bC rfl]
abbrev LS(K:W.Frag):R2:=λx y H Q=>∃ a b ys,x=.ref a/\y=.ref b/\ed K H a []/\ed K H b ys/\Q (.ref b) H
def DD:hE X (binaryOp .Add) (LS X.K):=by
 intro ag s J H x y v u Q I i g h;let#[a,b,ys,rfl,rfl,ha,hb,q]:=h;cases i;cases g;let#[bq,r1,p1,_]:=I.tuple ha;let#[O,r2,p2,_]:=I.tuple hb;cases r1;let#[#[cls,j,data,sl],d,e,n,hd]:=id p1;let#[#[f,c,data2,Z],R,Y,n2,U]:=id p2;simp only at e hd Y U;subst e hd Y U
 exact concat_meets ⟨_,d,rfl⟩ ⟨_,R,rfl⟩ noFill_tuple_add seq_tuple_add PySem.F.slot_tuple_add PySem.F.entry_tuple_add (PySem.F.args_tuple_add_2 _ _)
  (tuple_addW0 a b _ O.toArray n n2 j c sl Z rfl) ⟨d,R,.ref b,H,I,rfl,q⟩
def Ju(ha:SE X cl a a')(hb:SE X cl b b'):SE X cl (.BinOp a .Add b pos) (.bin .add a' b'):=by
 refine iT (HN.or<|yY.or<|LB.or<|G8.or DD) ?_ ha hb;intro r J H H2 e x y d v u Q U Z Y h I k
 rcases Ef h with⟨i,j,rfl,rfl,rfl⟩ | ⟨i,j,rfl,rfl,g,rfl⟩ | ⟨i,j,rfl,rfl,g,rfl⟩ | ⟨i,j,rfl,rfl,⟨g,ha⟩,rfl⟩ | ⟨j,rfl,rfl,rfl⟩
 ·exact .inl #[i,j,ay Z,ay Y,k _ _<|dN U bC rfl]
 ·exact .inr<|.inl #[i,j,aR Z,aR Y,Qp g cT,k _ _<|dN U gn rfl]
 ·let#[p,xs,f,_,o,O]:=bb Z;let#[q,ys,c,_,n,R]:=bb Y;refine .inr (.inr (.inl #[p,q,xs,ys,f,c,o,n,?_,λl hl=>k _ _<|d9 U hl (O.append R) I]));rw[<-O.length,<-R.length];exact Qp g cT
 ·let#[p,xs,f,o,O]:=bw Z;let#[q,ys,c,n,R]:=bw Y;refine .inr (.inr (.inr (.inl #[p,q,xs,ys,f,c,ed.of o,ed.of n,λz=>?_,?_,λz=>?_,λ_ l hl=>k _ _<|gS U hl (O.append R) I])))
  ·rw[O.length,z]at ha;exact absurd ha ∅
  ·rw[<-O.length,<-R.length];exact Qp g cT
  ·have s:j=[]:=by
    have:=R.length;rw[z]at this;exact List.length_eq_zero_iff.mp this
   subst s;rw[append_nil]at k;exact k _ _ ⟨U,f▸Z,λ_ m=>(by cases m),λM z=>by rw[I M]at z;cases z⟩
 ·let#[p,xs,f,o,O]:=bw Z;let#[q,ys,c,n,R]:=bw Y;rw[ab]at O;subst O;exact .inr (.inr (.inr (.inr ⟨p,q,ys,f,c,ed.of o,ed.of n,k _ _ ⟨U,c▸Y,λ_ m=>(by cases m),λM z=>by rw[I M]at z;cases z⟩⟩)))
def K7(ha:SE X cl a a')(hb:SE X cl b b'):SE X cl (.BinOp a .Mult b pos) (.bin .mul a' b'):=by
 refine iT (JF.or Jb) ?_ ha hb;intro c J H H2 e x y d v u Q R Y U h O k
 rcases Et h with⟨i,j,rfl,rfl,I,rfl⟩ | ⟨i,j,rfl,rfl,I,rfl⟩
 ·exact .inl #[i,j,ay Y,ay U,I,k _ _<|dN R bC rfl]
 ·let#[p,xs,g,_,f,Z]:=bb Y;refine .inr #[p,j,xs,g,ay U,f,?_,?_,?_,λl hl=>k _ _<|d9 R hl (Z.rep _) O]
  ·exact Int.le_trans ∅ I.1
  ·exact Int.lt_of_le_of_lt I.2.1 ∅
  ·rw[<-Z.length];exact Qp I.2.2 cT
def J8{o:RL.FR}(ha:SE X cl a a')(hb:SE X cl b b'):SE X cl (.BinOp a (wA o) b pos) (.bin o a' b'):=by
 cases o with
 | add=>exact Ju ha hb
 | mul=>exact K7 ha hb
 | sub=>exact iT Kb Jd ha hb
 | fdiv=>exact iT E3 FV ha hb
 | mod=>exact iT Lp L6 ha hb
 | pow=>exact iT K5 J9 ha hb
def gh{I:RL.St}{J:L2.St}{H H':Hp}{e:RL.E}{k:Bool}(O:aB H H'):Res X.K I J H e (.bl k) (.bl k) H':=dN O wW rfl
def IS{rest:List Expr}(ha:SE X cl a a')(hb:SE X cl (.BoolOp .And (b::rest) pos) b'):SE X cl (.BoolOp .And (a::b::rest) pos) (.and a' b'):=by
 refine PE.weak (Kv ha hb) λJ H Q h=>?_;let#[I,d,O,e,k]:=h;let#[x,R,e]:=bind_some e;refine#[I,x,O,R,λv U r1=>?_]
 cases x with
 |bl t=>
  refine#[t,bJ r1.rep,?_]
  cases t with
  |true=>
   refine gu ?_;refine#[I,d,O.same r1.same,e,λw H2 r2=>k w H2 ?_];exact⟨r1.same.trans r2.same,r2.rep,λz=>(by cases z),λM z=>nomatch (show false=true from z)⟩
  |false=>
   refine gO ?_;cases e;exact k _ _<|gh r1.same
 | _=>cases e
def Nd{rest:List Expr}(ha:SE X cl a a')(hb:SE X cl (.BoolOp .Or (b::rest) pos) b'):SE X cl (.BoolOp .Or (a::b::rest) pos) (.or a' b'):=by
 refine PE.weak (N5 ha hb) λJ H Q h=>?_;let#[I,d,O,e,k]:=h;let#[x,R,e]:=bind_some e;refine#[I,x,O,R,λv U r1=>?_]
 cases x with
 |bl t=>
  refine#[t,bJ r1.rep,?_]
  cases t with
  |false=>
   refine gO ?_;refine#[I,d,O.same r1.same,e,λw H2 r2=>k w H2 ?_];exact⟨r1.same.trans r2.same,r2.rep,λz=>(by cases z),λM z=>nomatch (show false=true from z)⟩
  |true=>
   refine gu ?_;cases e;exact k _ _<|gh r1.same
 | _=>cases e
def B9{op}(ha:SE X cl a a'):SE X cl (.BoolOp op [a] pos) a':=Ia ha
abbrev tT(K:W.Frag)(cl:RL.Cl)(e:RL.E):TT:=λJ H Q=>∃ I k,la K I J H/\(RL.ev cl I e).bind RL.truth=some k/\∀ H',aB H H'->Q k H'
abbrev ST(X:Cx)(cl:RL.Cl)(e:Expr)(e':RL.E):Prop:=PT X e<|tT X.K cl e'
abbrev SW(X:Cx)(cl:RL.Cl)(e:Expr)(e':RL.E):Prop:=PW X e<|tT X.K cl e'
def PT.weak{e:Expr}{t t':TT}(h:PT X e t)(w:∀ J H Q,t' J H Q->t J H Q):PT X e t':=λag s J H Q I q=>h ag s J H Q I<|w J H Q q
def PW.weak{e:Expr}{t t':TT}(h:PW X e t)(w:∀ J H Q,t' J H Q->t J H Q):PW X e t':=λO ag s J H Q I q=>h O ag s J H Q I<|w J H Q q
def ab.isEmpty{P:Addr->Prop}{K:W.Frag}{H:Hp}{ds:List RL.D}{xs:List V}(h:ab P K H ds xs):ds.isEmpty=xs.isEmpty:=by
 cases ds with
 | nil=>rw[ab]at h;rw[h];rfl
 |cons d r=>
  let#[x,t,rfl,_]:=h;rfl
def Mb{K:W.Frag}{H:Hp}{d:RL.D}{v:V}{k:Bool}(r:Rep nP K H d v)(h:RL.truth d=some k):zD K v H k:=by
 cases d<;>simp only[RL.truth]at h<;>first | (cases h;done) | skip
 case bl t=>cases h;rw[bJ r];exact rfl
 case int t =>
  cases h;rw[ay r];simp[zD]
 case tup ds =>
  let#[a,xs,rfl,e,I]:=bw r;cases h;exact .inr<|.inl #[xs,ed.of e,by rw[I.isEmpty]]
 case lst ds =>
  let#[a,xs,rfl,_,e,I]:=bb r;cases h;exact .inl #[xs,dz.of e,by rw[I.isEmpty]]
def DG(ha:SE X cl a a')(R:∀ whole,isTrue a X.env whole=(do let v <- whole;standAt a.pos;holding [v]<|truthy v)):ST X cl a a':=by
 refine PT.weak (vt ha R) λJ H Q h=>?_;let#[I,k,O,e,q]:=h;let#[d,Y,U]:=bind_some e;exact#[I,d,O,Y,λv Z r1=>#[k,Mb r1.rep U,q Z r1.same]]
def BB{I:BoolOp}(ha:ST X cl a a'):SW X cl (.BoolOp I [a] pos) a':=by
 cases I with
 | And=>exact HE ha
 | Or=>exact IW ha
def A3{I:RL.St}{k:Bool}(h:(RL.ev cl I<|.and a' b').bind RL.truth=some k):∃ t,(RL.ev cl I a').bind RL.truth=some t/\(if t=true then(RL.ev cl I b').bind RL.truth=some k else k=false):=by
 rw[RL.qC]at h
 cases ea:RL.ev cl I a' with
 | none=>rw[ea]at h;cases h
 |some x=>
  rw[ea]at h
  cases x with
  |bl t=>
   cases t with
   | true=>exact#[true,rfl,gu h]
   | false=>exact⟨false,rfl,gO (by cases h;rfl)⟩
  | _=>exact ly rfl h
def Ee{I:RL.St}{k:Bool}(h:(RL.ev cl I<|.or a' b').bind RL.truth=some k):∃ t,(RL.ev cl I a').bind RL.truth=some t/\(if t=true then k=true else(RL.ev cl I b').bind RL.truth=some k):=by
 rw[RL.Ad]at h
 cases ea:RL.ev cl I a' with
 | none=>rw[ea]at h;cases h
 |some x=>
  rw[ea]at h
  cases x with
  |bl t=>
   cases t with
   | true=>exact⟨true,rfl,gu (by cases h;rfl)⟩
   | false=>exact#[false,rfl,gO h]
  | _=>exact ly rfl h
def LD{rest:List Expr}(ha:ST X cl a a')(hb:SW X cl (.BoolOp .And (b::rest) pos) b'):SW X cl (.BoolOp .And (a::b::rest) pos) (.and a' b'):=by
 refine PW.weak (JQ ha hb) λJ H Q h=>?_;let#[I,k,R,e,q]:=h;let#[t,U,O]:=A3 e;refine#[I,t,R,U,λY s1=>?_]
 cases t with
 | true=>exact gu ⟨I,k,R.same s1,O,λH2 s2=>q H2<|s1.trans s2⟩
 |false=>
  have O:=O;subst O;exact gO<|q Y s1
def NB{rest:List Expr}(ha:ST X cl a a')(hb:SW X cl (.BoolOp .Or (b::rest) pos) b'):SW X cl (.BoolOp .Or (a::b::rest) pos) (.or a' b'):=by
 refine PW.weak (NF ha hb) λJ H Q h=>?_;let#[I,k,R,e,q]:=h;let#[t,U,O]:=Ee e;refine#[I,t,R,U,λY s1=>?_]
 cases t with
 |true=>
  have O:=O;subst O;exact gu<|q Y s1
 | false=>exact gO ⟨I,k,R.same s1,O,λH2 s2=>q H2<|s1.trans s2⟩
def Lg(ha:ST X cl a a'):ST X cl (.UnaryOp .Not a pos) (.not a'):=by
 refine PT.weak (BQ ha) λJ H Q h=>?_;let#[I,k,O,e,q]:=h;let#[d,Z,Y]:=bind_some e;let#[t,U,R]:=map_some Z;subst R;cases Y;exact#[I,t,O,U,λb s1=>q b s1]
def Mh(i:ST X cl c c')(ha:SE X cl a a')(hb:SE X cl b b'):SE X cl (.IfExp c a b pos) (.nk c' a' b'):=by
 refine PE.weak (Dh i ha hb) λJ H Q h=>?_;let#[I,d,O,e,q]:=h;let#[t,k,g]:=bind_some e;refine#[I,t,O,k,λl s1=>?_]
 cases t with
 |true=>
  refine gu ⟨I,d,O.same s1,g,λv H2 r2=>q v H2 ⟨s1.trans r2.same,r2.rep,λz=>(by cases z),λM z P U av=>?_⟩⟩;have z:(RL.kd M a'&&RL.kd M b')=true:=z;rw[and_eq_true]at z;exact r2.av M z.1 P (λa p=>(Option.ne_none_iff_exists'.mpr (by let#[o,R]:=Option.ne_none_iff_exists'.mp<|U a p;exact#[o,s1 _ _ R]))) λj dj vj f Z Y=>(av j dj vj f Z Y).same s1
 |false=>
  refine gO ⟨I,d,O.same s1,g,λv H2 r2=>q v H2 ⟨s1.trans r2.same,r2.rep,λz=>(by cases z),λM z P U av=>?_⟩⟩;have z:(RL.kd M a'&&RL.kd M b')=true:=z;rw[and_eq_true]at z;exact r2.av M z.2 P (λa p=>(Option.ne_none_iff_exists'.mpr (by let#[o,R]:=Option.ne_none_iff_exists'.mp<|U a p;exact#[o,s1 _ _ R]))) λj dj vj f Z Y=>(av j dj vj f Z Y).same s1
end rules
section rules
variable{X:Cx}
def KZ(ha:SE X cl a a'):SE X cl (.UnaryOp .Not a pos) (.not a'):=by
 intro ag s J H Q I h;let#[R,d,Y,e,k]:=h;let#[t,j,i]:=map_some e;let#[x,g,f]:=bind_some j;subst i;refine UnaryOp_ (cg (ha ag s J H (λv O=>aB H O/\Rep nP X.K O x v) I ⟨R,x,Y,g,λv O r1=>#[r1.same,r1.rep]⟩) λv s1 ⟨y,O,m,r1,U,rp⟩=>?_);refine not_of (cg (Bj ag s1 J O y v (λk H2=>k=t/\H2=O) m r1 ⟨t,Mb rp f,rfl,rfl⟩) λc s2 ⟨H2,l,b,Z⟩=>?_);subst b;subst Z;exact#[.bl<|!c,H2,l,rfl,k _ _<|gh U]
abbrev noStar:Expr->Bool
 | .Starred _ _=>false
 | _=>true
def aP(es:List Expr)(h:noStar e=true):starEach (e::es) X.env=(false,eval e X.env)::starEach es X.env:=by
 cases e<;>first | rfl | (cases h)
def dG:∀ {es:List Expr} {I:Pos},es.all noStar=true->(backTo I<|starEach es X.env).any (·.1)=false
 | [],_,_=>rfl
 | e::es,I,h=>by
  rw[Qz,and_eq_true]at h;rw[aP es h.1];show(false || (backTo I<|starEach es X.env).any (·.1))=false;rw[dG h.2];rfl
def df:vp X cl [] .nil:=by
 intro O ag s J H Q I h;let#[R,ds,U,e,k]:=h;cases e;exact cU O ag s J H Q I<|k [] H (aB.refl H) ab.nil
def bK(Z:SE X cl e e')(Y:vp X cl es z5)(hn:noStar e=true):vp X cl (e::es) (.cons e' z5):=by
 intro R ag s J H Q I h;refine bu Z Y (aP es hn) R ag s J H Q I ?_;let#[O,ds,U,e,k]:=h;let#[d,f,c]:=bind_some e;let#[r,b,a]:=map_some c;subst a;refine#[O,d,U,f,λv g r1=>#[O,r,U.same r1.same,b,λvs H2 s2 r2=>k (v::vs) H2 (r1.same.trans s2)<|ab.cons (r1.rep.same s2) r2]]
abbrev cO:RL.Es->Nat
 | .nil=>0
 | .cons _ r=>cO r+1
def ox:∀ {es:RL.Es} {ds:List RL.D},RL.c0 cl QO es=some ds->ds.length=cO es
 | .nil,ds,h=>by rw[RL.c0]at h;cases h;rfl
 | .cons e r,ds,h=>by
  let#[d,U,R]:=bind_some h;let#[t,O,I]:=map_some R;subst I;rw[length_cons,ox O,cO]
def KC(h:vp X cl es z5)(hl:cO z5<=1000):SE X cl (.Tuple es x1 pos) (.tup z5):=by
 refine PE.weak (Bv h) λJ H Q q=>?_;let#[I,d,R,e,k]:=q;let#[ds,O,Y]:=map_some e;subst Y;refine#[I,ds,R,O,λvs Z s1 r1=>#[?_,λp U=>k _ _ (gS s1 U r1 λ_=>rfl)]];rw[<-r1.length,ox O];exact le_of_lt<|sV hl
def LU(h:vp X cl es z5)(hl:cO z5<=1000):SE X cl (.List es pos) (.lst z5):=by
 refine PE.weak (uG h) λJ H Q q=>?_;let#[I,d,R,e,k]:=q;let#[ds,O,Y]:=map_some e;subst Y;refine#[I,ds,R,O,λvs Z s1 r1=>#[?_,λp U=>k _ _ (d9 s1 U r1 λ_=>rfl)]];rw[<-r1.length,ox O];exact le_of_lt<|sV hl
def mY(h:RL.cR xs i=some x):Pa xs i=some x:=by
 unfold RL.cR at h;unfold Pa OV;by_cases O:0<=i
 ·rw[if_pos O]at h;rw[if_pos O];let#[I,_]:=List.getElem?_eq_some_iff.mp h;rw[if_pos ⋯];exact h
 ·rw[if_neg O]at h;rw[if_neg O];by_cases I:-(xs.length:Int)<=i
  ·rw[if_pos I]at h;rw[if_pos I];exact h
  ·rw[if_neg I]at h;cases h
def ip{P:Addr->Prop}{K:W.Frag}(r:ab P K H ds xs)(h:RL.cR ds i=some d):∃ x,RL.cR xs i=some x/\Rep P K H d x:=by
 unfold RL.cR at h ⊢;rw[<-r.length];by_cases O:0<=i
 ·rw[if_pos O]at h ⊢;exact r.get h
 ·rw[if_neg O]at h ⊢;by_cases I:-(ds.length:Int)<=i
  ·rw[if_pos I]at h ⊢;exact r.get h
  ·rw[if_neg I]at h;cases h
abbrev lU:Expr->Bool
 | .Slice _ _ _ _=>false
 | _=>true
def GY(h:lU b=true):yi b:=by
 intro o i
 cases b<;>first | rfl | (cases h)
def C9{xs:List RL.D}{i:Int}(I:RL.ae xs=true)(h:RL.cR xs i=some d):d.ax=true:=by
 have mem:d∈xs:=by
  unfold RL.cR at h;split at h
  ·exact Qt h
  ·split at h
   ·exact Qt h
   ·cases h
 clear h
 induction xs with
 | nil=>cases mem
 |cons a r O=>
  rw[RL.ae,and_eq_true]at I;rcases List.mem_cons.mp mem with rfl | m
  ·exact I.1
  ·exact O I.2 m
def AI(h:RL.i0 x y=some d):(∃ xs i,x=.lst xs/\y=.int i/\RL.cR xs i=some d)\/(∃ xs i,x=.tup xs/\y=.int i/\RL.cR xs i=some d) \/
  (∃ (z:Str) (i:Int) (c:Nat),x=.str z/\y=.int i/\z.length<=RL.most/\RL.cR z.cps.toList i=some c/\d=.str ⟨(List.toArray [c])⟩)\/(∃ xs i,x=.fL xs/\y=.int i/\RL.ae xs=true/\RL.cR xs i=some d):=by
 have no:∀ {o:Option RL.D},o=none->o=some d->False:=λe h=>by rw[e]at h;cases h
 cases x with
 | lst xs=>cases y with
  | int i=>exact .inl #[xs,i,rfl,rfl,h]
  | _=>exact(no rfl h).elim
 | tup xs=>cases y with
  | int i=>exact .inr<|.inl #[xs,i,rfl,rfl,h]
  | _=>exact(no rfl h).elim
 | str z=>cases y with
  |int i=>
   by_cases I:z.length<=RL.most
   ·let#[c,R,O]:=map_some (show(RL.cR z.cps.toList i).map (λc=>RL.D.str ⟨(List.toArray [c])⟩)=some d from(if_pos I).symm.trans h);exact .inr<|.inr<|.inl #[z,i,c,rfl,rfl,I,R,O.symm]
   ·exact(no (if_neg I) h).elim
  | _=>exact(no rfl h).elim
 | fL xs=>cases y with
  |int i=>
   by_cases I:RL.ae xs=true
   ·exact .inr<|.inr<|.inr #[xs,i,rfl,rfl,I,(if_pos I).symm.trans h]
   ·exact(no (if_neg I) h).elim
  | _=>exact(no rfl h).elim
 | _=>exact(no rfl h).elim
def NK(ha:SE X cl a a')(hb:SE X cl b b')(E:lU b=true):SE X cl (.Subscript a b pos) (.ix a' b'):=by
 refine PE.weak (NJ Iu ha hb<|GY E) λJ H Q h=>?_;let#[l,d,t,e,k]:=h;let#[x,QN,e]:=bind_some e;let#[y,G,e]:=bind_some e;refine two t QN G λv u L H2 s1 s2 Y j A rb=>?_
 have R:∀ (w:V),Rep nP X.K H2 d w->(∀ P:Addr->Prop,Rep P X.K H2 x v->Rep P X.K H2 d w)->Res X.K l J H (.ix a' b') d w H2:=λw I O=>{
  same:=s1.trans s2
  rep:=I
  fresh:=λz=>by cases z
  av:=λM z P F av=>O P ((A.av M z P F av).same s2) }
 rcases AI e with⟨xs,i,rfl,rfl,hd⟩ | ⟨xs,i,rfl,rfl,hd⟩ | ⟨z,i,c,rfl,rfl,D,hd,rfl⟩ | ⟨xs,i,rfl,rfl,C,hd⟩
 ·let#[p,ys,rfl,_,U,g]:=bb Y;let#[w,I,O]:=ip g hd;refine .inl #[p,ys,i,w,rfl,ay j,dz.of U,mY I,k _ _ (R w O λP rp=>?_)];let#[B,m,q,_,Z,n]:=bb rp;cases q;rw[U]at Z;cases Z;let#[s,f,r]:=ip n hd;rw[I]at f;cases f;exact r
 ·let#[p,ys,rfl,U,g]:=bw Y;let#[w,I,O]:=ip g hd;refine .inr (.inl #[p,ys,i,w,rfl,ay j,ed.of U,mY I,k _ _ (R w O λP rp=>?_)]);let#[B,m,q,Z,n]:=bw rp;cases q;rw[U]at Z;cases Z;let#[s,f,r]:=ip n hd;rw[I]at f;cases f;exact r
 ·exact .inr (.inr #[z,i,c,aR Y,ay j,Qp D cT,mY hd,k _ _ (R _ gn λP _=>gn)])
 ·rw[Rep]at Y;let#[p,o,ys,rfl,U,g]:=Y;let#[w,I,O]:=ip g hd;exact .inl #[p,ys,i,w,rfl,ay j,.inl<|.inr #[o,U],mY I,k _ _<|dN (s1.trans s2) O<|C9 C hd]
end rules
section rules
def iY:∀ {Y bs:List RL.D} {k:Bool},RL.eqs f Y bs=some k ->
  ∃ e:Nat->Bool,k=(List.range<|min Y.length bs.length).all e/\∀ j x y,Y[j]?=some x->bs[j]?=some y->f x y=some (e j)
 | [],bs,k,h=>by
  have h:some true=some k:=by simpa[RL.eqs]using h
  cases h;exact#[λ_=>true,by simp,λj x y I=>by simp at I]
 | a::r,[],k,h=>by
  have h:some true=some k:=by simpa[RL.eqs]using h
  cases h;exact#[λ_=>true,by simp,λj x y I U=>by simp at U]
 | a::r,b::s,k,h=>by
  let#[i,I,U]:=bind_some h;let#[l,g,d]:=map_some U;let#[e,c,Z]:=iY g;refine⟨λj=>match j with | 0=>i | j+1=>e j,?_,λj x y R O=>?_⟩
  ·rw[<-d,c,length_cons,length_cons,Nat.succ_min_succ,List.range_succ_eq_map,Qz,all_map];rfl
  ·cases j with
   |zero=>
    simp at R O;subst R O;exact I
   | succ j=>exact Z j x y (by simpa using R)<|by simpa using O
abbrev LF(x:RL.D)(i:List RL.D):Prop:=x=.lst i\/x=.fL i
def ky{P:Addr->Prop}{K:W.Frag}{H:Hp}{v:V}(h:Rep P K H x v)(l:LF x i):∃ a xs,v=.ref a/\(H a=some (.lst xs)\/∃ o,H a=some (.cy o<|.lst xs))/\ab P K H i xs:=by
 rcases l with rfl | rfl
 ·let#[a,xs,R,_,O,I]:=bb h;exact#[a,xs,R,.inl O,I]
 ·rw[Rep]at h;let#[a,o,xs,R,O,I]:=h;exact#[a,xs,R,.inr #[o,O],I]
def HP{H:Hp}{xs ys:List V}(h:H a=some (.lst xs)\/∃ o,H a=some (.cy o<|.lst xs))(h':H a=some (.lst ys)\/∃ o,H a=some (.cy o<|.lst ys)):xs=ys:=by
 rcases h with h | ⟨o,h⟩
 ·rcases h' with h' | ⟨o',h'⟩<;>(rw[h]at h';cases h');rfl
 ·rcases h' with h' | ⟨o',h'⟩<;>(rw[h]at h';cases h');rfl
abbrev EqC(n:Nat)(x y:RL.D)(k:Bool):Prop:=(∃ i j,x=.bl i/\y=.bl j/\(i == j)=k)\/(∃ i j,x=.int i/\y=.int j/\(i == j)=k)\/(∃ i j,x=.str i/\y=.str j/\(i == j)=k) \/
  (∃ m i j,n=m+1/\x=.tup i/\y=.tup j/\Option.map (λk=>k&&i.length == j.length) (RL.eqs (RL.i1 m) i j)=some k)\/(∃ m i j,n=m+1/\LF x i/\LF y j/\Option.map (λk=>k&&i.length == j.length) (RL.eqs (RL.i1 m) i j)=some k)
def ie(h:RL.i1 n x y=some k):EqC n x y k:=by
 cases n with
 | zero=>cases x with
  | bl i=>cases y with
   | bl j=>exact .inl #[i,j,rfl,rfl,Option.some.inj h]
   | _=>exact ly rfl h
  | int i=>cases y with
   | int j=>exact .inr<|.inl #[i,j,rfl,rfl,Option.some.inj h]
   | _=>exact ly rfl h
  | str i=>cases y with
   | str j=>exact .inr<|.inr<|.inl #[i,j,rfl,rfl,Option.some.inj h]
   | _=>exact ly rfl h
  | _=>exact ly rfl h
 | succ m=>cases x with
  | bl i=>cases y with
   | bl j=>exact .inl #[i,j,rfl,rfl,Option.some.inj h]
   | _=>exact ly rfl h
  | int i=>cases y with
   | int j=>exact .inr<|.inl #[i,j,rfl,rfl,Option.some.inj h]
   | _=>exact ly rfl h
  | str i=>cases y with
   | str j=>exact .inr<|.inr<|.inl #[i,j,rfl,rfl,Option.some.inj h]
   | _=>exact ly rfl h
  | tup i=>cases y with
   | tup j=>exact .inr<|.inr<|.inr<|.inl #[m,i,j,rfl,rfl,rfl,h]
   | _=>exact ly rfl h
  | lst i=>cases y with
   | lst j=>exact .inr<|.inr<|.inr<|.inr #[m,i,j,rfl,.inl rfl,.inl rfl,h]
   | fL j=>exact .inr<|.inr<|.inr<|.inr #[m,i,j,rfl,.inl rfl,.inr rfl,h]
   | _=>exact ly rfl h
  | fL i=>cases y with
   | lst j=>exact .inr<|.inr<|.inr<|.inr #[m,i,j,rfl,.inr rfl,.inl rfl,h]
   | fL j=>exact .inr<|.inr<|.inr<|.inr #[m,i,j,rfl,.inr rfl,.inr rfl,h]
   | _=>exact ly rfl h
  | _=>exact ly rfl h
def sR{K:W.Frag}:∀ (n:Nat) (x y:RL.D) (v:V) (k:Bool),Rep nP K H x v->Rep nP K H y v->RL.i1 n x y=some k->k=true:=by
 intro n
 induction n with
 |zero=>
  intro x y v k O I h
  rcases ie h with⟨i,j,rfl,rfl,rfl⟩ | ⟨i,j,rfl,rfl,rfl⟩ | ⟨i,j,rfl,rfl,rfl⟩ | ⟨m,i,j,hn,a,Z,h⟩ | ⟨m,i,j,hn,a,Z,h⟩
  ·have:=bJ O;rw[bJ I]at this;cases this;simp
  ·have:=ay O;rw[ay I]at this;cases this;simp
  ·have:=aR O;rw[aR I]at this;cases this;simp
  ·cases hn
  ·cases hn
 |succ n s=>
  intro x y v k O I h
  have seq:∀ (i j:List RL.D) (xs:List V) (k:Bool),ab nP K H i xs->ab nP K H j xs->Option.map (λk=>k&&i.length == j.length) (RL.eqs (RL.i1 n) i j)=some k->k=true:=by
   intro i j xs k U R h;let#[r,B,A]:=map_some h;let#[e,z,u]:=iY B;have hl:i.length=j.length:=U.length.trans R.length.symm
   have t:r=true:=by
    rw[z,Qv];intro m hm;rw[mem_range]at hm;let#[w,o,l]:=U.get (i:=m) (d:=i[m]'⋯) (by simp);let#[C,Y,c]:=R.get (i:=m) (d:=j[m]'⋯) (by simp);rw[o]at Y;cases Y;exact s _ _ w (e m) l c<|u m _ _ (by simp)<|by simp
   rw[<-A,t,hl];simp
  rcases ie h with⟨i,j,rfl,rfl,rfl⟩ | ⟨i,j,rfl,rfl,rfl⟩ | ⟨i,j,rfl,rfl,rfl⟩ | ⟨m,i,j,hn,a,Z,h⟩ | ⟨m,i,j,hn,a,Z,h⟩
  ·have:=bJ O;rw[bJ I]at this;cases this;simp
  ·have:=ay O;rw[ay I]at this;cases this;simp
  ·have:=aR O;rw[aR I]at this;cases this;simp
  ·cases hn;subst a;subst Z;let#[p,xs,rfl,g,U]:=bw O;let#[q,ys,f,b,R]:=bw I;cases f;rw[g]at b;cases b;exact seq i j xs k U R h
  ·cases hn;let#[p,xs,rfl,g,U]:=ky O a;let#[q,ys,f,b,R]:=ky I Z;cases f;cases HP g b;exact seq i j xs k U R h
open SeqAt in
def deep(I:Inv X ag J H s):∀ (n:Nat) (A:Around) (x y:RL.D) (v u:V) (o B:Value) (k:Bool),A.units+n<cLine->Rep nP X.K H x v->Rep nP X.K H y u->RelV v o->RelV u B ->
  RL.i1 n x y=some k->RcAt A s o B k/\EqAt A s o B k:=by
 intro n
 induction n with
 |zero=>
  intro A x y v u o B k hu b a U R h
  rcases ie h with⟨i,j,rfl,rfl,rfl⟩ | ⟨i,j,rfl,rfl,rfl⟩ | ⟨i,j,rfl,rfl,rfl⟩ | ⟨m,i,j,hn,E,C,h⟩ | ⟨m,i,j,hn,E,C,h⟩
  ·rw[bJ b]at U;rw[bJ a]at R;cases U;cases R;exact#[RcAt.bool_bool i j,EqAt.bool_bool i j]
  ·rw[ay b]at U;rw[ay a]at R;let#[t,rfl]:=U;let#[Z,rfl]:=R;exact#[RcAt.int_int i t j Z,EqAt.int_int i t j Z]
  ·rw[aR b]at U;rw[aR a]at R;let#[t,rfl]:=U;let#[Z,rfl]:=R;exact#[RcAt.str_str i t j Z,EqAt.str_str i t j Z]
  ·cases hn
  ·cases hn
 |succ n ih=>
  intro A x y v u o B k hu b a U R h
  rcases ie h with⟨i,j,rfl,rfl,rfl⟩ | ⟨i,j,rfl,rfl,rfl⟩ | ⟨i,j,rfl,rfl,rfl⟩ | ⟨m,i,j,hn,E,C,h⟩ | ⟨m,i,j,hn,E,C,h⟩
  ·rw[bJ b]at U;rw[bJ a]at R;cases U;cases R;exact#[RcAt.bool_bool i j,EqAt.bool_bool i j]
  ·rw[ay b]at U;rw[ay a]at R;let#[t,rfl]:=U;let#[Z,rfl]:=R;exact#[RcAt.int_int i t j Z,EqAt.int_int i t j Z]
  ·rw[aR b]at U;rw[aR a]at R;let#[t,rfl]:=U;let#[Z,rfl]:=R;exact#[RcAt.str_str i t j Z,EqAt.str_str i t j Z]
  ·cases hn;subst E;subst C;let#[p,xs,rfl,e2,G]:=bw b;let#[q,ys,rfl,f2,F]:=bw a;cases U;cases R;let#[bq,r1,t1,z1]:=I.tuple<|ed.of e2;let#[O,r2,t2,z2]:=I.tuple<|ed.of f2;let#[k',h1,M]:=map_some h;let#[e,h3,h4]:=iY h1;have L:i.length=bq.length:=G.length.trans r1.length;have QN:j.length=O.length:=F.length.trans r2.length
   have T:∀ m (g1:m<bq.toArray.size) (g2:m<O.toArray.size),EqAt A.in1 s bq.toArray[m] O.toArray[m]<|e m:=λm g1 g2=>by
    rw[size_toArray]at g1 g2;let#[w,P,N]:=G.get (i:=m) (d:=i[m]'⋯) (by simp);let#[Q,f,c]:=F.get (i:=m) (d:=j[m]'⋯) (by simp);let#[r,b1,b2]:=r1.get P;let#[Y,l,g]:=r2.get f
    have c1:bq.toArray[m]=r:=by simpa using(List.getElem?_eq_some_iff.mp b1).2
    have c2:O.toArray[m]=Y:=by simpa using(List.getElem?_eq_some_iff.mp l).2
    rw[c1,c2];exact(ih A.in1 _ _ w Q r Y (e m) (by show A.units+1+n<cLine;lia) N c b2 g<|h4 m _ _ (by simp)<|by simp).2
   have main:RcAt A s (.ref p) (.ref q) k:=by
    have z:=RcAt.tuples (e:=e) t1 t2 ⋯ T;rw[size_toArray,size_toArray,<-L,<-QN,<-h3,M]at z;exact z
   refine#[main,?_];by_cases z:p=q
   ·subst z;rw[sR (n+1) _ _ _ k b a h];exact EqAt.same _
   ·exact EqAt.of_refs z main
  ·cases hn;let#[p,xs,rfl,e2,G]:=ky b E;let#[q,ys,rfl,f2,F]:=ky a C;cases U;cases R;let#[bq,r1,t1,z1]:=I.list<|.inl e2;let#[O,r2,t2,z2]:=I.list<|.inl f2;let#[k',h1,M]:=map_some h;let#[e,h3,h4]:=iY h1;have L:i.length=bq.length:=G.length.trans r1.length;have QN:j.length=O.length:=F.length.trans r2.length
   have T:∀ m (g1:m<bq.toArray.size) (g2:m<O.toArray.size),EqAt A.in1 s bq.toArray[m] O.toArray[m]<|e m:=λm g1 g2=>by
    rw[size_toArray]at g1 g2;let#[w,P,N]:=G.get (i:=m) (d:=i[m]'⋯) (by simp);let#[Q,f,c]:=F.get (i:=m) (d:=j[m]'⋯) (by simp);let#[r,b1,b2]:=r1.get P;let#[Y,l,g]:=r2.get f
    have c1:bq.toArray[m]=r:=by simpa using(List.getElem?_eq_some_iff.mp b1).2
    have c2:O.toArray[m]=Y:=by simpa using(List.getElem?_eq_some_iff.mp l).2
    rw[c1,c2];exact(ih A.in1 _ _ w Q r Y (e m) (by show A.units+1+n<cLine;lia) N c b2 g<|h4 m _ _ (by simp)<|by simp).2
   have main:RcAt A s (.ref p) (.ref q) k:=by
    by_cases hl:bq.length=O.length
    ·have z:=RcAt.lists (e:=e) t1.isList t2.isList (by rw[size_toArray,size_toArray];exact hl) ⋯ T;rw[size_toArray]at z
     have S:k=(List.range bq.length).all e:=by
      rw[<-M,h3,L,QN,hl];simp
     rw[S];exact z
    ·have S:k=false:=by
      rw[<-M,L,QN];simp[hl]
     rw[S];exact RcAt.lists_lengths t1.isList t2.isList (by rw[size_toArray,size_toArray];simpa using hl) ⋯
   refine#[main,?_];by_cases z:p=q
   ·subst z;rw[sR (n+1) _ _ _ k b a<|by assumption];exact EqAt.same _
   ·exact EqAt.of_refs z main
end rules
section rules
variable{X:Cx}
open SeqAt in
def IZ(I:Inv X ag J H s)(n:Nat)(A:Around)(x y:RL.D)(v u:V)(va ua:Value)(k:Bool)(hu:A.units+n<cLine)(l:Rep nP X.K H x v)(g:Rep nP X.K H y u)(Y:RelV v va)(U:RelV u ua)
 (h:RL.i1 n x y=some k):RcNeAt A s va ua (!k):=by
 rcases ie h with⟨i,j,rfl,rfl,rfl⟩ | ⟨i,j,rfl,rfl,rfl⟩ | ⟨i,j,rfl,rfl,rfl⟩ | ⟨nn,i,j,hn,N,M,h⟩ | ⟨nn,i,j,hn,N,M,h5⟩
 ·rw[bJ l]at Y;rw[bJ g]at U;cases Y;cases U;exact RcNeAt.bool_bool i j
 ·rw[ay l]at Y;rw[ay g]at U;let#[t,rfl]:=Y;let#[L,rfl]:=U;exact RcNeAt.int_int i t j L
 ·rw[aR l]at Y;rw[aR g]at U;let#[t,rfl]:=Y;let#[L,rfl]:=U;exact RcNeAt.str_str i t j L
 ·subst hn;subst N;subst M;let#[p,xs,rfl,e2,r]:=bw l;let#[q,ys,rfl,f2,o]:=bw g;cases Y;cases U;let#[bq,r1,t1,z1]:=I.tuple<|ed.of e2;let#[O,r2,t2,z2]:=I.tuple<|ed.of f2;let#[k',h1,E]:=map_some h;let#[e,T,S]:=iY h1;have C:i.length=bq.length:=r.length.trans r1.length;have B:j.length=O.length:=o.length.trans r2.length
  have Q:∀ m (g1:m<bq.toArray.size) (g2:m<O.toArray.size),EqAt A.in1 s bq.toArray[m] O.toArray[m]<|e m:=λm g1 g2=>by
   rw[size_toArray]at g1 g2;let#[w,G,F]:=r.get (i:=m) (d:=i[m]'⋯) (by simp);let#[QN,a,Z]:=o.get (i:=m) (d:=j[m]'⋯) (by simp);let#[f,b1,b2]:=r1.get G;let#[R,c,b]:=r2.get a
   have c1:bq.toArray[m]=f:=by simpa using(List.getElem?_eq_some_iff.mp b1).2
   have c2:O.toArray[m]=R:=by simpa using(List.getElem?_eq_some_iff.mp c).2
   rw[c1,c2];exact(deep I nn A.in1 _ _ w QN f R (e m) (by show A.units+1+nn<cLine;lia) F Z b2 b<|S m _ _ (by simp)<|by simp).2
  have z:=RcNeAt.tuples (e:=e) t1 t2 ⋯ Q;rw[size_toArray,size_toArray,<-C,<-B,<-T,E]at z;exact z
 ·subst hn;let#[p,xs,rfl,e2,r]:=ky l N;let#[q,ys,rfl,f2,o]:=ky g M;cases Y;cases U;let#[bq,r1,t1,z1]:=I.list<|.inl e2;let#[O,r2,t2,z2]:=I.list<|.inl f2;let#[k',h1,E]:=map_some h5;let#[e,T,S]:=iY h1;have C:i.length=bq.length:=r.length.trans r1.length;have B:j.length=O.length:=o.length.trans r2.length
  have Q:∀ m (g1:m<bq.toArray.size) (g2:m<O.toArray.size),EqAt A.in1 s bq.toArray[m] O.toArray[m]<|e m:=λm g1 g2=>by
   rw[size_toArray]at g1 g2;let#[w,G,F]:=r.get (i:=m) (d:=i[m]'⋯) (by simp);let#[QN,a,Z]:=o.get (i:=m) (d:=j[m]'⋯) (by simp);let#[f,b1,b2]:=r1.get G;let#[R,c,b]:=r2.get a
   have c1:bq.toArray[m]=f:=by simpa using(List.getElem?_eq_some_iff.mp b1).2
   have c2:O.toArray[m]=R:=by simpa using(List.getElem?_eq_some_iff.mp c).2
   rw[c1,c2];exact(deep I nn A.in1 _ _ w QN f R (e m) (by show A.units+1+nn<cLine;lia) F Z b2 b<|S m _ _ (by simp)<|by simp).2
  by_cases hl:bq.length=O.length
  ·have z:=RcNeAt.lists (e:=e) t1.isList t2.isList (by rw[size_toArray,size_toArray];exact hl) ⋯ Q;rw[size_toArray]at z
   have P:k=(List.range bq.length).all e:=by
    rw[<-E,T,C,B,hl];simp
   rw[P];exact z
  ·have P:k=false:=by
    rw[<-E,C,B];simp[hl]
   rw[P];exact RcNeAt.lists_lengths t1.isList t2.isList (by rw[size_toArray,size_toArray];simpa using hl) ⋯
abbrev fN:RL.mu->CmpOp
 | .lt=>.Lt
 | .le=>.LtE
 | .gt=>.Gt
 | .ge=>.GtE
 | .eq=>.Eq
 | .ne=>.NotEq
abbrev zA(K:W.Frag)(c:RL.mu):R2:=λv u H Q=>∃ x y k,Rep nP K H x v/\Rep nP K H y u/\RL.bW c x y=some k/\Q (.bl k) H
def l8{c:RL.mu}(O:c≠.eq)(I:c≠.ne)(h:RL.bW c x y=some k):(∃ i j,x=.int i/\y=.int j)\/c=.le/\∃ i j,x=.str i/\y=.str j:=by
 unfold RL.bW at h;split at h
 ·exact .inl #[_,_,rfl,rfl]
 ·exact .inl #[_,_,rfl,rfl]
 ·exact .inl #[_,_,rfl,rfl]
 ·exact .inl #[_,_,rfl,rfl]
 ·exact .inr #[rfl,_,_,rfl,rfl]
 ·exact absurd rfl O
 ·exact absurd rfl I
 ·cases h
def jM{c:RL.mu}(hu:X.A.units+100<cLine):hE X (compareOp<|fN c) (zA X.K c):=by
 intro ag s J H x y v u Q I U R h;let#[dx,a,k,ex,Y,e,q]:=h
 have O:EP X ag J Q (.bool k) s:=#[.bl k,H,I,rfl,q]
 cases c with
 |eq=>
  have e:=e;exact(deep I 8 X.A dx a x y v u k ⋯ ex Y U R e).1 X.prog X.w X.xe _ O
 |ne=>
  let#[b,f,d]:=map_some (show(RL.i1 8 dx a).map not=some k from e);subst d;exact IZ I 8 X.A dx a x y v u b ⋯ ex Y U R f X.prog X.w X.xe _ O
 |lt=>
  let#[i,j,rfl,rfl]:=(l8 ∅ ∅ e).resolve_right λz=>nomatch z.1
  cases e;rw[ay ex]at U;rw[ay Y]at R;let#[t,rfl]:=U;let#[Z,rfl]:=R;exact lt_int O
 |le=>
  rcases l8 ∅ ∅ e with⟨i,j,rfl,rfl⟩ | ⟨_,i,j,rfl,rfl⟩
  ·cases e;rw[ay ex]at U;rw[ay Y]at R;let#[t,rfl]:=U;let#[Z,rfl]:=R;exact le_int O
  ·cases e;rw[aR ex]at U;rw[aR Y]at R;let#[t,rfl]:=U;let#[Z,rfl]:=R;exact PySem.P.le_str O
 |gt=>
  let#[i,j,rfl,rfl]:=(l8 ∅ ∅ e).resolve_right λz=>nomatch z.1
  cases e;rw[ay ex]at U;rw[ay Y]at R;let#[t,rfl]:=U;let#[Z,rfl]:=R;exact gt_int O
 |ge=>
  let#[i,j,rfl,rfl]:=(l8 ∅ ∅ e).resolve_right λz=>nomatch z.1
  cases e;rw[ay ex]at U;rw[ay Y]at R;let#[t,rfl]:=U;let#[Z,rfl]:=R;exact ge_int O
def kz{c:RL.mu}(b:Expr):behindInMarks (fN c) b=false:=by cases c<;>exact A5 b ∅ ∅
def AD{c:RL.mu}(h:∃ I d,la X.K I J H/\RL.ev cl I (.cmp c a' b')=some d/\∀ H',aB H H'->∃ k,d=.bl k/\Q (.bl k) H'):tOp (zA X.K c) (tE X.K cl a') (tE X.K cl b') J H Q:=by
 let#[I,d,Y,e,k]:=h;let#[x,f,e]:=bind_some e;let#[y,b,e]:=bind_some e;let#[t,g,O]:=map_some e;refine two Y f b λv u j H2 s1 s2 U R _ _=>?_;let#[i,a,Z]:=k H2<|s1.trans s2;rw[a]at O;cases O;exact#[x,y,t,U,R,g,Z]
def sO{c:RL.mu}(e:RL.ev cl QO (.cmp c a' b')=some d):∃ k,d=.bl k:=by
 let#[x,R,e]:=bind_some e;let#[y,O,e]:=bind_some e;let#[t,U,I]:=map_some e;exact#[t,I.symm]
def Ks{c:RL.mu}(hu:X.A.units+100<cLine)(ha:SE X cl a a')(hb:SE X cl b b'):SE X cl (.Compare a [fN c] [b] pos) (.cmp c a' b'):=by
 refine PE.weak (yl (jM hu) ha hb<|kz b) λJ H Q h=>?_;let#[I,d,R,e,k]:=h;let#[t,rfl]:=sO e;exact AD ⟨I,_,R,e,λH' O=>#[t,rfl,k _ _<|gh O]⟩
def J7{c:RL.mu}(hu:X.A.units+100<cLine)(ha:SE X cl a a')(hb:SE X cl b b'):ST X cl (.Compare a [fN c] [b] pos) (.cmp c a' b'):=by
 refine PT.weak (rA (jM hu) ha hb<|kz b) λJ H Q h=>?_;let#[I,k,U,e,q]:=h;let#[d,O,Y]:=bind_some e;let#[t,rfl]:=sO O;cases Y;exact AD ⟨I,_,U,O,λH' R=>#[k,rfl,k,rfl,q H' R]⟩
def Fb{c c':RL.mu}(b e:Expr):lastMarks [fN c,fN c'] [b,e]=false:=by
 exact kz e
def nX{c c':RL.mu}(h:RL.ev cl QO (.chain c c' a' b' e')=some d):∃ k,d=.bl k:=by
 let#[x,Y,h]:=bind_some h;let#[y,U,h]:=bind_some h;let#[t,O,h]:=bind_some h
 cases t with
 |true=>
  let#[z,R,h]:=bind_some (show(RL.ev cl QO e').bind _=some d from h);let#[t,O,I]:=map_some h;exact#[t,I.symm]
 | false=>exact#[false,(Option.some.inj (show some (RL.D.bl false)=some d from h)).symm]
def vR{c c':RL.mu}(h:∃ I k,la X.K I J H/\RL.ev cl I (.chain c c' a' b' e')=some (.bl k)/\∀ H',aB H H'->Q (.bl k) H') :
  vf (zA X.K c) (zA X.K c') (tE X.K cl a') (tE X.K cl b') (tE X.K cl e') J H Q:=by
 let#[I,k,U,h,q]:=h;let#[x,b,h]:=bind_some h;let#[y,a,h]:=bind_some h;let#[t,f,h]:=bind_some h;refine two U b a λv u i H2 s1 s2 Y R _ _=>?_;refine#[x,y,t,Y,R,f,t,rfl,?_];have O:=s1.trans s2
 cases t with
 |true=>
  let#[z,Z,h]:=bind_some h;let#[t,d,e]:=map_some h;cases e;exact gu ⟨I,z,U.same O,Z,λw g r3=>#[y,z,k,R.same r3.same,r3.rep,d,q g<|O.trans r3.same]⟩
 |false=>
  cases h;exact gO<|q H2 O
def DW{c c':RL.mu}(hu:X.A.units+100<cLine)(ha:SE X cl a a')(hb:SE X cl b b')(U:SE X cl e e'):SE X cl (.Compare a [fN c,fN c'] [b,e] pos) (.chain c c' a' b' e'):=by
 refine PE.weak (CU (jM hu) (jM hu) ha hb U<|Fb b e) λJ H Q h=>?_;let#[I,d,R,h,k]:=h;let#[t,rfl]:=nX h;exact vR ⟨I,t,R,h,λH' O=>k _ _<|gh O⟩
def D8{c c':RL.mu}(hu:X.A.units+100<cLine)(ha:SE X cl a a')(hb:SE X cl b b')(Y:SE X cl e e'):ST X cl (.Compare a [fN c,fN c'] [b,e] pos) (.chain c c' a' b' e'):=by
 refine PT.weak (Du (jM hu) (jM hu) ha hb Y<|Fb b e) λJ H Q h=>?_;let#[I,k,U,h,q]:=h;let#[d,O,Z]:=bind_some h;let#[t,rfl]:=nX O;cases Z;exact vR ⟨I,k,U,O,λH' R=>#[k,rfl,q H' R]⟩
end rules
section rules
variable{X:Cx}
def gR{P:Addr->Prop}{K:W.Frag}(h:RL.items d=some ds)(r:Rep P K H d v):∃ p xs,v=.ref p/\((H p=some (.lst xs)/\d=.lst ds)\/(H p=some (.tup xs)/\d=.tup ds)\/((∃ o,H p=some (.cy o<|.lst xs))/\d=.fL ds))/\ab P K H ds xs:=by
 cases d<;>simp only[RL.items]at h<;>first | (cases h;done) | skip
 case lst ys=>cases h;let#[p,xs,R,_,O,I]:=bb r;exact#[p,xs,R,.inl #[O,rfl],I]
 case tup ys=>cases h;let#[p,xs,R,O,I]:=bw r;exact#[p,xs,R,.inr<|.inl #[O,rfl],I]
 case fL ys=>cases h;rw[Rep]at r;let#[p,o,xs,R,O,I]:=r;exact#[p,xs,R,.inr<|.inr #[#[o,O],rfl],I]
def xT{P:Addr->Prop}{K:W.Frag}(h:RL.flat d=true)(r:Rep P K H d v):gY v=true/\∀ I R,RL.flat I=true->Rep P K H I R->RL.tk d I=pk v R:=by
 cases d<;>simp only[RL.flat]at h<;>first | (cases h;done) | skip
 case int i =>
  rw[ay r];refine#[rfl,λI R h' O=>?_]
  cases I<;>simp only[RL.flat]at h'<;>first | (cases h';done) | skip
  case int j=>rw[ay O];simp[RL.tk,pk]
  case str j=>rw[aR O];simp[RL.tk,pk]
 case str i =>
  rw[aR r];refine#[rfl,λI R h' O=>?_]
  cases I<;>simp only[RL.flat]at h'<;>first | (cases h';done) | skip
  case int j=>rw[ay O];simp[RL.tk,pk]
  case str j=>rw[aR O];simp[RL.tk,pk]
def uW{P:Addr->Prop}{K:W.Frag}(I:RL.flat d=true)(r:Rep P K H d v):∀ {ds:List RL.D} {xs:List V},ds.all RL.flat=true->ab P K H ds xs->xs.all gY=true/\(ds.any λx=>RL.tk x d)=z4 v xs
 | [],xs,_,h=>by rw[ab]at h;subst h;exact#[rfl,rfl]
 | e::t,xs,ha,h=>by
  let#[x,ys,rfl,a,Z]:=h;rw[Qz,and_eq_true]at ha;let#[Y,U]:=uW I r ha.2 Z;let#[R,O]:=xT ha.1 a;refine#[by rw[Qz,R,Y];rfl,?_];rw[any_cons,U,O d v I r];rfl
def C0:hE X (compareOp (if neg then .NotIn else .In)) (rIn X.K neg):=by
 cases neg with
 | true=>exact uJ
 | false=>exact Ct
def AN(Y:la X.K QO J H)(e:RL.ev cl QO (.o4 neg a' b')=some d)(k:∀ t H',d=.bl t->aB H H'->Q (.bl t) H'):tOp (rIn X.K neg) (tE X.K cl a') (tE X.K cl b') J H Q:=by
 let#[x,g,e]:=bind_some e;let#[y,f,e]:=bind_some e;let#[t,j,i]:=map_some e;let#[ds,h,O]:=bind_some j;by_cases I:(RL.flat x&&ds.all RL.flat)=true
 ·rw[if_pos I]at O;cases O;rw[and_eq_true]at I;refine two Y g f λv u l H2 s1 s2 R U _ _=>?_;let#[p,xs,rfl,a,Z]:=gR h U;let#[c,b]:=uW I.1 R I.2 Z;refine#[p,xs,rfl,?_,(xT I.1 R).1,c,?_]
  ·rcases a with⟨z,_⟩ | ⟨z,_⟩ | ⟨⟨o,z⟩,_⟩
   ·exact .inl<|dz.of z
   ·exact .inr<|ed.of z
   ·exact .inl<|.inl<|.inr #[o,z]
  ·refine k _ _ ?_<|s1.trans s2;rw[<-i,b]
 ·rw[if_neg I]at O;cases O
abbrev oE:Expr->Bool
 | .Set _ _ _=>false
 | _=>true
def j4(h:oE b=true):behindInMarks op b=false:=by
 cases b<;>first | rfl | (cases h)
def Jy(ha:SE X cl a a')(hb:SE X cl b b')(hm:oE b=true):SE X cl (.Compare a [if neg then .NotIn else .In] [b] pos) (.o4 neg a' b'):=by
 refine PE.weak (yl C0 ha hb<|j4 hm) λJ H Q h=>?_;let#[I,d,R,e,q]:=h
 exact AN R e λt H' hd O=>by subst hd;exact q _ _<|gh O
def J5(ha:SE X cl a a')(hb:SE X cl b b')(hm:oE b=true):ST X cl (.Compare a [if neg then .NotIn else .In] [b] pos) (.o4 neg a' b'):=by
 refine PT.weak (rA C0 ha hb<|j4 hm) λJ H Q h=>?_;let#[I,k,R,e,q]:=h;let#[d,Y,U]:=bind_some e;refine AN R Y λt H' hd O=>?_;subst hd;cases U;exact#[_,rfl,q _ O]
abbrev ru(K:W.Frag)(cl:RL.Cl)(f:Nat):Sp:=λvs H Q _=>∃ ds d,ab nP K H ds vs/\cl f ds=some d/\∀ v H',aB H H'->Rep (λp=>H p≠none) K H' d v->Q v H'
def Ht(F:dt X.prog X.w X.K X.mg X.base ml k fa fd ps (ru X.K cl f))(c:bS k X.A)(l:Gl X x)
 (hm:X.mg x=some (.ref fa))(i:W.keepIn X.K (.ref fa)=true)(hb:Binds X.K fd ps [])(n:vp X cl (e::es) (.cons e' z5))(Y:(x == ("__debug__" : Str))=false)(hn:noStar e=true)(U:es.all noStar=true) :
  SE X cl (.Call (.Name x p) (e::es) [] pos) (.call f<|.cons e' z5):=by
 refine PE.weak (mK F c l hm i hb .nil hG n Y (aP es hn)<|dG U) λJ H Q h=>?_;let#[R,d,b,ev,q]:=h;let#[ds,O,I]:=bind_some ev;refine#[R,ds,b,O,λvs Z s1 r1=>?_];show ru X.K cl f (vs++[]) Z Q E0;rw[append_nil];refine#[ds,d,r1,I,λv H2 s2 r2=>q v H2 #[s1.trans s2,r2.none,λ_ m a z=>?_,λM _ P r _=>?_]]
 ·subst z
  have j:Z a=none:=by
   cases d with
   | lst ds=>let#[p,xs,O,I,_]:=bb r2;cases O;exact Classical.byContradiction I
   | dK ks ds=>rw[Rep]at r2;let#[p,xs,O,I,_]:=r2;cases O;exact Classical.byContradiction I
   | b0 d ps qs=>rw[Rep]at r2;let#[p,C,dx,ap,af,x,xs,ys,O,I,_]:=r2;cases O;exact Classical.byContradiction I
   | _=>cases m
  exact s1.free j
 ·refine r2.weak λa z=>?_;let#[o,g]:=Option.ne_none_iff_exists'.mp<|r a z;rw[s1 _ _ g]
  exact λq=>nomatch q
end rules
abbrev Off(P:Addr->Prop)(H H':Hp):Prop:=∀ b o,¬ P b->H b=some o->H' b=some o
def Off.same{H H':Hp}(h:aB H H'){P:Addr->Prop}:Off P H H':=λb o _ e=>h b o e
mutual
theorem Rep.off{P:Addr->Prop}{K:W.Frag}{H H':Hp}(hm:∀ b o,P b->H b=some o->d6 o)(k:Off P H H'):∀ {d:RL.D} {v:V},Rep P K H d v->Rep P K H' d v
 | .cb,v,h=>by simpa[Rep]using h
 | .bl _,v,h=>by simpa[Rep]using h
 | .int _,v,h=>by simpa[Rep]using h
 | .str _,v,h=>by simpa[Rep]using h
 | .tup ds,v,h=>by
  rw[Rep]at h ⊢;let#[b,xs,R,I,O]:=h;have n:¬ P b:=λp=>hm b _ p I;exact#[b,xs,R,k _ _ n I,ab.off hm k O]
 | .lst ds,v,h=>by
  rw[Rep]at h ⊢;let#[b,xs,R,U,I,O]:=h;exact#[b,xs,R,U,k _ _ U I,ab.off hm k O]
 | .dK ks ds,v,h=>by
  rw[Rep]at h ⊢;let#[b,xs,R,U,I,Y,O]:=h;exact#[b,xs,R,U,k _ _ U I,Y,ab.off hm k O]
 | .lq ds,v,h=>by
  rw[Rep]at h ⊢;let#[b,xs,R,I,O]:=h;refine#[b,xs,R,?_,ab.off hm k O];rcases I with⟨q,I⟩ | I
  ·have n:¬ P b:=λp=>hm b _ p I;exact .inl #[q,k _ _ n I]
  ·exact .inr I
 | .obj,v,h=>by rw[Rep]at h ⊢;exact h
 | .exc c,v,h=>by
  rw[Rep]at h ⊢;exact h.keep λb Z u q=>k _ _ (λp=>hm b _ p q) q
 | .fL ds,v,h=>by
  rw[Rep]at h ⊢;let#[b,Z,xs,R,I,O]:=h;exact#[b,Z,xs,R,k _ _ (λp=>hm b _ p I) I,ab.off hm k O]
 | .fK ks ds,v,h=>by
  rw[Rep]at h ⊢;let#[b,Z,xs,R,I,Y,O]:=h;exact#[b,Z,xs,R,k _ _ (λp=>hm b _ p I) I,Y,ab.off hm k O]
 | .hd ds,v,h=>by
  rw[Rep]at h ⊢;let#[b,C,dx,xs,R,I,Y,O]:=h;exact#[b,C,dx,xs,R,k _ _ (λp=>hm b _ p I) I,Y,ab.off hm k O]
 | .b0 d ps qs,v,h=>by
  rw[Rep]at h ⊢;let#[b,C,dx,ap,af,x,xs,ys,R,U,I,a,O,f,e]:=h;exact#[b,C,dx,ap,af,x,xs,ys,R,U,k _ _ U I,a,Rep.off hm k O,ab.off hm k f,ab.off hm k e]
theorem ab.off{P:Addr->Prop}{K:W.Frag}{H H':Hp}(hm:∀ b o,P b->H b=some o->d6 o)(k:Off P H H'):∀ {ds:List RL.D} {xs:List V},ab P K H ds xs->ab P K H' ds xs
 | [],xs,h=>by rw[ab]at h ⊢;exact h
 | d::r,xs,h=>by
  rw[ab]at h ⊢;let#[x,t,R,O,I]:=h;exact#[x,t,R,Rep.off hm k O,ab.off hm k I]
end
structure lH(K:W.Frag)(QN:L2.It)(ds:List RL.D)(P:Addr->Prop)(H:Hp):Prop where
 go:∀ H' i,Off P H H'->i<ds.length->QN.go i H'
 stop:∀ H',Off P H H'->QN.stop ds.length H'
 n7:∀ H' i d x H2,Off P H H'->ds[i]?=some d->QN.n7 i H' x H2->aB H' H2/\(d.ax=true\/aB H H'->Rep nP K H2 d x)
abbrev EW(K:W.Frag)(I:RL.St)(J:L2.St)(H:Hp)(it:RL.It)(QN:L2.It)(ds:List RL.D)(O:Hp):Prop :=
 lH K QN ds nP O/\∀ (M:List Nat) (P:Addr->Prop),RL.E6 M it=true->(∀ b,P b->∃ o,H b=some o/\d6 o)->(∀ (j:Nat) (dj:RL.D) (vj:V),M.contains j=false->I[j]?=some (some dj)->J[j]?=some (some vj)->Rep P K H dj vj)->lH K QN ds P O
abbrev tI(K:W.Frag)(cl:RL.Cl)(it:RL.It):TI:=λJ H R=>∃ I ds,la K I J H/\RL.cN cl I it=some ds/\∀ QN O,aB H O->EW K I J H it QN ds O->R QN O
abbrev SI(X:Cx)(cl:RL.Cl)(tg iter:Expr)(it:RL.It):Prop:=PI X tg iter<|tI X.K cl it
def PI.weak{X:Cx}{tg iter:Expr}{t t':TI}(h:PI X tg iter t)(w:∀ J H R,t' J H R->t J H R):PI X tg iter t':=λag s J H R I q=>h ag s J H R I<|w J H R q
def l9{K:W.Frag}{P:Addr->Prop}{H H':Hp}{d:RL.D}{v:V}(hm:∀ b o,P b->H b=some o->d6 o)(k:Off P H H')(r:Rep nP K H d v)(i:d.ax=true):Rep nP K H' d v :=
 ((r.ax i).off hm k).ax i
def yc{K:W.Frag}{H:Hp}{a:Addr}{ds:List RL.D}{xs:List V}{P:Addr->Prop}(h:H a=some (.lst xs))(r:ab nP K H ds xs)(I:¬ P a)(hm:∀ b o,P b->H b=some o->d6 o):lH K (Itl K a) ds P H where
 go:=λH' i k hi=>by
  let#[x,e,_]:=r.get (i:=i) (d:=ds[i]) (by simp[]);exact#[xs,x,dz.of<|k _ _ I h,e]
 stop:=λH' k=>#[xs,dz.of<|k _ _ I h,by rw[r.length];exact Qc _]
 n7:=λH' i d x H2 k e y=>by
  let#[z,y]:=y;subst z;have U:=y xs<|dz.of<|k _ _ I h;let#[Y,R,O]:=r.get e;rw[U]at R;cases R;refine#[aB.refl _,λq=>?_];rcases q with q | q
  ·exact l9 hm k O q
  ·exact O.same q
def BK{K:W.Frag}{H:Hp}{a:Addr}{ds:List RL.D}{xs:List V}{P:Addr->Prop}(h:H a=some (.cy o<|.lst xs))(r:ab nP K H ds xs)(hm:∀ b o,P b->H b=some o->d6 o):lH K (Itl K a) ds P H:=by
 have kp:∀ H',Off P H H'->dz K H' a xs:=λH' k=>by
  exact .inl (.inr #[o,k _ _ (λp=>hm a _ p h) h])
 exact {
  go:=λH' i k hi=>by
   let#[x,e,_]:=r.get (i:=i) (d:=ds[i]) (by simp[]);exact#[xs,x,kp _ k,e]
  stop:=λH' k=>#[xs,kp _ k,by rw[r.length];exact Qc _]
  n7:=λH' i d x H2 k e y=>by
   let#[z,y]:=y;subst z;have R:=y xs<|kp _ k;let#[U,O,I]:=r.get e;rw[R]at O;cases O;refine#[aB.refl _,λq=>?_];rcases q with q | q
   ·exact l9 hm k I q
   ·exact I.same q }
def A4{K:W.Frag}{H:Hp}{a:Addr}{ds:List RL.D}{xs:List V}{P:Addr->Prop}(h:H a=some (.tup xs))(r:ab nP K H ds xs)(hm:∀ b o,P b->H b=some o->d6 o):lH K (Itt K a) ds P H:=by
 have I:¬ P a:=λp=>hm a _ p h
 exact {
  go:=λH' i k hi=>by
   let#[x,e,_]:=r.get (i:=i) (d:=ds[i]) (by simp[]);exact#[xs,x,ed.of<|k _ _ I h,e]
  stop:=λH' k=>#[xs,ed.of<|k _ _ I h,by rw[r.length];exact Qc _]
  n7:=λH' i d x H2 k e y=>by
   let#[z,y]:=y;subst z;have U:=y xs<|ed.of<|k _ _ I h;let#[Y,R,O]:=r.get e;rw[U]at R;cases R;refine#[aB.refl _,λq=>?_];rcases q with q | q
   ·exact l9 hm k O q
   ·exact O.same q }
def pz:∀ (n:Nat) (lo:Int) (i:Nat) (d:RL.D),(RL.dS lo n)[i]?=some d->d=.int (lo+i)
 | 0,lo,i,d,h=>by simp[RL.dS]at h
 | n+1,lo,0,d,h=>by simp[RL.dS]at h;simp[h]
 | n+1,lo,i+1,d,h=>by
  rw[pz n (lo+1) i d h];congr 1;lia
def lr:∀ (n:Nat) (lo:Int),(RL.dS lo n).length=n
 | 0,_=>rfl
 | n+1,lo=>by rw[RL.dS,length_cons,lr n]
def pN{K:W.Frag}{H:Hp}{lo:Int}{n:Nat}{P:Addr->Prop}:lH K (Itr lo n) (RL.dS lo n) P H where
 go:=λH' i k hi=>by rw[lr]at hi;exact hi
 stop:=λH' k=>by rw[lr];exact Qc _
 n7:=λH' i d x H2 k e y=>by
  let#[z,y]:=y;subst z;refine#[aB.refl _,λ_=>?_];rw[pz n lo i d e,y];exact bC
section rules
variable{X:Cx}{cl:RL.Cl}{tg a b l:Expr}{a' b' e':RL.E}{pos p:Pos}
def Ng{t t':TE}{l:Expr}(hl:PE X l t):PI X tg l (λJ H R=>t J H λx U=>(∃ a,x=.ref a/\(∃ xs,dz X.K U a xs)/\R (Itl X.K a) U)\/(∃ a,x=.ref a/\(∃ xs,ed X.K U a xs)/\R (Itt X.K a) U)):=by
 intro ag s J H R I h;refine cg (hl ag s J H _ I h) λv s1 Z=>x2_2 Z λx U O r1 d=>?_
 rcases d with⟨a,e,⟨xs,Y⟩,q⟩ | ⟨a,e,⟨xs,Y⟩,q⟩
 ·subst e;cases r1;let#[bq,c,p,f]:=O.list Y;refine wpAny_pyIter_list p.isList ⟨s1.heap.objs.size,[s1.heap.objs.size],_,_,U,rfl,O.kept λb o e=>Qb _ e,Bx a _,⟨_,Qf _ rfl,rfl,rfl⟩,λb hb=>?_,q⟩;rw[show b=s1.heap.objs.size by simpa using hb];exact O.sH (Qc _)<|O.b9.fresh<|Qc _
 ·subst e;cases r1;let#[bq,c,p,f]:=O.tuple Y;refine wpAny_pyIter_tuple (show s1.heap.IsTuple a bq.toArray from p) ⟨s1.heap.objs.size,[s1.heap.objs.size],_,_,U,rfl,O.kept λb o e=>Qb _ e,Am a _,⟨_,Qf _ rfl,rfl,rfl⟩,λb hb=>?_,q⟩;rw[show b=s1.heap.objs.size by simpa using hb];exact O.sH (Qc _)<|O.b9.fresh<|Qc _
def BI{I:RL.St}{J:L2.St}{H c:Hp}{d:RL.D}{v:V}{M:List Nat}{P:Addr->Prop}(r1:Res X.K I J H e' d v c)(z:(RL.kd M e' || RL.aI e')=true)(R:∀ b,P b->∃ o,H b=some o/\d6 o)
 (av:∀ (j:Nat) (dj:RL.D) (vj:V),M.contains j=false->I[j]?=some (some dj)->J[j]?=some (some vj)->Rep P X.K H dj vj):∀ ds a,d=.lst ds->v=.ref a->¬ P a:=by
 intro ds a hd U;subst hd U;rw[or_eq_true]at z;rcases z with z | z
 ·let#[p,xs,Z,Y,_]:=bb (r1.av M z P (λb q=>by let#[o,O,_]:=R b q;rw[O];exact λz=>nomatch z) av);cases Z;exact Y
 ·intro q;let#[o,O,_]:=R a q;rw[r1.fresh z rfl a rfl]at O;cases O
def gc{P:Addr->Prop}{H I:Hp}(s:aB H I)(R:∀ b,P b->∃ o,H b=some o/\d6 o):∀ b o,P b->I b=some o->d6 o:=λb o q e=>by
 let#[o',O,m]:=R b q;rw[s _ _ O]at e;cases e;exact m
def jg{I:Hp}:∀ b o,nP b->I b=some o->d6 o:=λb o q=>q.elim
def La(hl:SE X cl l e')(g:True):PI X tg l (λJ H R=>∃ O d ds,la X.K O J H/\RL.ev cl O e'=some d/\RL.mh d=some ds/\∀ QN b,aB H b->EW X.K O J H (.seq e') QN ds b->R QN b):=by
 refine PI.weak (Ng (t':=tE X.K cl e') hl) λJ H R h=>?_;let#[O,d,ds,c,e,a,k]:=h;refine#[O,d,c,e,λv b r1=>?_]
 cases d with
 |fL es=>
  cases a;have r:=r1.rep;let#[p,f,xs,rfl,I,Y]:=r;exact .inl #[p,rfl,#[xs,.inl<|.inr #[f,I]],k _ _ r1.same #[BK I Y jg,λM P z Z av=>BK I Y<|gc r1.same Z]]
 |lst es=>
  let#[p,xs,rfl,I,Y]:=gR (show RL.items (.lst es)=some ds from a) r1.rep
  rcases I with⟨I,U⟩ | ⟨I,U⟩ | ⟨I,U⟩
  ·cases U;exact .inl #[p,rfl,#[xs,dz.of I],k _ _ r1.same #[yc I Y (λz=>z) jg,λM P z Z av=>yc I Y (BI r1 z Z av _ _ rfl rfl)<|gc r1.same Z]]
  ·cases U
  ·cases U
 |tup es=>
  let#[p,xs,rfl,I,Y]:=gR (show RL.items (.tup es)=some ds from a) r1.rep
  rcases I with⟨I,U⟩ | ⟨I,U⟩ | ⟨I,U⟩
  ·cases U
  ·exact .inr #[p,rfl,#[xs,ed.of I],k _ _ r1.same #[A4 I Y jg,λM P z Z av=>A4 I Y<|gc r1.same Z]]
  ·cases U
 | _=>cases a
def qv{x y:RL.D}{ds:List RL.D}(h:RL.eu x y=some ds):∃ i j:Int,x=.int i/\y=.int j/\(-(2 ^ 62)<=i/\i<2 ^ 62/\-(2 ^ 62)<=j/\j<2 ^ 62)/\(j-i).toNat<=RL.most/\ds=RL.dS i (j-i).toNat:=by
 have no:∀ {o:Option (List RL.D)},o=none->o=some ds->False:=λe h=>by rw[e]at h;cases h
 cases x with
 | int i=>cases y with
  |int j=>
   let#[I,e]:=bO h
   have lo:-(2 ^ 62:Int)<=-(2 ^ 60):=by decide
   have hi:(2 ^ 60:Int)<2 ^ 62:=by decide
   exact#[i,j,rfl,rfl,#[Int.le_trans lo I.2.1,Int.lt_trans I.2.2.1 hi,Int.le_trans lo I.2.2.2.1,Int.lt_trans I.2.2.2.2 hi],I.1,e]
  | _=>exact(no rfl h).elim
 | _=>exact(no rfl h).elim
def GQ(Y:Gl X "range")(hm:X.mg "range" = none)(ha:SE X cl a a')(hn:noStar a=true):SI X cl tg (.Call (.Name "range" p) [a] [] pos) (.dd a'):=by
 refine PI.weak (BM Y hm (bK ha df hn)<|aP [] hn) λJ H R h=>?_;let#[I,ds,O,e,k]:=h;let#[x,Z,e]:=bind_some e;let#[i,j,b,rfl,hb,_,rfl]:=qv e;cases b;refine#[I,[.int j],O,by rw[RL.c0,Z];rfl,λvs c s1 r1=>?_];let#[v,t,rfl,r2,r3]:=r1;subst r3;refine#[j,by rw[ay r2],hb.2.2.1,hb.2.2.2,?_]
 have U:(j-0).toNat=j.toNat:=by simp
 rw[U]at k;exact k _ _ s1 ⟨pN,λ_ _ _ _ _=>pN⟩
def Hr(c:Gl X "range")(hm:X.mg "range" = none)(ha:SE X cl a a')(hb:SE X cl b b')(hn:noStar a=true)(I:noStar b=true):SI X cl tg (.Call (.Name "range" p) [a,b] [] pos) (.ez a' b'):=by
 refine PI.weak (Cv c hm (bK ha (bK hb df I) hn) (by rw[aP _ hn,aP _ I];rfl)<|aP [] I) λJ H R h=>?_;let#[O,ds,U,e,k]:=h;let#[x,f,e]:=bind_some e;let#[y,d,e]:=bind_some e;let#[i,j,rfl,rfl,hb,_,rfl]:=qv e;refine#[O,[.int i,.int j],U,by rw[RL.c0,f,RL.c0,d];rfl,λvs g s1 r1=>?_];let#[v,t,rfl,r2,r3]:=r1;let#[u,t,rfl,Z,Y]:=r3;subst Y;exact#[i,j,by rw[ay r2,ay Z],hb,k _ _ s1 #[pN,λ_ _ _ _ _=>pN]]
end rules
end RS
namespace L2
open PySem PySem.Spec PyProof.Rows
abbrev jv(ifs:List Expr)(env:Env):Sem Bool:=forIn ifs true λc r=>if r=true then do let ok <- isTrue c env (eval c env);pure (ForInStep.yield ok)else pure (ForInStep.yield r)
section
def Jk(h:wpAny M A m P (λ_ _=>False) s):wpAny M A m P E s :=
 wpAny_mono h (λ_ _ q=>q) λ_ _ z=>z.elim
def eO(h:wpAny M A m (λa s1=>wpAny M A (k a) P E s1) (λ_ _=>False) s):wpAny M A (m >>= k) P E s:=J2<|Jk h
end
section
abbrev sT(prog:Program)(w:World)(A:Around)(elt tg:Expr)(ifs:List Expr)(it I:Value)(env:Env)(stop next:Shared->Prop)(s:Shared):Prop :=
 wpAny (model prog w) A (pyNext it) (λr s1=>match r with
  | none=>stop s1
  | some v=>wpAny (model prog w) A (letOwnedTupleGo tg it v) (λ_ s2=>wpAny (model prog w) A (assign tg env v) (λ_ Y=>wpAny (model prog w) A (jv ifs env) (λok O =>
     if ok=true then wpAny (model prog w) A (eval elt env) (λx U=>wpAny (model prog w) A (call (.builtin "list.append") [I,x]) (λ_ R=>next R) (λ_ _=>False) U) (λ_ _=>False) O
     else next O) (λ_ _=>False) Y) (λ_ _=>False) s2) (λ_ _=>False) s1) (λ_ _=>False) s
def Ek(h:sT prog w A elt tg ifs it acc env stop next s) :
  wpAny (model prog w) A (compTurn (.ListComp elt [⟨tg,iter,ifs,0⟩] scope pos) 0 it acc env) (λI s'=>match I with
   | .done f=>f=.next/\stop s'
   | .again c=>c=.compLoop (.ListComp elt [⟨tg,iter,ifs,0⟩] scope pos) 0 it acc env/\next s') E s:=by
 apply J2;apply wpAny_standAt;apply eO;refine cg h λr s1 R=>?_
 cases r with
 |none=>
  apply Qa;exact#[rfl,R]
 |some v=>
  apply eO;refine cg R λ_ s2 a=>?_;apply eO;refine cg a λ_ g Z=>?_;apply eO;refine cg Z λok e O=>?_;cases ok
  ·apply Qa;exact#[rfl,O]
  ·apply J2;apply eO;refine cg O λx d Y=>?_;apply eO;refine cg Y λ_ b U=>?_;apply Qa;apply Qa;exact#[rfl,U]
def AL(I:Nat->Shared->Prop)(turn:∀ n s,I n s->sT prog w A elt tg ifs it acc env (R<|.ok .next) (λs'=>∃ m,m<n/\I m s') s)
 (n:Nat)(h:I n s):codeAny (model prog w) A (.compLoop (.ListComp elt [⟨tg,iter,ifs,0⟩] scope pos) 0 it acc env) R s :=
 codeAny_loop rfl I (λn s U=>wpAny_noted (cg (Ek<|turn n s U) λO s' q=>by
  cases O with
  |done f=>
   let#[rfl,q]:=q;exact q
  | again c=>exact q)) n h
end
def nE:∀ (names:List (Str × NameKind)) (n:Nat) (I:List (Str × Addr)) (x:Str) (c:Addr),(cellsFrom n names I).lookup x=some c->(I.lookup x=some c/\(x,NameKind.cell)∉names)\/(n<=c/\(x,NameKind.cell)∈names)
 | [],n,I,x,c,h=>.inl #[h,by simp]
 | (nm,k)::r,n,I,x,c,h=>by
  unfold cellsFrom at h;by_cases O:(k == NameKind.cell)=true
  ·rw[if_pos O]at h
   have R:k=.cell:=by simpa using O
   subst R
   rcases nE r (n+1) ((nm,n)::I) x c h with⟨a,b⟩ | ⟨a,b⟩
   ·rw[Qn]at a
    cases hx:x == nm with
    |true=>
     rw[hx]at a;cases a
     have:x=nm:=by simpa using hx
     subst this;exact .inr #[Qc _,Qq ..]
    |false=>
     rw[hx]at a;refine .inl #[a,λz=>?_];rcases List.mem_cons.mp z with z | z
     ·cases z;simp at hx
     ·exact b z
   ·exact .inr #[Nat.le_of_succ_le a,Qm _ b]
  ·rw[if_neg O]at h
   rcases nE r n I x c h with⟨a,b⟩ | ⟨a,b⟩
   ·refine .inl #[a,λz=>?_];rcases List.mem_cons.mp z with z | z
    ·cases z;exact O<|by simp
    ·exact b z
   ·exact .inr #[a,Qm _ b]
def rX:∀ (names:List (Str × NameKind)) (n:Nat) (I:List (Str × Addr)) (x:Str),(x,NameKind.cell)∉names->(cellsFrom n names I).lookup x=I.lookup x
 | [],n,I,x,_=>rfl
 | (nm,k)::r,n,I,x,h=>by
  have R:=λz=>h<|Qm _ z;unfold cellsFrom;by_cases O:(k == NameKind.cell)=true
  ·rw[if_pos O,rX r (n+1) _ x R,Qn]
   have U:k=.cell:=by simpa using O
   subst U
   have:(x == nm)=false:=by
    rw[beq_eq_false_iff_ne];intro z;subst z;exact h (Qq ..)
   rw[this]
  ·rw[if_neg O];exact rX r n I x R
def uZ:∀ (names:List (Str × NameKind)) (n:Nat) (I:List (Str × Addr)),(∀ x c,I.lookup x=some c->c<n)->(∀ x y c,I.lookup x=some c->I.lookup y=some c->x=y)->∀ x y c,(cellsFrom n names I).lookup x=some c->(cellsFrom n names I).lookup y=some c->x=y
 | [],n,I,_,hi,x,y,c,h1,h2=>hi x y c h1 h2
 | (nm,k)::r,n,I,hl,hi,x,y,c,h1,h2=>by
  unfold cellsFrom at h1 h2;by_cases U:(k == NameKind.cell)=true
  ·rw[if_pos U]at h1 h2;refine uZ r (n+1) ((nm,n)::I) (λx c e=>?_) (λx y c R O=>?_) x y c h1 h2
   ·rw[Qn]at e
    cases hx:x == nm with
    | true=>rw[hx]at e;cases e;exact Nat.lt_succ_self _
    | false=>rw[hx]at e;exact Nat.lt_succ_of_lt<|hl x c e
   ·rw[Qn]at R O
    cases hx:x == nm with
    |true=>
     rw[hx]at R;cases R
     cases hy:y == nm with
     |true=>
      have a:x=nm:=by simpa using hx
      have b:y=nm:=by simpa using hy
      rw[a,b]
     |false=>
      rw[hy]at O;exact absurd (hl y n O)<|QK _
    |false=>
     rw[hx]at R
     cases hy:y == nm with
     |true=>
      rw[hy]at O;cases O;exact absurd (hl x n R)<|QK _
     |false=>
      rw[hy]at O;exact hi x y c R O
  ·rw[if_neg U]at h1 h2;exact uZ r n I hl hi x y c h1 h2
def rS:∀ (names:List (Str × NameKind)) (h:Heap) (I:List (Str × Addr)) (x:Str) (c:Addr),(cellsFrom h.objs.size names I).lookup x=some c->I.lookup x=some c\/(pushCells h names).IsCell c none
 | [],h,I,x,c,e=>.inl e
 | (nm,k)::r,h,I,x,c,e=>by
  unfold cellsFrom at e;unfold pushCells;by_cases O:(k == NameKind.cell)=true
  ·rw[if_pos O]at e ⊢
   have e':(cellsFrom (h.push { cls:=.type "cell",data:=.cell none }).objs.size r<|(nm,h.objs.size)::I).lookup x=some c:=by rw[QL];exact e
   rcases rS r (h.push { cls:=.type "cell",data:=.cell none }) ((nm,h.objs.size)::I) x c e' with a | a
   ·rw[Qn]at a
    cases hx:x == nm with
    |true=>
     rw[hx]at a;cases a;exact .inr #[_,pushCells_keeps r _ _ _<|Qf _ rfl,rfl]
    |false=>
     rw[hx]at a;exact .inl a
   ·exact .inr a
  ·rw[if_neg O]at e ⊢;exact rS r h I x c e
def Gm{M:Model}{A:Around}{E:Value->Shared->Prop}{s:Shared}{scope:Scope}{globals:Addr}{closure:List (Str × Addr)}{qual:Str}{func:Option Addr}{code:Value}{outer:Env}{builtins:Addr}{Q:Env->Shared->Prop}
 (I:Q (newEnv scope s.heap.objs.size globals (cellsFrom (s.heap.objs.size+1) scope.names closure) qual func code (some outer) builtins) { s with heap:=pushCells (s.heap.push { cls:=.type "dict",data:=.dict (List.toArray []) }) scope.names }) :
  wpAny M A (newFunctionEnv scope globals closure [] qual func code (some outer) builtins) Q E s:=by
 simp only[newFunctionEnv,Option.isSome_some,if_true];refine J2<|wpAny_alloc ?_;refine J2 (wpAny_layCells _ (λname kind cells=>by cases hkc:kind == NameKind.cell<;>simp[]) _ _ _ _ ?_);rw[show({ s with heap:=s.heap.push { cls:=.type "dict",data:=.dict (List.toArray []) } }:Shared).heap.objs.size=s.heap.objs.size+1 from QL ..];refine J2 ?_;exact Qa<|Qa I
abbrev ey(X:Cx)(scope:Scope)(cls:List (Str × Addr))(C:Addr)(fp:List Addr)(s:Shared)(H:Hp):Cx where
 prog:=X.prog
 w:=X.w
 K:=X.K
 mg:=X.mg
 base:=X.base
 A:=X.A
 N:=X.N
 s₀:=s
 H₀:=H
 env:=compEnvC scope cls C X.env
 outer:=X.stack
 stack:=X.stack
 ex:=fp
 fn:=λx=>scope.names.lookup x == some .cell
 calm:=X.calm
 pn:=[]
 xe:=λ_ _=>False
structure hV(scope:Scope)(sc:Scope)(cls:List (Str × Addr))(cells:List (Str × Addr)):Prop where
 kind:scope.kind=.function
 own:∀ x∈scope.names,x.2=.cell->scope.names.lookup x.1=some .cell
 loc:∀ x∈scope.names,x.2=.local->scope.names.lookup x.1=some .local
 sub:∀ x c,cls.lookup x=some c->cells.lookup x=some c
 has:∀ x,scope.names.lookup x=some .free->∃ c,cls.lookup x=some c
 x7:∀ x,scope.names.lookup x=some .free->sc.names.lookup x=some .cell\/sc.names.lookup x=some .free
def cL{env:Env}:∀ {names:List (Str × NameKind)} {x:Str} {k:NameKind},
  (names.map λ(n,k)=>if(k == NameKind.free&&env.scope.kind == .function&&env.kindOf n == some .cell)then(n,NameKind.cell)else(n,k)).lookup x=some k ->
  names.lookup x=some k\/(k=.cell/\names.lookup x=some .free/\env.kindOf x=some .cell)
 | [],x,k,h=>by simp at h
 | (n,k')::r,x,k,h=>by
  have Y:=@cL env r x k;rw[map_cons]at h
  cases hx:x == n with
  |true=>
   have Z:x=n:=by simpa using hx
   subst Z;by_cases I:(k' == NameKind.free&&env.scope.kind == .function&&env.kindOf x == some .cell)=true
   ·simp only[I,if_true]at h;rw[Qn,hx]at h;cases h;simp only[and_eq_true,beq_iff_eq]at I;refine .inr #[rfl,?_,I.2];rw[Qn,hx,I.1.1]
   ·simp only[not_eq_true]at I;simp only[I,false_eq_true,if_false]at h;rw[Qn,hx]at h;cases h;exact .inl<|by rw[Qn,hx]
  |false=>
   have h':(r.map λ(n,k)=>if(k == NameKind.free&&env.scope.kind == .function&&env.kindOf n == some .cell)then(n,NameKind.cell)else(n,k)).lookup x=some k:=by
    by_cases I:(k' == NameKind.free&&env.scope.kind == .function&&env.kindOf n == some .cell)=true
    ·simp only[I,if_true]at h;rw[Qn,hx]at h;exact h
    ·simp only[not_eq_true]at I;simp only[I,false_eq_true,if_false]at h;rw[Qn,hx]at h;exact h
   rcases Y h' with q | ⟨U,R,O⟩
   ·exact .inl<|by rw[Qn,hx];exact q
   ·exact .inr #[U,by rw[Qn,hx];exact R,O]
abbrev Fw(X:Cx)(scope:Scope)(J I:St):Prop:=I.length=J.length/\∀ (i:Nat) (x:Str) (v:V),X.N[i]?=some x->I[i]?=some (some v)->J[i]?=some (some v)/\scope.names.lookup x≠some .local/\scope.names.lookup x≠some .cell
section
def Inv.hxb(I:Inv X ag J H s):HX (ey X scope cls C fp s H):=by
 rcases I.ok.hd.2 with z | ⟨h,o,u,vs,U,R,O⟩
 ·exact .inl z
 ·exact .inr #[h,o,u,vs,U,I.base.jE _ _ _ R,O]
def FK(I:Inv X ag J H s)(S:hV scope X.env.scope cls X.env.cells)(r:∀ b∈fp,kM X ag H b/\b<s.heap.objs.size)(F:Fw X scope J QT)
 (n:h'.Ns s.heap.objs.size (λ_=>none))(g:∀ b o,s.heap.get? b=some o->h'.get? b=some o)(A:∀ x c,(cellsFrom (s.heap.objs.size+1) scope.names cls).lookup x=some c->cls.lookup x=some c\/h'.IsCell c none) :
  Inv (ey X scope (cellsFrom (s.heap.objs.size+1) scope.names cls) s.heap.objs.size fp s H) [] QT H { s with heap:=h',toks:=t }:=by
 have Q:=I.b9.fresh<|Qc _
 have Z:∀ x c,cls.lookup x=some c->c<s.heap.objs.size:=λx c e=>by
  let#[v,q]:=I.cell x c<|S.sub x c e;exact q.lt
 have d:∀ x c,(cellsFrom (s.heap.objs.size+1) scope.names cls).lookup x=some c->(X.env.cells.lookup x=some c/\c<s.heap.objs.size)\/(s.heap.objs.size+1<=c/\scope.names.lookup x=some .cell):=λx c e=>by
  rcases nE _ _ _ _ _ e with⟨a,_⟩ | ⟨a,b⟩
  ·exact .inl #[S.sub x c a,Z x c a]
  ·exact .inr #[a,S.own _ b rfl]
 have Y:∀ x c,cls.lookup x=some c->scope.names.lookup x=some .free->(cellsFrom (s.heap.objs.size+1) scope.names cls).lookup x=some c:=λx c e f=>by
  rw[rX _ _ _ _ λz=>by rw[S.own _ z rfl]at f;cases f];exact e
 refine⟨⟨I.ok.mod,?_,I.ok.glob,I.ok.blt,Qc _,λx y c R U=>uZ _ _ _ (λx c e=>Nat.lt_succ_of_lt<|Z x c e) (λx y c e1 e2=>I.ok.inj x y c (S.sub x c e1)<|S.sub y c e2) x y c R U,λx O=>?_,λx c z e=>?_,⟨I.ok.hd.1,I.hxb⟩,I.ok.frames,.inl rfl,λb hb=>?_,λb o e=>I.bs b o e,Qp I.ok.AB I.sz,λb o e hb=>?_,λb hb=>?_,I.stack,I.yB⟩,
  rfl,I.bare,Un.kept g,⟨_,n,λi x v R U j=>?_⟩,λx c e=>?_,Q,λx c e=>?_,λp P=>absurd P (by simp[ey]),I.b9.kept g,F.1.trans I.len⟩
 ·exact S.kind
 ·have O:=O
  have key:scope.names.lookup x=some .cell\/scope.names.lookup x=some .free:=by
   rcases O with O | O
   ·rcases cL O with q | ⟨_,q,_⟩
    ·exact .inl q
    ·exact .inr q
   ·rcases cL O with q | ⟨q,_⟩
    ·exact .inr q
    ·cases q
  rcases key with q | q
  ·have:=W.cellsFrom_some scope.names (s.heap.objs.size+1) cls<|.inl q;exact Option.isSome_iff_exists.mp this
  ·let#[c,h]:=S.has x q;exact#[c,Y x c h q]
 ·have z:(scope.names.lookup x == some .cell)=true:=z
  rcases nE _ _ _ _ _ (show(cellsFrom (s.heap.objs.size+1) scope.names cls).lookup x=some c from e)with⟨_,b⟩ | ⟨b,_⟩
  ·exact absurd (PySem.mem_of_lookup<|by simpa using z) b
  ·exact Nat.le_of_succ_le b
 ·let#[#[K,E,D,C,B,QN],k]:=r b hb;refine#[Qk k,λx c e=>?_]
  rcases d x c e with⟨a,_⟩ | ⟨a,_⟩
  ·exact B x c a
  ·exact Nat.ne_of_gt<|QA k a
 ·let#[#[K,E,D,C,B,QN],k]:=r b hb;rcases C with z | z
  ·exact I.ok.vU b o e z
  ·exact absurd (Qi (Qg e) I.ok.AB)<|Nat.not_lt.mpr z
 ·let#[#[K,E,D,C,B,QN],k]:=r b hb;intro z;rcases List.mem_cons.mp (I.wm b z)with e | e
  ·exact E e
  ·exact D e
 ·let#[V,G,T]:=F.2 i x v R U;have j:=j
  have key:scope.names.lookup x=some .free:=by
   rcases j with z | z | z
   ·rcases cL z with q | ⟨q,_⟩
    ·exact absurd q G
    ·cases q
   ·rcases cL z with q | ⟨_,q,_⟩
    ·exact absurd q T
    ·exact q
   ·rcases cL z with q | ⟨q,_⟩
    ·exact q
    ·cases q
  let#[c,h]:=S.has x key;have w:=S.sub x c h;let#[m,hn,hl]:=I.loc;have N:vl X.env.scope x:=.inr<|S.x7 x key;let#[u,L,M]:=hl i x v R V N;refine#[u,L,.inr #[?_,c,Y x c h key,?_]]
  ·rcases j with z | z
   ·rcases cL z with q | ⟨q,_⟩
    ·exact absurd q G
    ·cases q
   ·exact z
  ·rcases M with⟨z,_⟩ | ⟨_,c',e',q⟩
   ·have z:X.env.scope.names.lookup x=some .local:=z;rcases S.x7 x key with l | l<;>(rw[z]at l;cases l)
   ·rw[w]at e';cases e';let#[o,g1,g2]:=q;exact#[o,g _ _ g1,g2]
 ·rcases A x c e with a | a
  ·let#[v,q]:=I.cell x c<|S.sub x c a;let#[o,R,U]:=q;exact#[v,o,g _ _ R,U]
  ·exact#[none,a]
 ·rcases d x c e with⟨a,_⟩ | ⟨a,_⟩
  ·exact I.gw x c a
  ·exact I.b9.fresh<|Nat.le_of_succ_le a
abbrev jO(a:TI)(jx:St->St)(g:TG)(tc:TT)(te:TE):TE:=λJ H Q=>a J H λQN Z=>∀ l,Z l=none->∃ W:Nat->Nat->List V->Hp->Prop,(∃ m,W 0 m []<|upd Z l<|.lst []) /\
 ∀ i m ys H2,W i m ys H2->H2 l=some (.lst ys)/\((QN.stop i H2/\Q (.ref l) H2)\/(QN.go i H2/\∀ x Y,QN.n7 i H2 x Y->g x (jx J) Y λI b=>tc I b λk U =>
  if k=true then te I U λy R=>R l=some (.lst ys)/\ys.length<sizeLine/\∃ O,O<m/\W (i+1) O (ys++[y]) (upd R l<|.lst<|ys++[y])else ∃ O,O<m/\W (i+1) O ys U))
structure ub(X:Cx)(scope:Scope)(tg:Expr)(ifs:List Expr)(elt:Expr)(jx:St->St)(g:TG)(tc:TT)(te:TE):Prop where
 htg:∀ cls C fp s H,PG (ey X scope cls C fp s H) tg g
 htc:∀ cls C fp s H ag s' J H' Q,Inv (ey X scope cls C fp s H) ag J H' s'->tc J H' Q->wpAny (model X.prog X.w) X.A (jv ifs<|compEnvC scope cls C X.env) (TP (ey X scope cls C fp s H) ag J Q) (λ_ _=>False) s'
 hte:∀ cls C fp s H,PE (ey X scope cls C fp s H) elt te
 Jg:∀ J:St,J.length=X.N.length->Fw X scope J (jx J)
 Fj:∀ (x:V) (J:St) (H:Hp) (Q:St->Hp->Prop),g x (jx J) H Q->g x (jx J) H λQQ H2=>Q QQ H2/\(jx J).length=QQ.length/\∀ (i:Nat) v,(jx J)[i]?=some (some v)->QQ[i]?=some (some v)
def sW{elt tg iter:Expr}{ifs:List Expr}{pos:Pos}{wi:TI}{jx:St->St}{g:TG}{tc:TT}{te:TE}{Q:VK}{RR:Value->Addr->Result->Shared->Prop}{CM:Cx->Prop}(hc:∀ {ag:List (Addr × Obj)} {J:St} {H:Hp} {s:Shared} (cls:List (Str × Addr)) (C:Addr) (fp:List Addr),Inv X ag J H s->CM (ey X scope cls C fp s H))(S:hV scope X.env.scope cls X.env.cells)
 (hi:PI' CM X tg iter wi)(B:ub X scope tg ifs elt jx g tc te)(I:Inv X ag J H s)(h:jO wi jx g tc te J H Q)
 (hRR:∀ l C H' s',Inv X ag J H' s'->(∃ m,s'.heap.Ns C m)->H' C=none->C≠X.env.locals->X.s₀.heap.objs.size<=C->(∀ x c,X.env.cells.lookup x=some c->c≠C)->(∀ p∈X.pn++ag,p.1≠C)->Q (.ref l) H'->RR (.ref l) C (.ok .next) s') :
  wpAny (model X.prog X.w) X.A (eval iter X.env) (λx s1=>wpAny (model X.prog X.w) X.A (pyIter x) (λit s2=>wpAny (model X.prog X.w) X.A (newList []) (λacc O =>
   wpAny (model X.prog X.w) X.A (newFunctionEnv scope X.env.globals cls [] X.env.qual none .none<|some X.env) (λj M =>
    codeAny (model X.prog X.w) X.A (.compStart (.ListComp elt [⟨tg,iter,ifs,0⟩] scope pos) 0 it acc { j with scope:=relabel scope X.env }) (RR acc j.locals) M) X.xe O) X.xe s2) X.xe s1) X.xe s:=by
 refine cg (hi ag s J H _ I h) λx s1 h1=>cg h1 λitv s2 h2=>?_;let#[it,fp,tn,QN,H2,e,I2,T,L,f2,h3]:=h2;subst e
 have x5:∀ b∈fp,b<s2.heap.objs.size:=λb hb=>by
  let#[o,e,_]:=T.obj _ _ L b hb;exact Qg e
 refine wpAny_newObj_type ?_
 have Y:Inv X ag J (upd H2 s2.heap.objs.size<|.lst []) { s2 with heap:=s2.heap.push { cls:=.type "list",dict:=none,data:=.seq ([]:List Value).toArray } } :=
  I2.laid (t':=s2.toks) (λb u e=>Qb _ e) (Qc _) ⟨zero_le _,[],0,.nil,Qf _ rfl⟩
 have hl2:H2 s2.heap.objs.size=none:=I2.b9.fresh<|Qc _;let#[W,#[m0,w0],turn]:=h3 s2.heap.objs.size hl2
 have f3:∀ b∈fp,kM X ag (upd H2 s2.heap.objs.size<|.lst []) b/\b<(s2.heap.push { cls:=.type "list",dict:=none,data:=.seq ([]:List Value).toArray }).objs.size:=λb hb=>by
  let#[z0,z]:=f2 b hb;refine#[#[?_,z],?_]
  ·rw[aj<|Qk<|x5 b hb];exact z0
  ·rw[QL];exact Nat.lt_succ_of_lt<|x5 b hb
 generalize hs3:({ s2 with heap:=s2.heap.push { cls:=.type "list",dict:=none,data:=.seq ([]:List Value).toArray } }:Shared)=O at Y
 have Z:O.heap=s2.heap.push { cls:=.type "list",dict:=none,data:=.seq ([]:List Value).toArray }:=by rw[<-hs3]
 rw[<-Z]at f3
 have st3:tn 0 O.heap:=T.keep _ _ _ L λb hb o e=>by rw[Z];exact Qb _ e
 refine Gm ?_;have k4:∀ b o,O.heap.get? b=some o->(pushCells (O.heap.push { cls:=.type "dict",data:=.dict (List.toArray []) }) scope.names).get? b=some o:=λb o e=>pushCells_keeps _ _ b o<|Qb _ e;have a:(pushCells (O.heap.push { cls:=.type "dict",data:=.dict (List.toArray []) }) scope.names).Ns O.heap.objs.size (λ_=>none):=(Heap.Ns.new O.heap<|.type "dict").keeps<|pushCells_keeps _ _;have f:∀ x c,(cellsFrom (O.heap.objs.size+1) scope.names cls).lookup x=some c->cls.lookup x=some c\/(pushCells (O.heap.push { cls:=.type "dict",data:=.dict (List.toArray []) }) scope.names).IsCell c none:=λx c e=>rS scope.names (O.heap.push { cls:=.type "dict",data:=.dict (List.toArray []) }) cls x c (by rw[QL];exact e);generalize pushCells (O.heap.push { cls:=.type "dict",data:=.dict (List.toArray []) }) scope.names=h4 at k4 a f
 have I4:Inv (ey X scope (cellsFrom (O.heap.objs.size+1) scope.names cls) O.heap.objs.size fp O<|upd H2 s2.heap.objs.size<|.lst []) [] (jx J) (upd H2 s2.heap.objs.size<|.lst []) { O with heap:=h4 } :=
  FK (t:=O.toks) Y S f3 (B.Jg J I.len) a k4 f
 generalize hs4:({ O with heap:=h4 }:Shared)=M at I4
 have N:M.heap=h4:=by rw[<-hs4]
 generalize hH3:upd H2 s2.heap.objs.size (.lst [])=H3 at Y I4 w0
 have K:tn 0 M.heap:=T.keep _ _ _ st3 λb hb o e=>by rw[N];exact k4 b o e
 have fn4:∀ b∈fp,H3 b=none:=λb hb=>by rw[<-hH3];exact(f3 b hb).1.1
 have U:∀ {H':Hp} {R:St} {s':Shared},Inv (ey X scope (cellsFrom (O.heap.objs.size+1) scope.names cls) O.heap.objs.size fp O H3) [] R H' s'->(∀ b∈fp,H' b=none)->∀ b∈fp,kM (ey X scope (cellsFrom (O.heap.objs.size+1) scope.names cls) O.heap.objs.size fp O H3) [] H' b :=
  λ{H' R s'} QN hn b hb=>#[hn b hb,(QN.ok.exf b hb).1,QN.ok.vY b hb,.inl hb,(QN.ok.exf b hb).2,λp hp=>absurd hp<|by simp[ey]]
 have fin:∀ {H':Hp} {s':Shared},Inv (ey X scope (cellsFrom (O.heap.objs.size+1) scope.names cls) O.heap.objs.size fp O H3) [] (jx J) H' s'->Q (.ref s2.heap.objs.size) H'->RR (.ref s2.heap.objs.size) O.heap.objs.size (.ok .next) s':=λ{H' s'} QN q=>by
  let#[m,hn,_]:=QN.loc
  have J1:Inv X ag J H' s':=Y.EO (s':=s') (ch:=fp) (QN.os.trans rfl) QN.base QN.b9 QN.bare λb hb=>by
   let#[#[g0,g1,g2,g3,g4,g5],_]:=f3 b hb;exact#[g3,g1,g4,g5]
  refine hRR _ _ H' s' J1 ⟨m,hn⟩ QN.free (Nat.ne_of_gt Y.lt) Y.sz (λx c e=>?_) (λp hp=>?_) q
  ·let#[v,z]:=Y.cell x c e;exact Qk z.lt
  ·exact Qk<|Qg (Y.pin p hp).1
 have loop:codeAny (model X.prog X.w) X.A (.compLoop (.ListComp elt [⟨tg,iter,ifs,0⟩] scope pos) 0 (.ref it) (.ref s2.heap.objs.size)<|compEnvC scope (cellsFrom (O.heap.objs.size+1) scope.names cls) O.heap.objs.size X.env)
   (RR (.ref s2.heap.objs.size) O.heap.objs.size) M:=by
  refine AL (λn s'=>∃ i ys H',Inv (ey X scope (cellsFrom (O.heap.objs.size+1) scope.names cls) O.heap.objs.size fp O H3) [] (jx J) H' s'/\tn i s'.heap/\(∀ b∈fp,H' b=none)/\W i n ys H') ?_ m0 ⟨0,[],H3,I4,K,fn4,w0⟩;rintro n s5 ⟨i,ys,H5,I5,G,V,w5⟩;let#[hl5,tr]:=turn i n ys H5 w5
  rcases tr with⟨stop,qn⟩ | ⟨go,step⟩
  ·refine cg (T.done (ey X scope (cellsFrom (O.heap.objs.size+1) scope.names cls) O.heap.objs.size fp O H3) rfl rfl rfl (hc _ _ _ Y) i [] s5 (jx J) H5 (λ_ _=>False) I5 (U I5 V) G stop) λr s6 ⟨hr,I6⟩=>?_;subst hr;exact fin I6 qn
  ·refine cg (T.item (ey X scope (cellsFrom (O.heap.objs.size+1) scope.names cls) O.heap.objs.size fp O H3) rfl rfl rfl (hc _ _ _ Y) i [] s5 (jx J) H5 (λ_ _=>False) I5 (U I5 V) G go) λr s6 ⟨u,hr,h6⟩=>?_;subst hr;refine cg h6 λ_ s7 ⟨x,H7,I7,r7,y7,E,fr7⟩=>?_;have I7':=I7.pinned (U I7 fr7) (T.obj _ _ E)
   have back:∀ {R:St} {H':Hp} {s':Shared},Inv (ey X scope (cellsFrom (O.heap.objs.size+1) scope.names cls) O.heap.objs.size fp O H3) ([]++ma fp s7.heap) R H' s'->(jx J).length=R.length->(∀ (i:Nat) v,(jx J)[i]?=some (some v)->R[i]?=some (some v))->(∃ m D,m<n/\W (i+1) m D H') ->
     ∃ m,m<n/\∃ i ys H',Inv (ey X scope (cellsFrom (O.heap.objs.size+1) scope.names cls) O.heap.objs.size fp O H3) [] (jx J) H' s'/\tn i s'.heap/\(∀ b∈fp,H' b=none)/\W i m ys H':=λ{R H' s'} QN el ew hw=>by
    let#[m,D,hm,w8]:=hw;refine#[m,hm,i+1,D,H',QN.k8.weak el ew,T.keep _ _ _ E λb hb o e=>(QN.pin (b,o)<|Qr _<|Qr _<|iK hb e).1,λb hb=>?_,w8];let#[o,e,d]:=T.obj _ _ E b hb;exact(QN.pin (b,o)<|Qr _<|Qr _<|iK hb e).2.1
   refine cg (B.htg _ O.heap.objs.size fp O H3 _ s7 (jx J) H7 x u _ I7' r7<|B.Fj x J H7 _<|step x H7 y7) λ_ s8 ⟨k,H8,I8,q8,el8,ew8⟩=>?_;refine cg (B.htc _ O.heap.objs.size fp O H3 _ s8 k H8 _ I8 q8) λok s9 zq=>x1_1 zq λH9 I9 q9=>?_
   cases ok with
   |false=>
    have q9:∃ F,F<n/\W (i+1) F ys H9:=q9;let#[F,hm,w9]:=q9;exact back I9 el8 ew8 ⟨F,ys,hm,w9⟩
   |true=>
    refine cg (B.hte _ O.heap.objs.size fp O H3 _ s9 k H9 _ I9 q9) λv s10 ⟨y,H10,I10,r10,P,hz,F,hm,w10⟩=>?_;refine cg (m5 (X:=ey X scope (cellsFrom (O.heap.objs.size+1) scope.names cls) O.heap.objs.size fp O H3) _ s10 k H10 (.ref s2.heap.objs.size) [y] (.ref s2.heap.objs.size) [v] (λ_ H'=>H'=upd H10 s2.heap.objs.size (.lst<|ys++[y])) I10 rfl (.cons r10 .nil) ⟨_,ys,y,rfl,rfl,P,hz,rfl⟩) λ_ s11 zq=>x2_2 zq λ_ H11 I11 _ e11=>?_;subst e11;exact back I11 el8 ew8 ⟨F,_,hm,w10⟩
 exact codeAny_compStart_list loop<|T.self _ 0 _ _ _ K loop
def y9{elt tg iter:Expr}{ifs:List Expr}{R:Pos}{U:TI}{jx:St->St}{g:TG}{tc:TT}{te:TE}{CM:Cx->Prop}(Z:∀ {ag:List (Addr × Obj)} {J:St} {H:Hp} {s:Shared} (cls:List (Str × Addr)) (C:Addr) (fp:List Addr),Inv X ag J H s->CM (ey X scope cls C fp s H))(S:hV scope X.env.scope cls X.env.cells)(O:closureFor scope X.env=pure cls)
 (hi:PI' CM X tg iter U)(B:ub X scope tg ifs elt jx g tc te)(Y:∀ x,foldedSetIterable iter X.env x=pure x):PE X (.ListComp elt [⟨tg,iter,ifs,0⟩] scope R) (jO U jx g tc te):=by
 intro ag s J H Q I h;refine wpAny_comprehension_free rfl Y O S.kind S.loc<|sW Z S hi B I h ?_;intro l C H' s' QN hn f c1 d c a q;let#[m,hn]:=hn;exact#[m,hn,λh' sb=>#[.ref l,H',QN.turned (λb o hb e=>(sb.2 b hb).trans e) f (Ne.symm<|Ne.symm c1) (.inr d) c a,rfl,q]]
abbrev Np(i:Nat)(t:TE):TS:=λD J H=>t J H λv I=>D.nx (J.set i<|some v) I
def yg(k:X.calm=true)(n:X.N.Nodup)(Z:X.N[i]?=some y)(d:X.env.scope.names.lookup y=some .local)
 (S:hV scope X.env.scope cls X.env.cells)(O:closureFor scope X.env=pure cls)
 (hi:PI X tg iter wi)(B:ub X scope tg ifs elt jx g tc te)(hs:∀ x,foldedSetIterable iter X.env x=pure x)
 (U:swapsWith (.ListComp elt [⟨tg,iter,ifs,0⟩] scope pos) (some<|.Name y py) et.line X.env=pure true) :
  PS X (.Assign [.Name y py] (.ListComp elt [⟨tg,iter,ifs,0⟩] scope pos) et) (Np i<|jO wi jx g tc te):=by
 intro ag s J H D I h
 have back:∀ (l C:Addr) (H':Hp) (s':Shared),Inv X ag J H' s'->(∃ m,s'.heap.Ns C m)->H' C=none->C≠X.env.locals->X.s₀.heap.objs.size<=C->(∀ x c,X.env.cells.lookup x=some c->c≠C)->(∀ p∈X.pn++ag,p.1≠C)->D.nx (J.set i<|some<|.ref l) H' ->
   compPost (model X.prog X.w) X.A X.xe (some<|assign (.Name y py) X.env) (λ_ s'=>SP X ag D .next s') (.ref l) C (.ok .next) s':=by
  intro l C H' s' QN hn u c1 t f r q;let#[m,hn]:=hn;refine wpAny_assign_Name (sS (v:=.ref l) QN n Z (.inl d) rfl (λs2 E ⟨a,sb,ha⟩=>?_)<|.inr d)
  have Y:C≠a:=by
   rcases ha with z | z
   ·rw[z];exact c1
   ·exact(f _ _ z).symm
  exact#[m,hn.sameBut sb Y,λh' R=>#[J.set i<|some<|.ref l,H',E.turned (λb o hb e=>(R.2 b hb).trans e) u c1 (.inr t) f r,q]]
 have core:=sW (pos:=pos) (λ_ _ _ _=>k) S hi B I h back;have whole:=wpAny_comprehension_free (pos:=iter.pos) rfl hs O S.kind S.loc core;rw[exec_Assign_Name_used (hs:=U)];apply J2;apply wpAny_standAt;apply J2;apply J2;refine cg whole λ_ s' j=>?_;apply Qa;apply Qa;exact j
end
end L2
namespace RS
open PySem PySem.Spec PyProof.Rows L2
def gy{α:Type}{l:List α}{i:Nat}{x y:α}(e:(l.set i x)[i]?=some y):i<l.length:=by
 have:=(List.getElem?_eq_some_iff.mp e).1;simpa using this
def kE:∀ (names:List (Str × NameKind)) (I:List (Str × Addr)),(∀ x,(x,NameKind.free)∈names->∃ c,env.cells.lookup x=some c)->(∀ x c,I.lookup x=some c->env.cells.lookup x=some c) ->
  ∃ cls,(forIn names I λ(p:Str × NameKind) cs=>match p with | (name,kind)=>if(kind == NameKind.free)=true then do let c <- cellOf env name;pure (ForInStep.yield<|(name,c)::cs)else pure (ForInStep.yield cs):Sem (List<|Str × Addr))=pure cls /\
   (∀ x c,cls.lookup x=some c->env.cells.lookup x=some c)/\(∀ x,(I.lookup x).isSome=true\/(x,NameKind.free)∈names->∃ c,cls.lookup x=some c)
 | [],I,_,ha=>⟨I,rfl,ha,λx O=>by
   rcases O with h | h
   ·exact Option.isSome_iff_exists.mp h
   ·simp at h⟩
 | (n,k)::r,I,hn,ha=>by
  by_cases U:k=.free
  ·subst U;let#[c,d]:=hn n Qq
   have Y:∀ x c',((n,c)::I).lookup x=some c'->env.cells.lookup x=some c':=λx c' e=>by
    rw[Qn]at e
    cases O:x == n with
    |true=>
     rw[O]at e;cases e;rw[show x=n by simpa using O];exact d
    |false=>
     rw[O]at e;exact ha x c' e
   let#[cls,b,a,Z]:=kE r ((n,c)::I) (λx O=>hn x<|Qm _ O) Y;refine#[cls,?_,a,λx O=>Z x ?_]
   ·rw[List.forIn_cons]
    have R:cellOf env n=pure c:=by unfold cellOf;rw[d]
    simp only[beq_self_eq_true,if_true,R];exact b
   ·rcases O with h | h
    ·left;rw[Qn];split<;>simp_all
    ·rcases List.mem_cons.mp h with e | e
     ·cases e;left;simp[]
     ·exact .inr e
  ·let#[cls,b,a,Z]:=kE r I (λx O=>hn x<|Qm _ O) ha;refine#[cls,?_,a,λx O=>Z x ?_]
   ·rw[List.forIn_cons]
    have:(k == NameKind.free)=false:=by simpa using U
    simp only[this,false_eq_true,if_false];exact b
   ·rcases O with h | h
    ·exact .inl h
    ·rcases List.mem_cons.mp h with e | e
     ·cases e;exact absurd rfl U
     ·exact .inr e
def zS(h:∀ x,(x,NameKind.free)∈scope.names->∃ c,env.cells.lookup x=some c) :
  ∃ cls,closureFor scope env=pure cls/\(∀ x c,cls.lookup x=some c->env.cells.lookup x=some c)/\(∀ x,scope.names.lookup x=some .free->∃ c,cls.lookup x=some c):=by
 let#[cls,I,U,R]:=kE scope.names [] h (λx c e=>by simp at e);refine#[cls,?_,U,λx O=>R x<|.inr<|PySem.mem_of_lookup O];unfold closureFor;simp only[bind_pure_comp]at I ⊢;rw[I];rfl
section
abbrev si(K:W.Frag)(n:Nat)(t:Pb):TG:=λv J H Q=>∃ a xs,v=.ref a/\dz K H a xs/\xs.length=n/\t xs J H Q
def wH(f:X.calm=true)(h:PGs X es t)(hn:(assignEach es X.env).length=n)(U:(assignEach es X.env).findIdx? (·.1)=none):PG X (.Tuple es k pos) (si X.K n t):=by
 intro ag s J H v u Q I r O;let#[a,xs,g,d,hl,O]:=O;subst g;cases r;let#[bq,Y,c,j]:=I.list d
 have R:(assignEach es X.env).length=bq.toArray.size:=by rw[hn,<-hl,Y.length,size_toArray]
 refine J2<|wpAny_standAt ?_;unfold unpack;rw[R,U];refine J2 (wpAny_holding (W.kun_itemsOf (I.ok.hd.1 f) c.isList λh' Z=>?_));have i:=I.kept (t':=s.toks) λb o e=>Z b o (Qk<|Qg e) e;exact h ag _ J H xs _ Q i (by simpa using Y) O
end
section
def vZ(h:PG X eA t)(h':PG X eA t'):PG X eA (λv J H Q=>t v J H Q\/t' v J H Q):=by
 intro ag s J H v u Q I r O;rcases O with q | q
 ·exact h ag s J H v u Q I r q
 ·exact h' ag s J H v u Q I r q
end
abbrev gs:List Nat->Pb
 | []=>Lq
 | i::r=>EJ (nj i)<|gs r
abbrev gT(K:W.Frag):List Nat->TG
 | [i]=>nj i
 | is=>λv J H Q=>rP K is.length (gs is) v J H Q\/si K is.length (gs is) v J H Q
abbrev eY:List Nat->List V->L2.St->L2.St
 | i::is,v::vs,J=>eY is vs<|J.set i<|some v
 | _,_,J=>J
abbrev gD:List Nat->List RL.D->RL.St->RL.St
 | i::is,d::ds,J=>gD is ds<|J.set i<|some d
 | _,_,J=>J
def iz:∀ {is:List Nat} {ds:List RL.D} {J I:RL.St},RL.bA is ds J=some I->is.length=ds.length/\I=gD is ds J
 | [],[],J,I,h=>by cases h;exact#[rfl,rfl]
 | [],d::ds,J,I,h=>by cases h
 | i::is,[],J,I,h=>by cases h
 | i::is,d::ds,J,I,h=>by
  let#[R,O]:=iz (J:=J.set i<|some d) h;exact#[by simp[R],O]
def iI:∀ {is:List Nat} {vs:List V} {J:L2.St} {H:Hp} {Q:L2.St->Hp->Prop},is.length=vs.length->Q (eY is vs J) H->gs is vs J H Q
 | [],[],J,H,Q,_,q=>#[rfl,q]
 | [],_::_,_,_,_,h,_=>by simp at h
 | _::_,[],_,_,_,h,_=>by simp at h
 | i::is,v::vs,J,H,Q,h,q=>#[v,vs,rfl,iI (by simpa using h) q]
def F0{K:W.Frag}(h:RL.aZ tg d QO=some QU)(r:Rep nP K H d v) :
  ∃ ds vs,QU=gD tg ds QO/\tg.length=ds.length/\ab nP K H ds vs/\(d.ax=true->RL.ae ds=true)/\∀ (J:L2.St) (Q:L2.St->Hp->Prop),Q (eY tg vs J) H->gT K tg v J H Q:=by
 unfold RL.aZ at h;split at h
 ·rename_i i;cases h;exact#[[d],[v],rfl,rfl,ab.cons r ab.nil,λz=>by simp[RL.ae,z],λJ Q q=>q]
 ·rename_i R
  have key:gT K tg=λv J H Q=>rP K tg.length (gs tg) v J H Q\/si K tg.length (gs tg) v J H Q:=by
   unfold gT;split
   ·rename_i i;exact absurd rfl<|R i
   ·rfl
  rw[key];split at h
  ·rename_i ds;let#[I,U]:=iz h;let#[p,xs,rfl,Y,O]:=bw r;exact#[ds,xs,U,I,O,λz=>by rw[RL.D.ax]at z;exact z,λJ Q q=>.inl #[p,xs,rfl,ed.of Y,by rw[<-O.length,I],iI (I.trans O.length) q]]
  ·rename_i ds;let#[I,U]:=iz h;let#[p,xs,rfl,_,Y,O]:=bb r;exact⟨ds,xs,U,I,O,λz=>(by cases z),λJ Q q=>.inr #[p,xs,rfl,dz.of Y,by rw[<-O.length,I],iI (I.trans O.length) q]⟩
  ·cases h
def wx:∀ (is:List Nat) (vs:List V) (J:L2.St),(eY is vs J).length=J.length
 | [],_,_=>rfl
 | _::_,[],_=>rfl
 | i::is,v::vs,J=>by rw[eY,wx is vs,length_set]
def sJ:∀ (is:List Nat) (vs:List V) (J:L2.St) (j:Nat),is.contains j=false->(eY is vs J)[j]?=J[j]?
 | [],_,_,_,_=>rfl
 | _::_,[],_,_,_=>rfl
 | i::is,v::vs,J,j,h=>by
  rw[List.contains_cons,Bool.or_eq_false_iff]at h;rw[eY,sJ is vs _ j h.2,Qd<|by intro e;subst e;simp at h]
def oV:∀ (is:List Nat) (vs:List RL.D) (J:RL.St),(gD is vs J).length=J.length
 | [],_,_=>rfl
 | _::_,[],_=>rfl
 | i::is,v::vs,J=>by rw[gD,oV is vs,length_set]
def mW:∀ (is:List Nat) (vs:List RL.D) (J:RL.St) (j:Nat),is.contains j=false->(gD is vs J)[j]?=J[j]?
 | [],_,_,_,_=>rfl
 | _::_,[],_,_,_=>rfl
 | i::is,v::vs,J,j,h=>by
  rw[List.contains_cons,Bool.or_eq_false_iff]at h;rw[gD,mW is vs _ j h.2,Qd<|by intro e;subst e;simp at h]
abbrev Pc(T:List Nat)(K:W.Frag)(I:RL.St)(J:L2.St)(H:Hp):Prop:=I.length<=J.length/\∀ (i:Nat) (d:RL.D),T.contains i=false->I[i]?=some (some d)->∃ v,J[i]?=some (some v)/\Rep nP K H d v
def Pc.set{K:W.Frag}(h:Pc (i::T) K QO J H)(r:Rep nP K H d v):Pc T K (QO.set i<|some d) (J.set i<|some v) H:=⟨by simpa using h.1,λj dj R e=>by
 by_cases O:j=i
 ·subst O;have I:=gy e;rw[Qe I]at e;cases e;exact#[v,by rw[Qe<|Qi I h.1],r]
 ·rw[Qd<|Ne.symm O]at e ⊢
  exact h.2 j dj (by rw[List.contains_cons,R,Bool.or_false];simpa using O) e⟩
def Pc.bA{K:W.Frag}:∀ {is:List Nat} {ds:List RL.D} {vs:List V} {I:RL.St} {J:L2.St},Pc is K I J H->is.length=ds.length->ab nP K H ds vs->la K (gD is ds I) (eY is vs J) H
 | [],_,_,_,_,h,_,_=>#[h.1,λi d e=>h.2 i d rfl e]
 | i::is,[],_,_,_,_,hl,_=>by simp at hl
 | i::is,d::ds,vs,I,J,h,hl,r=>by
  let#[v,t,rfl,r1,r2]:=r;rw[gD,eY];exact Pc.bA (h.set r1) (by simpa using hl) r2
def IM{K:W.Frag}(h:gT K tg v J H Q):∃ vs,tg.length=vs.length/\Q (eY tg vs J) H/\∀ R:L2.St->Hp->Prop,R (eY tg vs J) H->gT K tg v J H R:=by
 have inv:∀ (is:List Nat) (xs:List V) (J:L2.St) (Q:L2.St->Hp->Prop),gs is xs J H Q->is.length=xs.length/\Q (eY is xs J) H:=by
  intro is
  induction is with
  | nil=>intro xs J Q h;let#[rfl,q]:=h;exact#[rfl,q]
  |cons i r b=>
   intro xs J Q h;let#[v,t,rfl,q]:=h;let#[I,O]:=b t _ Q q;exact#[by simp[I],O]
 unfold gT at h;split at h
 ·rename_i i;exact#[[v],rfl,h,λR q=>q]
 ·rename_i Y
  have key:gT K tg=λv J H Q=>rP K tg.length (gs tg) v J H Q\/si K tg.length (gs tg) v J H Q:=by
   unfold gT;split
   ·rename_i i;exact absurd rfl<|Y i
   ·rfl
  rw[key]
  rcases h with⟨a,xs,rfl,U,hl,Z⟩ | ⟨a,xs,rfl,U,hl,Z⟩
  ·let#[I,O]:=inv _ _ _ _ Z;exact#[xs,I,O,λR q=>.inl #[a,xs,rfl,U,hl,iI I q]]
  ·let#[I,O]:=inv _ _ _ _ Z;exact#[xs,I,O,λR q=>.inr #[a,xs,rfl,U,hl,iI I q]]
abbrev i9(tg:List Nat)(J:L2.St):L2.St:=J.mapIdx λi o=>if tg.contains i then none else o
def uH(tg:List Nat)(J:L2.St):(i9 tg J).length=J.length:=by simp[i9]
def yj(h:tg.contains i=false):(i9 tg J)[i]?=J[i]?:=by
 unfold i9;rw[List.getElem?_mapIdx]
 cases J[i]? with
 | none=>rfl
 | some o=>simp only[Option.map_some,h,false_eq_true,if_false]
def xG(h:tg.contains i=true):(i9 tg J)[i]?≠some (some v):=by
 unfold i9;rw[List.getElem?_mapIdx]
 cases J[i]? with
 | none=>simp
 | some o=>simp only[ h];intro z;cases z
section comp
variable{X:Cx}
structure nc(X:Cx)(cl:RL.Cl)(scope:Scope)(eA:Expr)(tg:List Nat)(elt:Expr)(e':RL.E)(tcs:TT)(ifs:List Expr):Prop where
 htg:∀ cls C fp s H,PG (ey X scope cls C fp s H) eA<|gT X.K tg
 htc:∀ cls C fp s H ag s' J H' Q,Inv (ey X scope cls C fp s H) ag J H' s'->tcs J H' Q->wpAny (model X.prog X.w) X.A (jv ifs<|compEnvC scope cls C X.env) (TP (ey X scope cls C fp s H) ag J Q) (λ_ _=>False) s'
 hte:∀ cls C fp s H,SE (ey X scope cls C fp s H) cl elt e'
 cover:∀ (i:Nat) (x:Str),X.N[i]?=some x->scope.names.lookup x=some .local\/scope.names.lookup x=some .cell->tg.contains i=true
def nc.ey{tcs:TT}(B:nc X cl scope eA tg elt e' tcs ifs):ub X scope eA ifs elt (i9 tg) (gT X.K tg) tcs (tE X.K cl e') where
 htg:=B.htg
 htc:=B.htc
 hte:=B.hte
 Jg:=λJ hl=>⟨uH tg J,λi x v R O=>by
  by_cases I:tg.contains i=true
  ·exact absurd O<|xG I
  ·simp only[not_eq_true]at I;rw[yj I]at O;refine#[O,λz=>?_,λz=>?_]
   ·rw[B.cover i x R<|.inl z]at I;cases I
   ·rw[B.cover i x R<|.inr z]at I
    cases I⟩
 Fj:=λx J H Q h=>by
  let#[vs,R,O,U]:=IM h;refine U _ ⟨O,(wx _ _ _).symm,λi v e=>?_⟩;by_cases I:tg.contains i=true
  ·exact absurd e<|xG I
  ·simp only[not_eq_true]at I;rw[sJ _ _ _ _ I];exact e
def Ci(h:RL.bX f tg J (d::r)=some ys):∃ I y O,RL.aZ tg d J=some I/\f I=some y/\RL.bX f tg J r=some O/\RL.kP y O=some ys:=by
 let#[I,Y,h]:=bind_some h;let#[y,U,h]:=bind_some h;let#[O,R,h]:=bind_some h;exact#[I,y,O,Y,U,R,h]
def yv(N:la X.K QO J H)(ei:RL.cN cl QO it=some ds)(hz:ds.length<=RL.most)(hm:RL.bX f tg QO ds=some total)
 (ht:∀ I g H y (Q:Bool->Hp->Prop),la X.K I g H->f I=some y->(∀ k H',aB H H'->(if k=true then ∃ d,y=some d/\RL.ev cl I e'=some d else y=none)->Q k H')->tcs g H Q)
 (k:∀ l H',aB H H'->H l=none->(∃ xs,H' l=some (.lst xs)/\ab nP X.K H' total xs)->Q (.ref l) H'):jO (tI X.K cl it) (i9 tg) (gT X.K tg) tcs (tE X.K cl e') J H Q:=by
 refine#[QO,ds,N,ei,λQN V s1 E l hl=>?_];let#[ok,_]:=E
 refine⟨λi m xs H2=>∃ O rest,m=ds.length-i/\i<=ds.length/\aB V H2/\H2 l=some (.lst xs)/\ab (λp=>p=l) X.K H2 O xs/\RL.bX f tg QO (ds.drop i)=some rest/\O++rest=total/\O.length<=i,
  ⟨_,[],total,rfl,zero_le _,aB.d8 hl,ao,ab.nil,hm,rfl,Qc _⟩,?_⟩
 rintro i m xs H2 ⟨O,rest,rfl,hi,s2,c,G,C,R,M⟩;refine#[c,?_];have off:Off nP V H2:=Off.same s2;by_cases U:i<ds.length
 ·refine .inr #[ok.go H2 i off U,λx A y=>?_]
  have hd:ds[i]?=some ds[i]:=by simp[U]
  let#[n,rp]:=ok.n7 H2 i ds[i] x A off hd y;have rp:=rp<|.inr s2;rw[List.drop_eq_getElem_cons U]at C;let#[I,D,Y,h1,h2,S,Z]:=Ci C;let#[dv,vs,e1,e2,e3,_,e5]:=F0 h1 rp;refine e5 _ _ ?_;have q:la X.K QO J A:=N.same<|(s1.trans s2).trans n
  have F:Pc tg X.K QO (i9 tg J) A:=#[by rw[uH];exact q.1,λj d hT e=>by rw[yj hT];exact q.2 j d e]
  have r:la X.K I (eY tg vs<|i9 tg J) A:=by rw[e1];exact F.bA e2 e3
  refine ht I _ A D _ r h2 λt T h B=>?_;have a:T l=some (.lst xs):=h _ _<|n _ _ c;have s:ab (λp=>p=l) X.K T O xs:=(G.same n).same h
  cases t with
  |true=>
   let#[d,rfl,hv]:=(show ∃ d,D=some d/\RL.ev cl I e'=some d from B)
   have w:d.ax=true/\rest=d::Y:=by
    unfold RL.kP at Z;dsimp only at Z;split at Z
    ·rename_i hh;cases Z;exact#[hh,rfl]
    ·cases Z
   refine gu ⟨I,d,r.same h,hv,λv H6 u=>#[u.same _ _ a,?_,ds.length-(i+1),by lia,O++[d],Y,rfl,U,?_,ao,?_,S,?_,?_]⟩
   ·rw[<-G.length];exact Qi (Nat.lt_of_le_of_lt M<|Qi U hz)<|le_of_lt ∅
   ·intro b o e;have hb:b≠l:=aM e hl;rw[aj hb];exact u.same _ _<|h _ _<|n _ _<|s2 _ _ e
   ·exact ab.upd (P:=λp=>p=l) (u.same _ _ a) True.intro rfl<|ab.append (s.same u.same)<|ab.cons (u.rep.ax w.1) ab.nil
   ·rw[<-R,w.2,QD];rfl
   ·rw[length_append,List.length_singleton];lia
  |false=>
   have B:D=none:=B;subst B
   have L:rest=Y:=by
    unfold RL.kP at Z;dsimp only at Z;cases Z;rfl
   refine gO ⟨ds.length-(i+1),by lia,O,Y,rfl,U,(s2.trans n).trans h,a,s,S,by rw[<-R,L],by lia⟩
 ·have e:i=ds.length:=by lia
  subst e;refine .inl #[ok.stop H2 off,k l H2 (s1.trans s2) (s1.free hl) #[xs,c,?_]];rw[List.drop_length,RL.bX]at C;cases C;rw[append_nil]at R;rw[<-R];exact ab.weak (λ_ z=>z.elim) G
end comp
section comp
variable{X:Cx}
structure rj(scope sc:Scope):Prop where
 kind:scope.kind=.function
 own:∀ x∈scope.names,x.2=.cell->scope.names.lookup x.1=some .cell
 loc:∀ x∈scope.names,x.2=.local->scope.names.lookup x.1=some .local
 x7:∀ x∈scope.names,x.2=.free->sc.names.lookup x.1=some .cell\/sc.names.lookup x.1=some .free
def iM(S:rj scope X.env.scope)(I:Inv X ag J H s):∃ cls,closureFor scope X.env=pure cls/\hV scope X.env.scope cls X.env.cells:=by
 let#[cls,Y,U,R]:=zS λx O=>I.ok.has x<|S.x7 _ O rfl;exact#[cls,Y,S.kind,S.own,S.loc,U,R,λx O=>S.x7 _ (PySem.mem_of_lookup O) rfl]
def uY(O:aB H H')(hl:H l=none)(h:∃ xs,H' l=some (.lst xs)/\ab nP X.K H' total xs)(I:∀ M,RL.kd M e=false):Res X.K QO J H e (.lst total) (.ref l) H' where
 same:=O
 rep:=by
  let#[xs,U,R]:=h;exact#[l,xs,rfl,λz=>z,U,R]
 fresh:=λ_ _ a z=>by cases z;exact hl
 av:=λM z=>by rw[I M]at z;cases z
abbrev qN:TT:=λ_ H Q=>Q true H
def uD(h:tE X.K cl (.cn e' tg it) J H Q):jO (tI X.K cl it) (i9 tg) (gT X.K tg) qN (tE X.K cl e') J H Q:=by
 let#[R,d,a,e,k]:=h;let#[ds,n,e]:=bind_some e;let#[o,I,e]:=bind_some e;let#[total,m,j]:=map_some e;unfold RL.fits at I;split at I
 ·rename_i b;cases I;subst j;refine yv a n b m (λU O H y Q Z c q=>?_) λl H' Y hl f=>k _ _ (uY Y hl f λ_=>rfl);let#[d,i,g]:=map_some c;exact q true H (aB.refl H)<|gu ⟨d,g.symm,i⟩
 ·cases I
def vE(h:tE X.K cl (.comp e' tg it c') J H Q):jO (tI X.K cl it) (i9 tg) (gT X.K tg) (tT X.K cl c') (tE X.K cl e') J H Q:=by
 let#[a,d,b,e,k]:=h;let#[ds,p,e]:=bind_some e;let#[r,O,e]:=bind_some e;let#[total,o,n]:=map_some e;unfold RL.fits at O;split at O
 ·rename_i c;cases O;subst n;refine yv b p c o (λI Z H y Q U f q=>?_) λl H' R hl g=>k _ _ (uY R hl g λ_=>rfl);let#[t,m,Y]:=bind_some f;refine#[I,t,U,m,λH' R=>q t H' R ?_]
  cases t with
  |true=>
   let#[d,j,i]:=map_some (show(RL.ev cl I e').map some=some y from Y);exact gu ⟨d,i.symm,j⟩
  |false=>
   cases(show(some none:Option (Option RL.D))=some y from Y);exact gO rfl
 ·cases O
def DT(R:X.calm=true)(S:rj scope X.env.scope)(hi:SI X cl eA iter it)(B:nc X cl scope eA tg elt e' qN [])(O:∀ x,foldedSetIterable iter X.env x=pure x):SE X cl (.ListComp elt [⟨eA,iter,[],0⟩] scope pos) (.cn e' tg it):=by
 intro ag s J H Q I h;let#[cls,Y,U]:=iM S I;exact y9 (λ_ _ _ _=>R) U Y hi B.ey O ag s J H Q I<|uD h
def DK(R:∀ {ag:List (Addr × Obj)} {J:L2.St} {H:Hp} {s:Shared} (cls:List (Str × Addr)) (C:Addr) (fp:List Addr),Inv X ag J H s->CM (ey X scope cls C fp s H))(S:rj scope X.env.scope)(hi:PI' CM X eA iter (tI X.K cl it))(B:nc X cl scope eA tg elt e' (tT X.K cl c') [c])(O:∀ x,foldedSetIterable iter X.env x=pure x):SE X cl (.ListComp elt [⟨eA,iter,[c],0⟩] scope pos) (.comp e' tg it c'):=by
 intro ag s J H Q I h;let#[cls,Y,U]:=iM S I;exact y9 R U Y hi B.ey O ag s J H Q I<|vE h
abbrev SA(X:Cx)(cl:RL.Cl)(st:Stmt)(i:Nat)(e':RL.E):Prop:=PS X st λD J H=>tE X.K cl e' J H λv I=>D.nx (J.set i<|some v) I
def PS.weak{st:Stmt}(h:PS X st t)(w:∀ D J H,t' D J H->t D J H):PS X st t':=λag s J H D I q=>h ag s J H D I<|w D J H q
def hY.weak{st:List Stmt}(h:hY X st t)(w:∀ D J H,t' D J H->t D J H):hY X st t':=λag s J H D I q=>h ag s J H D I<|w D J H q
def Dm(Z:X.calm=true)(a:X.N.Nodup)(R:X.N[i]?=some y)(U:X.env.scope.names.lookup y=some .local)(S:rj scope X.env.scope)(hi:SI X cl eA iter it)(B:nc X cl scope eA tg elt e' qN [])(Y:∀ x,foldedSetIterable iter X.env x=pure x)
 (O:swapsWith (.ListComp elt [⟨eA,iter,[],0⟩] scope pos) (some<|.Name y py) et.line X.env=pure true):SA X cl (.Assign [.Name y py] (.ListComp elt [⟨eA,iter,[],0⟩] scope pos) et) i (.cn e' tg it):=by
 intro ag s J H D I h;let#[cls,c,b]:=iM S I;exact yg Z a R U b c hi B.ey Y O ag s J H D I<|uD h
def Ew(Z:X.calm=true)(a:X.N.Nodup)(R:X.N[i]?=some y)(U:X.env.scope.names.lookup y=some .local)(S:rj scope X.env.scope)(hi:SI X cl eA iter it)(B:nc X cl scope eA tg elt e' (tT X.K cl c') [c])(Y:∀ x,foldedSetIterable iter X.env x=pure x)
 (O:swapsWith (.ListComp elt [⟨eA,iter,[c],0⟩] scope pos) (some<|.Name y py) et.line X.env=pure true):SA X cl (.Assign [.Name y py] (.ListComp elt [⟨eA,iter,[c],0⟩] scope pos) et) i (.comp e' tg it c'):=by
 intro ag s J H D I h;let#[cls,d,b]:=iM S I;exact yg Z a R U b d hi B.ey Y O ag s J H D I<|vE h
def Dq(a:X.N.Nodup)(I:X.N[i]?=some y)(O:Loc X.env.scope y)(Z:SE X cl e e')(Y:X.fn y=true\/X.env.scope.names.lookup y=some .local)(R:swapsWith e (some<|.Name y py) et.line X.env=pure false)(U:True):SA X cl (.Assign [.Name y py] e et) i e':=by
 exact BD a I O Z R Y
end comp
abbrev bE(M:List Nat)(J:L2.St):Addr->Prop:=λa=>∃ i,M.contains i=true/\J[i]?=some (some<|.ref a)
abbrev Own(K:W.Frag)(H:Hp)(d:RL.D)(v:V):Prop:=kZ d=true/\RL.aG d=true/\Rep nP K H d v
structure c8(K:W.Frag)(M:List Nat)(QO:RL.St)(J:L2.St)(H:Hp):Prop where
 len:QO.length=J.length
 val:∀ (i:Nat) (d:RL.D),QO[i]?=some (some d)->∃ v,J[i]?=some (some v)/\(if M.contains i=true then Own K H d v else Rep (bE M J) K H d v)
 cb:∀ (i:Nat) (v:V),J[i]?=some (some v)->∃ d,QO[i]?=some (some d)
 sep:∀ (i j:Nat) (a:Addr),M.contains i=true->M.contains j=true->J[i]?=some (some<|.ref a)->J[j]?=some (some<|.ref a)->i=j
abbrev ek(M:List Nat)(J:L2.St)(H:Hp)(I:L2.St)(H':Hp):Prop:=(∀ b o,H b=some o->¬ bE M J b->H' b=some o/\¬ bE M I b)/\∀ j,2<=M.count j->I[j]?=J[j]?
def ek.trans(a:ek M J H QR H1)(b:ek M QR H1 QQ H2):ek M J H QQ H2:=#[λc o e n=>b.1 c o (a.1 c o e n).1 (a.1 c o e n).2,λj I=>(b.2 j I).trans<|a.2 j I]
def ek.same(s:aB H H1):ek M J H J H1:=#[λc o e n=>#[s _ _ e,n],λ_ _=>rfl]
def ny{M:List Nat}(h:2<=M.count j):M.contains j=true:=by
 have:0<M.count j:=by lia
 simpa using List.count_pos_iff.mp this
section st
variable{K:W.Frag}
def Own.ref(h:Own K H d v):∃ a o,v=.ref a/\H a=some o/\d6 o:=by
 let#[m,_,r]:=h
 cases d with
 | lst ds=>let#[a,xs,O,_,I,_]:=bb r;exact#[a,_,O,I,True.intro]
 | dK ks ds=>rw[Rep]at r;let#[a,xs,O,_,I,_]:=r;exact#[a,_,O,I,True.intro]
 | b0 d ps qs=>rw[Rep]at r;let#[a,C,dx,ap,af,x,xs,ys,O,_,I,_]:=r;exact#[a,_,O,I,True.intro]
 | _=>cases m
def c8.hH(h:c8 K M QO J H):la K QO J H:=⟨le_of_eq h.len,λi d e=>by
 let#[v,O,I]:=h.val i d e;refine#[v,O,?_];by_cases hm:M.contains i=true
 ·rw[if_pos hm]at I;exact I.2.2
 ·rw[if_neg hm]at I
  exact I.none⟩
def c8.Ei(h:c8 K M QO J H):∀ a,bE M J a->∃ o,H a=some o/\d6 o:=λa ⟨i,hi,e⟩=>by
 let#[d,hd]:=h.cb i _ e;let#[v,O,I]:=h.val i d hd;rw[if_pos hi]at I;let#[b,o,Y,U,R]:=I.ref;rw[e]at O;cases O;cases Y;exact#[o,U,R]
def c8.qY(h:c8 K M QO J H):∀ a,bE M J a->H a≠none:=λa p=>by
 let#[o,e,_]:=h.Ei a p;rw[e]
 exact λz=>nomatch z
def Own.same(h:Own K H d v)(s:aB H H1):Own K H1 d v:=#[h.1,h.2.1,h.2.2.same s]
def c8.same(h:c8 K M QO J H)(s:aB H H1):c8 K M QO J H1:=⟨h.len,λi d e=>by
 let#[v,O,I]:=h.val i d e;refine#[v,O,?_];by_cases hm:M.contains i=true
 ·rw[if_pos hm]at I ⊢;exact I.same s
 ·rw[if_neg hm]at I ⊢
  exact I.same s,h.cb,h.sep⟩
def bE.set(hi:M.contains i=false):bE M (J.set i<|some v)=bE M J:=by
 funext a;apply propext;constructor
 ·rintro⟨j,O,e⟩
  have I:i≠j:=λz=>by subst z;rw[hi]at O;cases O
  rw[Qd I]at e;exact#[j,O,e]
 ·rintro⟨j,O,e⟩
  have I:i≠j:=λz=>by subst z;rw[hi]at O;cases O
  exact#[j,O,by rw[Qd I];exact e]
def c8.bind(h:c8 K M QO J H)(hi:M.contains i=false)(r:Rep (bE M J) K H d v):c8 K M (QO.set i<|some d) (J.set i<|some v) H where
 len:=by simpa using h.len
 val:=λj dj e=>by
  rw[bE.set hi];by_cases O:j=i
  ·subst O;have I:=gy e;rw[Qe I]at e;cases e;refine#[v,by rw[Qe<|by rw[<-h.len];exact I],?_];rw[if_neg<|by rw[hi];decide];exact r
  ·rw[Qd<|Ne.symm O]at e ⊢;exact h.val j dj e
 cb:=λj w e=>by
  by_cases O:j=i
  ·subst O;have I:=gy e;exact#[d,by rw[Qe<|by rw[h.len];exact I]]
  ·rw[Qd<|Ne.symm O]at e ⊢;exact h.cb j w e
 sep:=λj k a O R Y U=>by
  have n1:i≠j:=λz=>by subst z;rw[hi]at O;cases O
  have n2:i≠k:=λz=>by subst z;rw[hi]at R;cases R
  rw[Qd n1]at Y;rw[Qd n2]at U;exact h.sep j k a O R Y U
def ek.bind{i:Nat}(hi:M.contains i=false)(s:aB H H1):ek M J H (J.set i<|some v) H1:=⟨λb o e n=>#[s _ _ e,by rw[bE.set hi];exact n],λj I=>Qd λz=>by subst z;rw[ny I]at hi;cases hi⟩
end st
mutual
theorem Rep.dw{P:Addr->Prop}{K:W.Frag}{H:Hp}{a:Addr}(ha:H a=none):∀ {d:RL.D} {v:V},Rep P K H d v->Rep (λp=>P p\/p=a) K H d v
 | .cb,v,h=>by simpa[Rep]using h
 | .bl _,v,h=>by simpa[Rep]using h
 | .int _,v,h=>by simpa[Rep]using h
 | .str _,v,h=>by simpa[Rep]using h
 | .tup ds,v,h=>by
  rw[Rep]at h ⊢;let#[b,xs,R,I,O]:=h;exact#[b,xs,R,I,ab.dw ha O]
 | .lst ds,v,h=>by
  rw[Rep]at h ⊢;let#[b,xs,R,Y,I,O]:=h;exact#[b,xs,R,λz=>z.elim Y λq=>aM I ha q,I,ab.dw ha O]
 | .dK ks ds,v,h=>by
  rw[Rep]at h ⊢;let#[b,xs,R,Y,I,U,O]:=h;exact#[b,xs,R,λz=>z.elim Y λq=>aM I ha q,I,U,ab.dw ha O]
 | .lq ds,v,h=>by
  rw[Rep]at h ⊢;let#[b,xs,R,I,O]:=h;exact#[b,xs,R,I,ab.dw ha O]
 | .exc c,v,h=>by rw[Rep]at h ⊢;exact h
 | .obj,v,h=>by rw[Rep]at h ⊢;exact h
 | .fL ds,v,h=>by rw[Rep]at h ⊢;let#[b,o,xs,R,I,O]:=h;exact#[b,o,xs,R,I,ab.dw ha O]
 | .fK ks ds,v,h=>by rw[Rep]at h ⊢;let#[b,o,xs,R,I,U,O]:=h;exact#[b,o,xs,R,I,U,ab.dw ha O]
 | .hd ds,v,h=>by rw[Rep]at h ⊢;let#[b,C,dx,xs,R,I,U,O]:=h;exact#[b,C,dx,xs,R,I,U,ab.dw ha O]
 | .b0 d ps qs,v,h=>by rw[Rep]at h ⊢;let#[b,C,dx,ap,af,x,xs,ys,R,Y,I,Z,O,f,e]:=h;exact#[b,C,dx,ap,af,x,xs,ys,R,λz=>z.elim Y λq=>aM I ha q,I,Z,Rep.dw ha O,ab.dw ha f,ab.dw ha e]
theorem ab.dw{P:Addr->Prop}{K:W.Frag}{H:Hp}{a:Addr}(ha:H a=none):∀ {ds:List RL.D} {xs:List V},ab P K H ds xs->ab (λp=>P p\/p=a) K H ds xs
 | [],xs,h=>by rw[ab]at h ⊢;exact h
 | d::r,xs,h=>by
  rw[ab]at h ⊢;let#[x,t,R,O,I]:=h;exact#[x,t,R,Rep.dw ha O,ab.dw ha I]
end
def Rep.top{K:W.Frag}{P:Addr->Prop}(rp:Rep nP K H d v)(I:RL.aG d=true)(fr:kZ d=true->∀ a,v=.ref a->¬ P a):Rep P K H d v:=by
 cases d with
 | lst ds=>let#[a,xs,O,Y,U,R]:=bb rp;rw[Rep];exact#[a,xs,O,fr rfl a O,U,R.ax I]
 | dK ks ds=>rw[Rep]at rp ⊢;let#[a,xs,O,Y,U,Z,R]:=rp;exact#[a,xs,O,fr rfl a O,U,Z,R.ax I]
 |b0 d ps qs=>
  have I:(d.ax&&(RL.ae ps&&RL.ae qs))=true:=I;rw[and_eq_true,and_eq_true]at I;rw[Rep]at rp ⊢;let#[a,C,dx,ap,af,x,xs,ys,O,Y,U,b,R,e,c]:=rp;exact#[a,C,dx,ap,af,x,xs,ys,O,fr rfl a O,U,b,R.ax I.1,e.ax I.2.1,c.ax I.2.2]
 | _=>cases I
section st
variable{K:W.Frag}
def c8.own(h:c8 K M QO J H)(s:aB H H1)(hi:M.contains i=true)(l:M.count i<2)(ha:H a=none)(r:Own K H1 d (.ref a)):c8 K M (QO.set i<|some d) (J.set i<|some<|.ref a) H1/\ek M J H (J.set i<|some<|.ref a) H1:=by
 have sub:∀ b,bE M (J.set i<|some<|.ref a) b->bE M J b\/b=a:=λb ⟨j,O,e⟩=>by
  by_cases c:j=i
  ·subst c;have I:=gy e;rw[Qe I]at e;cases e;exact .inr rfl
  ·rw[Qd<|Ne.symm c]at e;exact .inl #[j,O,e]
 have Z:∀ b,bE M J b->b≠a:=λb p z=>h.qY b p<|z▸ha;refine#[#[by simpa using h.len,λj dj e=>?_,λj w e=>?_,λj k b O g Y U=>?_],#[λb o e n=>#[s _ _ e,λz=>(sub b z).elim n λq=>aM e ha q],λj O=>Qd λz=>by subst z;lia]]
 ·by_cases O:j=i
  ·subst O;have I:=gy e;rw[Qe I]at e;cases e;refine#[.ref a,by rw[Qe<|by rw[<-h.len];exact I],?_];rw[if_pos hi];exact r
  ·rw[Qd<|Ne.symm O]at e ⊢;let#[v,f,R]:=h.val j dj e;refine#[v,f,?_];by_cases hm:M.contains j=true
   ·rw[if_pos hm]at R ⊢;exact R.same s
   ·rw[if_neg hm]at R ⊢;exact((R.dw ha).weak sub).same s
 ·by_cases O:j=i
  ·subst O;have I:=gy e;exact#[d,by rw[Qe<|by rw[h.len];exact I]]
  ·rw[Qd<|Ne.symm O]at e ⊢;exact h.cb j w e
 ·by_cases f:j=i
  ·by_cases R:k=i
   ·rw[f,R]
   ·subst f;have I:=gy Y;rw[Qe I]at Y;rw[Qd<|Ne.symm R]at U;cases Y;exact absurd rfl<|Z _ ⟨k,g,U⟩
  ·rw[Qd<|Ne.symm f]at Y;by_cases R:k=i
   ·subst R;have I:=gy U;rw[Qe I]at U;cases U;exact absurd rfl<|Z _ ⟨j,O,Y⟩
   ·rw[Qd<|Ne.symm R]at U;exact h.sep j k b O g Y U
def c8.jS(h:c8 K M QO J H)(hi:M.contains i=true)(e:J[i]?=some (some<|.ref a))(ha:H a=some o)(m:d6 o)(r:Own K (upd H a o') d' (.ref a)):c8 K M (QO.set i<|some d') J (upd H a o')/\ek M J H J (upd H a o'):=by
 have pa:bE M J a:=#[i,hi,e]
 refine#[#[by simpa using h.len,λj dj e'=>?_,λj w e'=>?_,h.sep],#[λb u g n=>#[?_,n],λ_ _=>rfl]]
 ·by_cases O:j=i
  ·subst O;have I:=gy e';rw[Qe I]at e';cases e';refine#[.ref a,e,?_];rw[if_pos hi];exact r
  ·rw[Qd<|Ne.symm O]at e';let#[v,Z,R]:=h.val j dj e';refine#[v,Z,?_];by_cases hm:M.contains j=true
   ·rw[if_pos hm]at R ⊢;let#[b,k,rfl,hb,_]:=R.ref
    have U:b≠a:=λz=>by subst z;exact O<|h.sep j i b hm hi Z e
    let#[f,Y,d]:=R;exact⟨f,Y,(Rep.upd (P:=λp=>p=a) ha m rfl (d.top Y λ_ c z=>by cases z;exact U)).none⟩
   ·rw[if_neg hm]at R ⊢;exact Rep.upd ha m pa R
 ·let#[dj,hd]:=h.cb j w e';by_cases O:j=i
  ·subst O;have I:=(List.getElem?_eq_some_iff.mp hd).1;exact#[d',by rw[Qe I]]
  ·exact#[dj,by rw[Qd<|Ne.symm O];exact hd]
 ·have hb:b≠a:=λz=>n<|z▸pa;rw[L2.aj hb];exact g
end st
abbrev vT(K:W.Frag)(M:List Nat)(D:Ends)(J:L2.St)(H:Hp):RL.Out->RL.St->Prop
 | .nx,I=>∀ R H',c8 K M I R H'->ek M J H R H'->D.nx R H'
 | .rt d,I=>∀ O U v H',c8 K M I O U->ek M J H O U->aB U H'->(∀ P:Addr->Prop,(∀ p,P p->U p≠none/\¬ bE M O p)->Rep P K H' d v)->D.rt v H'
def vT.from{K:W.Frag}(h:vT K M D J H r QV)(f:ek M J H I Y):vT K M D I Y r QV:=by
 cases r with
 | nx=>exact λU H2 O R=>h U H2 O<|f.trans R
 | rt d=>exact λI Y v H2 O R Z rp=>h I Y v H2 O (f.trans R) Z rp
abbrev tS(K:W.Frag)(M:List Nat)(f:RL.St->Option (RL.Out × RL.St)):TS:=λD J H=>∃ O r I,c8 K M O J H/\f O=some (r,I)/\vT K M D J H r I
abbrev SS(X:Cx)(cl:RL.Cl)(M:List Nat)(st:Stmt)(s:RL.S):Prop:=PS X st<|tS X.K M<|RL.kS cl M s
abbrev nA(X:Cx)(cl:RL.Cl)(M:List Nat)(st:List Stmt)(s:RL.Ss):Prop:=hY X st<|tS X.K M<|RL.aq cl M s
section rules
variable{st:Stmt}{i j:Nat}
def FG:nA X cl M [] .nil:=by
 refine hY.weak qX λD J H h=>?_;let#[O,r,I,R,e,k]:=h;cases e;exact k J H R<|ek.same<|aB.refl H
def DC(f:SS X cl M st s)(c:nA X cl M vF r):nA X cl M (st::vF) (.cons s r):=by
 refine hY.weak (de f c) λD J H h=>?_;let#[R,o,I,b,e,k]:=h;let#[p,g,Z]:=bind_some e;let#[o1,O]:=p;refine#[R,o1,O,b,g,?_]
 cases o1 with
 |rt d=>
  cases Z;exact k
 |nx=>
  exact λa H' U Y=>#[O,o,I,U,Z,k.from Y]
def Eu:SS X cl M st .never:=by
 refine PS.weak E5 λD J H h=>?_;let#[O,o,I,R,e,k]:=h;cases e
def Lz(h:SA X cl st i e')(hi:M.contains i=false):SS X cl M st (.asg i e'):=by
 refine PS.weak h λD J H h=>?_;let#[O,o,U,I,e,k]:=h;let#[d,g,R]:=bind_some e;split at R
 ·rename_i ok;cases R;refine#[O,d,I.hH,g,λv n r1=>k _ _ ?_<|ek.bind hi r1.same];refine(I.same r1.same).bind hi ?_;unfold RL.aX at ok;rw[or_eq_true,or_eq_true,and_eq_true]at ok;rcases ok with(q | ⟨q1,q2⟩) | q
  ·exact r1.rep.ax q
  ·have rp:=r1.rep;have fr:=λm a z p=>I.qY a p<|r1.fresh q2 m a z;exact rp.top q1 fr
  ·refine r1.av M q _ I.qY λj dj vj b f c=>?_;let#[l,Z,Y]:=I.val j dj f;rw[c]at Z;cases Z;rw[if_neg<|by rw[b];decide]at Y;exact Y
 ·cases R
def IQ(h:SA X cl st i e')(hi:M.contains i=true)(O:M.count i<2):SS X cl M st (.own i e'):=by
 refine PS.weak h λD J H h=>?_;let#[I,o,U,Y,e,k]:=h;let#[d,f,R]:=bind_some e;split at R
 ·rename_i ok;cases R;rw[and_eq_true]at ok;refine#[I,d,Y.hH,f,λv g r1=>?_]
  have m:kZ d=true:=by
   cases d with
   | lst _=>rfl
   | dK _ _=>rfl
   | b0 _ _ _=>rfl
   | _=>cases ok.1
  have Z:Own X.K g d v:=#[m,ok.1,r1.rep]
  let#[a,j,rfl,_,_]:=Z.ref;let#[c,b]:=Y.own r1.same hi O (r1.fresh ok.2 m a rfl) Z;exact k _ _ c b
 ·cases R
def MJ{c:Expr}(Z:ST X cl c c')(ha:nA X cl M a a')(hb:nA X cl M b b'):SS X cl M (.If c a b pos) (.c7 c' a' b'):=by
 refine PS.weak (yR Z ha hb) λD J H h=>?_;let#[O,o,I,R,e,k]:=h;let#[t,d,Y]:=bind_some e;refine#[O,t,R.hH,d,λf s1=>?_];have U:=k.from<|ek.same (J:=J) s1
 cases t with
 | true=>exact gu ⟨O,o,I,R.same s1,Y,U⟩
 | false=>exact gO ⟨O,o,I,R.same s1,Y,U⟩
def KL(c:SE X cl e e')(b:∀ i,e'=.var i->M.contains i=false):SS X cl M (.Return (some e) pos) (.ret e'):=by
 refine PS.weak (qr c) λD J H h=>?_;let#[I,o,R,U,ev,k]:=h;let#[d,g,O]:=bind_some ev;split at O
 ·rename_i ok;cases O;refine#[I,d,U.hH,g,λv j r1=>k J H v j U (ek.same<|aB.refl H) r1.same λP f=>?_];unfold RL.bU at ok;rw[or_eq_true,and_eq_true,or_eq_true]at ok
  rcases ok with q | ⟨Z,Y⟩
  ·exact r1.rep.ax q
  ·have rp:=r1.rep
   have fr:kZ d=true->∀ a,v=.ref a->¬ P a:=λm a z p=>by
    rcases Y with q | q
    ·exact(f a p).1<|r1.fresh q m a z
    ·cases e' with
     |var i=>
      have hi:M.contains i=true:=q;rw[b i rfl]at hi;cases hi
     | _=>cases q
   exact rp.top Z fr
 ·cases O
def GL(n:X.N[i]?=some x)(l:vl X.env.scope x)(hd:(x == ("__debug__" : Str))=false)(U:(x == ("__classdict__" : Str))=false)(hi:M.contains i=true):SS X cl M (.Return (some<|.Name x p) pos) (.ret<|.var i):=by
 refine PS.weak (qr<|cI n l hd U) λD J H h=>?_;let#[R,o,Z,c,e,k]:=h;let#[d,r,Y]:=bind_some e;split at Y
 ·cases Y
  have q:R[i]?=some (some d):=by
   let#[o,O,I]:=bind_some r
   cases o with
   | none=>cases I
   | some z=>cases I;exact O
  let#[v,O,I]:=c.val i d q;rw[if_pos hi]at I;refine#[v,O,k J H v H c (ek.same<|aB.refl H) (aB.refl H) λP m=>?_];let#[a,o,rfl,_,_]:=I.ref;have j:¬ P a:=λp=>(m a p).2 ⟨i,hi,O⟩;let#[s,g,f]:=I
  exact f.top g λ_ b z=>by cases z;exact j
 ·cases Y
def slot_get{I:RL.St}(h:(I[i]?).bind id=some d):I[i]?=some (some d):=by
 let#[o,R,O]:=bind_some h
 cases o with
 | none=>cases O
 | some z=>cases O;exact R
def JW(h:PS X st (mJ<|tBM X.K "list" yH (bD i)<|tEs X.K cl %[e'|_]))(hi:M.contains i=true):SS X cl M st (.app i e'):=by
 refine PS.weak h λD J H h=>?_;let#[R,o,Z,U,e,k]:=h;let#[d,u,s]:=bind_some e;let#[l,q,I]:=bind_some s
 cases l with
 |lst ds=>
  dsimp only at I;split at I
  ·rename_i ok;cases I;rw[and_eq_true,decide_eq_true_eq]at ok;let#[v,c,b]:=U.val i _<|slot_get q;rw[if_pos hi]at b;let#[x,m,j]:=b;let#[a,xs,rfl,_,O,f]:=bb j;refine#[.ref a,c,.inl #[rfl,xs,dz.of O],R,[d],U.hH,by rw[RL.c0,u];rfl,λvs w s1 r1=>?_];rw[ab]at r1;let#[y,t,rfl,r2,r3]:=r1;rw[ab]at r3;subst r3
   have hl:xs.length<sizeLine:=by rw[<-f.length];exact Qi ok.2 cT
   refine#[a,xs,y,rfl,rfl,s1 _ _ O,hl,?_]
   have Y:RL.ae (ds++[d])=true:=by
    have:∀ l:List RL.D,RL.ae l=true->RL.ae (l++[d])=true:=λl=>by
     induction l with
     | nil=>intro _;simp[RL.ae,ok.1]
     | cons z r n=>intro h;rw[RL.ae,and_eq_true]at h;rw[cons_append,RL.ae,h.1,n h.2];rfl
    exact this ds m
   have g:ab nP X.K (upd w a<|.lst<|xs++[y]) (ds++[d]) (xs++[y]):=(ab.upd (P:=λp=>p=a) (s1 _ _ O) True.intro rfl<|(ab.append (f.same s1)<|ab.cons r2 ab.nil).ax Y).ax Y;let#[g1,g2]:=(U.same s1).jS (d':=.lst<|ds++[d]) (o':=.lst<|xs++[y]) hi c (s1 _ _ O) True.intro ⟨rfl,Y,by rw[Rep];exact#[a,_,rfl,λz=>z,ao,g]⟩;exact k _ _ g1<|(ek.same s1).trans g2
  ·cases I
 | _=>cases I
end rules
def c8.bA{K:W.Frag}{M:List Nat}{H:Hp}:∀ {tg:List Nat} {ds:List RL.D} {vs:List V} {I:RL.St} {J:L2.St},c8 K M I J H->(∀ i∈tg,M.contains i=false)->tg.length=ds.length->RL.ae ds=true->ab nP K H ds vs ->
  c8 K M (gD tg ds I) (eY tg vs J) H/\bE M (eY tg vs J)=bE M J
 | [],_,_,_,_,h,_,_,_,_=>#[h,rfl]
 | i::is,[],_,_,_,_,_,hl,_,_=>by simp at hl
 | i::is,d::ds,vs,I,J,h,hM,hl,him,r=>by
  let#[v,t,rfl,r1,r2]:=r;rw[RL.ae,and_eq_true]at him;have hi:=hM i Qq;let#[g1,g2]:=c8.bA (h.bind hi<|r1.ax him.1) (λj O=>hM j<|Qm _ O) (by simpa using hl) him.2 r2;exact#[g1,g2.trans<|bE.set hi]
def ve{M tg:List Nat}{vs:List V}{J:L2.St}{j:Nat}(O:∀ i∈tg,M.contains i=false)(I:2<=M.count j):(eY tg vs J)[j]?=J[j]?:=by
 refine sJ tg vs J j ?_
 cases hc:tg.contains j with
 | false=>rfl
 |true=>
  have:=O j (by simpa using hc);rw[ny I]at this;cases this
section rules
variable{X:Cx}{cl:RL.Cl}{M:List Nat}{st:Stmt}{eA iter:Expr}{body:List Stmt}{b:RL.Ss}{it:RL.It}{tg:List Nat}{e' k' a' b':RL.E}{i j:Nat}{pos:Pos}
def zu{f:RL.St->Option (RL.Out × RL.St)}{d:RL.D}{ds:List RL.D}{J:RL.St}{p:RL.Out × RL.St}(h:RL.bp f tg (d::ds) J=some p):d.ax=true/\∃ O o I,RL.aZ tg d J=some O/\f O=some (o,I) /\
  (match o with | .nx=>RL.bp f tg ds I=some p | .rt d=>p=(.rt d,I)):=by
 rw[RL.bp]at h;split at h
 ·rename_i R;let#[O,Y,h]:=bind_some h;let#[#[o,I],U,h]:=bind_some h;refine#[R,O,o,I,Y,U,?_]
  cases o with
  | nx=>exact h
  | rt d=>exact(Option.some.inj h).symm
 ·cases h
def JC(hx:X.xe=λ_ _=>False)(hc:X.calm=true)(hi:SI X cl eA iter it)(hg:PG X eA (gT X.K tg))(hb:nA X cl M body b)(hs:∀ x,foldedSetIterable iter X.env x=pure x)(C:RL.E6 M it=true)(S:∀ i∈tg,M.contains i=false) :
  SS X cl M (.For eA iter body [] pos) (.ef tg it b):=by
 refine PS.weak (Kp (by rw[hx];exact PassesOwn.never) hc hi hg hb hs) λD J H h=>?_;let#[f,r,Y,t,e,k]:=h;let#[ds,e1,e2]:=bind_some e;refine#[f,ds,t.hH,e1,λQN L s1 A=>?_]
 have ok:=A.2 M (bE M J) C t.Ei λj dj vj u F E=>by
  let#[v',q,T]:=t.val j dj F;rw[E]at q;cases q;rw[if_neg<|by rw[u];decide]at T;exact T
 have Q:=k.from<|ek.same (J:=J) s1;refine#[λi m R H2=>∃ I,m=ds.length-i/\i<=ds.length/\c8 X.K M I R H2/\ek M J L R H2/\RL.bp (RL.aq cl M b) tg (ds.drop i) I=some (r,Y),#[_,f,rfl,zero_le _,t.same s1,ek.same<|aB.refl _,e2],?_];rintro i m R H2 ⟨I,rfl,hi2,l,U,hl⟩;have off:=λb o n e=>(U.1 b o e n).1;by_cases a:i<ds.length
 ·refine .inr #[ok.go H2 i off a,λO H'=>∃ P,P<ds.length-i/\∃ I,P=ds.length-(i+1)/\i+1<=ds.length/\c8 X.K M I O H'/\ek M J L O H'/\RL.bp (RL.aq cl M b) tg (ds.drop<|i+1) I=some (r,Y),λO H' z=>z,λx V y=>?_];rw[List.drop_eq_getElem_cons a]at hl;let#[p,w,o,g,F,E,q]:=zu hl;let#[N,rp]:=ok.n7 H2 i ds[i] x V off (by simp[]) y;let#[dv,vs,q1,q2,q3,q4,q5]:=F0 F<|rp<|.inl p;refine q5 _ _ ?_;let#[B,G]:=(l.same N).bA S q2 (q4 p) q3
  have s:ek M J L (eY tg vs R) V:=#[λb o e n=>#[N _ _ (U.1 b o e n).1,by rw[G];exact(U.1 b o e n).2],λj u=>(ve S u).trans<|U.2 j u]
  refine#[w,o,g,by rw[q1];exact B,E,?_]
  cases o with
  | nx=>exact λO H' Z c=>#[_,by lia,g,rfl,a,Z,s.trans c,q]
  |rt d=>
   cases q;exact λO H' v H4 Z c sm rp=>Q O H' v H4 Z (s.trans c) sm rp
 ·have e:i=ds.length:=by lia
  subst e;rw[List.drop_length,RL.bp]at hl;cases hl;exact .inl #[ok.stop H2 off,Q R H2 l U]
def DF{n:Nat}{k:Int}{j:Nat}(h:RL.mH n k=some j):OV n k=some j:=h
def BN:∀ {ds:List RL.D} {d:RL.D} (j:Nat),RL.ae ds=true->d.ax=true->RL.ae (ds.set j d)=true
 | [],d,j,_,_=>by simp[RL.ae]
 | x::r,d,0,h,hd=>by rw[RL.ae,and_eq_true]at h;rw[List.set_cons_zero,RL.ae,hd,h.2];rfl
 | x::r,d,j+1,h,hd=>by rw[RL.ae,and_eq_true]at h;rw[List.set_cons_succ,RL.ae,h.1,BN j h.2 hd];rfl
def qT{H:Hp}{a:Addr}{ds:List RL.D}{xs ys:List V}{I:List RL.D}(U:H a=some (.lst xs))(O:RL.ae I=true)(R:ab nP X.K H I ys):Own X.K (upd H a<|.lst ys) (.lst I) (.ref a) :=
 ⟨rfl,O,by rw[Rep];exact#[a,_,rfl,λz=>z,ao,(ab.upd U True.intro rfl<|R.ax O).ax O]⟩
def KY(h:PS X st (pe (tE X.K cl e')<|C7 (bD i) (tE X.K cl k') zh))(hi:M.contains i=true)(hl:True):PS X st (tS X.K M λI=>(RL.ev cl I e').bind λd=>(RL.ev cl I k').bind λO=>((I[i]?).bind id).bind λl=>match l with
  | .lst _=>if d.ax then(RL.jG l O d).map λY=>(.nx,I.set i<|some Y)else none
  | _=>none):=by
 refine PS.weak h λD J H h=>?_;let#[I,o,f,U,e,k]:=h;let#[d,B,e]:=bind_some e;let#[O,A,e]:=bind_some e;let#[l,x,e]:=bind_some e
 cases l with
 |lst ds=>
  dsimp only at e;split at e
  ·rename_i b;let#[Y,p,w]:=map_some e;cases w;let#[v,m,g]:=U.val i _<|slot_get x;rw[if_pos hi]at g;let#[C,r,q]:=g;let#[a,xs,rfl,_,c,n]:=bb q
   cases O with
   |int O=>
    let#[Z,u,t]:=map_some (show(RL.mH ds.length O).map (λj=>RL.D.lst<|ds.set j d)=some Y from p);subst t;refine#[I,d,U.hH,B,λy E r1=>#[.ref a,m,I,.int O,U.hH.same r1.same,A,λz H2 r2=>?_]];have R:=r1.same.trans r2.same;refine#[a,xs,O,Z,rfl,ay r2.rep,R _ _ c,?_,?_]
    ·rw[<-n.length];exact DF u
    ·have s:=BN Z r b;let#[g1,g2]:=(U.same R).jS hi m (R _ _ c) True.intro<|qT (ds:=ds) (R _ _ c) s<|ab.set Z (n.same R)<|r1.rep.same r2.same;exact k _ _ g1<|(ek.same R).trans g2
   | _=>cases p
  ·cases e
 | _=>cases e
def nJ:∀ {ds:List RL.D},RL.ae ds=true->RL.ae ds.dropLast=true
 | [],_=>rfl
 | [x],_=>rfl
 | x::y::r,h=>by rw[RL.ae,and_eq_true]at h;rw[List.dropLast_cons_cons,RL.ae,h.1,nJ h.2];rfl
def qp:∀ {ds:List RL.D} {i:Nat} {d:RL.D},RL.ae ds=true->ds[i]?=some d->d.ax=true
 | [],i,d,_,e=>by simp at e
 | x::r,0,d,h,e=>by rw[RL.ae,and_eq_true]at h;simp at e;subst e;exact h.1
 | x::r,i+1,d,h,e=>by rw[RL.ae,and_eq_true]at h;exact qp h.2<|by simpa using e
def ab.dropLast{P:Addr->Prop}{K:W.Frag}{H:Hp}{ds:List RL.D}{xs:List V}(h:ab P K H ds xs):ab P K H ds.dropLast xs.dropLast:=by
 rw[List.dropLast_eq_take,List.dropLast_eq_take,<-h.length];exact h.take _
def Js(h:PS X st (Ly i j<|tEs X.K cl %[a',b'|_]))(hi:M.contains i=false)(Z:M.contains j=false):SS X cl M st (.par i j a' b'):=by
 refine PS.weak h λD J H h=>?_;let#[O,o,R,U,e,k]:=h;let#[x,c,e]:=bind_some e;let#[y,b,e]:=bind_some e;split at e
 ·rename_i I;cases e;rw[and_eq_true]at I;refine#[O,[x,y],U.hH,by rw[RL.c0,c,RL.c0,b];rfl,λvs d s1 r1=>?_];rw[ab]at r1;let#[v,t,rfl,r2,r3]:=r1;rw[ab]at r3;let#[u,t,rfl,a,Y]:=r3;rw[ab]at Y;subst Y;refine#[v,u,rfl,k _ _ ?_ ?_]
  ·refine((U.same s1).bind hi<|r2.ax I.1).bind Z<|a.ax I.2
  ·exact(ek.bind hi s1).trans<|ek.bind Z<|aB.refl _
 ·cases e
def HZ(h:PS X st (mJ<|tE X.K cl e')):SS X cl M st (.exc e'):=by
 refine PS.weak h λD J H h=>?_;let#[I,o,O,R,e,k]:=h;let#[d,Y,U]:=map_some e;cases U;exact#[I,d,R.hH,Y,λv Z r1=>k _ _ (R.same r1.same)<|ek.same r1.same]
end rules
section rules
variable{st:Stmt}
def G2(h:PS X st (pe (tE X.K cl e') λv J H Q=>rP X.K is.length (gs is) v J H Q\/si X.K is.length (gs is) v J H Q))(f:∀ i∈is,M.contains i=false):SS X cl M st (.iw is e'):=by
 refine PS.weak h λD J H h=>?_;let#[R,o,Y,Z,e,k]:=h;let#[d,t,e]:=bind_some e;let#[ds,s,e]:=bind_some e;split at e
 ·rename_i U;let#[g,r,q]:=map_some e;cases q;let#[c,l]:=iz r;refine#[R,d,Z.hH,t,λv u r1=>?_];let#[p,xs,rfl,I,a]:=gR s r1.rep;let#[g1,g2]:=(Z.same r1.same).bA (vs:=xs) f c U a;have O:D.nx (eY is xs J) u:=k _ _ (by rw[l];exact g1) ⟨λb o e n=>#[r1.same _ _ e,by rw[g2];exact n],λj m=>ve f m⟩
  have hl:xs.length=is.length:=by rw[<-a.length,c]
  rcases I with⟨I,_⟩ | ⟨I,_⟩ | ⟨⟨o,I⟩,_⟩
  ·exact .inr #[p,xs,rfl,dz.of I,hl,iI hl.symm O]
  ·exact .inl #[p,xs,rfl,ed.of I,hl,iI hl.symm O]
  ·exact .inr #[p,xs,rfl,.inl<|.inr #[o,I],hl,iI hl.symm O]
 ·cases e
def uR(xs:List α)(k:Int):(xs.drop<|HT.cw xs.length 0 none).take (HT.cw xs.length xs.length (some k)-HT.cw xs.length 0 none)=xs.take (RL.cutAt xs.length k):=by
 rw[HT.vy,drop_zero,sub_zero];congr 1;have h:=HT.iV k xs.length xs.length;unfold RL.cutAt;split at h
 ·rename_i I;lia
 ·rename_i I;lia
def uC(xs:List α)(k:Int):(xs.drop<|HT.cw xs.length 0<|some k).take (HT.cw xs.length xs.length none-HT.cw xs.length 0 (some k))=xs.drop (RL.cutAt xs.length k):=by
 have e:HT.cw xs.length 0 (some k)=RL.cutAt xs.length k:=by
  have h:=HT.iV k xs.length 0;unfold RL.cutAt;split at h
  ·rename_i I;lia
  ·rename_i I;lia
 rw[e,HT.vy];exact List.take_of_length_le<|by rw[length_drop];exact Qc _
end rules
section rules
variable{X:Cx}
def one(O:la X.K QO J H)(U:RL.ev cl QO a'=some d)(k:∀ v I,aB H I->Rep nP X.K I d v->R [v] I):tEs X.K cl %[a'|_] J H R :=
 ⟨QO,[d],O,by rw[RL.c0,U];rfl,λvs I s1 r1=>by
  rw[ab]at r1;let#[v,t,rfl,r2,r3]:=r1;rw[ab]at r3;subst r3
  exact k v I s1 r2⟩
def pair(O:la X.K QO J H)(a:RL.ev cl QO a'=some d)(Z:RL.ev cl QO b'=some d')(k:∀ v u I,aB H I->Rep nP X.K I d v->Rep nP X.K I d' u->R [v,u] I):tEs X.K cl %[a',b'|_] J H R :=
 ⟨QO,[d,d'],O,by rw[RL.c0,a,RL.c0,Z];rfl,λvs I s1 r1=>by
  let#[v,t,rfl,r2,r3]:=r1;let#[u,t,rfl,Y,U]:=r3;subst U
  exact k v u I s1 r2 Y⟩
def lT{id:String}{r:List V->Hp->VK->Prop}{b:RL.Bi}(Z:bM X (.builtin id) r)(Y:Gl X x)(hm:X.mg x=none)(U:bootBuiltins x=some (.builtin id))(ha:SE X cl a a')(hn:noStar a=true)(f:x ≠ "__name__")(c:(x == ("__debug__" : Str))=false)
 (ok:∀ (I:RL.St) (J:L2.St) (H O:Hp) (y d:RL.D) (v:V) (Q:VK),RL.lz b y=some d->aB H O->Rep nP X.K O y v->(∀ w H',Res X.K I J H (.bi b a') d w H'->Q w H')->r [v] O Q):SE X cl (.Call (.Name x p) [a] [] pos) (.bi b a'):=by
 refine PE.weak (oT Z Y hm U (bK ha df hn) f c (aP [] hn) rfl) λJ H Q h=>?_;let#[I,d,R,e,k]:=h;let#[y,g,e]:=bind_some e;exact one R g λv O s1 r1=>ok I J H O y d v Q e s1 r1 k
def sN{T:String}{r:List V->Hp->VK->Prop}{b:RL.Bi}(Z:bM X (.type T) r)(Y:Gl X x)(hm:X.mg x=none)(U:bootBuiltins x=some (.type T))(ha:SE X cl a a')(hn:noStar a=true)(f:x ≠ "__name__")(c:(x == ("__debug__" : Str))=false)
 (ok:∀ (I:RL.St) (J:L2.St) (H O:Hp) (y d:RL.D) (v:V) (Q:VK),RL.lz b y=some d->aB H O->Rep nP X.K O y v->(∀ w H',Res X.K I J H (.bi b a') d w H'->Q w H')->r [v] O Q):SE X cl (.Call (.Name x p) [a] [] pos) (.bi b a'):=by
 refine PE.weak (cQ Z Y hm U (bK ha df hn) f c (aP [] hn) rfl) λJ H Q h=>?_;let#[I,d,R,e,k]:=h;let#[y,g,e]:=bind_some e;exact one R g λv O s1 r1=>ok I J H O y d v Q e s1 r1 k
def GH(U:Gl X "list")(hm:X.mg "list" = none)(ha:SE X cl a a')(hn:noStar a=true):SE X cl (.Call (.Name "list" p) [a] [] pos) (.bi .list a'):=by
 refine sN mf U hm (by decide +kernel) ha hn ∅ ∅ λI J H b y d v Q e s1 r1 k=>?_;let#[ds,Z,Y]:=map_some (show(RL.items y).map RL.D.lst=some d from e);subst Y;let#[q,xs,rfl,R,O]:=gR Z r1;refine#[q,xs,rfl,?_,λl hl=>k _ _ (d9 s1 hl O λ_=>rfl)]
 rcases R with⟨z,_⟩ | ⟨z,_⟩ | ⟨⟨o,z⟩,_⟩
 ·exact .inl<|dz.of z
 ·exact .inr<|ed.of z
 ·exact .inl<|.inl<|.inr #[o,z]
def De(U:Gl X "tuple")(hm:X.mg "tuple" = none)(ha:SE X cl a a')(hn:noStar a=true):SE X cl (.Call (.Name "tuple" p) [a] [] pos) (.bi .tuple a'):=by
 refine sN tP U hm (by decide +kernel) ha hn ∅ ∅ λO J H b y d v Q e s1 r1 k=>?_;let#[ds,Z,Y]:=map_some (show(RL.items y).map RL.D.tup=some d from e);subst Y;let#[q,xs,rfl,R,I]:=gR Z r1
 rcases R with⟨z,_⟩ | ⟨z,_⟩ | ⟨⟨o,z⟩,_⟩
 ·exact#[q,xs,rfl,.inl #[dz.of z,λl hl=>k _ _ (gS s1 hl I λ_=>rfl)]]
 ·refine⟨q,xs,rfl,.inr ⟨ed.of z,k _ _ ⟨s1,?_,λ_ m=>(by cases m),λM z=>nomatch (show false=true from z)⟩⟩⟩;exact#[q,xs,rfl,z,I]
 ·exact#[q,xs,rfl,.inl #[.inl<|.inr #[o,z],λl hl=>k _ _ (gS s1 hl I λ_=>rfl)]]
def Jh{prog:Program}{w:World}{d:Addr}(hd:(d == sysModules)=false) :
  MeetsIn prog w (Builtin.«dict.__len__» ⟨[.ref d],[]⟩) (λ_ R s=>∃ o es ep,s.heap.get? d=some o/\o.data=.dict es ep/\R (.ok<|.ret<|.int es.size s.toks) { s with toks:=s.toks+1 }) :=
 .of_wp λA R s ⟨o,es,ep,O,I,h⟩=>by
  show wpAny _ _ (dictSize d >>= _) _ _ s;refine J2<|J2<|wpAny_dictEntries O I<|Qa ?_;refine J2<|wpAny_pendingCount_other hd ?_;refine wpAny_ret_mkInt ?_;exact h
def yV{prog:Program}{w:World}{K:Type} [DecidableEq K]{O:HeapKind prog w K}(hd:(d == sysModules)=false) :
  MeetsIn prog w (Builtin.«dict.__len__» ⟨[.ref d],[]⟩) (λ_ R s=>∃ xs,s.heap.DictOfH O d xs/\R (.ok<|.ret<|.int xs.length s.toks) { s with toks:=s.toks+1 }) :=
 .of_wp λA R s ⟨xs,hm,h⟩=>by
  let#[o,es,ep,U,Z,I,Y,_,_]:=hm;show wpAny _ _ (dictSize d >>= _) _ _ s;refine J2<|J2<|wpAny_dictEntries U I<|Qa ?_;refine J2<|wpAny_pendingCount_other hd ?_;refine wpAny_ret_mkInt ?_;rw[Nat.add_zero,size_of_entries Y];exact h
def rZ{prog:Program}{w:World}{K:Type} [DecidableEq K]{I:HeapKind prog w K}{A:Around}{E:Value->Shared->Prop}{s:Shared}{d:Addr}{xs:List (K × Addr × Value)}{Q:Value->Shared->Prop}(hd:(d == sysModules)=false)(hm:s.heap.DictOfH I d xs)(O:(xs.length:Int)<2 ^ 63)
 (h:Q (.int xs.length<|s.toks+1) { s with toks:=s.toks+1+1 }):wpAny (model prog w) A (call (.builtin "len") [.ref d]) Q E s:=by
 refine Calls.call_function_entry kind_len plain_len entry_len (args_len1 _) ?_;refine J2<|Qa ?_
 refine J2 (wpAny_callSpecial?_slot hm.typeIs F.slot_dict_len
  (call_meetsIn F.slot_dict_len hm.typeIs F.entry_dict_len (F.args_dict_len_1 _) (yV hd) ⟨xs,hm,?_⟩))
 refine J2<|wpAny_holding<|Qa ?_;refine J2<|wpAny_letGo ?_;rw[if_neg<|by omega];rw[if_neg<|by omega];exact J2<|wpAny_mkInt<|Qa ⟨_,rfl,h⟩
def Cz:bM X (.builtin "len") (λxs H Q=>∃ a bx,xs=[V.ref a]/\H a=some (.dT bx)/\Q (.int bx.length) H):=by
 intro ag s J H xs us Q I r h;let#[a,bx,rfl,ha,q]:=h;let#[u,rfl,R]:=vals1 r;cases R;let#[z,hd,xs,O,U]:=Fi I.b9 ha;have hl:=Paired.length O;refine rZ hd U (by rw[<-hl];rw[sizeLine_eq]at z;omega) ?_;rw[<-hl];exact#[.int bx.length,H,I.tok _,#[_,rfl],q]
def Cy:bM X (.builtin "len") (λxs H Q=>∃ a o bx,xs=[V.ref a]/\H a=some (.cy o<|.dT bx)/\Q (.int bx.length) H):=by
 intro ag s J H xs us Q I r h;let#[a,o,bx,rfl,ha,q]:=h;let#[u,rfl,Y]:=vals1 r;cases Y;let#[_,z,hd,xs,R,U,es,ep,g,ex,O,b,nd]:=I.b9 a _ ha;have hl:=Paired.length R;refine Calls.call_function_entry kind_len plain_len entry_len (args_len1 _) ?_;refine J2<|Qa ?_
 refine J2 (wpAny_callSpecial?_slot ⟨U,g,ex.1⟩ F.slot_dict_len
  (call_meetsIn F.slot_dict_len ⟨U,g,ex.1⟩ F.entry_dict_len (F.args_dict_len_1 _) (Jh hd) ⟨U,es,ep,g,O,?_⟩))
 have Z:es.size=bx.length:=by rw[<-length_toList,b,length_map,hl]
 rw[sizeLine_eq]at z;refine J2<|wpAny_holding<|Qa ?_;refine J2<|wpAny_letGo ?_;rw[if_neg<|by omega];rw[if_neg<|by omega];exact J2<|wpAny_mkInt<|Qa ⟨_,rfl,⟨.int bx.length,H,I.tok _,⟨_,by rw[Z]⟩,q⟩⟩
def Bu:bM X (.builtin "len") (λxs H Q=>∃ a o bx,xs=[V.ref a]/\H a=some (.cy o<|.dK bx)/\Q (.int bx.length) H):=by
 intro ag s J H xs us Q I r h;let#[a,o,bx,rfl,ha,q]:=h;let#[u,rfl,O]:=vals1 r;cases O
 exact F2 I (.inr #[o,ha]) λt s' R=>#[.int bx.length,H,R,#[t,rfl],q]
def BV:bM X (.builtin "len") (λxs H Q=>(∃ y n,xs=[y]/\JY X.K y H n/\Q (.int n) H)\/(∃ q bx,xs=[V.ref q]/\H q=some (.dK bx)/\Q (.int bx.length) H)\/(∃ q bx,xs=[V.ref q]/\H q=some (.dT bx)/\Q (.int bx.length) H)\/(∃ q o bx,xs=[V.ref q]/\H q=some (.cy o<|.dT bx)/\Q (.int bx.length) H)\/∃ q o bx,xs=[V.ref q]/\H q=some (.cy o<|.dK bx)/\Q (.int bx.length) H):=bM.or D7<|bM.or B3<|bM.or Cz<|bM.or Cy Bu
def Lv(Z:Gl X "len")(hm:X.mg "len" = none)(ha:SE X cl a a')(hn:noStar a=true):SE X cl (.Call (.Name "len" p) [a] [] pos) (.bi .len a'):=by
 refine lT BV Z hm PySem.boot_len ha hn ∅ ∅ λU J H b y d v Q e s1 r1 k=>?_
 cases y<;>first | (cases e;done) | skip
 case str t =>
  rw[RL.Nf]at e;split at e
  ·rename_i Y;cases e;rw[aR r1];exact .inl #[_,_,rfl,#[Qp Y cT,rfl],k _ _<|dN s1 bC rfl]
  ·cases e
 case tup t =>
  cases e;let#[q,xs,rfl,O,I]:=bw r1;dsimp only at k;rw[I.length]at k;exact .inl #[_,_,rfl,.inr #[xs,ed.of O,rfl],k _ _<|dN s1 bC rfl]
 case lst t =>
  cases e;let#[q,xs,rfl,_,O,I]:=bb r1;dsimp only at k;rw[I.length]at k;exact .inl #[_,_,rfl,.inl #[xs,dz.of O,rfl],k _ _<|dN s1 bC rfl]
 case fL t =>
  cases e;let#[q,o,xs,rfl,O,I]:=r1;dsimp only at k;rw[I.length]at k;exact .inl #[_,_,rfl,.inl #[xs,.inl<|.inr #[o,O],rfl],k _ _<|dN s1 bC rfl]
 case dK ks t =>
  cases e;let#[q,xs,rfl,_,O,R,I]:=r1;refine .inr<|.inl #[q,_,rfl,O,?_]
  have:(ks.zip xs).length=ks.length:=by rw[List.length_zip,<-I.length,R,min_self]
  rw[this];exact k _ _<|dN s1 bC rfl
 case fK ks t =>
  cases e;let#[q,o,xs,rfl,O,R,I]:=r1;refine .inr<|.inr<|.inr<|.inr #[q,o,_,rfl,O,?_]
  have:(ks.zip xs).length=ks.length:=by rw[List.length_zip,<-I.length,R,min_self]
  rw[this];exact k _ _<|dN s1 bC rfl
abbrev tyN:RL.Ty->String
 | .int => "int"
 | .bool => "bool"
 | .list => "list"
 | .tuple => "tuple"
 | .str => "str"
def DH:bM X (.builtin "isinstance") (λxs H Q=>∃ y t T k,xs=[y,.ty T]/\gF X.K H y t/\W.kitOne X.K t (.type T)=some k/\Q (.bl k) H):=by
 intro ag s J H xs us Q I r h;let#[y,t,T,k,rfl,ty,e,q]:=h;let#[u,w,rfl,r1,r2]:=vals2 r;cases r2
 exact Bf I r1 ty e λO=>#[.bl k,H,I.tok O,rfl,q]
def LL(h:RL.zR t d=some k)(r:Rep nP X.K H d v):∃ ty,gF X.K H v ty/\W.kitOne X.K ty (.type<|tyN t)=some k:=by
 cases d with
 | cb=>rw[Rep]at r;subst r;refine#[_,.cb,?_];cases t<;>(cases h;rfl)
 | bl i=>rw[bJ r];refine#[_,.bl i,?_];cases t<;>(cases h;rfl)
 | int i=>rw[ay r];refine#[_,.int i,?_];cases t<;>(cases h;rfl)
 | str i=>rw[aR r];refine#[_,.str i,?_];cases t<;>(cases h;rfl)
 | tup i=>let#[q,xs,rfl,I,O]:=bw r;refine#[_,.tup I,?_];cases t<;>(cases h;rfl)
 | lst i=>let#[q,xs,rfl,_,I,O]:=bb r;refine#[_,.lst I,?_];cases t<;>(cases h;rfl)
 | fL i=>rw[Rep]at r;let#[q,o,xs,rfl,I,O]:=r;refine#[_,.cy I,?_];cases t<;>(cases h;rfl)
 | _=>cases t<;>cases h
def Ku(g:Gl X "isinstance")(hm:X.mg "isinstance" = none)(Z:Gl X y)(Y:X.mg y=none)(f:bootBuiltins y=some (.type<|tyN t))(R:y ≠ "__name__")(O:(y == ("__debug__" : Str))=false)(ha:SE X cl a a')(hn:noStar a=true) :
  SE X cl (.Call (.Name "isinstance" p) [a,.Name y p2] [] pos) (.ra a' t):=by
 have U:PE X (.Name y p2) (tC<|.ty<|tyN t):=HL Z Y f rfl R O;refine PE.weak (oT DH g hm (by decide +kernel) (bu ha (bu U cU rfl)<|aP _ hn) ∅ ∅ (aP _ hn) rfl) λJ H Q h=>?_;let#[I,d,c,e,k]:=h;let#[u,l,e]:=bind_some e;let#[b,n,m]:=map_some e;subst m;refine#[I,u,c,l,λv o r1=>?_];let#[ty,j,i]:=LL n r1.rep;exact#[v,ty,_,b,rfl,j,i,k _ _<|gh r1.same]
end rules
end RS
namespace L2
open PySem PySem.Spec PyProof.Rows
structure nG(prog:Program)(w:World):Prop where
 draws:∀ {A:Around},A.handled=none->∀ (ti tp:Addr),tp≠ti->∀ bq:Array Value,Draws prog w A ti [ti,tp] bq.size (λi v=>bq[i]?=some v) λi h=>h.IsTupleIter ti tp i/\h.IsTuple tp bq
 call:∀ {A:Around} {E:Value->Shared->Prop} {z:Shared} {tp:Addr} {bq:Array Value} {Q:Value->Shared->Prop},z.heap.IsTuple tp bq ->
  (∀ g,IsEnum g (z.heap.objs.size+1) z.heap.objs.size 0 .none->g.IsTupleIter z.heap.objs.size tp 0->(∀ b o,z.heap.get? b=some o->g.get? b=some o)->Q (.ref<|z.heap.objs.size+1) { z with heap:=g })->wpAny (model prog w) A (call (.type "enumerate") [.ref tp]) Q E z
section
def Inv.Gx{h':Heap}{t':Nat}{fp:List Addr}(I:Inv X ag J H s)(k:∀ b o,b∉fp->s.heap.get? b=some o->h'.get? b=some o)(R:∀ b∈fp,H b=none/\(b∈X.ex\/X.s₀.heap.objs.size<=b)/\b≠X.env.locals/\(∀ x c,X.env.cells.lookup x=some c->c≠b)/\∀ p∈X.pn++ag,p.1≠b) :
  Inv X ag J H { s with heap:=h',toks:=t' }:=by
 have nf:∀ b u,H b=some u->b∉fp:=λb u e z=>by rw[(R b z).1]at e;cases e
 refine I.EO (s':={ s with heap:=h',toks:=t' }) (ch:=fp) rfl ⟨λb o e _ _ O=>k b o O e,λb o e _ _ O=>#[o.slots,k b o O e],λ_ _ _ n _=>n,λb o e O=>#[o,k b o O e],λ_ _ e=>e,λ_ _ _ e=>e,λb ps e=>#[(List.toArray []),by rw[e];simp]⟩ (λb u e=>?_) I.bare λb hb=>(R b hb).2;refine(I.b9 b u e).kO (λc v U q=>k c v ?_ q) (λ_ q=>q) λ_ _ q=>q;rcases U with z | z
 ·rw[z];exact nf b u e
 ·exact nf c _ z
end
abbrev Ite(cont:Hp->List V->Prop):It :=
 ⟨λi H=>∃ xs x,cont H xs/\xs[i]?=some x,λi H v H'=>∃ p x,H p=none/\v=.ref p/\H'=upd H p (.tup [.int i,x])/\∀ xs,cont H xs->xs[i]?=some x,λi H=>∃ xs,cont H xs/\xs.length=i⟩
structure Src(P:Program)(w:World)(K:W.Frag)(e it:Addr)(cont:Hp->List V->Prop)(ia:Nat->Heap->Prop):Prop where
 obj:∀ i h,ia i h->∃ o,h.get? it=some o/\∀ v,o.data≠.cell v
 keep:∀ i h h',ia i h->(∀ o,h.get? it=some o->h'.get? it=some o)->ia i h'
 inj:∀ (H:Hp) xs ys,cont H xs->cont H ys->xs=ys
 dr:∀ (X:Cx),X.prog=P->X.w=w->X.K=K->X.calm=true->∀ (ag:List (Addr × Obj)) (s:Shared) (J:St) (H:Hp) (xs:List V),Inv X ag J H s->H e=none->H it=none->cont H xs ->
  ∃ (fp:List Addr) (Pv:Nat->Value->Prop) (St:Nat->Heap->Prop),Draws P w X.A.in1 it fp xs.length Pv St/\e∉fp/\(∀ i,ia i s.heap->St i s.heap)/\(∀ i h,St i h->ia i h)/\∀ i v,Pv i v->∃ x,xs[i]?=some x/\RelV x v
def AY{P:Program}{w:World}{K:W.Frag}(j:e≠it)(S:Src P w K e it cont ia) :
  Turn P w K (.Tuple elts kx tp) (Ite cont) [e,it] e (λi h=>(∃ O,IsEnum h e it i O)/\ia i h) where
 mem:=by simp
 obj:=λi h st b hb=>by
  rcases List.mem_cons.mp hb with rfl | hb
  ·let#[#[O,U],_]:=st;exact⟨_,U,λv z=>by cases z⟩
  ·rw[List.mem_singleton.mp hb];exact S.obj i h st.2
 keep:=λi h h' st k=>by
  let#[#[O,U],hi]:=st;exact#[#[O,k e (by simp) _ U],S.keep i h h' hi λo q=>k it (by simp) o q]
 item:=by
  intro X n y T M i ag s J H E I d st G;subst n y T;let#[#[O,U],hi]:=st;let#[xs,x,r,g]:=G;have fe:=d e (by simp);have t:=d it (by simp);let#[fp,Pv,St,D,l,V,h2,h3]:=S.dr X rfl rfl rfl M ag s J H xs I fe.1 t.1 r;have C:i<xs.length:=(List.getElem?_eq_some_iff.mp g).1;refine wpAny_pyNext_enum_itemD D U (V i hi) C j l λv h' R n ho B hT hsz hk=>?_;let#[x',f,rx]:=h3 i v n;rw[g]at f;cases f;refine#[.ref s.heap.objs.size,rfl,wpAny_letOwnedTupleGo_enum ho λa L Z=>?_];have hn:H s.heap.objs.size=none:=I.b9.fresh<|Qc _
  have I1:Inv X ag J (upd H s.heap.objs.size<|.tup [.int i,x]) { s with heap:=s.heap.push { cls:=.type "tuple",data:=.seq (List.toArray [.int i R,v]) },toks:=R+1 } :=
   I.laid (t':=R+1) (λb u q=>Qb _ q) (Qc _) ⟨by show 2<=sizeLine;decide,[.int i R,v],.cons ⟨R,rfl⟩<|.cons rx .nil,⟨_,Qf _ rfl,rfl,_,rfl⟩⟩
  have QN:e<s.heap.objs.size:=Qg U
  have F:it<s.heap.objs.size:=by let#[o,q,_]:=S.obj i _ hi;exact Qg q
  have Y:∀ b∈[e,it],upd H s.heap.objs.size (.tup [.int i,x]) b=none/\(b∈X.ex\/X.s₀.heap.objs.size<=b)/\b≠X.env.locals/\(∀ x c,X.env.cells.lookup x=some c->c≠b)/\∀ p∈X.pn++ag,p.1≠b:=λb hb=>by
   let#[f0,f1,f2,f3,f4,f5]:=d b hb
   have N:b≠s.heap.objs.size:=by
    rcases List.mem_cons.mp hb with rfl | hb
    ·exact Qk QN
    ·rw[List.mem_singleton.mp hb];exact Qk F
   exact#[by rw[aj N];exact f0,f3,f1,f4,f5]
  have I2:Inv X ag J (upd H s.heap.objs.size<|.tup [.int i,x]) { s with heap:=a,toks:=R+1 }:=by
   refine Inv.Gx (s:={ s with heap:=s.heap.push { cls:=.type "tuple",data:=.seq (List.toArray [.int i R,v]) },toks:=R+1 }) (h':=a) (t':=R+1) (fp:=[e,it]) I1 (λb o hb q=>?_) Y;have b1:b≠e:=λz=>hb (by simp[z]);have b2:b≠it:=λz=>hb (by simp[z]);refine Z.extBut b o b1 ?_;by_cases m:b=s.heap.objs.size
   ·subst m;have q':(s.heap.push { cls:=.type "tuple",data:=.seq (List.toArray [.int i R,v]) }).get? s.heap.objs.size=some o:=q;rw[Qf _ rfl]at q';cases q';exact hT
   ·have q':s.heap.get? b=some o:=(Heap.get?_push_ne _ _ _ m).symm.trans q;exact hk b o b1 b2 q'
  refine#[.ref s.heap.objs.size,_,I2,rfl,#[s.heap.objs.size,x,hn,rfl,rfl,λys hy=>by rw[S.inj H ys xs hy r];exact g],#[#[v,by simpa using L],S.keep _ h' a (h2 _ _ B) λo q=>Z.extBut _ _ (Ne.symm j) q],λb hb=>(Y b hb).1]
 done:=by
  intro X n y T M i ag s J H E I d st G;subst n y T;let#[#[O,U],hi]:=st;let#[xs,r,g]:=G;have fe:=d e (by simp);have t:=d it (by simp);let#[fp,Pv,St,D,l,V,h2,h3]:=S.dr X rfl rfl rfl M ag s J H xs I fe.1 t.1 r;subst g
  refine wpAny_pyNext_enum_endD D U (V _ hi) λh' eb=>#[rfl,?_]
  let#[f0,f1,f2,f3,f4,f5]:=t;exact I.turned (it:=it) (h':=h') (t':=s.toks) (λb o hb q=>eb b o hb q) f0 f1 f3 f4 f5
 self:=λA i s Q E st h=>by
  let#[#[O,U],hi]:=st;exact wpAny_pyIter_enum U h
def src_list{P:Program}{w:World}{K:W.Frag}(b:e≠it):Src P w K e it (λH xs=>H l=some (.lst xs)) (λi h=>h.IsListIter it l i) where
 obj:=λi h st=>let ⟨o,d,_,hd⟩:=st;⟨o,d,λv q=>by rw[hd]at q;cases q⟩
 keep:=λi h h' st k=>st.at λo q=>k o q
 inj:=λH xs ys Y U=>by rw[Y]at U;cases U;rfl
 dr:=by
  intro X n c r j ag s J H xs I g hi a;subst n c r;let#[bq,Z,p,t]:=I.list<|dz.of a
  have hl:bq.toArray.size=xs.length:=by rw[size_toArray,Z.length]
  have f:X.A.in1.handled=none:=I.ok.hd.1 j;have D:=Draws.list (prog:=X.prog) (w:=X.w) (A:=X.A.in1) f it l (aM a hi) bq.toArray;rw[hl]at D;refine#[_,_,_,D,?_,λi st=>#[st,p.isList],λi h st=>st.1,λi v R=>?_]
  ·intro m;rcases List.mem_cons.mp m with q | m
   ·exact b q
   ·exact(aM a g).symm<|List.mem_singleton.mp m
  ·have R:bq[i]?=some v:=by simpa using R
   have O:i<xs.length:=by rw[Z.length];exact(List.getElem?_eq_some_iff.mp R).1
   let#[u,Y,U]:=Z.get (i:=i) (x:=xs[i]) (by simp[O]);rw[R]at Y;cases Y;exact#[xs[i],by simp[O],U]
def HI{P:Program}{w:World}{K:W.Frag}(TE:nG P w)(c:e≠it):Src P w K e it (λH xs=>H l=some (.tup xs)) (λi h=>h.IsTupleIter it l i) where
 obj:=λi h st=>let ⟨o,b,_,hd⟩:=st;⟨o,b,λv q=>by rw[hd]at q;cases q⟩
 keep:=λi h h' st k=>let ⟨o,b,r⟩:=st;⟨o,k o b,r⟩
 inj:=λH xs ys Y U=>by rw[Y]at U;cases U;rfl
 dr:=by
  intro X n d t j ag s J H xs I g hi a;subst n d t;let#[bq,Z,p,y]:=I.tuple<|ed.of a
  have hl:bq.toArray.size=xs.length:=by rw[size_toArray,Z.length]
  have f:X.A.in1.handled=none:=I.ok.hd.1 j;have D:=TE.draws (A:=X.A.in1) f it l (aM a hi) bq.toArray;rw[hl]at D;refine#[_,_,_,D,?_,λi st=>#[st,p],λi h st=>st.1,λi v R=>?_]
  ·intro m;rcases List.mem_cons.mp m with q | m
   ·exact c q
   ·exact(aM a g).symm<|List.mem_singleton.mp m
  ·have R:bq[i]?=some v:=by simpa using R
   have O:i<xs.length:=by rw[Z.length];exact(List.getElem?_eq_some_iff.mp R).1
   let#[u,Y,U]:=Z.get (i:=i) (x:=xs[i]) (by simp[O]);rw[R]at Y;cases Y;exact#[xs[i],by simp[O],U]
abbrev kg(x:Str):List V:=x.cps.toList.map λc=>.str ⟨(List.toArray [c])⟩
def GC{P:Program}{w:World}{K:W.Frag}(U:e≠it):Src P w K e it (λ_ xs=>xs=kg x) (λi h=>h.IsStrIter it (strIterType x) x t i) where
 obj:=λi h st=>let ⟨o,R,_,hd⟩:=st;⟨o,R,λv q=>by rw[hd]at q;cases q⟩
 keep:=λi h h' st k=>let ⟨o,R,r⟩:=st;⟨o,k o R,r⟩
 inj:=λH xs ys Z Y=>by rw[Z,Y]
 dr:=by
  intro X n g p l ag s J H xs I z hi f;subst n g p f;have d:X.A.in1.handled=none:=I.ok.hd.1 l
  have hl:x.cps.size=(kg x).length:=by simp[kg]
  have a:∀ (i:Nat) (v:Value),(∃ c u,x.cps[i]?=some c/\v=Value.str ⟨(List.toArray [c])⟩ u)->∃ y,(kg x)[i]?=some y/\RelV y v:=λi v j=>by
   let#[c,u,Z,Y]:=j;exact#[.str #[(List.toArray [c])],by simp[kg,Z],u,Y]
  have b:e∉[it]:=λm=>U<|List.mem_singleton.mp m
  cases ha:x.cps.all (·<128)with
  |true=>
   have O:strIterType x = "str_ascii_iterator" := by simp[strIterType,ha]
   have D:=Draws.strAscii (prog:=X.prog) (w:=X.w) (A:=X.A.in1) d it x t;rw[hl]at D;exact#[_,_,_,D,b,λi st=>by rw[O]at st;exact st,λi h st=>by rw[O];exact st,a]
  |false=>
   have O:strIterType x = "str_iterator" := by simp[strIterType,ha]
   have D:=Draws.strWide (prog:=X.prog) (w:=X.w) (A:=X.A.in1) d it x t;rw[hl]at D;exact#[_,_,_,D,b,λi st=>by rw[O]at st;exact st,λi h st=>by rw[O];exact st,a]
section
abbrev M4(O:TA):TI:=λJ H R=>O J H λvs I=>(∃ l xs,vs=[.ref l]/\I l=some (.lst xs)/\R (Ite λH xs=>H l=some (.lst xs)) I)\/(∃ l xs,vs=[.ref l]/\I l=some (.tup xs)/\R (Ite λH xs=>H l=some (.tup xs)) I) \/
 (∃ x,vs=[.str x]/\R (Ite λ_ xs=>xs=kg x) I)
def ot(I:Inv X ag J H s)(S:Src X.prog X.w X.K (s.heap.objs.size+1) s.heap.objs.size cont ia)
 (U:IsEnum g (s.heap.objs.size+1) s.heap.objs.size 0 .none)(hi:ia 0 g)(Y:∀ b o,s.heap.get? b=some o->g.get? b=some o)(q:R (Ite cont) H) :
  wpAny (model X.prog X.w) X.A (pyIter<|.ref<|s.heap.objs.size+1) (PIE X ag J (.Tuple elts kx tp) R) E { s with heap:=g }:=by
 refine wpAny_pyIter_enum U ⟨s.heap.objs.size+1,[s.heap.objs.size+1,s.heap.objs.size],_,_,H,rfl,I.kept (t':=s.toks) Y,AY (Nat.succ_ne_self _) S,⟨⟨.none,U⟩,hi⟩,λb hb=>?_,q⟩
 have O:s.heap.objs.size<=b:=by
  rcases List.mem_cons.mp hb with z | z
  ·rw[z];exact Nat.le_succ _
  ·rw[List.mem_singleton.mp z];exact Qc _
 exact I.sH O<|I.b9.fresh O
def FD(TE:nG X.prog X.w)(m:Gl X "enumerate")(hm:X.mg "enumerate" = none)(ha:PA X [a] ta)(k:starEach [a] X.env=[(false,eval a X.env)]):PI X (.Tuple elts kx tp) (.Call (.Name "enumerate" p) [a] [] pos) (M4 ta):=by
 intro ag s J H R I h;refine Call_ (kf I m hm boot_enumerate (PyProof.Rows.callWith_type1 (cg (ha pos ag s J H _ I h) λus s1 e=>x2_2 e λvs n Z r1 i=>?_) k rfl) ∅ ∅)
 rcases i with⟨l,xs,rfl,c,q⟩ | ⟨l,xs,rfl,c,q⟩ | ⟨x,rfl,q⟩
 ·let#[u,rfl,O]:=vals1 r1;cases O;let#[bq,f,b,j]:=Z.list<|dz.of c;exact call_enumerate_list b.isList λg Y hi d U=>ot Z (src_list<|Nat.succ_ne_self _) Y hi U q
 ·let#[u,rfl,O]:=vals1 r1;cases O;let#[bq,f,b,j]:=Z.tuple<|ed.of c;exact TE.call b λg Y hi U=>ot Z (HI TE<|Nat.succ_ne_self _) Y hi U q
 ·let#[u,rfl,O]:=vals1 r1;let#[t,rfl]:=O;exact call_enumerate_str λg Y hi d U=>ot Z (GC<|Nat.succ_ne_self _) Y hi U q
end
end L2
namespace RS
open PySem PySem.Spec PyProof.Rows L2
def lX:∀ (ds:List RL.D) (k:Int),(RL.fk k ds).length=ds.length
 | [],_=>rfl
 | d::r,k=>by rw[RL.fk,length_cons,length_cons,lX r]
def sU:∀ (ds:List RL.D) (k:Int) (i:Nat) (d:RL.D),(RL.fk k ds)[i]?=some d->∃ e,ds[i]?=some e/\d=.tup [.int<|k+i,e]
 | [],k,i,d,h=>by simp[RL.fk]at h
 | e::r,k,0,d,h=>by simp[RL.fk]at h;exact#[e,rfl,by simp[h]]
 | e::r,k,i+1,d,h=>by
  let#[e',I,O]:=sU r (k+1) i d h;refine#[e',by simpa using I,?_];congr 3;lia
def iQ{K:W.Frag}(I:∀ H',Off P H H'->cont H' xs)(c:∀ H' ys,cont H' xs->cont H' ys->ys=xs)(r:ab nP K H ds xs)(hm:∀ b o,P b->H b=some o->d6 o):lH K (Ite cont) (RL.fk 0 ds) P H where
 go:=λH' i k hi=>by
  rw[lX]at hi;let#[x,e,_]:=r.get (i:=i) (d:=ds[i]) (by simp[]);exact#[xs,x,I H' k,e]
 stop:=λH' k=>#[xs,I H' k,by rw[lX,r.length]]
 n7:=λH' i d v H2 k e y=>by
  let#[p,x,O,rfl,rfl,Y]:=y;let#[e',Z,rfl]:=sU ds 0 i d e;let#[a,U,R]:=r.get Z;rw[Y xs<|I H' k]at U;cases U;refine#[aB.d8 O,λq=>?_]
  have re:Rep nP K H' e' x:=by
   rcases q with q | q
   ·have q:(true&&(e'.ax&&true))=true:=q;simp only[Bool.true_and,Bool.and_true]at q;exact l9 hm k R q
   ·exact R.same q
  refine#[p,[.int i,x],rfl,ao,ab.cons ?_<|ab.cons (re.same<|aB.d8 O) ab.nil];simpa using(bC)
def Bc{P:Addr->Prop}{K:W.Frag}(h:RL.gA d=some ds)(r:Rep P K H d v):(∃ p xs,v=.ref p/\H p=some (.lst xs)/\d=.lst ds/\ab P K H ds xs)\/(∃ p xs,v=.ref p/\H p=some (.tup xs)/\d=.tup ds/\ab P K H ds xs) \/
  (∃ x,v=.str x/\d=.str x/\ds=x.cps.toList.map λc=>.str ⟨(List.toArray [c])⟩):=by
 cases d<;>simp only[RL.gA]at h<;>first | (cases h;done) | skip
 case lst ys=>cases h;let#[p,xs,R,_,O,I]:=bb r;exact .inl #[p,xs,R,O,rfl,I]
 case tup ys=>cases h;let#[p,xs,R,O,I]:=bw r;exact .inr<|.inl #[p,xs,R,O,rfl,I]
 case str x=>cases h;exact .inr<|.inr #[x,aR r,rfl,rfl]
def k6{P:Addr->Prop}{K:W.Frag}:∀ (I:List Nat),ab P K H (I.map λc=>RL.D.str ⟨(List.toArray [c])⟩) (I.map λc=>V.str ⟨(List.toArray [c])⟩)
 | []=>ab.nil
 | c::r=>ab.cons gn<|k6 r
section rules
def Lr(TE:nG X.prog X.w)(m:Gl X "enumerate")(hm:X.mg "enumerate" = none)(ha:SE X cl a a')(hn:noStar a=true):SI X cl (.Tuple elts kx tp) (.Call (.Name "enumerate" p) [a] [] pos) (.tm a'):=by
 intro ag s J H R I h;let#[f,ds,j,e,k]:=h;let#[d,u,t]:=bind_some e;let#[es,r,n]:=map_some t;subst n;have g:=bu ha cU<|aP [] hn;refine FD TE m hm g (aP [] hn) ag s J H R I ⟨f,d,j,u,λv y r1=>?_⟩
 rcases Bc r r1.rep with⟨l,xs,rfl,Z,rfl,c⟩ | ⟨l,xs,rfl,Z,rfl,c⟩ | ⟨x,rfl,rfl,rfl⟩
 ·refine .inl ⟨l,xs,rfl,Z,k _ _ r1.same ⟨iQ (λH' o=>o _ _ (λz=>z) Z) (λH' ys Y O=>by rw[Y]at O;cases O;rfl) c jg,λM P z U av=>?_⟩⟩;exact iQ (λH' o=>o _ _ (BI r1 z U av _ _ rfl rfl) Z) (λH' ys Y O=>by rw[Y]at O;cases O;rfl) c<|gc r1.same U
 ·have i:∀ P:Addr->Prop,(∀ b o,P b->y b=some o->d6 o)->¬ P l:=λP U q=>U l _ q Z;exact .inr (.inl ⟨l,xs,rfl,Z,k _ _ r1.same ⟨iQ (λH' o=>o _ _ (i _ jg) Z) (λH' ys Y O=>by rw[Y]at O;cases O;rfl) c jg,λM P z U av=>iQ (λH' o=>o _ _ (i P<|gc r1.same U) Z) (λH' ys Y O=>by rw[Y]at O;cases O;rfl) c<|gc r1.same U⟩⟩)
 ·exact .inr (.inr #[x,rfl,k _ _ r1.same #[iQ (λH' o=>rfl) (λH' ys Y O=>O) (k6 _) jg,λM P z U av=>iQ (λH' o=>rfl) (λH' ys Y O=>O) (k6 _)<|gc r1.same U]])
end rules
end RS
namespace HT
open PySem PySem.Spec PySem.W PySem.Calls PyProof.Rows
section
variable{prog:Program}{w:World}{A:Around}{E:Value->Shared->Prop}{s:Shared}
def nO{t sl:Addr}{items:Array Value}{a Z:Value}{lo hi:Option Int}{Q:Value->Shared->Prop}(O:IsTup s.heap t items)(c:s.heap.IsSliceOf sl a Z .none)(d:IsPart a lo)(pu:IsPart Z hi)
 (b:cw items.size 0 lo=0/\cw items.size items.size hi=items.size)(h:Q (.ref t) s):wpAny (model prog w) A (getItem (.ref t)<|.ref sl) Q E s:=by
 let#[os,R,U,e]:=id c
 have Y:s.TypeIs (.ref sl) "slice" := #[os,R,U]
 unfold getItem
 try with_reducible refine wpAny_holding ?_
 first | refine J2 (Qa ?_) | skip
 refine J2<|wpAny_sequenceKey O.typeIs ∅ ?_
 refine J2 (wpAny_callSpecial?_slot O.typeIs PyProof.Rows.slot_tuple_getitem
  (wpAny_call_entry PyProof.Rows.slot_tuple_getitem O.typeIs entry_tuple_getitem ?_<|args_tuple_getitem _ _))
 show wpAny _ _ (Builtin.Tuple.tupleItemsOf (.ref t) >>= _) _ _ s;refine J2<|tupleItemsOf_ O ?_;refine J2<|wpAny_typeOf Y ?_;refine J2<|ja c d pu ?_;rw[b.1,b.2]
 have I:((((0:Nat):Int)) == 0&&(1:Int) == 1&&(items.size-0) == items.size)=true:=by simp
 show wpAny _ _ (if((((0:Nat):Int)) == 0&&(1:Int) == 1&&(items.size-0) == items.size)=true then _ else _) _ _ s;rw[if_pos I];refine J2<|J2<|wpAny_typeOf O.typeIs<|Qa ?_;exact J2<|wpAny_rule<|Qa ⟨_,rfl,Qa h⟩
end
end HT
namespace L2
open PySem PySem.Spec PyProof.Rows
abbrev L7(K:W.Frag):V->Option Int->Option Int->Hp->VK->Prop:=λx lo hi H Q=>∃ a xs,x=.ref a/\ed K H a xs/\(HT.cw xs.length 0 lo=0->HT.cw xs.length xs.length hi=xs.length->Q (.ref a) H)/\∀ p,H p=none->Q (.ref p) (upd H p<|.tup<|iD xs lo hi)
def qR{X:Cx}:vm X (L7 X.K):=by
 intro ag s J H x v d c lo hi sl Q I R b U pu h;let#[a,xs,rfl,Y,f,e]:=h;by_cases O:HT.cw xs.length 0 lo=0/\HT.cw xs.length xs.length hi=xs.length
 ·cases R;let#[bq,r,Z,g]:=I.tuple Y
  have hlen:bq.toArray.size=xs.length:=by rw[size_toArray];exact r.length.symm
  refine#["tuple",_,PyProof.Rows.slot_tuple_getitem.lookup,Z.typeIs,?_];exact HT.nO Z b U pu (by rw[hlen];exact O) ⟨.ref a,H,I,rfl,f O.1 O.2⟩
 ·exact LJ ag s J H _ v d c lo hi sl Q I R b U pu ⟨a,xs,rfl,Y,O,e⟩
end L2
namespace RS
open PySem PySem.Spec PyProof.Rows L2
def wD{X:Cx}{lo hi:Option Int}{e:RL.E}{I:List RL.D}{ys:List V}(R:aB H H2)(U:Rep nP X.K H2 (.tup xs) (.ref q))(c:H2 q=some (.tup ys))(d:ab nP X.K H2 xs ys)(O:∀ M,RL.kd M e=false)
 (Z:HT.cw ys.length 0 lo=0->HT.cw ys.length ys.length hi=ys.length->I=xs)(Y:ab nP X.K H2 I (iD ys lo hi))(k:∀ v H',Res X.K QO J H e (.tup I) v H'->Q v H'):L7 X.K (.ref q) lo hi H2 Q :=
 ⟨q,ys,rfl,ed.of c,λa b=>by
  cases Z a b
  exact k _ _ ⟨R,U,λ_ m=>(by cases m),λM z=>by rw[O M]at z;cases z⟩,λl hl=>k _ _<|gS R hl Y O⟩
section rules
variable{X:Cx}
def Ge{P:Addr->Prop}{K:W.Frag}(h:Rep P K H (.lq ds) v):∃ a xs,v=.ref a/\mn K H a xs/\ab P K H ds xs:=by rw[Rep]at h;exact h
def mz(n:Nat)(k:Int):HT.cw n n (some k)=RL.cutAt n k:=by
 have h:=HT.iV k n n;unfold RL.cutAt;split at h
 ·rw[if_neg ⋯];lia
 ·rw[if_pos ⋯];lia
def kH(n:Nat)(k:Int):HT.cw n 0 (some k)=RL.cutAt n k:=by
 have h:=HT.iV k n 0;unfold RL.cutAt;split at h
 ·rw[if_neg ⋯];lia
 ·rw[if_pos ⋯];lia
def Gd(h:RL.m9 x y=some d):∃ n,y=.int n/\((∃ xs,(x=.lst xs\/x=.lq xs\/x=.fL xs)/\d=.lst (xs.take<|RL.cutAt xs.length n))\/∃ xs,x=.tup xs/\d=.tup (xs.take<|RL.cutAt xs.length n)):=by
 unfold RL.m9 at h;split at h
 ·exact#[_,rfl,.inl #[_,.inr<|.inr rfl,(Option.some.inj h).symm]]
 ·exact#[_,rfl,.inl #[_,.inr<|.inl rfl,(Option.some.inj h).symm]]
 ·exact#[_,rfl,.inl #[_,.inl rfl,(Option.some.inj h).symm]]
 ·exact#[_,rfl,.inr #[_,rfl,(Option.some.inj h).symm]]
 ·cases h
def Gy(h:RL.sf x y=some d):∃ n,y=.int n/\((∃ xs,(x=.lst xs\/x=.fL xs)/\d=.lst (xs.drop<|RL.cutAt xs.length n))\/∃ xs,x=.tup xs/\d=.tup (xs.drop<|RL.cutAt xs.length n)):=by
 unfold RL.sf at h;split at h
 ·exact#[_,rfl,.inl #[_,.inr rfl,(Option.some.inj h).symm]]
 ·exact#[_,rfl,.inl #[_,.inl rfl,(Option.some.inj h).symm]]
 ·exact#[_,rfl,.inr #[_,rfl,(Option.some.inj h).symm]]
 ·cases h
def Br{P:Addr->Prop}{K:W.Frag}{H:Hp}(r:Rep P K H x v)(h:x=.lst xs\/x=.lq xs\/x=.fL xs):∃ q ys,v=.ref q/\dz K H q ys/\ab P K H xs ys:=by
 rcases h with rfl | rfl | rfl
 ·let#[q,ys,rfl,_,O,I]:=bb r;exact#[q,ys,rfl,dz.of O,I]
 ·let#[q,ys,rfl,O,I]:=Ge r;exact#[q,ys,rfl,O.seq,I]
 ·rw[Rep]at r;let#[q,o,ys,rfl,O,I]:=r;exact#[q,ys,rfl,.inl<|.inr #[o,O],I]
def Ke(ha:SE X cl a a')(hb:SE X cl b b'):SE X cl (.Subscript a (.Slice none (some b) none p2) pos) (.mS a' b'):=by
 refine PE.weak (oC (vm.or rN qR) ha xH<|nH hb) λJ H Q h=>?_;let#[O,d,Z,e,k]:=h;let#[x,g,e]:=bind_some e;let#[y,f,e]:=bind_some e;refine#[O,x,Z,g,λv i r1=>#[O,y,Z.same r1.same,f,λu H2 r2=>?_]];have R:=r1.rep.same r2.same;have Y:=r1.same.trans r2.same;obtain⟨n,rfl,⟨xs,c,rfl⟩ | ⟨xs,rfl,rfl⟩⟩:=Gd e
 ·let#[q,ys,rfl,U,I]:=Br R c;refine#[n,ay r2.rep,.inl #[q,ys,rfl,U,λl hl=>?_]];unfold iD;rw[uR,<-I.length];exact k _ _ (d9 Y hl (I.take _) λ_=>rfl)
 ·let#[q,ys,rfl,U,I]:=bw R;refine#[n,ay r2.rep,.inr (wD Y R U I (λ_=>rfl) (λ_ z=>?_) ?_ k)]
  ·rw[mz,<-I.length]at z;rw[z,take_length]
  ·unfold iD;rw[uR,<-I.length];exact I.take _
def Jp(ha:SE X cl a a')(hb:SE X cl b b'):SE X cl (.Subscript a (.Slice (some b) none none p2) pos) (.ry a' b'):=by
 refine PE.weak (oC (vm.or rN qR) ha (nH hb) xH) λJ H Q h=>?_;let#[O,d,Z,e,k]:=h;let#[x,g,e]:=bind_some e;let#[y,f,e]:=bind_some e;refine#[O,x,Z,g,λv i r1=>#[O,y,Z.same r1.same,f,λu H2 r2=>?_]];have R:=r1.rep.same r2.same;have Y:=r1.same.trans r2.same;obtain⟨n,rfl,⟨xs,c,rfl⟩ | ⟨xs,rfl,rfl⟩⟩:=Gy e
 ·let#[q,ys,rfl,U,I]:=Br R<|c.imp_right .inr;refine#[n,ay r2.rep,.inl #[q,ys,rfl,U,λl hl=>?_]];unfold iD;rw[uC,<-I.length];exact k _ _ (d9 Y hl (I.drop _) λ_=>rfl)
 ·let#[q,ys,rfl,U,I]:=bw R;refine#[n,ay r2.rep,.inr (wD Y R U I (λ_=>rfl) (λz _=>?_) ?_ k)]
  ·rw[kH,<-I.length]at z;rw[z,drop_zero]
  ·unfold iD;rw[uC,<-I.length];exact I.drop _
abbrev vB:RL.D->RL.D->Option (Option RL.D)
 | .dK ks vs,k=>(RL.keyOf k).map<|RL.aV ks vs
 | .fK ks vs,k=>(RL.keyOf k).map<|RL.aV ks vs
 | _,_=>none
abbrev Ans(P:Addr->Prop)(K:W.Frag)(H:Hp):Option RL.D->Option V->Prop
 | some d,r=>∃ w,r=some w/\Rep P K H d w
 | none,r=>r=none
def jR{κ:Type} [DecidableEq κ]{P:Addr->Prop}{K:W.Frag}{H:Hp}{x:κ}:∀ {ks:List κ} {ds:List RL.D} {xs:List V},ks.length=ds.length->ab P K H ds xs ->
  Ans P K H (RL.aV ks ds x) (gN (ks.zip xs) x)
 | [],ds,xs,hl,r=>by simp[RL.aV,gN,Ans]
 | k::ks,[],xs,hl,r=>by simp at hl
 | k::ks,d::ds,xs,hl,r=>by
  let#[v,t,rfl,r1,r2]:=r;by_cases I:k=x
  ·have O:RL.aV (k::ks) (d::ds) x=some d:=by rw[RL.aV,if_pos I]
   rw[O];exact#[v,by rw[zip_cons_cons];exact lL I,r1]
  ·have R:=jR (x:=x) (by simpa using hl) r2
   have O:RL.aV (k::ks) (d::ds) x=RL.aV ks ds x:=by rw[RL.aV,if_neg I]
   rw[O,zip_cons_cons,kT I];exact R
def oN{P:Addr->Prop}{K:W.Frag}(h:RL.keyOf d=some k)(r:Rep P K H d v):v=kV k:=by
 cases d<;>simp only[RL.keyOf]at h<;>first | (cases h;done) | skip
 case int i=>cases h;exact ay r
 case str i=>cases h;exact aR r
def GJ(h:vB y kx=some o):∃ ks vs k,(y=.dK ks vs\/y=.fK ks vs)/\RL.keyOf kx=some k/\RL.aV ks vs k=o:=by
 unfold vB at h;split at h
 ·let#[k,O,I]:=map_some h;exact#[_,_,k,.inl rfl,O,I]
 ·let#[k,O,I]:=map_some h;exact#[_,_,k,.inr rfl,O,I]
 ·cases h
def yu{H:Hp}{y g:RL.D}{v u:V}{o:Option RL.D}(U:Rep nP X.K H y v)(rk:Rep nP X.K H g u)(h:vB y g=some o) :
  ∃ q r,v=.ref q/\iB H q u r/\Ans nP X.K H o r/\∀ P:Addr->Prop,Rep P X.K H y v->Ans P X.K H o r:=by
 let#[ks,vs,k,l,i,Y]:=GJ h;rcases l with rfl | rfl
 ·rw[Rep]at U;let#[q,xs,rfl,_,I,Z,b]:=U;have O:=jR (x:=k) Z b;rw[Y]at O;refine#[q,_,rfl,by rw[oN i rk];exact iB.k I,O,λP r=>?_];rw[Rep]at r;let#[j,R,f,_,e,c,d]:=r;cases f;rw[e]at I;have O:=jR (x:=k) c d
  have a:ks.zip R=ks.zip xs:=by injection I with I;injection I
  rw[Y,a]at O;exact O
 ·rw[Rep]at U;let#[q,o,xs,rfl,I,Z,b]:=U;have O:=jR (x:=k) Z b;rw[Y]at O;refine#[q,_,rfl,by rw[oN i rk];exact .inl #[_,_,.inr #[o,I],rfl,rfl],O,λP r=>?_];rw[Rep]at r;let#[j,o2,R,f,e,c,d]:=r;cases f;rw[e]at I;have O:=jR (x:=k) c d
  have a:ks.zip R=ks.zip xs:=by injection I with I;injection I with _ I;injection I
  rw[Y,a]at O;exact O
def JE(h:RL.qZ y kx=some d):vB y kx=some (some d):=by
 unfold RL.qZ at h;split at h
 ·let#[k,O,I]:=bind_some h;show(RL.keyOf _).map _=_;rw[O,Option.map_some,I]
 ·let#[k,O,I]:=bind_some h;show(RL.keyOf _).map _=_;rw[O,Option.map_some,I]
 ·cases h
def Ls(hu:X.A.units+100<cLine)(ha:SE X cl a a')(hb:SE X cl b b')(U:rQ b):SE X cl (.Subscript a b pos) (.su a' b'):=by
 refine PE.weak (G3 ⋯ ha hb U) λJ H Q h=>?_;let#[I,d,R,e,k]:=h;let#[x,f,e]:=bind_some e;let#[y,c,e]:=bind_some e;refine#[I,x,R,f,λv l r1=>#[I,y,R.same r1.same,c,λu H2 r2=>?_]];let#[q,r,rfl,g,#[w,rfl,O],av]:=yu (r1.rep.same r2.same) r2.rep<|JE e;refine⟨q,w,rfl,g,k _ _ ⟨r1.same.trans r2.same,O,λz=>(by cases z),λM z P Z Y=>?_⟩⟩;let#[j,i,r3]:=av P<|(r1.av M z P Z Y).same r2.same;cases i;exact r3
end rules
section rules
variable{X:Cx}{st:Stmt}
def JJ(h:RL.m6 y kx=some k):∃ o,vB y kx=some o/\k=o.isSome:=by
 unfold RL.m6 at h;split at h
 ·let#[q,O,I]:=map_some h;exact#[_,by show(RL.keyOf _).map _=_;rw[O];rfl,I.symm]
 ·let#[q,O,I]:=map_some h;exact#[_,by show(RL.keyOf _).map _=_;rw[O];rfl,I.symm]
 ·cases h
def Ans.isSome{P:Addr->Prop}{K:W.Frag}(h:Ans P K H o r):r.isSome=o.isSome:=by
 cases o with
 | none=>rw[show r=none from h];rfl
 | some d=>let#[w,I,_]:=h;rw[I];rfl
def AW{H:Hp}{y I:RL.D}{v u:V}(O:Rep nP X.K H y v)(rk:Rep nP X.K H I u)(h:RL.m6 y I=some k):∃ q r,v=.ref q/\iB H q u r/\r.isSome=k:=by
 let#[o,U,R]:=JJ h;let#[q,r,e,g,an,_]:=yu O rk U;exact#[q,r,e,g,by rw[an.isSome,R]]
abbrev Fs(neg:Bool)(ty I:TE):TE:=if neg then yF ty I else LR ty I
def y8(hu:X.A.units+100<cLine)(ha:SE X cl a a')(hb:SE X cl b b'):PC X (if neg then .NotIn else .In) a b (Fs neg (tE X.K cl a')<|tE X.K cl b'):=by
 cases neg with
 | true=>exact Bh ⋯ ha hb
 | false=>exact K0 ⋯ ha hb
def BY(R:la X.K QO J H)(e:RL.ev cl QO (.inD neg a' b')=some d)(k:∀ t H',d=.bl t->aB H H'->Q (.bl t) H'):Fs neg (tE X.K cl a') (tE X.K cl b') J H Q:=by
 let#[x,Y,e]:=bind_some e;let#[y,U,e]:=bind_some e;let#[t,a,Z]:=map_some e
 cases neg with
 |true=>
  refine two R Y U λv u b H2 s1 s2 O I _ _=>?_;let#[q,r,rfl,g,an]:=AW I O a;refine#[q,r,rfl,g,k _ _ ?_<|s1.trans s2];rw[an,<-Z];rfl
 |false=>
  refine two R Y U λv u b H2 s1 s2 O I _ _=>?_;let#[q,r,rfl,g,an]:=AW I O a;refine#[q,r,rfl,g,k _ _ ?_<|s1.trans s2];rw[an,<-Z];rfl
def LX(hu:X.A.units+100<cLine)(ha:SE X cl a a')(hb:SE X cl b b')(hm:oE b=true):SE X cl (.Compare a [if neg then .NotIn else .In] [b] pos) (.inD neg a' b'):=by
 refine PE.weak (L9 (y8 hu ha hb)<|j4 hm) λJ H Q h=>?_;let#[I,d,R,e,q]:=h
 exact BY R e λt H' hd O=>by subst hd;exact q _ _<|gh O
def Mg(hu:X.A.units+100<cLine)(ha:SE X cl a a')(hb:SE X cl b b')(hm:oE b=true):ST X cl (.Compare a [if neg then .NotIn else .In] [b] pos) (.inD neg a' b'):=by
 refine PT.weak (J4 (y8 hu ha hb)<|j4 hm) λJ H Q h=>?_;let#[I,k,R,e,q]:=h;let#[d,Y,U]:=bind_some e;refine BY R Y λt H' hd O=>?_;subst hd;cases U;exact#[_,rfl,q _ O]
def FY{κ:Type} [DecidableEq κ]{x:κ}{d:RL.D}{v:V}{P:Addr->Prop}{K:W.Frag}{H:Hp}{ks:List κ}{ds:List RL.D}{xs:List V}(hl:ks.length=ds.length)(r:ab P K H ds xs)(U:Rep P K H d v) :
  ∃ ys,putK (ks.zip xs) x v=(RL.putD ks ds x d).1.zip ys/\(RL.putD ks ds x d).1.length=(RL.putD ks ds x d).2.length/\ab P K H (RL.putD ks ds x d).2 ys:=by
 have R:=hl.trans r.length
 have any:∀ (ks:List κ) (xs:List V),ks.length=xs.length->((ks.zip xs).any λZ=>decide<|Z.1=x)=decide (x∈ks):=by
  intro ks
  induction ks with
  | nil=>intro xs _;simp
  |cons k r O=>
   intro xs h
   cases xs with
   | nil=>simp at h
   |cons y t=>
    rw[zip_cons_cons,any_cons,O t<|by simpa using h];by_cases I:k=x
    ·simp[I]
    ·simp[I,Ne.symm I]
 unfold putK RL.putD;rw[any ks xs R];by_cases hm:x∈ks
 ·rw[if_pos (by simpa using hm),if_pos hm];refine#[zipWith (λk w=>if k=x then v else w) ks xs,?_,?_,?_]
  ·clear any hm hl r
   induction ks generalizing xs with
   | nil=>simp
   |cons k t O=>
    cases xs with
    | nil=>simp at R
    |cons y Y=>
     rw[zip_cons_cons,map_cons,List.zipWith_cons_cons,zip_cons_cons,O<|by simpa using R];by_cases I:k=x<;>simp[I]
  ·rw[List.length_zipWith,hl,min_self]
  ·clear any hm R
   induction ks generalizing ds xs with
   | nil=>simpa using ab.nil
   |cons k t O=>
    cases ds with
    | nil=>simp at hl
    |cons a ds=>
     let#[y,Y,rfl,r1,r2]:=r;rw[List.zipWith_cons_cons,List.zipWith_cons_cons];refine ab.cons ?_ (O (by simpa using hl) r2);by_cases I:k=x
     ·rw[if_pos I,if_pos I];exact U
     ·rw[if_neg I,if_neg I];exact r1
 ·rw[if_neg (by simpa using hm),if_neg hm];refine#[xs++[v],?_,by simp[hl],ab.append r<|ab.cons U ab.nil];rw[List.zip_append R];rfl
def JT [DecidableEq κ](hd:d.ax=true):∀ {ks:List κ} {ds:List RL.D},RL.ae ds=true->RL.ae (RL.putD ks ds x d).2=true:=by
 have app:∀ l:List RL.D,RL.ae l=true->RL.ae (l++[d])=true:=λl=>by
  induction l with
  | nil=>intro _;simp[RL.ae,hd]
  | cons z r I=>intro h;rw[RL.ae,and_eq_true]at h;rw[cons_append,RL.ae,h.1,I h.2];rfl
 have R:∀ (ks:List κ) (ds:List RL.D),RL.ae ds=true->RL.ae (zipWith (λk w=>if k=x then d else w) ks ds)=true:=λks=>by
  induction ks with
  | nil=>intro ds _;simp[RL.ae]
  |cons k r I=>
   intro ds h
   cases ds with
   | nil=>simp[RL.ae]
   |cons y t=>
    rw[RL.ae,and_eq_true]at h;rw[List.zipWith_cons_cons,RL.ae,I t h.2,Bool.and_true];by_cases O:k=x
    ·rw[if_pos O];exact hd
    ·rw[if_neg O];exact h.1
 intro ks ds h;unfold RL.putD;split
 ·exact R ks ds h
 ·exact app ds h
def GW(h:PS X st (Aa (bD i) (tE X.K cl k')<|tE X.K cl e'))(hi:M.contains i=true):PS X st (tS X.K M λI=>(RL.ev cl I e').bind λd=>(RL.ev cl I k').bind λY=>((I[i]?).bind id).bind λl=>match l with
  | .lst _=>none
  | _=>if d.ax then(RL.jG l Y d).map λZ=>(.nx,I.set i<|some Z)else none):=by
 refine PS.weak h λD J H h=>?_;let#[I,o,j,U,e,k]:=h;let#[d,G,e]:=bind_some e;let#[Y,F,e]:=bind_some e;let#[l,E,e]:=bind_some e;let#[v,n,m]:=U.val i _<|slot_get E;rw[if_pos hi]at m;let#[t,s,r]:=m
 cases l with
 |dK ks ds=>
  dsimp only at e;split at e
  ·rename_i b;let#[Z,C,B]:=map_some e;cases B;let#[R,A,g]:=bind_some (show(RL.keyOf Y).bind _=some Z from C);split at g
   ·rename_i w;cases g;let#[q,xs,rfl,_,f,c,p]:=r;refine#[I,d,U.hH,G,λy QN r1=>#[.ref q,n,I,Y,U.hH.same r1.same,F,λu H2 r2=>?_]];have O:=r1.same.trans r2.same;let#[ys,p1,p2,p3]:=FY (x:=R) c (p.same O) (r1.rep.same r2.same)
    have hlen:(ks.zip xs).length<sizeLine:=by
     rw[List.length_zip,<-p.length,c,min_self,<-c];exact Qi w cT
    refine#[q,_,rfl,by rw[oN A r2.rep];exact u9.k (O _ _ f) hlen,?_];have a:=JT (x:=R) b (ks:=ks) s
    let#[g1,g2]:=(U.same O).jS (d':=.dK (RL.putD ks ds R d).1 (RL.putD ks ds R d).2) (o':=.dK<|putK (ks.zip xs) R y) hi n (O _ _ f) True.intro ⟨rfl,a,by
     rw[Rep]
     exact#[q,ys,rfl,λz=>z,by rw[ao,p1],p2,(ab.upd (O _ _ f) True.intro rfl<|p3.ax a).ax a]⟩
    exact k _ _ g1<|(ek.same O).trans g2
   ·cases g
  ·cases e
 | lst _=>cases e
 |b0 _ _ _=>
  dsimp only at e;split at e<;>cases e
 | _=>cases t
end rules
end RS
namespace L2
open PySem PySem.Spec PyProof.Rows
abbrev Its(c lo:Int)(n:Nat):It:=#[λi _=>i<n,λi H x H'=>H'=H/\x=.int (lo+i*c),λi _=>n<=i]
def B4{P:Program}{w:World}{K:PySem.W.Frag}(it:Addr)(c lo:Int)(n:Nat):Turn P w K tg (Its c lo n) [it] it (λi h=>IsRangeIter h it (lo+(i:Nat)*c) ((n:Int)-(i:Nat)) c) where
 mem:=by simp
 obj:=λi h st b hb=>by
  rw[show b=it by simpa using hb];exact⟨_,st,λv z=>by cases(show Data.fields _=Data.cell v from z)⟩
 keep:=λi h h' st k=>k it (by simp) _ st
 item:=by
  intro X l j m Y i ag s J H E I R st U;subst l j m;let#[g,f,u,d,a,Z]:=R it (by simp);have W:=Walks.range (prog:=X.prog) (w:=X.w) (I.ok.hd.1 Y) it lo c n;refine W.item i s _ _ U st λv h' p r O q=>?_;let#[t,rfl]:=r;have y:Inv X ag J H { s with heap:=h',toks:=p }:=I.turned (λb o hb e=>q b o (by simpa using hb) e) g f d a Z;exact#[_,rfl,pR O rfl rfl ∅ #[.int<|lo+i*c,H,y,#[t,rfl],#[rfl,rfl],O,λb hb=>(R b hb).1]]
 done:=by
  intro X l j m Y i ag s J H E I R st U;let#[g,f,u,d,a,Z]:=R it<|by simp
  exact wpAny_pyNext_range_end (I.ok.hd.1 Y) st (by have:n<=i:=U;lia) λh' x=>#[rfl,I.turned (λb o hb e=>x b o hb e) g f d a Z]
 self:=λ_ _ _ _ _ st h=>wpAny_pyIter_rangeiter st h
end L2
namespace RS
open PySem PySem.Spec PyProof.Rows L2
def qb(c:Int):∀ (n:Nat) (lo:Int) (i:Nat) (d:RL.D),(RL.cS c lo n)[i]?=some d->d=.int (lo+i*c)
 | 0,lo,i,d,h=>by simp[RL.cS]at h
 | n+1,lo,0,d,h=>by simp[RL.cS]at h;simp[h]
 | n+1,lo,i+1,d,h=>by
  rw[qb c n (lo+c) i d h];congr 1;lia
def lC(c:Int):∀ (n:Nat) (lo:Int),(RL.cS c lo n).length=n
 | 0,_=>rfl
 | n+1,lo=>by rw[RL.cS,length_cons,lC c n]
def yq{K:W.Frag}{H:Hp}{c lo:Int}:lH K (Its c lo n) (RL.cS c lo n) P H where
 go:=λH' i k hi=>by rw[lC]at hi;exact hi
 stop:=λH' k=>by rw[lC];exact Qc _
 n7:=λH' i d x H2 k e y=>by
  let#[z,y]:=y;subst z;refine#[aB.refl _,λ_=>?_];rw[qb c n lo i d e,y];exact bC
section rules
variable{st:Stmt}
def Cp(Y:∀ a b,RL.aT o (.int a) (.int b)=some (.int<|f a b))(h:PS X st (Ep i (tE X.K cl e')<|ipI f))(hi:M.contains i=false):SS X cl M st (.aug i o e'):=by
 refine PS.weak h λD J H h=>?_;let#[I,g,R,O,e,k]:=h;let#[x,d,e]:=bind_some e;let#[y,c,e]:=bind_some e
 cases x with
 |int a=>
  cases y with
  |int b=>
   dsimp only at e;rw[Y]at e;cases e;let#[v,Z,U]:=O.val i _<|slot_get d;rw[if_neg<|by rw[hi];decide]at U;refine#[v,Z,I,.int b,O.hH,c,λu j r1=>#[a,b,ay U,ay r1.rep,?_]];exact k _ _ ((O.same r1.same).bind hi bC)<|ek.bind hi r1.same
  | _=>cases e
 | _=>cases e
end rules
abbrev qW(p:Addr)(a b c:Int):HO:=.ext λh=>∃ t u v,IsRange h p a b c t u v
def vH(a b c:Int):0<=Builtin.Range.rangeSize a b c:=by
 unfold Builtin.Range.rangeSize;split
 ·split
  ·have:=Int.ediv_nonneg (a:=b-a-1) (b:=c) ⋯ ⋯;omega
  ·lia
 ·split
  ·by_cases I:c=0
   ·subst I;simp
   ·have:=Int.ediv_nonneg (a:=a-b-1) (b:=-c) ⋯ ⋯;omega
  ·lia
def C5(a b c:Int):Builtin.Range.rangeSize a b c<=(if a<b then b-a else a-b)+1:=by
 unfold Builtin.Range.rangeSize;split
 ·split
  ·have:=Int.ediv_le_self (a:=b-a-1) c ⋯;lia
  ·lia
 ·split
  ·have:=Int.ediv_le_self (a:=a-b-1) (-c) ⋯;split<;>omega
  ·split<;>lia
def m8(a b c:Int):(RL.cB c a b:Int)=Builtin.Range.rangeSize a b c:=Int.toNat_of_nonneg<|vH a b c
def lZ(ha:-(2 ^ 60)<=a)(R:a<2 ^ 60)(hb:-(2 ^ 60)<=b)(O:b<2 ^ 60)(Y:-(2 ^ 60)<=c)(I:c<2 ^ 60):Builtin.Range.small a b c=true:=by
 have Z:=vH a b c;have U:=C5 a b c;unfold Builtin.Range.small;simp only[Builtin.Range.rangeFitsLong,and_eq_true,or_eq_true,decide_eq_true_eq,beq_iff_eq];refine#[#[#[#[?_,?_],?_],?_],.inr ?_]
 ·lia
 ·lia
 ·lia
 ·split at U<;>lia
 ·split<;>(rw[and_eq_true,decide_eq_true_eq,decide_eq_true_eq];lia)
section
variable{X:Cx}
abbrev wC(xs:List V)(a b c:Int):Prop:=(xs=[.int b]/\a=0/\c=1)\/(xs=[.int a,.int b]/\c=1)\/(xs=[.int a,.int b,.int c]/\c≠0/\c.natAbs<2 ^ 60)
def o9{ag:List (Addr × Obj)}{J:L2.St}{H:Hp}{s:Shared}{a b c:Int}{t u v:Tok}{O:Nat}(I:Inv X ag J H s):Inv X ag J (upd H s.heap.objs.size<|qW s.heap.objs.size a b c) { s with heap:=s.heap.push { cls:=.type "range",data:=.fields (List.toArray [.int a t,.int b u,.int c v]) },toks:=O } :=
 I.laid (λb u e=>Qb _ e) (Qc _) ⟨⟨t,u,v,IsRange.new _ a b c t u v⟩,⟨_,Qf _ rfl⟩,λU R ⟨t,u,v,e⟩ k=>#[t,u,v,k _ e]⟩
def lj:bM X (.type "range") (λxs H Q=>∃ a b c,wC xs a b c/\∀ p,H p=none->Q (.ref p) (upd H p<|qW p a b c)):=by
 intro ag s J H xs us Q I r h;let#[a,b,c,ha,q]:=h;have R:=I.b9.fresh<|Qc _
 rcases ha with⟨rfl,rfl,rfl⟩ | ⟨rfl,rfl⟩ | ⟨rfl,Y,U⟩
 ·cases r with
  |cons r O=>
   cases O;let#[t,rfl]:=r;exact call_range_1 ⟨.ref _,_,o9 I,rfl,q _ R⟩
 ·cases r with
  |cons r O=>
   cases O with
   |cons r2 O=>
    cases O;let#[t,rfl]:=r;let#[t2,rfl]:=r2;exact call_range_2 ⟨.ref _,_,o9 I,rfl,q _ R⟩
 ·cases r with
  |cons r O=>
   cases O with
   |cons r2 O=>
    cases O with
    |cons r3 O=>
     cases O;let#[t,rfl]:=r;let#[t2,rfl]:=r2;let#[t3,rfl]:=r3;refine call_range_3 Y ⟨.ref _,_,o9 I,rfl,q _ R⟩<|.inl<|PyProof.noPylong_of_log2 ?_;have:c.natAbs.log2<60:=(Nat.log2_lt ⋯).mpr U;lia
abbrev eI(a c:Int)(n:Nat):List V:=(List.range n).map λ(i:Nat)=>V.int<|a+(i:Int)*c
def Ga{a c:Int}{n:Nat}{I:Array Value}(R:ItemsOf (λi v=>∃ t,v=.int (a+i*c) t) I n):Vals (eI a c n) I.toList:=by
 have len:(eI a c<|n).length=I.toList.length:=by
  simp only[eI,length_map,length_range,length_toList,R.1]
 have gen:∀ (xs:List V) (us:List Value),xs.length=us.length->(∀ (i:Nat) u,us[i]?=some u->∃ x,xs[i]?=some x/\RelV x u)->Vals xs us:=by
  intro xs
  induction xs with
  | nil=>intro us h _;cases us with
   | nil=>exact .nil
   | cons _ _=>cases h
  | cons x r Y=>intro us h g;cases us with
   | nil=>cases h
   |cons u us=>
    let#[f,e,d]:=g 0 u rfl;cases e
    exact .cons d (Y us (by simpa using h) λi u hu=>by
     let#[y,b,Z]:=g (i+1) u<|by simpa using hu
     exact#[y,by simpa using b,Z])
 refine gen _ _ len λi u hu=>?_
 have O:I[i]?=some u:=by simpa using hu
 let#[U,rfl]:=R.2 i u O
 have hi:i<n:=by
  have:=(Array.getElem?_eq_some_iff.mp O).1;rw[R.1]at this;exact this
 exact#[.int<|a+i*c,by simp[eI,hi],U,rfl]
def iC(e:X.calm=true):bM X (.type "list") (λxs H Q=>∃ p a b c,xs=[.ref p]/\H p=some (qW p a b c)/\Builtin.Range.small a b c=true/\RL.cB c a b<=RL.most /\
  ∀ l,H l=none->Q (.ref l) (upd H l<|.lst<|eI a c<|RL.cB c a b)):=by
 intro ag s J H xs us Q I r h;let#[p,a,b,c,rfl,Y,U,hn,q]:=h
 cases r with
 |cons r R=>
  cases R;cases r;let#[#[t,u,v,g],_,_]:=I.b9 p _ Y;refine call_list_range (I.ok.hd.1 e) g U (m8 a b c).symm (Qp hn ∅) λh' j O c' Z f i=>?_;have d:=I.b9.fresh<|Qc _;refine#[.ref s.heap.objs.size,upd H s.heap.objs.size<|.lst<|eI a c<|RL.cB c a b,I.laid Z (Qc _) (show _/\_ from#[?_,O.toList,c',?_,?_]),rfl,q _ d]
  ·simp only[eI,length_map,length_range];exact Qp hn cT
  ·exact Ga i
  ·rw[Array.toArray_toList];exact f
def tH{P:Addr->Prop}{K:W.Frag}:∀ (n:Nat) (a c:Int),ab P K H (RL.cS c a n) (eI a c n)
 | 0,a,c=>ab.nil
 | n+1,a,c=>by
  have e:eI a c (n+1)=V.int a::eI (a+c) c n:=by
   simp only[eI,List.range_succ_eq_map,map_cons,map_map];congr 1
   ·simp
   ·apply QI;intro i _;show V.int (a+((i+1:Nat):Int)*c)=V.int (a+c+(i:Int)*c);congr 1;lia
  rw[RL.cS,e];exact ab.cons bC<|tH n (a+c) c
def oX:∀ (n:Nat) (a:Int),RL.dS a n=RL.cS 1 a n
 | 0,_=>rfl
 | n+1,a=>by rw[RL.dS,RL.cS,oX n]
def iO(a b:Int):RL.cB 1 a b=(b-a).toNat:=by
 have h:=m8 a b 1;rw[rangeSize_one]at h;split at h<;>lia
def vO{I:RL.St}{J:L2.St}{H R:Hp}{e:RL.E}{Q:VK}{vs:List V}{a b c:Int}{ds:List RL.D}(Y:wC vs a b c)(hd:ds=RL.cS c a (RL.cB c a b))(hn:RL.cB c a b<=RL.most)(Z:Builtin.Range.small a b c=true)(U:aB H R)
 (O:∀ M,RL.kd M e=false)(k:∀ v H',Res X.K I J H e (.lst ds) v H'->Q v H') :
  ∃ a b c,wC vs a b c/\∀ p,R p=none->(λxs H Q=>∃ p a b c,xs=[V.ref p]/\H p=some (qW p a b c)/\Builtin.Range.small a b c=true/\RL.cB c a b<=RL.most/\∀ l,H l=none->Q (.ref l) (upd H l<|.lst<|eI a c<|RL.cB c a b)) [.ref p] (upd R p<|qW p a b c) Q:=by
 refine#[a,b,c,Y,λp d=>#[p,a,b,c,rfl,ao,Z,hn,λl hl=>k _ _ ?_]];subst hd;exact d9 (U.trans<|aB.d8 d) hl (tH _ _ _) O
def Hz(g:X.calm=true)(Z:Gl X "list")(U:X.mg "list" = none)(f:Gl X "range")(hm:X.mg "range" = none)(ha:SE X cl a a')(hn:noStar a=true){p2 I:Pos}:SE X cl (.Call (.Name "list" p2) [.Call (.Name "range" p) [a] [] pos] [] I) (.dd a'):=by
 refine PE.weak (cQ (iC g) Z U (by decide +kernel) (bu (cQ lj f hm boot_range (bK ha df hn) ∅ ∅ (aP [] hn) rfl) cU rfl) ∅ ∅ rfl rfl) λJ H Q h=>?_;let#[b,d,c,e,k]:=h;let#[x,l,e]:=bind_some e;let#[ds,R,n]:=map_some e;subst n;let#[i,j,m,rfl,hb,Y,rfl]:=qv R;cases m
 have O:-(2 ^ 60)<=j/\j<2 ^ 60:=by
  simp only[RL.eu]at R;split at R
  ·lia
  ·cases R
 refine one c l λv o s1 r1=>?_;exact vO (.inl #[by rw[ay r1],rfl,rfl]) (by rw[oX,iO]) (by rw[iO];exact Y) (lZ ∅ ∅ O.1 O.2 ∅ ∅) s1 (λ_=>rfl) k
def G7(m:X.calm=true)(c:Gl X "list")(Y:X.mg "list" = none)(l:Gl X "range")(hm:X.mg "range" = none)(ha:SE X cl a a')(hb:SE X cl b b')(hn:noStar a=true)(R:noStar b=true){p2 O:Pos}:SE X cl (.Call (.Name "list" p2) [.Call (.Name "range" p) [a,b] [] pos] [] O) (.ez a' b'):=by
 refine PE.weak (cQ (iC m) c Y (by decide +kernel) (bu (cQ lj l hm boot_range (bK ha (bK hb df R) hn) ∅ ∅ (aP _ hn)<|dG<|by simp[R]) cU rfl) ∅ ∅ rfl rfl) λJ H Q h=>?_;let#[f,d,g,e,k]:=h;let#[x,o,e]:=bind_some e;let#[y,n,e]:=bind_some e;let#[ds,U,q]:=map_some e;subst q;let#[i,j,rfl,rfl,hb,Z,rfl]:=qv U
 have I:(-(2 ^ 60)<=i/\i<2 ^ 60)/\-(2 ^ 60)<=j/\j<2 ^ 60:=by
  simp only[RL.eu]at U;split at U
  ·lia
  ·cases U
 refine pair g o n λv u r s1 r1 r2=>?_;exact vO (.inr<|.inl #[by rw[ay r1,ay r2],rfl]) (by rw[oX,iO]) (by rw[iO];exact Z) (lZ I.1.1 I.1.2 I.2.1 I.2.2 ∅ ∅) s1 (λ_=>rfl) k
abbrev gE(c:Int):Expr->Bool
 | .Constant (.int i) _ _=>i == c
 | .UnaryOp .USub (.Constant (.int i) _ _) _=>-i == c
 | _=>false
def jZ(h:gE c e=true):PE X e (tC<|.int c)/\noStar e=true:=by
 unfold gE at h;split at h
 ·rw[beq_iff_eq]at h;subst h;exact#[uS,rfl]
 ·rw[beq_iff_eq]at h;subst h;exact#[PE.weak (ET Cf uS) λJ H Q q=>#[_,rfl,q],rfl]
 ·cases h
def ya(h:RL.mL c x y=some ds):∃ i j:Int,x=.int i/\y=.int j/\c≠0/\c.natAbs<2 ^ 60/\Builtin.Range.small i j c=true/\RL.cB c i j<=RL.most/\ds=RL.cS c i (RL.cB c i j):=by
 unfold RL.mL at h;split at h
 ·rename_i i j;split at h
  ·rename_i I;cases h;exact#[i,j,rfl,rfl,I.1,by omega,lZ I.2.2.2.2.1 I.2.2.2.2.2.1 I.2.2.2.2.2.2.1 I.2.2.2.2.2.2.2 (by omega) I.2.2.1,I.2.2.2.1,rfl]
  ·cases h
 ·cases h
def yd(ha:SE X cl a a')(hb:SE X cl b b')(hn:noStar a=true)(I:noStar b=true)(O:gE c e3=true):PA X [a,b,e3] (λJ H R=>tE X.K cl a' J H λv U=>tE X.K cl b' J U λu H2=>R [v,u,.int c] H2) :=
 bu ha (bu hb (bu (jZ O).1 cU<|aP [] (jZ (X:=X) O).2)<|aP _ I) (aP _ hn)
def HJ{c:Int}{Z:Expr}(o:X.calm=true)(Y:Gl X "list")(U:X.mg "list" = none)(n:Gl X "range")(hm:X.mg "range" = none)(ha:SE X cl a a')(hb:SE X cl b b')(hn:noStar a=true)(O:noStar b=true)(R:gE c Z=true){p2 I:Pos} :
  SE X cl (.Call (.Name "list" p2) [.Call (.Name "range" p) [a,b,Z] [] pos] [] I) (.hI c a' b'):=by
 refine PE.weak (cQ (iC o) Y U (by decide +kernel) (bu (cQ lj n hm boot_range (yd ha hb hn O R) ∅ ∅ (aP _ hn)<|dG<|by simp[O,(jZ (X:=X) R).2]) cU rfl) ∅ ∅ rfl rfl) λJ H Q h=>?_;let#[f,d,m,e,k]:=h;let#[x,w,e]:=bind_some e;let#[y,t,e]:=bind_some e;let#[ds,A,z]:=map_some e;subst z;let#[i,j,rfl,rfl,s,r,q,R,rfl]:=ya A;refine two m w t λv u B H2 s1 s2 l g _ _=>?_;exact vO (.inr<|.inr #[by rw[ay l,ay g],s,r]) rfl R q (s1.trans s2) (λ_=>rfl) k
def Gj(z:Gl X "range")(hm:X.mg "range" = none)(ha:SE X cl a a')(hb:SE X cl b b')(hn:noStar a=true)(O:noStar b=true)(Y:gE c e3=true) :
  SI X cl tg (.Call (.Name "range" p) [a,b,e3] [] pos) (.hI c a' b'):=by
 intro ag s J H R I h;let#[d,ds,m,e,k]:=h;let#[x,E,e]:=bind_some e;let#[y,D,e]:=bind_some e;let#[i,j,rfl,rfl,C,B,n,hl,rfl]:=ya e;refine cg (cQ lj z hm boot_range (yd (cl:=cl) ha hb hn O Y) ∅ ∅ (aP _ hn) (dG<|by simp[O,(jZ (X:=X) Y).2]) ag s J H (λx H2=>∃ p,x=.ref p/\H2 p=some (qW p i j c)/\aB H H2) I ?_) ?_
 ·exact two m E D λv u Z H2 s1 s2 l g _ _=>#[i,j,c,.inr (.inr #[by rw[ay l,ay g],C,B]),λp w=>#[p,rfl,ao,(s1.trans s2).trans<|aB.d8 w]]
 ·rintro v s1 ⟨x,Z,U,r1,q,rfl,r,f⟩;cases r1;let#[#[t,u,v,A],_,_]:=U.b9 q _ r;refine wpAny_pyIter_range A n ⟨s1.heap.objs.size,[s1.heap.objs.size],_,Its c i<|RL.cB c i j,Z,rfl,U.kept (t':=s1.toks) λb o e=>Qb _ e,B4 _ c i _,?_,λb hb=>?_,k _ _ f ⟨yq,λ_ _ _ _ _=>yq⟩⟩
  ·have G:i+((0:Nat):Int)*c=i:=by simp
   have F:((RL.cB c i j:Nat):Int)-((0:Nat):Int)=Builtin.Range.rangeSize i j c:=by rw[m8];simp
   show IsRangeIter _ _ (i+((0:Nat):Int)*c) (((RL.cB c i j:Nat):Int)-((0:Nat):Int)) c;rw[G,F];exact Qf _ rfl
  ·rw[show b=s1.heap.objs.size by simpa using hb];exact U.sH (Qc _)<|U.b9.fresh<|Qc _
def Hl(hl:SE X cl l e'):SI X cl tg l (.seq e'):=by
 refine PI.weak (La (cl:=cl) hl trivial) λJ H R h=>?_;let#[I,ds,O,e,k]:=h;let#[d,Y,U]:=bind_some e;exact#[I,d,ds,O,Y,U,k]
def Kl(ha:SE X cl a a'):SE X cl (.UnaryOp .USub a pos) (.neg a'):=by
 refine PE.weak (ET Cf ha) λJ H Q h=>?_;let#[I,d,O,e,k]:=h;let#[x,R,e]:=bind_some e
 cases x with
 | int i=>cases e;exact#[I,_,O,R,λv U r1=>#[i,ay r1.rep,k _ _<|dN r1.same bC rfl]]
 | _=>cases e
end
abbrev mAt(mp:List Nat)(vs:List V):Addr->Prop:=λa=>∃ p,p∈mp/\vs[p]?=some (.ref a)
structure Ld(K:W.Frag)(mp:List Nat)(ds:List RL.D)(vs:List V)(H:Hp):Prop where
 rR:ab nP K H ds vs
 own:∀ p∈mp,∃ d a,ds[p]?=some d/\vs[p]?=some (.ref a)/\Own K H d (.ref a)
 sep:∀ p∈mp,∀ q∈mp,∀ a,vs[p]?=some (.ref a)->vs[q]?=some (.ref a)->p=q
 oth:∀ (q:Nat) d v,q∉mp->ds[q]?=some d->vs[q]?=some v->Rep (mAt mp vs) K H d v
structure O7(K:W.Frag)(mp:List Nat)(outs:List RL.D)(vs:List V)(H:Hp):Prop where
 len:outs.length=mp.length
 own:∀ (k p:Nat) o,mp[k]?=some p->outs[k]?=some o->∃ a,vs[p]?=some (.ref a)/\Own K H o (.ref a)
abbrev wd(K:W.Frag)(cl:RL.Cl)(mp:List Nat)(f:Nat):Sp:=λvs H Q _=>∃ ds d outs,cl f ds=some (.tup<|d::outs)/\Ld K mp ds vs H/\∀ v H',Off (mAt mp vs) H H'->Rep nP K H' d v->d.ax=true->O7 K mp outs vs H'->Q v H'
abbrev yN(K:W.Frag)(cl:RL.Cl):RL.E->TE
 | .var j=>bD j
 | e=>tE K cl e
abbrev fU(K:W.Frag)(cl:RL.Cl):RL.Es->TA
 | .nil=>v9
 | .cons e es=>kI (yN K cl e)<|fU K cl es
abbrev fw(K:W.Frag)(M:List Nat)(J:L2.St)(ps:List Nat)(H:Hp):Nat->RL.Es->List RL.D->List V->Prop
 | _,.nil,[],[]=>True
 | q,.cons e es,d::ds,v::vs=>Rep nP K H d v/\(if ps.contains q=true then ∃ j,e=.var j/\J[j]?=some (some v)else Rep (bE M J) K H d v)/\fw K M J ps H (q+1) es ds vs
 | _,_,_,_=>False
section
variable{K:W.Frag}
def Be(e:RL.ev cl QO (.var j)=some d):QO[j]?=some (some d):=by
 exact slot_get e
def Jq(I:c8 K M QO J H)(r1:Res K QO J H e' d v H1)(ok:RL.aX M e' d=true):Rep (bE M J) K H1 d v:=by
 unfold RL.aX at ok;rw[or_eq_true,or_eq_true,and_eq_true]at ok;rcases ok with(q | ⟨q1,q2⟩) | q
 ·exact r1.rep.ax q
 ·have rp:=r1.rep;have fr:kZ d=true->∀ a,v=.ref a->¬ bE M J a:=λm a z p=>I.qY a p<|r1.fresh q2 m a z;exact rp.top q1 fr
 ·refine r1.av M q _ I.qY λj dj vj U Z Y=>?_;let#[b,R,O]:=I.val j dj Z;rw[Y]at R;cases R;rw[if_neg<|by rw[U];decide]at O;exact O
def G1{e:RL.E}{d:RL.D}{ps:List Nat}(U:c8 K M QO J H)(b:RL.ev cl QO e=some d)(ok:(if ps.contains q=true then RL.isVar e else RL.aX M e d)=true)
 (k:∀ v O,aB H O->Rep nP K O d v->(if ps.contains q=true then ∃ j,e=.var j/\J[j]?=some (some v)else Rep (bE M J) K O d v)->R v O):yN K cl e J H R:=by
 unfold yN;split
 ·rename_i j;have a:=Be b;let#[v,Z,Y]:=U.val j d a;refine#[v,Z,k v H (aB.refl H) ?_ ?_]
  ·let#[h,c,g]:=U.hH.2 j d a;rw[Z]at c;cases c;exact g
  ·by_cases I:ps.contains q=true
   ·rw[if_pos I];exact#[j,rfl,Z]
   ·rw[if_neg I]at ok ⊢;by_cases hm:M.contains j=true
    ·rw[if_pos hm]at Y
     have f:d.ax=true:=by
      unfold RL.aX at ok;rw[or_eq_true,or_eq_true,and_eq_true]at ok;rcases ok with(z | ⟨_,z⟩) | z
      ·exact z
      ·cases z
      ·rw[RL.zI,hm]at z;cases z
     exact Y.2.2.ax f
    ·rw[if_neg hm]at Y;exact Y
 ·rename_i ne
  have I:=λI=>by
   rw[if_pos I]at ok;unfold RL.isVar at ok;split at ok
   ·exact ne _ rfl
   ·cases ok
  rw[if_neg I]at ok;refine#[QO,d,U.hH,b,λv O r1=>k v O r1.same r1.rep ?_];rw[if_neg I];exact Jq U r1 ok
def vk:∀ {es:RL.Es} {q:Nat} {ds:List RL.D} {H:Hp} {R:List V->Hp->Prop},c8 K M QO J H->RL.c0 cl QO es=some ds->RL.bF M ps q es ds=true ->
  (∀ vs U,aB H U->fw K M J ps U q es ds vs->R vs U)->fU K cl es J H R
 | .nil,q,ds,H,R,Y,I,ok,k=>by
  cases I;exact k [] H (aB.refl H)<|by rw[fw];trivial
 | .cons e es,q,ds,H,R,Y,I,ok,k=>by
  let#[d,c,I]:=bind_some I;let#[f,b,a]:=map_some I;subst a;rw[RL.bF,and_eq_true]at ok;refine G1 Y c ok.1 λv U s1 r1 O=>?_;refine vk (Y.same s1) b ok.2 λvs H2 s2 r2=>k (v::vs) H2 (s1.trans s2) ?_;refine#[r1.same s2,?_,r2];by_cases Z:ps.contains q=true
  ·rw[if_pos Z]at O ⊢;exact O
  ·rw[if_neg Z]at O ⊢;exact O.same s2
abbrev lB:RL.Es->Nat->Option RL.E
 | .nil,_=>none
 | .cons e _,0=>some e
 | .cons _ es,n+1=>lB es n
def fw.rR:∀ {q:Nat} {es:RL.Es} {ds:List RL.D} {vs:List V},fw K M J ps H q es ds vs->ab nP K H ds vs
 | _,.nil,[],[],h=>ab.nil
 | q,.cons e es,d::ds,v::vs,h=>by
  exact ab.cons h.1<|fw.rR h.2.2
 | _,.nil,_::_,_,h=>by simp[fw]at h
 | _,.nil,[],_::_,h=>by simp[fw]at h
 | _,.cons _ _,[],_,h=>by simp[fw]at h
 | _,.cons _ _,_::_,[],h=>by simp[fw]at h
def fw.get:∀ {q:Nat} {es:RL.Es} {ds:List RL.D} {vs:List V} (n:Nat) {d:RL.D} {v:V},fw K M J ps H q es ds vs->ds[n]?=some d->vs[n]?=some v ->
  Rep nP K H d v/\(if ps.contains (q+n)=true then ∃ j,lB es n=some (.var j)/\J[j]?=some (some v)else Rep (bE M J) K H d v)
 | _,.nil,[],[],n,_,_,h,e,_=>by simp at e
 | q,.cons e es,d::ds,v::vs,0,_,_,h,e1,e2=>by
  simp at e1 e2;subst e1 e2;refine#[h.1,?_];have I:=h.2.1;rw[Nat.add_zero];by_cases O:ps.contains q=true
  ·rw[if_pos O]at I ⊢;let#[j,z,y]:=I;subst z;exact#[j,rfl,y]
  ·rw[if_neg O]at I ⊢;exact I
 | q,.cons e es,d::ds,v::vs,n+1,_,_,h,e1,e2=>by
  have:=fw.get n h.2.2 (by simpa using e1) (by simpa using e2);rw[show q+1+n=q+(n+1) by lia]at this;exact this
 | _,.nil,_::_,_,_,_,_,h,_,_=>by simp[fw]at h
 | _,.nil,[],_::_,_,_,_,h,_,_=>by simp[fw]at h
 | _,.cons _ _,[],_,_,_,_,h,_,_=>by simp[fw]at h
 | _,.cons _ _,_::_,[],_,_,_,h,_,_=>by simp[fw]at h
def Own.off(h:Own K H d (.ref a))(hm:∀ b o,P b->H b=some o->d6 o)(k:Off P H H1)(n:¬ P a):Own K H1 d (.ref a):=by
 let#[R,I,O]:=h;exact⟨R,I,((O.top I λ_ c z=>by cases z;exact n).off hm k).none⟩
def sh:∀ {ms:List Nat} {outs:List RL.D} {I:RL.St} {k i:Nat} {o:RL.D},ms.Nodup->ms[k]?=some i->outs[k]?=some o->i<I.length->(gD ms outs I)[i]?=some (some o)
 | [],_,_,_,_,_,_,e,_,_=>by simp at e
 | m::ms,[],_,_,_,_,_,_,e,_=>by simp at e
 | m::ms,d::ds,I,0,i,o,nd,e1,e2,hl=>by
  simp at e1 e2;subst e1 e2;rw[gD,mW _ _ _ _ (by simpa using(List.nodup_cons.mp nd).1),Qe hl]
 | m::ms,d::ds,I,k+1,i,o,nd,e1,e2,hl=>by
  rw[gD];exact sh (List.nodup_cons.mp nd).2 (by simpa using e1) (by simpa using e2)<|by simpa using hl
def c8.changed(h:c8 K M QO J H)(R:∀ i∈ms,M.contains i=true)(nd:ms.Nodup)(len:ms.length=outs.length)(k:Off (λa=>∃ i∈ms,J[i]?=some (some<|.ref a)) H H1)
 (r:∀ (k i:Nat) o,ms[k]?=some i->outs[k]?=some o->∃ a,J[i]?=some (some<|.ref a)/\Own K H1 o (.ref a)):c8 K M (gD ms outs QO) J H1/\ek M J H J H1:=by
 have sub:∀ a,(∃ i∈ms,J[i]?=some (some<|.ref a))->bE M J a:=λa ⟨i,hi,e⟩=>#[i,R i hi,e]
 have I:Off (bE M J) H H1:=λb o n e=>k b o (λz=>n<|sub b z) e
 have U:∀ b o,bE M J b->H b=some o->d6 o:=λb o p e=>by
  let#[o',e',m]:=h.Ei b p;rw[e]at e';cases e';exact m
 have at_:∀ i,i∈ms->∃ (O:Nat) (o:RL.D),ms[O]?=some i/\outs[O]?=some o:=λi hi=>by
  let#[O,s,e]:=getElem_of_mem hi;exact#[O,outs[O]'⋯,by simp[s,e],by simp]
 refine#[#[by rw[oV];exact h.len,λi d e=>?_,λi v e=>?_,h.sep],#[λb o e n=>#[I b o n e,n],λ_ _=>rfl]]
 ·by_cases hi:i∈ms
  ·let#[O,o,c,Z]:=at_ i hi
   have hl:i<QO.length:=by
    have:=(List.getElem?_eq_some_iff.mp e).1;rw[oV]at this;exact this
   rw[sh nd c Z hl]at e;cases e;let#[a,q,l]:=r O i _ c Z;exact#[.ref a,q,by rw[if_pos<|R i hi];exact l]
  ·rw[mW _ _ _ _<|by simpa using hi]at e;let#[v,g,Y]:=h.val i d e;refine#[v,g,?_];by_cases hm:M.contains i=true
   ·rw[if_pos hm]at Y ⊢;let#[a,o,rfl,_,_]:=Y.ref;refine Y.off (λb o p e=>U b o (sub b p) e) k λ⟨j,f,t⟩=>?_;exact hi<|h.sep i j a hm (R j f) g t▸f
   ·rw[if_neg hm]at Y ⊢;exact Y.off U I
 ·let#[d,hd]:=h.cb i v e;by_cases hi:i∈ms
  ·let#[O,o,c,Z]:=at_ i hi;exact#[o,sh nd c Z (List.getElem?_eq_some_iff.mp hd).1]
  ·exact#[d,by rw[mW _ _ _ _<|by simpa using hi];exact hd]
end
section rules
variable{X:Cx}{st:Stmt}
abbrev cW(es:RL.Es):List Nat->List Nat->Bool
 | [],[]=>true
 | p::ps,m::ms=>(match lB es p with | some (.var j)=>j == m | _=>false)&&cW es ps ms
 | _,_=>false
def nS:∀ {ps ms:List Nat} {k p:Nat},cW es ps ms=true->ps[k]?=some p->∃ m,ms[k]?=some m/\lB es p=some (.var m)
 | [],_,_,_,_,e=>by simp at e
 | _::_,[],_,_,h,_=>by simp[cW]at h
 | p::ps,m::ms,0,q,h,e=>by
  rw[cW,and_eq_true]at h;simp at e;subst e;have I:=h.1;split at I
  ·rename_i j R;rw[beq_iff_eq]at I;subst I;exact#[j,rfl,R]
  ·cases I
 | p::ps,m::ms,k+1,q,h,e=>by
  rw[cW,and_eq_true]at h;let#[O,I,U]:=nS h.2 (by simpa using e);exact#[O,by simpa using I,U]
def jF:∀ {ps ms:List Nat},cW es ps ms=true->ps.length=ms.length
 | [],[],_=>rfl
 | [],_::_,h=>by simp[cW]at h
 | _::_,[],h=>by simp[cW]at h
 | p::ps,m::ms,h=>by
  rw[cW,and_eq_true]at h;rw[length_cons,length_cons,jF h.2]
def uM(rv:c8 X.K M QO J H)(he:RL.c0 cl QO es=some ds)(ok:RL.bF M ps 0 es ds=true)(hc:cl f ds=some (.tup<|d::outs))
 (QN:cW es ps ms=true)(O:∀ i∈ms,M.contains i=true)(nd:ms.Nodup)(ndp:ps.Nodup)(x:RL.bA ms outs QO=some QR)
 (k:∀ v H',Rep nP X.K H' d v->d.ax=true->c8 X.K M QR J H'->ek M J H J H'->Q v H'):mT (wd X.K cl ps f) [] E0 (fU X.K cl es) J H Q:=by
 refine vk rv he ok λvs H1 s1 ar=>?_;show wd X.K cl ps f (vs++[]) H1 Q E0;rw[append_nil];have s:=rv.same s1;have u:=ar.rR;let#[hlen,w]:=iz x;subst w
 have Y:∀ (k p:Nat),ps[k]?=some p->∃ m a U,ms[k]?=some m/\J[m]?=some (some<|.ref a)/\vs[p]?=some (.ref a)/\ds[p]?=some U/\Own X.K H1 U (.ref a)/\lB es p=some (.var m):=by
  intro k p I;let#[m,R,c]:=nS QN I
  have S:∀ (es:RL.Es) (ds:List RL.D) (n:Nat) (e:RL.E),RL.c0 cl QO es=some ds->lB es n=some e->∃ U,ds[n]?=some U/\RL.ev cl QO e=some U:=by
   intro es
   induction es using RL.Es.rec (motive_1:=λ_=>True) (motive_3:=λ_=>True)with
   | nil=>intro ds n e _ z;cases z
   |cons e0 es0 _ ih=>
    intro ds n e h z;let#[d0,y1,h]:=bind_some h;let#[ds0,y2,y3]:=map_some h;subst y3
    cases n with
    | zero=>cases z;exact#[d0,rfl,y1]
    | succ n=>exact ih ds0 n e y2 z
   | _=>trivial
  let#[U,g1,g2]:=S es ds p _ he c;let#[v,g3,g4]:=u.get g1
  have t:ps.contains (0+p)=true:=by
   rw[zero_add];simpa using Qt I
  have F:=(ar.get p g1 g3).2;rw[if_pos t]at F;let#[j,z1,z2]:=F;rw[c]at z1;cases z1;have hm:M.contains m=true:=O m<|Qt R;let#[v',z3,G]:=s.val m U<|Be g2;rw[z2]at z3;cases z3;rw[if_pos hm]at G;let#[a,o,rfl,_,_]:=G.ref;exact#[m,a,U,R,z2,g3,g1,G,c]
 have r:∀ a,mAt ps vs a->∃ i∈ms,J[i]?=some (some<|.ref a):=λa ⟨p,A,e⟩=>by
  let#[k,I,z]:=getElem_of_mem A;let#[m,a',U,R,c,Z,_]:=Y k p (by simp[I,z]);rw[e]at Z;cases Z;exact#[m,Qt R,c]
 refine#[ds,d,outs,hc,#[u,λp A=>?_,λp A q L a V T=>?_,λq dq v L V T=>?_],λv H' off rp im mo=>?_]
 ·let#[k,I,z]:=getElem_of_mem A;let#[m,a',U,R,c,Z,h4,h5,_]:=Y k p (by simp[I,z]);exact#[U,a',h4,Z,h5]
 ·let#[k,I,z]:=getElem_of_mem A;let#[l,hl,y]:=getElem_of_mem L
  have gk:ps[k]?=some p:=by simp[I,z]
  have gl:ps[l]?=some q:=by simp[hl,y]
  let#[m,a1,d1,R,c,Z,_]:=Y k p gk;let#[m',a2,d2,C,P,B,_]:=Y l q gl;rw[V]at Z;cases Z;rw[T]at B;cases B;have N:=s.sep m m' a (O m<|Qt R) (O m'<|Qt C) c P;subst N;have g:k=l:=(List.getElem?_inj (by rw[<-jF QN];exact I) nd).mp (by rw[R,C]);subst g;rw[gk]at gl;exact Option.some.inj gl
 ·have t:ps.contains (0+q)=false:=by
   rw[zero_add];simpa using L
  have F:=(ar.get q V T).2;rw[if_neg<|by rw[t];decide]at F
  exact F.weak λa ha=>by
   let#[i,hi,e]:=r a ha;exact#[i,O i hi,e]
 ·let#[g1,g2]:=s.changed (outs:=outs) (H1:=H') O nd hlen (λb o n e=>off b o (λz=>n<|r b z) e) λk i o I ho=>by
   have g:k<ps.length:=by
    rw[jF QN];exact(List.getElem?_eq_some_iff.mp I).1
   let#[m,a1,d1,R,c,Z,_]:=Y k ps[k] (by simp[g]);rw[I]at R;cases R;let#[a,q1,q2]:=mo.own k ps[k] o (by simp[g]) ho;rw[q1]at Z;cases Z;exact#[_,c,q2]
  exact k v H' rp im g1<|(ek.same s1).trans g2
def G9(h:PS X st (mJ<|mT (wd X.K cl ps f) [] E0<|fU X.K cl es))(c:cW es ps ms=true)(R:∀ i∈ms,M.contains i=true)(nd:ms.Nodup)(O:ps.Nodup):SS X cl M st (.kv f es ps ms):=by
 refine PS.weak h λD J H h=>?_;let#[Z,o,Y,b,e,k]:=h;let#[ds,m,e]:=bind_some e;split at e
 ·rename_i ok;let#[r,l,e]:=bind_some e;split at e
  ·rename_i d outs;let#[a,j,g]:=map_some e;cases g;exact uM b m ok l c R nd O j λv H' _ _ I U=>k _ _ I U
  ·cases e
 ·cases e
end rules
end RS
namespace L2
open PySem PySem.Spec PyProof.Rows
abbrev rD(A:Around)(h:Heap):Prop:=A.handled=none\/∃ x o vs,A.handled=some (.ref x)/\h.get? x=some o/\o.data=.fields vs/\vs[2]?=some .none
def rD.keeps(x:rD A h)(k:∀ b o vs,h.get? b=some o->o.data=.fields vs->A.handled=some (.ref b)->h'.get? b=some o):rD A h':=by
 rcases x with z | ⟨y,o,vs,O,U,I,R⟩
 ·exact .inl z
 ·exact .inr #[y,o,vs,O,k _ _ _ U I O,I,R]
section
def tK:entryFor table "proto.unchain" = some Builtin.«proto.unchain»:=entryFor_of_tree<|by kernel_rfl
def C2(hd:rD A s.heap)(I:s.heap.get? e=some oe)(O:oe.data=.fields vs)(U:2<vs.size)(ne:A.handled≠some (.ref e))
 (k:∀ h',Heap.SameBut e s.heap h'->(∃ o,h'.get? e=some o/\o.cls=oe.cls)->E (.ref e) { s with heap:=h' }):wpAny (model prog w) A (raiseNew (.ref e):Sem α) Q E s:=by
 unfold raiseNew;refine J2<|wpAny_handled ?_
 rcases hd with z | ⟨x,o,b,R,a,Z,Y⟩
 ·rw[z];exact J2<|Qa<|wpAny_throw<|k s.heap (.refl ..) ⟨oe,I,rfl⟩
 ·rw[R]
  have nx:(Value.ref x != Value.ref e)=true:=by
   rw[bne_iff_ne];intro q;exact ne<|by rw[R,q]
  dsimp only;rw[if_pos nx];refine J2<|wpAny_holding<|wpAny_runValue<|codeAny_builtin tK ?_;unfold Builtin.«proto.unchain»;refine J2<|wpAny_field a Z Y ?_;rw[if_pos ∅];refine J2<|Qa<|Qa ?_;show wpAny _ _ _ _ _ _;refine J2 ?_;show wpAny _ _ (setField (.ref e) 2<|.ref x) _ _ _;refine wpAny_setField I O U<|wpAny_throw<|k _ (.update ..) ⟨_,Heap.get?_update_self _ I<|Obj.isFreed_of_fields<|Obj.data_mapFields O _,Obj.cls_mapFields ..⟩
def HF(hd:rD A s.heap)(k:∀ h' e,(∀ b o,s.heap.get? b=some o->h'.get? b=some o)->(∃ o,h'.get? e=some o/\o.cls=.type "StopIteration")->E (.ref e) { s with heap:=h' }) :
  wpAny (model prog w) A (newExc (.type "StopIteration") []) (λe s'=>wpAny (model prog w) A (raiseNew e:Sem α) Q E s') E s:=by
 simp only[newExc,newTuple];apply J2;refine wpAny_newObj_type ?_ (by size_fits);apply J2 (m:=firstArgMember _ _);refine wpAny_of_eq (a:=Value.none) (by first | rfl | (simp only[firstArgMember];rfl)) ?_;refine wpAny_newObj_type ?_ (by size_fits);have I:∀ b o,s.heap.get? b=some o->b≠(s.heap.push { cls:=.type "tuple",data:=.seq ([]:List Value).toArray }).objs.size:=λb o e=>Qk (by rw[QL];exact Nat.lt_succ_of_lt<|Qg e);refine C2 (hd.keeps λb o vs e _ _=>Qb _<|Qb _ e) (Qf _ rfl) rfl (Qi (by decide:2<6)<|by simp) (λq=>?_) λh' sb O=>k h' _ (λb o e=>(sb.2 b<|I b o e).trans<|Qb _<|Qb _ e) O
 rcases hd with z | ⟨x,o,Y,U,R,_,_⟩
 ·rw[z]at q;cases q
 ·rw[U]at q;cases q;exact I _ _ R rfl
end
section
def C3(hi:z.heap.IsTupleIter ti tp i)(a:z.heap.IsTuple tp bq)(Z:bq[i]?=some x)
 (k:∀ g,g.IsTupleIter ti tp (i+1)->Heap.SameBut ti z.heap g->Q x { z with heap:=g }):wpAny (model prog w) A (Builtin.SmallTypes.nextOf<|.ref ti) Q E z:=by
 have I:=hi.typeIs;let#[#[c1,l,h,s1],g1,Y,R]:=hi;let#[#[m,j,f,s2],g2,U,n2,O]:=a;dsimp only at Y R U O;subst Y R U O;let#[c,g,d,b,os]:=z;unfold Builtin.SmallTypes.nextOf;refine J2<|wpAny_callSpecial?_slot (name:=Str.ofString "__next__") I F.slot_tuple_iterator_next<|wpAny_call_entry F.slot_tuple_iterator_next I F.entry_tuple_iterator_next ?_<|F.args_tuple_iterator_next_1 _;unfold Builtin.«tuple_iterator.__next__»
 wp_walk using AutoSeq1.wpAny_loadPart' g1,AutoSeq1.wpAny_loadPart' g2
 have e:bq[((i:Nat):Int).toNat]?=some x:=Z;rw[e];dsimp only;apply J2;apply wpAny_setField g1 rfl (by simp);apply Qa;refine#[x,rfl,?_];apply Qa;apply k
 ·exact#[_,Heap.get?_update_self _ g1 rfl,rfl,by simp[Obj.mapFields,rawInt]]
 ·exact Heap.SameBut.update ..
def FQ(hd:rD A z.heap)(Z:A.handled≠some (.ref ti))(hi:z.heap.IsTupleIter ti tp i)(c:z.heap.IsTuple tp bq)(a:bq[i]?=none)
 (k:∀ g e,Heap.ExtBut ti z.heap g->(∃ o,g.get? e=some o/\o.cls=.type "StopIteration")->E (.ref e) { z with heap:=g }):wpAny (model prog w) A (Builtin.SmallTypes.nextOf<|.ref ti) Q E z:=by
 have I:=hi.typeIs;let#[#[c1,p,m,s1],g1,Y,R]:=hi;let#[#[r,n,l,s2],g2,U,n2,O]:=c;dsimp only at Y R U O;subst Y R U O;let#[j,g,d,h,os]:=z;unfold Builtin.SmallTypes.nextOf;refine J2<|wpAny_callSpecial?_slot (name:=Str.ofString "__next__") I F.slot_tuple_iterator_next<|wpAny_call_entry F.slot_tuple_iterator_next I F.entry_tuple_iterator_next ?_<|F.args_tuple_iterator_next_1 _;unfold Builtin.«tuple_iterator.__next__»
 wp_walk using AutoSeq1.wpAny_loadPart' g1,AutoSeq1.wpAny_loadPart' g2
 have e:bq[((i:Nat):Int).toNat]?=none:=a;rw[e];dsimp only;apply J2;apply wpAny_rule;apply J2;apply wpAny_setField g1 rfl (by simp);unfold Builtin.SmallTypes.stopIteration;apply J2;refine HF (hd.keeps λb u vs e _ hb=>(Heap.SameBut.update ..).extBut b u (λz=>Z<|z▸hb) e) λg e kp f=>k g e (λb o hb q=>kp b o ?_) f;exact(Heap.SameBut.update ..).extBut b o hb q
def F5(h:wpAny (model prog w) A m S (λ_ _=>False) z)(k:∀ a I,S a I->Q a I):wpAny (model prog w) A m Q E z:=wpAny_mono h k λ_ _ f=>f.elim
def Bz(h:∀ b,Q b z):wpAny (model prog w) A (pure b) Q E z:=Qa<|h b
def Ej{x:Value}{S:Addr->Shared->Prop}(c:∀ A:Around,wpAny (model prog w) A (pyIter x) (λv I=>∃ it,v=.ref it/\S it I) (λ_ _=>False) z)
 (k:∀ it I,S it I->Q (.ref I.heap.objs.size) { I with heap:=I.heap.push { cls:=.type "enumerate",data:=.fields (List.toArray [.none,.bool false,.ref it,rawInt 0,.none,.none]) } }):wpAny (model prog w) A (call (.type "enumerate") [x]) Q E z:=by
 have body:MeetsIn prog w (Builtin.«enumerate.__new__» ⟨[.type "enumerate",x],[]⟩) (λA R s=>s=z/\∀ it I,S it I->R (.ok<|.ret<|.ref I.heap.objs.size) { I with heap:=I.heap.push { cls:=.type "enumerate",data:=.fields (List.toArray [.none,.bool false,.ref it,rawInt 0,.none,.none]) } }):=by
  rintro A R s ⟨rfl,j⟩;have Y:=sub_enumerate;have iter:=c A.in1;let#[o,g,d,n,os]:=s
  wp_walk
  refine wpAny_stack_any λst=>Bz λb=>?_
  have done:∀ it I,S it I->wpAny (model prog w) A.in1 (do let r <- Builtin.SmallTypes.newRecord (.type "enumerate") (Builtin.SmallTypes.ownedTupleFields++[.ref it,rawInt 0,.none,.none]);ret r)
    (λU s'=>match U with | .done f=>R (.ok f) s' | .again c'=>c'.quiet=true/\codeAny (model prog w) A c' R s') (λe s'=>R (.error e) s') I:=by
   intro it I O;have:=j it I O;let#[i,l,m,Z,a]:=I
   wp_walk
   exact this
  cases b
  ·wp_walk using F5 iter
   rintro _ I ⟨it,rfl,O⟩;exact done it I O
  ·wp_walk using F5 iter
   rintro _ I ⟨it,rfl,O⟩;exact done it I O
 refine callType_newIn F.called_enumerate ∅ (F.typeCall_enumerate_1 _) (F.newCall_enumerate_1 _) (λobj=>F.args_object_init_2 obj _) F.entry_enumerate_new body ⟨rfl,λit I h=>?_⟩;exact#[#[_,Qf _ rfl,rfl],k it I h]
def CY:nG prog w where
 draws:=λZ ti tp O bq=>{
  live:=λi h st=>let ⟨o,e,_⟩:=st.1;⟨o,e⟩
  frame:=λi h h' st kp=>by
   let#[#[o1,d,r1],#[o2,c,r2]]:=st;exact#[#[o1,kp ti (by simp) _ d,r1],#[o2,kp tp (by simp) _ c,r2]]
  item:=λi s Q E hi st k=>by
   refine C3 st.1 st.2 (x:=bq[i]) (by simp[hi]) λg R I=>k bq[i] g s.toks (by simp[hi]) ⟨R,st.2.extBut I.extBut O⟩ I
  done:=λs Q E st k=>FQ (.inl Z) (by rw[Z];exact λz=>nomatch z) st.1 st.2 (by simp) λg e R I=>k g e R I }
 call:=λ{A E z tp bq Q} a k=>by
  refine Ej (S:=λit U=>it=z.heap.objs.size/\U={ z with heap:=z.heap.push { cls:=.type "tuple_iterator",data:=.fields (List.toArray [.ref tp,rawInt 0]) } }) (λA=>wpAny_pyIter_tuple a ⟨_,rfl,rfl,rfl⟩) ?_;rintro it U ⟨rfl,rfl⟩;have Y:(z.heap.push { cls:=.type "tuple_iterator",data:=.fields (List.toArray [.ref tp,rawInt 0]) }).objs.size=z.heap.objs.size+1:=QL ..;dsimp only;rw[Y];refine k _ ?_ ⟨_,Qb _<|Qf _ rfl,rfl,rfl⟩ λb o e=>Qb _<|Qb _ e;have:=Qf (z.heap.push { cls:=.type "tuple_iterator",data:=.fields (List.toArray [.ref tp,rawInt 0]) }) (o:={ cls:=.type "enumerate",data:=.fields (List.toArray [.none,.bool false,.ref z.heap.objs.size,rawInt 0,.none,.none]) }) rfl;rw[Y]at this;exact this
end
end L2
namespace RS
open PySem PySem.Spec PyProof.Rows L2
section
variable{X:Cx}
def xW:∀ {bs:List Bool} {us:List Value},Vals (bs.map V.bl) us->us=bs.map Value.bool
 | [],_,h=>by cases h;rfl
 | b::bs,_,h=>by
  cases h with
  |cons r t=>
   cases r;rw[xW t];rfl
def Ey{A:Around}{bs:List Bool}:TruthOf X.prog X.w A (λi v=>(bs.map Value.bool).toArray[i]?=some v) (λi=>bs.getD i false):=by
 intro i v s Q E O q
 have I:(bs.map Value.bool)[i]?=some v:=by simpa using O
 rw[QM]at I;let#[b,U,R]:=map_some I;subst R
 have:bs.getD i false=b:=by rw[List.getD_eq_getElem?_getD,U];rfl
 have q':Q b s:=this▸q;exact wpAny_truthy_bool q'
def range_all(bs:List Bool):(List.range bs.length).all (λi=>bs.getD i false)=bs.all id:=by
 have:bs=(List.range bs.length).map λi=>bs.getD i false:=by
  apply List.ext_getElem
  ·simp
  ·intro i I O;simp[ I]
 conv=>rhs;rw[this]
 rw[all_map];rfl
abbrev JX(f:List Bool->Bool):List V->Hp->VK->Prop:=λxs H Q=>∃ p bs,xs=[.ref p]/\H p=some (.lst<|bs.map V.bl)/\Q (.bl<|f bs) H
def Dy(c:X.calm=true):bM X (.builtin "all") (JX λbs=>bs.all id):=by
 intro ag s J H xs us Q I r h;let#[p,bs,rfl,Y,q]:=h
 cases r with
 |cons r U=>
  cases U;cases r;let#[bq,R,hl,f]:=I.list<|dz.of Y;have hits:=xW R;subst hits
  have O:p<s.heap.objs.size:=by let#[o,Z,_]:=hl.isList;exact Qg Z
  refine call_all_walk<|wpAny_pyIter_list hl.isList ?_;refine#[s.heap.objs.size,_,[s.heap.objs.size],_,_,_,_,rfl,Walks.list (A:=X.A.in1) (I.ok.hd.1 c) s.heap.objs.size p (Qk O) (bs.map Value.bool).toArray,#[#[_,Qf _ rfl,rfl,rfl],hl.isList.push _],Ey,λh' d a=>?_];refine#[.bl<|bs.all id,H,I.kept λb o e=>a b o (λz=>?_)<|Qb _ e,?_,q]
  ·rw[List.mem_singleton.mp z]at e;exact absurd (Qg e)<|QK _
  ·have:=range_all bs;show Value.bool _=Value.bool _;rw[<-this];simp
def wa{P:Addr->Prop}{K:W.Frag}:∀ {ds:List RL.D} {bs:List Bool} {xs:List V},RL.i6 ds=some bs->ab P K H ds xs->xs=bs.map V.bl
 | [],bs,xs,h,r=>by rw[RL.i6]at h;cases h;rw[ab]at r;exact r
 | d::ds,bs,xs,h,r=>by
  cases d<;>simp only[RL.i6]at h<;>first | (cases h;done) | skip
  rename_i b;let#[R,O,I]:=map_some h;subst I;let#[x,t,rfl,r1,r2]:=r;rw[bJ r1,wa O r2];rfl
def IK(U:X.calm=true)(R:Gl X "all")(hm:X.mg "all" = none)(ha:SE X cl a a')(hn:noStar a=true):SE X cl (.Call (.Name "all" p) [a] [] pos) (.bi .all a'):=by
 refine lT (Dy U) R hm (by decide +kernel) ha hn ∅ ∅ λO J H c y d v Q e s1 r1 k=>?_
 cases y<;>first | (cases e;done) | skip
 case lst ds =>
  let#[bs,b,Z]:=map_some e;subst Z;let#[q,xs,rfl,_,I,Y]:=bb r1;rw[wa b Y]at I;exact#[q,bs,rfl,I,k _ _<|dN s1 wW rfl]
def GO(I:Gl X "enumerate")(hm:X.mg "enumerate" = none)(ha:SE X cl a a')(hn:noStar a=true):SI X cl (.Tuple elts kx tp) (.Call (.Name "enumerate" p) [a] [] pos) (.tm a'):=Lr CY I hm ha hn
def Ih(hl:PE X l (Ao X.K "list" Dz<|bD i))(q:SE X cl e e')(ha:nA X cl M A A')(hb:nA X cl M B B')(hi:M.contains i=true):SS X cl M (.If (.Compare l [.NotEq] [e] pos) A B pos2) (.D3 i e' A' B'):=by
 refine PS.weak (yR (rA Nh hl q<|A5 _ ∅ ∅) ha hb) λD J H h=>?_;let#[f,o,O,Y,ev,k]:=h;let#[l,C,ev]:=bind_some ev
 cases l with
 |lst ds=>
  let#[d,x,ev]:=bind_some ev;let#[y,t,ev]:=bind_some ev;let#[v,c,b]:=Y.val i _<|slot_get C;rw[if_pos hi]at b;let#[E,j,g]:=b;let#[a,xs,rfl,_,R,U]:=bb g;let#[u,s,r]:=U.get x;have p:=nJ j;let#[g1,g2]:=Y.jS hi c R True.intro<|qT (ds:=ds) R p U.dropLast
  cases d with
  |int m=>
   cases y with
   |int n=>
    refine#[.ref a,c,.inl #[rfl,xs,dz.of R],a,xs,u,rfl,rfl,R,by rw[<-U.length];exact s,?_];refine#[_,_,g1.hH,t,λw F r1=>?_];rw[ay r,ay r1.rep];have Z:=k.from<|g2.trans<|ek.same (J:=J) r1.same;refine#[rfl,_,rfl,?_];dsimp only at ev;by_cases I:m=n
    ·rw[if_pos<|by simpa using I]at ev
     have hd:(!decide (V.int m=V.int n))=false:=by rw[I];simp
     rw[hd];exact gO ⟨_,o,O,g1.same r1.same,ev,Z⟩
    ·rw[if_neg<|by simpa using I]at ev
     have hd:(!decide (V.int m=V.int n))=true:=by
      have:V.int m≠V.int n:=λz=>I (by injection z);simp[this]
     rw[hd];exact gu ⟨_,o,O,g1.same r1.same,ev,Z⟩
   | _=>cases ev
  | _=>cases ev
 | _=>cases ev
end
end RS
namespace L2
open PySem PySem.Spec PyProof.Rows
end L2
namespace RS
open PySem PySem.Spec PyProof.Rows L2
section rules
end rules
end RS
namespace L2
open PySem PySem.Spec PyProof.Rows
def tF(xs:List α):∀ k:Nat,k<=xs.length->((List.range k).map λ(j:Nat)=>(((xs.length:Int)-1)+(-1)*(j:Int)).toNat).filterMap (xs.toArray[·]?)=xs.reverse.take k:=by
 intro k
 induction k with
 | zero=>intro _;simp
 |succ k I=>
  intro R;rw[List.range_succ,QE,List.filterMap_append,I ⋯,List.take_succ];congr 1
  have O:(((xs.length:Int)-1)+(-1)*k).toNat=xs.length-1-k:=by lia
  simp only[map_cons,map_nil,filterMap_cons,List.filterMap_nil,O];rw[List.getElem?_reverse ⋯];simp only[List.getElem?_toArray];rfl
def CZ(bq:List Value):slicePick bq.toArray none none (some<|-1)=bq.reverse.toArray:=by
 have h:=tF bq bq.length<|Qc _;rw[List.take_of_length_le<|by simp]at h;unfold slicePick
 have hb:sliceBounds none none (some<|-1) bq.toArray.size=((bq.length:Int)-1,-1,-1):=by
  simp[sliceBounds]
 rw[hb];unfold sliceRange
 have I:(if(-1:Int) > 0 then(if(bq.length:Int)-1 < -1 then(-1-((bq.length:Int)-1)+-1-1) / -1 else 0)else(if(bq.length:Int)-1 > -1 then((bq.length:Int)-1 - -1 - -1-1) / (- -1)else 0)).toNat=bq.length:=by
  rw[if_neg ∅];rw[show(- -1:Int)=1 from rfl];split
  ·rw[Int.ediv_one];lia
  ·lia
 dsimp only;rw[I,h]
section
def zE(n:Nat):Builtin.Slice.slicePlaces ((n:Int)-1) (-1) (-1)=n:=by
 unfold Builtin.Slice.slicePlaces;rw[if_neg ∅];rw[show(- -1:Int)=1 from rfl];split
 ·rw[Int.ediv_one];lia
 ·lia
def nL{prog:Program}{w:World}{A:Around}{E:Value->Shared->Prop}{s:Shared}{t sl:Addr}{bq:List Value}{k:Tok}{Q:Value->Shared->Prop}(U:IsTup s.heap t bq.toArray)(c:s.heap.IsSliceOf sl .none .none (.int (-1) k))
 (h:Q (.ref s.heap.objs.size) { s with heap:=s.heap.push { cls:=.type "tuple",data:=.seq bq.reverse.toArray } })
 (Y:bq.length<=sizeLine):wpAny (model prog w) A (getItem (.ref t)<|.ref sl) Q E s:=by
 have I:sizeOk (.seq bq.reverse.toArray):=by
  show bq.reverse.toArray.size<=sizeLine;rw[size_toArray,QJ];exact Y
 let#[os,O,Z,R]:=id c
 have a:s.TypeIs (.ref sl) "slice" := #[os,O,Z]
 unfold getItem
 try with_reducible refine wpAny_holding ?_
 first | refine J2 (Qa ?_) | skip
 refine J2<|wpAny_sequenceKey U.typeIs ∅ ?_
 refine J2 (wpAny_callSpecial?_slot U.typeIs PyProof.Rows.slot_tuple_getitem
  (wpAny_call_entry PyProof.Rows.slot_tuple_getitem U.typeIs entry_tuple_getitem ?_<|args_tuple_getitem _ _))
 show wpAny _ _ (Builtin.Tuple.tupleItemsOf (.ref t) >>= _) _ _ s;refine J2<|tupleItemsOf_ U ?_;refine J2<|wpAny_typeOf a ?_;rw[if_pos ∅];refine J2 ?_;refine J2<|J2<|wpAny_field O R (x:=.none) rfl<|J2<|wpAny_field O R (x:=.none) rfl<|J2<|wpAny_field O R (x:=.int (-1) k) rfl<|Qa ?_;refine J2<|HT.gC (.int (-1) k) ?_;rw[if_neg ∅];refine J2<|HT.gC .none<|J2<|HT.gC .none<|J2<|Qa ?_;show wpAny _ _ (match Builtin.Slice.sliceAdjust none none (-1) (bq.toArray.size:Int)with | (lo,hi)=>pure (lo,(-1:Int),Builtin.Slice.slicePlaces lo hi<|-1)) _ _ s;show wpAny _ _ (pure ((bq.length:Int)-1,(-1:Int),Builtin.Slice.slicePlaces ((bq.length:Int)-1) (-1)<|-1)) _ _ s;rw[zE];refine Qa ?_;show wpAny _ _ (if(((bq.length:Int)-1 == 0)&&(-1:Int) == 1&&bq.length == bq.toArray.size)=true then _ else _) _ _ s;rw[if_neg (by rw[show((-1:Int) == 1)=false from rfl,Bool.and_false,Bool.false_and];exact Qj)]
 have b:((List.range bq.length).filterMap λ(m:Nat)=>bq.toArray[((bq.length:Int)-1+(m:Int)*-1).toNat]?).toArray=bq.reverse.toArray:=by
  have h:=tF bq bq.length<|Qc _;rw[List.take_of_length_le (by simp),List.filterMap_map]at h;rw[<-h];congr 2;funext m;congr 2;lia
 rw[b]
 first
  | exact J2 (wpAny_newObj_type (Qa ⟨_,rfl,Qa h⟩) I)
  | exact J2 (wpAny_newObj_type (J2 (Qa (Qa ⟨_,rfl,Qa h⟩))) I)
  | exact J2 (J2 (wpAny_newObj_type (Qa (Qa ⟨_,rfl,Qa h⟩)) I))
  | exact J2 (J2 (wpAny_newObj_type (Qa ⟨_,rfl,Qa h⟩) I))
abbrev Ol(K:W.Frag)(te:TE):TE:=λJ H Q=>te J H λx I=>∃ a xs,x=.ref a/\((dz K I a xs/\∀ p,I p=none->Q (.ref p) (upd I p<|.lst xs.reverse))\/(ed K I a xs/\∀ p,I p=none->Q (.ref p) (upd I p<|.tup xs.reverse)))
def Kr(k:PE X e3 (tC<|.int<|-1))(j:PE X e te):PE X (.Subscript e (.Slice none none (some e3) p2) pos) (Ol X.K te):=by
 intro ag s J H Q I h;refine Subscript_ (cg (j ag s J H _ I h) λv s1 U=>x2_2 U λx f m r1 i=>?_);refine wpAny_Slice ?_;refine Qa<|Qa ?_;refine cg (k ag s1 J f (λy H2=>y=.int (-1)/\H2=f) m ⟨rfl,rfl⟩) λvs c U=>x2_2 U λy n l r3 g=>?_;let#[rfl,rfl]:=g;let#[t,rfl]:=r3;let#[a,xs,rfl,q]:=i;cases r1;have O:Inv X ag J n { c with heap:=c.heap.push { cls:=.type "slice",data:=.fields (List.toArray [.none,.none,.int (-1) t]) } }:=l.kept λb d q=>Qb _ q
 rcases q with⟨Z,q⟩ | ⟨Z,q⟩
 ·let#[bq,r,R,Y]:=O.list Z;have hlen:=r.length;refine tail_any R.isList.typeIs slot_list_getitem.lookup ?_ (by with_unfolding_all rfl);refine wpAny_getItem_list_slice R.isList (Heap.IsSliceOf.new ..) .none .none (.int (-1) t) (by simp) ?_ (by rw[size_toArray]<;>lia);rw[CZ];refine#[.ref _,_,O.laid (λb d q=>Qb _ q) (Qc _) ?_,rfl,q _<|O.b9.fresh<|Qc _];exact#[by rw[QJ];exact Y,_,0,r.reverse,Qf _ rfl]
 ·let#[bq,r,R,Y]:=O.tuple Z;have hlen:=r.length;refine tail_any R.typeIs PyProof.Rows.slot_tuple_getitem.lookup ?_ (by with_unfolding_all rfl);refine nL R (Heap.IsSliceOf.new ..) ?_ ⋯;refine#[.ref _,_,O.laid (λb d q=>Qb _ q) (Qc _) ?_,rfl,q _<|O.b9.fresh<|Qc _];exact#[by rw[QJ];exact Y,_,r.reverse,IsTup.new _ _]
end
end L2
namespace RS
open PySem PySem.Spec PyProof.Rows L2
section
def LC(ha:SE X cl a a')(Y:gE (-1) e3=true):SE X cl (.Subscript a (.Slice none none (some e3) p2) pos) (.rev a'):=by
 refine PE.weak (Kr (jZ Y).1 ha) λJ H Q h=>?_;let#[I,d,U,e,k]:=h;let#[x,Z,e]:=bind_some e;refine#[I,x,U,Z,λv b r1=>?_]
 cases x with
 |lst xs=>
  cases e;let#[q,ys,rfl,_,R,O]:=bb r1.rep;exact#[q,ys,rfl,.inl #[dz.of R,λl hl=>k _ _ (d9 r1.same hl O.rev λ_=>rfl)]]
 |tup xs=>
  cases e;let#[q,ys,rfl,R,O]:=bw r1.rep;exact#[q,ys,rfl,.inr #[ed.of R,λl hl=>k _ _ (gS r1.same hl O.rev λ_=>rfl)]]
 | _=>cases e
def CA{c:Expr}{body:List Stmt}{b:RL.Ss}(u:X.xe=λ_ _=>False)(w:ST X cl c c')(hb:nA X cl M body b):SS X cl M (.While c body [] pos) (.ow c' b):=by
 refine PS.weak (D9 (by rw[u];exact PassesOwn.never) w hb) λD J H h=>?_;let#[j,r,Z,s,e,k]:=h;refine#[λm O H2=>∃ I,c8 X.K M I O H2/\ek M J H O H2/\RL.vu (λJ=>(RL.ev cl J c').bind RL.truth) (RL.aq cl M b) m I=some (r,Z),#[_,j,s,ek.same<|aB.refl _,e],?_];rintro m O H2 ⟨I,a,n,hl⟩
 cases m with
 | zero=>rw[RL.vu]at hl;cases hl
 |succ m=>
  let#[t,y,hl]:=bind_some hl;refine#[I,t,a.hH,y,λA l=>?_];have g:=n.trans<|ek.same (J:=O) l
  cases t with
  |true=>
   let#[#[o,Y],x,hl]:=bind_some hl;refine#[λR H'=>∃ p,p<m+1/\∃ U,c8 X.K M U R H'/\ek M J H R H'/\RL.vu (λJ=>(RL.ev cl J c').bind RL.truth) (RL.aq cl M b) p U=some (r,Z),λ_ _ h=>h,I,o,Y,a.same l,x,?_]
   cases o with
   | nx=>exact λR H' f i=>#[m,by lia,Y,f,g.trans i,hl]
   |rt d=>
    cases hl;exact λR H' v z f i q rp=>k R H' v z f (g.trans i) q rp
  |false=>
   cases hl;exact k O A (a.same l) g
end
end RS
namespace L2
open PySem PySem.Spec PyProof.Rows
end L2
namespace RS
open PySem PySem.Spec PyProof.Rows L2
section
def GZ(h:RL.sk x y z=some d):∃ i j,y=.int i/\z=.int j/\((∃ xs,x=.lst xs/\d=.lst ((xs.take<|RL.cutAt xs.length j).drop<|RL.cutAt xs.length i))\/∃ xs,x=.tup xs/\d=.tup ((xs.take<|RL.cutAt xs.length j).drop<|RL.cutAt xs.length i)):=by
 unfold RL.sk at h;split at h
 ·exact#[_,_,rfl,rfl,.inl #[_,rfl,(Option.some.inj h).symm]]
 ·exact#[_,_,rfl,rfl,.inr #[_,rfl,(Option.some.inj h).symm]]
 ·cases h
def xM{ys:List V}{xs:List RL.D}(hl:xs.length=ys.length)(i j:Int):iD ys (some i) (some j)=(ys.take<|RL.cutAt xs.length j).drop (RL.cutAt xs.length i):=by
 unfold iD;rw[mz,kH,<-hl,List.drop_take]
def L1(ha:SE X cl a a')(hb:SE X cl b b')(f:SE X cl c c'):SE X cl (.Subscript a (.Slice (some b) (some c) none p2) pos) (.wh a' b' c'):=by
 refine PE.weak (oC (vm.or rN qR) ha (nH hb)<|nH f) λJ H Q h=>?_;let#[O,d,U,e,k]:=h;let#[x,n,e]:=bind_some e;let#[y,m,e]:=bind_some e;let#[z,g,e]:=bind_some e;let#[i,j,rfl,rfl,e']:=GZ e;refine#[O,x,U,n,λv p r1=>#[O,_,U.same r1.same,m,λu H2 r2=>#[i,ay r2.rep,O,_,(U.same r1.same).same r2.same,g,λw o r3=>#[j,ay r3.rep,?_]]]];have R:=(r1.rep.same r2.same).same r3.same;have Z:=(r1.same.trans r2.same).trans r3.same
 rcases e' with⟨xs,rfl,rfl⟩ | ⟨xs,rfl,rfl⟩
 ·let#[q,ys,rfl,_,Y,I]:=bb R;refine .inl #[q,ys,rfl,dz.of Y,λl hl=>?_];rw[xM I.length];exact k _ _ (d9 Z hl ((I.take _).drop _) λ_=>rfl)
 ·let#[q,ys,rfl,Y,I]:=bw R;refine .inr (wD Z R Y I (λ_=>rfl) (λa b=>?_) ?_ k)
  ·rw[kH,<-I.length]at a;rw[mz,<-I.length]at b;rw[a,b,take_length,drop_zero]
  ·rw[xM I.length];exact(I.take _).drop _
end
end RS
namespace L2
open PySem PySem.Spec PyProof.Rows
end L2
namespace RS
open PySem PySem.Spec PyProof.Rows L2
end RS
namespace L2
open PySem PySem.Spec PyProof.Rows
end L2
namespace RS
open PySem PySem.Spec PyProof.Rows L2
end RS
namespace L2
open PySem PySem.Spec PyProof.Rows
abbrev Itx(x:Str):It:=#[λi _=>i<x.cps.size,λi H v H'=>H'=H/\∃ c,x.cps[i]?=some c/\v=.str #[(List.toArray [c])],λi _=>x.cps.size<=i]
def D5{P:Program}{w:World}{K:W.Frag}{tg:Expr}(x:Str)(t:Tok)(it:Addr):Turn P w K tg (Itx x) [it] it (λi h=>h.IsStrIter it (strIterType x) x t i) where
 mem:=by simp
 obj:=λi h st b hb=>by
  have e:b=it:=by simpa using hb
  subst e;let#[o,e,c,d]:=st;exact⟨o,e,λv z=>by rw[d]at z;cases z⟩
 keep:=λi h h' st k=>let ⟨o,e,r⟩:=st;⟨o,k it (by simp) o e,r⟩
 item:=by
  intro X j f l g i ag s J H E I a st Y;subst j f l;have Y:i<x.cps.size:=Y;let#[B,q,C,p,n,m]:=a it<|by simp
  have Z:x.cps[i]?=some x.cps[i]:=by simp[Y]
  have U:∀ h',h'.IsStrIter it (strIterType x) x t (i+1)->Heap.SameBut it s.heap h'->(∃ u,some (Value.str ⟨(List.toArray [x.cps[i]])⟩ s.toks)=some u /\
    wpAny (model X.prog X.w) X.A (letOwnedTupleGo tg (.ref it) u) (λ_ s2=>∃ y H',Inv X ag J H' s2/\RelV y u/\(Itx x).n7 i H y H'/\s2.heap.IsStrIter it (strIterType x) x t (i+1)/\∀ b∈[it],H' b=none) E { s with heap:=h',toks:=s.toks+1 }):=λh' O sb=>by
   have F:Inv X ag J H { s with heap:=h',toks:=s.toks+1 }:=I.turned (t':=s.toks+1) (λb o hb e=>(sb.2 b hb).trans e) B q p n m;let#[o,e,c,d]:=id O
   have hn:["enumerate", "zip", "dict_itemiterator", "dict_reverseitemiterator", "odict_iterator", "itertools.zip_longest", "itertools.pairwise"].contains (strIterType x)=false:=by
    unfold strIterType;split<;>decide
   exact#[_,rfl,pR (s:={ s with heap:=h',toks:=s.toks+1 }) e c d hn #[.str #[(List.toArray [x.cps[i]])],H,F,#[_,rfl],#[rfl,_,Z,rfl],O,λb hb=>(a b hb).1]]
  cases ha:x.cps.all (·<128)with
  |true=>
   have R:strIterType x = "str_ascii_iterator" := by simp[strIterType,ha]
   rw[R]at st;exact wpAny_pyNext_ascii_item st Z λh' O sb=>U h' (by rw[R];exact O) sb
  |false=>
   have R:strIterType x = "str_iterator" := by simp[strIterType,ha]
   rw[R]at st;exact wpAny_pyNext_wide_item st Z λh' O sb=>U h' (by rw[R];exact O) sb
 done:=by
  intro X j f l g i ag s J H E I a st Y;subst j f l;have Y:x.cps.size<=i:=Y;let#[B,q,C,p,n,m]:=a it<|by simp
  have Z:x.cps[i]?=none:=by simp[Y]
  have U:∀ h',Heap.ExtBut it s.heap h'->(none:Option Value)=none/\Inv X ag J H { s with heap:=h' }:=λh' D=>#[rfl,I.turned (t':=s.toks) (λb o hb e=>D b o hb e) B q p n m]
  cases ha:x.cps.all (·<128)with
  |true=>
   have R:strIterType x = "str_ascii_iterator" := by simp[strIterType,ha]
   rw[R]at st;exact wpAny_pyNext_ascii_end (I.ok.hd.1 g) st Z U
  |false=>
   have R:strIterType x = "str_iterator" := by simp[strIterType,ha]
   rw[R]at st;exact wpAny_pyNext_wide_end (I.ok.hd.1 g) st Z U
 self:=λA i s Q E st h=>by
  cases ha:x.cps.all (·<128)with
  |true=>
   have R:strIterType x = "str_ascii_iterator" := by simp[strIterType,ha]
   rw[R]at st;exact wpAny_pyIter_striter_ascii st h
  |false=>
   have R:strIterType x = "str_iterator" := by simp[strIterType,ha]
   rw[R]at st;exact wpAny_pyIter_striter_wide st h
def J3{X:Cx}{tg l:Expr}{Y:TE}(hl:PE X l Y):PI X tg l (λJ H R=>Y J H λy U=>∃ x,y=.str x/\R (Itx x) U):=by
 intro ag s J H R I h;refine cg (hl ag s J H _ I h) λv s1 a=>x2_2 a λy U O r1 Z=>x1_1 Z λx e q=>?_;subst e;let#[t,rfl]:=r1;refine wpAny_pyIter_strU ⟨s1.heap.objs.size,[s1.heap.objs.size],_,_,U,rfl,O.kept (t':=s1.toks) λb o e=>Qb _ e,D5 x t _,⟨_,Qf _ rfl,rfl,rfl⟩,λb hb=>?_,q⟩;rw[show b=s1.heap.objs.size by simpa using hb];exact O.sH (Qc _)<|O.b9.fresh<|Qc _
end L2
namespace RS
open PySem PySem.Spec PyProof.Rows L2
def BX{K:W.Frag}{H:Hp}{x:Str}{P:Addr->Prop}:lH K (Itx x) (x.cps.toList.map λc=>RL.D.str ⟨(List.toArray [c])⟩) P H where
 go:=λH' i k hi=>by show i<x.cps.size;simpa using hi
 stop:=λH' k=>by show x.cps.size<=_;simp
 n7:=λH' i d v H2 k e y=>by
  let#[z,c,R,O]:=y;subst z O;refine#[aB.refl _,λ_=>?_]
  have:d=.str ⟨(List.toArray [c])⟩:=by
   rw[QM]at e;let#[c',I,U]:=map_some e;rw[Qy,R]at I;cases I;exact U.symm
  subst this;exact gn
def Lb{X:Cx}{cl:RL.Cl}{tg a:Expr}{a':RL.E}(ha:SE X cl a a'):SI X cl tg a (.chr a'):=by
 refine PI.weak (J3 ha) λJ H R h=>?_;let#[I,ds,U,e,k]:=h;let#[d,Y,O]:=bind_some (show(RL.ev cl I a').bind _=some ds from e);refine#[I,d,U,Y,λv Z r1=>?_]
 cases d with
 |str x=>
  cases O;exact#[x,aR r1.rep,k _ _ r1.same #[BX,λ_ _ _ _ _=>BX]]
 | _=>cases O
end RS
namespace L2
open PySem PySem.Spec PyProof.Rows
def Ho{X:Cx}:PIp X .Add (λx y H Q=>∃ a b,x=.str a/\y=.str b/\a.length+b.length<=sizeLine/\Q (.str<|a++b) H):=by
 intro ag s J H x y v u Q I r1 r2 h;let#[a,b,rfl,rfl,R,q]:=h;let#[t,rfl]:=r1;let#[O,rfl]:=r2;exact SBL.iadd (λO k _=>#[.str<|a++b,H,I.tok _,#[_,rfl],q]) R
end L2
namespace RS
open PySem PySem.Spec PyProof.Rows L2
section
variable{X:Cx}{cl:RL.Cl}{a b:Expr}{a' b' e':RL.E}{pos p2:Pos}{M:List Nat}{st:Stmt}{i:Nat}
def FE(h:PS X st (Ep i (tE X.K cl e') λx y H Q=>∃ a b,x=.str a/\y=.str b/\a.length+b.length<=sizeLine/\Q (.str<|a++b) H))(hi:M.contains i=false):SS X cl M st (.mq i e'):=by
 refine PS.weak h λD J H h=>?_;let#[R,Z,O,U,e,k]:=h;let#[x,j,e]:=bind_some (show((R[i]?).bind id).bind _=some (Z,O)from e);let#[y,g,e]:=bind_some e;let#[z,I,f]:=map_some e;cases f
 cases x with
 |str a=>
  cases y with
  |str b=>
   have I:(if a.length+b.length<=RL.most then some (RL.D.str<|a++b)else none)=some z:=I;by_cases c:a.length+b.length<=RL.most
   ·rw[if_pos c]at I;cases I;let#[v,d,Y]:=U.val i _<|slot_get j;rw[if_neg<|by rw[hi];decide]at Y;refine#[v,d,R,.str b,U.hH,g,λu l r1=>#[a,b,aR Y,aR r1.rep,Qp c cT,?_]];exact k _ _ ((U.same r1.same).bind hi gn)<|ek.bind hi r1.same
   ·rw[if_neg c]at I;cases I
  | _=>cases I
 | _=>cases I
def FU{f r p w:Nat}(h:PS X st (mJ<|mT (wd X.K cl [0] f) [] E0<|kI (bD r)<|kI (bD p)<|kI (Ao X.K "list" Dz<|bD w) v9))(B:M.contains r=true)(I:M.contains p=false)(QN:M.contains w=true)(L:r≠w):SS X cl M st (.tie3 f r p w):=by
 refine PS.weak h λD J H h=>?_;let#[U,ou,Z,A,e,k]:=h;let#[R,e1,e]:=bind_some (show((U[r]?).bind id).bind _=some (ou,Z)from e);let#[x,e2,e]:=bind_some e;let#[l,e3,e]:=bind_some e;let#[q,e4,e]:=bind_some e
 have N:p≠w:=λz=>by rw[z,QN]at I;cases I
 cases l with
 |lst ds=>
  let#[d,e5,e6]:=map_some (show(ds[ds.length-1]?).map _=some q from e4);subst e6;by_cases im:x.ax=true
  ·rw[if_pos im]at e;let#[c,e7,O]:=bind_some e;let#[v,s,h2]:=A.val r _<|slot_get e1;rw[if_pos B]at h2;let#[a,o,rfl,_,_]:=h2.ref;let#[F,p1,p2]:=A.val p _<|slot_get e2;let#[vw,w1,w2]:=A.val w _<|slot_get e3;rw[if_pos QN]at w2;let#[q1,q2,q3]:=w2;let#[b,xs,rfl,_,t,T]:=bb q3;let#[y,f4,f5]:=T.get e5;have G:=nJ q2;let#[g1,g2]:=A.jS (d':=.lst ds.dropLast) (o':=.lst xs.dropLast) QN w1 t True.intro<|qT (ds:=ds) t G T.dropLast;have g:d.ax=true:=qp q2 e5;have rd:∀ P:Addr->Prop,Rep P X.K (upd H b<|.lst xs.dropLast) d y:=λP=>Rep.ax g (Rep.upd (P:=λp=>p=b) t True.intro rfl<|f5.ax g);refine#[.ref a,s,F,p1,.ref b,w1,.inl #[rfl,xs,dz.of t],b,xs,y,rfl,rfl,t,by rw[<-T.length];exact f4,?_];show wd X.K cl [0] f ([.ref a,F,y]++[]) (upd H b<|.lst xs.dropLast) _ E0;rw[append_nil]
   have er:(U.set w<|some<|RL.D.lst ds.dropLast)[r]?=some (some R):=by rw[Qd<|Ne.symm L];exact slot_get e1
   have ep:(U.set w<|some<|RL.D.lst ds.dropLast)[p]?=some (some x):=by rw[Qd<|Ne.symm N];exact slot_get e2
   let#[v',z1,E]:=g1.val r _ er;rw[s]at z1;cases z1;rw[if_pos B]at E;let#[v',z3,C]:=g1.val p _ ep;rw[p1]at z3;cases z3;rw[if_neg<|by rw[I];decide]at C
   cases c with
   |tup ts=>
    match ts,O,e7 with
    |[d0,R'],O,e7=>
     cases O
     have u:∀ c,mAt [0] [V.ref a,F,y] c->c=a:=λc ⟨p,I,e⟩=>by
      rw[mem_singleton]at I;subst I;cases e;rfl
     refine#[[R,x,d],d0,[R'],e7,#[ab.cons E.2.2<|ab.cons C.none<|ab.cons (rd nP) ab.nil,λp I=>?_,λp I q Y _ _ _=>?_,λq dq v Y m j=>?_],λv H' off rp im' mo=>?_]
     ·rw[mem_singleton]at I;subst I;exact#[R,a,rfl,rfl,E]
     ·rw[mem_singleton]at I Y;rw[I,Y]
     ·match q,Y,m,j with
      | 0,Y,_,_=>exact absurd (List.mem_singleton.mpr rfl) Y
      |1,_,m,j=>
       cases m;cases j
       exact C.weak λc hc=>by
        rw[u c hc];exact#[r,B,s]
      |2,_,m,j=>
       cases m;cases j;exact rd _
     ·let#[k1,k2]:=g1.changed (ms:=[r]) (outs:=[R']) (H1:=H') (λi hi=>by rw[List.mem_singleton.mp hi];exact B) (by simp) rfl
       (λc o n e=>off c o (λz=>n ⟨r,List.mem_singleton.mpr rfl,by rw[u c z];exact s⟩) e) λk i o S Q=>by
        match k,S,Q with
        |0,S,Q=>
         cases S;cases Q;let#[c,c1,c2]:=mo.own 0 0 _ rfl rfl;cases c1;exact#[a,s,c2]
      exact k _ _ k1<|g2.trans k2
    | [],O,_=>cases O
    | [_],O,_=>cases O
    | _::_::_::_,O,_=>cases O
   | _=>cases O
  ·rw[if_neg im]at e;cases e
 | _=>cases e4
end
section
open PySem.W
variable{prog:Program}{w:World}{A:Around}{E:Value->Shared->Prop}{s:Shared}
def A6{κ:SortKind}{it:Array Keyed}{n:Nat}(I:∀ i,1<=i->i<n->∀ C:Bool->Shared->Prop,C false s->kas_cmp prog w A κ it i (i-1) C s) :
  ∀ (f k:Nat),1<=k->k+f<=n->(kas_asc (List.toArray<|List.range n) f k).kasWp (kas_cmp prog w A κ it) (λm s'=>m=k+f/\s'=s) s
 | 0,k,_,_=>#[rfl,rfl]
 | f+1,k,h1,h2=>by
  have R:(List.toArray<|List.range n).getD k 0=k:=by simp[Array.getD];lia
  have O:(List.toArray<|List.range n).getD (k-1) 0=k-1:=by simp[Array.getD];lia
  show kas_cmp prog w A κ it ((List.toArray<|List.range n).getD k 0) ((List.toArray<|List.range n).getD (k-1) 0) _ s;rw[R,O];refine I k h1 ⋯ _ ?_;have h:=A6 I f (k+1) ⋯ ⋯;rw[show k+1+f=k+(f+1) by lia]at h;exact h
def EA{κ:SortKind}{it:Array Keyed}{n:Nat}{Q:Unit->SortSt->Shared->Prop}(Y:2<=n)(O:n<64)(R:∀ i,1<=i->i<n->∀ C:Bool->Shared->Prop,C false s->kas_cmp prog w A κ it i (i-1) C s)
 (U:∀ st,arrOf st=(List.toArray<|List.range n).map (kas_item it)->failedOf st=none->Q ⟨⟩ st s):kasC (model prog w) A E sortRuns' Q (kas_st κ it<|List.toArray<|List.range n) s:=by
 refine kas_runs (G:=λp s'=>p=List.toArray (List.range n)/\s'=s) Y O (λZ I s' _ a2 a3 e=>?_) ?_
 ·let#[rfl,rfl]:=e;exact U I a2 a3
 ·unfold kas_sort kas_count;rw[KasT.kasWp_bind,KasT.kasWp_bind];refine kas_wp_mono (A6 R (n-1) 1 (Qc 1) ⋯) λm s' hm=>?_;let#[rfl,rfl]:=hm;rw[if_pos<|by simp;lia];show(if 1+(n-1)<n then(_:KasT (Array Nat))else KasT.ret _).kasWp _ _ _;rw[if_neg ⋯];exact#[rfl,rfl]
variable{vs:List Value}{xs:List Str}
def we(I:Vals (xs.map V.str) vs)(h:xs[i]?=some x):∃ t,vs.getD i Value.none=.str x t:=by
 let#[u,O,t,rfl]:=I.get (i:=i) (x:=.str x) (by simp[h]);exact#[t,by simp[List.getD,O]]
abbrev Ab(xs:List Str):Prop:=∀ (i:Nat) (a b:Str),xs[i]?=some a->xs[i+1]?=some b->¬ b.cps.toList<a.cps.toList
def tU{a:Addr}{n:Nat}{P:PySem.Fin->Shared->Prop}(b:s.heap.get? a=some (seqObj "list" vs.toArray n))(Z:Vals (xs.map V.str) vs)(g:Ab xs)(c:vs.length<64)(l:vs.length<=sizeLine)
 (h:P (.done<|.ret .none) { s with heap:=sortedHeap s.heap a vs vs.toArray }):wpAny (model prog w) A (Builtin.«list.sort» ⟨[.ref a],[]⟩) P E s:=by
 have hlen:xs.length=vs.length:=by simpa using Z.length
 let#[O,U]:∃ O,(s.heap.update a (Obj.mapSeq λ_=>((List.toArray []):Array Value))).get? a=some (seqObj "list" (List.toArray []) O):=#[_,get?_update_seq b λ_=>(List.toArray [])]
 have p:a<s.heap.objs.size:=Qg b;have R:(((s.heap.update a (Obj.mapSeq λ_=>((List.toArray []):Array Value))).push<|seqObj "tuple" vs.toArray 0).push<|seqObj "list" (List.toArray []) 0).get? a=some (seqObj "list" (List.toArray []) O):=Qb _<|Qb _ U
 have Y:∀ st:SortSt,(arrOf st).map (·.2)=vs.toArray->failedOf st=none->wpAny (model prog w) A (do
   let sorted:=(arrOf st).map (·.2)
   let touched:=(<- seqEpoch a) != O
   Builtin.List.listUpdate (.ref a) λ_=>sorted
   if let some e:=failedOf st then do rule "list.sort.comparison-raised";throw e
   if touched then do rule "list.sort.modified";raiseError "ValueError" "list modified during sort"
   ret .none) P E { s with heap:=((s.heap.update a (Obj.mapSeq λ_=>((List.toArray []):Array Value))).push (seqObj "tuple" vs.toArray 0)).push (seqObj "list" (List.toArray []) 0) }:=λst o r=>by
  dsimp only;rw[o,r];refine J2 (seqEpoch_at R rfl<|J2<|listUpdate_at R rfl ?_ (zero_le _)<|by rw[size_toArray];lia);simp only[bne_self_eq_false,false_eq_true,if_false];exact Qa h
 rw[list_sort_plain];refine J2 (listItems_at b rfl<|J2<|listUpdate_at b rfl ?_ (by rw[size_toArray];exact l)<|zero_le _);refine J2 (seqEpoch_at U rfl (J2 (wpAny_newTuple ?_ (by show vs.length<=_;exact l))));refine J2<|wpAny_newList (wpAny_holding ?_)<|zero_le _;show wpAny (model prog w) A _ P E { s with heap:=((s.heap.update a (Obj.mapSeq λ_=>((List.toArray []):Array Value))).push<|seqObj "tuple" vs.toArray 0).push (seqObj "list" (List.toArray []) 0) };dsimp only
 have sn:∀ k:SortKind,(arrOf<|SortSt.mk' k (vs.toArray.zip vs.toArray) (List.toArray []) 7 none).map (·.2)=vs.toArray:=λk=>by
  show(vs.toArray.zip vs.toArray).map (·.2)=_;apply Array.toList_inj.mp;simp only[Array.toList_map,Array.toList_zip];exact List.map_snd_zip<|Qc _
 by_cases hn:vs.length<2
 ·have I:vs.toArray.size<2:=by simpa using hn
  rw[if_pos I,if_pos I];exact J2<|Qa<|J2<|Qa<|Y _ (sn _) rfl
 ·have I:¬ vs.toArray.size<2:=by simpa using hn
  rw[if_neg I,if_neg I];refine J2 (kas_kind (T:=.type "str") ⋯ (λv m=>?_) rfl rfl ?_)
  ·let#[j,q,rfl]:=List.mem_iff_getElem.mp m;let#[t,e]:=we (i:=j) (x:=xs[j]'⋯) Z (by simp)
   have:vs.getD j Value.none=vs[j]:=by simp[List.getD,q]
   rw[<-this,e];exact .of_pure rfl
  ·have d:SortSt.mk' oneType' (vs.toArray.zip vs.toArray) (List.toArray []) 7 none=kas_st oneType' (pairsOf vs) (List.toArray<|List.range vs.length):=by
    have e:=kas_range<|pairsOf vs;rw[pairsOf_size]at e;unfold kas_st;rw[e];rfl
   rw[d];refine J2 (wpAny_mono (EA (n:=vs.length) (E:=E) (Q:=λ_ st s'=>(arrOf st=(List.toArray<|List.range vs.length).map (kas_item<|pairsOf vs)/\failedOf st=none)/\s'={ s with heap:=((s.heap.update a (Obj.mapSeq λ_=>((List.toArray []):Array Value))).push<|seqObj "tuple" vs.toArray 0).push (seqObj "list" (List.toArray []) 0) }) ⋯ c (λi z hi C u=>?_) λst O f=>#[#[O,f],rfl]) ?_ λ_ _ e=>e)
   ·have hb:i-1+1=i:=by lia
    let#[t,e]:=we (i:=i) (x:=xs[i]'⋯) Z (by simp);let#[y,e']:=we (i:=i-1) (x:=xs[i-1]'⋯) Z (by simp);rw[<-kas_ask_eq];unfold kas_ask;rw[e,e'];refine kas_lt_str ?_;rw[Qh<|g (i-1) _ _ (by simp)<|by rw[hb];simp];exact u
   ·rintro⟨⟨⟩,st⟩ s' ⟨⟨O,f⟩,rfl⟩;refine Y st ?_ f;have e:=kas_range<|pairsOf vs;rw[pairsOf_size]at e;rw[O,e];exact sn oneType'
def zc{l:Addr}{Q:Value->Shared->Prop}(hl:s.heap.IsList l vs.toArray)(Z:Vals (xs.map V.str) vs)(Y:Ab xs)(U:vs.length<64)(R:vs.length<=sizeLine)
 (h:Q (.ref<|s.heap.objs.size+1) { s with heap:=sortedAll s.heap vs vs.toArray }):wpAny (model prog w) A (call (.builtin "sorted") [.ref l]) Q E s:=by
 have I:((s.heap.push<|seqObj "list" (List.toArray []) 0).update s.heap.objs.size<|Obj.mapSeq (· ++ vs.toArray)).objs.size=s.heap.objs.size+1:=by rw[Heap.size_update,size_push']
 have O:(((s.heap.push<|seqObj "list" (List.toArray []) 0).update s.heap.objs.size<|Obj.mapSeq (· ++ vs.toArray)).push<|seqObj "list" vs.toArray 0).get? (s.heap.objs.size+1)=some (seqObj "list" vs.toArray 0):=by
  rw[<-I];exact Qf _ rfl
 refine Calls.call_function_entry kind_sorted plain_sorted entry_sorted (args_sorted1 _) ?_;unfold Builtin.«sorted»;refine J2 (m:=checkCount "sorted" 1 1 _)<|Qa<|J2<|collect_list hl (J2<|wpAny_newList ?_ R) R;show wpAny _ _ _ _ _ { s with heap:=((s.heap.push<|seqObj "list" (List.toArray []) 0).update s.heap.objs.size<|Obj.mapSeq (· ++ vs.toArray)).push (seqObj "list" vs.toArray 0) };rw[I];exact J2<|wpAny_holding<|wpAny_call_entry slot_list_sort ⟨_,O,rfl⟩ entry_list_sort (tU O Z Y U R ⟨_,rfl,Qa ⟨_,rfl,h⟩⟩)<|args_list_sort _
end
variable{X:Cx}
def vG:bM X (.builtin "sorted") (λxs H Q=>∃ (p:Addr) (O:List Str),xs=[.ref p]/\H p=some (.lst<|O.map V.str)/\Ab O/\O.length<64/\∀ l,H l=none->Q (.ref l) (upd H l<|.lst<|O.map V.str)):=by
 intro ag s J H xs us Q I r h;let#[p,O,rfl,d,Z,Y,q]:=h
 cases r with
 |cons r c=>
  cases c;cases r;let#[bq,R,hl,a]:=I.list<|dz.of d
  have U:bq.length<=sizeLine:=by rw[<-R.length];simpa using a
  refine zc hl.isList R Z (by rw[<-R.length];simpa using Y) U ?_;let#[f,e]:=sortedAll_at s.heap bq bq.toArray;refine#[.ref<|s.heap.objs.size+1,_,I.laid (t':=s.toks) (o:=.lst<|O.map V.str) (λb g q=>sortedAll_old q) ⋯ ?_,rfl,q _<|I.b9.fresh ⋯];exact#[by simpa using a,bq,f,R,e]
section
variable{K:W.Frag}
def c8.IE(h:c8 K N1 QO J H)(sub:∀ i,N2.contains i=true->N1.contains i=true):c8 K N2 QO J H where
 len:=h.len
 val:=λi d e=>by
  let#[v,U,I]:=h.val i d e;refine#[v,U,?_];by_cases hm:N2.contains i=true
  ·rw[if_pos hm];rw[if_pos<|sub i hm]at I;exact I
  ·rw[if_neg hm];by_cases hn:N1.contains i=true
   ·rw[if_pos hn]at I;let#[a,o,rfl,_,_]:=I.ref;have c:¬ bE N2 J a:=λ⟨k,O,R⟩=>hm<|(h.sep i k a hn (sub k O) U R)▸O;let#[g,Z,Y]:=I
    exact Y.top Z λ_ b z=>by cases z;exact c
   ·rw[if_neg hn]at I
    exact I.weak λb ⟨k,O,R⟩=>#[k,sub k O,R]
 cb:=h.cb
 sep:=λi j a hi f=>h.sep i j a (sub i hi)<|sub j f
def f7{M:List Nat}{i j:Nat}(h:(j::M).contains i=true):i=j\/M.contains i=true:=by simpa using h
def fY{M:List Nat}{j:Nat}:(j::M).contains j=true:=by simp
def dH{M:List Nat}{i j:Nat}(h:M.contains i=true):(j::M).contains i=true:=by simp at h ⊢;exact .inr h
def c8.open(h:c8 K M QO J H)(s:aB H H1)(ha:H a=none)(r:Own K H1 d (.ref a)):c8 K (i::M) (QO.set i<|some d) (J.set i<|some<|.ref a) H1 /\
  ∀ b,bE (i::M) (J.set i<|some<|.ref a) b->bE M J b\/b=a:=by
 have sub:∀ b,bE (i::M) (J.set i<|some<|.ref a) b->bE M J b\/b=a:=λb ⟨j,R,e⟩=>by
  by_cases U:j=i
  ·subst U
   have I:j<J.length:=by simpa using(List.getElem?_eq_some_iff.mp e).1
   rw[Qe I]at e;cases e;exact .inr rfl
  ·rw[Qd<|Ne.symm U]at e;exact .inl #[j,(f7 R).resolve_left U,e]
 have f:∀ b,bE M J b->b≠a:=λb p z=>h.qY b p<|z▸ha;refine#[#[by simpa using h.len,λj dj e=>?_,λj w e=>?_,λj k b R g c Z=>?_],sub]
 ·by_cases R:j=i
  ·subst R
   have I:j<QO.length:=by simpa using(List.getElem?_eq_some_iff.mp e).1
   rw[Qe I]at e;cases e;refine#[.ref a,by rw[Qe<|by rw[<-h.len];exact I],?_];rw[if_pos fY];exact r
  ·rw[Qd<|Ne.symm R]at e ⊢;let#[v,Y,O]:=h.val j dj e;refine#[v,Y,?_];by_cases hm:M.contains j=true
   ·rw[if_pos<|dH hm];rw[if_pos hm]at O;exact O.same s
   ·rw[if_neg λz=>hm<|(f7 z).resolve_left R];rw[if_neg hm]at O;exact((O.dw ha).weak sub).same s
 ·by_cases R:j=i
  ·subst R
   have I:j<J.length:=by simpa using(List.getElem?_eq_some_iff.mp e).1
   exact#[d,by rw[Qe<|by rw[h.len];exact I]]
  ·rw[Qd<|Ne.symm R]at e ⊢;exact h.cb j w e
 ·by_cases Y:j=i
  ·by_cases O:k=i
   ·rw[Y,O]
   ·subst Y
    have I:j<J.length:=by simpa using(List.getElem?_eq_some_iff.mp c).1
    rw[Qe I]at c;rw[Qd<|Ne.symm O]at Z;cases c;exact absurd rfl<|f _ ⟨k,(f7 g).resolve_left O,Z⟩
  ·rw[Qd<|Ne.symm Y]at c;by_cases O:k=i
   ·subst O
    have I:k<J.length:=by simpa using(List.getElem?_eq_some_iff.mp Z).1
    rw[Qe I]at Z;cases Z;exact absurd rfl<|f _ ⟨j,(f7 R).resolve_left Y,c⟩
   ·rw[Qd<|Ne.symm O]at Z;exact h.sep j k b ((f7 R).resolve_left Y) ((f7 g).resolve_left O) c Z
end
abbrev FrX(M O:List Nat)(I:L2.St)(R:Hp)(J:L2.St)(H:Hp):Prop:=(∀ b o,R b=some o->¬ bE M I b->H b=some o/\¬ bE O J b)/\∀ j,2<=M.count j->J[j]?=I[j]?
abbrev tQ(K:W.Frag)(M U:List Nat)(f:RL.St->Option (RL.Out × RL.St)):TS:=λD J H=>∃ R Y O r I,c8 K U O J H/\FrX M U R Y J H/\f O=some (r,I)/\vT K M D R Y r I
abbrev SQ(X:Cx)(cl:RL.Cl)(M I:List Nat)(st:List Stmt)(s:RL.Sq):Prop:=hY X st<|tQ X.K M I<|RL.kY cl M I s
section
variable{X:Cx}{M N1:List Nat}{st:Stmt}{vF:List Stmt}{j:Nat}
def LZ(h:nA X cl M vF r)(sub:∀ i,M.contains i=true->N1.contains i=true):SQ X cl M N1 vF (.cls r):=by
 refine hY.weak h λD J H h=>?_;let#[U,c,O,o,I,Y,fr,e,k]:=h;exact#[O,o,I,Y.IE sub,e,k.from #[λb u R n=>#[(fr.1 b u R n).1,λ#[j,Z,a]=>(fr.1 b u R n).2 #[j,sub j Z,a]],fr.2]]
def Hh(q:SS X cl N1 st s)(m:SQ X cl M N1 vF r)(a:∀ j,2<=M.count j->2<=N1.count j):SQ X cl M N1 (st::vF) (.cons s r):=by
 refine hY.weak (de q m) λD J H h=>?_;let#[Y,v,U,o,I,l,fr,e,k]:=h;let#[p,t,g]:=bind_some e;let#[o1,O]:=p
 cases o1 with
 | rt d=>cases g
 | nx=>exact#[U,.nx,O,l,t,λi H' Z R=>#[Y,v,O,o,I,Z,#[λb u f n=>R.1 b u (fr.1 b u f n).1 (fr.1 b u f n).2,λj c=>(R.2 j<|a j c).trans<|fr.2 j c],g,k]]
def yw{K:W.Frag}(R:c8 K N1 QO J H)(fr:FrX M N1 QS H0 J H)(Z:M.count j<2)(ok:(RL.aG d&&RL.aI e')=true)(r1:Res K QO J H e' d v H1):c8 K (j::N1) (QO.set j<|some d) (J.set j<|some v) H1/\FrX M (j::N1) QS H0 (J.set j<|some v) H1:=by
 rw[and_eq_true]at ok
 have m:kZ d=true:=by
  cases d with
  | lst _=>rfl
  | dK _ _=>rfl
  | b0 _ _ _=>rfl
  | _=>cases ok.1
 have O:Own K H1 d v:=#[m,ok.1,r1.rep]
 let#[a,Y,rfl,_,_]:=O.ref;have hn:=r1.fresh ok.2 m a rfl;let#[g1,g2]:=R.open (i:=j) r1.same hn O;refine#[g1,λb u I n=>#[r1.same _ _ (fr.1 b u I n).1,λz=>(g2 b z).elim (fr.1 b u I n).2 λq=>aM (fr.1 b u I n).1 hn q],λk U=>?_];rw[Qd λz=>by subst z;lia];exact fr.2 k U
def J0(h:SA X cl st j e')(Z:M.count j<2)(a:SQ X cl M (j::N1) vF r):SQ X cl M N1 (st::vF) (.lx j e' r):=by
 refine hY.weak (de h a) λD J H h=>?_;let#[R,c,O,o,I,Y,fr,e,k]:=h;let#[d,b,U]:=bind_some e;split at U
 ·rename_i ok;refine#[O,d,Y.hH,b,λv f r1=>?_];let#[g1,g2]:=yw Y fr Z ok r1;exact#[R,c,_,o,I,g1,g2,U,k]
 ·cases U
def GV(h:SA X cl st j e')(Y:M.contains j=false)(Z:SQ X cl M (j::M) vF r):nA X cl M (st::vF) (.lx j e' r):=by
 refine hY.weak (de h Z) λD J H h=>?_;let#[O,o,I,U,e,k]:=h;let#[d,c,R]:=bind_some e;split at R
 ·rename_i ok;refine#[O,d,U.hH,c,λv g r1=>?_]
  have f:M.count j<2:=by
   have:M.count j=0:=List.count_eq_zero.mpr (by simpa using Y);lia
  let#[g1,g2]:=yw (M:=M) (QS:=J) (H0:=H) U ⟨λb u a n=>#[a,n],λ_ _=>rfl⟩ f ok r1;exact#[J,H,_,o,I,g1,g2,R,k]
 ·cases R
end
section
variable{X:Cx}
variable{M:List Nat}{st:Stmt}{i:Nat}{cl:RL.Cl}
def yD{P:Addr->Prop}{K:W.Frag}:∀ {ds:List RL.D} {I:List Str} {xs:List V},RL.strs? ds=some I->ab P K H ds xs->xs=I.map V.str
 | [],I,xs,h,r=>by cases h;rw[ab]at r;exact r
 | .str y::ds,I,xs,h,r=>by
  let#[ys,R,O]:=map_some (show(RL.strs? ds).map _=some I from h);subst O;rw[ab]at r;let#[x,t,rfl,r1,r2]:=r;rw[aR r1,yD R r2];rfl
def AU:∀ {xs:List Str},RL.rm xs=true->Ab xs
 | [],_,i,a,b,h,_=>by simp at h
 | [_],_,i,a,b,_,h=>by simp at h
 | x::y::r,z,i,a,b,h1,h2=>by
  rw[RL.rm,and_eq_true]at z
  cases i with
  | zero=>simp at h1 h2;subst h1 h2;simpa using z.1
  | succ i=>exact AU z.2 i a b (by simpa using h1)<|by simpa using h2
def ze{a:Expr}{a':RL.E}{p O:Pos}(f:Gl X "sorted")(hm:X.mg "sorted" = none)(ha:SE X cl a a')(hn:noStar a=true):SE X cl (.Call (.Name "sorted" p) [a] [] O) (.bi .sortedS a'):=by
 refine lT vG f hm (by decide +kernel) ha hn ∅ ∅ λZ J H h y d v Q e s1 r1 k=>?_
 cases y<;>first | (cases e;done) | skip
 case lst ds =>
  rw[RL.F3]at e;let#[b,g,U]:=bind_some e;split at U
  ·rename_i I;cases U;let#[q,xs,rfl,_,Y,R]:=bb r1;have c:=yD g R;rw[c]at Y R;exact#[q,b,rfl,Y,AU (and_eq_true _ _▸I).1,of_decide_eq_true (and_eq_true _ _▸I).2,λl hl=>k _ _ (d9 s1 hl R λ_=>rfl)]
  ·cases U
end
open PySem.W
open Sem (wp)
section
variable{prog:Program}{w:World}{A:Around}{E:Value->Shared->Prop}{s:Shared}{it d:Addr}{es:Array DictEntry}{ep i:Nat}
abbrev fZ(h:Heap)(d:Addr)(es:Array DictEntry)(ep:Nat):Prop:=∃ o,h.get? d=some o/\o.ExactDict/\o.data=.dict es ep
def fZ.typeIs(x:fZ s.heap d es ep):s.TypeIs (.ref d) "dict" := let ⟨o,I,O,_⟩:=x;⟨o,I,O.1⟩
def fZ.at{h h':Heap}(x:fZ h d es ep)(e:∀ o,h.get? d=some o->h'.get? d=some o):fZ h' d es ep:=let ⟨o,I,r⟩:=x;⟨o,e o I,r⟩
def Eo{Q:Value->Shared->Prop}(hd:(d == sysModules)=false)(hm:fZ s.heap d es ep)
 (U:Q (.ref s.heap.objs.size) { s with heap:=s.heap.push { cls:=.type "dict_keyiterator",data:=.fields (List.toArray [.ref d,.int 0 0,.int es.size 0,.int ep 0]) } }) :
  wpAny (model prog w) A (pyIter<|.ref d) Q E s:=by
 let#[o,R,Y,I]:=id hm;have O:=hm.typeIs;refine wpAny_pyIter_slot O F.slot_dict_iter<|wpAny_call_entry F.slot_dict_iter O F.entry_dict_iter ?_<|F.args_dict_iter_1 _;unfold Builtin.«dict.__iter__» Builtin.Dict.dictSlotNone;refine J2<|J2<|wpAny_notOrdered_dict O<|Qa ?_;show wpAny _ _ (Builtin.Dict.showsAll d >>= _) _ _ s;unfold Builtin.Dict.showsAll;rw[if_neg<|by rw[hd];exact Qj];refine J2<|Qa<|J2<|wpAny_dictEntries R I<|J2<|wpAny_dictEpoch R I ?_;exact J2<|wpAny_newObj_type<|Qa ⟨_,rfl, "dict_keyiterator",_,⟨_,Qf _ rfl,rfl⟩,F.slot_dict_keyiterator_next.lookup,by simpa[rawInt]using U⟩
def Eb{Q:Option Value->Shared->Prop}(I:s.heap.IsKeyIter it d i es.size ep)(hm:fZ s.heap d es ep){e:DictEntry}(a:es[i]?=some e)
 (f:∀ h',h'.IsKeyIter it d (i+1) es.size ep->Heap.SameBut it s.heap h'->Q (some e.key) { s with heap:=h' }) :
  wpAny (model prog w) A (pyNext<|.ref it) Q E s:=by
 let#[o,Z,c,hd]:=id I;let#[od,U,b,Y]:=id hm;unfold pyNext
 refine J2 (wpAny_attempt (wpAny_callSpecial?_slot (name:=Str.ofString "__next__") I.typeIs F.slot_dict_keyiterator_next
  (wpAny_call_entry F.slot_dict_keyiterator_next I.typeIs F.entry_dict_keyiterator_next ?_<|F.args_dict_keyiterator_next_1 _)))
 refine J2<|Qa<|J2<|J2 ?_
 first | refine J2 (wpAny_typeNameOfWhole_keyiter I.typeIs<|Qa ?_) | refine J2 (wpAny_typeNameOf_keyiter I.typeIs<|Qa ?_)
 refine J2<|wpAny_fieldsOf Z hd ?_
 have R:Builtin.Dict_items.ownsTuple "dict_keyiterator" = false:=by decide
 simp only[R,false_eq_true,if_false];show wpAny _ _ (if(Value.ref d == Value.none)=true then _ else _) _ _ s;rw[if_neg (show ¬ ((Value.ref d == Value.none)=true)from Qj)];refine J2<|Qa<|J2<|wpAny_dictEntries U Y ?_;rw[if_neg<|by simp];refine J2<|Qa<|J2<|wpAny_dictEpoch U Y ?_;rw[if_neg<|by simp];refine Qa ?_;simp only[show ¬ ((i:Int)<0)from by omega,if_false,Int.toNat_natCast,a];refine J2 ?_
 first | refine J2 (wpAny_typeNameOfWhole_keyiter I.typeIs<|Qa ?_) | refine J2 (wpAny_typeNameOf_keyiter I.typeIs<|Qa ?_)
 refine J2<|wpAny_isOneOf_keyiter I.typeIs ?_;show wpAny _ _ (setField (.ref it) 1 (rawInt<|(i:Int)+1) >>= _) _ _ s;refine J2<|wpAny_setField Z hd (by simp) ?_
 have O:(s.heap.update it<|Obj.mapFields (·.setIfInBounds 1<|rawInt<|(i:Int)+1)).IsKeyIter it d (i+1) es.size ep :=
  ⟨_,Heap.get?_update_self _ Z<|Obj.isFreed_of_fields<|Obj.data_mapFields hd _,(Obj.cls_mapFields ..).trans c,by rw[Obj.data_mapFields hd];simp[rawInt]⟩
 refine J2<|wpAny_holding ?_;refine J2<|wpAny_isOneOf_keyiter (s:={ s with heap:=s.heap.update it (Obj.mapFields (·.setIfInBounds 1<|rawInt<|(i:Int)+1)) }) O.typeIs ?_;show wpAny _ _ (pure e.key) _ _ _;exact Qa<|Qa ⟨_,rfl,Qa<|f _ O (Heap.SameBut.update ..)⟩
def GB{Q:Option Value->Shared->Prop}(c:A.handled=none)(I:s.heap.IsKeyIter it d i es.size ep)(hm:fZ s.heap d es ep)(Z:es[i]?=none)
 (f:∀ h',Heap.ExtBut it s.heap h'->Q none { s with heap:=h' }):wpAny (model prog w) A (pyNext<|.ref it) Q E s:=by
 let#[o,Y,g,hd]:=id I;let#[od,R,e,U]:=id hm;unfold pyNext
 refine J2 (wpAny_attempt (wpAny_callSpecial?_slot (name:=Str.ofString "__next__") I.typeIs F.slot_dict_keyiterator_next
  (wpAny_call_entry F.slot_dict_keyiterator_next I.typeIs F.entry_dict_keyiterator_next ?_<|F.args_dict_keyiterator_next_1 _)))
 refine J2<|Qa<|J2<|J2 ?_
 first | refine J2 (wpAny_typeNameOfWhole_keyiter I.typeIs<|Qa ?_) | refine J2 (wpAny_typeNameOf_keyiter I.typeIs<|Qa ?_)
 refine J2<|wpAny_fieldsOf Y hd ?_
 have O:Builtin.Dict_items.ownsTuple "dict_keyiterator" = false:=by decide
 simp only[O,false_eq_true,if_false];show wpAny _ _ (if(Value.ref d == Value.none)=true then _ else _) _ _ s;rw[if_neg (show ¬ ((Value.ref d == Value.none)=true)from Qj)];refine J2<|Qa<|J2<|wpAny_dictEntries R U ?_;rw[if_neg<|by simp];refine J2<|Qa<|J2<|wpAny_dictEpoch R U ?_;rw[if_neg<|by simp];refine Qa ?_;simp only[show ¬ ((i:Int)<0)from by omega,if_false,Int.toNat_natCast,Z];refine J2 ?_
 first | refine J2 (wpAny_typeNameOfWhole_keyiter I.typeIs<|Qa ?_) | refine J2 (wpAny_typeNameOf_keyiter I.typeIs<|Qa ?_)
 show wpAny _ _ (setField (.ref it) 0 .none >>= _) _ _ s;refine J2 (wpAny_setField Y hd (by simp) ?_);show wpAny _ _ (newExc (.type "StopIteration") [] >>= _) _ _ _;refine J2 ?_;simp only[newExc,newTuple];refine J2 (wpAny_newObj_type ?_<|by size_fits);refine J2 (m:=firstArgMember _ _) (wpAny_of_eq (a:=Value.none) (by first | rfl | (simp only[firstArgMember];rfl)) ?_);refine wpAny_newObj_type ?_ (by size_fits);simp only[raiseNew];refine J2<|wpAny_handled ?_;rw[show A.in1.handled=none from c];refine J2<|Qa<|wpAny_throw ?_;refine J2<|wpAny_isInstance (T := "StopIteration") (b:=true) ⟨_,Qf _ rfl,rfl⟩ isSubtype_stop ?_;exact Qa<|f _<|((Heap.SameBut.update ..).extBut.push _).push _
def A7(c:A.handled=none)(I d:Addr)(Y:d≠I)(es:Array DictEntry)(ep:Nat) :
  Walks prog w A I [I,d] [I] es.size (λi v=>∃ e,es[i]?=some e/\v=e.key) (λi h=>h.IsKeyIter I d i es.size ep/\fZ h d es ep) where
 sub:=λb hb=>by simp at hb;simp[hb]
 frame:=λ_ _ _ st a=>#[st.1.at λo e=>a I (by simp) o e,st.2.at λo e=>a d (by simp) o e]
 item:=λi s Q E hi st U=>by
  refine Eb st.1 st.2 (e:=es[i]) (by simp[hi]) λh' R O=>?_;exact U _ h' s.toks ⟨es[i],by simp[hi],rfl⟩ ⟨R,st.2.at λo e=>O.extBut d o Y e⟩ λb o hb e=>O.extBut b o (λh=>hb<|by simp[h]) e
 done:=λs Q E st U=>GB c st.1 st.2 (by simp) λh' Z=>U h' s.toks λb o hb e=>Z b o (λh=>hb<|by simp[h]) e
 self:=λ_ _ _ _ st U=>wpAny_pyIter_keyiter st.1 U
end
end RS
namespace L2
open PySem PySem.Spec PyProof.Rows
abbrev YK(bx:List (Key × V))(i:Nat)(v:V)(_:Hp):Prop:=∃ k x,bx[i]?=some (k,x)/\v=kV k
abbrev OS(a:Addr)(o:Obj)(u:HO)(n:Nat)(Y:Nat->V->Hp->Prop)(es:Array DictEntry)(ep:Nat):Prop :=
 ∀ (P:Program) (w:World) (H:Hp) (h:Heap),bN P w H h a (.cy o u)->RS.fZ h a es ep/\es.size=n/\(a == sysModules)=false/\∀ (i:Nat) e,es[i]?=some e->∃ v,RelV v e.key/\Y i v H
def Kz{o:Obj}{bx:List (Key × V)}{es:Array DictEntry}{ep:Nat}(hd:o.data=.dict es ep):OS a o (.dK bx) bx.length (YK bx) es ep:=λP w H h q=>by
 let#[g,_,c,vs,O,o',f,j,Z,ex,I,_,pr,_]:=q;rw[g]at Z;cases Z;rw[hd]at I;cases I
 have b:∀ {l:List DictEntry} {vs:List (Key × Value)} {bx:List (Key × V)},Pairs (bo P w) l vs->KV bx vs->l.length=bx.length/\∀ (i:Nat) e,l[i]?=some e->∃ v,RelV v e.key/\YK bx i v H:=by
  intro l vs bx pr
  induction pr generalizing bx with
  | nil=>intro r;cases r;exact#[rfl,λi e z=>by simp at z]
  |cons d _ _ Y=>
   intro r
   cases r with
   |cons h t=>
    rename_i p ps;refine#[by rw[length_cons,length_cons,(Y t).1],λi e z=>?_]
    cases i with
    |zero=>
     simp at z;subst z;refine#[kV p.1,?_,p.1,p.2,rfl,rfl];rw[h.1]
     rcases c9 d with⟨i,t,U,R⟩ | ⟨x,t,U,R⟩
     ·rw[U,R];exact#[t,rfl]
     ·rw[U,R];exact#[t,rfl]
    | succ i=>exact(Y t).2 i e<|by simpa using z
 let#[p1,p2]:=b pr O;exact#[#[o,g,ex,hd],(length_toList▸p1),c,λi e z=>p2 i e<|by rw[Qy];exact z]
end L2
namespace RS
open PySem PySem.Spec PyProof.Rows L2
def rL{P:Addr->Prop}{K:W.Frag}{H:Hp}:∀ k:List RL.Ky,ab P K H (k.map RL.kyD) (k.map kV)
 | []=>ab.nil
 | .inl i::r=>ab.cons bC<|rL r
 | .inr x::r=>ab.cons gn<|rL r
def yk{X:Cx}{O:List Stmt}{t t':TS}(h:hY X O t')(w:∀ D J H,t D J H->∃ a u,(∃ bx,u=.dK bx)/\H a=some u/\∀ o,t' D J<|upd H a<|.cy o u):hY X O t:=by
 intro ag s J H D I q;let#[a,u,#[bx,rfl],R,k]:=w D J H q;let#[z,U,xs,pr,o,es,ep,g,rest]:=id<|I.b9 a _ R;have Y:Inv X ag J (upd H a<|.cy o<|.dK bx) { s with heap:=s.heap,toks:=s.toks }:=I.write (x:=a) (e:=a) (h':=s.heap) (t':=s.toks) (by rw[R];trivial) (.inl rfl) (λb u _ e=>e) ⟨o,g⟩ ⟨g,z,U,xs,pr,o,es,ep,g,rest⟩;exact h ag s J _ D Y<|k o
def c8.freeze{K:W.Frag}{M:List Nat}{u:HO}{f:RL.D}(h:c8 K (j::M) QO J H)(g:M.contains j=false)(Y:J[j]?=some (some<|.ref a))(c:H a=some u)(Z:d6 u)(rd:∀ P,Rep P K (upd H a<|.cy o u) f<|.ref a):c8 K M (QO.set j<|some f) J (upd H a<|.cy o u):=by
 have pa:bE (j::M) J a:=#[j,fY,Y]
 refine#[by simpa using h.len,λi d O=>?_,λi w e=>?_,λi k b hi U=>h.sep i k b (dH hi)<|dH U]
 ·by_cases I:i=j
  ·subst I
   have R:i<QO.length:=by simpa using(List.getElem?_eq_some_iff.mp O).1
   rw[Qe R]at O;cases O;refine#[.ref a,Y,?_];rw[if_neg<|by rw[g];exact Qj];exact rd _
  ·rw[Qd<|Ne.symm I]at O;let#[v,g1,g2]:=h.val i d O;refine#[v,g1,?_];by_cases hm:M.contains i=true
   ·rw[if_pos hm];rw[if_pos<|dH hm]at g2;let#[b,m,rfl,_,_]:=g2.ref;exact g2.off (P:=λx=>x=a) (λx u e e'=>by subst e;rw[c]at e';cases e';exact Z) (λx u n e=>by rw[aj n];exact e) λz=>I<|h.sep i j a (dH hm) fY (z▸g1) Y
   ·rw[if_neg hm];rw[if_neg λz=>hm<|(f7 z).resolve_left I]at g2
    exact(g2.upd c Z pa).weak λb ⟨k,U,l⟩=>#[k,dH U,l]
 ·let#[d,hd]:=h.cb i w e;by_cases I:i=j
  ·subst I;exact#[_,Qe (List.getElem?_eq_some_iff.mp hd).1]
  ·exact#[d,by rw[Qd<|Ne.symm I];exact hd]
def x9{K:W.Frag}{dj d:RL.D}{v:V}(h:Own K H dj v)(e:RL.vd dj=some d):∃ a u,v=.ref a/\(∃ bx,u=.dK bx)/\H a=some u/\d6 u/\∀ o P,Rep P K (upd H a<|.cy o u) d<|.ref a:=by
 let#[Z,O,I]:=h
 cases dj with
 |dK ks vs=>
  cases e;rw[Rep]at I;let#[a,xs,rfl,_,R,U,Y]:=I;refine#[a,_,rfl,#[_,rfl],R,True.intro,λo P=>?_];rw[Rep];exact#[a,o,xs,rfl,ao,U,(ab.upd (P:=λp=>p=a) R True.intro rfl<|Y.ax O).ax O]
 | _=>cases e
def KD{X:Cx}{M:List Nat}{O:List Stmt}(h:nA X cl M O r)(p:M.contains j=false):SQ X cl M (j::M) O (.cy j r):=by
 refine yk h λD J H h=>?_;let#[g,y,f,o,I,U,fr,e,k]:=h;let#[d,x,w]:=bind_some e;let#[dj,t,s]:=bind_some x;let#[v,Z,Y]:=U.val j _<|slot_get t;rw[if_pos fY]at Y;let#[a,u,rfl,hu,c,m,rd]:=x9 Y s;refine#[a,u,hu,c,λl=>#[_,o,I,U.freeze p Z c m<|rd l,w,k.from #[λb u R n=>#[?_,λ#[i,hi,q]=>(fr.1 b u R n).2 #[i,dH hi,q]],fr.2]]];rw[aj λz=>(fr.1 b u R n).2 ⟨j,fY,by rw[z];exact Z⟩];exact(fr.1 b u R n).1
def N6{X:Cx}{M N:List Nat}{O:List Stmt}{r:RL.Sq}{j:Nat}(h:SQ X cl M N O r)(p:N.contains j=false):SQ X cl M (j::N) O (.fz j r):=by
 refine yk h λD J H h=>?_;let#[R,y,g,o,I,Y,fr,e,k]:=h;let#[d,x,w]:=bind_some e;let#[dj,t,s]:=bind_some x;let#[v,c,Z]:=Y.val j _<|slot_get t;rw[if_pos fY]at Z;let#[a,u,rfl,hu,f,m,rd]:=x9 Z s;refine#[a,u,hu,f,λl=>#[R,y,_,o,I,Y.freeze p c f m<|rd l,#[λb u U n=>#[?_,λ#[i,hi,q]=>(fr.1 b u U n).2 #[i,dH hi,q]],fr.2],w,k]];rw[aj λz=>(fr.1 b u U n).2 ⟨j,fY,by rw[z];exact c⟩];exact(fr.1 b u U n).1
end RS
namespace L2
open PySem PySem.Spec PyProof.Rows
section
variable{X:Cx}
def Kf{e:Expr}{t t':TE}(h:PE X e t')(w:∀ J H Q,t J H Q->t' J H λv O=>∃ p xs,v=.ref p/\O p=some (.lst xs)/\∀ o,Q (.ref p)<|upd O p<|.cy o<|.lst xs):PE X e t:=by
 intro ag s J H Q I q;refine cg (h ag s J H _ I<|w J H Q q) λv s1 Z=>x2_2 Z λx O U r1 Y=>x2_2 Y λp xs a R k=>?_;subst a;let#[z,bq,n,r,g]:=U.b9 p _ R;have c:Inv X ag J (upd O p<|.cy _<|.lst xs) { s1 with heap:=s1.heap,toks:=s1.toks }:=U.write (x:=p) (e:=p) (h':=s1.heap) (t':=s1.toks) (by rw[R];trivial) (.inl rfl) (λb u _ e=>e) ⟨_,g⟩ ⟨g,z,bq,n,r,g⟩;exact#[.ref p,_,c,r1,k _]
end
end L2
namespace RS
open PySem PySem.Spec PyProof.Rows L2
section
variable{X:Cx}{cl:RL.Cl}{a b:Expr}{a' b':RL.E}
def Ir(ha:SE X cl a a'):SE X cl a (.cy a'):=by
 refine Kf ha λJ H Q h=>?_;let#[I,d,Z,e,k]:=h;let#[x,f,e]:=bind_some (show(RL.ev cl I a').bind _=some d from e);refine#[I,x,Z,f,λv i r1=>?_];by_cases O:RL.aI a'=true
 ·rw[if_pos O]at e
  cases x with
  |lst ds=>
   let#[R,rfl]:=bO (show(if RL.ae ds=true then some (RL.D.fL ds)else none)=some d from e);let#[p,xs,rfl,_,U,c]:=bb r1.rep;have fr:=r1.fresh O rfl p rfl;refine#[p,xs,rfl,U,λo=>k _ _<|dN ?_ ?_ R]
   ·intro b g Y;rw[aj<|aM Y fr];exact r1.same _ _ Y
   ·rw[Rep];exact#[p,o,xs,rfl,ao,(ab.upd U True.intro rfl<|c.ax R).ax R]
  | _=>cases e
 ·rw[if_neg O]at e;cases e
end
end RS
namespace L2
open PySem PySem.Spec PyProof.Rows
section
variable{X:Cx}
def Hm{prog:Program}{w:World}{d:Addr}{es:Array DictEntry}{ep:Nat}(hd:(d == sysModules)=false) :
  W.KdlSrc prog w "dict" d d es.size (λi v=>∃ e,es[i]?=some e/\v=e.key) (λh=>RS.fZ h d es ep) where
 type:=λs h=>RS.fZ.typeIs (s:=s) h
 there:=λ_ ⟨_,h,_⟩=>#[Qg h,Qg h]
 keep:=λ_ _ h k=>RS.fZ.at h λo e=>k d (.inl rfl) o e
 notList:=by decide
 notTuple:=by decide
 hint:=λ_ _ s _ h q=>W.kdl_hint_dict (RS.fZ.typeIs (s:=s) h) q
 iter:=λA s O h=>by
  have I:d<s.heap.objs.size:=let ⟨_,e,_⟩:=h;Qg e;exact#[_,_,λE Q q=>RS.Eo hd h q,RS.A7 O _ d (Qk I) es ep,#[_,Qf _ rfl,rfl,rfl],RS.fZ.at h λo e=>Qb _ e]
def sX:∀ {bx:List (Key × V)} {l:List Value},l.length=bx.length->(∀ (i:Nat) v,l[i]?=some v->∃ q,bx[i]?=some q/\RelV (kV q.1) v)->Vals (bx.map λq=>kV q.1) l
 | [],l,hl,_=>by rw[List.length_eq_zero_iff.mp hl];exact .nil
 | p::r,[],hl,_=>by cases hl
 | p::r,v::t,hl,h=>by
  let#[q,O,I]:=h 0 v rfl;cases O;exact .cons I (sX (by simpa using hl) λi v hi=>h (i+1) v<|by simpa using hi)
def Dl(m:X.calm=true):bM X (.type "list") (λxs H Q=>∃ (a:Addr) (o:Obj) (bx:List (Key × V)),xs=[V.ref a]/\H a=some (.cy o<|.dK bx)/\∀ l,H l=none->Q (.ref l) (upd H l (.lst (bx.map λq=>kV q.1)))):=by
 intro ag s J H xs us Q I r h;let#[a,o,bx,rfl,Z,q]:=h
 cases r with
 |cons r d=>
  cases d;cases r;let#[g,z,_,_,_,o',es,ep,b,ex,hd,_]:=id<|I.b9 a _ Z;rw[g]at b;cases b;let#[U,R,f,j]:=Kz hd _ _ _ _<|I.b9 a _ Z;refine W.kdl_call (Hm f) (I.ok.hd.1 m) U (by rw[R];exact z) λh' c O c' kp n Y=>?_
  have hl:O.toList.length=bx.length:=by rw[length_toList,Y.1,R]
  refine#[.ref s.heap.objs.size,upd H s.heap.objs.size (.lst (bx.map λq=>kV q.1)),I.laid (t':=c) kp (Qc _) (show _/\_ from#[by rw[length_map];exact z,O.toList,c',?_,by rw[Array.toArray_toList];exact n]),rfl,q _<|I.b9.fresh<|Qc _]
  have at_:∀ (i:Nat) v,O.toList[i]?=some v->∃ q,bx[i]?=some q/\RelV (kV q.1) v:=λi v hi=>by
   rw[Qy]at hi;let#[e,A,w]:=Y.2 i v hi;let#[y,u,k,x,t,p]:=j i e A;exact#[(k,x),t,by rw[w,<-p];exact u]
  exact sX hl at_
end
end L2
namespace RS
open PySem PySem.Spec PyProof.Rows L2
section
variable{X:Cx}{cl:RL.Cl}{a b:Expr}{a' b':RL.E}{p pos:Pos}
def HU(Z:X.calm=true)(Y:Gl X "list")(hm:X.mg "list" = none)(ha:SE X cl a a')(hn:noStar a=true):SE X cl (.Call (.Name "list" p) [a] [] pos) (.D2 a'):=by
 refine PE.weak (cQ (Dl Z) Y hm (by decide +kernel) (bK (cl:=cl) ha df hn) ∅ ∅ (aP [] hn) rfl) λJ H Q h=>?_;let#[I,m,R,e,k]:=h;let#[ds,j,rfl]:=map_some (show((RL.ev cl I a').bind RL.EF).map RL.D.lst=some m from e);let#[d,i,O]:=bind_some j;refine one R i λv n s1 r1=>?_
 cases d with
 |fK ks vs=>
  cases O;rw[Rep]at r1;let#[a,o,xs,rfl,c,hl,U]:=r1
  have b:(ks.zip xs).map (·.1)=ks:=by rw[List.map_fst_zip];rw[hl,U.length];exact Qc _
  refine#[a,o,_,rfl,c,λl hn=>k _ _ (d9 s1 hn ?_ λ_=>rfl)];rw[show((ks.zip xs).map λq=>kV q.1)=ks.map kV from(map_map (f:=λq:Key × V=>q.1) (g:=kV) (l:=ks.zip xs)).symm.trans (congrArg (List.map kV) b)];exact rL ks
 | _=>cases O
end
section
variable{prog:Program}{w:World}{A:Around}{E:Value->Shared->Prop}{s:Shared}{I t:Addr}{items:Array Value}
def zB(d:A.handled=none)(U:t≠I):Walks prog w A I [I,t] [I] (items.size-1) (λi v=>items[i+1]?=some v) (λi h=>IsTupIter h I t (i+1)/\IsTup h t items) where
 sub:=λb hb=>by simp at hb;simp[hb]
 frame:=λi h h' ⟨⟨o,a1,a2⟩,o',Z,Y⟩ c=>#[#[o,c I (by simp) _ a1,a2],o',c t (by simp) _ Z,Y]
 item:=λi s Q E hi st O=>by
  have hl:i+1<items.size:=by omega
  refine next_tuple_item st.1 st.2 (x:=items[i+1]) (by simp[hl]) λh' R a=>?_;let#[o',Z,Y]:=st.2;exact O _ h' s.toks (by simp[hl]) ⟨R,o',a.extBut t _ U Z,Y⟩ λb o hb e=>a.extBut b o (λz=>hb<|by simp[z]) e
 done:=λs Q E st O=>next_tuple_end d st.1 st.2 (by rw[Array.getElem?_eq_none_iff];omega) λh' f=>O h' s.toks λb o hb e=>f b o (λz=>hb<|by simp[z]) e
 self:=λi s Q E st O=>by
  let#[o,a1,a2,a3]:=st.1;exact wpAny_pyIter_tupleiter (t:=t) (i:=i+1) ⟨o,a1,a2,a3⟩ O
def xk{Q:List Value->Shared->Prop}(m:A.handled=none)(U:IsTup s.heap t items)(r:0<items.size)(C:items.size<=sizeLine)
 (n:∀ (g:Heap) (c:Nat),(∀ b o,s.heap.get? b=some o->g.get? b=some o)->Q [items[0],.ref g.objs.size] { s with heap:=g.push { cls:=.type "list",data:=.seq (items.toList.drop 1).toArray },toks:=c }) :
  wpAny (model prog w) A (unpackItems (.ref t) 2<|some 1) Q E s:=by
 have O:t<s.heap.objs.size:=by let#[o,l,_]:=U;exact Qg l
 unfold unpackItems;refine J2 ?_;unfold notIterableAtAll;refine J2<|wpAny_specialOf U.typeIs slot_tuple_iter.lookup<|Qa ?_;rw[if_neg<|by simp];refine J2 (wpAny_holding (iter_tuple U (J2 (wpAny_holding (draw_tuple (Qk O) 1 0 _ _ ⟨_,Qf _ rfl,rfl,rfl⟩ (U.push _) (by omega) λp R Y=>?_)))))
 have B:List.take 1 (List.drop 0 items.toList)=[items[0]]:=by
  rw[drop_zero,List.take_one,List.head?_eq_getElem?,Qy];simp[r]
 rw[B,if_neg<|by simp];have a:IsTup p t items:=(U.push _).extBut Y.extBut<|Qk O;refine J2 (wpAny_holding (wpAny_collect_iter (T := "tuple_iterator") (.inr<|.inr<|.inr rfl) (zB (A:=A.in1) (I:=s.heap.objs.size) (items:=items) m<|Qk O).toS (λi s st=>?_) ⟨R,a⟩ (λb hb=>?_) (by simp) (λs' Z mv f=>?_)<|by omega))
 ·let#[o,a1,a2,_]:=st.1;exact#[o,a1,a2]
 ·let#[o,a1,_]:=R;have:=Qg a1;simp at hb;rcases hb with rfl | rfl
  ·exact this
  ·exact QA O this
 ·have u:Z.toList=items.toList.drop 1:=by
   apply List.ext_getElem?;intro i;rw[Qy,List.getElem?_drop,Qy,add_comm 1 i]
   cases e:Z[i]? with
   |none=>
    rw[Array.getElem?_eq_none_iff,f.1]at e;symm;rw[Array.getElem?_eq_none_iff];omega
   | some v=>exact(f.2 i v e).symm
  rw[u];show wpAny _ _ (if(items.toList.drop 1).length<0 then _ else _) _ _ _;rw[if_neg<|Nat.not_lt_zero _];refine J2<|wpAny_newObj_type (Qa ?_) ?_
  ·have y:(items.toList.drop 1).drop ((items.toList.drop 1).length-0)=[]:=by rw[sub_zero,List.drop_length]
   have x:(items.toList.drop 1).take ((items.toList.drop 1).length-0)=items.toList.drop 1:=by rw[sub_zero,take_length]
   show Q ([items[0]]++[.ref s'.heap.objs.size]++(items.toList.drop 1).drop ((items.toList.drop 1).length-0)) _;rw[y,x];have q:=n s'.heap s'.toks (λb o e=>mv.heap b o (λz=>by have z:=List.mem_singleton.mp z;have:=Qg e;rw[z]at this;exact QK _ this)<|Y.extBut b o (Qk<|Qg e)<|Qb _ e);let#[D,g,d,c,os]:=s';have k:g=s.gens:=mv.gens;have j:d=s.drawn:=mv.drawn;have h:os=s.os:=mv.os;subst k j h;exact q
  ·show((items.toList.drop 1).take<|(items.toList.drop 1).length-0).length<=sizeLine;rw[sub_zero,take_length,length_drop,length_toList];omega
end
end RS
namespace L2
open PySem PySem.Spec PyProof.Rows
section
variable{X:Cx}
abbrev F9(K:W.Frag)(i j:Nat):TG:=λv J H Q=>∃ a z zs,v=.ref a/\ed K H a (z::zs)/\∀ l o,H l=none->Q ((J.set i<|some z).set j<|some<|.ref l) (upd (upd H l<|.lst zs) l<|.cy o<|.lst zs)
def HA{x y:Str}{l f q Z:Pos}{kt:Nat}(E:X.calm=true)(G:PG X (.Name x l) (nj i))(F:PG X (.Name y f) (nj j)):PG X (.Tuple [.Name x l,.Starred (.Name y f) q] kt Z) (F9 X.K i j):=by
 intro ag s J H v u Q I r h;let#[a,z,zs,rfl,C,k]:=h;cases r;let#[bq,A,B,m]:=I.tuple C
 cases A with
 |@cons _ it _ bq rz Y=>
  rw[assign_Tuple];refine J2<|wpAny_standAt ?_;unfold unpack;refine J2 (wpAny_holding (RS.xk (items:=(it::bq).toArray) (I.ok.hd.1 E) B (by simp) (by simpa[<-Y.length]using m) λg U kp=>?_));have o:Inv X ag J H { s with heap:=g,toks:=U }:=I.kept (t':=U) kp;have n:Inv X ag J (upd H g.objs.size<|.lst zs) { s with heap:=g.push { cls:=.type "list",data:=.seq bq.toArray },toks:=U }:=o.Em (t':=U) Y (by have:zs.length+1<=sizeLine:=m;omega);let#[w,O,n1,r1,g1]:=n.b9 g.objs.size _ ao;have M:Inv X ag J (upd (upd H g.objs.size<|.lst zs) g.objs.size<|.cy _<|.lst zs) { s with heap:=g.push { cls:=.type "list",data:=.seq bq.toArray },toks:=U }:=n.write (x:=g.objs.size) (e:=g.objs.size) (h':=g.push { cls:=.type "list",data:=.seq bq.toArray }) (t':=U) (by rw[ao];trivial) (.inl rfl) (λb u _ e=>e) ⟨_,g1⟩ ⟨g1,w,O,n1,r1,g1⟩;have D:H g.objs.size=none:=o.b9.fresh<|Qc _;refine assignInOrder_cons (cg (G ag _ J _ z it (λR H'=>R=J.set i (some z)/\H'=upd (upd H g.objs.size<|.lst zs) g.objs.size (.cy { cls:=Value.type "list",data:=Data.seq O.toArray n1 }<|.lst zs)) M rz ⟨rfl,rfl⟩) λ_ s1 ⟨t,N,L,d,c⟩=>?_);subst d c;refine assignInOrder_cons (cg (F ag s1 _ _ (.ref g.objs.size) (.ref g.objs.size) (λR H'=>R=(J.set i<|some z).set j (some<|.ref g.objs.size)/\H'=upd (upd H g.objs.size<|.lst zs) g.objs.size (.cy { cls:=Value.type "list",data:=Data.seq O.toArray n1 }<|.lst zs)) L rfl ⟨rfl,rfl⟩) λ_ s2 ⟨p,H2,QN,d,c⟩=>?_);subst d c;exact assignInOrder_nil ⟨_,_,QN,k _ _ D⟩
abbrev GDc(X:Cx)(d:Addr)(bx:List (Str × Addr)):Prop:=(d == sysModules)=false/\∀ h:Heap,X.K.In h->h.DictOf (bo X.prog X.w) d (bx.map λq=>((Sum.inr q.1:Key),Value.ref q.2))
def ME(bx:List (Str × Addr))(x:Str):valueAt (bx.map λq=>((Sum.inr q.1:Key),Value.ref q.2)) (Sum.inr x)=(bx.find? λq=>decide<|q.1=x).map λq=>Value.ref q.2:=by
 unfold valueAt
 induction bx with
 | nil=>rfl
 |cons q r I=>
  rw[map_cons,find?_cons,find?_cons];have e:=Cw q.1 x;rw[e]
  cases decide (q.1=x)with
  | true=>rfl
  | false=>exact I
def FP{b:Expr}{tb:TE}{g:Str}{p O:Pos}{bx:List (Str × Addr)}(hb:PE X b tb)(c:Gl X g)(hm:X.mg g=some (.ref d))(R:(g == ("__debug__" : Str))=false)(G:GDc X d bx)(a:rQ b) :
  PE X (.Subscript (.Name g p) b O) (λJ H Q=>tb J H λy U=>∃ x q,y=.str x/\(bx.find? λq=>decide<|q.1=x)=some q/\Q (.ref q.2) U):=by
 intro ag s J H Q I h;refine xA PySem.F.slot_dict_getitem.lookup a<|nI I c hm ?_ R;refine cg (hb ag s J H _ I h) λu s1 ⟨y,U,Z,r1,x,q,e,f,k⟩=>?_;subst e;have Y:=G.2 _ Z.h9;refine#[Y.typeIs,wpAny_getItem_of (k:=(Sum.inr x:Key)) (nv r1) Y.mapOf (by rw[ME,f];rfl) #[.ref q.2,U,Z.tok _,rfl,k]]
def DO{i:Nat}{e:Expr}{es:List Expr}{t:TA}{p pos:Pos}{x:Str}(Z:X.N[i]?=some x)(d:vl X.env.scope x)(hd:(x == ("__debug__" : Str))=false)(U:(x == ("__classdict__" : Str))=false)(ha:PA X (e::es) t)
 (m:starEach (e::es) X.env=(false,eval e X.env)::starEach es X.env)(R:(backTo pos<|starEach es X.env).any (·.1)=false) :
  PE X (.Call (.Name x p) (e::es) [] pos) (λJ H Q=>∃ k f fd ps sp,∃ O:St,J=O.set i (some<|.ref f)/\dt X.prog X.w X.K X.mg X.base ml k f fd ps sp/\bS k X.A/\W.keepIn X.K (.ref f)=true/\Binds X.K fd ps []/\mT sp [] E0 t J H Q):=by
 intro ag s J H Q I h;let#[k,f,fd,ps,sp,O,y,F,g,j,hb,h]:=h
 have o:J[i]?=some (some<|.ref f):=by
  have l:=I.len;have n:=(List.getElem?_eq_some_iff.mp Z).1;subst y;rw[length_set]at l;rw[Qe<|by omega]
 refine wpAny_Call_Name_kw (cg (cI (pos:=p) Z d hd U ag s J H (λv Y=>v=.ref f/\Y=H) I ⟨_,o,rfl,rfl⟩) λu s1 ⟨v,Y,b,r1,B,z⟩=>?_);subst B z;cases r1;refine W.callWith_K (h₀:=X.base) b.ok.mod.kin j (cg (ha pos ag s1 J Y _ b h) λus s2 c=>x2_2 c λvs H2 a r q=>#[a.h9,?_]) m R;exact qO F g hb .nil hG a r q
end
end L2
namespace RS
open PySem PySem.Spec PyProof.Rows L2
section
variable{X:Cx}{cl:RL.Cl}{a b e:Expr}{a' b' e':RL.E}{p pos:Pos}{M:List Nat}{st:Stmt}{i j:Nat}
def FN(h:PS X st (pe (tE X.K cl e')<|F9 X.K i j))(hi:M.contains i=false)(a:M.contains j=false):SS X cl M st (.star i j e'):=by
 refine PS.weak h λD J H h=>?_;let#[O,o,Y,Z,e,k]:=h;let#[q,I,e]:=map_some (show((RL.ev cl O e').bind RL.tZ).map _=_ from e);cases e;let#[x,ex,I]:=bind_some I;refine#[O,x,Z.hH,ex,λv f r1=>?_]
 cases x with
 |tup ds=>
  cases ds with
  | nil=>cases I
  |cons d r=>
   let#[U,I]:=bO (show(if(d.ax&&RL.ae r)=true then some (d,RL.D.fL r)else none)=some q from I);cases I;rw[and_eq_true]at U;let#[t,s,rfl,g2,c]:=bw r1.rep;rw[ab]at c;let#[z,zs,rfl,p,m]:=c;refine#[t,z,zs,rfl,ed.of g2,λl o hl=>k _ _ ?_ ?_]
   ·have s2:aB f (upd (upd f l<|.lst zs) l<|.cy o<|.lst zs):=λb g R=>by
     have n:=aM R hl;rw[aj n,aj n];exact R
    refine(((Z.same r1.same).bind hi<|p.ax U.1).same s2).bind a ?_;rw[Rep];exact#[l,o,zs,rfl,ao,(m.same s2).ax U.2]
   ·exact(ek.bind hi r1.same).trans (ek.bind a λb g R=>by
     have n:=aM R hl;rw[aj n,aj n]
     exact R)
 | _=>cases I
def Hj{eH:List (Str × Nat)}{bx:List (Str × Addr)}{n g:Str}{e:Expr}{es:List Expr}{Z:RL.Es}{B C sp cp b U:Pos}(hN:X.N.Nodup)(hi:X.N[i]?=some n)(hl:Loc X.env.scope n)(L:vl X.env.scope n)(hd:(n == ("__debug__" : Str))=false)(y:(n == ("__classdict__" : Str))=false)
 (hf:X.fn n=true\/X.env.scope.names.lookup n=some .local)(ha:SE X cl a a')(Q:rQ a)(V:Gl X g)(hm:X.mg g=some (.ref d))(u:(g == ("__debug__" : Str))=false)(G:GDc X d bx)
 (T:∀ x m,RL.jt eH (.str x)=some m->∃ q k fd ps,(bx.find? λq=>decide<|q.1=x)=some q/\dt X.prog X.w X.K X.mg X.base ml k q.2 fd ps (ru X.K cl m)/\bS k X.A/\W.keepIn X.K (.ref q.2)=true/\Binds X.K fd ps [])
 (he:vp X cl (e::es) Z)(hn:noStar e=true)(p:es.all noStar=true)(l:swapsWith (.Subscript (.Name g C) a sp) (some<|.Name n B) pos.line X.env=pure false) :
  nA X cl M [.Assign [.Name n B] (.Subscript (.Name g C) a sp) pos,.Return (some<|.Call (.Name n cp) (e::es) [] b) U] (.act i g eH a' Z):=by
 intro ag s J H D I h;refine de (BD hN hi hl (FP ha V hm u G Q) l hf) (Ha<|qr<|DO hi L hd y he (aP es hn)<|dG p) ag s J H D I ?_;let#[O,o,z,c,ev,post]:=h;let#[m,f,ev]:=bind_some (show((RL.ev cl O a').bind<|RL.jt eH).bind _=_ from ev);let#[x,ea,f]:=bind_some f;let#[ds,e2,ev]:=bind_some ev;let#[r,e3,ev]:=bind_some ev;let#[QN,ev]:=bO ev;cases ev;refine#[O,x,c.hH,ea,λv H1 r1=>?_]
 cases x with
 |str x=>
  let#[q,k,fd,ps,f1,F,S,t,hb]:=T x m f;refine#[x,q,aR r1.rep,f1,k,q.2,fd,ps,_,J,rfl,F,S,t,hb,O.set i none,ds,#[by simpa using le_of_eq c.len,λj dj R=>?_],e2,λvs H2 s2 r2=>?_]
  ·by_cases Y:i=j
   ·subst Y;rw[List.getElem?_set]at R;split at R
    ·split at R<;>cases R
    ·exact absurd rfl ‹_›
   ·rw[Qd Y]at R ⊢;exact(c.hH.same r1.same).2 j dj R
  ·show ru X.K cl m (vs++[]) H2 _ E0;rw[append_nil];exact#[ds,r,r2,e3,λv H3 E r3=>post J H v H3 c (ek.same<|aB.refl H) ((r1.same.trans s2).trans E) λP hP=>r3.ax QN]
 | _=>cases f
end
inductive Ent (w:World):List DictEntry->List (Str × Addr)->Prop
 | nil:Ent w [] []
 | cons {e:DictEntry} {x:Str} {a:Addr} {t:Tok} {es:List DictEntry} {bx:List (Str × Addr)}:e.key=.str x t->e.val=.ref a->e.hash=hashStr w x->Ent w es bx->Ent w (e::es) ((x,a)::bx)
def Ent.pairs{w:World}{P:Program}:∀ {es:List DictEntry} {bx:List (Str × Addr)},Ent w es bx->Pairs (bo P w) es (bx.map λq=>((Sum.inr q.1:Key),Value.ref q.2))/\∀ e∈es,∃ k,(bo P w).is k e.key=true/\e.hash=(bo P w).hash k
 | _,_,.nil=>⟨.nil,λe I=>by cases I⟩
 | _,_,.cons (x:=x) (t:=t) h1 h2 h3 r=>by
  let#[a,b]:=Ent.pairs (P:=P) r;have k:(bo P w).is (.inr x) (.str x t)=true:=oj P w x t;rw[<-h1]at k;refine#[.cons k h2 a,λe I=>?_];rcases List.mem_cons.mp I with rfl | I
  ·exact#[.inr x,k,h3]
  ·exact b e I
def LW:∀ {bx:List (Str × Addr)},(bx.map (·.1)).Nodup->((bx.map λq=>((Sum.inr q.1:Key),Value.ref q.2)).map (·.1)).Nodup:=λ{bx} h=>by
 rw[map_map]
 induction bx with
 | nil=>exact List.nodup_nil
 |cons q r I=>
  rw[map_cons,List.nodup_cons]at h ⊢;refine#[λz=>h.1 ?_,I h.2];let#[y,O,e]:=List.mem_map.mp z;injection e with e;rw[<-e];exact List.mem_map.mpr ⟨y,O,rfl⟩
def Nl{K:W.Frag}{w:World}{es:List DictEntry}{bx:List (Str × Addr)}{ep:Nat}(l:K.lookup d=some ⟨.type "dict",none,.dict es.toArray ep,(List.toArray [])⟩)(E:Ent w es bx)(hn:(bx.map (·.1)).Nodup)(P:Program)(h:Heap)(X:K.In h) :
  h.DictOf (bo P w) d (bx.map λq=>((Sum.inr q.1:Key),Value.ref q.2)):=by
 let#[a,b]:=E.pairs (P:=P);exact#[_,es.toArray,ep,X _ _ l,#[rfl,rfl,rfl],rfl,λe I=>b e (by simpa using I),by simpa using a,LW hn]
inductive El (mg:Str->Option Value) (F:List (Str × List Nat)):List (Str × Addr)->List (Str × Nat)->Prop
 | nil:El mg F [] []
 | cons {x nm:Str} {a:Addr} {m:Nat} {r:List (Str × Addr)} {t:List (Str × Nat)}:F[m]?=some (nm,[])->mg nm=some (.ref a)->El mg F r t->El mg F ((x,a)::r) ((x,m)::t)
def El.keys{mg:Str->Option Value}:∀ {r:List (Str × Addr)} {t:List (Str × Nat)},El mg F r t->r.map (·.1)=t.map (·.1)
 | _,_,.nil=>rfl
 | _,_,.cons _ _ h=>by rw[map_cons,map_cons,h.keys]
def El.act{mg:Str->Option Value}:∀ {r:List (Str × Addr)} {t:List (Str × Nat)},El mg F r t->∀ y m,RL.jt t (.str y)=some m->∃ q nm,(r.find? λq=>decide<|q.1=y)=some q/\F[m]?=some (nm,[])/\mg nm=some (.ref q.2)
 | _,_,.nil,y,m,e=>by cases e
 | _,_,.cons (x:=x) (nm:=nm) (a:=a) (m:=k) (t:=t) h1 h2 h,y,m,e=>by
  have e:(((x,k)::t).find? λq=>decide<|q.1=y).map (·.2)=some m:=e;rw[find?_cons]at e ⊢
  cases hd:decide (x=y)with
  | true=>rw[hd]at e;cases e;exact#[_,nm,rfl,h1,h2]
  | false=>rw[hd]at e;exact h.act y m e
def HB{K:W.Frag}{w:World}{g:Str}{eH:List (Str × Nat)}{bx:List (Str × Addr)}{mg:Str->Option Value}(a:mg g=some (.ref d))(hd:(d == sysModules)=false)(D:∀ (P:Program) (h:Heap),K.In h->h.DictOf (bo P w) d (bx.map λq=>((Sum.inr q.1:Key),Value.ref q.2)))
 (z:El mg F bx eH):∀ x t,[(g,eH)].lookup x=some t->∃ (d:Addr) (bx:List (Str × Addr)),mg x=some (.ref d)/\((d == sysModules)=false/\∀ (P:Program) (h:Heap),K.In h->h.DictOf (bo P w) d (bx.map λq=>((Sum.inr q.1:Key),Value.ref q.2)))/\bx.map (·.1)=t.map (·.1)/\∀ y m,RL.jt t (.str y)=some m->∃ q nm,(bx.find? λq=>decide<|q.1=y)=some q/\F[m]?=some (nm,[])/\mg nm=some (.ref q.2):=λx t e=>by
 rw[Qn]at e
 cases hb:x == g with
 | false=>rw[hb]at e;cases e
 |true=>
  rw[hb]at e;cases e;rw[eq_of_beq hb];exact#[d,bx,a,#[hd,D],z.keys,z.act]
end RS
namespace L2
open PySem PySem.Spec PyProof.Rows
end L2
namespace RS
open PySem PySem.Spec PyProof.Rows L2
end RS
namespace L2
open PySem PySem.Spec PyProof.Rows
def Inv.re{X:Cx}(I:Inv X ag J H s)(n:∀ b,H b=none->H' b=none)(k:∀ b u,H b=some u->¬ Mut (some u)->(∀ x,u≠.own x)->H' b=some u)(ok:hj X.prog X.w H' s.heap):Inv X ag J H' s :=
 I.un ⟨λb o q _ _ _=>q,λb o q _ _ _=>#[o.slots,q],λb o _ e _=>n b e,λb o q _=>#[o,q],λb xs e=>k b _ e (λz=>z) λ_ z=>(nomatch z),λb o u e=>k b _ e (λz=>z) λ_ z=>(nomatch z),λb ps e=>#[(List.toArray []),by rw[k b _ e (λz=>z) λ_ z=>(nomatch z)];simp]⟩ ok
abbrev cM(H:Hp)(a C dx ap af:Addr)(v:V)(ps qs:List V):Hp:=upd (upd (upd H ap<|.lst ps) af<|.lst qs) a<|.ins C dx<|d7 ap af v
abbrev cJ(H:Hp)(a C dx ap af:Addr)(v:V)(ps qs:List V):Hp:=upd (upd (upd H ap<|.own a) af<|.own a) a<|.b0 C dx ap af v ps qs
section
variable{P:Program}{w:World}{H:Hp}{h:Heap}{a C dx ap af:Addr}{v:V}{ps qs:List V}
structure gW(H:Hp)(a C dx ap af:Addr):Prop where
 o1:H dx=some (.own a)
 o2:H ap=some (.own a)
 o3:H af=some (.own a)
 n1:dx≠a
 n2:ap≠af
 n3:ap≠a
 n4:af≠a
 n5:dx≠ap
 n6:dx≠af
def gB(ok:hj P w H h)(e:H a=some (.b0 C dx ap af v ps qs)):gW H a C dx ap af:=by
 let#[Y,U,R,#[n1,n2],c,#[mA,#[od,es,ep,O,I,_],_],#[_,b,_,_,g1],#[_,Z,_,_,g2]]:=ok a _ e;refine⟨Y,U,R,n1,n2,dE U e (by intro z;cases z),dE R e (by intro z;cases z),λz=>?_,λz=>?_⟩
 ·subst z;rw[O]at g1;cases g1;cases I
 ·subst z;rw[O]at g2;cases g2;cases I
def eZ:cM H a C dx ap af v ps qs a=some (.ins C dx<|d7 ap af v):=ao
def fS(n:gW H a C dx ap af):cM H a C dx ap af v ps qs ap=some (.lst ps):=by unfold cM;rw[aj n.n3,aj n.n2,ao]
def fQ(n:gW H a C dx ap af):cM H a C dx ap af v ps qs af=some (.lst qs):=by unfold cM;rw[aj n.n4,ao]
def eL(R:b≠a)(O:b≠ap)(I:b≠af):cM H a C dx ap af v ps qs b=H b:=by unfold cM;rw[aj R,aj I,aj O]
def dC(R:b≠a)(O:b≠ap)(I:b≠af):cJ H a C dx ap af v ps qs b=H b:=by unfold cJ;rw[aj R,aj I,aj O]
def nK(n:gW H a C dx ap af):cJ (cM H a C dx ap af v ps qs) a C dx ap af v' i3 qs'=upd H a (.b0 C dx ap af v' i3 qs'):=by
 funext b;by_cases I:b=a
 ·subst I;rw[ao];exact ao
 rw[aj I];by_cases R:b=ap
 ·subst R;unfold cJ;rw[aj I,aj n.n2,ao,n.o2]
 by_cases O:b=af
 ·subst O;unfold cJ;rw[aj I,ao,n.o3]
 rw[dC I R O,eL I R O]
def qD{H:Hp}(e:H a=some o):upd H a o=H:=by
 funext b;by_cases h:b=a
 ·subst h;rw[ao,e]
 ·rw[aj h]
end
section
variable{X:Cx}{ag:List (Addr × Obj)}{J:St}{H:Hp}{s:Shared}{a C dx ap af:Addr}{v:V}{ps qs:List V}
def Inv.lx(I:Inv X ag J H s)(e:H a=some (.b0 C dx ap af v ps qs)):Inv X ag J (cM H a C dx ap af v ps qs) s:=by
 have n:=gB I.b9 e;let#[i,U,R,n1,h,g,f,d]:=I.b9 a _ e;refine I.re (λb q=>?_) (λb u q m o=>?_) λb u q=>?_
 ·rw[eL (λz=>by subst z;rw[e]at q;cases q) (λz=>by subst z;rw[U]at q;cases q) λz=>by subst z;rw[R]at q;cases q];exact q
 ·rw[eL (λz=>by subst z;rw[e]at q;cases q;exact m True.intro) (λz=>by subst z;rw[U]at q;cases q;exact o _ rfl) λz=>by subst z;rw[R]at q;cases q;exact o _ rfl];exact q
 ·by_cases O:b=a
  ·subst O;rw[eZ]at q;cases q;exact#[by rw[eL n1.1 n.n5 n.n6];exact i,by show(3:Nat)<=1000;decide,n1.1,h,g]
  by_cases Z:b=ap
  ·subst Z;rw[fS n]at q;cases q;exact f
  by_cases Y:b=af
  ·subst Y;rw[fQ n]at q;cases q;exact d
  rw[eL O Z Y]at q;refine(I.b9 b u q).kO (λ_ _ _ z=>z) (λc z=>?_) λc xs z=>?_
  ·rw[eL (λy=>by subst y;rw[e]at z;cases z) (λy=>by subst y;rw[U]at z;cases z;exact O rfl) λy=>by subst y;rw[R]at z;cases z;exact O rfl];exact z
  ·rw[eL (λy=>by subst y;rw[e]at z;cases z) (λy=>by subst y;rw[U]at z;cases z) λy=>by subst y;rw[R]at z;cases z];exact z
def Inv.clo(I:Inv X ag J H s)(e:H a=some (.ins C dx<|d7 ap af v))(R:H ap=some (.lst ps))(O:H af=some (.lst qs))(n:ap≠af):Inv X ag J (cJ H a C dx ap af v ps qs) s:=by
 let#[U,_,n1,g1,g2]:=I.b9 a _ e;have Z:=I.b9 ap _ R;have Y:=I.b9 af _ O;have n3:=dE R e (by intro z;cases z);have n4:=dE O e (by intro z;cases z);have n5:=dE U R (by intro z;cases z);have n6:=dE U O (by intro z;cases z)
 have c1:cJ H a C dx ap af v ps qs ap=some (.own a):=by unfold cJ;rw[aj n3,aj n,ao]
 have i:cJ H a C dx ap af v ps qs af=some (.own a):=by unfold cJ;rw[aj n4,ao]
 refine I.re (λb q=>?_) (λb u q m o=>?_) λb u q=>?_
 ·rw[dC (λz=>by subst z;rw[e]at q;cases q) (λz=>by subst z;rw[R]at q;cases q) λz=>by subst z;rw[O]at q;cases q];exact q
 ·rw[dC (λz=>by subst z;rw[e]at q;cases q;exact m True.intro) (λz=>by subst z;rw[R]at q;cases q;exact m True.intro) λz=>by subst z;rw[O]at q;cases q;exact m True.intro];exact q
 ·by_cases h:b=a
  ·subst h;have q':cJ H b C dx ap af v ps qs b=some (.b0 C dx ap af v ps qs):=ao;rw[q']at q;cases q;exact#[by rw[dC n1 n5 n6];exact U,c1,i,#[n1,n],g1,g2,Z,Y]
  by_cases f:b=ap
  ·subst f;rw[c1]at q;cases q;let#[_,bq,k,_,g]:=Z;exact#[_,g]
  by_cases d:b=af
  ·subst d;rw[i]at q;cases q;let#[_,bq,k,_,g]:=Y;exact#[_,g]
  rw[dC h f d]at q;refine(I.b9 b u q).kO (λ_ _ _ z=>z) (λc z=>?_) λc xs z=>?_
  ·rw[dC (λy=>by subst y;rw[e]at z;cases z) (λy=>by subst y;rw[R]at z;cases z) λy=>by subst y;rw[O]at z;cases z];exact z
  ·rw[dC (λy=>by subst y;rw[e]at z;cases z) (λy=>by subst y;rw[R]at z;cases z) λy=>by subst y;rw[O]at z;cases z];exact z
def Inv.back(I:Inv X ag J (cM H a C dx ap af v ps qs) s)(e:H a=some (.b0 C dx ap af v ps qs))(n:gW H a C dx ap af):Inv X ag J H s:=by
 have:=I.clo eZ (fS n) (fQ n) n.n2;rw[nK n,qD e]at this;exact this
end
structure oZ(K:W.Frag)(H:Hp)(x:V)(a C dx ap af:Addr)(v:V)(ps qs:List V):Prop where
 ex:x=.ref a
 at':H a=some (.b0 C dx ap af v ps qs)
 cl:h8 K C
 n1:bV K C "now"
 n2:bV K C "past"
 n3:bV K C "future"
abbrev pf(b:Bool):Str:=if b then "past" else "future"
abbrev BC(b:Bool)(ap af:Addr):Addr:=if b then ap else af
abbrev pfL(b:Bool)(ps qs:List V):List V:=if b then ps else qs
section
variable{X:Cx}{o e:Expr}{pos pos' p2 p3:Pos}{ta te:TE}{b:Bool}
def oZ.nf{K:W.Frag}(h:oZ K H x a C dx ap af v ps qs):bV K C (pf b):=by cases b;exact h.n3;exact h.n2
def GR:(d7 ap af v).lookup (pf b)=some (.ref<|BC b ap af):=by cases b<;>rfl
def ju{H:Hp}(n:gW H a C dx ap af):cM H a C dx ap af v ps qs (BC b ap af)=some (.lst<|pfL b ps qs):=by cases b;exact fQ n;exact fS n
abbrev OM(K:W.Frag)(ta:TE):TE:=λJ H Q=>ta J H λx I=>∃ a C dx ap af v ps qs,oZ K I x a C dx ap af v ps qs/\Q v I
def Jm(d:PE X o ta)(hb:attributeBase o "now" X.env (eval o X.env)=eval o X.env):PE X (.Attribute o "now" pos) (OM X.K ta):=by
 intro ag s J H Q I h;refine xX hb (cg (d ag s J H _ I h) λu s1 Y=>x2_2 Y λx f R Z U=>x8_1 U λa C dx ap af v ps qs L q=>?_);let#[rfl,O,c,n,_,_]:=L;obtain rfl:u=Value.ref a:=Z
 exact pY (R.lx O) eZ c n (show(d7 ap af v).lookup ("now" : Str)=some v from rfl) λg s2 e b=>#[v,f,e.back O<|gB R.b9 O,b,q]
end
section
variable{X:Cx}{o e:Expr}{st:Stmt}{t:TE}{tt:TT}{ts:TS}{b:Bool}{pos pos' et:Pos}
abbrev Cl(H:Hp)(a C dx:Addr)(R:Hp->Prop):Prop:=∃ ap af v ps qs,H a=some (.ins C dx<|d7 ap af v)/\H ap=some (.lst ps)/\H af=some (.lst qs)/\ap≠af/\R (cJ H a C dx ap af v ps qs)
def Inv.cl{ag:List (Addr × Obj)}(I:Inv X ag J H s)(h:Cl H a C dx R):∃ H',Inv X ag J H' s/\R H':=by
 let#[ap,af,v,ps,qs,b,Z,Y,U,O]:=h;exact#[_,I.clo b Z Y U,O]
def xP(h:PE X e t):PE X e (λJ H Q=>∃ a C dx ap af v ps qs,H a=some (.b0 C dx ap af v ps qs)/\t J (cM H a C dx ap af v ps qs) λu H'=>Cl H' a C dx<|Q u):=by
 intro ag s J H Q I ⟨a,C,dx,ap,af,v,ps,qs,e,k⟩;refine cg (h ag s J _ _ (I.lx e) k) λu s1 O=>x2_2 O λx Y U r q=>?_;let#[H2,R,q]:=U.cl q;exact#[x,H2,R,r,q]
def Hu(h:PT X e tt):PT X e (λJ H Q=>∃ a C dx ap af v ps qs,H a=some (.b0 C dx ap af v ps qs)/\tt J (cM H a C dx ap af v ps qs) λu H'=>Cl H' a C dx<|Q u):=by
 intro ag s J H Q I ⟨a,C,dx,ap,af,v,ps,qs,e,k⟩;refine cg (h ag s J _ _ (I.lx e) k) λu s1 O=>x1_1 O λY U q=>?_;let#[H2,R,q]:=U.cl q;exact#[H2,R,q]
def yC(h:PS X st ts):PS X st (λD J H=>∃ a C dx ap af v ps qs,H a=some (.b0 C dx ap af v ps qs)/\ts ⟨λO H'=>Cl H' a C dx<|D.nx O,λ_ _=>False,λ_ _=>False,λ_ _=>False⟩ J (cM H a C dx ap af v ps qs)):=by
 intro ag s J H D I ⟨a,C,dx,ap,af,v,ps,qs,e,k⟩;refine cg (h ag s J _ _ (I.lx e) k) λf s1 q=>?_
 cases f with
 |next=>
  let#[O,Y,U,q]:=q;let#[H2,R,q]:=U.cl q;exact#[O,H2,R,q]
 | brk=>let#[_,_,_,q]:=q;exact q.elim
 | cont=>let#[_,_,_,q]:=q;exact q.elim
 | ret u=>let#[_,_,_,_,_,q]:=q;exact q.elim
def Inv.drop{ag:List (Addr × Obj)}(I:Inv X ag J H s)(e:H p=some (.lst xs)):Inv X ag J (upd H p<|.own a) s:=by
 refine I.re (λb q=>?_) (λb u q m _=>?_) λb u q=>?_
 ·rw[aj λz=>by subst z;rw[e]at q;cases q];exact q
 ·rw[aj λz=>by subst z;rw[e]at q;cases q;exact m True.intro];exact q
 ·by_cases h:b=p
  ·subst h;rw[ao]at q;cases q;let#[_,bq,k,_,g]:=I.b9 b _ e;exact#[_,g]
  ·rw[aj h]at q
   exact(I.b9 b u q).kO (λ_ _ _ z=>z) (λc z=>by rw[aj λy=>by subst y;rw[e]at z;cases z];exact z) λc xs z=>by rw[aj λy=>by subst y;rw[e]at z;cases z];exact z
def Ka{d c:TE}(ha:PE X o d)(l:PE X e c)(m:swapsWith e (some<|.Attribute o "now" pos') et.line X.env=pure false):PS X (.Assign [.Attribute o "now" pos'] e et) (λD J H=>c J H λy Z=>d J Z λx H2=>∃ a C dx ap af v ps qs,oZ X.K H2 x a C dx ap af v ps qs/\D.nx J (upd H2 a<|.b0 C dx ap af y ps qs)):=by
 intro ag s J H D I h;refine plainObj_wpAny_Assign_Attribute (cg (l ag s J H _ I h) λu s1 R=>x2_2 R λy Z r i q=>cg (ha ag s1 J Z _ r q) λov s2 R=>x2_2 R λx H2 f j g=>x8_1 g λa C dx ap af v ps qs L k=>?_) m;obtain rfl:=L.ex;obtain rfl:ov=Value.ref a:=j;have n:=gB f.b9 L.at'
 refine kJ (f.lx L.at') eZ L.cl L.n1 (by show(3:Nat)<1000;decide) i λt p=>#[J,_,?_,k]
 have:=p.clo ao (by rw[aj n.n3];exact fS n) (by rw[aj n.n4];exact fQ n) n.n2
 have e:cJ (upd (cM H2 a C dx ap af v ps qs) a<|.ins C dx<|dY "now" y<|d7 ap af v) a C dx ap af y ps qs=upd H2 a (.b0 C dx ap af y ps qs):=by
  rw[<-nK (v:=v) (ps:=ps) (qs:=qs) n];funext b;by_cases O:b=a
  ·subst O;unfold cJ;rw[ao,ao]
  ·unfold cJ;rw[aj O,aj O];by_cases U:b=af
   ·subst U;rw[ao,ao]
   rw[aj U,aj U];by_cases Y:b=ap
   ·subst Y;rw[ao,ao]
   rw[aj Y,aj Y,aj O]
 rw[e]at this;exact this
def N4{m k:TE}(ha:PE X o m)(G:PE X e k)(QN:swapsWith e (some<|.Attribute o (pf b) pos') et.line X.env=pure false):PS X (.Assign [.Attribute o (pf b) pos'] e et) (λD J H=>k J H λy j=>m J j λx H2=>∃ a C dx ap af v ps qs l xs,oZ X.K H2 x a C dx ap af v ps qs/\y=.ref l/\H2 l=some (.lst xs)/\D.nx J (upd (upd H2 l<|.own a) a (.b0 C dx (if b then l else ap) (if b then af else l) v (if b then xs else ps) (if b then qs else xs)))):=by
 intro ag s J H D I h;refine plainObj_wpAny_Assign_Attribute (cg (G ag s J H _ I h) λu s1 f=>x2_2 f λy j N B q=>cg (ha ag s1 J j _ N q) λov s2 f=>x2_2 f λx H2 w E A=>x10_3 A λa C dx ap af v ps qs l xs L M hl F=>?_) QN;obtain rfl:=L.ex;obtain rfl:ov=Value.ref a:=E;subst M;have n:=gB w.b9 L.at';have g:l≠a:=dE hl L.at' (by intro z;cases z);have d:l≠ap:=dE hl n.o2 (by intro z;cases z);have Z:l≠af:=dE hl n.o3 (by intro z;cases z)
 have r:cM H2 a C dx ap af v ps qs l=some (.lst xs):=by rw[eL g d Z];exact hl
 refine kJ (w.lx L.at') eZ L.cl L.nf (by show(3:Nat)<1000;decide) B λP t=>#[J,_,?_,F]
 cases b with
 |true=>
  have i:=t.clo (ap:=l) (af:=af) (v:=v) (qs:=qs) ao (by rw[aj g];exact r) (by rw[aj n.n4];exact fQ n) Z;have c:=i.drop (p:=ap) (xs:=ps) (a:=a)<|by rw[dC n.n3 (Ne.symm d) n.n2,aj n.n3];exact fS n
  have e:upd (cJ (upd (cM H2 a C dx ap af v ps qs) a<|.ins C dx<|dY (pf true) (.ref l)<|d7 ap af v) a C dx l af v xs qs) ap (.own a)=upd (upd H2 l<|.own a) a (.b0 C dx l af v xs qs):=by
   funext b;by_cases Y:b=ap
   ·subst Y;rw[ao,aj n.n3,aj<|Ne.symm d];exact n.o2.symm
   rw[aj Y];by_cases O:b=a
   ·subst O;unfold cJ;rw[ao,ao]
   unfold cJ;rw[aj O,aj O];by_cases U:b=af
   ·subst U;rw[ao,aj<|Ne.symm Z];exact n.o3.symm
   rw[aj U];by_cases R:b=l
   ·subst R;rw[ao,ao]
   rw[aj R,aj R,aj O,eL O Y U]
  rw[e]at c;exact c
 |false=>
  have i:=t.clo (ap:=ap) (af:=l) (v:=v) ao (by rw[aj n.n3];exact fS n) (by rw[aj g];exact r)<|Ne.symm d;have c:=i.drop (p:=af) (xs:=qs) (a:=a)<|by rw[dC n.n4 (Ne.symm n.n2)<|Ne.symm Z,aj n.n4];exact fQ n
  have e:upd (cJ (upd (cM H2 a C dx ap af v ps qs) a<|.ins C dx<|dY (pf false) (.ref l)<|d7 ap af v) a C dx ap l v ps xs) af (.own a)=upd (upd H2 l<|.own a) a (.b0 C dx ap l v ps xs):=by
   funext b;by_cases U:b=af
   ·subst U;rw[ao,aj n.n4,aj<|Ne.symm Z];exact n.o3.symm
   rw[aj U];by_cases O:b=a
   ·subst O;unfold cJ;rw[ao,ao]
   unfold cJ;rw[aj O,aj O];by_cases R:b=l
   ·subst R;rw[ao,ao]
   rw[aj R,aj R];by_cases Y:b=ap
   ·subst Y;rw[ao];exact n.o2.symm
   rw[aj Y,aj O,eL O Y U]
  rw[e]at c;exact c
end
end L2
namespace RS
open PySem PySem.Spec PyProof.Rows L2
def vX{α:Type}{y:α}{c:Prop} [Decidable c]{x:Option α}(h:(if c then x else none)=some y):c/\x=some y:=by
 split at h
 ·exact#[‹_›,h]
 ·cases h
end RS
namespace L2
open PySem PySem.Spec PyProof.Rows
open RS (nP Rep ab ru dX lP)
def aB.new(s:aB H0 H1)(h:H1 a=none):aB H0 (upd H1 a o):=λb u e=>by rw[aj<|aM e<|s.free h];exact s b u e
def aB.at(s:aB H0 H1)(h:H0 a=none):aB H0 (upd H1 a o):=λb u e=>by rw[aj<|aM e h];exact s b u e
abbrev spH(C:Addr):Sp:=λvs H Q _=>∃ x dx a b c,vs=[.ref x,a,b,c]/\H x=some (.ins C dx [])/\Q .cb (upd H x<|.ins C dx<|lP.zip [a,b,c])
structure zy(st:Stmt):Prop where
 body:∃ (p1 p2 p3 p4 p5 p6 p7 p8 p9 p10 M0 p12:Pos),cY st=[.Assign [.Attribute (.Name "self" p1) "width" p2] (.Name "width" p3) p4,.Assign [.Attribute (.Name "self" p5) "tied" p6] (.Name "tied" p7) p8,.Assign [.Attribute (.Name "self" p9) "piled" p10] (.Name "piled" M0) p12]
 sc:iR ["self", "width", "tied", "piled"] ["self", "width", "tied", "piled"] (aS st)
 v0:(aS st).names.lookup ("self" : Str)=some .local
 v1:(aS st).names.lookup ("width" : Str)=some .local
 v2:(aS st).names.lookup ("tied" : Str)=some .local
 v3:(aS st).names.lookup ("piled" : Str)=some .local
structure Fy(st:Stmt):Prop where
 body:∃ (p1 p2 p3 p4 p5 p6 p7 p8 p9 p10 M0 p12 p13 p14 p15 p16 p17 p18 p19 p20:Pos),cY st=[.Expr (.Call (.Name "check_pegs" p1) [.Name "pegs" p2] [] p3) p4,
  .Assign [.Attribute (.Name "self" p5) "now" p6] (.Call (.Name "Holding" p7) [.Name "pegs" p8,.Dict [] [] p9,.Dict [] [] p10] [] M0) p12,.Assign [.Attribute (.Name "self" p13) "past" p14] (.List [] p15) p16,.Assign [.Attribute (.Name "self" p17) "future" p18] (.List [] p19) p20]
 sc:iR ["self", "pegs"] ["self", "pegs"] (aS st)
 v0:(aS st).names.lookup ("self" : Str)=some .local
 v1:(aS st).names.lookup ("pegs" : Str)=some .local
 g1:(aS st).names.lookup ("check_pegs" : Str)=some .globalImplicit
 g2:(aS st).names.lookup ("Holding" : Str)=some .globalImplicit
section
variable{K:W.Frag}{st:Stmt}
def FJ(c:h8 K C)(n1:bV K C "width")(n2:bV K C "tied")(n3:bV K C "piled")(T:zy st)(F:nN K "__init__" qual st fI fd):dt P w K mg base ml 1 fI fd ["self", "width", "tied", "piled"] (spH C):=by
 let#[p1,p2,p3,p4,p5,p6,p7,p8,p9,p10,M0,p12,hb]:=T.body;refine nN.ok F T.sc (λvs H Q E h=>?_) λft A outer s H vs Q E g h=>?_
 ·let#[x,dx,a,b,c,rfl,_]:=h;rfl
 ·rw[hb];let#[x,dx,a,b,e,rfl,d,q]:=h;generalize hX:(kX ml P w K mg base ["self", "width", "tied", "piled"] qual (aS st) fI ft A outer s H E).lk=X
  have R:X.N=(["self", "width", "tied", "piled"]:List Str):=by rw[<-hX];rfl
  have f:X.K=K:=by rw[<-hX];rfl
  have O:X.env.scope=aS st:=by rw[<-hX];rfl
  have I:∀ p,PE X (.Name "self" p)<|bD 0:=λp=>cI (by rw[R];rfl) (by rw[O];exact .inl T.v0) ∅ ∅;have Z:∀ p,PE X (.Name "width" p)<|bD 1:=λp=>cI (by rw[R];rfl) (by rw[O];exact .inl T.v1) ∅ ∅;have Y:∀ p,PE X (.Name "tied" p)<|bD 2:=λp=>cI (by rw[R];rfl) (by rw[O];exact .inl T.v2) ∅ ∅;have U:∀ p,PE X (.Name "piled" p)<|bD 3:=λp=>cI (by rw[R];rfl) (by rw[O];exact .inl T.v3) ∅ ∅;rw[<-f]at c n1 n2 n3;refine#[_,de (jd (I p1) (Z p3) rfl)<|de (jd (I p5) (Y p7) rfl)<|de (jd (I p9) (U M0) rfl) qX,?_];refine#[a,rfl,.ref x,rfl,x,C,dx,[],rfl,d,c,n1,by decide,?_];refine#[b,rfl,.ref x,rfl,x,C,dx,[("width",a)],rfl,ao,c,n2,by show(1:Nat)<1000;decide,?_];refine#[e,rfl,.ref x,rfl,x,C,dx,[("width",a),("tied",b)],rfl,ao,c,n3,by show(2:Nat)<1000;decide,?_];rw[mQ,mQ];exact q
end
section
variable{X:Cx}{ag:List (Addr × Obj)}
def Inv.IT(I:Inv X ag J H s)(e:H a=some (.dK bx)):∃ o,Inv X ag J (upd H a<|.cy o<|.dK bx) s:=by
 let#[z,O,xs,pr,o,es,ep,g,rest]:=id<|I.b9 a _ e;exact#[o,I.write (by rw[e];trivial) (.inl rfl) (λb u _ e=>e) #[o,g] #[g,z,O,xs,pr,o,es,ep,g,rest]]
def Gw{U:List Stmt}{t:TS}{Rs:Hp->(Hp->Prop)->Prop}(h:hY X U t)(Y:∀ ag J H s R,Inv X ag J H s->Rs H R->∃ H',Inv X ag J H' s/\R H'):hY X U (λD J H=>t { D with nx:=λO H'=>Rs H' (D.nx O) } J H):=by
 intro ag s J H D I q;refine cg (h ag s J H _ I q) λf s1 q=>?_
 cases f with
 |next=>
  let#[O,b,a,q]:=q;let#[H2,Z,q]:=Y ag O b s1 _ a q;exact#[O,H2,Z,q]
 | ret v=>exact q
 | brk=>exact q
 | cont=>exact q
end
structure rV(K:W.Frag)(C f:Addr):Prop where
 a1:W.makesIn K C=true
 a2:W.findIn K (.ref C) "__init__" = some (some<|.ref f)
 a3:W.isFn K (.ref f)=true
 a4:W.keepIn K (.ref C)=true
 a5:W.plainGet K C Str.empty=true
 a6:W.hasDictIn K C=true
 a7:W.plainOver K C=true
 a8:W.findIn K (.ref C) "__setattr__" = some (some<|.builtin "object.__setattr__")
def rV.m{K:W.Frag}(h:rV K C f):Mk K C f:=#[h.a1,h.a2,h.a3,h.a4]
def rV.c{K:W.Frag}(h:rV K C f):h8 K C:=#[h.a5,h.a6,h.a7,h.a8]
abbrev RsL(x C dx a1 a2:Addr)(H:Hp)(R:Hp->Prop):Prop:=a1≠a2/\H a1=some (.dK [])/\H a2=some (.dK [])/\∀ o1 o2,Cl (upd (upd H a1<|.cy o1<|.dK []) a2<|.cy o2<|.dK []) x C dx R
def IV{X:Cx}{ag:List (Addr × Obj)}(I:Inv X ag J H s)(h:∃ x C dx a1 a2,RsL x C dx a1 a2 H R):∃ H',Inv X ag J H' s/\R H':=by
 let#[x,C,dx,a1,a2,n,U,O,q]:=h;let#[o1,Z]:=I.IT U;let#[o2,Y]:=Z.IT (by rw[aj<|Ne.symm n];exact O);exact Y.cl<|q o1 o2
abbrev D4(K:W.Frag)(cl:RL.Cl)(f:Nat)(C:Addr):Sp:=λvs H Q _=>∃ x dx v d r I,vs=[.ref x,v]/\H x=some (.ins C dx [])/\aB I H/\I x=none/\Rep nP K I d v/\cl f [d]=some r/\∀ H2,aB I H2->Rep nP K H2 (RL.zK d) (.ref x)->Q .cb H2
structure HdK(K:W.Frag)(mg:Str->Option Value)(C fI:Addr)(fd:FuncData):Prop where
 nm:dX K "Holding" C
 c:h8 K C
 n1:bV K C "width"
 n2:bV K C "tied"
 n3:bV K C "piled"
 m:Mk K C fI
 hm:mg "Holding" = some (.ref C)
 hb:Binds K fd ["self", "width", "tied", "piled"] []
 tx:∃ st qual,zy st/\nN K "__init__" qual st fI fd
def HdK.fn{K:W.Frag}(h:HdK K mg C fI fd):dt P w K mg base ml 1 fI fd ["self", "width", "tied", "piled"] (spH C):=by
 let#[st,qual,T,F]:=h.tx;exact FJ h.c h.n1 h.n2 h.n3 T F
structure LfK(K:W.Frag)(mg:Str->Option Value)(C fI:Addr)(fd:FuncData):Prop where
 nm:dX K "Loft" C
 c:h8 K C
 n1:bV K C "now"
 n2:bV K C "past"
 n3:bV K C "future"
 m:Mk K C fI
 hm:mg "Loft" = some (.ref C)
 hb:Binds K fd ["self", "pegs"] []
 tx:∃ st qual,Fy st/\nN K "__init__" qual st fI fd
section
variable{K:W.Frag}{st:Stmt}
def Gb{k:Nat}(L:LfK K mg C fI fd)(h:HdK K mg CH fH fdH)(F:dt P w K mg base ml (k+2) fa fda psa (ru K cl f))(hm:mg "check_pegs" = some (.ref fa))(hk:W.keepIn K (.ref fa)=true)(hb:Binds K fda psa []):dt P w K mg base ml (k+3) fI fd ["self", "pegs"] (D4 K cl f C):=by
 let#[st,qual,T,FI]:=L.tx;let#[p1,p2,p3,p4,p5,p6,p7,p8,p9,p10,M0,p12,p13,p14,p15,p16,p17,p18,p19,p20,hbd]:=T.body;refine nN.ok FI T.sc (λvs H Q E h=>?_) λft A outer s H vs Q E hr q=>?_
 ·let#[x,dx,v,d,r,Z,rfl,_]:=h;rfl
 ·rw[hbd];let#[x,dx,v,d,r,Z,rfl,hx,s0,i,rv,er,q]:=q;have FH:=h.fn (P:=P) (w:=w) (base:=base);generalize hX:(kX ml P w K mg base ["self", "pegs"] qual (aS st) fI ft A outer s H E).lk=X
  have eN:X.N=(["self", "pegs"]:List Str):=by rw[<-hX];rfl
  have eP:X.prog=P:=by rw[<-hX];rfl
  have eW:X.w=w:=by rw[<-hX];rfl
  have eK:X.K=K:=by rw[<-hX];rfl
  have eM:X.mg=mg:=by rw[<-hX];rfl
  have eB:X.base=base:=by rw[<-hX];rfl
  have eS:X.env.scope=aS st:=by rw[<-hX];rfl
  have hr:bS (k+2) X.A:=by rw[<-hX];exact hr
  have g1:Gl X "check_pegs" := by rw[<-hX];exact T.g1
  have g2:Gl X "Holding" := by rw[<-hX];exact T.g2
  subst eP eW eK eM eB;have j:∀ p,PE X (.Name "self" p)<|bD 0:=λp=>cI (by rw[eN];rfl) (by rw[eS];exact .inl T.v0) ∅ ∅;have G:∀ p,PE X (.Name "pegs" p)<|bD 1:=λp=>cI (by rw[eN];rfl) (by rw[eS];exact .inl T.v1) ∅ ∅;have mk:=qS (p:=p7) (pos:=M0) h.m FH (hr.mono<|by omega) g2 h.hm h.hb .nil hG (bu (G p8) (bu (vJ (pos:=p9)) (bu (vJ (pos:=p10)) cU rfl) rfl) rfl) ∅ rfl rfl;have r1:=gJ (X:=X) (pos:=p4) (mK (p:=p1) (pos:=p3) F hr g1 hm hk hb .nil hG (bu (G p2) cU rfl) ∅ rfl rfl) rfl;have r2:=jd (f := "now") (pos':=p6) (pos:=p12) (j p5) mk rfl;have r3:=jd (f := "past") (pos':=p14) (pos:=p16) (j p13) (uG (pos:=p15)<|cU (X:=X)) rfl;have r4:=jd (f := "future") (pos':=p18) (pos:=p20) (j p17) (uG (pos:=p19)<|cU (X:=X)) rfl;refine#[_,Gw (de r1<|de r2<|de r3<|de r4 qX) λag J H s R I h=>IV I h,?_];refine#[v,rfl,[d],r,#[v,[],rfl,rv.same s0,rfl],er,λ_ Y sm _=>?_];have s1:=s0.trans sm;have x1:=sm _ _ hx;refine#[v,rfl,λa1 h1 a2 B O U QN t h5=>#[O,U,v,.ref a1,.ref a2,rfl,ao,rfl,?_]];rw[mQ]
  have n1:x≠a1:=λz=>by rw[<-z,x1]at h1;cases h1
  have x2:upd Y a1 (.dK []) x=some (.ins C dx []):=by rw[aj n1];exact x1
  have n2:x≠a2:=λz=>by rw[<-z,x2]at B;cases B
  have x3:upd (upd Y a1<|.dK []) a2 (.dK []) x=some (.ins C dx []):=by rw[aj n2];exact x2
  have n3:x≠O:=λz=>by rw[<-z,x3]at QN;cases QN
  have n4:x≠U:=λz=>by rw[<-z,x3]at t;cases t
  have s2:aB Z (upd Y a1<|.dK []):=s1.new h1;have s3:aB Z (upd (upd Y a1<|.dK []) a2<|.dK []):=s2.new B;have b1:Z a1=none:=s1.free h1;have b2:Z a2=none:=s2.free B;have b3:Z O=none:=s3.free QN;have b4:Z U=none:=s3.free t
  have n5:a1≠a2:=λz=>by rw[<-z,ao]at B;cases B
  have y1:upd (upd Y a1<|.dK []) a2 (.dK []) a1=some (.dK []):=by rw[aj n5,ao]
  have m1:a1≠O:=aM y1 QN;have m2:a2≠O:=aM (ao (H:=upd Y a1<|.dK []) (o:=.dK [])) QN;have m3:a1≠U:=aM y1 t;have m4:a2≠U:=aM (ao (H:=upd Y a1<|.dK []) (o:=.dK [])) t;have k0:aB Z (upd (upd (upd (upd Y a1<|.dK []) a2<|.dK []) U<|.own O) O<|.ins CH U<|lP.zip [v,.ref a1,.ref a2]):=(s3.new t).at b3
  have k1:upd (upd (upd (upd Y a1<|.dK []) a2<|.dK []) U<|.own O) O (.ins CH U<|lP.zip [v,.ref a1,.ref a2]) x=some (.ins C dx []):=by rw[aj n3,aj n4];exact x3
  have k2:upd (upd (upd (upd Y a1<|.dK []) a2<|.dK []) U<|.own O) O (.ins CH U<|lP.zip [v,.ref a1,.ref a2]) O=some (.ins CH U<|lP.zip [v,.ref a1,.ref a2]):=ao
  have k3:upd (upd (upd (upd Y a1<|.dK []) a2<|.dK []) U<|.own O) O (.ins CH U<|lP.zip [v,.ref a1,.ref a2]) a1=some (.dK []):=by rw[aj m1,aj m3];exact y1
  have k4:upd (upd (upd (upd Y a1<|.dK []) a2<|.dK []) U<|.own O) O (.ins CH U<|lP.zip [v,.ref a1,.ref a2]) a2=some (.dK []):=by rw[aj m2,aj m4];exact ao
  generalize upd (upd (upd (upd Y a1<|.dK []) a2<|.dK []) U<|.own O) O (.ins CH U<|lP.zip [v,.ref a1,.ref a2])=Hb at k0 k1 k2 k3 k4 ⊢;refine#[.ref x,rfl,x,C,dx,[],rfl,k1,L.c,L.n1,by decide,?_]
  have l0:∀ b u o,b≠x->Hb b=some u->upd Hb x o b=some u:=λb u o n e=>by rw[aj n];exact e
  refine#[by decide,λa3 h6=>#[.ref x,rfl,x,C,dx,[("now",.ref O)],rfl,?_,L.c,L.n2,by show(1:Nat)<1000;decide,?_]]
  ·rw[aj λz=>by rw[<-z,ao]at h6;cases h6];exact ao
  have l:upd Hb x (.ins C dx [("now",.ref O)]) a3=none:=h6;have c3:∀ b u,b≠x->Hb b=some u->b≠a3:=λb u n e=>aM (l0 b u _ n e) l;have d3:x≠a3:=aM ao l;have b5:Z a3=none:=(k0.at i).free l;refine#[by decide,λa4 h7=>#[.ref x,rfl,x,C,dx,[("now",.ref O),("past",.ref a3)],rfl,?_,L.c,L.n3,by show(2:Nat)<1000;decide,?_]]
  ·rw[aj λz=>by rw[<-z,ao]at h7;cases h7];exact ao
  have a:=h7;have c4:∀ b u,b≠x->Hb b=some u->b≠a4:=λb u n e=>aM (show _=some u by rw[aj n,aj<|c3 b u n e];exact l0 b u _ n e) a;have d4:x≠a4:=aM ao a;have d5:a3≠a4:=aM (show _=some (HO.lst []) by rw[aj<|Ne.symm d3];exact ao) a;have b6:Z a4=none:=(((k0.at i).at b5).at i).free a
  have g:∀ b u,b≠x->Hb b=some u->upd (upd (upd (upd (upd Hb x<|.ins C dx [("now",.ref O)]) a3<|.lst []) x<|.ins C dx [("now",.ref O),("past",.ref a3)]) a4<|.lst []) x (.ins C dx<|d7 a3 a4<|.ref O) b=some u:=λb u n e=>by
   rw[aj n,aj<|c4 b u n e,aj n,aj<|c3 b u n e];exact l0 b u _ n e
  have g3:upd (upd (upd (upd (upd Hb x<|.ins C dx [("now",.ref O)]) a3<|.lst []) x<|.ins C dx [("now",.ref O),("past",.ref a3)]) a4<|.lst []) x (.ins C dx<|d7 a3 a4<|.ref O) a3=some (.lst []):=by
   rw[aj<|Ne.symm d3,aj d5,aj<|Ne.symm d3];exact ao
  have g4:upd (upd (upd (upd (upd Hb x<|.ins C dx [("now",.ref O)]) a3<|.lst []) x<|.ins C dx [("now",.ref O),("past",.ref a3)]) a4<|.lst []) x (.ins C dx<|d7 a3 a4<|.ref O) a4=some (.lst []):=by
   rw[aj<|Ne.symm d4];exact ao
  have s9:aB Z (upd (upd (upd (upd (upd Hb x<|.ins C dx [("now",.ref O)]) a3<|.lst []) x<|.ins C dx [("now",.ref O),("past",.ref a3)]) a4<|.lst []) x<|.ins C dx<|d7 a3 a4<|.ref O):=((((k0.at i).at b5).at i).at b6).at i;have g0:upd (upd (upd (upd (upd Hb x<|.ins C dx [("now",.ref O)]) a3<|.lst []) x<|.ins C dx [("now",.ref O),("past",.ref a3)]) a4<|.lst []) x (.ins C dx<|d7 a3 a4<|.ref O) x=some (.ins C dx<|d7 a3 a4<|.ref O):=ao;show ∃ y C' dy c1 c2,RsL y C' dy c1 c2 (upd (upd (upd (upd (upd Hb x<|.ins C dx [("now",.ref O)]) a3<|.lst []) x<|.ins C dx [("now",.ref O),("past",.ref a3)]) a4<|.lst []) x<|.ins C dx<|d7 a3 a4<|.ref O)<|Q .cb;generalize upd (upd (upd (upd (upd Hb x<|.ins C dx [("now",.ref O)]) a3<|.lst []) x<|.ins C dx [("now",.ref O),("past",.ref a3)]) a4<|.lst []) x (.ins C dx<|d7 a3 a4<|.ref O)=Hg at g0 g3 g4 s9 g ⊢;have z1:=g a1 _ (Ne.symm n1) k3;have z2:=g a2 _ (Ne.symm n2) k4;have z3:=g O _ (Ne.symm n3) k2;have c31:=c3 a1 _ (Ne.symm n1) k3;have V:=c3 a2 _ (Ne.symm n2) k4;have S:=c4 a1 _ (Ne.symm n1) k3;have M:=c4 a2 _ (Ne.symm n2) k4;have c33:=c3 O _ (Ne.symm n3) k2;have c43:=c4 O _ (Ne.symm n3) k2;refine#[x,C,dx,a1,a2,n5,z1,z2,λo1 o2=>#[a3,a4,.ref O,[],[],?_,?_,?_,d5,?_]]
  ·rw[aj n2,aj n1];exact g0
  ·rw[aj<|Ne.symm V,aj<|Ne.symm c31];exact g3
  ·rw[aj<|Ne.symm M,aj<|Ne.symm S];exact g4
  have D:aB Z (cJ (upd (upd Hg a1<|.cy o1<|.dK []) a2<|.cy o2<|.dK []) x C dx a3 a4 (.ref O) [] []):=((((s9.at b1).at b2).at b5).at b6).at i;refine q _ D ?_;show Rep nP _ _ (.b0 (.hd [d,.fK [] [],.fK [] []]) [] []) _;rw[Rep];refine#[x,C,dx,a3,a4,.ref O,[],[],rfl,λz=>z,ao,L.nm,?_,ab.nil,ab.nil];rw[Rep];refine#[O,CH,U,[v,.ref a1,.ref a2],rfl,?_,#[h.nm,rfl],ab.cons (rv.same D)<|ab.cons ?_<|ab.cons ?_ ab.nil]
  ·rw[dC (Ne.symm n3) c33 c43,aj<|Ne.symm m2,aj<|Ne.symm m1];exact z3
  ·rw[Rep];exact#[a1,o1,[],rfl,by rw[dC (Ne.symm n1) c31 S,aj n5,ao];rfl,rfl,ab.nil]
  ·rw[Rep];exact#[a2,o2,[],rfl,by rw[dC (Ne.symm n2) V M,ao];rfl,rfl,ab.nil]
end
end L2
namespace RS
open PySem PySem.Spec PyProof.Rows L2
structure gb(K:W.Frag)(mg:Str->Option Value):Prop where
 hd:∃ C fI fd,HdK K mg C fI fd
 lf:∃ C fI fd,LfK K mg C fI fd
def dX.eq{K:W.Frag}(h:dX K c C)(h':dX K c C'):C=C':=by
 unfold dX at h h';rw[h]at h';cases h';rfl
def LP{P:Addr->Prop}{K:W.Frag}{H:Hp}{ds:List RL.D}(h:Rep P K H (.hd ds) v):∃ a C dx xs,v=.ref a/\H a=some (.ins C dx<|lP.zip xs)/\(dX K "Holding" C/\ds.length=3)/\ab P K H ds xs:=by rw[Rep]at h;exact h
def sr{P:Addr->Prop}{K:W.Frag}{H:Hp}{d:RL.D}{ps qs:List RL.D}(h:Rep P K H (.b0 d ps qs) v):∃ a C dx ap af x xs ys,v=.ref a/\¬ P a/\H a=some (.b0 C dx ap af x xs ys)/\dX K "Loft" C/\Rep P K H d x/\ab P K H ps xs/\ab P K H qs ys:=by rw[Rep]at h;exact h
section
variable{X:Cx}{cl:RL.Cl}{a b c:Expr}{a' b' c':RL.E}{pos p:Pos}{i:Nat}{x:Str}
def L4{k:Nat}{nm:Str}{P:Nat->Str->Prop}(h:lP[k]?=some nm)(a:P 0 "width")(b:P 1 "tied")(c:P 2 "piled"):P k nm :=
 match k,h with
 | 0,h=>Option.some.inj h▸a
 | 1,h=>Option.some.inj h▸b
 | 2,h=>Option.some.inj h▸c
 | _+3,h=>nomatch h
def OR{xs:List V}(h:xs.length=3):∃ a b c,xs=[a,b,c]:=by
 cases xs with
 | nil=>cases h
 | cons a xs=>cases xs with
  | nil=>cases h
  | cons b xs=>cases xs with
   | nil=>cases h
   | cons c xs=>cases xs with
    | nil=>exact#[a,b,c,rfl]
    | cons d xs=>cases h
def Gz{k:Nat}{nm:Str}{xs:List V}{y:V}(h:lP[k]?=some nm)(hl:xs.length=3)(e:xs[k]?=some y):(lP.zip xs).lookup nm=some y:=by
 let#[a,b,c,rfl]:=OR hl;exact L4 (P:=λk nm=>[a,b,c][k]?=some y->(lP.zip [a,b,c]).lookup nm=some y) h id id id e
def Az{K:W.Frag}(h:HdK K mg C fI fd){k:Nat}{nm:Str}(e:lP[k]?=some nm):bV K C nm:=L4 (P:=λ_ nm=>bV K C nm) e h.n1 h.n2 h.n3
def Kw{k:Nat}{nm:Str}(L:gb X.K X.mg)(O:lP[k]?=some nm)(ha:SE X cl a a')(hb:attributeBase a nm X.env (eval a X.env)=eval a X.env):SE X cl (.Attribute a nm pos) (.hC k a'):=by
 refine PE.weak (wI ha hb) λJ H Q h=>?_;let#[I,d,U,e,q]:=h;let#[y,g,e]:=bind_some (show(RL.ev cl I a').bind (RL.CT k)=some d from e);refine#[I,y,U,g,λv i r1=>?_]
 cases y with
 |hd ds=>
  let#[Y,C,dx,xs,rfl,f,#[b,Z],R]:=LP r1.rep;let#[j,fI,fd,T]:=L.hd;cases b.eq T.nm;let#[w,g1,g2]:=R.get (show ds[k]?=some d from e);refine⟨Y,C,dx,_,w,rfl,f,T.c,Az T O,Gz O (R.length▸Z) g1,q _ _ ⟨r1.same,g2,λz=>(by cases z),λM z=>nomatch (show false=true from z)⟩⟩
 | _=>cases e
def Ik(L:gb X.K X.mg)(s:bS 2 X.A)(u:Gl X "Holding")(ha:SE X cl a a')(hb:SE X cl b b')(v:SE X cl c c')(n1:noStar a=true)(n2:noStar b=true)(n3:noStar c=true):SE X cl (.Call (.Name "Holding" p) [a,b,c] [] pos) (.zw a' b' c'):=by
 let#[C,fI,fd,T]:=L.hd;refine PE.weak (qS T.m (T.fn) s u T.hm T.hb .nil hG (bK ha (bK hb (bK v df n3) n2) n1) ∅ (aP _ n1)<|dG<|by simp[n2,n3]) λJ H Q h=>?_;let#[O,d,j,e,q]:=h;let#[i,D,e]:=bind_some e;let#[g,B,e]:=bind_some e;let#[f,z,e]:=bind_some e;let#[r,rfl]:=bO e;refine#[O,[i,g,f],j,by rw[RL.c0,D,RL.c0,B,RL.c0,z];rfl,λvs R s1 r1 y I x w E=>?_];let#[Z,t,rfl,r2,r3]:=r1;let#[Y,t,rfl,o,n]:=r3;let#[U,t,rfl,l,k]:=n;subst k;refine#[y,I,Z,Y,U,rfl,ao,rfl,?_];rw[mQ];have s2:aB R (upd (upd R I<|.own y) y<|.ins C I<|lP.zip [Z,Y,U]):=((aB.refl R).new w).at x;refine q _ _<|dN (s1.trans s2) ?_ r;exact#[y,C,I,_,rfl,ao,#[T.nm,rfl],ab.cons (r2.same s2)<|ab.cons (o.same s2)<|ab.cons (l.same s2) ab.nil]
def E7:bM X (.type "dict") (λxs H Q=>∃ q bx,xs=[V.ref q]/\Rd H q (.dK bx)/\∀ l,H l=none->Q (.ref l) (upd H l<|.dK bx)):=by
 intro ag s J H xs us Q I r h;let#[q,bx,rfl,R,k]:=h;let#[u,rfl,O]:=vals1 r;cases O
 exact DA I R λl s' hl U=>#[.ref l,_,U,rfl,k l hl]
def Ja(U:Gl X "dict")(hm:X.mg "dict" = none)(ha:SE X cl a a')(hn:noStar a=true):SE X cl (.Call (.Name "dict" p) [a] [] pos) (.x6 a'):=by
 refine PE.weak (cQ E7 U hm (by decide +kernel) (bK ha df hn) ∅ ∅ (aP [] hn) rfl) λJ H Q h=>?_;let#[I,d,O,e,q]:=h;let#[y,c,e]:=bind_some (show(RL.ev cl I a').bind RL.DN=some d from e);refine#[I,[y],O,by rw[RL.c0,c];rfl,λvs g s1 r1=>?_];let#[f,t,rfl,r2,r3]:=r1;subst r3
 cases y with
 |fK ks ds=>
  cases e;let#[R,o,xs,rfl,b,Y,Z]:=r2;refine⟨R,_,rfl,.inr #[o,b],λl hl=>q _ _ ⟨s1.trans<|aB.d8 hl,?_,λ_ _ z w=>(by cases w;exact s1.free hl),λM z=>nomatch (show false=true from z)⟩⟩;exact#[l,xs,rfl,λz=>z,ao,Y,Z.same<|aB.d8 hl]
 | _=>cases e
def JZ{k f:Nat}{C fI:Addr}{fd:FuncData}(L:LfK X.K X.mg C fI fd)(F:dt X.prog X.w X.K X.mg X.base ml k fI fd ["self", "pegs"] (D4 X.K cl f C))(Z:bS (k+1) X.A)(b:Gl X "Loft")(ha:SE X cl a a')(hn:noStar a=true):SE X cl (.Call (.Name "Loft" p) [a] [] pos) (.sd f a'):=by
 refine PE.weak (qS L.m F Z b L.hm L.hb .nil hG (bK ha df hn) ∅ (aP _ hn) rfl) λJ H Q h=>?_;let#[I,d,Y,e,q]:=h;let#[y,i,e]:=bind_some e;let#[r,g,e]:=bind_some e;cases e;refine#[I,[y],Y,by rw[RL.c0,i];rfl,λvs R s1 r1 z j O c l=>?_];let#[U,t,rfl,r2,r3]:=r1;subst r3;exact⟨z,j,U,y,r,R,rfl,ao,((aB.refl R).new c).at O,O,r2,g,λH2 s2 rp=>⟨rfl,q _ _ ⟨s1.trans s2,rp,λ_ _ a e=>(by cases e;exact s1.free O),λM e=>nomatch (show false=true from e)⟩⟩⟩
end
end RS
namespace L2
open PySem PySem.Spec PyProof.Rows
abbrev AF(C:Addr)(sp:Sp)(E:XK)(O:TE)(t:TA):TE:=λJ H Q=>O J H λx I=>∃ a dx ap af v ps qs,x=.ref a/\I a=some (.b0 C dx ap af v ps qs)/\t J I λvs H2=>sp (x::(vs++[])) H2 Q E
abbrev pw(m:Str):Bool:=m != "now" && m != "past" && m != "future"
def Bo(h:pw m=true):(d7 ap af v).lookup m=none:=by
 unfold pw at h;rw[and_eq_true,and_eq_true,bne_iff_ne,bne_iff_ne,bne_iff_ne]at h;show List.lookup m [("now",v),("past",V.ref ap),("future",V.ref af)]=none;rw[Qn,beq_false_of_ne h.1.1,Qn,beq_false_of_ne h.1.2,Qn,beq_false_of_ne h.2];rfl
def Bg{x m:Str}{p apos I:Pos}{args:List Expr}{env:Env}(O:(backTo I<|starEach args env).any (·.1)=false)(hn:args.length<30)(hl:(apos.endLine == I.line)=true):eval (.Call (.Attribute (.Name x p) m apos) args [] I) env=(do
   let ov <- eval (.Name x p) env
   standAt apos.atName
   let (f,first) <- holding [ov] (getMethod ov m (do return (<- importBound (.Name x p) env).getD true))
   callWith I f first (backTo I<|starEach args env) (backToKw I<|keywordEach [] env)):=by
 have U:methodCallForm (args.length+([]:List Keyword).length) (backTo I<|starEach args env) (backToKw I<|keywordEach [] env)=true:=by
  unfold methodCallForm
  have:(backTo I<|starEach args env).all (λx=>!x.1)=true:=by rw[List.all_eq_not_any_not];simpa using O
  rw[this,show backToKw I (keywordEach [] env)=[]from rfl];simpa using hn
 have R:methodCallPos true (.Name x p) env apos I=pure I:=by unfold methodCallPos;rw[hl];rfl
 show(do
  let ov <- eval (.Name x p) env
  standAt apos.atName
  methodCall (.Name x p) m apos I env ov (args.length+([]:List Keyword).length) (backTo I<|starEach args env) (backToKw I<|keywordEach [] env))=_
 unfold methodCall;simp only[U,R];rfl
section
variable{X:Cx}{CX:rl}{k:Nat}{f C:Addr}{fd:FuncData}{ps:List Str}{sp:Sp}{E:XK}{m:Str}{pos apos:Pos}{e o:Expr}{es:List Expr}{ta:TE}{t:TA}
def Ec(n:PE X o ta)(c:h8 X.K C)(hm:Meth X.K C m f)(hl:pw m=true)(F:dt X.prog X.w X.K X.mg X.base CX k f fd ps sp)(l:bS k X.A)(hb:Binds X.K fd ps [])(i:Passes CX X E)(ha:PA X (e::es) t)
 (R:starEach (e::es) X.env=(false,eval e X.env)::starEach es X.env)(U:(backTo pos<|starEach es X.env).any (·.1)=false)
 (j:eval (.Call (.Attribute o m apos) (e::es) [] pos) X.env=(do
   let ov <- eval o X.env
   standAt apos.atName
   let (f,first) <- holding [ov] (getMethod ov m pl)
   callWith pos f first (backTo pos<|starEach (e::es) X.env) (backToKw pos<|keywordEach [] X.env))) :
  PE X (.Call (.Attribute o m apos) (e::es) [] pos) (AF C sp E ta t):=by
 intro ag s J H Q I h;refine W.methodCall_KW (cg (n ag s J H _ I h) λu s1 O=>x2_2 O λx y Z d b=>x7_2 b λa dx ap af v ps qs ex p q=>?_) j;subst ex;obtain rfl:u=Value.ref a:=d;refine qi (Z.lx p) eZ c hm (Bo hl) ?_;refine W.callWith_K I.ok.mod.kin hm.kp (cg (ha pos ag s1 J y _ Z q) λus s2 O=>x2_2 O λvs H2 Y r g=>#[Y.h9,?_]) R U;exact qO (vs:=.ref a::vs) F l hb .nil i Y (.cons rfl r) g
def BA(e:PE X o ta)(c:h8 X.K C)(hm:Meth X.K C m f)(hl:pw m=true)(F:dt X.prog X.w X.K X.mg X.base CX k f fd ps sp)(d:bS k X.A)(hb:Binds X.K fd ps [])(Z:Passes CX X E)
 (b:eval (.Call (.Attribute o m apos) [] [] pos) X.env=(do
   let ov <- eval o X.env
   standAt apos.atName
   let (f,first) <- holding [ov] (getMethod ov m pl)
   callWith pos f first (backTo pos<|starEach [] X.env) (backToKw pos<|keywordEach [] X.env))) :
  PE X (.Call (.Attribute o m apos) [] [] pos) (AF C sp E ta v9):=by
 intro ag s J H Q I h;refine W.methodCall_KW (cg (e ag s J H _ I h) λu s1 U=>x2_2 U λx i O Y R=>x7_2 R λa dx ap af v ps qs ex g q=>?_) b;subst ex;obtain rfl:u=Value.ref a:=Y;refine qi (O.lx g) eZ c hm (Bo hl) ?_;exact W.callWith_K0 O.h9 hm.kp<|qO (vs:=[.ref a]) F d hb .nil Z O (.cons rfl .nil) q
end
end L2
namespace RS
open PySem PySem.Spec PyProof.Rows L2
section
variable{X:Cx}{cl:RL.Cl}{e:Expr}{e':RL.E}{pos p p2 apos:Pos}{i:Nat}{b:Bool}{x:Str}
def qJ{K:W.Frag}(I:la K QO J H)(h:(QO[i]?).bind id=some (.b0 d ps qs)):∃ a C dx ap af x xs ys,J[i]?=some (some<|.ref a)/\H a=some (.b0 C dx ap af x xs ys)/\dX K "Loft" C/\Rep nP K H d x/\ab nP K H ps xs/\ab nP K H qs ys:=by
 let#[v,R,O]:=I.2 i _<|slot_get h;let#[a,C,dx,ap,af,x,xs,ys,rfl,_,f]:=sr O;exact#[a,C,dx,ap,af,x,xs,ys,R,f]
def ij{K:W.Frag}{mg:Str->Option Value}{H:Hp}(T:gb K mg)(h:H a=some (.b0 C dx ap af y xs ys))(n:dX K "Loft" C):oZ K H (.ref a) a C dx ap af y xs ys:=by
 let#[I,fI,fd,L]:=T.lf;cases n.eq L.nm;exact#[rfl,h,L.c,L.n1,L.n2,L.n3]
def JS(h:(o:Option RL.D).bind (RL.loV .now)=some d):∃ ps qs,o=some (.b0 d ps qs):=by
 let#[l,O,I]:=bind_some h;subst O;cases l<;>cases I;exact#[_,_,rfl]
def L5(h:(o:Option RL.D).bind (RL.loV<|.len b)=some d):∃ R ps qs,o=some (.b0 R ps qs)/\d=.int (RL.cq b ps qs).length:=by
 let#[l,O,I]:=bind_some h;subst O;cases l<;>cases I;exact#[_,_,_,rfl,rfl]
def Kg(h:(o:Option RL.D).bind (RL.loV<|.lst b)=some d):∃ R ps qs,o=some (.b0 R ps qs)/\d=.lst (RL.cq b ps qs):=by
 let#[l,O,I]:=bind_some h;subst O;cases l<;>cases I;exact#[_,_,_,rfl,rfl]
def iq{P:Addr->Prop}{K:W.Frag}{H:Hp}(O:ab P K H ps xs)(I:ab P K H qs ys):ab P K H (RL.cq b ps qs) (pfL b xs ys):=by cases b;exact I;exact O
def wO{P:Addr->Prop}{K:W.Frag}{H:Hp}(O:ab P K H ps xs)(I:ab P K H qs ys):(RL.cq b ps qs).length=(pfL b xs ys).length:=(iq O I).length
def JD(T:gb X.K X.mg)(R:PE X (.Name x p) (bD i)):SE X cl (.Attribute (.Name x p) "now" pos) (.lo .now i):=by
 refine PE.weak (Jm R rfl) λJ H Q h=>?_;let#[I,d,O,e,q]:=h;let#[ps,qs,c]:=JS e;let#[a,C,dx,ap,af,y,xs,ys,b,Z,Y,U,_]:=qJ O c;exact⟨.ref a,b,a,C,dx,ap,af,y,xs,ys,ij T Z Y,q _ _ ⟨aB.refl H,U,λz=>(by cases z),λM z=>nomatch (show false=true from z)⟩⟩
def ym{H:Hp}{R:Hp->Prop}{a C dx ap af:Addr}(n:gW H a C dx ap af)(e:H a=some (.b0 C dx ap af v ps qs))(h:R H):Cl (cM H a C dx ap af v ps qs) a C dx R :=
 ⟨ap,af,v,ps,qs,eZ,fS n,fQ n,n.n2,by rw[nK n,qD e];exact h⟩
def qE(I:PE X (.Name x p) (bD i)):PE X (.Attribute (.Name x p) (pf b) pos) (EC X.K (bD i)<|pf b):=wI I rfl
def jX{Q:VK}{K:W.Frag}{H:Hp}{J:L2.St}(L:oZ K H (.ref a) a C dx ap af v ps qs)(I:J[i]?=some (some<|.ref a))(q:Q (.ref<|BC b ap af) (cM H a C dx ap af v ps qs)):EC K (bD i) (pf b) J (cM H a C dx ap af v ps qs) Q :=
 ⟨.ref a,I,a,C,dx,_,_,rfl,eZ,L.cl,L.nf,GR,q⟩
def Dc(T:gb X.K X.mg)(Z:Gl X "len")(hm:X.mg "len" = none)(Y:PE X (.Name x p) (bD i)):SE X cl (.Call (.Name "len" p2) [.Attribute (.Name x p) (pf b) apos] [] pos) (.lo (.len b) i):=by
 intro ag s J H Q I h;let#[R,d,U,e,q]:=h;let#[m,ps,qs,k,rfl]:=L5 e;let#[a,C,dx,ap,af,y,xs,ys,j,O,g,l,f,c]:=qJ U k;have n:=gB I.b9 O;refine xP (oT wj Z hm PySem.boot_len (bu (qE Y) cU rfl) ∅ ∅ rfl rfl) ag s J H Q I ⟨a,C,dx,ap,af,y,xs,ys,O,?_⟩;refine jX (ij T O g) j ⟨_,_,rfl,.inl<|dz.of<|ju n,ym n O ?_⟩;rw[<-wO f c];exact q _ _<|dN (aB.refl H) bC rfl
def Lc{H:Hp}{R:Hp->Prop}{a C dx ap af l:Addr}(n:gW H a C dx ap af)(e:H a=some (.b0 C dx ap af v ps qs))(hl:cM H a C dx ap af v ps qs l=none)(h:H l=none->R (upd H l o)):Cl (upd (cM H a C dx ap af v ps qs) l o) a C dx R:=by
 have n1:l≠a:=λz=>by rw[z,eZ]at hl;cases hl
 have n2:l≠ap:=λz=>by rw[z,fS n]at hl;cases hl
 have n3:l≠af:=λz=>by rw[z,fQ n]at hl;cases hl
 rw[eL n1 n2 n3]at hl;refine#[ap,af,v,ps,qs,by rw[aj<|Ne.symm n1];exact eZ,by rw[aj<|Ne.symm n2];exact fS n,by rw[aj<|Ne.symm n3];exact fQ n,n.n2,?_]
 have:cJ (upd (cM H a C dx ap af v ps qs) l o) a C dx ap af v ps qs=upd H l o:=by
  funext b;by_cases I:b=l
  ·subst I;rw[dC n1 n2 n3,ao,ao]
  rw[aj I,<-congrFun ((nK (v:=v) (ps:=ps) (qs:=qs) (v':=v) (i3:=ps) (qs':=qs) n).trans<|qD e) b];unfold cJ;by_cases Y:b=a
  ·subst Y;rw[ao,ao]
  rw[aj Y,aj Y];by_cases O:b=af
  ·subst O;rw[ao,ao]
  rw[aj O,aj O];by_cases U:b=ap
  ·subst U;rw[ao,ao]
  rw[aj U,aj U,aj I]
 rw[this];exact h hl
def Dv(T:gb X.K X.mg)(Z:Gl X "list")(hm:X.mg "list" = none)(Y:PE X (.Name x p) (bD i)):SE X cl (.Call (.Name "list" p2) [.Attribute (.Name x p) (pf b) apos] [] pos) (.lo (.lst b) i):=by
 intro ag s J H Q I h;let#[R,d,U,e,q]:=h;let#[o,ps,qs,k,rfl]:=Kg e;let#[a,C,dx,ap,af,y,xs,ys,j,O,g,m,f,c]:=qJ U k;have n:=gB I.b9 O;refine xP (cQ mf Z hm (by decide +kernel) (bu (qE Y) cU rfl) ∅ ∅ rfl rfl) ag s J H Q I ⟨a,C,dx,ap,af,y,xs,ys,O,?_⟩;refine jX (ij T O g) j ⟨_,_,rfl,.inl<|dz.of<|ju n,λl hl=>Lc n O hl λhl=>q _ _ (d9 (aB.refl H) hl (iq f c) λ_=>rfl)⟩
def Nw(T:gb X.K X.mg)(Z:PE X (.Name x p) (bD i)):PT X (.Attribute (.Name x p) (pf b) apos) (λJ H Q=>∃ O k,la X.K O J H/\((O[i]?).bind id).bind (RL.qt b)=some k/\Q (!k) H):=by
 intro ag s J H Q I h;let#[O,k,Y,e,q]:=h;let#[l,j,U]:=bind_some e
 cases l with
 |b0 o ps qs=>
  cases U;let#[a,C,dx,ap,af,y,xs,ys,g,R,f,m,d,c]:=qJ Y j;have n:=gB I.b9 R;refine Hu (vt (qE Z) λ_=>rfl) ag s J H Q I ⟨a,C,dx,ap,af,y,xs,ys,R,?_⟩;refine jX (ij T R f) g ⟨_,.inl #[_,dz.of<|ju n,rfl],ym n R ?_⟩;rw[<-(iq d c).isEmpty];exact q
 | _=>cases U
abbrev oY(X:Cx)(cl:RL.Cl)(f:Nat)(m:Str)(mp:List Nat):Prop:=∃ k fa fd ps C,dt X.prog X.w X.K X.mg X.base ml k fa fd ps (if mp=[]then ru X.K cl f else wd X.K cl mp f)/\bS k X.A/\(dX X.K "Loft" C/\L2.h8 X.K C/\Meth X.K C m fa)/\Binds X.K fd ps []
def Fl{m:Str}{f:Nat}{mp:List Nat}{es:List Expr}{t:TA}(M:oY X cl f m mp)(hl:pw m=true)(d:PE X (.Name x p) (bD i))(ha:PA X es t)(n:es=[]->∀ J H R,t J H R->R [] H)(O:es.all noStar=true)(hn:es.length<30)(Y:(apos.endLine == pos.line)=true) :
  PE X (.Call (.Attribute (.Name x p) m apos) es [] pos) (λJ H Q=>∃ a C dx ap af v ps qs,J[i]?=some (some<|.ref a)/\H a=some (.b0 C dx ap af v ps qs)/\dX X.K "Loft" C/\t J H λvs H2=>(if mp=[]then ru X.K cl f else wd X.K cl mp f) (.ref a::vs) H2 Q E0):=by
 let#[k,fa,fd,ps,C,F,h,#[l,j,hm],hb]:=M;have g:=Bg (x:=x) (m:=m) (p:=p) (env:=X.env) (dG O) hn Y
 cases es with
 |nil=>
  intro ag s J H Q I ⟨a,o,dx,ap,af,v,U,qs,c,b,Z,q⟩;cases Z.eq l;exact BA d j hm hl F h hb hG g ag s J H Q I ⟨.ref a,c,a,dx,ap,af,v,U,qs,rfl,b,n rfl J H _ q⟩
 |cons e es=>
  rw[Qz,and_eq_true]at O;intro ag s J H Q I ⟨a,o,dx,ap,af,v,U,qs,c,b,Z,q⟩;cases Z.eq l;refine Ec d j hm hl F h hb hG ha (aP es O.1) (dG O.2) g ag s J H Q I ⟨.ref a,c,a,dx,ap,af,v,U,qs,rfl,b,?_⟩;simpa only[append_nil]using q
def DM{es:List Expr}{I:RL.Es}(h:vp X cl es I)(hl:cO I=es.length):es=[]->∀ J H R,tEs X.K cl I J H R->R [] H:=λe J H R q=>by
 subst e
 cases I with
 |nil=>
  let#[O,ds,U,ev,k]:=q;cases ev;exact k [] H (aB.refl H) ab.nil
 | cons _ _=>simp[cO]at hl
def zd{es:List Expr}{I:RL.Es}(hl:cO I=es.length):es=[]->∀ J H R,fU X.K cl I J H R->R [] H:=λe J H R q=>by
 subst e
 cases I with
 | nil=>exact q
 | cons _ _=>simp[cO]at hl
def JR{m:Str}{f:Nat}{es:List Expr}{I:RL.Es}(M:oY X cl f m [])(hl:pw m=true)(r:PE X (.Name x p) (bD i))(e:vp X cl es I)(c:cO I=es.length)(Z:es.all noStar=true)(hn:es.length<30)(b:(apos.endLine == pos.line)=true):SE X cl (.Call (.Attribute (.Name x p) m apos) es [] pos) (.met m f i I):=by
 refine PE.weak (Fl M hl r e (DM e c) Z hn b) λJ H Q h=>?_;let#[U,d,Y,ev,q]:=h;let#[l,R,ev]:=bind_some ev;let#[ds,O,ev]:=bind_some ev;let#[n,k,j]:=bind_some R
 cases n with
 |b0 G ps qs=>
  cases j;let#[a,C,dx,ap,af,y,xs,ys,g,A,w,F,E,D]:=qJ Y k;refine#[a,C,dx,ap,af,y,xs,ys,g,A,w,U,ds,Y,O,λvs B s1 r1=>?_];let#[v,g1,g2]:=Y.2 i _<|slot_get k;rw[g]at g1;cases g1;refine#[_,d,ab.cons (g2.same s1) r1,ev,λv H2 s2 r2=>q v H2 #[s1.trans s2,r2.none,λ_ m a z=>?_,λM _ P u _=>?_]]
  ·subst z
   have t:B a=none:=by
    cases d with
    | lst ds=>let#[p,xs,R,O,_]:=bb r2;cases R;exact Classical.byContradiction O
    | dK ks ds=>rw[Rep]at r2;let#[p,xs,R,O,_]:=r2;cases R;exact Classical.byContradiction O
    | b0 d ps qs=>let#[p,C,dx,ap,af,x,xs,ys,R,O,_]:=sr r2;cases R;exact Classical.byContradiction O
    | _=>cases m
   exact s1.free t
  ·refine r2.weak λa z=>?_;let#[o,s]:=Option.ne_none_iff_exists'.mp<|u a z;rw[s1 _ _ s]
   exact λq=>nomatch q
 | _=>cases j
end
end RS
namespace L2
open PySem PySem.Spec PyProof.Rows
def Co{H:Hp}{R:Hp->Prop}{a C dx ap af:Addr}{b:Bool}(n:gW H a C dx ap af)(h:R (upd H a (.b0 C dx ap af y (if b then zs else ps) (if b then qs else zs)))):Cl (upd (upd (cM H a C dx ap af v ps qs) (BC b ap af)<|.lst zs) a<|.ins C dx<|d7 ap af y) a C dx R:=by
 refine#[ap,af,y,if b then zs else ps,if b then qs else zs,ao,?_,?_,n.n2,?_]
 ·rw[aj n.n3]
  cases b with
  | true=>exact ao
  | false=>exact(aj n.n2).trans<|fS n
 ·rw[aj n.n4]
  cases b with
  | true=>exact(aj<|Ne.symm n.n2).trans<|fQ n
  | false=>exact ao
 have:cJ (upd (upd (cM H a C dx ap af v ps qs) (BC b ap af)<|.lst zs) a<|.ins C dx<|d7 ap af y) a C dx ap af y (if b then zs else ps) (if b then qs else zs)=upd H a (.b0 C dx ap af y (if b then zs else ps) (if b then qs else zs)):=by
  funext c;by_cases I:c=a
  ·subst I;rw[ao];exact ao
  rw[aj I];by_cases O:c=af
  ·subst O;unfold cJ;rw[aj I,ao];exact n.o3.symm
  by_cases U:c=ap
  ·subst U;unfold cJ;rw[aj I,aj O,ao];exact n.o2.symm
  rw[dC I U O,aj I,aj (by cases b;exact O;exact U),eL I U O]
 rw[this];exact h
def GF{H:Hp}{R:Hp->Prop}{a C dx ap af:Addr}{b:Bool}(n:gW H a C dx ap af)(h:R (upd H a (.b0 C dx ap af v (if b then zs else ps) (if b then qs else zs)))):Cl (upd (cM H a C dx ap af v ps qs) (BC b ap af)<|.lst zs) a C dx R:=by
 have I:a≠BC b ap af:=by cases b;exact Ne.symm n.n4;exact Ne.symm n.n3
 have:=Co (v:=v) n h
 rwa [qD<|by rw[aj I];exact eZ]at this
end L2
namespace RS
open PySem PySem.Spec PyProof.Rows L2
def G4{d:RL.D}(h:RL.aG (.b0 d ps qs)=true):d.ax=true/\RL.ae ps=true/\RL.ae qs=true:=by
 have h:(d.ax&&(RL.ae ps&&RL.ae qs))=true:=h;rw[and_eq_true,and_eq_true]at h;exact h
def c8.b0{K:W.Frag}(O:c8 K M QO J H)(hi:M.contains i=true)(h:(QO[i]?).bind id=some (.b0 d ps qs)):∃ a C dx ap af x xs ys,J[i]?=some (some<|.ref a)/\H a=some (.b0 C dx ap af x xs ys)/\dX K "Loft" C/\(d.ax=true/\RL.ae ps=true/\RL.ae qs=true)/\Rep nP K H d x/\ab nP K H ps xs/\ab nP K H qs ys:=by
 let#[v,Y,I]:=O.val i _<|slot_get h;rw[if_pos hi]at I;let#[_,U,R]:=I;let#[a,C,dx,ap,af,x,xs,ys,rfl,_,c,b,Z]:=sr R;exact#[a,C,dx,ap,af,x,xs,ys,Y,c,b,G4 U,Z]
def c8.gP{K:W.Frag}{O:RL.D}(R:c8 K M QO J H)(hi:M.contains i=true)(Y:J[i]?=some (some<|.ref a))(I:H a=some (.b0 C dx ap af x xs ys))(U:dX K "Loft" C)(m:O.ax=true/\RL.ae i3=true/\RL.ae qs'=true)(r1:Rep nP K H O x')(r2:ab nP K H i3 xs')(r3:ab nP K H qs' ys') :
  c8 K M (QO.set i<|some<|.b0 O i3 qs') J (upd H a<|.b0 C dx ap' af' x' xs' ys')/\ek M J H J (upd H a<|.b0 C dx ap' af' x' xs' ys'):=by
 refine R.jS hi Y I True.intro ⟨rfl,?_,?_⟩
 ·show(O.ax&&(RL.ae i3&&RL.ae qs'))=true;rw[m.1,m.2.1,m.2.2];rfl
 ·rw[Rep];exact#[a,C,dx,ap',af',x',xs',ys',rfl,λz=>z,ao,U,(Rep.upd I True.intro rfl<|r1.ax m.1).ax m.1,(ab.upd I True.intro rfl<|r2.ax m.2.1).ax m.2.1,(ab.upd I True.intro rfl<|r3.ax m.2.2).ax m.2.2]
section
variable{X:Cx}{cl:RL.Cl}{e:Expr}{e':RL.E}{pos p p2 p3 p4 apos et:Pos}{i:Nat}{b:Bool}{x:Str}{M:List Nat}
def JP(T:gb X.K X.mg)(g:PE X (.Name x p) (bD i))(m:SE X cl e e')(hi:M.contains i=true)(j:swapsWith e (some<|.Attribute (.Name x p) "now" p2) et.line X.env=pure false):SS X cl M (.Assign [.Attribute (.Name x p) "now" p2] e et) (.now i e'):=by
 refine PS.weak (Ka g m j) λD J H h=>?_;let#[O,o,R,U,e,k]:=h;let#[d,w,e]:=bind_some e;let#[l,u,e]:=bind_some e;let#[q,c,t]:=map_some e;cases t
 cases l with
 |b0 z ps qs=>
  let#[f,rfl]:=bO c;refine#[O,d,U.hH,w,λv A r1=>?_];have I:=U.same r1.same;let#[a,C,dx,ap,af,y,xs,ys,b,Z,Y,s,_,r,n]:=I.b0 hi u;let#[g1,g2]:=I.gP hi b Z Y ⟨f,s.2⟩ r1.rep r n;exact#[.ref a,b,a,C,dx,ap,af,y,xs,ys,ij T Z Y,k _ _ g1<|(ek.same r1.same).trans g2]
 | _=>cases c
def Nc(T:gb X.K X.mg)(L:PE X (.Name x p) (bD i))(P:SE X cl e e')(hi:M.contains i=true)(N:swapsWith e (some<|.Attribute (.Name x p) (pf b) p2) et.line X.env=pure false):SS X cl M (.Assign [.Attribute (.Name x p) (pf b) p2] e et) (.pf b i e'):=by
 refine PS.weak (N4 L P N) λD J H h=>?_;let#[f,o,u,m,e,k]:=h;let#[d,e1,e]:=bind_some e;let#[l,B,e]:=bind_some e;let#[QN,e]:=vX e;let#[q,t,e4]:=map_some e;cases e4
 cases l with
 |b0 d0 ps qs=>
  cases d with
  |lst zs=>
   let#[Y,rfl]:=bO t;refine#[f,_,m.hH,e1,λv E r1=>?_];let#[l,us,rfl,_,s,V]:=bb r1.rep;have fr:=r1.fresh QN rfl l rfl;have j:=m.same r1.same;let#[a,C,dx,ap,af,y,xs,ys,c,R,r,_]:=j.b0 hi B;have g:aB H (upd E l<|.own a):=r1.same.at fr;have I:=m.same g;let#[a',C',dx',ap',af',y',G,F,U,O,_,Z,w,S,Q]:=I.b0 hi B;rw[c]at U;cases U;have n:=dE R s (by intro z;cases z);rw[aj n,R]at O;cases O;have A:ab nP X.K (upd E l<|.own a) zs us:=(ab.upd s True.intro rfl<|V.ax Y).ax Y;refine#[.ref a,c,a,C,dx,ap,af,y,xs,ys,l,us,ij T R r,rfl,s,?_]
   cases b with
   |true=>
    let#[g1,g2]:=I.gP hi c (by rw[aj n];exact R) r ⟨Z.1,Y,Z.2.2⟩ w A Q;exact k _ _ g1<|(ek.same g).trans g2
   |false=>
    let#[g1,g2]:=I.gP hi c (by rw[aj n];exact R) r ⟨Z.1,Z.2.1,Y⟩ w S A;exact k _ _ g1<|(ek.same g).trans g2
  | _=>cases t
 | _=>cases t
def xJ{d:RL.D}(hd:d.ax=true):∀ {l:List RL.D},RL.ae l=true->RL.ae (l++[d])=true
 | [],_=>by simp[RL.ae,hd]
 | z::r,h=>by rw[RL.ae,and_eq_true]at h;rw[cons_append,RL.ae,h.1,xJ hd h.2];rfl
def Ln(T:gb X.K X.mg)(A:PE X (.Name x p) (bD i))(Z:PE X (.Name x p2) (bD i))(hi:M.contains i=true)(hl:(apos.endLine == pos.line)=true):SS X cl M (.Expr (.Call (.Attribute (.Attribute (.Name x p) (pf b) p3) "append" apos) [.Attribute (.Name x p2) "now" p4] [] pos) et) (.My b i):=by
 have B:=gJ (pos:=et) (EZ PySem.F.plainAttrs_list PySem.F.slot_list_append PySem.F.type_list_append m5 (qE (b:=b) (pos:=p3) A) (bu (wI (f := "now") (pos:=p4) Z rfl) cU rfl) rfl rfl hl rfl rfl) rfl;intro ag s J H D I h;let#[w,o,r,Y,e,k]:=h;let#[l,G,e]:=bind_some e;let#[q,v,E]:=map_some e;cases E
 cases l with
 |b0 d ps qs=>
  let#[z,rfl]:=bO v;let#[a,C,dx,ap,af,y,xs,ys,U,R,m,O,j,g,c]:=Y.b0 hi G;have n:=gB I.b9 R;have L:=ij T R m;refine yC B ag s J H D I ⟨a,C,dx,ap,af,y,xs,ys,R,?_⟩;unfold mJ tBM;refine jX L U ?_;refine#[.inl #[rfl,_,dz.of<|ju n],.ref a,U,a,C,dx,_,y,rfl,eZ,L.cl,L.n1,rfl,_,_,y,rfl,rfl,ju n,?_,GF n ?_]
  ·rw[<-wO g c];exact Qi z cT
  ·have u:RL.ae (RL.cq b ps qs++[d])=true:=xJ O.1 (by cases b;exact O.2.2;exact O.2.1);have t:=(iq (b:=b) g c).append (ab.cons j ab.nil)
   cases b with
   |true=>
    let#[g1,g2]:=Y.gP hi U R m ⟨O.1,u,O.2.2⟩ j t c;exact k _ _ g1 g2
   |false=>
    let#[g1,g2]:=Y.gP hi U R m ⟨O.1,O.2.1,u⟩ j g t;exact k _ _ g1 g2
 | _=>cases v
def Lj(T:gb X.K X.mg)(G:PE X (.Name x p) (bD i))(j:PE X (.Name x p2) (bD i))(hi:M.contains i=true)(hl:(apos.endLine == pos.line)=true):SS X cl M (.Assign [.Attribute (.Name x p) "now" p3] (.Call (.Attribute (.Attribute (.Name x p2) (pf b) p4) "pop" apos) [] [] pos) et) (.ppo b i):=by
 have QN:=jd (f := "now") (pos':=p3) (pos:=et) G (wQ PySem.F.plainAttrs_list PySem.F.slot_list_pop PySem.F.type_list_pop vD (qE (b:=b) (pos:=p4) j) rfl hl) rfl;intro ag s J H D I h;let#[B,o,r,Z,e,k]:=h;let#[l,Q,e]:=bind_some e;let#[q,A,P]:=map_some e;cases P
 cases l with
 |b0 d ps qs=>
  let#[V,g,rfl]:=map_some A;let#[a,C,dx,ap,af,y,xs,ys,Y,R,m,U,S,v,u]:=Z.b0 hi Q;have n:=gB I.b9 R;have L:=ij T R m;have c:=iq (b:=b) v u;let#[w,N,z]:=c.get g
  have O:RL.ae (RL.cq b ps qs)=true:=by cases b;exact U.2.2;exact U.2.1
  have E:a≠BC b ap af:=by cases b;exact Ne.symm n.n4;exact Ne.symm n.n3
  refine yC QN ag s J H D I ⟨a,C,dx,ap,af,y,xs,ys,R,?_⟩;unfold ID Ao;refine jX L Y ?_;refine#[.inl #[rfl,_,dz.of<|ju n],_,_,w,rfl,rfl,ju n,by rw[<-c.length];exact N,.ref a,Y,a,C,dx,_,rfl,by rw[aj E];exact eZ,L.cl,L.n1,by show(3:Nat)<1000;decide,Co n ?_];have t:=nJ O;have rd:=c.dropLast
  cases b with
  |true=>
   let#[g1,g2]:=Z.gP hi Y R m ⟨qp O g,t,U.2.2⟩ z rd u;exact k _ _ g1 g2
  |false=>
   let#[g1,g2]:=Z.gP hi Y R m ⟨qp O g,U.2.1,t⟩ z v rd;exact k _ _ g1 g2
 | _=>cases A
def IH{A B:List Stmt}{Z Y:RL.Ss}(T:gb X.K X.mg)(a:PE X (.Name x p) (bD i))(ha:nA X cl M A Z)(hb:nA X cl M B Y):SS X cl M (.If (.UnaryOp .Not (.Attribute (.Name x p) (pf b) p2) p3) A B pos) (.ifL b i Z Y):=by
 refine PS.weak (yR (BQ<|Nw T a) ha hb) λD J H h=>?_;let#[O,o,I,R,e,k]:=h;let#[t,c,U]:=bind_some e;refine#[O,t,R.hH,c,?_]
 cases t with
 | true=>exact gu ⟨O,o,I,R,U,k⟩
 | false=>exact gO ⟨O,o,I,R,U,k⟩
def B6{m:Str}{f:Nat}{es:List Expr}{O:RL.Es}{d:RL.D}(Mt:oY X cl f m [0])(hl:pw m=true)(g:PE X (.Name x p) (bD i))(j:PA X es (fU X.K cl O))(Z:cO O=es.length)(U:es.all noStar=true)(hn:es.length<30)(Y:(apos.endLine == pos.line)=true)(hi:M.contains i=true) :
  PE X (.Call (.Attribute (.Name x p) m apos) es [] pos) (λJ H Q=>∃ I R ds d outs,c8 X.K M I J H/\(((I[i]?).bind id).bind RL.jC≠none)/\RL.c0 cl I (.cons (.var i) O)=some ds/\RL.bF M [0] 0 (.cons (.var i) O) ds=true/\cl f ds=some (.tup<|d::outs)/\RL.bA [i] outs I=some R/\∀ v H',Rep nP X.K H' d v->d.ax=true->c8 X.K M R J H'->ek M J H J H'->Q v H'):=by
 refine PE.weak (Fl Mt hl g j (zd Z) U hn Y) λJ H Q h=>?_;let#[I,R,ds,d,outs,b,z,w,ok,u,t,k]:=h;let#[l,s]:=Option.ne_none_iff_exists'.mp z;let#[e,r,q]:=bind_some s
 cases e with
 |b0 A ps qs=>
  let#[a,C,dx,ap,af,y,xs,ys,c,o,n,_]:=b.b0 hi r;let#[v,g1,g2]:=uM b w ok u (by simp[cW,lB]) (by simpa using hi) (by simp) (by simp) t k;rw[c]at g1;cases g1;refine#[a,C,dx,ap,af,y,xs,ys,c,o,n,?_];simpa only[append_nil,if_neg (show ¬ ([0]:List Nat)=[] by decide)]using g2
 | _=>cases q
def KS{m:Str}{f:Nat}{es:List Expr}{I:RL.Es}(Mt:oY X cl f m [0])(hl:pw m=true)(n:PE X (.Name x p) (bD i))(q:PA X es (fU X.K cl I))(Z:cO I=es.length)(U:es.all noStar=true)(hn:es.length<30)(Y:(apos.endLine == pos.line)=true)(hi:M.contains i=true) :
  SS X cl M (.Expr (.Call (.Attribute (.Name x p) m apos) es [] pos) et) (.oD m f i I):=by
 refine PS.weak (gJ (B6 (d:=.cb) Mt hl n q Z U hn Y hi) rfl) λD J H h=>?_;let#[O,o,b,g,e,k]:=h;let#[l,y,e]:=bind_some e;let#[ds,w,e]:=bind_some e;let#[ok,e]:=vX e;let#[r,u,e]:=bind_some e
 cases r with
 |tup j=>
  cases j with
  | nil=>cases e
  |cons d outs=>
   let#[c,t,s]:=map_some e;cases s;exact#[O,_,ds,d,outs,g,by rw[y];exact λz=>(nomatch z),w,ok,u,t,λv H' _ _ R a=>k _ _ R a]
 | _=>cases e
def LM{m:Str}{f:Nat}{es:List Expr}{I:RL.Es}(Mt:oY X cl f m [0])(hl:pw m=true)(q:PE X (.Name x p) (bD i))(s:PA X es (fU X.K cl I))(Z:cO I=es.length)(U:es.all noStar=true)(hn:es.length<30)(Y:(apos.endLine == pos.line)=true)(hi:M.contains i=true) :
  SS X cl M (.Return (some<|.Call (.Attribute (.Name x p) m apos) es [] pos) et) (.zv m f i I):=by
 refine PS.weak (qr<|B6 (d:=.cb) Mt hl q s Z U hn Y hi) λD J H h=>?_;let#[O,o,b,g,e,k]:=h;let#[l,A,e]:=bind_some e;let#[ds,y,e]:=bind_some e;let#[ok,e]:=vX e;let#[r,w,e]:=bind_some e
 cases r with
 |tup j=>
  cases j with
  | nil=>cases e
  |cons d outs=>
   let#[c,u,t]:=map_some e;cases t;exact#[O,_,ds,d,outs,g,by rw[A];exact λz=>(nomatch z),y,ok,w,u,λv H' rp n R a=>k _ _ _ _ R a (aB.refl _) λP _=>rp.ax n]
 | _=>cases e
def Gh{st:Stmt}{i j:Nat}{a' c:RL.E}(h:PS X st (pe (Lu<|kI (tE X.K cl a')<|kI (tE X.K cl c) v9)<|gT X.K [i,j]))(hi:M.contains i=true)(U:M.count i<2)(g:M.contains j=true)(R:M.count j<2):SS X cl M st (.parC i j a' c):=by
 refine PS.weak h λD J H h=>?_;let#[I,o,Y,O,e,k]:=h;let#[x,w,e]:=bind_some e;let#[y,t,e]:=bind_some e;let#[ok,e]:=bO e;cases e;rw[and_eq_true,and_eq_true,and_eq_true]at ok
 have m:∀ {d:RL.D},RL.aG d=true->kZ d=true:=λ{d} q=>by
  cases d<;>first | rfl | cases q
 refine#[I,x,O.hH,w,λv z r1=>#[I,y,O.hH.same r1.same,t,λu H2 r2=>#[by show 2<=sizeLine;decide,λp f=>.inl #[p,[v,u],rfl,ed.of ao,rfl,iI rfl ?_]]]];have Z:aB H2 (upd H2 p<|.tup [v,u]):=aB.d8 f
 have o1:Own X.K z x v:=#[m ok.1.1,ok.1.1,r1.rep]
 have o2:Own X.K (upd H2 p<|.tup [v,u]) y u:=#[m ok.2.1,ok.2.1,r2.rep.same Z]
 let#[a,_,rfl,_,_]:=o1.ref;let#[b,_,rfl,_,_]:=o2.ref;let#[s,r]:=O.own r1.same hi U (r1.fresh ok.1.2 (m ok.1.1) a rfl) o1;let#[n,l]:=s.own (r2.same.trans Z) g R (r2.fresh ok.2.2 (m ok.2.1) b rfl) o2;exact k _ _ n<|r.trans l
end
def nos{α:Type}{P:Prop}{x:α}(h:(none:Option α)=some x):P:=by cases h
def aw{α:Type}{o:Option α}{f:α->Bool}(h:o.any f=true):∃ x,o=some x/\f x=true:=by
 cases o with
 | none=>cases h
 | some x=>exact#[x,rfl,h]
def aQ{a b:Bool}(h:(a&&b)=true):a=true/\b=true:=by rw[and_eq_true]at h;exact h
abbrev vw{α:Type}{n:Nat}(k:Nat)(f:n=k->α):Option α:=if z:n=k then some (f z)else none
def cG{α:Type}{n k:Nat}{f:n=k->α}{x:α}(h:vw k f=some x):∃ (_:n=k) (z:n=k),f z=x:=by
 unfold vw at h;split at h
 ·rename_i z;cases h;exact#[z,z,rfl]
 ·cases h
abbrev fG(e:Expr):Option Str:=vw 23 λz=>Expr.Name.elim e z λx _=>x
def du{e:Expr}{x:Str}(h:fG e=some x):∃ p,e=.Name x p:=by
 let#[y,z,h]:=cG h
 revert z
 exact Expr.Name.elim e y λ_ _ _ h=>by cases h;exact#[_,rfl]
abbrev L8(e:Expr):Option Const:=vw 19 λz=>Expr.Constant.elim e z λk _ _=>k
def Gi{e:Expr}{k:Const}(h:L8 e=some k):∃ j p,e=.Constant k j p:=by
 let#[y,z,h]:=cG h
 revert z
 exact Expr.Constant.elim e y λ_ _ _ _ h=>by cases h;exact#[_,_,rfl]
abbrev DX(e:Expr):Option (Expr × Operator × Expr):=vw 2 λz=>Expr.BinOp.elim e z λl o r _=>(l,o,r)
def GD{e:Expr}{l r:Expr}{o:Operator}(h:DX e=some (l,o,r)):∃ p,e=.BinOp l o r p:=by
 let#[y,z,h]:=cG h
 revert z
 exact Expr.BinOp.elim e y λ_ _ _ _ _ h=>by cases h;exact#[_,rfl]
abbrev vUn(e:Expr):Option (UnaryOp × Expr):=vw 3 λz=>Expr.UnaryOp.elim e z λo x _=>(o,x)
def qz{e x:Expr}{o:UnaryOp}(h:vUn e=some (o,x)):∃ p,e=.UnaryOp o x p:=by
 let#[y,z,h]:=cG h
 revert z
 exact Expr.UnaryOp.elim e y λ_ _ _ _ h=>by cases h;exact#[_,rfl]
abbrev rB(e:Expr):Option (Expr × List CmpOp × List Expr):=vw 15 λz=>Expr.Compare.elim e z λl o r _=>(l,o,r)
def jP{e l:Expr}{r:List Expr}{o:List CmpOp}(h:rB e=some (l,o,r)):∃ p,e=.Compare l o r p:=by
 let#[y,z,h]:=cG h
 revert z
 exact Expr.Compare.elim e y λ_ _ _ _ _ h=>by cases h;exact#[_,rfl]
abbrev vBool(e:Expr):Option (BoolOp × List Expr × Pos):=vw 0 λz=>Expr.BoolOp.elim e z λo es p=>(o,es,p)
def lI{e:Expr}{es:List Expr}{o:BoolOp}{p:Pos}(h:vBool e=some (o,es,p)):e=.BoolOp o es p:=by
 let#[y,z,h]:=cG h
 revert z
 exact Expr.BoolOp.elim e y λ_ _ _ _ h=>by cases h;exact rfl
abbrev K9(e:Expr):Option (Expr × Expr × Expr):=vw 5 λz=>Expr.IfExp.elim e z λc a b _=>(c,a,b)
def Gg{e a b c:Expr}(h:K9 e=some (c,a,b)):∃ p,e=.IfExp c a b p:=by
 let#[y,z,h]:=cG h
 revert z
 exact Expr.IfExp.elim e y λ_ _ _ _ _ h=>by cases h;exact#[_,rfl]
abbrev jI(e:Expr):Option (List Expr):=vw 25 λz=>Expr.Tuple.elim e z λes _ _=>es
def fJ{e:Expr}{es:List Expr}(h:jI e=some es):∃ k p,e=.Tuple es k p:=by
 let#[y,z,h]:=cG h
 revert z
 exact Expr.Tuple.elim e y λ_ _ _ _ h=>by cases h;exact#[_,_,rfl]
abbrev DV(e:Expr):Option (List Expr):=vw 24 λz=>Expr.List.elim e z λes _=>es
def G5{e:Expr}{es:List Expr}(h:DV e=some es):∃ p,e=.List es p:=by
 let#[y,z,h]:=cG h
 revert z
 exact Expr.List.elim e y λ_ _ _ h=>by cases h;exact#[_,rfl]
abbrev kN(e:Expr):Option (Expr × Expr):=vw 21 λz=>Expr.Subscript.elim e z λa b _=>(a,b)
def gj{e a b:Expr}(h:kN e=some (a,b)):∃ p,e=.Subscript a b p:=by
 let#[y,z,h]:=cG h
 revert z
 exact Expr.Subscript.elim e y λ_ _ _ _ h=>by cases h;exact#[_,rfl]
abbrev vSl(e:Expr):Option (Option Expr × Option Expr × Option Expr):=vw 26 λz=>Expr.Slice.elim e z λa b c _=>(a,b,c)
def qu{e:Expr}{a b c:Option Expr}(h:vSl e=some (a,b,c)):∃ p,e=.Slice a b c p:=by
 let#[y,z,h]:=cG h
 revert z
 exact Expr.Slice.elim e y λ_ _ _ _ _ h=>by cases h;exact#[_,rfl]
abbrev eh(e:Expr):Option (Expr × List Expr × List Keyword × Pos):=vw 16 λz=>Expr.Call.elim e z λf I ks p=>(f,I,ks,p)
def dk{e f:Expr}{I:List Expr}{ks:List Keyword}{p:Pos}(h:eh e=some (f,I,ks,p)):e=.Call f I ks p:=by
 let#[y,z,h]:=cG h
 revert z
 exact Expr.Call.elim e y λ_ _ _ _ _ h=>by cases h;exact rfl
abbrev kU(e:Expr):Option (Expr × Str × Pos):=vw 20 λz=>Expr.Attribute.elim e z λo x p=>(o,x,p)
def gK{e o:Expr}{x:Str}{p:Pos}(h:kU e=some (o,x,p)):e=.Attribute o x p:=by
 let#[y,z,h]:=cG h
 revert z
 exact Expr.Attribute.elim e y λ_ _ _ _ h=>by cases h;exact rfl
abbrev yM(e:Expr):Option (Expr × List Comprehension × Scope × Pos):=vw 8 λz=>Expr.ListComp.elim e z λe gs sc p=>(e,gs,sc,p)
def vN{e x:Expr}{gs:List Comprehension}{sc:Scope}{p:Pos}(h:yM e=some (x,gs,sc,p)):e=.ListComp x gs sc p:=by
 let#[y,z,h]:=cG h
 revert z
 exact Expr.ListComp.elim e y λ_ _ _ _ _ h=>by cases h;exact rfl
abbrev Fp(e:Expr):Option Expr:=vw 22 λz=>Expr.Starred.elim e z λe _=>e
def DL{e x:Expr}(h:Fp e=some x):∃ p,e=.Starred x p:=by
 let#[y,z,h]:=cG h
 revert z
 exact Expr.Starred.elim e y λ_ _ _ h=>by cases h;exact#[_,rfl]
abbrev ej{α:Type}(xs:List α)(f:α->Bool):Bool:=match xs with
 | [a]=>f a
 | _=>false
abbrev of2{α:Type}(xs:List α)(f:α->α->Bool):Bool:=match xs with
 | [a,b]=>f a b
 | _=>false
abbrev OU{α:Type}(xs:List α)(f:α->α->α->Bool):Bool:=match xs with
 | [a,b,c]=>f a b c
 | _=>false
def aU{α:Type}:∀ {xs:List α} {f:α->Bool},ej xs f=true->∃ a,xs=[a]/\f a=true
 | [a],_,h=>#[a,rfl,h]
def fT{α:Type}:∀ {xs:List α} {f:α->α->Bool},of2 xs f=true->∃ a b,xs=[a,b]/\f a b=true
 | [a,b],_,h=>#[a,b,rfl,h]
def pW{α:Type}:∀ {xs:List α} {f:α->α->α->Bool},OU xs f=true->∃ a b c,xs=[a,b,c]/\f a b c=true
 | [a,b,c],_,h=>#[a,b,c,rfl,h]
abbrev ofM{α:Type}(xs:List α)(f:α->α->List α->Bool):Bool:=match xs with
 | a::b::r=>f a b r
 | _=>false
def pC{α:Type}:∀ {xs:List α} {f:α->α->List α->Bool},ofM xs f=true->∃ a b r,xs=a::b::r/\f a b r=true
 | a::b::r,_,h=>#[a,b,r,rfl,h]
abbrev gI(e:Stmt):Option (List Expr × Expr):=vw 5 λz=>Stmt.Assign.elim e z λI e _=>(I,e)
def dA{st:Stmt}{I:List Expr}{e:Expr}(h:gI st=some (I,e)):∃ p,st=.Assign I e p:=by
 let#[y,z,h]:=cG h
 revert z
 exact Stmt.Assign.elim st y λ_ _ _ _ h=>by cases h;exact#[_,rfl]
abbrev CD(e:Stmt):Option (Expr × Operator × Expr):=vw 7 λz=>Stmt.AugAssign.elim e z λt o e _=>(t,o,e)
def xx{st:Stmt}{t e:Expr}{o:Operator}(h:CD st=some (t,o,e)):∃ p,st=.AugAssign t o e p:=by
 let#[y,z,h]:=cG h
 revert z
 exact Stmt.AugAssign.elim st y λ_ _ _ _ _ h=>by cases h;exact#[_,rfl]
abbrev pd(e:Stmt):Option Expr:=vw 24 λz=>Stmt.Expr.elim e z λe _=>e
def iX{st:Stmt}{e:Expr}(h:pd st=some e):∃ p,st=.Expr e p:=by
 let#[y,z,h]:=cG h
 revert z
 exact Stmt.Expr.elim st y λ_ _ _ h=>by cases h;exact#[_,rfl]
abbrev wIf(e:Stmt):Option (Expr × List Stmt × List Stmt):=vw 12 λz=>Stmt.If.elim e z λc a b _=>(c,a,b)
def wN{st:Stmt}{c:Expr}{a b:List Stmt}(h:wIf st=some (c,a,b)):∃ p,st=.If c a b p:=by
 let#[y,z,h]:=cG h
 revert z
 exact Stmt.If.elim st y λ_ _ _ _ _ h=>by cases h;exact#[_,rfl]
abbrev KO(e:Stmt):Option (Expr × Expr × List Stmt × List Stmt):=vw 9 λz=>Stmt.For.elim e z λt i b o _=>(t,i,b,o)
def Hf{st:Stmt}{t i:Expr}{b o:List Stmt}(h:KO st=some (t,i,b,o)):∃ p,st=.For t i b o p:=by
 let#[y,z,h]:=cG h
 revert z
 exact Stmt.For.elim st y λ_ _ _ _ _ _ h=>by cases h;exact#[_,rfl]
abbrev JA(e:Stmt):Option (Expr × List Stmt × List Stmt):=vw 11 λz=>Stmt.While.elim e z λc b o _=>(c,b,o)
def GP{st:Stmt}{c:Expr}{b o:List Stmt}(h:JA st=some (c,b,o)):∃ p,st=.While c b o p:=by
 let#[y,z,h]:=cG h
 revert z
 exact Stmt.While.elim st y λ_ _ _ _ _ h=>by cases h;exact#[_,rfl]
abbrev Ah(e:Stmt):Option (Option Expr):=vw 3 λz=>Stmt.Return.elim e z λe _=>e
def sG{st:Stmt}{e:Option Expr}(h:Ah st=some e):∃ p,st=.Return e p:=by
 let#[y,z,h]:=cG h
 revert z
 exact Stmt.Return.elim st y λ_ _ _ h=>by cases h;exact#[_,rfl]
def a3{O c1 I:Bool}{P:Prop}(h:(O&&c1&&I)=true)(k:O=true->c1=true->I=true->P):P:=k (aQ (aQ h).1).1 (aQ (aQ h).1).2 (aQ h).2
def a4{R c1 O I:Bool}{P:Prop}(h:(R&&c1&&O&&I)=true)(k:R=true->c1=true->O=true->I=true->P):P:=a3 (aQ h).1 λZ Y U=>k Z Y U (aQ h).2
def a5{U c1 R O I:Bool}{P:Prop}(h:(U&&c1&&R&&O&&I)=true)(k:U=true->c1=true->R=true->O=true->I=true->P):P:=a4 (aQ h).1 λb a Z Y=>k b a Z Y (aQ h).2
def a6{Y c1 U R O I:Bool}{P:Prop}(h:(Y&&c1&&U&&R&&O&&I)=true)(k:Y=true->c1=true->U=true->R=true->O=true->I=true->P):P:=a5 (aQ h).1 λd c b a Z=>k d c b a Z (aQ h).2
def a7{Z c1 Y U R O I:Bool}{P:Prop}(h:(Z&&c1&&Y&&U&&R&&O&&I)=true)(k:Z=true->c1=true->Y=true->U=true->R=true->O=true->I=true->P):P:=a6 (aQ h).1 λf e d c b a=>k f e d c b a (aQ h).2
def a8{a c1 Z Y U R O I:Bool}{P:Prop}(h:(a&&c1&&Z&&Y&&U&&R&&O&&I)=true)(k:a=true->c1=true->Z=true->Y=true->U=true->R=true->O=true->I=true->P):P:=a7 (aQ h).1 λi g f e d c b=>k i g f e d c b (aQ h).2
def a9{b c1 a Z Y U R O I:Bool}{P:Prop}(h:(b&&c1&&a&&Z&&Y&&U&&R&&O&&I)=true)(k:b=true->c1=true->a=true->Z=true->Y=true->U=true->R=true->O=true->I=true->P):P:=a8 (aQ h).1 λl j i g f e d c=>k l j i g f e d c (aQ h).2
structure CC where
 N:List Str
 sc:Scope
 B:List Str
 G:List (Str × Int)
 F:List (Str × List Nat)
 W:List (Str × List (Str × Nat))
 L:Bool:=false
 Mt:List (Nat × Str × List Nat):=[]
abbrev LG(scope sc:Scope):Scope:={ scope with names:=scope.names.map λ(n,k)=>if(k == NameKind.free&&sc.kind == .function&&sc.names.lookup n == some .cell)then(n,NameKind.cell)else(n,k) }
abbrev CC.inner(C:CC)(scope:Scope):CC:={ C with sc:=LG scope C.sc }
abbrev jN(x:Str):Bool:=!(x == ("__debug__" : Str)) && !(x == ("__classdict__" : Str))
abbrev CL(C:CC)(x:Str):Bool:=C.sc.names.lookup x == some .local || C.sc.names.lookup x == some .cell
abbrev DR(C:CC)(x:Str):Bool:=C.sc.names.lookup x == some .local || C.sc.names.lookup x == some .cell || C.sc.names.lookup x == some .free
abbrev ri(C:CC)(x:Str):Bool:=C.sc.names.lookup x == some .globalImplicit&&jN x
abbrev wU(C:CC)(x:Str):Bool:=ri C x&&C.B.contains x
abbrev nmB(C:CC)(i:Nat)(x:Str):Bool:=C.N[i]? == some x&&jN x
structure XOk(C:CC)(X:Cx)(cl:RL.Cl):Prop where
 scope:X.env.scope=C.sc
 names:X.N=C.N
 nd:C.N.Nodup
 calm:X.calm=true
 xe:X.xe=λ_ _=>False
 hu:X.A.units+100<cLine
 blt:∀ x∈C.B,X.mg x=none
 lp:∀ x i,C.G.lookup x=some i->∃ u,X.mg x=some u/\RelV (.int i) u
 fns:∀ (f:Nat) (x:Str) (mp:List Nat),C.F[f]?=some (x,mp)->∃ k fa fd ps,dt X.prog X.w X.K X.mg X.base ml k fa fd ps (if mp=[]then ru X.K cl f else wd X.K cl mp f)/\bS k X.A/\X.mg x=some (.ref fa)/\W.keepIn X.K (.ref fa)=true/\Binds X.K fd ps []
 OW:∀ x eH,C.W.lookup x=some eH->∃ d bx,X.mg x=some (.ref d)/\GDc X d bx/\bx.map (·.1)=eH.map (·.1)/\∀ y m,RL.jt eH (.str y)=some m->∃ q nm,(bx.find? λq=>decide<|q.1=y)=some q/\C.F[m]?=some (nm,[])/\X.mg nm=some (.ref q.2)
 b0:C.L=true->gb X.K X.mg/\bS 2 X.A
 D1:∀ (f:Nat) (m:Str) (mp:List Nat),C.Mt.contains (f,m,mp)=true->oY X cl f m mp
 mkl:∀ f:Nat,C.L=true->C.F[f]?=some (("check_pegs" : Str),[])->∃ k D fI fd,LfK X.K X.mg D fI fd/\dt X.prog X.w X.K X.mg X.base ml k fI fd ["self", "pegs"] (D4 X.K cl f D)/\bS (k+1) X.A
section
variable{C:CC}{X:Cx}{cl:RL.Cl}{e:Expr}
def XOk.x7(h:XOk C X cl){x:Str}(v:DR C x=true):vl X.env.scope x:=by
 unfold DR at v;rw[<-h.scope,or_eq_true,or_eq_true,beq_iff_eq,beq_iff_eq,beq_iff_eq]at v;rcases v with(v | v) | v
 ·exact .inl v
 ·exact .inr<|.inl v
 ·exact .inr<|.inr v
def XOk.loc(h:XOk C X cl){x:Str}(v:CL C x=true):Loc X.env.scope x:=by
 unfold CL at v;rw[<-h.scope,or_eq_true,beq_iff_eq,beq_iff_eq]at v;exact v
def eD{x:Str}(h:jN x=true):(x == ("__debug__" : Str))=false/\(x == ("__classdict__" : Str))=false:=by
 unfold jN at h;rw[and_eq_true,Bool.not_eq_true',Bool.not_eq_true']at h;exact h
def XOk.gl(h:XOk C X cl){x:Str}(v:ri C x=true):Gl X x/\jN x=true:=by
 unfold ri at v;rw[<-h.scope,and_eq_true,beq_iff_eq]at v;exact v
def XOk.bl(h:XOk C X cl){x:Str}(v:wU C x=true):Gl X x/\X.mg x=none:=by
 unfold wU at v;rw[and_eq_true]at v;exact#[(h.gl v.1).1,h.blt x<|by simpa using v.2]
def XOk.nm(h:XOk C X cl){i:Nat}{x:Str}(v:nmB C i x=true):X.N[i]?=some x/\jN x=true:=by
 unfold nmB at v;rw[<-h.names,and_eq_true,beq_iff_eq]at v;exact v
def XOk.qx(h:XOk C X cl):X.N.Nodup:=by rw[h.names];exact h.nd
def XOk.ey(h:XOk C X cl){scope:Scope}(cls:List (Str × Addr))(I:Addr)(fp:List Addr)(s:Shared)(H:Hp):XOk (C.inner scope) (L2.ey X scope cls I fp s H) cl where
 scope:=by
  show relabel scope X.env=LG scope C.sc;rw[<-h.scope];rfl
 names:=h.names
 nd:=h.nd
 calm:=h.calm
 xe:=rfl
 hu:=h.hu
 blt:=h.blt
 lp:=h.lp
 fns:=h.fns
 OW:=h.OW
 b0:=h.b0
 D1:=h.D1
 mkl:=h.mkl
abbrev yW:RL.D->Const->Bool
 | .int i,.int j=>i == j
 | .bl i,.bool j=>i == j
 | .cb,.none=>true
 | .str x,.str y=>x == y
 | _,_=>false
abbrev plainT:Expr->Bool
 | .UnaryOp .Not _ _=>false
 | .BoolOp _ _ _=>false
 | .IfExp _ _ _ _=>false
 | .Compare _ _ _ _=>false
 | _=>true
abbrev uA:Expr->Bool
 | .BoolOp _ _ _=>true
 | _=>false
abbrev qI:Expr->Bool
 | .Set _ _ _=>false
 | _=>true
abbrev Aj:RL.Bi->Option Str
 | .len=>some "len"
 | .list=>some "list"
 | .tuple=>some "tuple"
 | .all=>some "all"
 | .sortedS=>some "sorted"
abbrev wb:RL.Ty->Str
 | .int => "int"
 | .bool => "bool"
 | .list => "list"
 | .tuple => "tuple"
 | .str => "str"
abbrev Ko(neg:Bool):CmpOp:=if neg then .NotIn else .In
abbrev gZ(C:CC)(i:Nat)(e:Expr):Bool:=(fG e).any λx=>nmB C i x&&DR C x
abbrev fV(C:CC)(i:Nat)(e:Expr):Bool:=(fG e).any λx=>nmB C i x&&CL C x
abbrev kC(C:CC):List Nat->List Expr->Bool
 | [],es=>es.isEmpty
 | i::is,es=>match es with
  | e::es=>fV C i e&&kC C is es
  | []=>false
abbrev rh(C:CC)(tg:List Nat)(e:Expr):Bool :=
 match tg with
 | [i]=>fV C i e
 | tg=>(jI e).any λes=>kC C tg es
abbrev pL(C:CC)(scope:Scope)(tg:List Nat):Bool:=tg.all λi=>match C.N[i]? with
 | some x=>scope.names.lookup x == some .local || scope.names.lookup x == some .cell
 | none=>false
abbrev pU(C:CC)(scope:Scope)(tg:List Nat):Bool:=(List.range C.N.length).all λi=>match C.N[i]? with
 | some x=>!(scope.names.lookup x == some .local || scope.names.lookup x == some .cell) || tg.contains i
 | none=>true
abbrev scB(scope sc:Scope):Bool:=scope.kind == .function&&scope.names.all (λx=>(!(x.2 == .cell) || scope.names.lookup x.1 == some .cell)&&(!(x.2 == .local) || scope.names.lookup x.1 == some .local)&&(!(x.2 == .free) || sc.names.lookup x.1 == some .cell || sc.names.lookup x.1 == some .free))
abbrev br(C:CC)(e:Expr)(nm:Str)(f:List Expr->Bool):Bool:=(eh e).any λq=>(fG q.1).any (λx=>x == nm&&wU C x)&&q.2.2.1.isEmpty&&q.2.1.all noStar&&f q.2.1
def bR{nm:Str}{f:List Expr->Bool}(h:XOk C X cl)(z:br C e nm f=true):∃ p O I,e=.Call (.Name nm p) O [] I/\Gl X nm/\X.mg nm=none/\O.all noStar=true/\f O=true:=by
 unfold br at z;let#[#[g,O,ks,I],b,z]:=aw z;have i:=dk b;subst i;refine a4 z λR U a Z=>?_;let#[x,d,R]:=aw R;let#[p,rfl]:=du d;let#[Y,c]:=aQ R;rw[beq_iff_eq]at Y;subst Y;let#[k,j]:=h.bl c;rw[Qs]at U;subst U;exact#[p,O,I,rfl,k,j,a,Z]
abbrev gr(C:CC)(i:Nat)(nm:Str)(e:Expr):Bool:=(kU e).any λq=>q.2.1 == nm&&gZ C i q.1
abbrev CB(C:CC)(i:Nat)(m:Str)(e:Expr)(k:List Expr->Bool):Bool:=(eh e).any λq=>(kU q.1).any (λu=>gZ C i u.1&&u.2.1 == m&&u.2.2.endLine == q.2.2.2.line)&&q.2.2.1.isEmpty&&decide (q.2.1.length<30)&&k q.2.1
def all1{a:Expr}(h:[a].all noStar=true):noStar a=true:=by simpa using h
def all2{a b:Expr}(h:[a,b].all noStar=true):noStar a=true/\noStar b=true:=by simpa using h
def oy{a b c:Expr}(h:[a,b,c].all noStar=true):noStar a=true/\noStar b=true/\noStar c=true:=by simpa using h
end
mutual
noncomputable def b8(C:CC)(t:Bool):RL.E->Expr->Bool
 | .var i=>λe=>gZ C i e
 | .cst d=>λe=>(L8 e).any λk=>yW d k
 | .lp y i=>λe=>(fG e).any λx=>x == y&&ri C x&&C.G.lookup x == some i
 | .bin o a b=>λe=>(DX e).any λq=>q.2.1 == wA o&&b8 C false a q.1&&b8 C false b q.2.2
 | .neg a=>λe=>(vUn e).any λq=>q.1 == .USub&&b8 C false a q.2
 | .cmp c a b=>λe=>(rB e).any λq=>ej q.2.1 λI=>ej q.2.2 λr=>I == fN c&&b8 C false a q.1&&b8 C false b r
 | .chain c c' a b d=>λe=>(rB e).any λq=>of2 q.2.1 λI O=>of2 q.2.2 λr s=>I == fN c&&O == fN c'&&b8 C false a q.1&&b8 C false b r&&b8 C false d s
 | .o4 neg a b=>λe=>(rB e).any λq=>ej q.2.1 λI=>ej q.2.2 λr=>I == Ko neg&&oE r&&b8 C false a q.1&&b8 C false b r
 | .inD neg a b=>λe=>(rB e).any λq=>ej q.2.1 λI=>ej q.2.2 λr=>I == Ko neg&&oE r&&b8 C false a q.1&&b8 C false b r
 | .and a b=>λe=>(vBool e).any λq=>ofM q.2.1 λl r rest=>q.1 == .And&&b8 C t a l&&(if rest.isEmpty then b8 C t b r else b8 C t b (.BoolOp .And (r::rest) q.2.2))
 | .or a b=>λe=>(vBool e).any λq=>ofM q.2.1 λl r rest=>q.1 == .Or&&b8 C t a l&&(if rest.isEmpty then b8 C t b r else b8 C t b (.BoolOp .Or (r::rest) q.2.2))
 | .not a=>λe=>(vUn e).any λq=>q.1 == .Not&&b8 C t a q.2
 | .nk c a b=>λe=>(K9 e).any λq=>!t&&b8 C true c q.1&&b8 C false a q.2.1&&b8 C false b q.2.2
 | .tup es=>λe=>(jI e).any λxs=>k5 C es xs&&decide (cO es<=1000)
 | .lst es=>λe=>(DV e).any λxs=>k5 C es xs&&decide (cO es<=1000)
 | .ix a b=>λe=>(kN e).any λq=>lU q.2&&b8 C false a q.1&&b8 C false b q.2
 | .su a b=>λe=>(kN e).any λq=>lU q.2&&b8 C false a q.1&&b8 C false b q.2
 | .mS a b=>λe=>(kN e).any λq=>b8 C false a q.1&&(vSl q.2).any λs=>s.1.isNone&&s.2.2.isNone&&s.2.1.any λr=>b8 C false b r
 | .ry a b=>λe=>(kN e).any λq=>b8 C false a q.1&&(vSl q.2).any λs=>s.2.1.isNone&&s.2.2.isNone&&s.1.any λr=>b8 C false b r
 | .rev a=>λe=>(kN e).any λq=>b8 C false a q.1&&(vSl q.2).any λs=>s.1.isNone&&s.2.1.isNone&&s.2.2.any λr=>gE (-1) r
 | .call f es=>λe=>(eh e).any λq=>(fG q.1).any (λx=>ri C x&&C.F[f]? == some (x,[]))&&q.2.2.1.isEmpty && !q.2.1.isEmpty&&k5 C es q.2.1
 | .bi b a=>λe=>match b with
  | b=>(Aj b).any λx=>br C e x λys=>ej ys λy=>b8 C false a y
 | .ra a ty=>λe=>br C e "isinstance" λys=>of2 ys λy z=>(fG z).any (λx=>x == wb ty&&wU C x)&&b8 C false a y
 | .dd a=>λe=>br C e "list" λys=>ej ys λy=>br C y "range" λzs=>ej zs λz=>b8 C false a z
 | .ez a b=>λe=>br C e "list" λys=>ej ys λy=>br C y "range" λzs=>of2 zs λz u=>b8 C false a z&&b8 C false b u
 | .hI c a b=>λe=>br C e "list" λys=>ej ys λy=>br C y "range" λzs=>OU zs λz u q=>gE c q&&b8 C false a z&&b8 C false b u
 | .comp d tg it c=>λe=>(yM e).any λq=>ej q.2.1 λg=>ej g.ifs λw=>g.is_async == 0&&scB q.2.2.1 C.sc&&pU C q.2.2.1 tg&&qI g.iter&&rh (C.inner q.2.2.1) tg g.target&&pL C q.2.2.1 tg&&zi C it g.target g.iter&&b8 (C.inner q.2.2.1) false d q.1&&b8 (C.inner q.2.2.1) true c w
 | .cn d tg it=>λe=>(yM e).any λq=>ej q.2.1 λg=>g.ifs.isEmpty&&g.is_async == 0&&scB q.2.2.1 C.sc&&pU C q.2.2.1 tg&&qI g.iter&&rh (C.inner q.2.2.1) tg g.target&&pL C q.2.2.1 tg&&zi C it g.target g.iter&&b8 (C.inner q.2.2.1) false d q.1
 | .cy a=>λe=>((DV e).isSome || (DX e).isSome || (eh e).isSome)&&b8 C false a e
 | .D2 a=>λe=>br C e "list" λys=>ej ys λy=>b8 C false a y
 | .wh a b c=>λe=>(kN e).any λq=>b8 C false a q.1&&(vSl q.2).any λs=>s.2.2.isNone&&s.1.any (λr=>b8 C false b r)&&s.2.1.any λr=>b8 C false c r
 | .hC k a=>λe=>(kU e).any λq=>C.L&&(lP[k]? == some q.2.1&&(eh q.1).isNone&&b8 C false a q.1)
 | .lo k i=>λe=>match k with
  | .now=>gr C i "now" e&&C.L
  | .len b=>br C e "len" (λys=>ej ys λy=>gr C i (pf b) y)&&C.L
  | .lst b=>br C e "list" (λys=>ej ys λy=>gr C i (pf b) y)&&C.L
 | .zw a b c=>λe=>(eh e).any λq=>C.L&&((fG q.1).any (λx=>x == ("Holding" : Str)&&ri C x)&&q.2.2.1.isEmpty&&OU q.2.1 λx y z=>noStar x&&noStar y&&noStar z&&b8 C false a x&&b8 C false b y&&b8 C false c z)
 | .sd f a=>λe=>(eh e).any λq=>C.L&&C.F[f]? == some (("check_pegs" : Str),[])&&((fG q.1).any (λx=>x == ("Loft" : Str)&&ri C x)&&q.2.2.1.isEmpty&&ej q.2.1 λy=>noStar y&&b8 C false a y)
 | .x6 a=>λe=>br C e "dict" λys=>ej ys λy=>b8 C false a y
 | .met m f i es=>λe=>CB C i m e (λys=>k5 C es ys)&&(C.Mt.contains (f,m,[])&&pw m)
noncomputable def k5(C:CC):RL.Es->List Expr->Bool
 | .nil=>λxs=>xs.isEmpty
 | .cons e es=>λxs=>match xs with
  | x::xs=>noStar x&&b8 C false e x&&k5 C es xs
  | []=>false
noncomputable def zi(C:CC):RL.It->Expr->Expr->Bool
 | .seq a=>λ_ e=>b8 C false a e
 | .dd a=>λ_ e=>br C e "range" λys=>ej ys λy=>b8 C false a y
 | .ez a b=>λ_ e=>br C e "range" λys=>of2 ys λy z=>b8 C false a y&&b8 C false b z
 | .hI c a b=>λ_ e=>br C e "range" λys=>OU ys λy z q=>gE c q&&b8 C false a y&&b8 C false b z
 | .chr a=>λ_ e=>b8 C false a e
 | .tm a=>λtg e=>(jI tg).isSome&&br C e "enumerate" λys=>ej ys λy=>b8 C false a y
end
abbrev yT(X:Cx)(cl:RL.Cl)(e:Expr)(e':RL.E)(b I:Bool):Prop:=(b=true->SE X cl e e')/\(I=true->ST X cl e e'/\(uA e=true->SW X cl e e'))
section
variable{C:CC}{X:Cx}{cl:RL.Cl}{e:Expr}{e':RL.E}{b:Bool}
def Al{env:Env}(h:plainT e=true)(whole:Sem Value):isTrue e env whole=(do let v <- whole;standAt e.pos;holding [v]<|truthy v):=by
 cases e<;>first
  | rfl
  | (cases h;done)
  | (rename_i I _ _;cases I<;>first | rfl | (cases h;done))
def aN(h:b=true->SE X cl e e'/\plainT e=true):yT X cl e e' b b :=
 ⟨λz=>(h z).1,λz=>⟨DG (h z).1<|Al (h z).2,λq=>by
  have:=(h z).2
  cases e<;>first | (cases q;done) | (cases this;done)⟩⟩
def lh(h:b=true->SE X cl e e'/\ST X cl e e'/\uA e=false):yT X cl e e' b b :=
 ⟨λz=>(h z).1,λz=>⟨(h z).2.1,λq=>by rw[(h z).2.2]at q;cases q⟩⟩
def Ji{d:RL.D}{k:Const}{j:Nat}{I:Pos}(h:yW d k=true):SE X cl (.Constant k j I) (.cst d):=by
 cases d<;>cases k<;>simp only[yW]at h<;>first | (cases h;done) | skip
 case cb.none=>exact pZ Ig (λP H=>by rw[Rep]) rfl
 case bl.bool i j=>rw[beq_iff_eq]at h;subst h;exact pZ NC (λP H=>wW) rfl
 case int.int i j=>rw[beq_iff_eq]at h;subst h;exact pZ uS (λP H=>bC) rfl
 case str.str i j=>rw[beq_iff_eq]at h;subst h;exact pZ IX (λP H=>gn) rfl
def Ay(t:RL.Ty):bootBuiltins (wb t)=some (.type<|tyN t)/\wb t ≠ "__name__" /\ (wb t == ("__debug__" : Str))=false:=by
 cases t<;>exact#[by decide +kernel,by decide +kernel,by decide +kernel]
def ic(h:qI e=true)(env:Env)(x:Value):foldedSetIterable e env x=pure x:=by
 cases e<;>first | rfl | (cases h;done)
def MA(R:X.calm=true){o:RL.Bi}{x:Str}{p U:Pos}{y:Expr}{a':RL.E}(O:Aj o=some x)(hb:Gl X x)(I:X.mg x=none)(ha:SE X cl y a')(hn:noStar y=true):SE X cl (.Call (.Name x p) [y] [] U) (.bi o a'):=by
 cases o<;>simp only[Aj]at O<;>first | (cases O;done) | skip
 case len=>cases O;exact Lv hb I ha hn
 case list=>cases O;exact GH hb I ha hn
 case tuple=>cases O;exact De hb I ha hn
 case all=>cases O;exact IK R hb I ha hn
 case sortedS=>cases O;exact ze hb I ha hn
def t5{r:Expr}(h:lU r=true):rQ r:=by
 cases r<;>first | (cases h;done) | (intro a b;rfl) | skip
def dO{i:Nat}(h:XOk C X cl)(z:gZ C i e=true):∃ x p,e=.Name x p/\X.N[i]?=some x/\vl X.env.scope x/\(x == ("__debug__" : Str))=false/\(x == ("__classdict__" : Str))=false:=by
 let#[x,R,z]:=aw z;let#[p,rfl]:=du R;let#[O,I]:=aQ z;let#[g1,g2]:=h.nm O;exact#[x,p,rfl,g1,h.x7 I,(eD g2).1,(eD g2).2]
def fA{i:Nat}(h:XOk C X cl)(z:fV C i e=true):∃ x p,e=.Name x p/\X.N[i]?=some x/\Loc X.env.scope x:=by
 let#[x,R,z]:=aw z;let#[p,rfl]:=du R;let#[O,I]:=aQ z;exact#[x,p,rfl,(h.nm O).1,h.loc I]
def nC(h:XOk C X cl){T:List Nat}(I:∀ i x,i∈T->X.N[i]?=some x->X.fn x=true\/X.env.scope.names.lookup x=some .local):∀ {is:List Nat} {es:List Expr},(∀ i∈is,i∈T)->kC C is es=true->PGs X es (gs is)/\(assignEach es X.env).length=is.length/\(assignEach es X.env).findIdx? (·.1)=none
 | [],es,_,z=>by
  rw[kC,Qs]at z;subst z;exact#[HH,rfl,rfl]
 | i::is,[],_,z=>by cases z
 | i::is,e::es,hs,z=>by
  rw[kC]at z;let#[R,O]:=aQ z;let#[x,p,rfl,g1,g2]:=fA h R;let#[a,Z,Y]:=nC h I (λj U=>hs j<|Qm _ U) O;refine#[DI (nF h.qx g1 g2<|I i x (hs i Qq) g1) a rfl,?_,?_]
  ·show(assignEach es X.env).length+1=is.length+1;rw[Z]
  ·show List.findIdx? (·.1) ((false,assign (.Name x p) X.env)::assignEach es X.env)=none;rw[List.findIdx?_cons];simp only[false_eq_true,if_false,Y,Option.map_none]
def BS{tg:List Nat}{eA:Expr}(h:XOk C X cl)(R:∀ i x,i∈tg->X.N[i]?=some x->X.fn x=true\/X.env.scope.names.lookup x=some .local)(I:rh C tg eA=true):PG X eA (gT X.K tg):=by
 unfold rh at I;split at I
 ·let#[x,p,rfl,g1,g2]:=fA h I;exact nF h.qx g1 g2<|R _ x (by simp) g1
 ·rename_i O;let#[es,a,z]:=aw I;let#[k,p,rfl]:=fJ a;let#[Z,Y,U]:=nC h R (λi hi=>hi) z
  have e:gT X.K tg=λv J H Q=>rP X.K tg.length (gs tg) v J H Q\/si X.K tg.length (gs tg) v J H Q:=by
   unfold gT;split
   ·rename_i i;exact absurd rfl<|O i
   ·rfl
  rw[e];exact vZ (wX h.calm Z Y U)<|wH h.calm Z Y U
def eT{i:Nat}{nm:Str}(h:XOk C X cl)(z:gr C i nm e=true):∃ x p I,e=.Attribute (.Name x p) nm I/\X.N[i]?=some x/\PE X (.Name x p) (bD i):=by
 let#[#[o,y,I],Y,z]:=aw z;have b:=gK Y;let#[O,U]:=aQ z;rw[beq_iff_eq]at O;have O:y=nm:=O;let#[x,p,R,g1,g2,a,Z]:=dO h U;have R:o=.Name x p:=R;subst b R O;exact#[x,p,I,rfl,g1,cI g1 g2 a Z]
def xU{i:Nat}{m:Str}{k:List Expr->Bool}(h:XOk C X cl)(z:CB C i m e k=true):∃ x p apos O I,e=.Call (.Attribute (.Name x p) m apos) O [] I/\X.N[i]?=some x/\PE X (.Name x p) (bD i)/\(apos.endLine == I.line)=true/\O.length<30/\k O=true:=by
 let#[#[g,O,ks,I],b,z]:=aw z;have v:=dk b;refine a4 z λa Z Y U=>?_;let#[#[o,y,apos],j,c]:=aw a;have u:g=.Attribute o y apos:=gK j;refine a3 c λf R d=>?_;rw[beq_iff_eq]at R;have n:y=m:=R;let#[x,p,t,g1,g2,r,q]:=dO h f;have s:o=.Name x p:=t;have l:ks=[]:=Qs.mp Z;subst v u s n l;exact#[x,p,apos,O,I,rfl,g1,cI g1 g2 r q,d,of_decide_eq_true Y,U]
def GN{o:Expr}{nm:Str}{env:Env}{w:Sem Value}(h:(eh o).isNone=true):attributeBase o nm env w=w:=by
 cases o with
 | Call f I ks p=>cases h
 | _=>rfl
def Kh{x:Str}{i:Int}{I:Pos}(h:XOk C X cl)(O:ri C x=true)(hl:C.G.lookup x=some i):SE X cl (.Name x I) (.lp x i):=by
 let#[u,U,R]:=h.lp x i hl;let#[g1,g2]:=h.gl O;exact Jv (u:=u)<|FL g1 U R (eD g2).1
def Gp{x:Str}{f:Nat}{p I:Pos}{y:Expr}{ys:List Expr}{es:RL.Es}(h:XOk C X cl)(Y:ri C x=true)(Z:C.F[f]?=some (x,[]))(a:vp X cl (y::ys) es)(hl:cO es=ys.length+1)(hn:noStar y=true)(O:ys.all noStar=true) :
  SE X cl (.Call (.Name x p) (y::ys) [] I) (.call f es):=by
 let#[k,fa,fd,ps,F,R,hm,U,hb]:=h.fns f x [] Z;let#[g1,g2]:=h.gl Y;rw[if_pos rfl]at F
 cases es with
 | nil=>simp[cO]at hl
 | cons e' b=>exact Ht F R g1 hm U hb a (eD g2).1 hn O
def uw{scope sc:Scope}(h:scB scope sc=true):rj scope sc:=by
 unfold scB at h;let#[R,O]:=aQ h;rw[Qv]at O;refine#[by simpa using R,λx I z=>?_,λx I z=>?_,λx I z=>?_]
 ·have:=O x I;rw[z]at this;simpa using this
 ·have:=O x I;rw[z]at this;simpa using this
 ·have:=O x I;rw[z]at this;simpa using this
def l5{scope:Scope}{tg:List Nat}(h:pU C scope tg=true)(i:Nat)(x:Str)(I:C.N[i]?=some x)(hl:scope.names.lookup x=some .local\/scope.names.lookup x=some .cell):tg.contains i=true:=by
 unfold pU at h;rw[Qv]at h;have:=h i<|List.mem_range.mpr (List.getElem?_eq_some_iff.mp I).1;rw[I]at this;rcases hl with hl | hl
 ·simp only[hl,beq_self_eq_true,Bool.true_or,Bool.not_true,Bool.false_or]at this;exact this
 ·simp only[hl,beq_self_eq_true,Bool.or_true,Bool.not_true,Bool.false_or]at this;exact this
def tj{X:Cx}{cls:List (Str × Addr)}{scope:Scope}{O:Addr}{fp:List Addr}{s:Shared}{H:Hp}{ag:List (Addr × Obj)}{s':Shared}{J:L2.St}{H':Hp}{Q:Bool->Hp->Prop}(I:Inv (L2.ey X scope cls O fp s H) ag J H' s')(q:qN J H' Q) :
  wpAny (model X.prog X.w) X.A (jv []<|compEnvC scope cls O X.env) (TP (L2.ey X scope cls O fp s H) ag J Q) (λ_ _=>False) s':=by
 unfold jv;exact Qa ⟨H',I,q⟩
def t9{X:Cx}{cls:List (Str × Addr)}{scope:Scope}{O:Addr}{fp:List Addr}{s:Shared}{H:Hp}{ag:List (Addr × Obj)}{s':Shared}{J:L2.St}{H':Hp}{Q:Bool->Hp->Prop}{c:Expr}{t:TT}(R:PT (L2.ey X scope cls O fp s H) c t)(I:Inv (L2.ey X scope cls O fp s H) ag J H' s')(q:t J H' Q) :
  wpAny (model X.prog X.w) X.A (jv [c]<|compEnvC scope cls O X.env) (TP (L2.ey X scope cls O fp s H) ag J Q) (λ_ _=>False) s':=by
 have h:=R ag s' J H' Q I q;unfold jv;simp only[List.forIn_cons,List.forIn_nil,if_true];refine J2 (J2 (cg h λb s1 hb=>Qa ?_));exact Qa hb
def qd(h:XOk C X cl){scope:Scope}{cls:List (Str × Addr)}{O:Addr}{fp:List Addr}{s:Shared}{H:Hp}{tg:List Nat}(ha:pL C scope tg=true){eA:Expr}(R:rh (C.inner scope) tg eA=true):PG (L2.ey X scope cls O fp s H) eA (gT X.K tg):=by
 have hb:=h.ey (scope:=scope) cls O fp s H;unfold pL at ha;rw[Qv]at ha;refine BS hb (λi x hi I=>?_) R;have:=ha i hi;have I:X.N[i]?=some x:=I;rw[h.names]at I;rw[I]at this;simp only[or_eq_true,beq_iff_eq]at this;rcases this with z | z
 ·exact .inr<|lookup_relabel_local z
 ·exact .inl (by show(scope.names.lookup x == some .cell)=true;rw[z];rfl)
def gQ{α:Type}{o:Option α}(h:o.isNone=true):o=none:=by
 cases o with
 | none=>rfl
 | some _=>cases h
end
mutual
theorem az{cl:RL.Cl}:∀ (e':RL.E) {C:CC} {X:Cx} (h:XOk C X cl) (e:Expr),yT X cl e e' (b8 C false e' e) (b8 C true e' e)
 | .var i,C,X,h,e=>aN (b:=b8 C false (.var i) e) λz=>by
  let#[x,p,rfl,g1,g2,g3,g4]:=dO h z;exact#[LN g1 g2 g3 g4,rfl]
 | .cst d,C,X,h,e=>aN (b:=b8 C false (.cst d) e) λz=>by
  let#[k,R,z]:=aw z;let#[j,p,rfl]:=Gi R;exact#[Ji z,rfl]
 | .lp y i,C,X,h,e=>aN (b:=b8 C false (.lp y i) e) λz=>by
  let#[x,R,z]:=aw z;let#[p,rfl]:=du R;refine a3 z λO Y U=>?_;rw[beq_iff_eq]at O U;subst O;exact#[Kh h Y U,rfl]
 | .bin o a b,C,X,h,e=>aN (b:=b8 C false (.bin o a b) e) λz=>by
  let#[#[l,QN,r],R,z]:=aw z;let#[p,rfl]:=GD R;refine a3 z λO Y U=>?_;rw[beq_iff_eq]at O;have O:QN=wA o:=O;subst O;exact#[J8 ((az a h l).1 Y)<|(az b h r).1 U,rfl]
 | .neg a,C,X,h,e=>aN (b:=b8 C false (.neg a) e) λz=>by
  let#[#[QN,x],R,z]:=aw z;let#[p,rfl]:=qz R;let#[O,Y]:=aQ z;rw[beq_iff_eq]at O;have O:QN=.USub:=O;subst O;exact#[Kl<|(az a h x).1 Y,rfl]
 | .cmp c a b,C,X,h,e=>lh (b:=b8 C false (.cmp c a b) e) λz=>by
  let#[#[l,os,rs],R,z]:=aw z;let#[p,rfl]:=jP R;let#[QN,n,z]:=aU z;let#[r,B,z]:=aU z;have n:os=[QN]:=n;have B:rs=[r]:=B;subst n B;refine a3 z λO Y U=>?_;rw[beq_iff_eq]at O;subst O;exact#[Ks h.hu ((az a h l).1 Y)<|(az b h r).1 U,J7 h.hu ((az a h l).1 Y)<|(az b h r).1 U,rfl]
 | .chain c c' a b d,C,X,h,e=>lh (b:=b8 C false (.chain c c' a b d) e) λz=>by
  let#[#[l,os,rs],R,z]:=aw z;let#[p,rfl]:=jP R;let#[QN,N0,n,z]:=fT z;let#[r,s,B,z]:=fT z;have n:os=[QN,N0]:=n;have B:rs=[r,s]:=B;subst n B;refine a5 z λO Y U Z P=>?_;rw[beq_iff_eq]at O Y;subst O Y;exact#[DW h.hu ((az a h l).1 U) ((az b h r).1 Z)<|(az d h s).1 P,D8 h.hu ((az a h l).1 U) ((az b h r).1 Z)<|(az d h s).1 P,rfl]
 | .o4 neg a b,C,X,h,e=>lh (b:=b8 C false (.o4 neg a b) e) λz=>by
  let#[#[l,os,rs],R,z]:=aw z;let#[p,rfl]:=jP R;let#[QN,n,z]:=aU z;let#[r,B,z]:=aU z;have n:os=[QN]:=n;have B:rs=[r]:=B;subst n B;refine a4 z λO Y U Z=>?_;rw[beq_iff_eq]at O;subst O;exact#[Jy ((az a h l).1 U) ((az b h r).1 Z) Y,J5 ((az a h l).1 U) ((az b h r).1 Z) Y,rfl]
 | .inD neg a b,C,X,h,e=>lh (b:=b8 C false (.inD neg a b) e) λz=>by
  let#[#[l,os,rs],R,z]:=aw z;let#[p,rfl]:=jP R;let#[QN,n,z]:=aU z;let#[r,B,z]:=aU z;have n:os=[QN]:=n;have B:rs=[r]:=B;subst n B;refine a4 z λO Y U Z=>?_;rw[beq_iff_eq]at O;subst O;exact#[LX h.hu ((az a h l).1 U) ((az b h r).1 Z) Y,Mg h.hu ((az a h l).1 U) ((az b h r).1 Z) Y,rfl]
 | .and a b,C,X,h,e=>⟨(λz=>by
   let#[#[QN,es,p],R,z]:=aw z;let#[l,r,rest,n,z]:=pC z;have A:=lI R;have n:es=l::r::rest:=n;refine a3 z λO Y U=>?_;rw[beq_iff_eq]at O;have O:QN=.And:=O;subst n O A;refine IS ((az a h l).1 Y) ?_;split at U
   ·rename_i hr;rw[Qs]at hr;subst hr;exact B9<|(az b h r).1 U
   ·exact(az b h _).1 U),(λz=>by
   let#[#[QN,es,p],R,z]:=aw z;let#[l,r,rest,n,z]:=pC z;have A:=lI R;have n:es=l::r::rest:=n;refine a3 z λO Y U=>?_;rw[beq_iff_eq]at O;have O:QN=.And:=O;subst n O A
   have w:SW X cl (.BoolOp .And (l::r::rest) p) (.and a b):=by
    refine LD ((az a h l).2 Y).1 ?_;split at U
    ·rename_i hr;rw[Qs]at hr;subst hr;exact BB ((az b h r).2 U).1
    ·exact((az b h _).2 U).2 rfl
   exact#[w.pt,λ_=>w])⟩
 | .or a b,C,X,h,e=>⟨(λz=>by
   let#[#[QN,es,p],R,z]:=aw z;let#[l,r,rest,n,z]:=pC z;have A:=lI R;have n:es=l::r::rest:=n;refine a3 z λO Y U=>?_;rw[beq_iff_eq]at O;have O:QN=.Or:=O;subst n O A;refine Nd ((az a h l).1 Y) ?_;split at U
   ·rename_i hr;rw[Qs]at hr;subst hr;exact B9<|(az b h r).1 U
   ·exact(az b h _).1 U),(λz=>by
   let#[#[QN,es,p],R,z]:=aw z;let#[l,r,rest,n,z]:=pC z;have A:=lI R;have n:es=l::r::rest:=n;refine a3 z λO Y U=>?_;rw[beq_iff_eq]at O;have O:QN=.Or:=O;subst n O A
   have w:SW X cl (.BoolOp .Or (l::r::rest) p) (.or a b):=by
    refine NB ((az a h l).2 Y).1 ?_;split at U
    ·rename_i hr;rw[Qs]at hr;subst hr;exact BB ((az b h r).2 U).1
    ·exact((az b h _).2 U).2 rfl
   exact#[w.pt,λ_=>w])⟩
 | .not a,C,X,h,e=>⟨(λz=>by
   let#[#[QN,x],R,z]:=aw z;let#[p,rfl]:=qz R;let#[O,Y]:=aQ z;rw[beq_iff_eq]at O;have O:QN=.Not:=O;subst O
   exact KZ<|(az a h x).1 Y),(λz=>by
   let#[#[QN,x],R,z]:=aw z;let#[p,rfl]:=qz R;let#[O,Y]:=aQ z;rw[beq_iff_eq]at O;have O:QN=.Not:=O;subst O
   exact⟨Lg ((az a h x).2 Y).1,λq=>by cases q⟩)⟩
 | .nk c a b,C,X,h,e=>⟨(λz=>by
   let#[#[q,l,r],R,z]:=aw z;let#[p,rfl]:=Gg R;refine a4 z λO Y U Z=>?_
   exact Mh ((az c h q).2 Y).1 ((az a h l).1 U)<|(az b h r).1 Z),(λz=>by
   let#[#[q,l,r],R,z]:=aw z;refine a4 z λO Y U Z=>?_
   cases O)⟩
 | .tup es,C,X,h,e=>aN (b:=b8 C false (.tup es) e) λz=>by
  let#[xs,R,z]:=aw z;let#[k,p,rfl]:=fJ R;let#[O,Y]:=aQ z;exact#[KC (gM es h _ O).1 (by simpa using Y),rfl]
 | .lst es,C,X,h,e=>aN (b:=b8 C false (.lst es) e) λz=>by
  let#[xs,R,z]:=aw z;let#[p,rfl]:=G5 R;let#[O,Y]:=aQ z;exact#[LU (gM es h _ O).1 (by simpa using Y),rfl]
 | .ix a b,C,X,h,e=>aN (b:=b8 C false (.ix a b) e) λz=>by
  let#[#[l,r],R,z]:=aw z;let#[p,rfl]:=gj R;refine a3 z λO Y U=>?_;exact#[NK ((az a h l).1 Y) ((az b h r).1 U) O,rfl]
 | .su a b,C,X,h,e=>aN (b:=b8 C false (.su a b) e) λz=>by
  let#[#[l,r],R,z]:=aw z;let#[p,rfl]:=gj R;refine a3 z λO Y U=>?_;exact#[Ls h.hu ((az a h l).1 Y) ((az b h r).1 U)<|t5 O,rfl]
 | .mS a b,C,X,h,e=>aN (b:=b8 C false (.mS a b) e) λz=>by
  let#[#[l,s],R,z]:=aw z;let#[p,rfl]:=gj R;let#[O,z]:=aQ z;let#[#[s1,s2,s3],R,z]:=aw z;let#[q,A]:=qu R;have A:s=.Slice s1 s2 s3 q:=A;refine a3 z λY U Z=>?_;have K:s1=none:=gQ Y;have w3:s3=none:=gQ U;let#[r,T,Z]:=aw Z;have n:s2=some r:=T;rw[K,w3,n]at A;subst A;exact#[Ke ((az a h l).1 O)<|(az b h r).1 Z,rfl]
 | .ry a b,C,X,h,e=>aN (b:=b8 C false (.ry a b) e) λz=>by
  let#[#[l,s],R,z]:=aw z;let#[p,rfl]:=gj R;let#[O,z]:=aQ z;let#[#[s1,s2,s3],R,z]:=aw z;let#[q,A]:=qu R;have A:s=.Slice s1 s2 s3 q:=A;refine a3 z λY U Z=>?_;have K:s2=none:=gQ Y;have w3:s3=none:=gQ U;let#[r,T,Z]:=aw Z;have n:s1=some r:=T;rw[K,w3,n]at A;subst A;exact#[Jp ((az a h l).1 O)<|(az b h r).1 Z,rfl]
 | .rev a,C,X,h,e=>aN (b:=b8 C false (.rev a) e) λz=>by
  let#[#[l,s],R,z]:=aw z;let#[p,rfl]:=gj R;let#[O,z]:=aQ z;let#[#[s1,s2,s3],R,z]:=aw z;let#[q,A]:=qu R;have A:s=.Slice s1 s2 s3 q:=A;refine a3 z λY U Z=>?_;have K:s1=none:=gQ Y;have w3:s2=none:=gQ U;let#[r,T,Z]:=aw Z;have n:s3=some r:=T;rw[K,w3,n]at A;subst A;exact#[LC ((az a h l).1 O) Z,rfl]
 | .call f es,C,X,h,e=>aN (b:=b8 C false (.call f es) e) λz=>by
  let#[#[g,V,ks,p],R,z]:=aw z;have R:=dk R;subst R;refine a4 z λO Y U Z=>?_;let#[x,T,O]:=aw O;let#[q,A]:=du T;have A:g=.Name x q:=A;let#[n,B]:=aQ O;rw[beq_iff_eq]at B
  have K:ks=[]:=by rw[Qs]at Y;exact Y
  subst A K;let#[q1,q2,q3]:=gM es h _ Z;dsimp only at U q1 q2 q3
  cases V with
  | nil=>cases U
  |cons y ys=>
   rw[Qz]at q3;exact#[Gp h n B q1 q2 (aQ q3).1 (aQ q3).2,rfl]
 | .bi o a,C,X,h,e=>by
  have gen:(∀ t,b8 C t (.bi o a) e=((Aj o).any λx=>br C e x λys=>ej ys λy=>b8 C false a y))->yT X cl e (.bi o a) (b8 C false (.bi o a) e) (b8 C true (.bi o a) e):=λheq=>by
   rw[heq,heq];refine aN λz=>?_;let#[x,T,z]:=aw z;let#[p,V,G,rfl,N,M,U,Z]:=bR h z;let#[y,rfl,Z]:=aU Z;exact#[MA h.calm T N M ((az a h y).1 Z)<|all1 U,rfl]
  cases o
  all_goals exact gen λt=>rfl
 | .ra a ty,C,X,h,e=>aN (b:=b8 C false (.ra a ty) e) λz=>by
  have z:(br C e "isinstance" λys=>of2 ys λy z=>(fG z).any (λx=>x == wb ty&&wU C x)&&b8 C false a y)=true:=z;let#[p,V,G,rfl,N,M,U,Z]:=bR h z;let#[y,u,rfl,Z]:=fT Z;let#[P,z6]:=aQ Z;let#[x,w0,w]:=aw P;let#[q,rfl]:=du w0;let#[w1,K]:=aQ w;rw[beq_iff_eq]at w1;subst w1;let#[t1,t2,t3]:=Ay ty;exact#[Ku N M (h.bl K).1 (h.bl K).2 t1 t2 t3 ((az a h y).1 z6) (all2 U).1,rfl]
 | .dd a,C,X,h,e=>aN (b:=b8 C false (.dd a) e) λz=>by
  have z:(br C e "list" λys=>ej ys λy=>br C y "range" λzs=>ej zs λz=>b8 C false a z)=true:=z;let#[p,V,G,rfl,N,M,U,Z]:=bR h z;let#[y,rfl,P]:=aU Z;let#[p',as',pos',rfl,b1',b2',S,z6]:=bR h P;let#[y,rfl,z7]:=aU z6;exact#[Hz h.calm N M b1' b2' ((az a h y).1 z7)<|all1 S,rfl]
 | .ez a b,C,X,h,e=>aN (b:=b8 C false (.ez a b) e) λz=>by
  have z:(br C e "list" λys=>ej ys λy=>br C y "range" λzs=>of2 zs λz u=>b8 C false a z&&b8 C false b u)=true:=z;let#[p,V,G,rfl,N,M,U,Z]:=bR h z;let#[y,rfl,P]:=aU Z;let#[p',as',pos',rfl,b1',b2',S,z6]:=bR h P;let#[y,u,rfl,z7]:=fT z6;exact#[G7 h.calm N M b1' b2' ((az a h y).1 (aQ z7).1) ((az b h u).1 (aQ z7).2) (all2 S).1 (all2 S).2,rfl]
 | .hI c a b,C,X,h,e=>aN (b:=b8 C false (.hI c a b) e) λz=>by
  have z:(br C e "list" λys=>ej ys λy=>br C y "range" λzs=>OU zs λz u q=>gE c q&&b8 C false a z&&b8 C false b u)=true:=z;let#[p,V,G,rfl,N,M,U,Z]:=bR h z;let#[y,rfl,P]:=aU Z;let#[p',as',pos',rfl,b1',b2',S,z6]:=bR h P;let#[y,u,q,rfl,z7]:=pW z6;refine a3 z7 λz7 z8 z9=>?_;exact#[HJ h.calm N M b1' b2' ((az a h y).1 z8) ((az b h u).1 z9) (oy S).1 (oy S).2.1 z7,rfl]
 | .comp d tg it c,C,X,h,e=>aN (b:=b8 C false (.comp d tg it c) e) λz=>by
  let#[#[elt,gens,scope,p],R,z]:=aw z;have R:=vN R;subst R;let#[#[eA,iter,ifs,asy],n,z]:=aU z;have n:gens=[⟨eA,iter,ifs,asy⟩]:=n;let#[w,B,z]:=aU z;have B:ifs=[w]:=B;refine a9 z λR O Y U Z P z6 z7 z8=>?_;rw[beq_iff_eq]at R;have w0:asy=0:=R;subst n w0;subst B;refine#[DK (λ_ _ _ _=>h.calm) (by rw[h.scope];exact uw O) (kh it h _ _ z6) ?_<|ic U _,rfl];exact#[λcls Ca fp s H=>qd h P Z,λcls Ca fp s H ag s' J H' Q I q=>t9 ((az c (h.ey cls Ca fp s H) _).2 z8).1 I q,λcls Ca fp s H=>(az d (h.ey cls Ca fp s H) _).1 z7,λi x hx hl=>l5 Y i x (by rw[<-h.names];exact hx) hl]
 | .cn d tg it,C,X,h,e=>aN (b:=b8 C false (.cn d tg it) e) λz=>by
  let#[#[elt,gens,scope,p],R,z]:=aw z;have R:=vN R;subst R;let#[#[eA,iter,ifs,asy],n,z]:=aU z;have n:gens=[⟨eA,iter,ifs,asy⟩]:=n;refine a9 z λB R O Y U Z P z6 z7=>?_;rw[beq_iff_eq]at R;have w0:asy=0:=R
  have K:ifs=[]:=by rw[Qs]at B;exact B
  subst n w0;subst K;refine#[DT h.calm (by rw[h.scope];exact uw O) (kh it h _ _ z6) ?_<|ic U _,rfl];exact#[λcls Ca fp s H=>qd h P Z,λcls Ca fp s H ag s' J H' Q I q=>tj I q,λcls Ca fp s H=>(az d (h.ey cls Ca fp s H) _).1 z7,λi x hx hl=>l5 Y i x (by rw[<-h.names];exact hx) hl]
 | .wh a b c,C,X,h,e=>aN (b:=b8 C false (.wh a b c) e) λz=>by
  let#[#[l,s],R,z]:=aw z;let#[p,rfl]:=gj R;let#[O,z]:=aQ z;let#[#[s1,s2,s3],R,z]:=aw z;let#[q,A]:=qu R;have A:s=.Slice s1 s2 s3 q:=A;refine a3 z λY U Z=>?_;have K:s3=none:=gQ Y;let#[r,T,U]:=aw U;have n:s1=some r:=T;let#[t,B,Z]:=aw Z;have y3:s2=some t:=B;rw[K,n,y3]at A;subst A;exact#[L1 ((az a h l).1 O) ((az b h r).1 U)<|(az c h t).1 Z,rfl]
 | .D2 a,C,X,h,e=>aN (b:=b8 C false (.D2 a) e) λz=>by
  have z:(br C e "list" λys=>ej ys λy=>b8 C false a y)=true:=z;let#[p,V,G,rfl,N,M,U,Z]:=bR h z;let#[y,rfl,P]:=aU Z;exact#[HU h.calm N M ((az a h y).1 P)<|all1 U,rfl]
 | .cy a,C,X,h,e=>aN (b:=b8 C false (.cy a) e) λz=>by
  let#[O,Y]:=aQ z;exact⟨Ir<|(az a h e).1 Y,by cases e<;>first | rfl | exact noConfusion O⟩
 | .hC k a,C,X,h,e=>aN (b:=b8 C false (.hC k a) e) λz=>by
  let#[#[o,nm,G],R,z]:=aw z;let#[zL,q]:=aQ z;have A:=gK R;subst A;refine a3 q λO Y U=>?_;rw[beq_iff_eq]at O;exact#[Kw (h.b0 zL).1 O ((az a h o).1 U)<|GN Y,rfl]
 | .lo k i,C,X,h,e=>aN (b:=b8 C false (.lo k i) e) λz=>by
  cases k with
  |now=>
   let#[z,zL]:=aQ (show(gr C i "now" e&&C.L)=true from z);let#[x,p,G,rfl,_,hv]:=eT h z;exact#[JD (h.b0 zL).1 hv,rfl]
  |len b=>
   let#[z,zL]:=aQ (show(br C e "len" (λys=>ej ys λy=>gr C i (pf b) y)&&C.L)=true from z);let#[p,V,G,rfl,N,M,U,Z]:=bR h z;let#[y,rfl,Z]:=aU Z;let#[x,p,G,rfl,_,hv]:=eT h Z;exact#[Dc (h.b0 zL).1 N M hv,rfl]
  |lst b=>
   let#[z,zL]:=aQ (show(br C e "list" (λys=>ej ys λy=>gr C i (pf b) y)&&C.L)=true from z);let#[p,V,G,rfl,N,M,U,Z]:=bR h z;let#[y,rfl,Z]:=aU Z;let#[x,p,G,rfl,_,hv]:=eT h Z;exact#[Dv (h.b0 zL).1 N M hv,rfl]
 | .zw a b c,C,X,h,e=>aN (b:=b8 C false (.zw a b c) e) λz=>by
  let#[#[g,V,ks,G],R,z]:=aw z;let#[zL,z]:=aQ z;have A:=dk R;refine a3 z λO Y U=>?_;let#[x,T,y]:=aw O;let#[p,e1]:=du T;have u1:g=.Name x p:=e1;let#[n,B]:=aQ y;rw[beq_iff_eq]at n;have u2:ks=[]:=Qs.mp Y;let#[u,v,w,e3,q]:=pW U;have u3:V=[u,v,w]:=e3;subst A u1 n u2 u3;refine a6 q λw1 K w3 w4 w5 w6=>?_;exact#[Ik (h.b0 zL).1 (h.b0 zL).2 (h.gl B).1 ((az a h u).1 w4) ((az b h v).1 w5) ((az c h w).1 w6) w1 K w3,rfl]
 | .sd f a,C,X,h,e=>aN (b:=b8 C false (.sd f a) e) λz=>by
  let#[#[g,V,ks,G],R,z]:=aw z;refine a3 z λzL zf z=>?_;rw[beq_iff_eq]at zf;have A:=dk R;refine a3 z λO Y U=>?_;let#[x,T,y]:=aw O;let#[p,e1]:=du T;have u1:g=.Name x p:=e1;let#[n,B]:=aQ y;rw[beq_iff_eq]at n;have u2:ks=[]:=Qs.mp Y;let#[u,e3,q]:=aU U;have u3:V=[u]:=e3;subst A u1 n u2 u3;let#[w1,K]:=aQ q;let#[k,D,fI,fd,L,F,hr]:=h.mkl f zL zf;exact#[JZ L F hr (h.gl B).1 ((az a h u).1 K) w1,rfl]
 | .x6 a,C,X,h,e=>aN (b:=b8 C false (.x6 a) e) λz=>by
  have z:br C e "dict" (λys=>ej ys λy=>b8 C false a y)=true:=z;let#[p,V,G,rfl,N,M,U,Z]:=bR h z;let#[y,rfl,Z]:=aU Z;exact#[Ja N M ((az a h y).1 Z)<|all1 U,rfl]
 | .met m f i es,C,X,h,e=>aN (b:=b8 C false (.met m f i es) e) λz=>by
  let#[U,z]:=aQ z;let#[O,Y]:=aQ z;let#[x,p,apos,V,G,rfl,_,hv,hl,hn,zk]:=xU h U;let#[q1,q2,q3]:=gM es h _ zk;exact#[JR (h.D1 f m [] O) Y hv q1 q2 q3 hn hl,rfl]
theorem gM{cl:RL.Cl}:∀ (I:RL.Es) {C:CC} {X:Cx} (h:XOk C X cl) (es:List Expr),k5 C I es=true->vp X cl es I/\cO I=es.length/\es.all noStar=true
 | .nil,C,X,h,es,z=>by
  have z:es=[]:=Qs.mp z;subst z;exact#[df,rfl,rfl]
 | .cons e' I,C,X,h,es,z=>by
  cases es with
  | nil=>cases z
  |cons e es=>
   refine a3 z λO U R=>?_;let#[a,Z,Y]:=gM I h es R;exact#[bK ((az e' h e).1 U) a O,by rw[cO,Z,length_cons],by rw[Qz,O,Y];rfl]
theorem kh{cl:RL.Cl}:∀ (it:RL.It) {C:CC} {X:Cx} (h:XOk C X cl) (tg e:Expr),zi C it tg e=true->SI X cl tg e it
 | .seq a,C,X,h,tg,e,z=>Hl<|(az a h e).1 z
 | .dd a,C,X,h,tg,e,z=>by
  have z:(br C e "range" λys=>ej ys λy=>b8 C false a y)=true:=z;let#[p,d,R,rfl,Y,U,O,I]:=bR h z;let#[y,rfl,I]:=aU I;exact GQ Y U ((az a h y).1 I)<|all1 O
 | .ez a b,C,X,h,tg,e,z=>by
  have z:(br C e "range" λys=>of2 ys λy z=>b8 C false a y&&b8 C false b z)=true:=z;let#[p,d,R,rfl,Y,U,O,I]:=bR h z;let#[y,u,rfl,I]:=fT I;exact Hr Y U ((az a h y).1 (aQ I).1) ((az b h u).1 (aQ I).2) (all2 O).1 (all2 O).2
 | .hI c a b,C,X,h,tg,e,z=>by
  have z:(br C e "range" λys=>OU ys λy z q=>gE c q&&b8 C false a y&&b8 C false b z)=true:=z;let#[p,d,R,rfl,Y,U,O,I]:=bR h z;let#[y,u,q,rfl,I]:=pW I;refine a3 I λI i g=>?_;exact Gj Y U ((az a h y).1 i) ((az b h u).1 g) (oy O).1 (oy O).2.1 I
 | .chr a,C,X,h,tg,e,z=>Lb<|(az a h e).1 z
 | .tm a,C,X,h,tg,e,z=>by
  let#[Z,f]:=aQ z;let#[j,Z]:=Option.isSome_iff_exists.mp Z;let#[k,tp,rfl]:=fJ Z;let#[p,d,R,rfl,Y,U,O,I]:=bR h f;let#[y,rfl,I]:=aU I;exact GO Y U ((az a h y).1 I)<|all1 O
end
abbrev gm:Expr->Bool
 | .ListComp _ _ _ _=>false
 | .SetComp _ _ _ _=>false
 | .DictComp _ _ _ _ _=>false
 | _=>true
abbrev pE:Expr->Bool
 | .Tuple vs _ _=>vs.all<|foldedForSure 8
 | _=>true
abbrev vC(e:Expr):Bool:=match e with
 | .SetComp _ _ _ _=>false
 | .DictComp _ _ _ _ _=>false
 | _=>true
abbrev Eg(C:CC)(x y:Str)(O I:Pos)(a b:Expr):Bool :=
 C.sc.kind == .function&&C.sc.names.lookup x == some .local&&C.sc.names.lookup y == some .local&&O.line == I.line && !(x == y)&&noStar a&&noStar b && !(foldedForSure 8 a&&foldedForSure 8 b) && !(constantsAlone 8 a&&constantsAlone 8 b)
abbrev yG(M:List Nat):RL.E->Bool
 | .var i=>M.contains i
 | _=>false
abbrev um(C:CC):RL.Es->List Expr->Bool
 | .nil=>λxs=>xs.isEmpty
 | .cons e es=>λxs=>match xs with
  | x::xs=>noStar x&&b8 C false e x&&um C es xs
  | []=>false
abbrev EK:RL.FR->Operator->Bool
 | .add,.Add=>true
 | .sub,.Sub=>true
 | _,_=>false
abbrev ke:Expr->Option (Str × Pos)
 | .Name x p=>some (x,p)
 | _=>none
def m7{e:Expr}{x:Str}{p:Pos}(h:ke e=some (x,p)):e=.Name x p:=by
 cases e
 case Name=>cases h;rfl
 all_goals exact nos h
abbrev qw(C:CC)(i:Nat)(nm:Str)(e:Expr)(f:List Expr->Bool):Bool:=(eh e).any λq=>(kU q.1).any (λa=>gZ C i a.1&&a.2.1 == nm&&a.2.2.endLine == q.2.2.2.line)&&q.2.2.1.isEmpty&&f q.2.1
abbrev vV(C:CC)(M:List Nat)(f:Nat)(es:RL.Es)(ps ms:List Nat)(e:Expr):Bool:=(eh e).any λq=>(fG q.1).any (λx=>ri C x&&C.F[f]? == some (x,ps))&&q.2.2.1.isEmpty && !q.2.1.isEmpty && !ps.isEmpty&&um C es q.2.1&&cW es ps ms&&ms.all (λi=>M.contains i)&&decide ms.Nodup&&decide ps.Nodup
abbrev E8(C:CC)(M:List Nat)(m:Str)(f i:Nat)(es:RL.Es)(e:Expr):Bool:=C.Mt.contains (f,m,[0])&&pw m&&M.contains i&&CB C i m e λys=>um C es ys&&decide (cO es=ys.length)
abbrev DJ(C:CC)(i:Nat)(e':RL.E)(st:Stmt):Bool:=(gI st).any λq=>ej q.1 λt=>fV C i t&&vC q.2&&b8 C false e' q.2
mutual
noncomputable def CG(C:CC)(M:List Nat):RL.S->Stmt->Bool
 | .asg i e'=>λst=>(gI st).any λq=>ej q.1 λt=>fV C i t && !M.contains i&&vC q.2&&b8 C false e' q.2
 | .own i e'=>λst=>(gI st).any λq=>ej q.1 λt=>fV C i t&&M.contains i&&decide (M.count i<2)&&vC q.2&&b8 C false e' q.2
 | .iw is e'=>λst=>(gI st).any λq=>ej q.1 λt=>(jI t).any λO=>kC C is O&&is.all (λi=>!M.contains i)&&(pE q.2 || O.any λt=>(ke t).any λx=>C.sc.names.lookup x.1 == some .cell)&&b8 C false e' q.2
 | .par i j a' I=>λst=>(gI st).any λq=>ej q.1 λt=>(jI t).any λO=>of2 O λs u=>(ke s).any λx=>(ke u).any λy=>(jI q.2).any λvs=>of2 vs λa b=>nmB C i x.1&&nmB C j y.1 && !(i == j) && !M.contains i && !M.contains j&&Eg C x.1 y.1 x.2 y.2 a b&&b8 C false a' a&&b8 C false I b
 | .star i j e'=>λst=>(gI st).any λq=>ej q.1 λt=>(jI t).any λO=>of2 O λs u=>(Fp u).any λy=>fV C i s&&fV C j y && !M.contains i && !M.contains j&&pE q.2&&b8 C false e' q.2
 | .app i e'=>λst=>(pd st).any λe=>qw C i "append" e λR=>ej R λy=>M.contains i&&noStar y&&b8 C false e' y
 | .put i Y e'=>λst=>(gI st).any λq=>ej q.1 λt=>(kN t).any λu=>gZ C i u.1&&M.contains i&&lU u.2&&gm q.2&&b8 C false Y u.2&&b8 C false e' q.2
 | .aug i o e'=>λst=>(CD st).any λq=>fV C i q.1 && !M.contains i&&EK o q.2.1&&b8 C false e' q.2.2
 | .mq i e'=>λst=>(CD st).any λq=>fV C i q.1 && !M.contains i&&q.2.1 == .Add&&b8 C false e' q.2.2
 | .tie3 f r p w=>λst=>(pd st).any λe=>(eh e).any λq=>(fG q.1).any (λx=>ri C x&&C.F[f]? == some (x,[0]))&&q.2.2.1.isEmpty&&M.contains r && !M.contains p&&M.contains w && !(r == w)&&OU q.2.1 λa b c=>gZ C r a&&gZ C p b&&qw C w "pop" c λR=>R.isEmpty
 | .c7 c' a' I=>λst=>(wIf st).any λq=>b8 C true c' q.1&&fF C M a' q.2.1&&fF C M I q.2.2
 | .ef tg it I=>λst=>(KO st).any λq=>q.2.2.2.isEmpty&&zi C it q.1 q.2.1&&rh C tg q.1&&qI q.2.1&&RL.E6 M it&&tg.all (λi=>!M.contains i)&&fF C M I q.2.2.1
 | .kv f es ps ms=>λst=>(pd st).any λe=>vV C M f es ps ms e
 | .ret e'=>λst=>(Ah st).any λo=>o.any λe=>b8 C false e' e
 | .exc e'=>λst=>(pd st).any λe=>gm e&&b8 C false e' e
 | .never=>λ_=>true
 | .D3 i e' a' I=>λst=>(wIf st).any λq=>(rB q.1).any λu=>ej u.2.1 λU=>ej u.2.2 λe=>U == .NotEq&&M.contains i&&b8 C false e' e&&fF C M a' q.2.1&&fF C M I q.2.2&&qw C i "pop" u.1 λR=>R.isEmpty
 | .ow c' I=>λst=>(JA st).any λq=>q.2.2.isEmpty&&b8 C true c' q.1&&fF C M I q.2.1
 | .parC i j a' I=>λst=>(gI st).any λq=>ej q.1 λt=>(jI t).any λO=>kC C [i,j] O&&(O.any λt=>(ke t).any λx=>C.sc.names.lookup x.1 == some .cell)&&(jI q.2).any λvs=>of2 vs λa b=>noStar a&&noStar b&&M.contains i&&decide (M.count i<2)&&M.contains j&&decide (M.count j<2)&&b8 C false a' a&&b8 C false I b
 | .now i e'=>λst=>(gI st).any λq=>ej q.1 λt=>C.L&&gr C i "now" t&&M.contains i&&gm q.2&&b8 C false e' q.2
 | .pf b i e'=>λst=>(gI st).any λq=>ej q.1 λt=>C.L&&gr C i (pf b) t&&M.contains i&&gm q.2&&b8 C false e' q.2
 | .My b i=>λst=>(pd st).any λe=>(eh e).any λq=>(kU q.1).any (λu=>gr C i (pf b) u.1&&u.2.1 == ("append" : Str)&&u.2.2.endLine == q.2.2.2.line)&&q.2.2.1.isEmpty&&C.L&&M.contains i&&ej q.2.1 λy=>gr C i "now" y
 | .ppo b i=>λst=>(gI st).any λw=>ej w.1 λt=>gr C i "now" t&&(eh w.2).any λq=>(kU q.1).any (λu=>gr C i (pf b) u.1&&u.2.1 == ("pop" : Str)&&u.2.2.endLine == q.2.2.2.line)&&q.2.2.1.isEmpty&&C.L&&M.contains i&&q.2.1.isEmpty
 | .ifL b i x y=>λst=>(wIf st).any λq=>C.L&&(vUn q.1).any (λu=>u.1 == .Not&&gr C i (pf b) u.2)&&fF C M x q.2.1&&fF C M y q.2.2
 | .oD m f i es=>λst=>(pd st).any λe=>E8 C M m f i es e
 | .zv m f i es=>λst=>(Ah st).any λo=>o.any λe=>E8 C M m f i es e
noncomputable def fF(C:CC)(M:List Nat):RL.Ss->List Stmt->Bool
 | .nil=>λxs=>xs.isEmpty
 | .cons s r=>λxs=>match xs with
  | x::xs=>CG C M s x&&fF C M r xs
  | []=>false
 | .act i g eH a' es=>λxs=>of2 xs λs1 s2=>(gI s1).any λq=>ej q.1 (λt=>fV C i t&&gZ C i t)&&(kN q.2).any (λu=>(fG u.1).any (λx=>x == g&&ri C x&&C.W.lookup x == some eH)&&lU u.2&&b8 C false a' u.2)&&(Ah s2).any λo=>o.any λe=>(eh e).any λc=>gZ C i c.1&&c.2.2.1.isEmpty && !c.2.1.isEmpty&&k5 C es c.2.1
 | .tell _ _ _ _ _ _=>λ_=>false
 | .lx j e' r=>λxs=>match xs with
  | x::xs=>DJ C j e' x && !M.contains j&&qj C M (j::M) r xs
  | []=>false
noncomputable def qj(C:CC)(M:List Nat)(N:List Nat):RL.Sq->List Stmt->Bool
 | .cls r=>λxs=>fF C M r xs
 | .cons s r=>λxs=>match xs with
  | x::xs=>CG C N s x&&qj C M N r xs
  | []=>false
 | .lx j e' r=>λxs=>match xs with
  | x::xs=>DJ C j e' x&&decide (M.count j<2)&&qj C M (j::N) r xs
  | []=>false
 | .cy j r=>λxs=>fF C M r xs&&(!M.contains j&&decide (N=j::M))
 | .fz j r=>λxs=>qj C M N.tail r xs&&(!N.tail.contains j && !M.contains j&&decide (N=j::N.tail))
end
structure YOk(C:CC)(X:Cx)(cl:RL.Cl):Prop extends XOk C X cl where
 fn:∀ x,X.fn x=true
section
variable{C:CC}{X:Cx}{cl:RL.Cl}{M:List Nat}{st:Stmt}{e:Expr}{e' k':RL.E}{i:Nat}
def ee{t:Option Expr}{l:Nat}{env:Env}(h:gm e=true):swapsWith e t l env=pure false:=by
 cases e<;>first | rfl | (cases h;done)
def MB{e:Expr}(h:¬ gm e=true)(ha:vC e=true):∃ elt gens scope p,e=.ListComp elt gens scope p:=by
 cases e<;>first | exact absurd rfl h | exact noConfusion ha | exact#[_,_,_,_,rfl]
def MX{elt:Expr}{gens:List Comprehension}{scope:Scope}{p:Pos}(I:b8 C false e' (.ListComp elt gens scope p)=true):(∃ d tg it c,e'=.comp d tg it c)\/∃ d tg it,e'=.cn d tg it:=by
 cases e'<;>first | exact noConfusion I | exact .inl #[_,_,_,_,rfl] | exact .inr #[_,_,_,rfl] | (rename_i b a;cases b<;>exact noConfusion I)
def yZ{t:Expr}{O:Pos}(h:YOk C X cl)(hn:fV C i t=true)(ha:vC e=true)(j:b8 C false e' e=true):SA X cl (.Assign [t] e O) i e':=by
 let#[y,g,rfl,F,hl]:=fA h.toXOk hn
 have plain:swapsWith e (some<|.Name y g) O.line X.env=pure false->SA X cl (.Assign [.Name y g] e O) i e':=λz =>
  Dq h.qx F hl ((az e' h.toXOk e).1 j) (.inl<|h.fn y) z trivial
 by_cases U:gm e=true
 ·exact plain<|ee U
 ·let#[elt,gens,scope,p,rfl]:=MB U ha;have R:swapsWith (.ListComp elt gens scope p) (some<|.Name y g) O.line X.env=pure (X.env.blockKind == .function&&X.env.kindOf y == some .local&&g.line == p.line && !(scope.names.any λ(n,k)=>n == y&&(k == .local || k == .cell))):=rfl;by_cases hb:(X.env.blockKind == .function&&X.env.kindOf y == some .local&&g.line == p.line && !(scope.names.any λ(n,k)=>n == y&&(k == .local || k == .cell)))=true
  ·have QN:X.env.scope.names.lookup y=some .local:=by
    let#[q,_]:=aQ (aQ hb).1;have G:=(aQ q).2;rw[beq_iff_eq]at G;exact G
   rw[hb]at R
   rcases MX j with⟨d,tg,it,c,rfl⟩ | ⟨d,tg,it,rfl⟩
   ·let#[#[eA,iter,ifs,Y],a,z]:=aU j;have a:gens=[⟨eA,iter,ifs,Y⟩]:=a;let#[w,b,z]:=aU z;have b:ifs=[w]:=b;refine a9 z λf A v u r o m l K=>?_;rw[beq_iff_eq]at f;have B:Y=0:=f;subst a B;subst b;refine Ew h.calm h.qx F QN (by rw[h.scope];exact uw A) (kh it h.toXOk _ _ m) ?_ (ic u _) R;exact#[λcls Z fp s H=>qd h.toXOk o r,λcls Z fp s H ag s' J H' Q I q=>t9 ((az c (h.toXOk.ey cls Z fp s H) _).2 K).1 I q,λcls Z fp s H=>(az d (h.toXOk.ey cls Z fp s H) _).1 l,λi x D hl=>l5 v i x (by rw[<-h.names];exact D) hl]
   ·let#[#[eA,iter,ifs,Y],a,z]:=aU j;have a:gens=[⟨eA,iter,ifs,Y⟩]:=a;refine a9 z λb f A v u r o m l=>?_;rw[beq_iff_eq]at f;have B:Y=0:=f
    have L:ifs=[]:=by rw[Qs]at b;exact b
    subst a B;subst L;refine Dm h.calm h.qx F QN (by rw[h.scope];exact uw A) (kh it h.toXOk _ _ m) ?_ (ic u _) R;exact#[λcls Z fp s H=>qd h.toXOk o r,λcls Z fp s H ag s' J H' Q I q=>tj I q,λcls Z fp s H=>(az d (h.toXOk.ey cls Z fp s H) _).1 l,λi x D hl=>l5 v i x (by rw[<-h.names];exact D) hl]
  ·have E:=not_eq_true _▸hb;rw[E]at R;exact plain R
def AX{st:Stmt}(h:YOk C X cl)(z:DJ C i e' st=true):SA X cl st i e':=by
 let#[#[Z,e],Y,z]:=aw z;let#[p,rfl]:=dA Y;let#[t,I,z]:=aU z;have I:Z=[t]:=I;refine a3 z λU R O=>?_;subst I;exact yZ h U R O
def pj(h:XOk C X cl):∀ {I:RL.Es} {es:List Expr},um C I es=true->PA X es (fU X.K cl I)/\es.all noStar=true
 | .nil,es,z=>by
  have z:es=[]:=Qs.mp z;subst z;exact#[cU,rfl]
 | .cons _ _,[],z=>by cases z
 | .cons e' I,e::es,z=>by
  refine a3 z λR O Y=>?_;let#[a,Z]:=pj h Y;refine#[?_,by rw[Qz,R,Z];rfl];rw[fU];refine bu ?_ a<|aP es R;by_cases U:∃ j,e'=.var j
  ·let#[j,rfl]:=U;let#[x,p,rfl,g1,g2,d,c]:=dO h O;exact cI g1 g2 d c
  ·have b:yN X.K cl e'=tE X.K cl e':=by
    cases e'<;>first | rfl | exact absurd ⟨_,rfl⟩ U
   rw[b];exact(az _ h e).1 O
def xI{is:List Nat}(h:is.all (λi=>!M.contains i)=true):∀ i∈is,M.contains i=false:=λi hi=>by
 rw[Qv]at h;simpa using h i hi
def LY{is:List Nat}(h:is.all (λi=>M.contains i)=true):∀ i∈is,M.contains i=true:=λi hi=>by
 rw[Qv]at h;exact h i hi
def dR{b:Bool}(h:(!b)=true):b=false:=by simpa using h
def CV{f:Nat}{ps ms:List Nat}{es:RL.Es}(h:XOk C X cl)(z:vV C M f es ps ms e=true):PE X e (mT (wd X.K cl ps f) [] E0<|fU X.K cl es)/\cW es ps ms=true/\(∀ i∈ms,M.contains i=true)/\ms.Nodup/\ps.Nodup/\gm e=true:=by
 unfold vV at z;let#[#[g,w,ks,t],n,z]:=aw z;have Z:=dk n;refine a9 z λI U m l j d c b a=>?_;let#[x,q,I]:=aw I;let#[p,R]:=du q;have R:g=.Name x p:=R;let#[o,Y]:=aQ I;rw[beq_iff_eq]at Y
 have r:ks=[]:=by rw[Qs]at U;exact U
 rw[R,r]at Z;subst Z;refine#[?_,d,LY c,by simpa using b,by simpa using a,rfl];let#[k,fa,fd,pn,F,u,hm,v,hb]:=h.fns f x ps Y;rw[if_neg λz=>by subst z;cases l]at F;let#[s,O]:=pj h j;let#[g1,g2]:=h.gl o
 cases w with
 | nil=>cases m
 |cons y ys=>
  rw[Qz]at O;exact mK F u g1 hm v hb .nil hG s (eD g2).1 (aP ys (aQ O).1)<|dG (aQ O).2
def rE{nm:Str}{f:List Expr->Bool}(h:XOk C X cl)(z:qw C i nm e f=true):∃ x p apos R I,e=.Call (.Attribute (.Name x p) nm apos) R [] I/\X.N[i]?=some x/\vl X.env.scope x/\(x == ("__debug__" : Str))=false/\(x == ("__classdict__" : Str))=false/\(apos.endLine == I.line)=true/\f R=true:=by
 unfold qw at z;let#[#[g,R,ks,I],j,z]:=aw z;have c:=dk j;refine a3 z λU b d=>?_;let#[#[o,a,apos],m,U]:=aw U;have Z:=gK m;have Z:g=.Attribute o a apos:=Z;refine a3 U λl O k=>?_;rw[beq_iff_eq]at O;have O:a=nm:=O
 have n:ks=[]:=by rw[Qs]at b;exact b
 let#[x,p,Y,g1,g2,r,q]:=dO h l;have Y:o=.Name x p:=Y;rw[Z,n,O,Y]at c;exact#[x,p,apos,R,I,c,g1,g2,r,q,k,d]
def yf{a b:Str}{o:Option Str}(h:o=some a)(h':o=some b):b=a:=by rw[h]at h';cases h';rfl
def B8{m:Str}{f:Nat}{es:RL.Es}(h:XOk C X cl)(z:E8 C M m f i es e=true):∃ x p apos O I,e=.Call (.Attribute (.Name x p) m apos) O [] I/\oY X cl f m [0]/\pw m=true/\PE X (.Name x p) (bD i)/\PA X O (fU X.K cl es)/\cO es=O.length/\O.all noStar=true/\O.length<30/\(apos.endLine == I.line)=true/\M.contains i=true:=by
 refine a4 z λa Z Y U=>?_;let#[x,p,apos,O,I,rfl,_,j,hl,hn,R]:=xU h U;let#[g,d]:=aQ R;let#[c,b]:=pj h g;exact#[x,p,apos,O,I,rfl,h.D1 f m [0] a,Z,j,c,of_decide_eq_true d,b,hn,hl,Y]
def FX(c:PS X st (pe (tE X.K cl e')<|C7 (bD i) (tE X.K cl k') zh))(b:PS X st (Aa (bD i) (tE X.K cl k')<|tE X.K cl e'))(hi:M.contains i=true):SS X cl M st (.put i k' e'):=by
 have a1:=KY c hi trivial;have a2:=GW b hi;intro ag s J H D I h;let#[R,o,O,U,e,k]:=h;let#[d,a,e]:=bind_some e;let#[f,Z,e]:=bind_some e;let#[l,Y,e]:=bind_some e
 cases l with
 | lst ds=>exact a1 ag s J H D I ⟨R,o,O,U,by dsimp only;rw[a];dsimp only[Option.bind_some];rw[Z];dsimp only[Option.bind_some];rw[Y];exact e,k⟩
 | _=>exact a2 ag s J H D I ⟨R,o,O,U,by dsimp only;rw[a];dsimp only[Option.bind_some];rw[Z];dsimp only[Option.bind_some];rw[Y];exact e,k⟩
def zG{o k:Expr}{I:Pos}{env:Env}(h:lU k=true)(v:Value):assign (.Subscript o k I) env v=(do
   let ov <- holding [v] (eval o env)
   let O <- holding [v,ov] (eval k env)
   standAt I
   holding [v,ov,O] (setItem ov O v)
   release [v,ov,O] []):=by
 cases k<;>first | rfl | (cases h;done)
def t8{us:List Expr}{I:Nat}{tp:Pos}{env:Env}(h:pE e=true):swappedStores [.Tuple us I tp] e env=pure none:=by
 cases e with
 |Tuple vs k p=>
  have h:vs.all (foldedForSure 8)=true:=h;unfold swappedStores;dsimp only;split
  ·rfl
  ·split
   ·rfl
   ·split
    ·rfl
    ·first | rfl | (rw[if_pos h];rfl)
 | _=>rfl
def F1{α β:Type}{f:α->Option β}:∀ {l:List α} {a:α},a∈l->f a=none->(l.filterMap f).length<l.length
 | b::l,a,h,e=>by
  rw[filterMap_cons];rcases List.mem_cons.mp h with rfl | h
  ·rw[e];exact Nat.lt_succ_of_le (List.length_filterMap_le ..)
  ·have:=F1 h e;split
   all_goals
    simp only[length_cons];omega
def Aq{us:List Expr}{R:Nat}{tp:Pos}{env:Env}(h:env.scope=C.sc)(z:(pE e || us.any λt=>(ke t).any λx=>C.sc.names.lookup x.1 == some .cell)=true):swappedStores [.Tuple us R tp] e env=pure none:=by
 rcases Bool.or_eq_true_iff.mp z with z | z
 ·exact t8 z
 let#[t,U,z]:=List.any_eq_true.mp z;let#[#[x,p],O,I]:=aw z;have O:=m7 O;subst O;rw[beq_iff_eq]at I
 have Y:env.kindOf x=some .cell:=by rw[<-h]at I;exact I
 cases e with
 |Tuple vs k q=>
  unfold swappedStores;dsimp only;split
  ·rfl
  ·split
   ·rfl
   ·refine Eq.trans (if_pos ?_) rfl;rw[or_eq_true];left;rw[bne_iff_ne];exact Qk<|F1 U<|by dsimp only;rw[Y];rfl
 | _=>rfl
def HW{x y:Str}{j i pt Z:Pos}{kt c:Nat}{a b:Expr}(h:XOk C X cl)(k:Eg C x y j i a b=true):swappedStores [.Tuple [.Name x j,.Name y i] kt pt] (.Tuple [a,b] c Z) X.env=pure (some [x,y]) /\
  X.env.scope.names.lookup x=some .local/\X.env.scope.names.lookup y=some .local/\noStar a=true/\noStar b=true:=by
 unfold Eg at k;refine a9 k λg Y U n q m l f e=>?_;rw[beq_iff_eq]at g Y U n;rw[<-h.scope]at g Y U;refine#[?_,Y,U,m,l]
 have bk:X.env.blockKind=.function:=by
  unfold Env.blockKind;rw[g];rfl
 have o:X.env.kindOf x=some .local:=Y;have c:X.env.kindOf y=some .local:=U
 have d:x≠y:=by simpa using q
 have O:foldedForSure 8 a=true->foldedForSure 8 b=false:=λz=>by simpa[z]using f
 have R:constantsAlone 8 a=true->constantsAlone 8 b=false:=λz=>by simpa[z]using e
 have r:[x,y].eraseDups=[x,y]:=by
  rw[List.eraseDups_cons];simp[Ne.symm d];rfl
 unfold swappedStores;simp only[bk];simp[show ∀ (x:Str) (p:Pos),(Expr.Name x p).pos=p from λ_ _=>rfl,o,c,n,r];refine(if_neg ?_).trans<|(if_neg ?_).trans<|if_neg ?_
 ·intro I;rcases I with I | I
  ·clear O R f e;cases a<;>first | exact noConfusion (show false=true from I) | exact noConfusion (show false=true from m)
  ·clear O R f e;cases b<;>first | exact noConfusion (show false=true from I) | exact noConfusion (show false=true from l)
 ·intro I;have:=O I.1;rw[I.2]at this;cases this
 ·intro I;have:=R I.1;rw[I.2]at this;cases this
end
section
variable{X:Cx}{cl:RL.Cl}
mutual
theorem xV:∀ (s:RL.S) {C:CC} {M:List Nat} (h:YOk C X cl) (st:Stmt),CG C M s st=true->SS X cl M st s
 | .asg i e',C,M,h,st,z=>by
  let#[#[B,e],I,z]:=aw z;let#[p,rfl]:=dA I;let#[t,O,z]:=aU z;have O:B=[t]:=O;refine a4 z λR Y U Z=>?_;subst O;exact Lz (yZ h R U Z)<|dR Y
 | .own i e',C,M,h,st,z=>by
  let#[#[B,e],I,z]:=aw z;let#[p,rfl]:=dA I;let#[t,O,z]:=aU z;have O:B=[t]:=O;refine a5 z λR Y U Z d=>?_;subst O;exact IQ (yZ h R Z d) Y<|by simpa using U
 | .iw is e',C,M,h,st,z=>by
  let#[#[B,e],I,z]:=aw z;let#[p,rfl]:=dA I;let#[t,O,z]:=aU z;have O:B=[t]:=O;let#[us,n,z]:=aw z;let#[k,tp,rfl]:=fJ n;refine a4 z λR Y U Z=>?_;subst O;let#[g1,g2,A]:=nC h.toXOk (T:=is) (λi x _ _=>.inl<|h.fn x) (λ_ h=>h) R;refine G2 (pA ((az e' h.toXOk e).1 Z) (vZ (wX h.calm g1 g2 A)<|wH h.calm g1 g2 A) ?_ (Aq h.scope U) rfl)<|xI Y;cases e<;>rfl
 | .par i j a' K,C,M,h,st,z=>by
  let#[#[B,e],I,z]:=aw z;let#[p,rfl]:=dA I;let#[t,O,z]:=aU z;have O:B=[t]:=O;let#[us,n,z]:=aw z;let#[k,tp,v]:=fJ n;let#[s1,s2,V,z]:=fT z;let#[#[x,px],y4,z]:=aw z;let#[#[y,py],y5,z]:=aw z;let#[vs,y6,z]:=aw z;let#[k',tp',e6]:=fJ y6;have e6:e=.Tuple vs k' tp':=e6;let#[a,b,y7,w]:=fT z;rw[m7 y4,m7 y5]at V;rw[V]at v
  have e7:e=.Tuple [a,b] k' tp':=by rw[<-y7];exact e6
  rw[v]at O;subst O e7;refine a8 w λR Y U Z d H D Q=>?_;let#[g1,g2,A,E,g5]:=HW h.toXOk H;exact Js (KN h.calm h.qx (h.nm R).1 (h.nm Y).1 (by simpa using U) g2 A (bK (cl:=cl) ((az a' h.toXOk a).1 D) (bK ((az K h.toXOk b).1 Q) df g5) E) g1 rfl) (dR Z)<|dR d
 | .star i j e',C,M,h,st,z=>by
  let#[#[B,e],I,z]:=aw z;let#[p,rfl]:=dA I;let#[t,O,z]:=aU z;have O:B=[t]:=O;let#[us,n,z]:=aw z;let#[k,tp,v]:=fJ n;let#[s,u,V,z]:=fT z;let#[y,y4,z]:=aw z;let#[sp,e4]:=DL y4;refine a6 z λR Y U Z d H=>?_;let#[x1,p1,e5,n1,l1]:=fA h.toXOk R;let#[x2,p2,e6,n2,l2]:=fA h.toXOk Y;rw[e4,e5,e6]at V;rw[V]at v;rw[v]at O;subst O;refine FN (pA ((az e' h.toXOk e).1 H) (HA h.calm (nF h.qx n1 l1<|.inl<|h.fn x1)<|nF h.qx n2 l2<|.inl<|h.fn x2) ?_ (t8 d) rfl) (dR U)<|dR Z;cases e<;>rfl
 | .app i e',C,M,h,st,z=>by
  let#[e,I,Q]:=aw z;let#[p0,rfl]:=iX I;let#[x,p,apos,L,pos,rfl,g1,g2,A,E,H,D]:=rE h.toXOk Q;let#[y,rfl,z9]:=aU D;refine a3 z9 λZ d D=>?_;refine JW (gJ (EZ PySem.F.plainAttrs_list PySem.F.slot_list_append PySem.F.type_list_append m5 (cI g1 g2 A E) (bK (cl:=cl) ((az e' h.toXOk y).1 D) df d) rfl ?_ H (aP [] d) rfl) rfl) Z;rw[aP [] d];rfl
 | .put i k' e',C,M,h,st,z=>by
  let#[#[B,e],I,z]:=aw z;let#[p,rfl]:=dA I;let#[t,O,z]:=aU z;have O:B=[t]:=O;let#[#[o,k],n,z]:=aw z;let#[sp,v]:=gj n;refine a6 z λR U Z d H D=>?_;let#[x,px,N,g1,g2,A,E]:=dO h.toXOk R;have N:o=.Name x px:=N;rw[N]at v;rw[v]at O;subst O;have pv:=λpos=>cI (X:=X) (pos:=pos) g1 g2 A E;refine FX (pA ((az e' h.toXOk e).1 D) (K4 (pv _) ((az k' h.toXOk k).1 H) set_list<|zG Z) ?_ ?_ rfl) (Gn (Nat.lt_of_le_of_lt ⋯ h.hu) (pv _) ((az k' h.toXOk k).1 H) ((az e' h.toXOk e).1 D)<|ee d) U
  ·unfold swapsWithSole;exact ee d
  ·rfl
 | .aug i o e',C,M,h,st,z=>by
  let#[#[t,op,e],I,z]:=aw z;let#[p,rfl]:=xx I;refine a4 z λR Y U Z=>?_;let#[x,px,G,l1,l2]:=fA h.toXOk R;have G:t=.Name x px:=G;subst G;have U:EK o op=true:=U;have Z:b8 C false e' e=true:=Z;clear I R z
  cases o<;>cases op<;>first | (cases U;done) | skip
  ·exact Cp (f:=λa b=>a+b) (λa b=>rfl) (wF h.qx l1 l2 ((az e' h.toXOk e).1 Z) KP<|.inl<|h.fn x)<|dR Y
  ·exact Cp (f:=λa b=>a-b) (λa b=>rfl) (wF h.qx l1 l2 ((az e' h.toXOk e).1 Z) Mj<|.inl<|h.fn x)<|dR Y
 | .mq i e',C,M,h,st,z=>by
  let#[#[t,op,e],I,z]:=aw z;let#[p,rfl]:=xx I;refine a4 z λR Y U Z=>?_;let#[x,px,G,l1,l2]:=fA h.toXOk R;have G:t=.Name x px:=G;subst G;rw[beq_iff_eq]at U;have U:op=.Add:=U;subst U;exact FE (wF h.qx l1 l2 ((az e' h.toXOk e).1 Z) Ho<|.inl<|h.fn x)<|dR Y
 | .tie3 f r p w,C,M,h,st,z=>by
  let#[e,I,z]:=aw z;let#[p0,rfl]:=iX I;let#[#[g,L,ks,pos],I,z]:=aw z;have P:=dk I;refine a7 z λR Y U Z d H D=>?_;let#[x,y0,R]:=aw R;let#[q,G]:=du y0;have G:g=.Name x q:=G;let#[O,n]:=aQ R;rw[beq_iff_eq]at n
  have w2:ks=[]:=by rw[Qs]at Y;exact Y
  let#[a,b,c,N,D]:=pW D;have N:L=[a,b,c]:=N;refine a3 D λQ z9 z10=>?_;let#[xa,pa,ea,a1,a2,a3,a4]:=dO h.toXOk Q;let#[xb,pb,eb,b1,b2,b3,b4]:=dO h.toXOk z9;let#[xc,pc,apos,as',pos',ec,c1,c2,c3,c4,c5,c6]:=rE h.toXOk z10;have c6:as'=[]:=Qs.mp c6;rw[c6]at ec;rw[G,w2,N,ea,eb,ec]at P;subst P;let#[k,fa,fd,pn,F,hr,hm,hk,hb]:=h.toXOk.fns f x [0] n;rw[if_neg ∅]at F;let#[g1,g2]:=h.toXOk.gl O;exact FU (gJ (mK F hr g1 hm hk hb .nil hG (bu (cI a1 a2 a3 a4) (bu (cI b1 b2 b3 b4) (bu (wQ PySem.F.plainAttrs_list PySem.F.slot_list_pop PySem.F.type_list_pop vD (cI c1 c2 c3 c4) rfl c5) cU rfl) rfl) rfl) (eD g2).1 rfl rfl)<|ee rfl) U (dR Z) d<|by simpa using H
 | .c7 c' a' K,C,M,h,st,z=>by
  let#[#[c,a,b],I,z]:=aw z;let#[p,rfl]:=wN I;refine a3 z λR Y U=>?_;exact MJ ((az c' h.toXOk c).2 R).1 (da a' h a Y)<|da K h b U
 | .ef tg it K,C,M,h,st,z=>by
  let#[#[t,it',b,o],I,z]:=aw z;let#[p,rfl]:=Hf I;refine a7 z λR Y U Z d H D=>?_;have R:o=[]:=Qs.mp R;subst R;exact JC h.xe h.calm (kh it h.toXOk t it' Y) (BS h.toXOk (λi x _ _=>.inl<|h.fn x) U) (da K h b D) (ic Z _) d<|xI H
 | .kv f es ps ms,C,M,h,st,z=>by
  let#[e,I,z]:=aw z;let#[p0,rfl]:=iX I;let#[g1,g2,A,E,g5,g6]:=CV h.toXOk z;exact G9 (gJ g1<|ee g6) g2 A E g5
 | .ret e',C,M,h,st,z=>by
  let#[o,I,z]:=aw z;let#[p,rfl]:=sG I;let#[e,rfl,zz]:=aw z;by_cases QN:yG M e'=true
  ·have:∃ i,e'=.var i:=by
    cases e'<;>first | exact#[_,rfl] | exact noConfusion QN
   let#[i,rfl]:=this;let#[x,q,rfl,g1,g2,A,E]:=dO h.toXOk zz;exact GL g1 g2 A E QN
  ·exact KL ((az e' h.toXOk e).1 zz) λi hi=>by
    subst hi;simpa[yG]using QN
 | .exc e',C,M,h,st,z=>by
  let#[e,I,z]:=aw z;let#[p0,rfl]:=iX I;let#[R,Y]:=aQ z;exact HZ<|gJ ((az e' h.toXOk e).1 Y)<|ee R
 | .never,C,M,h,st,z=>Eu
 | .D3 i e' a' K,C,M,h,st,z=>by
  let#[#[c,a,b],I,z]:=aw z;let#[p,rfl]:=wN I;let#[#[l,os,rs],I,z]:=aw z;let#[cp,ec]:=jP I;have ec:c=.Compare l os rs cp:=ec;let#[op,O,z]:=aU z;let#[e,n,z]:=aU z;have O:os=[op]:=O;have n:rs=[e]:=n;refine a6 z λR Y U Z d H=>?_;rw[beq_iff_eq]at R;let#[x,px,apos,L,pos,v,g1,g2,A,E,D,Q]:=rE h.toXOk H;have v:l=.Call (.Attribute (.Name x px) "pop" apos) L [] pos:=v;have Q:L=[]:=Qs.mp Q;rw[Q]at v;rw[O,n,R,v]at ec;subst ec;exact Ih (wQ PySem.F.plainAttrs_list PySem.F.slot_list_pop PySem.F.type_list_pop vD (cI g1 g2 A E) rfl D) ((az e' h.toXOk e).1 U) (da a' h a Z) (da K h b d) Y
 | .ow c' K,C,M,h,st,z=>by
  let#[#[c,b,o],I,z]:=aw z;let#[p,rfl]:=GP I;refine a3 z λR Y U=>?_;have R:o=[]:=Qs.mp R;subst R;exact CA h.xe ((az c' h.toXOk c).2 Y).1<|da K h b U
 | .parC i j a' K,C,M,h,st,z=>by
  let#[#[B,e],I,z]:=aw z;let#[p,rfl]:=dA I;let#[t,O,z]:=aU z;have O:B=[t]:=O;let#[us,n,z]:=aw z;let#[k,tp,rfl]:=fJ n;refine a3 z λR Y U=>?_;let#[vs,y6,z]:=aw U;let#[k',tp',e6]:=fJ y6;have e6:e=.Tuple vs k' tp':=e6;let#[a,b,y7,w]:=fT z;subst O e6 y7;refine a8 w λw1 w2 w3 w4 w5 w6 w7 w8=>?_;let#[g1,g2,A]:=nC h.toXOk (T:=[i,j]) (λi x _ _=>.inl<|h.fn x) (λ_ h=>h) R;exact Gh (pA (Bv<|bu ((az a' h.toXOk a).1 w7) (bu ((az K h.toXOk b).1 w8) cU<|aP [] w2)<|aP [b] w1) (vZ (wX h.calm g1 g2 A)<|wH h.calm g1 g2 A) rfl (Aq h.scope<|Bool.or_eq_true_iff.mpr<|.inr Y) rfl) w3 (of_decide_eq_true w4) w5<|of_decide_eq_true w6
 | .now i e',C,M,h,st,z=>by
  let#[#[B,e],I,z]:=aw z;let#[p,rfl]:=dA I;let#[t,O,z]:=aU z;have O:B=[t]:=O;refine a5 z λR Y U Z d=>?_;let#[x,q,pos,rfl,_,QN]:=eT h.toXOk Y;subst O;exact JP (h.b0 R).1 QN ((az e' h.toXOk e).1 d) U<|ee Z
 | .pf b i e',C,M,h,st,z=>by
  let#[#[B,e],I,z]:=aw z;let#[p,rfl]:=dA I;let#[t,O,z]:=aU z;have O:B=[t]:=O;refine a5 z λR Y U Z d=>?_;let#[x,q,pos,rfl,_,QN]:=eT h.toXOk Y;subst O;exact Nc (h.b0 R).1 QN ((az e' h.toXOk e).1 d) U<|ee Z
 | .My b i,C,M,h,st,z=>by
  let#[e,I,z]:=aw z;let#[p0,rfl]:=iX I;let#[#[g,L,ks,pos],w0,z]:=aw z;have P:=dk w0;refine a5 z λR Y U Z d=>?_;let#[#[o,nm,apos],y0,yy]:=aw R;have G:g=.Attribute o nm apos:=gK y0;refine a3 yy λO n V=>?_;rw[beq_iff_eq]at n;have n:nm = "append" := n;have u2:ks=[]:=Qs.mp Y;let#[x,q,q1,v,n1,QN]:=eT h.toXOk O;have v:o=.Attribute (.Name x q) (pf b) q1:=v;let#[y,N,zz]:=aU d;have N:L=[y]:=N;let#[x',q',q2,e4,n2,hv2]:=eT h.toXOk zz;have e5:=yf n1 n2;subst P G n u2 v N e4 e5;exact Ln (h.b0 U).1 QN hv2 Z V
 | .ppo b i,C,M,h,st,z=>by
  let#[#[B,e],I,z]:=aw z;let#[p,rfl]:=dA I;let#[t,O,z]:=aU z;have v1:B=[t]:=O;let#[zt,z]:=aQ z;let#[#[g,L,ks,pos],w0,z]:=aw z;have P:e=.Call g L ks pos:=dk w0;refine a5 z λR Y U Z d=>?_;let#[#[o,nm,apos],y0,yy]:=aw R;have G:g=.Attribute o nm apos:=gK y0;refine a3 yy λO n V=>?_;rw[beq_iff_eq]at n;have n:nm = "pop" := n;have u2:ks=[]:=Qs.mp Y;have u5:L=[]:=Qs.mp d;let#[x,q,q1,v,n1,QN]:=eT h.toXOk O;have v:o=.Attribute (.Name x q) (pf b) q1:=v;let#[x',q',q2,e4,n2,hv2]:=eT h.toXOk zt;have e5:=yf n1 n2;subst v1 P G n u2 u5 v e4 e5;exact Lj (h.b0 U).1 hv2 QN Z V
 | .ifL b i x y,C,M,h,st,z=>by
  let#[#[c,a,K],I,z]:=aw z;let#[p,rfl]:=wN I;refine a4 z λR Y U Z=>?_;let#[#[op,o],w0,w]:=aw Y;let#[q0,P]:=qz w0;have P:c=.UnaryOp op o q0:=P;let#[w1,w2]:=aQ w;rw[beq_iff_eq]at w1;have w1:op=.Not:=w1;let#[x',q,q1,v,n1,QN]:=eT h.toXOk w2;have v:o=.Attribute (.Name x' q) (pf b) q1:=v;subst P w1 v;exact IH (h.b0 R).1 QN (da x h _ U)<|da y h _ Z
 | .oD m f i es,C,M,h,st,z=>by
  let#[e,I,z]:=aw z;let#[p0,rfl]:=iX I;let#[x,p,apos,L,pos,rfl,g1,g2,A,E,g5,g6,g7,g8,g9]:=B8 h.toXOk z;exact KS g1 g2 A E g5 g6 g7 g8 g9
 | .zv m f i es,C,M,h,st,z=>by
  let#[o,I,z]:=aw z;let#[p,rfl]:=sG I;let#[e,rfl,zz]:=aw z;let#[x,p,apos,L,pos,rfl,g1,g2,A,E,g5,g6,g7,g8,g9]:=B8 h.toXOk zz;exact LM g1 g2 A E g5 g6 g7 g8 g9
theorem da:∀ (s:RL.Ss) {C:CC} {M:List Nat} (h:YOk C X cl) (st:List Stmt),fF C M s st=true->nA X cl M st s
 | .nil,C,M,h,st,z=>by
  have z:st=[]:=Qs.mp z;subst z;exact FG
 | .cons s r,C,M,h,st,z=>by
  cases st with
  | nil=>cases z
  |cons x xs=>
   let#[I,O]:=aQ z;exact DC (xV s h x I)<|da r h xs O
 | .act i g eH a' es,C,M,h,st,z=>by
  let#[s1,s2,rfl,z]:=fT z;let#[#[V,v],E,z]:=aw z;let#[p,rfl]:=dA E;refine a3 z λI O U=>?_;let#[t,Z,I]:=aU I;have Z:V=[t]:=Z;subst Z;let#[I,Y]:=aQ I;let#[n,np,rfl,n1,l1]:=fA h.toXOk I;let#[n',np',e1,m1,m2,m3,m4]:=dO h.toXOk Y;cases e1;let#[#[o,k],K,O]:=aw O;let#[sp,u]:=gj K;have u:v=.Subscript o k sp:=u;subst u;refine a3 O λa P N=>?_;let#[x,QN,a]:=aw a;let#[gp,rfl]:=du QN;refine a3 a λA L w=>?_;rw[beq_iff_eq]at A w;subst A;let#[ro,H,b1]:=aw U;let#[rp,rfl]:=sG H;let#[ce,rfl,b2]:=aw b1;let#[#[f,as,ks,D],G,b3]:=aw b2;have e5:=dk G;subst e5;refine a4 b3 λT B S Q=>?_;let#[n2,cp,l,k1,k2,k3,k4]:=dO h.toXOk T;have l:f=.Name n2 cp:=l;subst l
  have en:n2=n:=by
   have q:=k1;rw[n1]at q;exact(Option.some.inj q).symm
  subst en
  have e7:ks=[]:=by rw[Qs]at B;exact B
  subst e7
  cases as with
  | nil=>cases S
  |cons e0 c=>
   let#[q1,_,R]:=gM es h.toXOk (e0::c) Q;rw[Qz]at R;let#[q2,R]:=aQ R;let#[d,bx,d1,d2,d3,d4]:=h.OW x eH w;let#[g1,g2]:=h.gl L;refine Hj h.qx n1 l1 k2 k3 k4 (.inl<|h.fn _) ((az a' h.toXOk k).1 N) (t5 P) g1 d1 (eD g2).1 d2 (λy m e=>?_) q1 q2 R<|ee rfl;let#[q,nm,f1,f2,f3]:=d4 y m e;let#[kk,fa,fd,ps,F,hr,hm,b,hb]:=h.fns m nm [] f2;rw[if_pos rfl]at F;rw[f3]at hm;cases hm;exact#[q,kk,fd,ps,f1,F,hr,b,hb]
 | .tell _ _ _ _ _ _,C,M,h,st,z=>by cases z
 | .lx j e' r,C,M,h,st,z=>by
  cases st with
  | nil=>cases z
  |cons x xs=>
   refine a3 z λI O U=>?_;exact GV (AX h I) (dR O) (lK r h xs U (λ_=>dH) λk b=>Qp b (List.count_le_count_cons ..))
theorem lK:∀ (s:RL.Sq) {C:CC} {M N:List Nat} (h:YOk C X cl) (st:List Stmt),qj C M N s st=true->(∀ i,M.contains i=true->N.contains i=true)->(∀ j,2<=M.count j->2<=N.count j)->SQ X cl M N st s
 | .cls r,C,M,N,h,st,z,I,O=>LZ (da r h st z) I
 | .cons s r,C,M,N,h,st,z,I,O=>by
  cases st with
  | nil=>cases z
  |cons x xs=>
   let#[U,R]:=aQ z;exact Hh (xV s h x U) (lK r h xs R I O) O
 | .lx j e' r,C,M,N,h,st,z,I,O=>by
  cases st with
  | nil=>cases z
  |cons x xs=>
   refine a3 z λU R Y=>?_;exact J0 (AX h U) (by simpa using R) (lK r h xs Y (λi hi=>dH<|I i hi) λk a=>Qp (O k a) (List.count_le_count_cons ..))
 | .cy j r,C,M,N,h,st,z,I,O=>by
  let#[U,z]:=aQ z;let#[R,Y]:=aQ z
  have e:N=j::M:=by simpa using Y
  subst e;exact KD (da r h st U)<|dR R
 | .fz j r,C,M,N,h,st,z,I,O=>by
  let#[U,z]:=aQ z;refine a3 z λR Z Y=>?_
  have e:N=j::N.tail:=by simpa using Y
  have Z:=dR Z;generalize N.tail=N' at *;subst e;refine N6 (lK r h st U (λi hi=>?_) λi hi=>?_)<|dR R
  ·exact(f7<|I i hi).resolve_left λq=>by subst q;rw[Z]at hi;cases hi
  ·have:=O i hi;rw[List.count_cons]at this;split at this
   ·rename_i q
    have q:j=i:=by simpa using q
    subst q;have:M.count j=0:=List.count_eq_zero.mpr (by simpa using Z);omega
   ·exact this
end
end
structure eU where
 name:Str
 st:Stmt
 ps:List Str
 N:List Str
structure md where
 B:List Str
 G:List (Str × Int)
 Ds:List eU
 T:List RL.Fn
 W:List (Str × List (Str × Nat)):=[]
 L:Bool:=false
 Ms:List eU:=[]
abbrev md.Mt(p:md):List (Nat × Str × List Nat):=((p.Ms.zip<|p.T.drop p.Ds.length).zipIdx p.Ds.length).map λq=>(q.2,q.1.1.name,q.1.2.mp)
abbrev md.F(p:md):List (Str × List Nat):=(p.Ds.zip p.T).map λq=>(q.1.name,q.2.mp)
abbrev md.cc(p:md)(d:eU):CC:=#[d.N,aS d.st,p.B,p.G,p.F,p.W,p.L,p.Mt]
abbrev wg(N ps:List Str)(sc:Scope):Bool :=
 sc.kind == .function && !sc.isCoroutine && !sc.isGenerator&&decide N.Nodup&&N.take ps.length == ps&&ps.all (λx=>sc.names.lookup x == some .local || sc.names.lookup x == some .cell)&&sc.names.all (λy=>!(y.2 == .free))
abbrev fnB(p:md)(d:eU)(fn:RL.Fn):Bool :=
 wg d.N d.ps (aS d.st)&&fn.ps == d.ps.length&&fn.nn == d.N.length&&decide (d.ps.length<=d.N.length)&&(List.range fn.ps).all (λi=>!fn.M.contains i || fn.mp.contains i)&&fn.mp.all (λi=>decide (i<fn.ps)&&decide (2<=fn.M.count i))&&fF (p.cc d) fn.M fn.body (cY d.st)
abbrev md.ok(p:md):Bool:=((p.Ds++p.Ms).zip p.T).all λq=>fnB p q.1 q.2
def oS{N ps:List Str}{sc:Scope}(h:wg N ps sc=true):iR N ps sc:=by
 unfold wg at h;refine a7 h λc b a Z Y O I=>?_;refine#[by simpa using c,by simpa using b,by simpa using a,by simpa using Z,by simpa using Y,λx U=>?_,λy R=>?_]
 ·rw[Qv]at O;have:=O x U;rw[or_eq_true,beq_iff_eq,beq_iff_eq]at this;exact this
 ·rw[Qv]at I;have:=I y R;intro z;rw[z]at this;simp at this
structure EV(p:md)(w:World)(K:W.Frag)(mg:Str->Option Value):Prop where
 defs:∀ (f:Nat) (d:eU),p.Ds[f]?=some d->∃ fa fd,mg d.name=some (.ref fa)/\nN K d.name d.name d.st fa fd/\W.keepIn K (.ref fa)=true/\Binds K fd d.ps []
 blt:∀ x∈p.B,mg x=none
 lp:∀ x i,p.G.lookup x=some i->∃ u,mg x=some u/\RelV (.int i) u
 OW:∀ x eH,p.W.lookup x=some eH->∃ (d:Addr) (bx:List (Str × Addr)),mg x=some (.ref d)/\((d == sysModules)=false/\∀ (P:Program) (h:Heap),K.In h->h.DictOf (bo P w) d (bx.map λq=>((Sum.inr q.1:Key),Value.ref q.2)))/\bx.map (·.1)=eH.map (·.1)/\∀ y m,RL.jt eH (.str y)=some m->∃ q nm,(bx.find? λq=>decide<|q.1=y)=some q/\p.F[m]?=some (nm,[])/\mg nm=some (.ref q.2)
 b0:p.L=true->gb K mg
 D1:∀ (j:Nat) (d:eU),p.Ms[j]?=some d->∃ C fa fd qual,(dX K "Loft" C/\L2.h8 K C/\Meth K C d.name fa)/\nN K d.name qual d.st fa fd/\Binds K fd d.ps []
section
variable{p:md}{K:W.Frag}{mg:Str->Option Value}{base:Heap}{P:Program}{w:World}
abbrev wJ(K:W.Frag)(cl:RL.Cl)(mp:List Nat)(f:Nat):Sp:=if mp=[]then ru K cl f else wd K cl mp f
def bI{α:Type}(vs:List α)(k:Nat)(i:Nat)(v:α):(vs.map some++replicate k none)[i]?=some (some v)↔vs[i]?=some v:=by
 by_cases h:i<vs.length
 ·rw[Ql<|by simpa using h];simp[h]
 ·rw[Qo<|by simpa using h];constructor
  ·intro e;rw[List.getElem?_replicate]at e;split at e<;>cases e
  ·intro e;have:=(List.getElem?_eq_some_iff.mp e).1;lia
def GX{ds:List RL.D}{vs:List V}{H:Hp}{M:List Nat}{k n:Nat}(r:ab nP K H ds vs)(O:∀ i,i<n->M.contains i=false)(hn:ds.length=n):c8 K M (ds.map some++replicate k none) (vs.map some++replicate k none) H:=by
 have I:∀ a,¬ bE M (vs.map some++replicate k none) a:=λa ⟨i,hi,e⟩=>by
  rw[bI]at e;have:=(List.getElem?_eq_some_iff.mp e).1;rw[O i<|by rw[<-hn,r.length];exact this]at hi;cases hi
 refine#[by simp[r.length],λi d e=>?_,λi v e=>?_,λi j a hi Z Y b=>(I a #[i,hi,Y]).elim]
 ·rw[bI]at e;let#[v,U,R]:=r.get e;have hl:=(List.getElem?_eq_some_iff.mp e).1;refine#[v,(bI _ _ _ _).mpr U,?_];rw[if_neg<|by rw[O i ⋯];decide];exact R.weak λa ha=>I a ha
 ·rw[bI]at e;have hl:=(List.getElem?_eq_some_iff.mp e).1;exact#[ds[i]'(by rw[r.length];exact hl),(bI _ _ _ _).mpr<|by simp]
def Hs{ds:List RL.D}{vs:List V}{H:Hp}{M mp:List Nat}{k n:Nat}(a:Ld K mp ds vs H)(Z:∀ i,i<n->M.contains i=true->i∈mp)(g:∀ i∈mp,M.contains i=true)(hn:ds.length=n):c8 K M (ds.map some++replicate k none) (vs.map some++replicate k none) H:=by
 have r:=a.rR
 have I:∀ i v,(vs.map some++replicate k none)[i]?=some (some v)->M.contains i=true->i∈mp/\vs[i]?=some v:=λi v e hi=>by
  rw[bI]at e;have:=(List.getElem?_eq_some_iff.mp e).1;exact#[Z i (by rw[<-hn,r.length];exact this) hi,e]
 refine#[by simp[r.length],λi d e=>?_,λi v e=>?_,λi j b hi U o m=>?_]
 ·rw[bI]at e;let#[v,Y,p]:=r.get e;have hl:=(List.getElem?_eq_some_iff.mp e).1;refine#[v,(bI _ _ _ _).mpr Y,?_];by_cases hm:M.contains i=true
  ·rw[if_pos hm];let#[q,b,g1,g2,h]:=a.own i<|Z i ⋯ hm;rw[e]at g1;cases g1;rw[Y]at g2;cases g2;exact h
  ·rw[if_neg hm];refine(a.oth i d v (λz=>hm<|g i z) e Y).weak λb ⟨j,U,l⟩=>?_;let#[R,O]:=I j _ l U;exact#[j,R,O]
 ·rw[bI]at e;have hl:=(List.getElem?_eq_some_iff.mp e).1;exact#[ds[i]'(by rw[r.length];exact hl),(bI _ _ _ _).mpr<|by simp]
 ·let#[R,O]:=I i _ o hi;let#[f,c]:=I j _ m U;exact a.sep i R j f b O c
def wL{J:RL.St}:∀ {mp:List Nat} {outs:List RL.D},RL.i5 J mp=some outs->outs.length=mp.length/\∀ (k i:Nat) o,mp[k]?=some i->outs[k]?=some o->J[i]?=some (some o)
 | [],outs,h=>by
  rw[RL.i5]at h;cases h;exact#[rfl,λk i o e=>by simp at e]
 | m::mp,outs,h=>by
  rw[RL.i5]at h;let#[d,Y,h]:=bind_some h;let#[os,U,R]:=map_some h;subst R;let#[g1,g2]:=wL U;refine#[by simp[g1],λk i o O I=>?_]
  cases k with
  |zero=>
   simp at O I;subst O I;exact slot_get Y
  | succ k=>exact g2 k i o (by simpa using O)<|by simpa using I
def BH{fn:RL.Fn}{d r:RL.D}{J:RL.St}(h:RL.bz fn d J=some r)(hm:fn.mp=[]):r=d:=by
 unfold RL.bz at h;rw[hm]at h;simpa using h.symm
def HY{fn:RL.Fn}{d r:RL.D}{J:RL.St}(h:RL.bz fn d J=some r)(hm:fn.mp≠[]):d.ax=true/\∃ outs,RL.i5 J fn.mp=some outs/\r=.tup (d::outs):=by
 unfold RL.bz at h;rw[if_neg<|by simpa using hm]at h;split at h
 ·rename_i I;let#[os,R,O]:=map_some h;exact#[I,os,R,O.symm]
 ·cases h
def wB{α:Type}{a b:List α}{i:Nat}{x:α}(h:a[i]?=some x):(a++b)[i]?=some x:=by
 rw[Ql (List.getElem?_eq_some_iff.mp h).1];exact h
def Ic{p:md}{f:Nat}{m:Str}{mp:List Nat}(h:p.Mt.contains (f,m,mp)=true):∃ (j:Nat) (d:eU) (fn:RL.Fn),p.Ms[j]?=some d/\(p.Ds++p.Ms)[f]?=some d/\p.T[f]?=some fn/\d.name=m/\fn.mp=mp:=by
 have hm:(f,m,mp)∈p.Mt:=by simpa using h
 unfold md.Mt at hm;let#[#[#[d,fn],k],Z,Y]:=List.mem_map.mp hm;cases Y;let#[I,U]:=List.mem_zipIdx_iff_le_and_getElem?_sub.mp Z;let#[R,O]:=List.getElem?_zip_eq_some.mp U;refine#[k-p.Ds.length,d,fn,R,?_,?_,rfl,rfl]
 ·rw[Qo I];exact R
 ·rw[List.getElem?_drop]at O;rw[<-O];congr 1;have I:p.Ds.length<=k:=I;show k=p.Ds.length+(k-p.Ds.length);omega
def qG(b9:p.ok=true)(tp:EV p w K mg):∀ (n f:Nat) (d:eU) (fn:RL.Fn),(p.Ds++p.Ms)[f]?=some d->p.T[f]?=some fn->∀ fa fd qual,nN K d.name qual d.st fa fd->dt P w K mg base ml (6*n+9) fa fd d.ps (wJ K (RL.au p.T n) fn.mp f)
 | 0,f,d,fn,hd,hf,fa,fd,qual,F=>by
  have no:∀ vs H Q E,¬ wJ K (RL.au p.T 0) fn.mp f vs H Q E:=λvs H Q E h=>by
   unfold wJ at h;split at h
   ·let#[ds,r,_,e,_]:=h;cases e
   ·let#[ds,r,o,e,_]:=h;cases e
  exact#[λvs H Q E h=>(no vs H Q E h).elim,λA outer s H args us vs Q E _ _ _ _ h=>(no vs H Q E h).elim]
 | n+1,f,d,fn,hd,hf,fa,fd,qual,F=>by
  have hok':=b9;unfold md.ok at hok';rw[Qv]at hok'
  have hz:((p.Ds++p.Ms).zip p.T)[f]?=some (d,fn):=by
   rw[List.getElem?_zip_eq_some];exact#[hd,hf]
  have hB:=hok' (d,fn)<|Qt hz;unfold fnB at hB;dsimp only at hB;refine a7 hB λb1 b2 b3 b4 b5 b6 b7=>?_;rw[beq_iff_eq]at b2 b3;rw[decide_eq_true_eq]at b4;rw[Qv]at b5 b6;have S:=oS b1
  have hM:∀ i,i<fn.ps->fn.M.contains i=true->i∈fn.mp:=λi hi hm=>by
   have:=b5 i<|List.mem_range.mpr hi;rw[hm]at this;simpa using this
  have hp2:∀ i∈fn.mp,i<fn.ps/\2<=fn.M.count i:=λi hi=>by simpa using b6 i hi
  have unf:∀ ds r,RL.au p.T (n+1) f ds=some r->ds.length=fn.ps/\∃ o I,RL.aq (RL.au p.T n) fn.M fn.body (ds.map some++replicate (fn.nn-fn.ps) none)=some (o,I)/\(match o with | .nx=>RL.bz fn .cb I | .rt d=>RL.bz fn d I)=some r:=by
   intro ds r h;rw[RL.au,hf]at h;dsimp only[Option.bind_some]at h;split at h
   ·rename_i hlen;let#[#[o,I],h1,h2]:=bind_some h;exact#[hlen,o,I,h1,h2]
   ·cases h
  rw[show 6*(n+1)+9=6*n+14+1 by omega];refine nN.ok F S (λvs H Q E h=>?_) λft A outer s H vs Q E hr h=>?_
  ·unfold wJ at h;split at h
   ·let#[ds,r,r1,e,_]:=h;rw[<-r1.length,(unf ds r e).1,b2]
   ·let#[ds,r,o,e,a,_]:=h;rw[<-a.rR.length,(unf ds _ e).1,b2]
  ·-- the body's context
   have Y:YOk (p.cc d) (kX ml P w K mg base d.N qual (aS d.st) fa ft A outer s H E).lk (RL.au p.T n):={
    scope:=rfl
    names:=rfl
    nd:=S.nd
    calm:=rfl
    xe:=rfl
    hu:=by
     have:=hr.un;show(A.deeper _).units+100<cLine;lia
    blt:=tp.blt
    lp:=tp.lp
    OW:=λx eH hx=>let ⟨d,bx,a,b,c⟩:=tp.OW x eH hx;⟨d,bx,a,⟨b.1,λh q=>b.2 _ h q⟩,c⟩
    fns:=λg x mp hg=>by
     have Z:p.F[g]?=some (x,mp):=hg;unfold md.F at Z;rw[QM]at Z;let#[#[d',B],QN,q2]:=map_some Z;cases q2;rw[List.getElem?_zip_eq_some]at QN;let#[t,l,t1,t2,t3,t4]:=tp.defs g d' QN.1;exact#[6*n+9,t,l,d'.ps,qG b9 tp n g d' B (wB QN.1) QN.2 t l _ t2,hr.mono (by omega),t1,t3,t4]
    b0:=λhL=>#[tp.b0 hL,hr.mono<|by omega]
    D1:=λg m mp hg=>by
     let#[j,d',B,QN,q2,q3,rfl,rfl]:=Ic hg;let#[C,t,l,qual',t1,t2,t3]:=tp.D1 j d' QN;exact#[6*n+9,t,l,d'.ps,C,qG b9 tp n g d' B q2 q3 t l qual' t2,hr.mono (by omega),t1,t3]
    mkl:=λg hL hg=>by
     have Z:p.F[g]?=some (("check_pegs" : Str),[]):=hg;unfold md.F at Z;rw[QM]at Z;let#[#[d',B],QN,q2]:=map_some Z;rw[List.getElem?_zip_eq_some]at QN;let#[t,l,t1,t2,t3,t4]:=tp.defs g d' QN.1;let#[CH,fH,fdH,hh]:=(tp.b0 hL).hd;let#[C,fI,fdI,L]:=(tp.b0 hL).lf;have e1:d'.name = "check_pegs" := congrArg Prod.fst q2;have e2:B.mp=[]:=congrArg Prod.snd q2;have FF:=qG b9 tp n g d' B (wB QN.1) QN.2 t l _ t2;rw[e2]at FF;rw[e1]at t1;exact#[6*n+10,C,fI,fdI,L,Gb (k:=6*n+7) L hh FF t1 t3 t4,hr.mono<|by omega]
    fn:=λ_=>rfl }
   have body:=da fn.body Y (M:=fn.M) _ b7;refine#[_,body,?_];have X:start d.N vs=vs.map some++replicate (d.N.length-vs.length) none:=rfl;unfold wJ at h;split at h
   ·rename_i y;let#[ds,r,r1,e,k]:=h;let#[hlen,o,I,e1,e2]:=unf ds r e
    have hvl:vs.length=fn.ps:=by rw[<-r1.length];exact hlen
    refine#[_,o,I,?_,e1,?_]
    ·rw[X,hvl,<-b3]
     exact GX r1 (λi hi=>by
      cases hc:fn.M.contains i with
      | false=>rfl
      |true=>
       have:=hM i hi hc;rw[y]at this
       cases this) hlen
    ·have noA:∀ a,¬ bE fn.M (start d.N vs) a:=λa ⟨i,hi,ei⟩=>by
      rw[X,bI]at ei;have h3:=(List.getElem?_eq_some_iff.mp ei).1;have:=hM i ⋯ hi;rw[y]at this;cases this
     cases o with
     |nx=>
      have hr':=BH (d:=.cb) e2 y;subst hr';intro R G U O;refine k .cb G (λb u eb=>(O.1 b u eb<|noA b).1)<|by rw[Rep]
     |rt d0=>
      have hr':=BH (d:=d0) e2 y;subst hr';intro R G v H' U O sm rp;refine k v H' (λb u eb=>sm _ _ (O.1 b u eb<|noA b).1) (rp _ λq hq=>?_);let#[u,hu]:=Option.ne_none_iff_exists'.mp hq;have:=O.1 q u hu<|noA q;exact#[(by rw[this.1];exact λz=>nomatch z),this.2]
   ·rename_i y;let#[ds,r,outs,e,a,k]:=h;let#[hlen,o,I,e1,e2]:=unf ds _ e
    have hvl:vs.length=fn.ps:=by rw[<-a.rR.length];exact hlen
    refine#[_,o,I,?_,e1,?_]
    ·rw[X,hvl,<-b3];exact Hs a hM (λi hi=>ny (hp2 i hi).2) hlen
    ·-- the lists behind it
     have fin:∀ (d0:RL.D) (R:L2.St) (G H':Hp) (v:V),RL.bz fn d0 I=some (.tup<|r::outs)->c8 K fn.M I R G->ek fn.M (start d.N vs) H R G->aB G H'->(d0.ax=true->Rep nP K H' d0 v)->Q v H':=by
      intro d0 R G H' v ht U O sm rp;let#[im,os,g1,g2]:=HY ht y;cases g2;let#[l1,l2]:=wL g1;refine k v H' (λb u nb eb=>sm _ _ (O.1 b u eb λ⟨i,hi,ei⟩=>?_).1) (rp im) im ⟨l1,λkk pp oo hk ho=>?_⟩
      ·rw[X,bI]at ei;have h3:=(List.getElem?_eq_some_iff.mp ei).1;exact nb ⟨i,hM i ⋯ hi,ei⟩
      ·have hpm:=Qt hk;let#[dp,ap,g3,g4,g5]:=a.own pp hpm;have g6:=O.2 pp (hp2 pp hpm).2
       have g7:(start d.N vs)[pp]?=some (some<|.ref ap):=by rw[X,bI];exact g4
       rw[g7]at g6;let#[v',g8,g9]:=U.val pp oo<|l2 kk pp oo hk ho;rw[g6]at g8;cases g8;rw[if_pos<|ny (hp2 pp hpm).2]at g9;exact#[ap,g4,g9.same sm]
     cases o with
     |nx=>
      intro R G U O
      exact fin .cb R G G .cb e2 U O (aB.refl _) λ_=>by rw[Rep]
     |rt d0=>
      intro R G v H' U O sm rp;exact fin d0 R G H' v e2 U O sm λim=>rp nP λ_ z=>z.elim
end
abbrev spL(n:Nat)(p:md)(f:Nat)(K:W.Frag):Sp:=ru K (RL.au p.T n) f
def IG{n:Nat}{p:md}{f:Nat}{K:W.Frag}{H:Hp}{a:Addr}{ns:List Int}(R:vg H)(I:dz K H a (ns.map V.int))(h:RL.au p.T n f [.lq<|ns.map RL.D.int]=some (.bl true)):spL n p f K [.ref a] H (λv _=>v=.bl true) λ_ _ _=>False:=by
 refine#[_,_,?_,h,λv H' _ r=>bJ r];refine ab.cons ?_ ab.nil;rw[Rep];refine#[a,ns.map V.int,rfl,?_,?_]
 ·rcases I with(z | ⟨o,z⟩) | z
  ·rcases R a with q | ⟨o,xs,q⟩
   ·rw[q]at z;cases z
   ·rw[q]at z;cases z
  ·exact .inl #[o,z]
  ·exact .inr<|.inr z
 ·clear I h
  induction ns with
  | nil=>exact ab.nil
  | cons i r O=>exact ab.cons bC O
end RS
namespace gV
open PySem PySem.Spec PyProof.Rows L2
abbrev top(i:Nat):Stmt:=PySem.Challenge.pw_ribbonloft_k52_whole_frames_tied_anew.main.body.getD i<|.Pass ⟨0,0,0,0⟩
abbrev cx(x:Str)(i n:Nat)(N:List Str):RS.eU:=#[x,top i,N.take n,N]
abbrev Ds:List RS.eU:=[
 cx "is_number" 17 1 ["value"],
 cx "is_peg_count" 18 1 ["value"],
 cx "check_pegs" 19 1 ["pegs"],
 cx "is_pairing" 21 1 ["row", "place"],
 cx "names_back" 22 2 ["row", "place", "other"],
 cx "is_uncrossed" 23 1 ["row", "waiting", "place", "other"],
 cx "tie" 24 3 ["row", "one", "other"],
 cx "run" 25 3 ["one", "other", "start", "places", "onward", "side"],
 cx "rings_of" 26 2 ["one", "other", "seen", "start", "many"],
 cx "mark" 27 2 ["seen", "places", "place"],
 cx "is_frame" 29 1 ["frame", "pegs", "alone", "peg", "other"],
 cx "check_frame" 30 1 ["frame"],
 cx "pegs_of" 31 1 ["frame"],
 cx "plain" 32 1 ["pegs"],
 cx "over" 33 1 ["frame"],
 cx "mirrored" 34 1 ["frame", "pegs"],
 cx "from_brackets" 35 1 ["text", "row", "waiting", "place", "sign"],
 cx "is_brackets" 36 1 ["text", "depth", "sign"],
 cx "round_place" 37 2 ["pegs", "peg"],
 cx "in_round" 38 1 ["frame", "pegs", "peg"],
 cx "moved" 39 2 ["frame", "to", "ends", "peg", "other"],
 cx "stacked" 41 2 ["pegs", "frames", "frame", "whole", "rings", "fallen"],
 cx "put_under" 42 2 ["upper", "lower", "pegs", "ribbons", "joints", "outer", "ends", "frame", "peg", "end"],
 cx "joints_between" 43 1 ["pegs", "top", "above", "beneath", "bottom"],
 cx "with_frame" 57 3 ["holding", "name", "frame", "tied"],
 cx "with_pile" 59 3 ["holding", "name", "pile", "piled"],
 cx "is_name" 61 1 ["word", "sign"],
 cx "frame_named" 62 2 ["holding", "name"],
 cx "stack_named" 63 2 ["holding", "name"],
 cx "check_place" 64 3 ["at", "first", "last"],
 cx "comes_to" 65 2 ["holding", "pile", "fallen", "entries", "frame", "rings", "entry"],
 cx "entry_frame" 66 2 ["holding", "entry", "frame", "kind", "name", "turned", "flipped"],
 cx "pile_with" 69 4 ["holding", "stack", "at", "name", "fallen", "entries"],
 cx "upright" 70 1 ["name"],
 cx "tie_frame" 72 2 ["holding", "handed", "name", "frame"],
 cx "retie_frame" 73 2 ["holding", "handed", "name", "frame"],
 cx "drop_frame" 74 2 ["holding", "handed", "name", "having"],
 cx "begin_stack" 75 2 ["holding", "handed", "name"],
 cx "take_stack" 76 2 ["holding", "handed", "name"],
 cx "hang_frame" 77 2 ["holding", "handed", "stack", "at", "name", "fallen", "entries"],
 cx "hang_hook" 78 2 ["holding", "handed", "entries", "stack", "at", "number", "fallen"],
 cx "unhang_entry" 80 2 ["holding", "handed", "rest", "stack", "at", "fallen", "entries"],
 cx "swap_entries" 81 2 ["holding", "handed", "entries", "stack", "at", "fallen"],
 cx "turn_stack" 82 2 ["holding", "handed", "stack", "entries", "fallen", "entry"],
 cx "mirror_stack" 83 2 ["holding", "handed", "stack", "entries", "fallen", "entry"],
 cx "splice_entries" 84 2 ["holding", "handed", "entries", "stack", "at", "name", "fallen", "frame", "rings"],
 cx "cut_stack" 85 2 ["holding", "handed", "shorter", "stack", "at", "name", "fallen", "entries"],
 cx "done" 87 2 ["holding", "deed", "action", "word", "handed"],
 cx "check_new_name" 88 2 ["named", "name"],
 cx "check_new_stack" 89 2 ["holding", "name"],
 cx "check_fitting" 90 2 ["holding", "frame"],
 cx "check_room" 91 2 ["many", "most"],
 cx "turned_over" 92 1 ["entry", "kind", "name", "turned", "flipped"],
 cx "flipped_over" 93 2 ["pegs", "entry", "kind", "name", "turned", "flipped"],
 cx "loft_with" 101 1 ["holding", "loft"],
 cx "how_many" 103 1 ["pegs"],
 cx "numbered" 104 2 ["pegs", "number", "text", "depth", "ahead", "left", "opened"],
 cx "ways" 105 2 ["steps", "height", "downward"],
 cx "choices" 106 2 ["many", "chosen", "found", "at"],
 cx "check_number" 107 2 ["number", "many"],
 cx "_law_mix" 109 1 ["_law_seed", "_law_one", "_law_two"],
 cx "_law_raw" 110 2 ["_law_script", "_law_k", "_law_cell", "_law_found", "_law_turn"],
 cx "_law_digits" 111 3 ["_law_script", "_law_k", "_law_sizes", "_law_rest", "_law_found", "_law_size"],
 cx "_law_frame_of" 112 3 ["_law_script", "_law_k", "_law_pegs"],
 cx "_law_deeds" 113 2 ["_law_script", "_law_pegs", "_law_found", "_law_k", "_law_name", "_law_size", "_law_kind", "_law_spot", "_law_which", "_law_deed"],
 cx "law" 114 1 ["_law_script", "_law_pegs", "_law_deed", "_law_size", "_law_before", "_law_kept", "_law_twin", "_law_spliced", "_law_spot", "_law_here", "_law_there", "_law_old", "_law_new", "_law_name"]]
abbrev NO(j:Nat):Stmt:=match top 100 with
 | .ClassDef _ _ _ b ..=>b.getD j<|.Pass ⟨0,0,0,0⟩
 | s=>s
abbrev qy(x:Str)(j n:Nat)(N:List Str):RS.eU:=#[x,NO j,N.take n,N]
abbrev Ms:List RS.eU:=[qy "comes" 26 2 ["self", "stack"],qy "do" 1 2 ["self", "deed", "holding", "told"],qy "entries" 24 2 ["self", "stack"],qy "frame" 23 2 ["self", "name"],qy "frames" 21 1 ["self"],qy "retie" 8 3 ["self", "name", "frame"],qy "splice" 18 4 ["self", "stack", "at", "name"],qy "tie" 7 3 ["self", "name", "frame"],qy "turn" 16 2 ["self", "stack"],qy "twin" 6 1 ["self", "other"],qy "undo" 2 1 ["self"]]
abbrev p:RS.md:=#[["all", "bool", "dict", "enumerate", "int", "isinstance", "len", "list", "range", "sorted", "str", "tuple"],[("LONGEST_NAME",8),("MOST_ENTRIES",24),("MOST_FRAMES",12),("MOST_PEGS",10),("MOST_STACKS",8)],Ds,T,[("DEEDS",[("tie",34),("retie",35),("drop",36),("stack",37),("unstack",38),("hang",39),("hook",40),("unhang",41),("swap",42),("turn",43),("mirror",44),("splice",45),("cut",46)])],true,Ms]
def O5:p.ok=true:=by decide +kernel
def fP{P:List Value->Prop}{n:Nat}(h:∀ a t,t.length=n->P (a::t))(us:List Value)(hl:us.length=n+1):P us:=by
 cases us with
 | nil=>cases hl
 | cons a t=>exact h a t<|Nat.succ.inj hl
def rH{P:List Value->Prop}(h:P [])(us:List Value)(hl:us.length=0):P us:=by
 rw[List.eq_nil_of_length_eq_zero hl];exact h
def all1{P:List Value->Prop}(h:∀ a0,P [a0]):∀ us:List Value,us.length=1->P us :=
 fP λa0=>rH<|h a0
def all2{P:List Value->Prop}(h:∀ a0 a1,P [a0,a1]):∀ us:List Value,us.length=2->P us :=
 fP λa0=>fP λa1=>rH<|h a0 a1
def oy{P:List Value->Prop}(h:∀ a0 a1 a2,P [a0,a1,a2]):∀ us:List Value,us.length=3->P us :=
 fP λa0=>fP λa1=>fP λa2=>rH<|h a0 a1 a2
def KQ{P:List Value->Prop}(h:∀ a0 a1 a2 a3,P [a0,a1,a2,a3]):∀ us:List Value,us.length=4->P us :=
 fP λa0=>fP λa1=>fP λa2=>fP λa3=>rH<|h a0 a1 a2 a3
section
variable{K:W.Frag}{h:Heap}{mg:Str->Option Value}{x:Str}{st:Stmt}{f:Addr}{oc kV dc pm cd ct:Value}{od an:Option Addr}{sl:Array (Option Value)}{ps:List Str}
abbrev At(K:W.Frag)(mg:Str->Option Value)(x:Str)(st:Stmt)(ps:List Str):Prop:=∃ f fd,mg x=some (.ref f)/\nN K x x st f fd/\W.keepIn K (.ref f)=true/\Binds K fd ps []
def L0(X:K.In h)(G:h.Ns mainGlobals mg)(a:W.nsIn K mainGlobals x=some (some<|.ref f))(l:K.lookup f=some ⟨oc,od,.func<|W.fnOf x x (eQ st) (cY st) (aS st) .none kV dc pm an cd ct,sl⟩)(c:W.codeIn K cd x=true)(k:W.keepIn K (.ref f)=true)
 (b:∀ (kV doc pm:Value) (an:Option Addr) (ft ct:Value) (us:List Value),us.length=ps.length->bindArgs (W.fnOf x x (eQ st) (cY st) (aS st) .none kV doc pm an ft ct) ⟨us,[]⟩=pure (ps.zip us)):At K mg x st ps :=
 ⟨f,_,W.mg_of X G a,ko (st:=st) l c k,k,(ko (st:=st) l c k).binds b⟩
abbrev sA(K:W.Frag)(mg:Str->Option Value):List RS.eU->Prop
 | []=>True
 | d::r=>At K mg d.name d.st d.ps/\sA K mg r
def sA.get:∀ {l:List RS.eU} {f:Nat} {d:RS.eU},sA K mg l->l[f]?=some d->At K mg d.name d.st d.ps
 | [],_,_,_,e=>by cases e
 | _::_,0,_,h,e=>by cases e;exact h.1
 | _::_,f+1,_,h,e=>sA.get (f:=f) h.2 e
abbrev AllP(P:Str->Prop):List Str->Prop
 | []=>True
 | x::r=>P x/\AllP P r
def AllP.get{P:Str->Prop}:∀ {l:List Str},AllP P l->x∈l->P x
 | _::_,h,e=>(List.mem_cons.mp e).elim (λz=>z▸h.1) λz=>AllP.get h.2 z
abbrev r9(K:W.Frag):List (Str × Int)->Prop
 | []=>True
 | q::r=>(∃ t,W.nsIn K mainGlobals q.1=some (some<|.int q.2 t))/\r9 K r
def r9.get{i:Int}:∀ {l:List (Str × Int)},r9 K l->l.lookup x=some i->∃ t,W.nsIn K mainGlobals x=some (some<|.int i t)
 | [],_,e=>by cases e
 | q::_,h,e=>by
  rw[Qn]at e
  cases hb:x == q.1 with
  | true=>rw[hb]at e;cases e;rw[eq_of_beq hb];exact h.1
  | false=>rw[hb]at e;exact r9.get h.2 e
abbrev vK:Stmt:=match top 56 with
 | .ClassDef _ _ _ b ..=>b.getD 0<|.Pass ⟨0,0,0,0⟩
 | s=>s
abbrev wt:Stmt:=match top 100 with
 | .ClassDef _ _ _ b ..=>b.getD 0<|.Pass ⟨0,0,0,0⟩
 | s=>s
def KU:L2.zy vK where
 body:=#[_,_,_,_,_,_,_,_,_,_,_,_,rfl]
 sc:=RS.oS<|by decide +kernel
 v0:=by decide +kernel
 v1:=by decide +kernel
 v2:=by decide +kernel
 v3:=by decide +kernel
def K3:L2.Fy wt where
 body:=#[_,_,_,_,_,_,_,_,_,_,_,_,_,_,_,_,_,_,_,_,rfl]
 sc:=RS.oS<|by decide +kernel
 v0:=by decide +kernel
 v1:=by decide +kernel
 g1:=by decide +kernel
 g2:=by decide +kernel
def Lx{P:List Value->Prop}(h:∀ a0 a1,P [a0,a1]):∀ us:List Value,us.length=2->P us :=
 fP λa0=>fP λa1=>rH<|h a0 a1
def KA{P:List Value->Prop}(h:∀ a0 a1 a2 a3,P [a0,a1,a2,a3]):∀ us:List Value,us.length=4->P us :=
 fP λa0=>fP λa1=>fP λa2=>fP λa3=>rH<|h a0 a1 a2 a3
def Nj(X:K.In h)(G:h.Ns mainGlobals mg){C:Addr}(n:W.nsIn K mainGlobals "Holding" = some (some<|.ref C))(a:L2.rV K C f)(n1:W.findIn K (.ref C) "width" = some none)(n2:W.findIn K (.ref C) "tied" = some none)(n3:W.findIn K (.ref C) "piled" = some none)
 (l:K.lookup f=some ⟨oc,od,.func<|W.fnOf "__init__" "Holding.__init__" (eQ vK) (cY vK) (aS vK) .none kV dc pm an cd ct,sl⟩)(c:W.codeIn K cd "Holding.__init__" = true)(k:W.keepIn K (.ref f)=true):∃ C fI fd,L2.HdK K mg C fI fd :=
 have F:=ko (st:=vK) l c k
 ⟨C,f,_,n,a.c,n1,n2,n3,a.m,W.mg_of X G n,F.binds λ_ _ _ _ _ _=>KA λ_ _ _ _  => rfl,_,_,KU,F⟩
def MY(X:K.In h)(G:h.Ns mainGlobals mg){C:Addr}(n:W.nsIn K mainGlobals "Loft" = some (some<|.ref C))(a:L2.rV K C f)(n1:W.findIn K (.ref C) "now" = some none)(n2:W.findIn K (.ref C) "past" = some none)(n3:W.findIn K (.ref C) "future" = some none)
 (l:K.lookup f=some ⟨oc,od,.func<|W.fnOf "__init__" "Loft.__init__" (eQ wt) (cY wt) (aS wt) .none kV dc pm an cd ct,sl⟩)(c:W.codeIn K cd "Loft.__init__" = true)(k:W.keepIn K (.ref f)=true):∃ C fI fd,L2.LfK K mg C fI fd :=
 have F:=ko (st:=wt) l c k
 ⟨C,f,_,n,a.c,n1,n2,n3,a.m,W.mg_of X G n,F.binds λ_ _ _ _ _ _=>Lx λ_ _  => rfl,_,_,K3,F⟩
abbrev AtM(K:W.Frag)(x:Str)(st:Stmt)(ps:List Str):Prop:=∃ C fa fd qual,(RS.dX K "Loft" C/\L2.h8 K C/\Meth K C x fa)/\nN K x qual st fa fd/\Binds K fd ps []
def IJ{C:Addr}{qual:Str}(n:W.nsIn K mainGlobals "Loft" = some (some<|.ref C))(cc:L2.h8 K C)(a:W.findIn K (.ref C) x=some (some<|.ref f))(i:W.isFn K (.ref f)=true)(l:K.lookup f=some ⟨oc,od,.func<|W.fnOf x qual (eQ st) (cY st) (aS st) .none kV dc pm an cd ct,sl⟩)(c:W.codeIn K cd qual=true)(k:W.keepIn K (.ref f)=true)
 (b:∀ (kV doc pm:Value) (an:Option Addr) (ft ct:Value) (us:List Value),us.length=ps.length->bindArgs (W.fnOf x qual (eQ st) (cY st) (aS st) .none kV doc pm an ft ct) ⟨us,[]⟩=pure (ps.zip us)):AtM K x st ps :=
 ⟨C,f,_,qual,⟨n,cc,⟨a,i,k⟩⟩,ko (st:=st) l c k,(ko (st:=st) l c k).binds b⟩
abbrev sI(K:W.Frag):List RS.eU->Prop
 | []=>True
 | d::r=>AtM K d.name d.st d.ps/\sI K r
def sI.get:∀ {l:List RS.eU} {f:Nat} {d:RS.eU},sI K l->l[f]?=some d->AtM K d.name d.st d.ps
 | [],_,_,_,e=>by cases e
 | _::_,0,_,h,e=>by cases e;exact h.1
 | _::_,f+1,_,h,e=>sI.get (f:=f) h.2 e
structure Tp(w:World)(K:W.Frag)(mg:Str->Option Value):Prop where
 t10:RS.gb K mg
 t11:sI K Ms
 t1:sA K mg Ds
 t2:AllP (λx=>W.nsIn K mainGlobals x=some none) p.B
 t3:r9 K p.G
 t6:∃ (d a0 a1 a2 a3 a4 a5 a6 a7 a8 a9 a10 a11 a12:Addr) (es:List DictEntry) (ep:Nat),W.nsIn K mainGlobals "DEEDS" = some (some<|.ref d)/\(d == sysModules)=false/\K.lookup d=some ⟨.type "dict",none,.dict es.toArray ep,(List.toArray [])⟩/\W.nsIn K mainGlobals "tie_frame" = some (some<|.ref a0)/\W.nsIn K mainGlobals "retie_frame" = some (some<|.ref a1)/\W.nsIn K mainGlobals "drop_frame" = some (some<|.ref a2)/\W.nsIn K mainGlobals "begin_stack" = some (some<|.ref a3)/\W.nsIn K mainGlobals "take_stack" = some (some<|.ref a4)/\W.nsIn K mainGlobals "hang_frame" = some (some<|.ref a5)/\W.nsIn K mainGlobals "hang_hook" = some (some<|.ref a6)/\W.nsIn K mainGlobals "unhang_entry" = some (some<|.ref a7)/\W.nsIn K mainGlobals "swap_entries" = some (some<|.ref a8)/\W.nsIn K mainGlobals "turn_stack" = some (some<|.ref a9)/\W.nsIn K mainGlobals "mirror_stack" = some (some<|.ref a10)/\W.nsIn K mainGlobals "splice_entries" = some (some<|.ref a11)/\W.nsIn K mainGlobals "cut_stack" = some (some<|.ref a12)/\RS.Ent w es [("tie",a0),("retie",a1),("drop",a2),("stack",a3),("unstack",a4),("hang",a5),("hook",a6),("unhang",a7),("swap",a8),("turn",a9),("mirror",a10),("splice",a11),("cut",a12)]
def JV{w:World}(X:K.In h)(G:h.Ns mainGlobals mg)(A:Tp w K mg):RS.EV p w K mg where
 OW:=by
  let#[d,a0,a1,a2,a3,a4,a5,a6,a7,a8,a9,a10,a11,a12,es,ep,Y,n1,l,r,q,o,n,m,k,g,c,b,a,U,R,O,E]:=A.t6;exact RS.HB (W.mg_of X G Y) n1 (RS.Nl l E (show(["tie", "retie", "drop", "stack", "unstack", "hang", "hook", "unhang", "swap", "turn", "mirror", "splice", "cut"]:List Str).Nodup by decide +kernel))<|.cons rfl (W.mg_of X G r)<|.cons rfl (W.mg_of X G q)<|.cons rfl (W.mg_of X G o)<|.cons rfl (W.mg_of X G n)<|.cons rfl (W.mg_of X G m)<|.cons rfl (W.mg_of X G k)<|.cons rfl (W.mg_of X G g)<|.cons rfl (W.mg_of X G c)<|.cons rfl (W.mg_of X G b)<|.cons rfl (W.mg_of X G a)<|.cons rfl (W.mg_of X G U)<|.cons rfl (W.mg_of X G R)<|.cons rfl (W.mg_of X G O) .nil
 defs:=λf d e=>A.t1.get e
 blt:=λx I=>W.mg_none_of X G<|A.t2.get I
 b0:=λ_=>A.t10
 D1:=λj d e=>A.t11.get e
 lp:=λx i I=>let ⟨t,Z⟩:=A.t3.get I;⟨_,W.mg_of X G Z,t,rfl⟩
end
end gV
end
open PySem PySem.W PyProof.Rows
set_option maxRecDepth 100000 in
set_option maxHeartbeats 0 in
theorem PySem.Challenge.cw_ribbonloft_k52_whole_frames_tied_anew_holds : PySem.Challenge.rw_ribbonloft_k52_whole_frames_tied_anew.Holds := by
 refine hdTop ?_
 k_fill
 refine L2.CP (l:=PySem.Challenge.rw_ribbonloft_k52_whole_frames_tied_anew) (n:=63) (k:=189) (x := "_law_script") (CX:=L2.ml) (sp:=RS.spL 30 gV.p 65) rfl (by decide) rfl ⟨rfl,by decide,by decide⟩ (λw h Y=>kIn_of Y) ?F ?S ?C
 case F =>
  intro w mg fa h KX G hmg
  have T:gV.Tp w (L2.KOf KX) mg:=by
   dsimp only[L2.KOf];constructor
   ·refine⟨?hh,?ll⟩
    case hh=>refine' gV.Nj KX G ?n ?a ?n1 ?n2 ?n3 ?l ?c ?k;(case n=>k_is);(case a=>refine' ⟨?u1,?u2,?u3,?u4,?u5,?u6,?u7,?u8⟩;(case u1=>k_is);(case u2=>k_is);(case u3=>k_is);(case u4=>k_is);(case u5=>k_is);(case u6=>k_is);(case u7=>k_is);(case u8=>k_is));(case n1=>k_is);(case n2=>k_is);(case n3=>k_is);(case l=>k_is);(case c=>k_is);(case k=>k_is)
    case ll=>refine' gV.MY KX G ?n ?a ?n1 ?n2 ?n3 ?l ?c ?k;(case n=>k_is);(case a=>refine' ⟨?u1,?u2,?u3,?u4,?u5,?u6,?u7,?u8⟩;(case u1=>k_is);(case u2=>k_is);(case u3=>k_is);(case u4=>k_is);(case u5=>k_is);(case u6=>k_is);(case u7=>k_is);(case u8=>k_is));(case n1=>k_is);(case n2=>k_is);(case n3=>k_is);(case l=>k_is);(case c=>k_is);(case k=>k_is)
   ·dsimp only[gV.sI,gV.Ms,gV.qy,List.take]
    iterate 11 (refine' ⟨gV.IJ ?n ?cc ?a ?i ?l ?c ?k ?b,?_⟩;(case n=>k_is);(case cc=>refine' ⟨?u5,?u6,?u7,?u8⟩;(case u5=>k_is);(case u6=>k_is);(case u7=>k_is);(case u8=>k_is));(case a=>k_is);(case i=>k_is);(case l=>k_is);(case c=>k_is);(case k=>k_is);(case b=>first | exact λ_ _ _ _ _ _=>gV.all1 λ_=>rfl | exact λ_ _ _ _ _ _=>gV.all2 λ_ _=>rfl | exact λ_ _ _ _ _ _=>gV.oy λ_ _ _=>rfl | exact λ_ _ _ _ _ _=>gV.KQ λ_ _ _ _=>rfl))
    exact True.intro
   ·dsimp only[gV.sA,gV.Ds,gV.cx,List.take]
    iterate 66 (refine' ⟨gV.L0 KX G ?a ?l ?c ?k ?b,?_⟩;(case a=>k_is);(case l=>k_is);(case c=>k_is);(case k=>k_is);(case b=>first | exact λ_ _ _ _ _ _=>gV.all1 λ_=>rfl | exact λ_ _ _ _ _ _=>gV.all2 λ_ _=>rfl | exact λ_ _ _ _ _ _=>gV.oy λ_ _ _=>rfl | exact λ_ _ _ _ _ _=>gV.KQ λ_ _ _ _=>rfl))
    exact True.intro
   ·dsimp only[gV.AllP,gV.p]
    iterate 12 (refine' ⟨?a,?_⟩;(case a=>k_is))
    exact True.intro
   ·dsimp only[gV.r9,gV.p]
    iterate 5 (refine⟨⟨_,by k_is⟩,?_⟩)
    exact True.intro
   ·refine⟨_,_,_,_,_,_,_,_,_,_,_,_,_,_,_,_,by k_is,?d,by k_is,by k_is,by k_is,by k_is,by k_is,by k_is,by k_is,by k_is,by k_is,by k_is,by k_is,by k_is,by k_is,by k_is,?e⟩
    case d=>rfl
    case e=>exact .cons rfl rfl rfl<|.cons rfl rfl rfl<|.cons rfl rfl rfl<|.cons rfl rfl rfl<|.cons rfl rfl rfl<|.cons rfl rfl rfl<|.cons rfl rfl rfl<|.cons rfl rfl rfl<|.cons rfl rfl rfl<|.cons rfl rfl rfl<|.cons rfl rfl rfl<|.cons rfl rfl rfl<|.cons rfl rfl rfl .nil
  have tp:=gV.JV KX G T;obtain⟨fa',fd,h1,h2,h3,h4⟩:=tp.defs 65 _ rfl;have e0:=hmg.symm.trans h1;cases e0;refine⟨fd,λs u=>?_,λbase kb nb=>RS.qG gV.O5 tp 30 65 _ _ rfl rfl _ _ _ h2⟩;obtain⟨oc,od,kV,doc,pm,an,ft,ct,zr,e9,_,_⟩:=h2.ex;subst e9;exact .of_eq rfl
 case S=>exact λK H a ns hl hO hS=>RS.IG hO hS<|gV.main ns hl
 case C=>exact λ_ _ _ _ h=>h

