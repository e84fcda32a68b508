import PyProof.Rows.All
import Wide.All
import Wide.FinOn
import Lean
import PyProof.EqAt
import PyProof.EqKinds
import PyProof.TupleCall
import PyProof.AttrMissHeap
import KE.KDictOf
import PyProof.SetRoads
import PyProof.CollectWalk
import PyProof.ZipIter
import PyProof.TupleIter
import PyProof.NeKinds
import PyProof.DictStraight
import PyProof.WalksMore
import KE.KDictList
import KE.KSortTup
import KE.KItemsList
import PyProof.EnumMake
import PyProof.EnumStmt
import PyProof.EnumFor
import PyProof.Rows.EnumRows
import KE.KFromBytes
import KE.KIsAll
import KE.KItem
import KE.KSortAsk
import KE.KTab
import KE.KxBytes
import Open.Claim
import Open.Fast
import Open.FastLooks
import Open.FastTabs
import Open.Head
import Open.Line
import Open.Recs
import Open.Row
import Open.Strs
import OpenK.KCall
import OpenK.KCls
import OpenK.KDescr
import OpenK.KFacts
import OpenK.KGet
import OpenK.KLine
import OpenK.KMake
import OpenK.KMore
import OpenK.KOwn
import OpenK.KRaise
import OpenK.KWalk
import OpenK.Peek
import PySem.Challenge.RW_castwright_k77_forgetting_refused
set_option Elab.async false
set_option linter.all false
set_option maxRecDepth 100000
set_option maxHeartbeats 4000000
set_option compiler.extract_closed false
theorem Qzz(n:Nat)(h:n<=9:=by decide):n<=PySem.sizeLine:=Nat.le_trans h (by decide)
noncomputable section
abbrev Yb:=@List.getElem?_cons_zero
abbrev Yc:=@List.getElem?_cons_succ
abbrev Yd:=@List.mem_cons_of_mem
abbrev Ye:=@List.mem_cons_self
abbrev Yg:=@List.length_cons
abbrev Yh:=@List.length_map
abbrev Yi:=@List.length_nil
abbrev Yj:=@List.length_append
abbrev Yk:=@List.set_cons_zero
abbrev Yl:=@List.set_cons_succ
abbrev Ym:=@List.map_cons
abbrev Yn:=@List.size_toArray
abbrev Yo:=@List.mem_cons
abbrev Yp:=@List.getElem?_eq_getElem
abbrev Yq:=@Bool.false_eq_true
abbrev Yr:=@Nat.le_refl
abbrev Ys:=@Nat.ne_of_lt
abbrev Yt:=@Nat.le_trans
abbrev Yu:=@Nat.lt_of_lt_of_le
abbrev Yv:=@List.append_assoc
abbrev Yw:=@List.nil_append
abbrev Yx:=@List.append_nil
abbrev Yy:=@List.map_append
abbrev Yz:=@List.mem_append
abbrev YA:=@List.mem_singleton
abbrev YB:=@List.map_map
abbrev YC:=@List.mem_map
abbrev YD:=@Option.map_some
abbrev YE:=@Option.some.inj
abbrev YF:=@Bool.not_true
abbrev YG:=@Bool.and_eq_true
abbrev YH:=@decide_eq_true
abbrev YI:=@List.map_nil
abbrev YJ:=@List.getElem?_append_left
abbrev YK:=@Nat.le_of_lt
abbrev YL:=@Nat.lt_irrefl
abbrev YM:=@List.mem_append_left
abbrev YN:=@List.mem_append_right
abbrev YO:=@Bool.not_false
abbrev YQ:=@Array.getElem?_toList
abbrev YR:=@List.getElem?_map
abbrev YS:=@decide_eq_true_eq
abbrev YT:=@Option.map_eq_some_iff
abbrev YU:=@List.nodup_cons
abbrev YV:=@Array.length_toList
abbrev YW:=@Bool.false_ne_true
abbrev YX:=@Nat.zero_le
abbrev YY:=@Ne.symm
abbrev YZ:=@Array.getElem?_eq_getElem
abbrev Qa:=@List.getElem?_eq_some_iff
abbrev Qb:=@Nat.le_add_right
abbrev Qc:=@List.not_mem_nil
abbrev Qd:=@List.getD_eq_getElem?_getD
abbrev Qe:=@List.flatMap_cons
abbrev Qf:=@Option.bind_eq_some_iff
abbrev Qg:=@PyProof.Rows.callWith_type1
abbrev Qh:=@List.getElem?_eq_none
abbrev Qi:=@List.length_eq_zero_iff
abbrev Qj:=@List.getElem_mem
abbrev Qk:=@False.elim
open PySem in
abbrev Ql:=@wpAny_bind
open PySem in
abbrev Qm:=@wpAny_pure
open PySem in
abbrev Qn:=@Heap.get?_push_of_some
open PySem in
abbrev Qo:=@Heap.lt_size
open PySem in
abbrev Qp:=@Heap.get?_push_size
open PySem in
abbrev Qq:=@Heap.size_push
open PySem in
abbrev Qr:=@Heap.SameBut.update
open PySem in
abbrev Qs:=@Heap.get?_update_self
set_option hygiene false in
local macro_rules | `(tactic| walk_at "pa")=>`(tactic| (simp only [YG] at h'))
set_option hygiene false in
local macro_rules | `(tactic| walk_at "pb")=>`(tactic| (refine B1 (fun h=>?_) (fun h=>?_)))
set_option hygiene false in
local macro_rules | `(tactic| walk_at "pc")=>`(tactic| (refine Ql (Ql (wpAny_askSetting (Qm ?_)))))
set_option hygiene false in
local macro_rules | `(tactic| walk_at "pd")=>`(tactic| (simp only [List.drop_succ_cons,List.drop_zero,AN,gNm,Ay,if_true,List.replicate,Ym,YI,Yb,Option.getD_some,Yk,List.cons_append,Yw,Aa,Ac,Ab,Yc]))
set_option hygiene false in
local macro_rules | `(tactic| walk_at "pe")=>`(tactic| (simp only [Yk,Yl]))
set_option hygiene false in
local macro_rules | `(tactic| walk_at "pf")=>`(tactic| (refine DZ (fun ω' F=>∃ L J,ω'=[some (.ref s),some k.enc,some (.ref p),some (.int ((m+1:Nat):Int)),some (.int r),some (.ref z),some one.enc,some a.enc,none,none,none,L,J]∧Hs s G F) ?_ (fun Ar=>?_)))
set_option hygiene false in
local macro_rules | `(tactic| walk_at "pg")=>`(tactic| (simp only [AO,Ax,Ad,Ae,Ab,gC,Yb,Yc,Kd.enc,ixW,Bb,An,Hy,Bc,List.replicate,Ym,YI,Option.getD_some,List.cons_append,Yw]))
set_option hygiene false in
local macro_rules | `(tactic| walk_at "ph")=>`(tactic| (simp only [Ag,Aa,Ac,Ab,Yb,Yc]))
set_option hygiene false in
local macro_rules | `(tactic| walk_at "pi")=>`(tactic| (exact ⟨(XN (by decide +kernel)).trans (congrArg (_::·) a),(XO (by decide +kernel)).trans b⟩))
set_option hygiene false in
local macro_rules | `(tactic| walk_at "pj")=>`(tactic| (show wpAny (model prog w) _ (if bt w=true then _ else _) _ _ s))
set_option hygiene false in
local macro_rules | `(tactic| walk_at "pk")=>`(tactic| (rcases Yo.mp h with rfl | h))
set_option hygiene false in
local macro_rules | `(tactic| walk_at "pl")=>`(tactic| (simp only [Af,gIf,gTB,Ad,Ae,Ab,gC,Yb,ixW,Bg,An,Bd]))
set_option hygiene false in
local macro_rules | `(tactic| walk_at "pm")=>`(tactic| (rcases Yo.mp a with rfl | a))
set_option hygiene false in
local macro_rules | `(tactic| walk_at "pn")=>`(tactic| (simp only [Ad,Aq,Ag,Ab,gC,Aa,Ac,Yb,Yc]))
set_option hygiene false in
local macro_rules | `(tactic| walk_at "po")=>`(tactic| (simp only [Ah,Ag,Ab,gC,Aa,Ac,Yb,Yc]))
set_option hygiene false in
local macro_rules | `(tactic| walk_at "pp")=>`(tactic| (refine ⟨(show 3≤sizeLine by decide),?_⟩))
set_option hygiene false in
local macro_rules | `(tactic| walk_at "pq")=>`(tactic| (obtain ⟨a,b,c⟩:=Km r us (fun z=>d (Yd _ z)) hl))
set_option hygiene false in
local macro_rules | `(tactic| walk_at "pr")=>`(tactic| (exact Kn r _ _ _ (fun z=>a (Yd _ z)) (by lia) h))
set_option hygiene false in
local macro_rules | `(tactic| walk_at "ps")=>`(tactic| (have h':(decide (-NB≤i∧i≤NB)&&r.ok)=true:=h))
set_option hygiene false in
local macro_rules | `(tactic| walk_at "pt")=>`(tactic| (obtain ⟨a,b⟩:=Ko r us (fun z=>c (Yd _ z)) hl))
set_option hygiene false in
local macro_rules | `(tactic| walk_at "pu")=>`(tactic| (refine Ql (wpAny_setField hi rfl (by simp) ?_)))
set_option hygiene false in
local macro_rules | `(tactic| walk_at "pv")=>`(tactic| (rw [Yg] at hl))
namespace L2
open PySem PySem.Spec PyProof.Rows
def Kp(s:Stmt)(j:Nat):Stmt:=match s with
 | .ClassDef _ _ _ body _ _ _ _ _ _ _=>body.getD j (.Pass ⟨0,0,0,0⟩)
 | _=>.Pass ⟨0,0,0,0⟩
def D1(s:Stmt):Arguments:=match s with
 | .FunctionDef _ a _ _ _ _ _ _ _ _=>a
 | _=>{posonlyargs:=[],args:=[],vararg:=none,kwonlyargs:=[],kw_defaults:=[],kwarg:=none,defaults:=[]}
def Bv(s:Stmt):List Stmt:=match s with
 | .FunctionDef _ _ b _ _ _ _ _ _ _=>b
 | _=>[]
def Ap(s:Stmt):Scope:=match s with
 | .FunctionDef _ _ _ _ _ _ sc _ _ _=>sc
 | _=>{kind:=.function,names:=[],isGenerator:=false,isCoroutine:=false}
end L2
namespace KT
open PySem PySem.Spec PyProof.Rows L2
 def top (i:Nat):Stmt:=PySem.Challenge.pw_castwright_k77_forgetting_refused.main.body.getD i (.Pass ⟨0,0,0,0⟩)
abbrev pwS:Program:=PySem.Challenge.pw_castwright_k77_forgetting_refused
abbrev rwS:PySem.W.OpenLaw:=PySem.Challenge.rw_castwright_k77_forgetting_refused
noncomputable def vwS:Program:=PySem.W.view pwS [1,2,3,4,5,6,7,9,10,11,12,13,14,15,16,17,18,19,20,21,22,23,24,25,26,27,29,30,31,33,34,35,36,37,38,39,40,41,42,43,44,45,47,48,49,50,51,52,53,54,55,56,57,58,59,61,62,63,64,65,66,67,68,69,70,71,72,73,74,75,76,77]
abbrev en(P:Params)(k:Str)(t:Tok)(v:Value):DictEntry:=⟨PyData.keyHash P k,.str k t,v⟩
abbrev co(n:Str)(a l g r f e:Nat)(x y:Value)(z t u:Nat):Obj:=.mk (.type "code") Option.none (.fields #[.str n a,.str n (a+1),.str "/claim/cut.py" (a+2),.int l 0,.int g 0,.int 0 0,.int 0 0,.int 3 0,.ref r,.bool Bool.true,.int f 0,.ref e,.none,x,y,.ref z,.int t 0,.int l 0,.str "/claim/cut.py" u]) #[]
abbrev fo(n:Str)(s:Stmt)(q:Str)(t c:Nat):Obj:=.mk (.type "function") Option.none (.func (PySem.W.fnOf n n (D1 s) (Bv s) (Ap s) .none .none .none (.str q t) Option.none (.ref c) .none)) #[]
noncomputable def KF:Params->PySem.W.Frag:=λP=>
 (nat_lit 2,.mk .none Option.none (.dict #[]) #[])::
 (nat_lit 3,.mk (.type "dict") Option.none (.dict #[en P "__name__" 165 (.str "law_castwright_k77_forgetting_refused" 679),en P "__doc__" 166 .none,en P "__package__" 167 .none,en P "__loader__" 168 (.builtin "__main__.__loader__#opaque"),en P "__spec__" 169 .none,en P "__annotations__" 170 (.ref 6),en P "__builtins__" 171 (.ref 4),en P "__file__" 173 (.str "/claim/cut.py" 172),en P "__cached__" 174 .none,en P "CastError" 206 (.ref 24),en P "NoKind" 222 (.ref 37),en P "NoTerm" 238 (.ref 49),en P "BadUse" 263 (.ref 68),en P "NoValue" 279 (.ref 80),en P "NoNumber" 295 (.ref 92),en P "BadNote" 311 (.ref 104),en P "MOST_KINDS" 315 (.int 40 314),en P "MOST_DEPTH" 317 (.int 8 316),en P "MOST_LETTERS" 319 (.int 8 318),en P "MARKS" 322 (.ref 107),en P "LENGTHS" 341 (.ref 108),en P "entry_of" 350 (.ref 115),en P "names_of" 356 (.ref 120),en P "names_of_both" 364 (.ref 127),en P "is_kind" 371 (.ref 134),en P "is_made_of" 377 (.ref 139),en P "layer_within" 387 (.ref 146),en P "kinds_in" 396 (.ref 153),en P "kinds_within" 402 (.ref 158),en P "has_form" 409 (.ref 165),en P "are_fields" 415 (.ref 170),en P "is_field" 422 (.ref 177),en P "is_name" 428 (.ref 182),en P "is_small_letter" 435 (.ref 189),en P "names_rise" 441 (.ref 194),en P "is_less" 449 (.ref 199),en P "is_less_row" 455 (.ref 204),en P "is_less_entry" 463 (.ref 211),en P "MOST_TERMS" 467 (.int 40 466),en P "MOST_TERM_DEPTH" 469 (.int 10 468),en P "MOST_NUMBER" 471 (.int 99999999999999999999 470),en P "FORMS" 529 (.ref 212),en P "check_term" 536 (.ref 234),en P "is_term" 543 (.ref 241),en P "form_of" 550 (.ref 248),en P "parts_of" 556 (.ref 253),en P "has_term_form" 562 (.ref 258),en P "is_of_sort" 570 (.ref 265),en P "is_number" 577 (.ref 272),en P "are_term_fields" 583 (.ref 277),en P "is_term_field" 590 (.ref 284),en P "forgettings" 599 (.ref 291),en P "forgotten" 606 (.ref 298),en P "less_term" 612 (.ref 303),en P "kinds_told" 618 (.ref 308),en P "told_by" 624 (.ref 313),en P "all_told" 633 (.ref 320),en P "without_kinds" 639 (.ref 325),en P "less_terms" 645 (.ref 330),en P "less_kinds" 651 (.ref 335),en P "with_one" 660 (.ref 342),en P "with_kinds_within" 666 (.ref 347),en P "with_kind" 672 (.ref 352),en P "with_parts" 678 (.ref 357),en P "_law_state" 689 (.ref 364),en P "_law_take" 699 (.ref 371),en P "_law_kind" 711 (.ref 378),en P "_law_least" 717 (.ref 383),en P "_law_dim" 723 (.ref 388),en P "_law_blur" 731 (.ref 395),en P "_law_by_name" 737 (.ref 400),en P "_law_term" 756 (.ref 407),en P "_law_any_first" 769 (.ref 414),en P "_law_around" 785 (.ref 421),en P "_law_parts" 791 (.ref 426),en P "_law_size" 797 (.ref 431),en P "_law_drawn" 809 (.ref 438),en P "_law_which" 817 (.ref 445),en P "_law_asked" 826 (.ref 452),en P "_law_flags" 837 (.ref 459),en P "law" 850 (.ref 466)] 81) #[])::
 (nat_lit 15,.mk (.type "tuple") Option.none (.seq #[.type "ValueError"]) #[])::
 (nat_lit 22,.mk (.type "tuple") Option.none (.seq #[]) #[])::
 (nat_lit 23,.mk (.type "dict") Option.none (.dict #[en P "__module__" 196 (.str "castwright.errors" 187),en P "__firstlineno__" 200 (.int 2 199),en P "__static_attributes__" 201 (.ref 22),en P "__weakref__" 203 (.ref 25),en P "__doc__" 204 .none] 3) #[])::
 (nat_lit 24,.mk (.type "type") Option.none (.cls (.mk "CastError" [.type "ValueError"] [.ref 24,.type "ValueError",.type "Exception",.type "BaseException",.type "object"] 23 "CastError" Bool.true [] [.ref 37,.ref 49,.ref 68,.ref 80,.ref 92,.ref 104] Bool.false Option.none Bool.false)) #[Option.some (.ref 15),Option.none,Option.some (.str "CastError" 189),Option.some (.str "CastError" 197),Option.some (.builtin "ValueError.__new__"),Option.some (.bool Bool.true)])::
 (nat_lit 25,.mk (.type "getset_descriptor") Option.none (.fields #[.str "__weakref__" 202,.ref 24,.builtin "ExceptionGroup.__weakref__",.none]) #[])::
 (nat_lit 28,.mk (.type "tuple") Option.none (.seq #[.ref 24]) #[])::
 (nat_lit 35,.mk (.type "tuple") Option.none (.seq #[]) #[])::
 (nat_lit 36,.mk (.type "dict") Option.none (.dict #[en P "__module__" 214 (.str "castwright.errors" 187),en P "__firstlineno__" 218 (.int 4 217),en P "__static_attributes__" 219 (.ref 35),en P "__doc__" 220 .none] 2) #[])::
 (nat_lit 37,.mk (.type "type") Option.none (.cls (.mk "NoKind" [.ref 24] [.ref 37,.ref 24,.type "ValueError",.type "Exception",.type "BaseException",.type "object"] 36 "NoKind" Bool.true [] [] Bool.false Option.none Bool.false)) #[Option.some (.ref 28),Option.none,Option.some (.str "NoKind" 207),Option.some (.str "NoKind" 215),Option.some (.builtin "ValueError.__new__"),Option.some (.bool Bool.true)])::
 (nat_lit 40,.mk (.type "tuple") Option.none (.seq #[.ref 24]) #[])::
 (nat_lit 47,.mk (.type "tuple") Option.none (.seq #[]) #[])::
 (nat_lit 48,.mk (.type "dict") Option.none (.dict #[en P "__module__" 230 (.str "castwright.errors" 187),en P "__firstlineno__" 234 (.int 6 233),en P "__static_attributes__" 235 (.ref 47),en P "__doc__" 236 .none] 2) #[])::
 (nat_lit 49,.mk (.type "type") Option.none (.cls (.mk "NoTerm" [.ref 24] [.ref 49,.ref 24,.type "ValueError",.type "Exception",.type "BaseException",.type "object"] 48 "NoTerm" Bool.true [] [] Bool.false Option.none Bool.false)) #[Option.some (.ref 40),Option.none,Option.some (.str "NoTerm" 223),Option.some (.str "NoTerm" 231),Option.some (.builtin "ValueError.__new__"),Option.some (.bool Bool.true)])::
 (nat_lit 52,.mk (.type "tuple") Option.none (.seq #[.ref 24]) #[])::
 (nat_lit 64,.mk (.type "code") Option.none (.fields #[.str "__init__" 251,.str "BadUse.__init__" 252,.str "/claim/cut.py" 253,.int 10 0,.int 2 0,.int 0 0,.int 0 0,.int 3 0,.ref 59,.bool Bool.true,.int 181 0,.ref 60,.none,.ref 61,.ref 62,.ref 63,.int 256 0,.int 10 0,.str "/claim/cut.py" 257]) #[])::
 (nat_lit 65,.mk (.type "function") Option.none (.func (PySem.W.fnOf "__init__" "BadUse.__init__" (D1 (Kp (top 4) 0)) (Bv (Kp (top 4) 0)) (Ap (Kp (top 4) 0)) .none .none .none (.str "castwright.errors" 187) Option.none (.ref 64) .none)) #[])::
 (nat_lit 66,.mk (.type "tuple") Option.none (.seq #[.str "path" 259]) #[])::
 (nat_lit 67,.mk (.type "dict") Option.none (.dict #[en P "__module__" 246 (.str "castwright.errors" 187),en P "__firstlineno__" 250 (.int 8 249),en P "__init__" 258 (.ref 65),en P "__static_attributes__" 260 (.ref 66),en P "__doc__" 261 .none] 2) #[])::
 (nat_lit 68,.mk (.type "type") Option.none (.cls (.mk "BadUse" [.ref 24] [.ref 68,.ref 24,.type "ValueError",.type "Exception",.type "BaseException",.type "object"] 67 "BadUse" Bool.true [] [] Bool.false Option.none Bool.false)) #[Option.some (.ref 52),Option.none,Option.some (.str "BadUse" 239),Option.some (.str "BadUse" 247),Option.some (.builtin "ValueError.__new__"),Option.some (.bool Bool.true)])::
 (nat_lit 71,.mk (.type "tuple") Option.none (.seq #[.ref 24]) #[])::
 (nat_lit 78,.mk (.type "tuple") Option.none (.seq #[]) #[])::
 (nat_lit 79,.mk (.type "dict") Option.none (.dict #[en P "__module__" 271 (.str "castwright.errors" 187),en P "__firstlineno__" 275 (.int 12 274),en P "__static_attributes__" 276 (.ref 78),en P "__doc__" 277 .none] 2) #[])::
 (nat_lit 80,.mk (.type "type") Option.none (.cls (.mk "NoValue" [.ref 24] [.ref 80,.ref 24,.type "ValueError",.type "Exception",.type "BaseException",.type "object"] 79 "NoValue" Bool.true [] [] Bool.false Option.none Bool.false)) #[Option.some (.ref 71),Option.none,Option.some (.str "NoValue" 264),Option.some (.str "NoValue" 272),Option.some (.builtin "ValueError.__new__"),Option.some (.bool Bool.true)])::
 (nat_lit 83,.mk (.type "tuple") Option.none (.seq #[.ref 24]) #[])::
 (nat_lit 90,.mk (.type "tuple") Option.none (.seq #[]) #[])::
 (nat_lit 91,.mk (.type "dict") Option.none (.dict #[en P "__module__" 287 (.str "castwright.errors" 187),en P "__firstlineno__" 291 (.int 14 290),en P "__static_attributes__" 292 (.ref 90),en P "__doc__" 293 .none] 2) #[])::
 (nat_lit 92,.mk (.type "type") Option.none (.cls (.mk "NoNumber" [.ref 24] [.ref 92,.ref 24,.type "ValueError",.type "Exception",.type "BaseException",.type "object"] 91 "NoNumber" Bool.true [] [] Bool.false Option.none Bool.false)) #[Option.some (.ref 83),Option.none,Option.some (.str "NoNumber" 280),Option.some (.str "NoNumber" 288),Option.some (.builtin "ValueError.__new__"),Option.some (.bool Bool.true)])::
 (nat_lit 95,.mk (.type "tuple") Option.none (.seq #[.ref 24]) #[])::
 (nat_lit 102,.mk (.type "tuple") Option.none (.seq #[]) #[])::
 (nat_lit 103,.mk (.type "dict") Option.none (.dict #[en P "__module__" 303 (.str "castwright.errors" 187),en P "__firstlineno__" 307 (.int 16 306),en P "__static_attributes__" 308 (.ref 102),en P "__doc__" 309 .none] 2) #[])::
 (nat_lit 104,.mk (.type "type") Option.none (.cls (.mk "BadNote" [.ref 24] [.ref 104,.ref 24,.type "ValueError",.type "Exception",.type "BaseException",.type "object"] 103 "BadNote" Bool.true [] [] Bool.false Option.none Bool.false)) #[Option.some (.ref 95),Option.none,Option.some (.str "BadNote" 296),Option.some (.str "BadNote" 304),Option.some (.builtin "ValueError.__new__"),Option.some (.bool Bool.true)])::
 (nat_lit 107,.mk (.type "tuple") Option.none (.seq #[.str "must" 320,.str "may" 321]) #[])::
 (nat_lit 108,.mk (.type "dict") Option.none (.dict #[en P "any" 323 (.int 1 324),en P "num" 325 (.int 1 326),en P "truth" 327 (.int 1 328),en P "to" 329 (.int 3 330),en P "box" 331 (.int 2 332),en P "row" 333 (.int 3 334)] 6) #[])::
 (nat_lit 114,co "entry_of" 342 24 2 109 181 110 (.ref 111) (.ref 112) 113 348 349)::
 (nat_lit 115,fo "entry_of" (top 14) "castwright.kinds" 312 114)::
 (nat_lit 119,co "names_of" 351 29 1 116 181 117 .none .none 118 354 355)::
 (nat_lit 120,fo "names_of" (top 15) "castwright.kinds" 312 119)::
 (nat_lit 126,co "names_of_both" 357 31 2 121 181 122 (.ref 123) (.ref 124) 125 362 363)::
 (nat_lit 127,fo "names_of_both" (top 16) "castwright.kinds" 312 126)::
 (nat_lit 133,co "is_kind" 365 33 1 128 181 129 (.ref 130) (.ref 131) 132 369 370)::
 (nat_lit 134,fo "is_kind" (top 17) "castwright.kinds" 312 133)::
 (nat_lit 138,co "is_made_of" 372 35 5 135 181 136 .none .none 137 375 376)::
 (nat_lit 139,fo "is_made_of" (top 18) "castwright.kinds" 312 138)::
 (nat_lit 145,co "layer_within" 378 48 2 140 181 141 (.ref 142) (.ref 143) 144 385 386)::
 (nat_lit 146,fo "layer_within" (top 19) "castwright.kinds" 312 145)::
 (nat_lit 152,co "kinds_in" 388 53 1 147 181 148 (.ref 149) (.ref 150) 151 394 395)::
 (nat_lit 153,fo "kinds_in" (top 20) "castwright.kinds" 312 152)::
 (nat_lit 157,co "kinds_within" 397 58 1 154 181 155 .none .none 156 400 401)::
 (nat_lit 158,fo "kinds_within" (top 21) "castwright.kinds" 312 157)::
 (nat_lit 164,co "has_form" 403 62 1 159 181 160 (.ref 161) (.ref 162) 163 407 408)::
 (nat_lit 165,fo "has_form" (top 22) "castwright.kinds" 312 164)::
 (nat_lit 169,co "are_fields" 410 68 1 166 181 167 .none .none 168 413 414)::
 (nat_lit 170,fo "are_fields" (top 23) "castwright.kinds" 312 169)::
 (nat_lit 176,co "is_field" 416 72 1 171 181 172 (.ref 173) (.ref 174) 175 420 421)::
 (nat_lit 177,fo "is_field" (top 24) "castwright.kinds" 312 176)::
 (nat_lit 181,co "is_name" 423 76 1 178 181 179 .none .none 180 426 427)::
 (nat_lit 182,fo "is_name" (top 25) "castwright.kinds" 312 181)::
 (nat_lit 188,co "is_small_letter" 429 80 1 183 181 184 (.ref 185) (.ref 186) 187 433 434)::
 (nat_lit 189,fo "is_small_letter" (top 26) "castwright.kinds" 312 188)::
 (nat_lit 193,co "names_rise" 436 82 1 190 181 191 .none .none 192 439 440)::
 (nat_lit 194,fo "names_rise" (top 27) "castwright.kinds" 312 193)::
 (nat_lit 198,co "is_less" 444 85 2 195 181 196 .none .none 197 447 448)::
 (nat_lit 199,fo "is_less" (top 29) "castwright.known" 442 198)::
 (nat_lit 203,co "is_less_row" 450 93 2 200 181 201 .none .none 202 453 454)::
 (nat_lit 204,fo "is_less_row" (top 30) "castwright.known" 442 203)::
 (nat_lit 210,co "is_less_entry" 456 98 2 205 181 206 (.ref 207) (.ref 208) 209 461 462)::
 (nat_lit 211,fo "is_less_entry" (top 31) "castwright.known" 442 210)::
 (nat_lit 212,.mk (.type "dict") Option.none (.dict #[en P "num" 472 (.ref 213),en P "truth" 474 (.ref 214),en P "name" 476 (.ref 215),en P "fun" 478 (.ref 216),en P "call" 482 (.ref 217),en P "rec" 485 (.ref 218),en P "get" 487 (.ref 219),en P "or" 490 (.ref 220),en P "if" 494 (.ref 221),en P "plus" 498 (.ref 222),en P "less" 501 (.ref 223),en P "new" 504 (.ref 224),en P "read" 506 (.ref 225),en P "write" 508 (.ref 226),en P "as" 511 (.ref 227)] 15) #[])::
 (nat_lit 213,.mk (.type "tuple") Option.none (.seq #[.str "number" 473]) #[])::
 (nat_lit 214,.mk (.type "tuple") Option.none (.seq #[.str "truth" 475]) #[])::
 (nat_lit 215,.mk (.type "tuple") Option.none (.seq #[.str "name" 477]) #[])::
 (nat_lit 216,.mk (.type "tuple") Option.none (.seq #[.str "name" 479,.str "kind" 480,.str "term" 481]) #[])::
 (nat_lit 217,.mk (.type "tuple") Option.none (.seq #[.str "term" 483,.str "term" 484]) #[])::
 (nat_lit 218,.mk (.type "tuple") Option.none (.seq #[.str "fields" 486]) #[])::
 (nat_lit 219,.mk (.type "tuple") Option.none (.seq #[.str "term" 488,.str "name" 489]) #[])::
 (nat_lit 220,.mk (.type "tuple") Option.none (.seq #[.str "term" 491,.str "name" 492,.str "term" 493]) #[])::
 (nat_lit 221,.mk (.type "tuple") Option.none (.seq #[.str "term" 495,.str "term" 496,.str "term" 497]) #[])::
 (nat_lit 222,.mk (.type "tuple") Option.none (.seq #[.str "term" 499,.str "term" 500]) #[])::
 (nat_lit 223,.mk (.type "tuple") Option.none (.seq #[.str "term" 502,.str "term" 503]) #[])::
 (nat_lit 224,.mk (.type "tuple") Option.none (.seq #[.str "term" 505]) #[])::
 (nat_lit 225,.mk (.type "tuple") Option.none (.seq #[.str "term" 507]) #[])::
 (nat_lit 226,.mk (.type "tuple") Option.none (.seq #[.str "term" 509,.str "term" 510]) #[])::
 (nat_lit 227,.mk (.type "tuple") Option.none (.seq #[.str "term" 512,.str "kind" 513]) #[])::
 (nat_lit 233,co "check_term" 530 109 1 228 181 229 (.ref 230) (.ref 231) 232 534 535)::
 (nat_lit 234,fo "check_term" (top 37) "castwright.terms" 464 233)::
 (nat_lit 240,co "is_term" 537 112 1 235 181 236 (.ref 237) (.ref 238) 239 541 542)::
 (nat_lit 241,fo "is_term" (top 38) "castwright.terms" 464 240)::
 (nat_lit 247,co "form_of" 544 114 1 242 181 243 (.ref 244) (.ref 245) 246 548 549)::
 (nat_lit 248,fo "form_of" (top 39) "castwright.terms" 464 247)::
 (nat_lit 252,co "parts_of" 551 116 1 249 181 250 .none .none 251 554 555)::
 (nat_lit 253,fo "parts_of" (top 40) "castwright.terms" 464 252)::
 (nat_lit 257,co "has_term_form" 557 120 1 254 181 255 .none .none 256 560 561)::
 (nat_lit 258,fo "has_term_form" (top 41) "castwright.terms" 464 257)::
 (nat_lit 264,co "is_of_sort" 563 127 2 259 181 260 (.ref 261) (.ref 262) 263 568 569)::
 (nat_lit 265,fo "is_of_sort" (top 42) "castwright.terms" 464 264)::
 (nat_lit 271,co "is_number" 571 139 1 266 181 267 (.ref 268) (.ref 269) 270 575 576)::
 (nat_lit 272,fo "is_number" (top 43) "castwright.terms" 464 271)::
 (nat_lit 276,co "are_term_fields" 578 143 1 273 181 274 .none .none 275 581 582)::
 (nat_lit 277,fo "are_term_fields" (top 44) "castwright.terms" 464 276)::
 (nat_lit 283,co "is_term_field" 584 147 1 278 181 279 (.ref 280) (.ref 281) 282 588 589)::
 (nat_lit 284,fo "is_term_field" (top 45) "castwright.terms" 464 283)::
 (nat_lit 290,co "forgettings" 593 150 1 285 181 286 (.ref 287) (.ref 288) 289 597 598)::
 (nat_lit 291,fo "forgettings" (top 47) "castwright.forgets" 591 290)::
 (nat_lit 297,co "forgotten" 600 153 1 292 181 293 (.ref 294) (.ref 295) 296 604 605)::
 (nat_lit 298,fo "forgotten" (top 48) "castwright.forgets" 591 297)::
 (nat_lit 302,co "less_term" 607 156 2 299 181 300 .none .none 301 610 611)::
 (nat_lit 303,fo "less_term" (top 49) "castwright.forgets" 591 302)::
 (nat_lit 307,co "kinds_told" 613 162 1 304 181 305 .none .none 306 616 617)::
 (nat_lit 308,fo "kinds_told" (top 50) "castwright.forgets" 591 307)::
 (nat_lit 312,co "told_by" 619 165 1 309 181 310 .none .none 311 622 623)::
 (nat_lit 313,fo "told_by" (top 51) "castwright.forgets" 591 312)::
 (nat_lit 319,co "all_told" 625 167 1 314 181 315 (.ref 316) (.ref 317) 318 631 632)::
 (nat_lit 320,fo "all_told" (top 52) "castwright.forgets" 591 319)::
 (nat_lit 324,co "without_kinds" 634 172 1 321 181 322 .none .none 323 637 638)::
 (nat_lit 325,fo "without_kinds" (top 53) "castwright.forgets" 591 324)::
 (nat_lit 329,co "less_terms" 640 175 1 326 181 327 .none .none 328 643 644)::
 (nat_lit 330,fo "less_terms" (top 54) "castwright.forgets" 591 329)::
 (nat_lit 334,co "less_kinds" 646 183 1 331 181 332 .none .none 333 649 650)::
 (nat_lit 335,fo "less_kinds" (top 55) "castwright.forgets" 591 334)::
 (nat_lit 341,co "with_one" 652 191 3 336 181 337 (.ref 338) (.ref 339) 340 658 659)::
 (nat_lit 342,fo "with_one" (top 56) "castwright.forgets" 591 341)::
 (nat_lit 346,co "with_kinds_within" 661 193 2 343 181 344 .none .none 345 664 665)::
 (nat_lit 347,fo "with_kinds_within" (top 57) "castwright.forgets" 591 346)::
 (nat_lit 351,co "with_kind" 667 198 2 348 181 349 .none .none 350 670 671)::
 (nat_lit 352,fo "with_kind" (top 58) "castwright.forgets" 591 351)::
 (nat_lit 356,co "with_parts" 673 201 2 353 181 354 .none .none 355 676 677)::
 (nat_lit 357,fo "with_parts" (top 59) "castwright.forgets" 591 356)::
 (nat_lit 363,co "_law_state" 681 211 2 358 181 359 (.ref 360) (.ref 361) 362 687 688)::
 (nat_lit 364,fo "_law_state" (top 61) "law_castwright_k77_forgetting_refused" 679 363)::
 (nat_lit 370,co "_law_take" 690 218 2 365 181 366 (.ref 367) (.ref 368) 369 697 698)::
 (nat_lit 371,fo "_law_take" (top 62) "law_castwright_k77_forgetting_refused" 679 370)::
 (nat_lit 377,co "_law_kind" 700 228 2 372 181 373 (.ref 374) (.ref 375) 376 709 710)::
 (nat_lit 378,fo "_law_kind" (top 63) "law_castwright_k77_forgetting_refused" 679 377)::
 (nat_lit 382,co "_law_least" 712 242 2 379 181 380 .none .none 381 715 716)::
 (nat_lit 383,fo "_law_least" (top 64) "law_castwright_k77_forgetting_refused" 679 382)::
 (nat_lit 387,co "_law_dim" 718 253 2 384 181 385 .none .none 386 721 722)::
 (nat_lit 388,fo "_law_dim" (top 65) "law_castwright_k77_forgetting_refused" 679 387)::
 (nat_lit 394,co "_law_blur" 724 259 2 389 181 390 (.ref 391) (.ref 392) 393 729 730)::
 (nat_lit 395,fo "_law_blur" (top 66) "law_castwright_k77_forgetting_refused" 679 394)::
 (nat_lit 399,co "_law_by_name" 732 261 4 396 181 397 .none .none 398 735 736)::
 (nat_lit 400,fo "_law_by_name" (top 67) "law_castwright_k77_forgetting_refused" 679 399)::
 (nat_lit 406,co "_law_term" 738 276 4 401 181 402 (.ref 403) (.ref 404) 405 754 755)::
 (nat_lit 407,fo "_law_term" (top 68) "law_castwright_k77_forgetting_refused" 679 406)::
 (nat_lit 413,co "_law_any_first" 757 312 4 408 181 409 (.ref 410) (.ref 411) 412 767 768)::
 (nat_lit 414,fo "_law_any_first" (top 69) "law_castwright_k77_forgetting_refused" 679 413)::
 (nat_lit 420,co "_law_around" 770 318 4 415 181 416 (.ref 417) (.ref 418) 419 783 784)::
 (nat_lit 421,fo "_law_around" (top 70) "law_castwright_k77_forgetting_refused" 679 420)::
 (nat_lit 425,co "_law_parts" 786 347 1 422 181 423 .none .none 424 789 790)::
 (nat_lit 426,fo "_law_parts" (top 71) "law_castwright_k77_forgetting_refused" 679 425)::
 (nat_lit 430,co "_law_size" 792 353 1 427 181 428 .none .none 429 795 796)::
 (nat_lit 431,fo "_law_size" (top 72) "law_castwright_k77_forgetting_refused" 679 430)::
 (nat_lit 437,co "_law_drawn" 798 356 2 432 181 433 (.ref 434) (.ref 435) 436 807 808)::
 (nat_lit 438,fo "_law_drawn" (top 73) "law_castwright_k77_forgetting_refused" 679 437)::
 (nat_lit 444,co "_law_which" 810 364 1 439 181 440 (.ref 441) (.ref 442) 443 815 816)::
 (nat_lit 445,fo "_law_which" (top 74) "law_castwright_k77_forgetting_refused" 679 444)::
 (nat_lit 451,co "_law_asked" 818 367 3 446 181 447 (.ref 448) (.ref 449) 450 824 825)::
 (nat_lit 452,fo "_law_asked" (top 75) "law_castwright_k77_forgetting_refused" 679 451)::
 (nat_lit 458,co "_law_flags" 827 378 3 453 181 454 (.ref 455) (.ref 456) 457 835 836)::
 (nat_lit 459,fo "_law_flags" (top 76) "law_castwright_k77_forgetting_refused" 679 458)::
 (nat_lit 465,co "law" 838 385 1 460 181 461 (.ref 462) (.ref 463) 464 848 849)::
 (nat_lit 466,fo "law" (top 77) "law_castwright_k77_forgetting_refused" 679 465)::
 []
noncomputable def KL:List Addr:=2::3::15::22::23::24::25::28::35::36::37::40::47::48::49::52::64::65::66::67::68::71::78::79::80::83::90::91::92::95::102::103::104::107::108::114::115::119::120::126::127::133::134::138::139::145::146::152::153::157::158::164::165::169::170::176::177::181::182::188::189::193::194::198::199::203::204::210::211::212::213::214::215::216::217::218::219::220::221::222::223::224::225::226::227::233::234::240::241::247::248::252::253::257::258::264::265::271::272::276::277::283::284::290::291::297::298::302::303::307::308::312::313::319::320::324::325::329::330::334::335::341::342::346::347::351::352::356::357::363::364::370::371::377::378::382::383::387::388::394::395::399::400::406::407::413::414::420::421::425::426::430::431::437::438::444::445::451::452::458::459::465::466::[]
theorem kfe(P:Params):KL=(KF P).map (·.1):=by kernel_rfl
section
open PySem.W
abbrev OE(w:World):=openEnds treeTable pwS w 7350
abbrev FS(s:Shared):=openSeen vwS ["LENGTHS","FORMS"] (importedModules pwS.main.body) (λs=>xlAt vwS [] s&&recOk (RowW.records rwS.row.toRowW) s) true s
abbrev OB(s:Shared):=(kHook KF KL kfe).obs s
abbrev VA(w:World):=(kHook KF KL kfe).val w
abbrev GD:=openGood vwS ["LENGTHS","FORMS"]
abbrev LB(w:World):Prop:=(OE w).map (λs=>(FS s,OB s))=some (GD,VA w)
theorem mpp{α β γ:Type}{o:Option α}{f:α->β}{g:α->γ}{a:β}{b:γ}(h1:o.map f=some a)(h2:o.map g=some b):o.map (λs=>(f s,g s))=some (a,b):=by
 cases o with
 | none=>cases h1
 | some s=>exact congrArg some (Prod.ext (YE h1) (YE h2))
theorem mpl{α β γ:Type}{o:Option α}{f:α->β}{g:α->γ}{a:β}{b:γ}(h:o.map (λs=>(f s,g s))=some (a,b)):o.map f=some a:=by
 cases o with
 | none=>cases h
 | some s=>exact congrArg some (Prod.ext_iff.mp (YE h)).1
theorem mpr{α β γ:Type}{o:Option α}{f:α->β}{g:α->γ}{a:β}{b:γ}(h:o.map (λs=>(f s,g s))=some (a,b)):o.map g=some b:=by
 cases o with
 | none=>cases h
 | some s=>exact congrArg some (Prod.ext_iff.mp (YE h)).2
theorem mpb{α:Type}{o:Option α}{k a b c d e f:α->Bool}(h1:o.map k=some true)(h2:o.map (λs=>a s&&b s&&c s&&d s&&e s&&f s)=some true):o.map (λs=>k s&&a s&&b s&&c s&&d s&&e s&&f s)=some true:=by
 cases o with
 | none=>cases h1
 | some s =>
  have x:k s=true:=YE h1;have y:(a s&&b s&&c s&&d s&&e s&&f s)=true:=YE h2;refine congrArg some ?_;show(k s&&a s&&b s&&c s&&d s&&e s&&f s)=true;rw[x];exact y
def Rl9:List DefRec:=vwS.main.body.filterMap λst=>match st with|.FunctionDef n a b _ _ _ c _ _ p=>some ⟨n,a,b,c,p⟩|_=>none
theorem Rc9:recsOf vwS=Rl9:=by kernel_rfl
def Rm9:List Str:=["MOST_KINDS","MOST_DEPTH","MOST_LETTERS","MOST_TERMS","MOST_TERM_DEPTH","MOST_NUMBER"]
theorem Rd9:(litsOf vwS).map (·.1)=Rm9:=by kernel_rfl
def Rn9:List Str:=["LENGTHS","FORMS","MARKS"]
theorem Re9:looseW vwS ["LENGTHS","FORMS"]=Rn9:=by kernel_rfl
def Ro9:List Str:=["CastError","NoKind","NoTerm","BadUse","NoValue","NoNumber","BadNote"]
theorem Rf9:(clssOf vwS Rn9).map (·.name)=Ro9:=by kernel_rfl
theorem mS9{o:Option Shared}{ds:List DefRec}{ow:List OwnSpec}{n:Nat}(h1:o.map (λs=>(ds.take n).map λd=>s.heap.shapeAt mainGlobals d.name)=some ((ds.take n).map λd=>some d.shape))(h2:o.map (λs=>(ds.drop n).map λd=>s.heap.shapeAt mainGlobals d.name)=some ((ds.drop n).map λd=>some d.shape))(h3:o.map (λs=>((ow.all λo=>s.heap.ownExcOk o.name o.chain o.bm o.newId&&s.heap.quietOk o.name),s.heap.isNs mainGlobals,s.heap.isNs builtinsNs,(s.heap.noLimitOk&&s.heap.noDigitsOk)))=some (true,true,true,true)):o.map (λs=>seen (ds.map (·.name)) ow [] {s with gens:=#[]})=some {defs:=ds.map λd=>some d.shape,ownsOk:=true,names:=[],globalsOk:=true,builtinsOk:=true,noLimit:=true,gens:=0}:=by
 cases o with
 | none=>cases h1
 | some s=>
  have e1:((ds.take n).map λd=>s.heap.shapeAt mainGlobals d.name)=_:=Option.some.inj h1
  have e2:((ds.drop n).map λd=>s.heap.shapeAt mainGlobals d.name)=_:=Option.some.inj h2
  have e3:((ow.all λo=>s.heap.ownExcOk o.name o.chain o.bm o.newId&&s.heap.quietOk o.name),s.heap.isNs mainGlobals,s.heap.isNs builtinsNs,(s.heap.noLimitOk&&s.heap.noDigitsOk))=(true,true,true,true):=Option.some.inj h3
  have ed:(ds.map λd=>s.heap.shapeAt mainGlobals d.name)=ds.map λd=>some d.shape:=by
   have e:=congrArg (·++(ds.drop n).map λd=>s.heap.shapeAt mainGlobals d.name) e1
   simp only [e2] at e
   rw[←e2,←List.map_append,List.take_append_drop,e2,←List.map_append,List.take_append_drop] at e
   exact e
  have f1:=congrArg (·.1) e3;have f2:=congrArg (·.2.1) e3;have f3:=congrArg (·.2.2.1) e3;have f4:=congrArg (·.2.2.2) e3
  show some (seen (ds.map (·.name)) ow [] {s with gens:=#[]})=_
  unfold seen
  rw[List.map_map]
  show some (Seen.mk (ds.map λd=>s.heap.shapeAt mainGlobals d.name) (ow.all λo=>s.heap.ownExcOk o.name o.chain o.bm o.newId&&s.heap.quietOk o.name) [] (s.heap.isNs mainGlobals) (s.heap.isNs builtinsNs) (s.heap.noLimitOk&&s.heap.noDigitsOk) 0)=_
  rw[ed]
  dsimp only at f1 f2 f3 f4
  rw[f1,f2,f3,f4]
theorem mT9{o:Option Shared}{ds:List DefRec}{n:Nat}{b v i:Shared->Bool}(h1:o.map (λs=>(ds.take n).all λd=>s.heap.tab0Ok d.name)=some true)(h2:o.map (λs=>((ds.drop n).all λd=>s.heap.tab0Ok d.name)&&b s&&v s&&i s)=some true):o.map (λs=>(ds.all λd=>s.heap.tab0Ok d.name)&&b s&&v s&&i s)=some true:=by
 cases o with
 | none=>cases h1
 | some s=>
  have e1:((ds.take n).all λd=>s.heap.tab0Ok d.name)=true:=Option.some.inj h1
  have e2:(((ds.drop n).all λd=>s.heap.tab0Ok d.name)&&b s&&v s&&i s)=true:=Option.some.inj h2
  have e:(ds.all λd=>s.heap.tab0Ok d.name)=((ds.drop n).all λd=>s.heap.tab0Ok d.name):=by
   conv=>lhs;rw[←List.take_append_drop n ds]
   rw[List.all_append,e1,Bool.true_and]
  show some ((ds.all λd=>s.heap.tab0Ok d.name)&&b s&&v s&&i s)=_
  rw[e,e2]
theorem Rq1f(w:World):(OE (w.withFollow "special-get-raises" false)).map (λs=>((Rl9.take 37).map λd=>s.heap.shapeAt mainGlobals d.name))=some (((Rl9.take 37).map λd=>some d.shape)):=by kernel_rfl
theorem Rq2f(w:World):(OE (w.withFollow "special-get-raises" false)).map (λs=>((Rl9.drop 37).map λd=>s.heap.shapeAt mainGlobals d.name))=some (((Rl9.drop 37).map λd=>some d.shape)):=by kernel_rfl
theorem Rq5f(w:World):(OE (w.withFollow "special-get-raises" false)).map (λs=>(OB s,s.heap.accountedOkI (importedModules pwS.main.body)&&s.heap.isNs mainGlobals&&s.heap.isNs builtinsNs&&tablesOk vwS s.heap&&(xlAt vwS [] s&&recOk (RowW.records rwS.row.toRowW) s)&&(s.gens.size==0)))=some (VA (w.withFollow "special-get-raises" false),true):=by kernel_rfl
theorem Rq3f(w:World):(OE (w.withFollow "special-get-raises" false)).map (λs=>(((Rl9.take 37).all λd=>s.heap.tab0Ok d.name),s.heap.keysOk Rn9 (Rl9.map (·.name)) Rm9 Ro9))=some (true,true):=by kernel_rfl
theorem Rq4f(w:World):(OE (w.withFollow "special-get-raises" false)).map (λs=>((((ownsOf vwS).all λo=>s.heap.ownExcOk o.name o.chain o.bm o.newId&&s.heap.quietOk o.name),s.heap.isNs mainGlobals,s.heap.isNs builtinsNs,(s.heap.noLimitOk&&s.heap.noDigitsOk)),(s.heap.bltView,(((Rl9.drop 37).all λd=>s.heap.tab0Ok d.name)&&s.heap.bmainOk&&valsOk vwS s.heap&&(!importsNone vwS||s.heap.noSeerOk)))))=some ((true,true,true,true),(bltViewBooted,true)):=by kernel_rfl
theorem XU(w:World):(OE (w.withFollow "special-get-raises" false)).map (λs=>(pinSeenD vwS (drecsOf vwS) s,plainSeenE vwS (looseW vwS ["LENGTHS","FORMS"]) s,plainSeenD vwS ["LENGTHS","FORMS"] s,wideSeen vwS s,clsSeenW vwS ["LENGTHS","FORMS"] s))=some ((pinGoodD (drecsOf vwS),plainGoodE vwS (looseW vwS ["LENGTHS","FORMS"]),plainGoodD vwS ["LENGTHS","FORMS"],wideGood vwS,clsGoodW vwS ["LENGTHS","FORMS"])):=by kernel_rfl
theorem XQ(w:World):(OE (w.withFollow "special-get-raises" false)).map (λs=>OB s)=some (VA (w.withFollow "special-get-raises" false)):=mpl (Rq5f w)
theorem XR(w:World):(OE (w.withFollow "special-get-raises" false)).map (λs=>seen ((recsOf vwS).map (·.name)) (ownsOf vwS) [] {s with gens:=#[]})=some (expectedOf vwS):=by have z:=mS9 (Rq1f w) (Rq2f w) (mpl (Rq4f w));rw[←Rc9] at z;exact z
theorem Ou(w:World):(OE (w.withFollow "special-get-raises" false)).map (λs=>(s.heap.bltView,tabsOk vwS s))=some ((bltViewBooted,true)):=mpp (mpl (mpr (Rq4f w))) (by have z:=mT9 (b:=λs=>s.heap.bmainOk) (v:=λs=>valsOk vwS s.heap) (i:=λs=>!importsNone vwS||s.heap.noSeerOk) (mpl (Rq3f w)) (mpr (mpr (Rq4f w)));rw[←Rc9] at z;exact z)
theorem XS(w:World):(OE (w.withFollow "special-get-raises" false)).map (λs=>s.heap.keysOk (looseW vwS ["LENGTHS","FORMS"]) ((recsOf vwS).map (·.name)) ((litsOf vwS).map (·.1)) ((clssOf vwS (looseW vwS ["LENGTHS","FORMS"])).map (·.name)))=some (true):=by have z:=mpr (Rq3f w);rw[←Rc9,←Rf9,←Re9,←Rd9] at z;exact z
theorem XT(w:World):(OE (w.withFollow "special-get-raises" false)).map (λs=>s.heap.accountedOkI (importedModules pwS.main.body)&&s.heap.isNs mainGlobals&&s.heap.isNs builtinsNs&&tablesOk vwS s.heap&&(xlAt vwS [] s&&recOk (RowW.records rwS.row.toRowW) s)&&(s.gens.size==0))=some (true):=mpr (Rq5f w)
theorem lbf(w:World):LB (w.withFollow "special-get-raises" false):=mpp (mpp (XR w) (mpp (mpl (Ou w)) (mpp (mpb (XS w) (XT w)) (mpp (mpr (Ou w)) (XU w))))) (XQ w)
theorem Rq1t(w:World):(OE (w.withFollow "special-get-raises" true)).map (λs=>((Rl9.take 37).map λd=>s.heap.shapeAt mainGlobals d.name))=some (((Rl9.take 37).map λd=>some d.shape)):=by kernel_rfl
theorem Rq2t(w:World):(OE (w.withFollow "special-get-raises" true)).map (λs=>((Rl9.drop 37).map λd=>s.heap.shapeAt mainGlobals d.name))=some (((Rl9.drop 37).map λd=>some d.shape)):=by kernel_rfl
theorem Rq5t(w:World):(OE (w.withFollow "special-get-raises" true)).map (λs=>(OB s,s.heap.accountedOkI (importedModules pwS.main.body)&&s.heap.isNs mainGlobals&&s.heap.isNs builtinsNs&&tablesOk vwS s.heap&&(xlAt vwS [] s&&recOk (RowW.records rwS.row.toRowW) s)&&(s.gens.size==0)))=some (VA (w.withFollow "special-get-raises" true),true):=by kernel_rfl
theorem Rq3t(w:World):(OE (w.withFollow "special-get-raises" true)).map (λs=>(((Rl9.take 37).all λd=>s.heap.tab0Ok d.name),s.heap.keysOk Rn9 (Rl9.map (·.name)) Rm9 Ro9))=some (true,true):=by kernel_rfl
theorem Rq4t(w:World):(OE (w.withFollow "special-get-raises" true)).map (λs=>((((ownsOf vwS).all λo=>s.heap.ownExcOk o.name o.chain o.bm o.newId&&s.heap.quietOk o.name),s.heap.isNs mainGlobals,s.heap.isNs builtinsNs,(s.heap.noLimitOk&&s.heap.noDigitsOk)),(s.heap.bltView,(((Rl9.drop 37).all λd=>s.heap.tab0Ok d.name)&&s.heap.bmainOk&&valsOk vwS s.heap&&(!importsNone vwS||s.heap.noSeerOk)))))=some ((true,true,true,true),(bltViewBooted,true)):=by kernel_rfl
theorem X0(w:World):(OE (w.withFollow "special-get-raises" true)).map (λs=>(pinSeenD vwS (drecsOf vwS) s,plainSeenE vwS (looseW vwS ["LENGTHS","FORMS"]) s,plainSeenD vwS ["LENGTHS","FORMS"] s,wideSeen vwS s,clsSeenW vwS ["LENGTHS","FORMS"] s))=some ((pinGoodD (drecsOf vwS),plainGoodE vwS (looseW vwS ["LENGTHS","FORMS"]),plainGoodD vwS ["LENGTHS","FORMS"],wideGood vwS,clsGoodW vwS ["LENGTHS","FORMS"])):=by kernel_rfl
theorem XW(w:World):(OE (w.withFollow "special-get-raises" true)).map (λs=>OB s)=some (VA (w.withFollow "special-get-raises" true)):=mpl (Rq5t w)
theorem XX(w:World):(OE (w.withFollow "special-get-raises" true)).map (λs=>seen ((recsOf vwS).map (·.name)) (ownsOf vwS) [] {s with gens:=#[]})=some (expectedOf vwS):=by have z:=mS9 (Rq1t w) (Rq2t w) (mpl (Rq4t w));rw[←Rc9] at z;exact z
theorem Ov(w:World):(OE (w.withFollow "special-get-raises" true)).map (λs=>(s.heap.bltView,tabsOk vwS s))=some ((bltViewBooted,true)):=mpp (mpl (mpr (Rq4t w))) (by have z:=mT9 (b:=λs=>s.heap.bmainOk) (v:=λs=>valsOk vwS s.heap) (i:=λs=>!importsNone vwS||s.heap.noSeerOk) (mpl (Rq3t w)) (mpr (mpr (Rq4t w)));rw[←Rc9] at z;exact z)
theorem XY(w:World):(OE (w.withFollow "special-get-raises" true)).map (λs=>s.heap.keysOk (looseW vwS ["LENGTHS","FORMS"]) ((recsOf vwS).map (·.name)) ((litsOf vwS).map (·.1)) ((clssOf vwS (looseW vwS ["LENGTHS","FORMS"])).map (·.name)))=some (true):=by have z:=mpr (Rq3t w);rw[←Rc9,←Rf9,←Re9,←Rd9] at z;exact z
theorem XZ(w:World):(OE (w.withFollow "special-get-raises" true)).map (λs=>s.heap.accountedOkI (importedModules pwS.main.body)&&s.heap.isNs mainGlobals&&s.heap.isNs builtinsNs&&tablesOk vwS s.heap&&(xlAt vwS [] s&&recOk (RowW.records rwS.row.toRowW) s)&&(s.gens.size==0))=some (true):=mpr (Rq5t w)
theorem lbt(w:World):LB (w.withFollow "special-get-raises" true):=mpp (mpp (XX w) (mpp (mpl (Ov w)) (mpp (mpb (XY w) (XZ w)) (mpp (mpr (Ov w)) (X0 w))))) (XW w)
end
end KT
namespace L2
open PySem PySem.Spec PyProof.Rows
abbrev Key:=Sum Int Str
def D2:Key->Value->Bool
 | .inl k,v=>Value.isInt k v
 | .inr x,v=>Value.isStrOf x v
def X1(w:World):Key->Int
 | .inl k=>hashInt k
 | .inr x=>hashStr w x
theorem De:∀{k:Key}{v:Value},D2 k v=true->(∃ i t,k=Sum.inl i/\v=Value.int i t)\/(∃ x t,k=Sum.inr x/\v=Value.str x t)
 | .inl i,v,h=>by
  obtain⟨t,e⟩:=Value.isInt_shape (k:=i) (v:=v) h;exact .inl ⟨i,t,rfl,e⟩
 | .inr x,v,h=>by
  obtain⟨t,e⟩:=Value.isStrOf_shape (x:=x) (v:=v) h;exact .inr ⟨x,t,rfl,e⟩
theorem X2(x:Str)(t:Tok):D2 (.inr x) (.str x t)=true:=by simp[D2,Value.isStrOf]
theorem X3(a b:Int):decide ((Sum.inl a:Key)=Sum.inl b)=(a==b):=by
 by_cases e:a=b
 ·subst e;simp
 ·have h:¬ (Sum.inl a:Key)=Sum.inl b:=λq=>e (Sum.inl.inj q);rw[decide_eq_false h];exact(beq_eq_false_iff_ne.mpr e).symm
theorem X4(a b:Str):decide ((Sum.inr a:Key)=Sum.inr b)=decide (a=b):=by
 by_cases e:a=b
 ·subst e;simp
 ·have h:¬ (Sum.inr a:Key)=Sum.inr b:=λq=>e (Sum.inr.inj q);rw[decide_eq_false h,decide_eq_false e]
theorem X5(a:Int)(b:Str):decide ((Sum.inl a:Key)=Sum.inr b)=false:=decide_eq_false (λq=>nomatch q)
theorem X6(a:Str)(b:Int):decide ((Sum.inr a:Key)=Sum.inl b)=false:=decide_eq_false (λq=>nomatch q)
def Bw(prog:Program)(w:World):PySem.KeyKind prog w Key where
 is:=D2
 hash:=X1 w
 inj:=λv a b ha hb=>by
  rcases De ha with⟨i,t,rfl,rfl⟩|⟨x,t,rfl,rfl⟩
  ·rcases De hb with⟨j,u,rfl,e⟩|⟨y,u,rfl,e⟩
   ·injection e with e1 _;rw[e1]
   ·exact nomatch e
  ·rcases De hb with⟨j,u,rfl,e⟩|⟨y,u,rfl,e⟩
   ·exact nomatch e
   ·injection e with e1 _;rw[e1]
 byValue:=λk v h=>by
  rcases De h with⟨i,t,rfl,rfl⟩|⟨x,t,rfl,rfl⟩ <;> rfl
 pyHash:=λhv h=>by
  rcases De hv with⟨i,t,rfl,rfl⟩|⟨x,t,rfl,rfl⟩
  ·exact wpAny_pyHash_int h
  ·exact wpAny_pyHash_str h
 eqBool:=λhu hv h=>by
  rcases De hu with⟨i,t,rfl,rfl⟩|⟨x,t,rfl,rfl⟩
  ·rcases De hv with⟨j,u,rfl,rfl⟩|⟨y,u,rfl,rfl⟩
   ·rw[X3]at h;exact wpAny_eqBool_int h
   ·rw[X5]at h;exact SeqAt.EqAt.int_str i t y u _ _ _ _ h
  ·rcases De hv with⟨j,u,rfl,rfl⟩|⟨y,u,rfl,rfl⟩
   ·rw[X6]at h;exact SeqAt.EqAt.str_int x t j u _ _ _ _ h
   ·rw[X4]at h;exact wpAny_eqBool_str h
 «strs»:=λk x t v h=>by
  rcases De h with⟨i,u,rfl,e⟩|⟨y,u,rfl,e⟩
  ·exact nomatch e
  ·injection e with e1 _
   subst e1
   cases v <;> rfl
theorem X7(prog:Program)(w:World)(x:Str)(t:Tok):(Bw prog w).is (.inr x) (.str x t)=true:=X2 x t
inductive V where
 | non | bl (b:Bool)| int (i:Int)| str (x:Str)| byt (b:Array UInt8)| flt (b:UInt64)| ref (a:Addr)| ty (n:String)
 deriving DecidableEq
def RelV:V->Value->Prop
 | .non,u=>u=Value.none
 | .bl b,u=>u=Value.bool b
 | .int i,u=>∃ t,u=Value.int i t
 | .str x,u=>∃ t,u=Value.str x t
 | .byt b,u=>∃ t,u=Value.bytes b t
 | .flt b,u=>∃ t,u=Value.float b t
 | .ref a,u=>u=Value.ref a
 | .ty n,u=>u=Value.type n
abbrev Vals:List V->List Value->Prop:=Paired RelV
theorem Vals.length(r:Vals xs us):xs.length=us.length:=Paired.length r
theorem Vals.get:∀{xs:List V}{us:List Value}{i:Nat}{x:V},Vals xs us->xs[i]?=some x->∃ u,us[i]?=some u/\RelV x u
 | _,_,_,_,.nil,e=>by simp at e
 | _,_,0,_,.cons r _,e=>by simp at e;subst e;exact⟨_,rfl,r⟩
 | _,_,i+1,x,.cons _ t,e=>by
  obtain⟨u,h1,h2⟩:=Vals.get (i:=i) (x:=x) t (by simpa using e);exact⟨u,by simpa using h1,h2⟩
theorem Vals.set(r:RelV x u):∀{xs:List V}{us:List Value}(i:Nat),Vals xs us->Vals (xs.set i x) (us.set i u)
 | _,_,_,.nil=>.nil
 | _,_,0,.cons _ t=>.cons r t
 | _,_,i+1,.cons q t=>.cons q (Vals.set r i t)
theorem Vals.append:∀{xs ys:List V}{us a:List Value},Vals xs us->Vals ys a->Vals (xs++ys) (us++a)
 | _,_,_,_,.nil,s=>s
 | _,_,_,_,.cons r t,s=>.cons r (Vals.append t s)
theorem Vals.take:∀{xs:List V}{us:List Value}(n:Nat),Vals xs us->Vals (xs.take n) (us.take n)
 | _,_,0,_=>.nil
 | _,_,_+1,.nil=>.nil
 | _,_,n+1,.cons r t=>.cons r (Vals.take n t)
theorem Vals.drop:∀{xs:List V}{us:List Value}(n:Nat),Vals xs us->Vals (xs.drop n) (us.drop n)
 | _,_,0,r=>r
 | _,_,_+1,.nil=>.nil
 | _,_,n+1,.cons _ t=>Vals.drop n t
def Ow:Option V->Option Value->Prop
 | some v,some u=>RelV v u
 | none,none=>True
 | _,_=>False
def KV{κ:Type}:List (κ×V)->List (κ×Value)->Prop:=Paired λ(p:κ×V)(q:κ×Value)=>p.1=q.1/\RelV p.2 q.2
def kV:Key->V
 | .inl i=>.int i
 | .inr x=>.str x
inductive HO where
 | lst (xs:List V)
 | tup (xs:List V)
 | dK (kvs:List (Key×V))| dT (kvs:List (List Key×V))
 | set (S:Int->Bool) (n:Nat)
 | ins (C dx:Addr) (fs:List (Str×V))
 | own (x:Addr)
 | xd (fs:List (Str×V))
 | met (f x:Addr)
 | rng (lo hi:Int)
 | frz (o:Obj) (u:HO)
 | tbl (ps:Array Value)
 | ext (φ:Heap->Prop)
abbrev Hp:=Addr->Option HO
def upd(H:Hp)(a:Addr)(o:HO):Hp:=λb=>if b=a then some o else H b
theorem BS:upd H a o a=some o:=by unfold upd;rw[if_pos rfl]
theorem AZ(h:b≠a):upd H a o b=H b:=by unfold upd;rw[if_neg h]
theorem EL{H:Hp}(h:H a=some o)(h':H b=none):a≠b:=by
 intro e;subst e;rw[h]at h';cases h'
def TupP(h:Heap)(a:Addr)(items:Array Value):Prop:=∃ o,h.get? a=some o/\o.cls=.type "tuple"/\o.dict=none/\∃ n,o.data=.seq items n
theorem TupP.new(h:Heap)(items:Array Value):TupP (h.push {cls:=.type "tuple",data:=.seq items}) h.objs.size items:=⟨_,Qp _ rfl,rfl,rfl,_,rfl⟩
theorem TupP.up(x:TupP h a items):IsTup h a items:=let⟨o,e,c,_,d⟩:=x;⟨o,e,c,d⟩
section
variable (P:Program)(w:World)
def ObjOk(H:Hp)(h:Heap)(a:Addr):HO->Prop
 | .lst xs=>xs.length<=sizeLine/\∃(its:List Value)(n:Nat),Vals xs its/\h.get? a=some {cls:=.type "list",data:=.seq its.toArray n}
 | .tup xs=>xs.length<=sizeLine/\∃ its:List Value,Vals xs its/\TupP h a its.toArray
 | .dK kvs=>kvs.length<=sizeLine/\(a==sysModules)=false/\∃ vs,KV kvs vs/\h.DictOf (Bw P w) a vs
 | .dT kvs=>kvs.length<=sizeLine/\(a==sysModules)=false/\∃ xs:List (List Key×Addr×Value),
   Paired (λ(p:List Key×V)(q:List Key×Addr×Value)=>p.1=q.1/\H q.2.1=some (.tup (p.1.map kV))/\RelV p.2 q.2.2) kvs xs/\
   ∃ o es ep,h.get? a=some o/\o.ExactDict/\o.data=.dict es ep/\es.toList=xs.map (entryOfKey (tupleKind (Bw P w)))/\(xs.map (·.1)).Nodup
 | .set S n=>h.SetOf (intKind P w) a S n
 | .ins C dx fs=>H dx=some (.own a)/\fs.length<=1000/\dx≠a/\h.get? a=some (PySem.W.instObj C dx)/\
   ∃ mA,h.Ns1 dx mA/\(∀ f,Ow (fs.lookup f) (mA f))/\PySem.Within mA (fs.map (·.1))
 | .own _=>∃ o,h.get? a=some o
 | .xd fs=>∃ mA,h.Ns1 a mA/\∀ f,Ow (fs.lookup f) (mA f)
 | .rng lo hi=>∃ t u v,h.get? a=some {cls:=.type "range",data:=.fields #[.int lo t,.int hi u,.int 1 v]}
 | .frz o u=>h.get? a=some o/\ObjOk H h a u
 | .tbl ps=>h.get? a=some {cls:=.none,data:=.fields ps}
 | .met f x=>h.get? a=some (PySem.W.methodObj (.ref f) (.ref x))
 | .ext φ=>φ h/\(∃ o,h.get? a=some o)/\∀ h1 h2:Heap,φ h1->(∀ o,h1.get? a=some o->h2.get? a=some o)->φ h2
def HOk(H:Hp)(h:Heap):Prop:=∀ a o,H a=some o->ObjOk P w H h a o
end
section
theorem ObjOk.lt(x:ObjOk P w H h a o):a < h.objs.size:=by
 cases o with
 | lst xs=>obtain⟨_,_,_,_,e⟩:=x;exact Qo e
 | tup xs=>obtain⟨_,_,_,p⟩:=x;exact p.up.lt
 | dK b=>obtain⟨_,_,_,_,o,_,_,e,_⟩:=x;exact Qo e
 | dT b=>obtain⟨_,_,_,_,o,_,_,e,_⟩:=x;exact Qo e
 | set S n=>obtain⟨o,_,_,_,e,_⟩:=x;exact Qo e
 | ins C dx fs=>obtain⟨_,_,_,e,_⟩:=x;exact Qo e
 | own y=>obtain⟨_,e⟩:=x;exact Qo e
 | xd fs=>obtain⟨_,⟨_,_,_,e,_⟩,_⟩:=x;exact Qo e
 | rng lo hi=>obtain⟨_,_,_,e⟩:=x;exact Qo e
 | frz c u=>obtain⟨e,_⟩:=x;exact Qo e
 | tbl ps=>exact Qo (show h.get? a=some _ from x)
 | met f y=>exact Qo (show h.get? a=some _ from x)
 | ext φ=>obtain⟨_,⟨_,e⟩,_⟩:=x;exact Qo e
variable {a:Addr} in
theorem Paired.mapP{α β:Type}{F G:α->β->Prop}:∀{l₁:List α}{l₂:List β},Paired F l₁ l₂->(∀ a b,F a b->G a b)->Paired G l₁ l₂
 | _,_,.nil,_=>.nil
 | _,_,.cons r t,f=>.cons (f _ _ r) (Paired.mapP t f)
theorem ObjOk.stay(x:ObjOk P w H h a o)(k:∀ b u,(b=a\/H b=some (.own a))->h.get? b=some u->h'.get? b=some u)(B:∀ b,H b=some (.own a)->H' b=some (.own a))(s:∀ b xs,H b=some (.tup xs)->H' b=some (.tup xs)):ObjOk P w H' h' a o:=by
 induction o with
 | lst xs=>obtain⟨z,j,n,r,e⟩:=x;exact⟨z,j,n,r,k _ _ (.inl rfl) e⟩
 | tup xs=>obtain⟨z,j,r,g,e,c⟩:=x;exact⟨z,j,r,g,k _ _ (.inl rfl) e,c⟩
 | dK l=>obtain⟨z,y,vs,r,g,es,i,e,c⟩:=x;exact⟨z,y,vs,r,g,es,i,k _ _ (.inl rfl) e,c⟩
 | dT l =>
  obtain⟨z,y,xs,r,g,es,i,e,c⟩:=x;exact⟨z,y,xs,Paired.mapP r λp q z=>⟨z.1,s _ _ z.2.1,z.2.2⟩,g,es,i,k _ _ (.inl rfl) e,c⟩
 | set S n=>obtain⟨g,es,i,t,e,c⟩:=x;exact⟨g,es,i,t,k _ _ (.inl rfl) e,c⟩
 | ins C dx fs =>
  obtain⟨d,z,ne,e,mA,⟨m,es,i,A,c⟩,r⟩:=x;exact⟨B _ d,z,ne,k _ _ (.inl rfl) e,mA,⟨m,es,i,k _ _ (.inr d) A,c⟩,r⟩
 | own y=>obtain⟨g,e⟩:=x;exact⟨g,k _ _ (.inl rfl) e⟩
 | xd fs=>obtain⟨mA,⟨m,es,i,e,c⟩,r⟩:=x;exact⟨mA,⟨m,es,i,k _ _ (.inl rfl) e,c⟩,r⟩
 | rng lo hi=>obtain⟨t,u,v,e⟩:=x;exact⟨t,u,v,k _ _ (.inl rfl) e⟩
 | frz g u D=>obtain⟨e,q⟩:=x;exact⟨k _ _ (.inl rfl) e,D q⟩
 | tbl ps =>
  have e:h.get? a=some {cls:=.none,data:=.fields ps}:=x;show h'.get? a=some {cls:=.none,data:=.fields ps};exact k a _ (.inl rfl) e
 | met f y =>
  have e:h.get? a=some (PySem.W.methodObj (.ref f) (.ref y)):=x;show h'.get? a=some (PySem.W.methodObj (.ref f) (.ref y));exact k a _ (.inl rfl) e
 | ext φ=>obtain⟨p,⟨o,e⟩,st⟩:=x;exact⟨st _ _ p λo q=>k _ _ (.inl rfl) q,⟨o,k _ _ (.inl rfl) e⟩,st⟩
theorem HOk.lt(x:HOk P w H h)(e:H a=some o):a < h.objs.size:=(x a o e).lt
theorem HOk.fresh{a:Addr}(x:HOk P w H h)(e:h.objs.size<=a):H a=none:=by
 cases q:H a with
 | none=>rfl
 | some u=>exact absurd (Yu (x.lt q) e) (YL _)
theorem HOk.kept(x:HOk P w H h)(k:∀ b u,h.get? b=some u->h'.get? b=some u):HOk P w H h':=λa o e=>
 (x a o e).stay (λb u _ q=>k b u q) (λ_ q=>q) λ_ _ q=>q
theorem HOk.laid{a:Addr}(x:HOk P w H h)(k:∀ b u,h.get? b=some u->h'.get? b=some u)(g:h.objs.size<=a)(new:ObjOk P w (upd H a o) h' a o):HOk P w (upd H a o) h':=λb u e=>by
 have d:=x.fresh g;by_cases f:b=a
 ·subst f;rw[BS]at e;cases e;exact new
 ·rw[AZ f]at e;exact(x b u e).stay (λc v _ q=>k c v q) (λc q=>by rw[AZ (EL q d)];exact q) λc xs q=>by rw[AZ (EL q d)];exact q
end
def Rd(H:Hp)(a:Addr)(u:HO):Prop:=H a=some u\/∃ o,H a=some (.frz o u)
theorem Rd.of(h:H a=some u):Rd H a u:=.inl h
theorem Rd.ok(r:Rd H a u)(x:HOk P w H h):ObjOk P w H h a u:=by
 rcases r with r |⟨o,r⟩
 ·exact x a u r
 ·obtain⟨_,q⟩:=x a _ r;exact q
def Mut:Option HO->Prop
 | some (.lst _)=>True
 | some (.dK _)=>True
 | some (.dT _)=>True
 | some (.set _ _)=>True
 | some (.ins _ _ _)=>True
 | some (.ext _)=>True
 | _=>False
section
theorem HOk.write(ok:HOk P w H h)(g:Mut (H x))(l:e=x\/H e=some (.own x))(k:∀ b u,b≠e->h.get? b=some u->h'.get? b=some u)(j:∃ u,h'.get? e=some u)(new:ObjOk P w (upd H x o') h' x o'):HOk P w (upd H x o') h':=λb u q=>by
 have d:∀ c y,H c=some (.own y)->c≠x:=λc y r z=>by subst z;rw[r]at g;exact g
 have f:∀ c xs,H c=some (.tup xs)->c≠x:=λc xs r z=>by subst z;rw[r]at g;exact g
 by_cases i:b=x
 ·subst i;rw[BS]at q;cases q;exact new
 ·rw[AZ i]at q;by_cases a:b=e
  ·have m:H b=some (.own x):=by
    rcases l with z | z
    ·exact absurd (a.trans z) i
    ·rw[a];exact z
   rw[q]at m;cases m;obtain⟨v,n⟩:=j;exact⟨v,by rw[a];exact n⟩
  ·refine(ok b u q).stay (λc v hc r=>k c v ?_ r) (λc r=>by rw[AZ (d c b r)];exact r) λc xs r=>by rw[AZ (f c xs r)];exact r
   rcases hc with rfl | hc
   ·exact a
   ·rintro rfl;rcases l with z | z
    ·exact d c b hc z
    ·rw[hc]at z;cases z;exact i rfl
end
structure Un(fs ex:List Addr)(H H':Hp)(h h':Heap):Prop where
 keep:∀ b o,h.get? b=some o->H b=none->b∉fs->b∉ex->h'.get? b=some o
 slot:∀ b o,h.get? b=some o->H b=none->b∈fs->b∉ex->∃ sl,h'.get? b=some {o with slots:=sl}
 free:∀ b o,h.get? b=some o->H b=none->b∉ex->H' b=none
 there:∀ b o,h.get? b=some o->b∉ex->∃ o',h'.get? b=some o'
 tups:∀ b xs,H b=some (.tup xs)->H' b=some (.tup xs)
 frzs:∀ b o u,H b=some (.frz o u)->H' b=some (.frz o u)
 tbls:∀ b ps,H b=some (.tbl ps)->∃ more,H' b=some (.tbl (ps++more))
section
theorem Un.any(u:Un fs ex H H1 h h1)(q:h.get? b=some a)(n:H b=none)(c:b∉ex):∃ e,h1.get? b=some {a with slots:=e}:=by
 by_cases d:b∈fs
 ·exact u.slot b a q n d c
 ·exact⟨a.slots,u.keep b a q n d c⟩
theorem Un.trans(a:Un fs ex H H1 h h1)(b:Un fs ex H1 H2 h1 h2):Un fs ex H H2 h h2 where
 keep:=λc e q n hc d=>b.keep c e (a.keep c e q n hc d) (a.free c e q n d) hc d
 slot:=λc e q n hc d=>by
  obtain⟨l,f⟩:=a.slot c e q n hc d;obtain⟨i,g⟩:=b.slot c _ f (a.free c e q n d) hc d;exact⟨i,g⟩
 free:=λc e q n d=>by
  obtain⟨o',f⟩:=a.there c e q d;exact b.free c o' f (a.free c e q n d) d
 there:=λc e q d=>by
  obtain⟨o',f⟩:=a.there c e q d;exact b.there c o' f d
 tups:=λc xs q=>b.tups c xs (a.tups c xs q)
 frzs:=λc e xs q=>b.frzs c e xs (a.frzs c e xs q)
 tbls:=λc ps q=>by
  obtain⟨k,f⟩:=a.tbls c ps q;obtain⟨j,g⟩:=b.tbls c _ f;exact⟨k++j,by rw[g,Array.append_assoc]⟩
theorem Un.kept(k:∀ b u,h.get? b=some u->h'.get? b=some u):Un fs ex H H h h' :=
 ⟨λb a q _ _ _=>k b a q,λb a q _ _ _=>⟨a.slots,k b a q⟩,λ_ _ _ n _=>n,λb a q _=>⟨a,k b a q⟩,λ_ _ q=>q,λ_ _ _ q=>q,λ_ ps q=>⟨#[],by rw[q];simp⟩⟩
theorem Un.refl:Un fs ex H H h h:=Un.kept λ_ _ q=>q
theorem Un.laid{h:Heap}{a:Addr}(k:∀ b u,h.get? b=some u->h'.get? b=some u)(d:h.objs.size<=a)(c:H a=none):Un fs ex H (upd H a o) h h' where
 keep:=λb u q _ _ _=>k b u q
 slot:=λb u q _ _ _=>⟨u.slots,k b u q⟩
 free:=λb u q n _=>by rw[AZ (Ys (Yu (Qo q) d))];exact n
 there:=λb u q _=>⟨u,k b u q⟩
 tups:=λb xs q=>by rw[AZ (EL q c)];exact q
 frzs:=λb u xs q=>by rw[AZ (EL q c)];exact q
 tbls:=λb ps q=>⟨#[],by rw[AZ (EL q c),q];simp⟩
theorem Un.write(c:Mut (H x))(j:e=x\/H e=some (.own x))(k:∀ b u,b≠e->h.get? b=some u->h'.get? b=some u)(f:∃ u,h'.get? e=some u):Un fs ex H (upd H x o) h h':=by
 have g:∀ b,H b=none->b≠x:=λb n z=>by subst z;rw[n]at c;exact c
 have i:∀ b,H b=none->b≠e:=λb n z=>by
  subst z;rcases j with r | r
  ·exact g b n r
  ·rw[n]at r;cases r
 have d:∀ b u,H b=some u->¬ Mut (some u)->b≠x:=λb u q nm z=>by subst z;rw[q]at c;exact nm c
 refine⟨λb u q n _ _=>k b u (i b n) q,λb u q n _ _=>⟨u.slots,k b u (i b n) q⟩,λb u q n _=>by rw[AZ (g b n)];exact n,λb u q _=>?_,
  λb xs q=>by rw[AZ (d b _ q λz=>z)];exact q,λb u xs q=>by rw[AZ (d b _ q λz=>z)];exact q,λb ps q=>⟨#[],by rw[AZ (d b _ q λz=>z),q];simp⟩⟩
 by_cases a:b=e
 ·subst a;exact f
 ·exact⟨u,k b u a q⟩
theorem Un.mono(u:Un fs ex H H1 h h1)(hs:∀ b∈fs,b∈fs')(d:∀ b∈ex,b∈ex'):Un fs' ex' H H1 h h1 :=
 ⟨λb c q n e a=>u.keep b c q n (λz=>e (hs b z)) λz=>a (d b z),λ_ _ q n _ a=>u.any q n λz=>a (d _ z),λb c q n a=>u.free b c q n λz=>a (d b z),λb c q a=>u.there b c q λz=>a (d b z),u.tups,u.frzs,u.tbls⟩
end
def trk(h:Heap)(H:Hp):List Addr:=(List.range h.objs.size).filter λa=>(H a).isSome
def Ds(h:Heap)(H:Hp):Heap:=PySem.W.hideAll h (trk h H)
theorem X8(h:Heap)(H:Hp):(Ds h H).objs.size=h.objs.size:=PySem.W.hideAll_size _ _
theorem X9(e:h.get? b=some o)(n:H b=none):(Ds h H).get? b=some o :=
 PySem.W.hideAll_get _ e λa=>by
  have q:(H b).isSome=true:=(List.mem_filter.mp a).2;rw[n]at q;simp at q
theorem Y0(e:(Ds h H).get? b=some o):h.get? b=some o/\H b=none:=by
 have a:h.get? b=some o:=PySem.W.of_hideAll (trk h H) e;refine⟨a,?_⟩;cases q:H b with
 | none=>rfl
 | some x =>
  have c:b∈trk h H:=List.mem_filter.mpr ⟨List.mem_range.mpr (Qo a),by simp[q]⟩;have z:(Ds h H).get? b=none:=PySem.W.hideAll_none (trk h H) c;rw[z]at e;cases e
def Y1(g h:Heap)(L:Addr):List (Addr×Obj):=(List.range h.objs.size).filterMap λa=>if a=L\/(g.get? a).isSome=true then none else(h.get? a).map λo=>(a,o)
def Ar(g h:Heap)(L d:Addr):List (Addr×Obj):=(Y1 g h L).filter λp=>decide (p.1≠d)
structure Mod(K:PySem.W.Frag)(mg:Str->Option Value)(base:Heap):Prop where
 kin:K.In base
 glob:base.Ns mainGlobals mg
 blt:∃ mb,base.Ns builtinsNs mb/\∀ x:Str,x≠"__name__"->mb x=bootBuiltins x
 nolimit:base.NoLimit
structure Cx where
 prog:Program
 w:World
 K:PySem.W.Frag
 mg:Str->Option Value
 base:Heap
 A:Around
 N:List Str
 s₀:Shared
 H₀:Hp
 env:Env
 outer:List Env
 stack:List Env
 ex:List Addr
 fn:Str->Bool
 calm:Bool
 pn:List (Addr×Obj)
 xe:Value->Shared->Prop
def frs(l:List Env):List Addr:=l.filterMap (·.frame)
abbrev Cx.fs(X:Cx):List Addr:=frs X.outer
def Vis(sc:Scope)(x:Str):Prop:=sc.names.lookup x=some .local\/sc.names.lookup x=some .cell\/sc.names.lookup x=some .free
def Loc(sc:Scope)(x:Str):Prop:=sc.names.lookup x=some .local\/sc.names.lookup x=some .cell
def Ox(env:Env)(h:Heap)(m:Str->Option Value)(x:Str)(u:Value):Prop :=
 (env.kindOf x=some .local/\m x=some u)\/((env.kindOf x=some .cell\/env.kindOf x=some .free)/\∃ c,env.cells.lookup x=some c/\h.IsCell c (some u))
structure Cx.Ok(X:Cx):Prop where
 mod:Mod X.K X.mg X.base
 kind:X.env.scope.kind=.function
 glob:X.env.globals=mainGlobals
 blt:X.env.builtins=builtinsNs
 above:X.s₀.heap.objs.size<=X.env.locals
 inj:∀ x y c,X.env.cells.lookup x=some c->X.env.cells.lookup y=some c->x=y
 has:∀ x,(X.env.kindOf x=some .cell\/X.env.kindOf x=some .free)->∃ c,X.env.cells.lookup x=some c
 cab:∀ x c,X.fn x=true->X.env.cells.lookup x=some c->X.s₀.heap.objs.size<=c
 hd:X.calm=true->X.A.handled=none
 frames:X.A.frames=some X.stack
 stk:X.stack=X.outer\/(X.stack=X.env::X.outer/\X.env.frame=some X.env.locals)
 exf:∀ b∈X.ex,b≠X.env.locals/\∀ x c,X.env.cells.lookup x=some c->c≠b
 bs:∀ b o,X.base.get? b=some o->X.s₀.heap.get? b=some o/\X.H₀ b=none
 bsz:X.base.objs.size<=X.s₀.heap.objs.size
 noex:∀ b o,X.base.get? b=some o->b∉X.ex
 exfs:∀ b∈X.ex,b∉X.fs
 funs:X.s₀.heap.FunFrames X.base X.outer
 frf:∀ b∈X.fs,X.H₀ b=none
structure Inv(X:Cx)(pins:List (Addr×Obj))(σ:List (Option V))(H:Hp)(s:Shared):Prop where
 ok:X.Ok
 os:s.os=X.s₀.os
 bare:AllBare s.gens
 base:Un X.fs X.ex X.H₀ H X.s₀.heap s.heap
 loc:∃ m,s.heap.Ns X.env.locals m/\∀(i:Nat)(x:Str)(v:V),X.N[i]?=some x->σ[i]?=some (some v)->Vis X.env.scope x->∃ u,RelV v u/\Ox X.env s.heap m x u
 cell:∀ x c,X.env.cells.lookup x=some c->∃ v,s.heap.IsCell c v
 free:H X.env.locals=none
 freeC:∀ x c,X.env.cells.lookup x=some c->H c=none
 pin:∀ p∈X.pn++pins,s.heap.get? p.1=some p.2/\H p.1=none/\p.1≠X.env.locals/\p.1∉X.fs/\∀ v,p.2.data≠.cell v
 hok:HOk X.prog X.w H s.heap
 len:σ.length=X.N.length
section
theorem Cx.Ok.nofr{X:Cx}(ok:X.Ok)(e:X.base.get? b=some o):b∉X.fs:=λa=>by
 have:=(ok.funs.mem a).1;rw[e]at this;cases this
theorem Inv.bs(I:Inv X pins σ H s):∀ b o,X.base.get? b=some o->s.heap.get? b=some o/\H b=none:=λb o e=>
 ⟨I.base.keep b o (I.ok.bs b o e).1 (I.ok.bs b o e).2 (I.ok.nofr e) (I.ok.noex b o e),I.base.free b o (I.ok.bs b o e).1 (I.ok.bs b o e).2 (I.ok.noex b o e)⟩
theorem Inv.bk(I:Inv X pins σ H s):∀ b o,X.base.get? b=some o->s.heap.get? b=some o:=λb o e=>(I.bs b o e).1
theorem Inv.mod(I:Inv X pins σ H s):Mod X.K X.mg X.base:=I.ok.mod
theorem Inv.kIn(I:Inv X pins σ H s):X.K.In s.heap:=I.ok.mod.kin.keeps I.bk
theorem Inv.nolimit(I:Inv X pins σ H s):s.heap.NoLimit:=I.ok.mod.nolimit.keeps I.bk
theorem Inv.fr(I:Inv X pins σ H s):∃ m,Fr X.base X.env.locals s.heap m :=
 let⟨m,hn,_⟩:=I.loc
 ⟨m,hn,I.bk,Yt I.ok.bsz I.ok.above⟩
theorem Inv.lt(I:Inv X pins σ H s):X.env.locals < s.heap.objs.size:=let⟨_,hn,_⟩:=I.loc;hn.lt
theorem Inv.sz(I:Inv X pins σ H s):X.s₀.heap.objs.size<=s.heap.objs.size:=Yt I.ok.above (YK I.lt)
theorem Inv.nofs(I:Inv X pins σ H s){a:Addr}(h:s.heap.objs.size<=a):a∉X.fs:=λc=>by
 obtain⟨_,o,b,_⟩:=I.ok.funs.mem c;exact absurd (Yu (Qo b) (Yt I.sz h)) (YL _)
theorem Inv.cne(I:Inv X pins σ H s):∀ x c,X.env.cells.lookup x=some c->c≠X.env.locals:=λx c e z=>by
 obtain⟨v,o,d,hd⟩:=I.cell x c e;obtain⟨m,⟨o',es,f,b,a,_⟩,_⟩:=I.loc;rw[z,b]at d;cases d;rw[a]at hd;cases hd
theorem Inv.funs(I:Inv X pins σ H s):s.heap.FunFrames X.base X.outer:=by
 have all:∀(l:List Env),(∀ b∈frs l,b∈X.fs)->X.s₀.heap.FunFrames X.base l->s.heap.FunFrames X.base l:=by
  intro l;induction l with
  | nil=>intro _ _;trivial
  | cons env r h =>
   intro hs hl;obtain⟨j,⟨L,o,a,f,g,hd⟩,i⟩:=hl;have c:L∈X.fs:=hs L (by unfold frs;rw[List.filterMap_cons,a];exact Ye);obtain⟨k,e⟩:=I.base.slot L o g (I.ok.frf L c) c λz=>I.ok.exfs L z c;exact⟨j,⟨L,_,a,f,e,hd⟩,h (λb d=>hs b (by unfold frs;rw[List.filterMap_cons,a];exact Yd _ d)) i⟩
 exact all X.outer (λ_ d=>d) I.ok.funs
theorem Inv.stack(I:Inv X pins σ H s):s.heap.FunFrames X.base X.stack:=by
 rcases I.ok.stk with e |⟨e,a⟩
 ·rw[e];exact I.funs
 ·rw[e];obtain⟨m,b,_⟩:=I.loc;refine .cons (by rw[I.ok.kind];decide) a b ?_ I.funs;exact Heap.get?_none_of_le (Yt I.ok.bsz I.ok.above)
theorem Inv.stkSub(I:Inv X pins σ H s):∀ b∈frs X.stack,b∈X.env.locals::X.fs:=λb a=>by
 rcases I.ok.stk with e |⟨e,c⟩
 ·rw[e]at a;exact Yd _ a
 ·rw[e]at a;unfold frs at a;rw[List.filterMap_cons,c]at a;exact a
theorem Inv.stkFree(I:Inv X pins σ H s):∀ b∈frs X.stack,H b=none:=λb a=>by
 rcases Yo.mp (I.stkSub b a)with e | a
 ·rw[e];exact I.free
 ·obtain⟨_,o,c,_⟩:=I.ok.funs.mem a;exact I.base.free b o c (I.ok.frf b a) λz=>I.ok.exfs b z a
theorem Inv.step{ch:List Addr}(I:Inv X pins σ H s)(f:∀ b∈ch,(b∈X.ex\/X.s₀.heap.objs.size<=b)/\b≠X.env.locals/\(∀ x c,X.env.cells.lookup x=some c->c≠b)/\∀ p∈X.pn++pins,p.1≠b)(keep:∀ b o,b≠X.env.locals->b∉X.fs->b∉ch->s.heap.get? b=some o->H b=none->h'.get? b=some o)(slot:∀ b o,b≠X.env.locals->b∈X.fs->b∉ch->s.heap.get? b=some o->H b=none->∃ F,h'.get? b=some {o with slots:=F})(free:∀ b o,b∉ch->s.heap.get? b=some o->H b=none->H' b=none)(there:∀ b o,b∉ch->s.heap.get? b=some o->∃ o',h'.get? b=some o')(tups:∀ b xs,H b=some (.tup xs)->H' b=some (.tup xs))(frzs:∀ b o u,H b=some (.frz o u)->H' b=some (.frz o u))(tbls:∀ b ps,H b=some (.tbl ps)->∃ B,H' b=some (.tbl (ps++B)))(ns:∀ m,s.heap.Ns X.env.locals m->h'.Ns X.env.locals m)(hok:HOk X.prog X.w H' h')(L:AllBare g'):
  Inv X pins σ H' {s with heap:=h',gens:=g',drawn:=d',toks:=t'}:=by
 have E:∀ b o,X.s₀.heap.get? b=some o->b≠X.env.locals:=λb o e=>Ys (Yu (Qo e) I.ok.above)
 have j:∀ b o,X.s₀.heap.get? b=some o->b∉X.ex->b∉ch:=λb o e a y=>by
  rcases(f b y).1 with z | z
  ·exact a z
  ·exact absurd (Yu (Qo e) z) (YL _)
 have g:∀ x c,X.env.cells.lookup x=some c->∀ v,s.heap.IsCell c v->h'.IsCell c v:=by
  rintro x c e v ⟨o,A,hd⟩;have h:c∉ch:=λz=>(f c z).2.2.1 x c e rfl;by_cases hc:c∈X.fs
  ·obtain⟨F,q⟩:=slot c o (I.cne x c e) hc h A (I.freeC x c e);exact⟨_,q,hd⟩
  ·exact⟨o,keep c o (I.cne x c e) hc h A (I.freeC x c e),hd⟩
 refine⟨I.ok,I.os,L,⟨λb o e n y a=>?_,λb o e n y a=>?_,λb o e n a=>?_,λb o e a=>?_,λb xs e=>tups b xs (I.base.tups b xs e),λb o xs e=>frzs b o xs (I.base.frzs b o xs e),λb ps e=>?_⟩,?_,λx c e=>?_,?_,λx c e=>?_,λp J=>?_,hok,I.len⟩
 ·exact keep b o (E b o e) y (j b o e a) (I.base.keep b o e n y a) (I.base.free b o e n a)
 ·obtain⟨F,t⟩:=I.base.slot b o e n y a;obtain⟨G,D⟩:=slot b _ (E b o e) y (j b o e a) t (I.base.free b o e n a);exact⟨G,D⟩
 ·obtain⟨o',t⟩:=I.base.there b o e a;exact free b o' (j b o e a) t (I.base.free b o e n a)
 ·obtain⟨o',t⟩:=I.base.there b o e a;exact there b o' (j b o e a) t
 ·obtain⟨Q,t⟩:=I.base.tbls b ps e;obtain⟨P,D⟩:=tbls b _ t;exact⟨Q++P,by rw[D,Array.append_assoc]⟩
 ·obtain⟨m,O,hl⟩:=I.loc;refine⟨m,ns m O,λi x v t D N=>?_⟩;obtain⟨u,r,l⟩:=hl i x v t D N;refine⟨u,r,?_⟩;rcases l with l |⟨k,c,e,z⟩
  ·exact .inl l
  ·exact .inr ⟨k,c,e,g x c e _ z⟩
 ·obtain⟨v,z⟩:=I.cell x c e;exact⟨v,g x c e v z⟩
 ·obtain⟨m,⟨o,_,_,A,_⟩,_⟩:=I.loc;exact free _ o (λz=>(f _ z).2.1 rfl) A I.free
 ·obtain⟨v,o,A,hd⟩:=I.cell x c e;exact free c o (λz=>(f c z).2.2.1 x c e rfl) A (I.freeC x c e)
 ·obtain⟨e,n,ne,K,d⟩:=I.pin p J;have h:p.1∉ch:=λz=>(f p.1 z).2.2.2 p J rfl;exact⟨keep p.1 p.2 ne K h e n,free p.1 p.2 h e n,ne,K,d⟩
theorem Inv.un(I:Inv X pins σ H s)(u:Un X.fs [] H H' s.heap h')(hok:HOk X.prog X.w H' h'):Inv X pins σ H' {s with heap:=h',toks:=t'}:=by
 obtain⟨m,⟨o,es,k,f,r⟩,_⟩:=id I.loc;obtain⟨i,h⟩:=u.any f I.free (by simp)
 exact I.step (g':=s.gens) (d':=s.drawn) (ch:=[]) (λ_ z=>nomatch z) (λb o _ d _ e n=>u.keep b o e n d (by simp)) (λb o _ d _ e n=>u.slot b o e n d (by simp)) (λb o _ e n=>u.free b o e n (by simp)) (λb o _ e=>u.there b o e (by simp)) u.tups u.frzs u.tbls (λj g=>by
  obtain⟨o',es',c,a,r'⟩:=g;rw[f]at a;cases a;exact⟨_,es',c,h,r'⟩) hok I.bare
theorem Inv.call(I:Inv X pins σ H s)(u:Un (frs X.stack) ch H H' s.heap h')(hok:HOk X.prog X.w H' h')(j:AllBare g')(a:∀ b∈ch,(b∈X.ex\/X.s₀.heap.objs.size<=b)/\b≠X.env.locals/\(∀ x c,X.env.cells.lookup x=some c->c≠b)/\∀ p∈X.pn++pins,p.1≠b):
  Inv X pins σ H' {s with heap:=h',gens:=g',drawn:=d',toks:=t'}:=by
 obtain⟨m,⟨o,es,t,h,r⟩,_⟩:=id I.loc;obtain⟨l,f⟩:=u.any h I.free λz=>(a _ z).2.1 rfl
 exact I.step (ch:=ch) a (λb o f k hc e n=>u.keep b o e n (λz=>(Yo.mp (I.stkSub b z)).elim f k) hc) (λb o _ _ hc e n=>u.any e n hc) (λb o hc e n=>u.free b o e n hc) (λb o hc e=>u.there b o e hc) u.tups u.frzs u.tbls (λq i=>by
  obtain⟨o',es',g,d,r'⟩:=i;rw[h]at d;cases d;exact⟨_,es',g,f,r'⟩) hok j
theorem Inv.turned(I:Inv X pins σ H s)(k:∀ b o,b≠it->s.heap.get? b=some o->h'.get? b=some o)(f:H it=none)(d:it≠X.env.locals)(h1:it∈X.ex\/X.s₀.heap.objs.size<=it)(h2:∀ x c,X.env.cells.lookup x=some c->c≠it)(g:∀ p∈X.pn++pins,p.1≠it):Inv X pins σ H {s with heap:=h',toks:=t'}:=by
 have a:∀ b u,H b=some u->b≠it:=λb u e z=>by rw[z,f]at e;cases e
 refine I.step (g':=s.gens) (d':=s.drawn) (ch:=[it]) (λb l=>?_) (λb o _ _ hc e _=>k b o (λz=>hc (by simp[z])) e) (λb o _ _ hc e _=>⟨o.slots,k b o (λz=>hc (by simp[z])) e⟩) (λ_ _ _ _ n=>n)
  (λb o hc e=>⟨o,k b o (λz=>hc (by simp[z])) e⟩) (λ_ _ e=>e) (λ_ _ _ e=>e) (λb ps e=>⟨#[],by rw[e];simp⟩) (λm h=>?_) (λb u e=>?_) I.bare
 ·have e:b=it:=by simpa using l
  subst e;exact⟨h1,d,h2,g⟩
 ·obtain⟨o,es,j,i,r⟩:=h;exact⟨o,es,j,k _ o (YY d) i,r⟩
 ·refine(I.hok b u e).stay (λc v hc q=>k c v ?_ q) (λ_ q=>q) λ_ _ q=>q;rcases hc with z | z
  ·rw[z];exact a b u e
  ·exact a c _ z
theorem Inv.tok(I:Inv X pins σ H s)(t:Nat):Inv X pins σ H {s with toks:=t}:=I.un (h':=s.heap) (t':=t) Un.refl I.hok
theorem Inv.kept(I:Inv X pins σ H s)(k:∀ b u,s.heap.get? b=some u->h'.get? b=some u):Inv X pins σ H {s with heap:=h',toks:=t'}:=I.un (Un.kept k) (I.hok.kept k)
theorem Inv.laid{a:Addr}(I:Inv X pins σ H s)(k:∀ b u,s.heap.get? b=some u->h'.get? b=some u)(c:s.heap.objs.size<=a)(new:ObjOk X.prog X.w (upd H a o) h' a o):
  Inv X pins σ (upd H a o) {s with heap:=h',toks:=t'}:=I.un (Un.laid k c (I.hok.fresh c)) (I.hok.laid k c new)
theorem Inv.write(I:Inv X pins σ H s)(c:Mut (H x))(d:e=x\/H e=some (.own x))(k:∀ b u,b≠e->s.heap.get? b=some u->h'.get? b=some u)(a:∃ u,h'.get? e=some u)(new:ObjOk X.prog X.w (upd H x o) h' x o):Inv X pins σ (upd H x o) {s with heap:=h',toks:=t'}:=I.un (Un.write c d k a) (I.hok.write c d k a new)
theorem Inv.pins_of(I:Inv X pins σ H s)(h:∀ p∈a,s.heap.get? p.1=some p.2/\H p.1=none/\p.1≠X.env.locals/\p.1∉X.fs/\∀ v,p.2.data≠.cell v):Inv X a σ H s :=
 ⟨I.ok,I.os,I.bare,I.base,I.loc,I.cell,I.free,I.freeC,λp b=>(Yz.mp b).elim (λz=>I.pin p (YM _ z)) (h p),I.hok,I.len⟩
theorem Kq{N:List Str}(d:N.Nodup){j:Nat}{x:Str}(a:N[i]?=some x)(b:N[j]?=some x):i=j:=by
 obtain⟨h1,c⟩:=Qa.mp a;obtain⟨h2,e⟩:=Qa.mp b;exact(List.getElem_inj d).mp (c.trans e.symm)
theorem Y2(I:Inv X pins σ H s)(hN:X.N.Nodup)(hi:X.N[i]?=some x)(g:Loc X.env.scope x)(r:RelV v u)(h:∀ s',Inv X pins (σ.set i (some v)) H s'->(∃ a,Heap.SameBut a s.heap s'.heap/\(a=X.env.locals\/X.env.cells.lookup x=some a))->Q () s')(hf:X.fn x=true\/X.env.scope.names.lookup x=some .local:=by first | exact .inl rfl | exact .inr rfl | assumption):wpAny M A (storeName X.env x u) Q E s:=by
 obtain⟨m,hn,hl⟩:=id I.loc;have J:(X.env.scope.kind==.class||(X.env.scope.kind==.module&&X.env.locals != X.env.globals))=false:=by rw[I.ok.kind];rfl
 have hiσ:i < σ.length:=by rw[I.len];exact(Qa.mp hi).1
 have cne:=I.cne
 have tracked:∀{a:Addr}{h':Heap},(∃ o,s.heap.get? a=some o/\H a=none)->Heap.SameBut a s.heap h'->HOk X.prog X.w H h':=λ{a h'}ha hs b ob e=>by
  obtain⟨_,_,l⟩:=ha;refine(I.hok b ob e).stay (λc S hc q=>(hs.2 c ?_).trans q) (λ_ q=>q) λ_ _ q=>q;rintro rfl;rcases hc with rfl | hc
  ·rw[l]at e;cases e
  ·rw[l]at hc;cases hc
 rcases g with B | B
 ·refine wpAny_storeName_local B hn (λh' hn' hs=>?_) J;obtain⟨oL,_,_,hoL,_⟩:=id hn;refine h _ ⟨I.ok,I.os,I.bare,⟨λb o e n G g=>?_,λb o e n G g=>?_,I.base.free,λb o e g=>?_,I.base.tups,I.base.frzs,I.base.tbls⟩,⟨_,hn',λj y v' f t Z=>?_⟩,λy c e=>?_,I.free,I.freeC,λp Y=>?_,tracked ⟨oL,hoL,I.free⟩ hs,by simpa using I.len⟩ ⟨_,hs,.inl rfl⟩
  ·exact(hs.2 b (Ys (Yu (Qo e) I.ok.above))).trans (I.base.keep b o e n G g)
  ·obtain⟨sl,f⟩:=I.base.slot b o e n G g;exact⟨sl,(hs.2 b (Ys (Yu (Qo e) I.ok.above))).trans f⟩
  ·obtain⟨o',f⟩:=I.base.there b o e g;exact⟨o',(hs.2 b (Ys (Yu (Qo e) I.ok.above))).trans f⟩
  ·by_cases D:j=i
   ·subst D;rw[hi]at f;cases f;rw[List.getElem?_set_self hiσ]at t;cases t;exact⟨u,r,.inl ⟨B,by simp⟩⟩
   ·rw[List.getElem?_set_ne (YY D)]at t;obtain⟨T,r',q⟩:=hl j y v' f t Z;refine⟨T,r',?_⟩;rcases q with⟨k,e⟩|⟨k,c,e,z⟩
    ·refine .inl ⟨k,?_⟩;have:y≠x:=λe=>D (Kq hN f (e▸hi));simp[this,e]
    ·exact .inr ⟨k,c,e,z.sameBut hs (cne y c e)⟩
  ·obtain⟨S,z⟩:=I.cell y c e;exact⟨S,z.sameBut hs (cne y c e)⟩
  ·obtain⟨e,n,ne,U,d⟩:=I.pin p Y;exact⟨(hs.2 p.1 ne).trans e,n,ne,U,d⟩
 ·have F:X.fn x=true:=by
   rcases hf with z | z
   ·exact z
   ·rw[z]at B;cases B
  obtain⟨c,hc⟩:=I.ok.has x (.inl B);obtain⟨S,z⟩:=I.cell x c hc;refine wpAny_storeName_cell I.ok.kind B hc z (λh' L hs=>?_);obtain⟨oc,O,K⟩:=id z;refine h {s with heap:=h'} ⟨I.ok,I.os,I.bare,⟨λb o e n G g=>?_,λb o e n G g=>?_,I.base.free,λb o e g=>?_,I.base.tups,I.base.frzs,I.base.tbls⟩,⟨m,hn.sameBut hs (YY (cne x c hc)),λj y v' f t Z=>?_⟩,λy R e=>?_,I.free,I.freeC,λp Y=>?_,tracked ⟨oc,O,I.freeC x c hc⟩ hs,by simpa using I.len⟩ ⟨c,hs,.inr hc⟩
  ·exact(hs.2 b (Ys (Yu (Qo e) (I.ok.cab x c F hc)))).trans (I.base.keep b o e n G g)
  ·obtain⟨sl,f⟩:=I.base.slot b o e n G g;exact⟨sl,(hs.2 b (Ys (Yu (Qo e) (I.ok.cab x c F hc)))).trans f⟩
  ·obtain⟨o',f⟩:=I.base.there b o e g;exact⟨o',(hs.2 b (Ys (Yu (Qo e) (I.ok.cab x c F hc)))).trans f⟩
  ·by_cases D:j=i
   ·subst D;rw[hi]at f;cases f;rw[List.getElem?_set_self hiσ]at t;cases t;exact⟨u,r,.inr ⟨.inl B,c,hc,L⟩⟩
   ·rw[List.getElem?_set_ne (YY D)]at t;obtain⟨T,r',q⟩:=hl j y v' f t Z;refine⟨T,r',?_⟩;rcases q with q |⟨k,R,e,z'⟩
    ·exact .inl q
    ·refine .inr ⟨k,R,e,z'.sameBut hs ?_⟩;rintro rfl;exact D (Kq hN f (I.ok.inj _ _ _ e hc▸hi))
  ·by_cases P:R=c
   ·subst P;exact⟨_,L⟩
   ·obtain⟨w2,z2⟩:=I.cell y R e;exact⟨w2,z2.sameBut hs P⟩
  ·obtain⟨e,n,ne,U,d⟩:=I.pin p Y;refine⟨(hs.2 p.1 ?_).trans e,n,ne,U,d⟩;intro q;rw[q,O]at e;have q':oc=p.2:=YE e;exact d S (by rw[<- q'];exact K)
theorem Gf(I:Inv X pins σ H s)(a:X.N.Nodup)(hi:X.N[i]?=some x)(d:Loc X.env.scope x)(r:RelV v u)(h:∀ s',Inv X pins (σ.set i (some v)) H s'->Q () s')(c:X.fn x=true\/X.env.scope.names.lookup x=some .local:=by first | exact .inl rfl | exact .inr rfl | assumption):wpAny M A (storeName X.env x u) Q E s :=
 Y2 I a hi d r (λs' b _=>h s' b) c
theorem Inv.call'(I:Inv X pins σ H s)(d:s'.os=s.os)(u:Un (frs X.stack) ch H H' s.heap s'.heap)(hok:HOk X.prog X.w H' s'.heap)(f:AllBare s'.gens)(a:∀ b∈ch,(b∈X.ex\/X.s₀.heap.objs.size<=b)/\b≠X.env.locals/\(∀ x c,X.env.cells.lookup x=some c->c≠b)/\∀ p∈X.pn++pins,p.1≠b):Inv X pins σ H' s':=by
 obtain⟨h',g',d',t',o'⟩:=s';have e:o'=s.os:=d;subst e;exact I.call (g':=g') (t':=t') (d':=d') u hok f a
end
abbrev XK:=Value->Option Addr->Hp->Prop
abbrev St:=List (Option V)
abbrev VK:=V->Hp->Prop
abbrev TE:=St->Hp->VK->Prop
abbrev TT:=St->Hp->(Bool->Hp->Prop)->Prop
abbrev TA:=St->Hp->(List V->Hp->Prop)->Prop
structure FD where
 nx:St->Hp->Prop
 rt:VK
 bk:St->Hp->Prop:=λ_ _=>False
 ct:St->Hp->Prop:=λ_ _=>False
abbrev TS:=FD->St->Hp->Prop
def EP(X:Cx)(pins:List (Addr×Obj))(σ:St)(Q:VK)(u:Value)(s':Shared):Prop:=∃ v H',Inv X pins σ H' s'/\RelV v u/\Q v H'
def TP(X:Cx)(pins:List (Addr×Obj))(σ:St)(Q:Bool->Hp->Prop)(b:Bool)(s':Shared):Prop:=∃ H',Inv X pins σ H' s'/\Q b H'
def AP(X:Cx)(pins:List (Addr×Obj))(σ:St)(Q:List V->Hp->Prop)(us:List Value)(s':Shared):Prop:=∃ vs H',Inv X pins σ H' s'/\Vals vs us/\Q vs H'
def SP(X:Cx)(pins:List (Addr×Obj))(D:FD)(f:Flow)(s':Shared):Prop :=
 match f with
 | .next=>∃ σ' H',Inv X pins σ' H' s'/\D.nx σ' H'
 | .brk=>∃ σ' H',Inv X pins σ' H' s'/\D.bk σ' H'
 | .cont=>∃ σ' H',Inv X pins σ' H' s'/\D.ct σ' H'
 | .ret u=>∃ v σ' H',Inv X pins σ' H' s'/\RelV v u/\D.rt v H'
def PE(X:Cx)(e:Expr)(t:TE):Prop :=
 ∀(pins:List (Addr×Obj))(s:Shared)(σ:St)(H:Hp)(Q:VK),Inv X pins σ H s->t σ H Q->wpAny (model X.prog X.w) X.A (eval e X.env) (EP X pins σ Q) X.xe s
def PT(X:Cx)(e:Expr)(t:TT):Prop :=
 ∀(pins:List (Addr×Obj))(s:Shared)(σ:St)(H:Hp)(Q:Bool->Hp->Prop),Inv X pins σ H s->t σ H Q->wpAny (model X.prog X.w) X.A (isTrue e X.env (eval e X.env)) (TP X pins σ Q) X.xe s
def PW(X:Cx)(e:Expr)(t:TT):Prop :=
 ∀(whole:Sem Value)(pins:List (Addr×Obj))(s:Shared)(σ:St)(H:Hp)(Q:Bool->Hp->Prop),Inv X pins σ H s->t σ H Q->wpAny (model X.prog X.w) X.A (isTrue e X.env whole) (TP X pins σ Q) X.xe s
theorem PW.pt(h:PW X e t):PT X e t:=h _
def PA(X:Cx)(es:List Expr)(t:TA):Prop :=
 ∀(pos:Pos)(pins:List (Addr×Obj))(s:Shared)(σ:St)(H:Hp)(Q:List V->Hp->Prop),Inv X pins σ H s->t σ H Q->wpAny (model X.prog X.w) X.A (spliced (backTo pos (starEach es X.env))) (AP X pins σ Q) X.xe s
def PS(X:Cx)(st:Stmt)(t:TS):Prop :=
 ∀(pins:List (Addr×Obj))(s:Shared)(σ:St)(H:Hp)(D:FD),Inv X pins σ H s->t D σ H->wpAny (model X.prog X.w) X.A (exec st X.env) (SP X pins D) X.xe s
def PSs(X:Cx)(st:List Stmt)(t:TS):Prop :=
 ∀(pins:List (Addr×Obj))(s:Shared)(σ:St)(H:Hp)(D:FD),Inv X pins σ H s->t D σ H->wpAny (model X.prog X.w) X.A (execs st X.env) (SP X pins D) X.xe s
theorem thn{α:Type}{t:Sem α}{Q b:α->Shared->Prop}(h:wpAny M A t Q E s)(c:∀ a s,Q a s->b a s):wpAny M A t b E s:=wpAny_mono h c λ_ _ x=>x
section
variable {X:Cx}
theorem bin(n:PE X a ta)(o:PE X b tb){σ:St}{R:V->V->Hp->Prop}(I:Inv X pins σ H s)(h:ta σ H λx H1=>tb σ H1 λy H2=>R x y H2){α:Type}{Q:α->Shared->Prop}{f:Value->Value->Sem α}(j:∀ v u e x y H2,Inv X pins σ H2 e->RelV x v->RelV y u->R x y H2->wpAny (model X.prog X.w) X.A (f v u) Q X.xe e):
  wpAny (model X.prog X.w) X.A (eval a X.env) (λv c=>wpAny (model X.prog X.w) X.A (eval b X.env) (λu d=>wpAny (model X.prog X.w) X.A (f v u) Q X.xe d) X.xe c) X.xe s:=by
 refine thn (n pins s σ H _ I h) λv m i=>?_;obtain⟨x,H1,k,r1,q1⟩:=i;refine thn (o pins m σ H1 _ k q1) λu e g=>?_;obtain⟨y,H2,l,p,q2⟩:=g;exact j v u e x y H2 l r1 p q2
def Oy(i:Nat):TE:=λσ H Q=>∃ v,σ[i]?=some (some v)/\Q v H
def tC(v:V):TE:=λ_ H Q=>Q v H
theorem Oz{pos:Pos}(k:X.N[i]?=some x)(n:Vis X.env.scope x)(hd:(x==("__debug__":Str))=false:=by decide)(f:(x==("__classdict__":Str))=false:=by decide):PE X (.Name x pos) (Oy i):=by
 intro pins s σ H Q I h;obtain⟨v,e,h⟩:=h;obtain⟨m,g,hl⟩:=I.loc;obtain⟨u,r,l⟩:=hl i x v k e n;have b:EP X pins σ Q u s:=⟨v,H,I,r,h⟩;rcases l with⟨d,j⟩|⟨d,c,hc,a⟩
 ·exact wpAny_Name (wpAny_loadName_local I.ok.kind d g j b) hd
 ·rcases d with d | d
  ·exact wpAny_Name (wpAny_loadName_cell I.ok.kind d hc a b) hd
  ·exact wpAny_Name (wpAny_loadName_free I.ok.kind d hc a b f) hd
theorem Y3{i j pos}:PE X (.Constant (.int i) j pos) (tC (.int i)):=λ_ _ _ H _ I h=>wpAny_Constant_int ⟨.int i,H,I.tok _,⟨_,rfl⟩,h⟩
theorem Y4{b j pos}:PE X (.Constant (.bool b) j pos) (tC (.bl b)):=λ_ _ _ H _ I h=>Constant_bool ⟨.bl b,H,I,rfl,h⟩
theorem Y5{j pos}:PE X (.Constant .none j pos) (tC .non):=λ_ _ _ H _ I h=>Constant_none ⟨.non,H,I,rfl,h⟩
theorem OA{x j pos}:PE X (.Constant (.str x) j pos) (tC (.str x)):=λ_ _ _ H _ I h=>Calls.Constant_str ⟨.str x,H,I.tok _,⟨_,rfl⟩,h⟩
def Gl(X:Cx)(x:Str):Prop:=X.env.kindOf x=some .globalImplicit
theorem EM{σ:St}(I:Inv X pins σ H s)(b:Gl X x)(a:X.mg x=some u)(h:Q u s)(hd:(x==("__debug__":Str))=false:=by decide):wpAny (model X.prog X.w) X.A (eval (.Name x pos) X.env) Q E s :=
 Calls.Name_function_global I.ok.kind b (Calls.loadGlobal_global (by rw[I.ok.glob];exact I.mod.glob.keeps I.bk) a h) hd
theorem CY{E:Value->Shared->Prop}{σ:St}{pos:Pos}(I:Inv X pins σ H s)(a:Gl X x)(d:X.mg x=none)(b:bootBuiltins x=some u)(h:Q u s)(c:x≠"__name__":=by decide)(hd:(x==("__debug__":Str))=false:=by decide):wpAny (model X.prog X.w) X.A (eval (.Name x pos) X.env) Q E s:=by
 obtain⟨mb,h1,h2⟩:=I.mod.blt;exact Calls.Name_function_global I.ok.kind a (Calls.loadGlobal_builtin (by rw[I.ok.glob];exact I.mod.glob.keeps I.bk) d (by rw[I.ok.blt];exact h1.keeps I.bk) ((h2 x c).trans b) h) hd
theorem OC(b:Gl X x)(a:X.mg x=some u)(r:RelV v u)(hd:(x==("__debug__":Str))=false:=by decide):PE X (.Name x pos) (tC v):=
 λ_ _ _ H _ I h=>EM I b a ⟨v,H,I,r,h⟩ hd
theorem OD{pos:Pos}(d:Gl X x)(c:X.mg x=none)(a:bootBuiltins x=some u)(r:RelV v u)(b:x≠"__name__":=by decide)(hd:(x==("__debug__":Str))=false:=by decide):PE X (.Name x pos) (tC v):=
 λ_ _ _ H _ I h=>CY I d c a ⟨v,H,I,r,h⟩ b hd
def t2I(ta tb:TE)(k:Int->Int->Hp->Prop):St->Hp->Prop:=λσ H=>ta σ H λx H1=>tb σ H1 λy H2=>∃ i j,x=.int i/\y=.int j/\k i j H2
def Y6(ta tb:TE):TE:=λσ H Q=>t2I ta tb (λi j H2=>Q (.int (i - j)) H2) σ H
variable {ta tb:TE}
theorem A7(e:PE X a ta)(g:PE X b tb):PE X (.BinOp a .Sub b pos) (Y6 ta tb):=by
 intro pins s σ H Q I h;refine wpAny_BinOp (bin e g I h λv u k x y H2 f c d q=>?_);obtain⟨i,j,rfl,rfl,q⟩:=q;obtain⟨t,rfl⟩:=c;obtain⟨t',rfl⟩:=d;exact sub_int ⟨.int _,H2,f.tok _,⟨_,rfl⟩,q⟩
def Y7(t u:TT):TT:=λσ H Q=>t σ H λc H1=>if c=true then u σ H1 Q else Q false H1
def tOr(t u:TT):TT:=λσ H Q=>t σ H λc H1=>if c=true then Q true H1 else u σ H1 Q
def Y8(t:TT):TT:=λσ H Q=>t σ H λc H1=>Q (!c) H1
theorem Y9(b:PT X a tA):PW X (.BoolOp .And [a] pos) tA:=by
 intro f pins s σ H Q I h;refine isTrue_and (thn (b pins s σ H Q I h) λc d e=>?_);cases c with
 | true=>exact isTrue_and_nil e
 | false=>exact e
theorem Za(b:PT X a tA):PW X (.BoolOp .Or [a] pos) tA:=by
 intro f pins s σ H Q I h;refine isTrue_or (thn (b pins s σ H Q I h) λc d e=>?_);cases c with
 | false=>exact isTrue_or_nil e
 | true=>exact e
theorem Zb{Ar:List Expr}(i:PT X a tA)(j:PW X (.BoolOp .And (b::Ar) pos) tB'):PW X (.BoolOp .And (a::b::Ar) pos) (Y7 tA tB'):=by
 intro f pins s σ H Q I h;refine isTrue_and (thn (i pins s σ H _ I h) λc g d=>?_);obtain⟨H1,e,q1⟩:=d;cases c with
 | true=>exact j f pins g σ H1 Q e q1
 | false=>exact⟨H1,e,q1⟩
theorem Zc{Ar:List Expr}(i:PT X a tA)(j:PW X (.BoolOp .Or (b::Ar) pos) tB'):PW X (.BoolOp .Or (a::b::Ar) pos) (tOr tA tB'):=by
 intro f pins s σ H Q I h;refine isTrue_or (thn (i pins s σ H _ I h) λc g d=>?_);obtain⟨H1,e,q1⟩:=d;cases c with
 | true=>exact⟨H1,e,q1⟩
 | false=>exact j f pins g σ H1 Q e q1
theorem Zd(b:PT X a tA):PT X (.UnaryOp .Not a pos) (Y8 tA):=by
 intro pins s σ H Q I h;exact isTrue_not (b pins s σ H (λc H1=>Q (!c) H1) I h)
def Ze(ta tb:TE):TE:=λσ H Q=>ta σ H λx H1=>∃ c,x=.bl c/\if c=true then tb σ H1 Q else Q (.bl false) H1
def Zf(ta tb:TE):TE:=λσ H Q=>ta σ H λx H1=>∃ c,x=.bl c/\if c=true then Q (.bl true) H1 else tb σ H1 Q
theorem Zg{op}(h:PE X a t):PE X (.BoolOp op [a] pos) t:=λpins s σ H Q I hw=>BoolOp_one (h pins s σ H Q I hw)
theorem Zh{Ar:List Expr}(g:PE X a ta)(i:PE X (.BoolOp .And (b::Ar) pos) tb):PE X (.BoolOp .And (a::b::Ar) pos) (Ze ta tb):=by
 intro pins s σ H Q I h;refine BoolOp_and (thn (g pins s σ H _ I h) λv f d=>?_);obtain⟨x,H1,e,r1,q1⟩:=d;obtain⟨c,rfl,q1⟩:=q1;cases r1;refine wpAny_truthy_bool ?_;cases c with
 | true=>exact i pins f σ H1 Q e q1
 | false=>exact⟨.bl false,H1,e,rfl,q1⟩
theorem Zi{Ar:List Expr}(g:PE X a ta)(i:PE X (.BoolOp .Or (b::Ar) pos) tb):PE X (.BoolOp .Or (a::b::Ar) pos) (Zf ta tb):=by
 intro pins s σ H Q I h;refine BoolOp_or (thn (g pins s σ H _ I h) λv f d=>?_);obtain⟨x,H1,e,r1,q1⟩:=d;obtain⟨c,rfl,q1⟩:=q1;cases r1;refine wpAny_truthy_bool ?_;cases c with
 | false=>exact i pins f σ H1 Q e q1
 | true=>exact⟨.bl true,H1,e,rfl,q1⟩
def tIf(t:TT)(ta tb:TE):TE:=λσ H Q=>t σ H λc H1=>if c=true then ta σ H1 Q else tb σ H1 Q
theorem Zj(hc:PT X c tA)(i:PE X a ta)(j:PE X b tb):PE X (.IfExp c a b pos) (tIf tA ta tb):=by
 intro pins s σ H Q I h;refine wpAny_IfExp (thn (hc pins s σ H _ I h) λd g e=>?_);obtain⟨H1,f,q1⟩:=e;cases d with
 | true=>exact i pins g σ H1 Q f q1
 | false=>exact j pins g σ H1 Q f q1
end
def SqL(K:PySem.W.Frag)(H:Hp)(a:Addr)(xs:List V):Prop :=
 Rd H a (.lst xs)\/
  ∃(o:Obj)(its:Array Value)(n:Nat),K.lookup a=some o/\o.cls=.type "list"/\o.dict=none/\o.data=.seq its n/\its.size<=sizeLine/\Vals xs its.toList
def SqT(K:PySem.W.Frag)(H:Hp)(a:Addr)(xs:List V):Prop :=
 Rd H a (.tup xs)\/
  ∃(o:Obj)(its:Array Value)(n:Nat),K.lookup a=some o/\o.cls=.type "tuple"/\o.dict=none/\o.data=.seq its n/\its.size<=sizeLine/\Vals xs its.toList
def Zk:Value->Option V
 | .none=>some .non
 | .bool b=>some (.bl b)
 | .int i _=>some (.int i)
 | .str x _=>some (.str x)
 | .bytes b _=>some (.byt b)
 | .float b _=>some (.flt b)
 | .ref a=>some (.ref a)
 | .type n=>some (.ty n)
 | _=>none
theorem RelV.abs(r:RelV x u):Zk u=some x:=by
 cases x with
 | non=>cases r;rfl
 | bl _=>cases r;rfl
 | int _=>obtain⟨t,rfl⟩:=r;rfl
 | str _=>obtain⟨t,rfl⟩:=r;rfl
 | byt _=>obtain⟨t,rfl⟩:=r;rfl
 | flt _=>obtain⟨t,rfl⟩:=r;rfl
 | ref _=>cases r;rfl
 | ty _=>cases r;rfl
theorem RelV.inj(r:RelV x u)(q:RelV y u):x=y:=YE (r.abs.symm.trans q.abs)
theorem Vals.inj:∀{xs ys:List V}{us:List Value},Vals xs us->Vals ys us->xs=ys
 | _,_,_,.nil,.nil=>rfl
 | _,_,_,.cons r t,.cons r' t'=>by rw[r.inj r',Vals.inj t t']
section
theorem SqL.of{K:PySem.W.Frag}(h:H a=some (.lst xs)):SqL K H a xs:=.inl (.inl h)
theorem SqT.of{K:PySem.W.Frag}(h:H a=some (.tup xs)):SqT K H a xs:=.inl (.inl h)
theorem Inv.list{σ:St}(I:Inv X pins σ H s)(h:SqL X.K H a xs):∃ b:List Value,Vals xs b/\PlainL s.heap a b.toArray/\xs.length<=sizeLine:=by
 rcases h with h |⟨o,b,n,c,hc,hd,hs,d,r⟩
 ·obtain⟨z,b,n,r,e⟩:=h.ok I.hok;exact⟨b,r,⟨_,n,e,rfl,rfl,rfl⟩,z⟩
 ·refine⟨b.toList,r,⟨o,n,I.kIn a o c,hc,hd,by simpa using hs⟩,?_⟩;have e:=r.length;simp only[YV]at e;lia
theorem Inv.tupP{σ:St}(I:Inv X pins σ H s)(h:SqT X.K H a xs):∃ b:List Value,Vals xs b/\TupP s.heap a b.toArray/\xs.length<=sizeLine:=by
 rcases h with h |⟨o,b,n,c,hc,hd,hs,d,r⟩
 ·obtain⟨z,b,r,p⟩:=h.ok I.hok;exact⟨b,r,p,z⟩
 ·refine⟨b.toList,r,⟨o,I.kIn a o c,hc,hd,n,by simpa using hs⟩,?_⟩;have e:=r.length;simp only[YV]at e;lia
theorem Inv.tuple{σ:St}(I:Inv X pins σ H s)(h:SqT X.K H a xs):∃ b:List Value,Vals xs b/\IsTup s.heap a b.toArray/\xs.length<=sizeLine :=
 let⟨b,r,p,z⟩:=I.tupP h
 ⟨b,r,p.up,z⟩
theorem Inv.list_inj{σ:St}(I:Inv X pins σ H s)(h:SqL X.K H a xs)(h':SqL X.K H a ys):xs=ys:=by
 obtain⟨c,r,⟨o,n,e,_,_,d⟩,_⟩:=I.list h;obtain⟨b,r',⟨o',i,g,_,_,f⟩,_⟩:=I.list h';rw[e]at g;cases g;rw[d]at f;injection f with d1 _;have:c=b:=by simpa using congrArg Array.toList d1
 subst this;exact r.inj r'
theorem Inv.tuple_inj{σ:St}(I:Inv X pins σ H s)(h:SqT X.K H a xs)(h':SqT X.K H a ys):xs=ys:=by
 obtain⟨c,r,⟨o,e,_,n,d⟩,_⟩:=I.tuple h;obtain⟨b,r',⟨o',g,_,i,f⟩,_⟩:=I.tuple h';rw[e]at g;cases g;rw[d]at f;injection f with d1 _;have:c=b:=by simpa using congrArg Array.toList d1
 subst this;exact r.inj r'
end
abbrev Cx.wish(X:Cx)(E:Value->Shared->Prop):Cx:={X with xe:=E}
abbrev Cx.nox(X:Cx):Cx:=X.wish λ_ _=>False
theorem Cx.Ok.wish{X:Cx}(ok:X.Ok)(E:Value->Shared->Prop):(X.wish E).Ok :=
 ⟨ok.mod,ok.kind,ok.glob,ok.blt,ok.above,ok.inj,ok.has,ok.cab,ok.hd,ok.frames,ok.stk,ok.exf,ok.bs,ok.bsz,ok.noex,ok.exfs,ok.funs,ok.frf⟩
theorem Cx.Ok.unwish{X:Cx}(ok:(X.wish E).Ok):X.Ok :=
 ⟨ok.mod,ok.kind,ok.glob,ok.blt,ok.above,ok.inj,ok.has,ok.cab,ok.hd,ok.frames,ok.stk,ok.exf,ok.bs,ok.bsz,ok.noex,ok.exfs,ok.funs,ok.frf⟩
section
variable {X:Cx}{pins:List (Addr×Obj)}{σ:St}{H:Hp}{s:Shared}{E:Value->Shared->Prop} in
theorem Inv.wish(I:Inv X pins σ H s)(E:Value->Shared->Prop):Inv (X.wish E) pins σ H s:=⟨I.ok.wish E,I.os,I.bare,I.base,I.loc,I.cell,I.free,I.freeC,I.pin,I.hok,I.len⟩
theorem Inv.unwish{σ:St}(I:Inv (X.wish E) pins σ H s):Inv X pins σ H s:=⟨I.ok.unwish,I.os,I.bare,I.base,I.loc,I.cell,I.free,I.freeC,I.pin,I.hok,I.len⟩
theorem SP.unwish(h:SP (X.wish E) pins D f s'):SP X pins D f s':=by
 cases f with
 | next=>obtain⟨σ',H',I,q⟩:=h;exact⟨σ',H',I.unwish,q⟩
 | brk=>obtain⟨σ',H',I,q⟩:=h;exact⟨σ',H',I.unwish,q⟩
 | cont=>obtain⟨σ',H',I,q⟩:=h;exact⟨σ',H',I.unwish,q⟩
 | ret u=>obtain⟨v,σ',H',I,r,q⟩:=h;exact⟨v,σ',H',I.unwish,r,q⟩
theorem PE.nox(h:PE X.nox e t):PE X e t:=λpins s σ H Q I hw=>
 wpAny_mono (h pins s σ H Q (I.wish _) hw) ((by rintro _ _ ⟨v,H',a,r,q⟩;exact⟨v,H',a.unwish,r,q⟩)) λ_ _ z=>Qk z
theorem PT.nox(h:PT X.nox e t):PT X e t:=λpins s σ H Q I hw=>
 wpAny_mono (h pins s σ H Q (I.wish _) hw) ((by rintro _ _ ⟨H',a,q⟩;exact⟨H',a.unwish,q⟩)) λ_ _ z=>Qk z
theorem PSs.nox{st:List Stmt}(h:PSs X.nox st t):PSs X st t:=λpins s σ H D I hw=>
 wpAny_mono (h pins s σ H D (I.wish _) hw) (λ_ _ q=>q.unwish) λ_ _ z=>Qk z
end
section
variable {t u:TS}{te:TE}
def Zl:TS:=λD σ H=>D.nx σ H
def Zm(t u:TS):TS:=λD σ H=>t {D with nx:=u D} σ H
theorem Zn:PSs X [] Zl:=λ_ _ σ H _ I h=>wpAny_execs_nil ⟨σ,H,I,h⟩
theorem Zo{st:Stmt}{Ar:List Stmt}(h1:PS X st t)(h2:PSs X Ar u):PSs X (st::Ar) (Zm t u):=by
 intro pins s σ H D I h;refine wpAny_execs_cons (thn (h1 pins s σ H {D with nx:=u D} I h) λf b q=>?_);cases f with
 | next =>
  obtain⟨σ',H',a,q⟩:=q;exact h2 pins b σ' H' D a q
 | ret v=>exact q
 | brk=>exact q
 | cont=>exact q
theorem Zp{st:Stmt}(h1:PS X st t):PSs X [st] t:=by
 intro pins s σ H D I h;refine wpAny_execs_cons (thn (h1 pins s σ H D I h) λf a q=>?_);cases f with
 | next=>exact wpAny_execs_nil q
 | ret v=>exact q
 | brk=>exact q
 | cont=>exact q
theorem Inv.quiet{σ:St}(I:Inv X pins σ H s):interactive X.env=false:=by simp[interactive,I.ok.kind]
def Zq(te:TE):TS:=λD σ H=>te σ H λ_ H1=>D.nx σ H1
theorem Zr(b:PE X e te)(hs:swapsWith e none pos.line X.env=pure false:=by rfl):PS X (.Expr e pos) (Zq te):=by
 intro pins s σ H D I h;exact wpAny_Expr_any (thn (b pins s σ H _ I h) (by rintro v c ⟨x,H1,a,r1,q1⟩;exact⟨σ,H1,a,q1⟩)) I.quiet hs
def Zs(te:TE):TS:=λD σ H=>te σ H D.rt
theorem Zt(b:PE X e te):PS X (.Return (some e) pos) (Zs te):=by
 intro pins s σ H D I h;exact wpAny_Return_some (thn (b pins s σ H _ I h) (by rintro v c ⟨x,H1,a,r1,q1⟩;exact⟨x,σ,H1,a,r1,q1⟩))
def Zu(c:TT)(t u:TS):TS:=λD σ H=>c σ H λb H1=>if b=true then t D σ H1 else u D σ H1
theorem Zv(hc:PT X c tc)(i:PSs X a t)(j:PSs X b u):PS X (.If c a b pos) (Zu tc t u):=by
 intro pins s σ H D I h;refine wpAny_If (thn (hc pins s σ H _ I h) λd g e=>?_);obtain⟨H1,f,q1⟩:=e;cases d with
 | true=>exact i pins g σ H1 D f q1
 | false=>exact j pins g σ H1 D f q1
end
abbrev TG:=V->St->Hp->(St->Hp->Prop)->Prop
abbrev TGs:=List V->St->Hp->(St->Hp->Prop)->Prop
def PG(X:Cx)(target:Expr)(t:TG):Prop :=
 ∀(pins:List (Addr×Obj))(s:Shared)(σ:St)(H:Hp)(v:V)(u:Value)(Q:St->Hp->Prop),Inv X pins σ H s->RelV v u->t v σ H Q->
  wpAny (model X.prog X.w) X.A (assign target X.env u) (λ_ s'=>∃ σ' H',Inv X pins σ' H' s'/\Q σ' H') X.xe s
def PGs(X:Cx)(ts:List Expr)(t:TGs):Prop :=
 ∀(pins:List (Addr×Obj))(s:Shared)(σ:St)(H:Hp)(vs:List V)(us:List Value)(Q:St->Hp->Prop),Inv X pins σ H s->Vals vs us->t vs σ H Q->
  wpAny (model X.prog X.w) X.A (assignInOrder ((assignEach ts X.env).map (·.2)) us) (λ_ s'=>∃ σ' H',Inv X pins σ' H' s'/\Q σ' H') X.xe s
abbrev Kr:=V->V->V->Hp->(Hp->Prop)->Prop
def Ks(X:Cx)(t:Kr):Prop :=
 ∀(pins:List (Addr×Obj))(s:Shared)(σ:St)(H:Hp)(o i v:V)(ov iv u:Value)(Q:Hp->Prop),Inv X pins σ H s->RelV o ov->RelV i iv->RelV v u->t o i v H Q->
  wpAny (model X.prog X.w) X.A (setItem ov iv u) (λ_ s'=>∃ H',Inv X pins σ H' s'/\Q H') X.xe s
abbrev TIp:=V->V->Hp->VK->Prop
def PIp(X:Cx)(op:Operator)(t:TIp):Prop :=
 ∀(pins:List (Addr×Obj))(s:Shared)(σ:St)(H:Hp)(x y:V)(v u:Value)(Q:VK),Inv X pins σ H s->RelV x v->RelV y u->t x y H Q->
  wpAny (model X.prog X.w) X.A (inplaceOp op v u) (EP X pins σ Q) X.xe s
section
def Dt(i:Nat):TG:=λv σ H Q=>Q (σ.set i (some v)) H
theorem Du(a:X.N.Nodup)(hi:X.N[i]?=some x)(d:Loc X.env.scope x)(c:X.fn x=true\/X.env.scope.names.lookup x=some .local:=by first | exact .inl rfl | exact .inr rfl | assumption):PG X (.Name x pos) (Dt i):=by
 intro pins s σ H v u Q I r h;exact wpAny_assign_Name (Gf I a hi d r (λs' b=>⟨_,H,b,h⟩) c)
def Ch:TGs:=λvs σ H Q=>vs=[]/\Q σ H
def BT(t:TG)(u:TGs):TGs:=λvs σ H Q=>∃ v r,vs=v::r/\t v σ H λσ' H'=>u r σ' H' Q
theorem Kt:PGs X [] Ch:=by
 intro pins s σ H vs a Q I r h;obtain⟨e,h⟩:=h;subst e;cases r;exact assignInOrder_nil ⟨σ,H,I,h⟩
theorem FE(h1:PG X e t)(h2:PGs X es u)(hs:(assignEach (e::es) X.env).map (·.2)=assign e X.env::(assignEach es X.env).map (·.2):=by rfl):PGs X (e::es) (BT t u):=by
 intro pins s σ H vs g Q I r h;obtain⟨v,vr,c,h⟩:=h;subst c;cases r with
 | cons r f =>
  rw[hs];refine assignInOrder_cons (thn (h1 pins s σ H _ _ _ I r h) λ_ d a=>?_);obtain⟨σ1,H1,b,q1⟩:=a;exact h2 pins d σ1 H1 _ _ Q b f q1
def Cl(K:PySem.W.Frag)(n:Nat)(t:TGs):TG:=λv σ H Q=>∃ a xs,v=.ref a/\SqT K H a xs/\xs.length=n/\t xs σ H Q
theorem Ku{pos:Pos}{k:Nat}(hc:X.calm=true)(h:PGs X es t)(f:(assignEach es X.env).length=n:=by rfl)(c:(assignEach es X.env).findIdx? (·.1)=none:=by rfl):PG X (.Tuple es k pos) (Cl X.K n t):=by
 intro pins s σ H v u Q I r hw;obtain⟨a,xs,m,j,hl,hw⟩:=hw;subst m;cases r;obtain⟨p,d,l,q⟩:=I.tuple j;refine assign_Tuple_tuple (I.ok.hd hc) l (by simp[f,<- hl,d.length]) c λh' g=>?_;have i:Inv X pins σ H {s with heap:=h'}:=I.kept (t':=s.toks) λb o e=>g b o (Ys (Qo e)) e;exact h pins _ σ H xs _ Q i (by simpa using d) hw
def Zw(to ti:TE)(t:Kr):TG:=λv σ H Q=>to σ H λo H1=>ti σ H1 λi H2=>t o i v H2 λH3=>Q σ H3
theorem OF(l:PE X o to)(hi:PE X i f)(hs:Ks X t)(n:∀ v,assign (.Subscript o i pos) X.env v=(do
   let a <- holding [v] (eval o X.env)
   let b <- holding [v,a] (eval i X.env)
   standAt pos
   holding [v,a,b] (setItem a b v)
   release [v,a,b] []):=by intro _;rfl):PG X (.Subscript o i pos) (Zw to f t):=by
 intro pins s σ H v u Q I r h;rw[n];refine Ql (wpAny_holding (thn (l pins s σ H _ I h) λa m e=>?_));obtain⟨x,H1,j,r1,q1⟩:=e;refine Ql (wpAny_holding (thn (hi pins m σ H1 _ j q1) λb g c=>?_));obtain⟨y,H2,q,p,q2⟩:=c;refine Ql (wpAny_standAt (Ql (wpAny_holding (thn (hs pins g σ H2 x y v a b u _ q r1 p r q2) λ_ z d=>?_))));obtain⟨k,w,q3⟩:=d;exact wpAny_release ⟨σ,k,w,q3⟩
def Kv(te:TE)(g:TG):TS:=λD σ H=>te σ H λx H1=>g x σ H1 D.nx
theorem OG{pos:Pos}(c:PE X e te)(f:PG X tg g)(hs:swapsWithSole [tg] e pos.line X.env=pure false:=by rfl)(hw:swappedStores [tg] e X.env=pure none:=by rfl)(h1:(assignEach [tg] X.env).map (·.2)=[assign tg X.env]:=by rfl):PS X (.Assign [tg] e pos) (Kv te g):=by
 intro pins s σ H D I h;refine wpAny_Assign_stores (thn (c pins s σ H _ I h) λv d a=>?_) hs hw;obtain⟨x,H1,b,r1,q1⟩:=a;rw[h1];exact thn (f pins d σ H1 x v _ b r1 q1) λ_ i q=>q
theorem Zx{pos:Pos}(g:X.N.Nodup)(hi:X.N[i]?=some x)(c:Loc X.env.scope x)(f:PE X e te)(hs:swapsWith e (some (.Name x pos')) pos.line X.env=pure false:=by rfl)(b:X.fn x=true\/X.env.scope.names.lookup x=some .local:=by first | exact .inl rfl | exact .inr rfl | assumption):
  PS X (.Assign [.Name x pos'] e pos) (Kv te (Dt i)):=by
 intro pins s σ H D I h;refine wpAny_Assign_Name (thn (f pins s σ H _ I h) λv l a=>?_) hs;obtain⟨y,H1,d,r1,q1⟩:=a;exact Gf d g hi c r1 (λk j=>⟨_,H1,j,q1⟩) b
def Zy(i:Nat)(te:TE)(ti:TIp):TS:=λD σ H=>∃ x,σ[i]?=some (some x)/\te σ H λy H1=>ti x y H1 λz H2=>D.nx (σ.set i (some z)) H2
theorem Zz(t:X.N.Nodup)(hi:X.N[i]?=some x)(n:Loc X.env.scope x)(Q:PE X e te)(P:PIp X op p)(O:X.fn x=true\/X.env.scope.names.lookup x=some .local:=by first | exact .inl rfl | exact .inr rfl | assumption):
  PS X (.AugAssign (.Name x pos') op e pos) (Zy i te p):=by
 intro pins s σ H D I h;obtain⟨v,L,h⟩:=h;obtain⟨m,J,hl⟩:=I.loc;have o:Vis X.env.scope x:=by rcases n with k | k;exact .inl k;exact .inr (.inl k)
 obtain⟨u,r,l⟩:=hl i x v hi L o;refine wpAny_AugAssign_Name ?_
 have go:wpAny (model X.prog X.w) X.A (eval e X.env) (λw f=>wpAny (model X.prog X.w) X.A (inplaceOp op u w) (λr g=>wpAny (model X.prog X.w) X.A (storeName X.env x r) (λ_=>SP X pins D .next) X.xe g) X.xe f) X.xe s:=by
  refine thn (Q pins s σ H _ I h) λw G j=>?_;obtain⟨y,H1,q,r1,q1⟩:=j;refine thn (P pins G σ H1 v y u w _ q r r1 q1) λz R d=>?_;obtain⟨S,H2,B,E,q2⟩:=d;exact Gf B t hi n E (λT F=>⟨_,H2,F,q2⟩) O
 rcases l with⟨a,K⟩|⟨a,c,hc,b⟩
 ·exact wpAny_loadName_local I.ok.kind a J K go
 ·rcases a with a | a
  ·exact wpAny_loadName_cell I.ok.kind a hc b go
  ·rcases n with k | k
   ·have:X.env.scope.names.lookup x=some .free:=a;rw[k]at this;cases this
   ·have:X.env.scope.names.lookup x=some .free:=a;rw[k]at this;cases this
end
section
def ZA(c:TT)(tb:TS):TS:=λD σ H=>∃ W:Nat->St->Hp->Prop,(∃ m,W m σ H)/\∀ m σ H,W m σ H->
 c σ H λb H1=>if b=true then ∃ N:St->Hp->Prop,(∀ σ' H',N σ' H'->∃ m',m' < m/\W m' σ' H')/\tb {D with nx:=N,ct:=N,bk:=D.nx} σ H1 else D.nx σ H1
theorem ZC(p:PassesOwn (model X.prog X.w) X.A X.env X.xe)(hc:PT X c tc)(z:PSs X body tb):PS X (.While c body [] pos) (ZA tc tb):=by
 intro pins s σ H D I h;obtain⟨W,⟨y,t⟩,d⟩:=h;refine wpAny_While (codeAny_whileLoop (λn s'=>∃ σ' H',Inv X pins σ' H' s'/\W n σ' H') ?_ y ⟨σ,H,I,t⟩);rintro n u ⟨σ1,H1,r,x⟩;refine wpAny_passesOwn p (thn (hc pins u σ1 H1 _ r (d n σ1 H1 x)) λb q e=>?_);obtain⟨H2,o,q2⟩:=e;cases b with
 | true =>
  obtain⟨N,m,q2⟩:=q2;rw[if_pos rfl];refine wpAny_passesOwn p (thn (z pins q σ1 H2 _ o q2) λf B q3=>?_);cases f with
  | next =>
   obtain⟨σ3,a,i,l⟩:=q3;obtain⟨g,j,k⟩:=m σ3 a l;exact⟨g,j,σ3,a,i,k⟩
  | cont =>
   obtain⟨σ3,a,i,l⟩:=q3;obtain⟨g,j,k⟩:=m σ3 a l;exact⟨g,j,σ3,a,i,k⟩
  | brk=>exact q3
  | ret v=>exact q3
 | false =>
  rw[if_neg YW];exact wpAny_execs_nil ⟨σ1,H2,o,q2⟩
end
structure It where
 go:Nat->Hp->Prop
 yld:Nat->Hp->V->Hp->Prop
 stop:Nat->Hp->Prop
def CZ(X:Cx)(pins:List (Addr×Obj))(H:Hp)(b:Addr):Prop :=
 H b=none/\b≠X.env.locals/\b∉X.fs/\(b∈X.ex\/X.s₀.heap.objs.size<=b)/\(∀ x c,X.env.cells.lookup x=some c->c≠b)/\∀ p∈X.pn++pins,p.1≠b
theorem Inv.fpOk{σ:St}{b:Addr}(I:Inv X pins σ H s)(a:s.heap.objs.size<=b)(d:H' b=none):CZ X pins H' b:=by
 refine⟨d,Nat.ne_of_gt (Yu I.lt a),I.nofs a,.inr (Yt I.sz a),λx c e z=>?_,λp f z=>?_⟩
 ·obtain⟨v,q⟩:=I.cell x c e;exact absurd (Yu q.lt (by rw[z];exact a)) (YL _)
 ·exact absurd (Yu (Qo (I.pin p f).1) (by rw[z];exact a)) (YL _)
structure Dv(P:Program)(w:World)(K:PySem.W.Frag)(tg:Expr)(J:It)(fp:List Addr)(it:Addr)(tn:Nat->Heap->Prop):Prop where
 mem:it∈fp
 obj:∀ i h,tn i h->∀ b∈fp,∃ o,h.get? b=some o/\∀ v,o.data≠.cell v
 keep:∀ i h h',tn i h->(∀ b∈fp,∀ o,h.get? b=some o->h'.get? b=some o)->tn i h'
 item:∀(X:Cx),X.prog=P->X.w=w->X.K=K->X.calm=true->∀(i:Nat)(pins:List (Addr×Obj))(s:Shared)(σ:St)(H:Hp)(E:Value->Shared->Prop),Inv X pins σ H s->(∀ b∈fp,CZ X pins H b)->tn i s.heap->J.go i H->
  wpAny (model P w) X.A (pyNext (.ref it)) (λr s1=>∃ u,r=some u/\
   wpAny (model P w) X.A (letOwnedTupleGo tg (.ref it) u) (λ_ s2=>∃ x H',Inv X pins σ H' s2/\RelV x u/\J.yld i H x H'/\tn (i+1) s2.heap/\∀ b∈fp,H' b=none) E s1) E s
 done:∀(X:Cx),X.prog=P->X.w=w->X.K=K->X.calm=true->∀(i:Nat)(pins:List (Addr×Obj))(s:Shared)(σ:St)(H:Hp)(E:Value->Shared->Prop),Inv X pins σ H s->(∀ b∈fp,CZ X pins H b)->tn i s.heap->J.stop i H->
  wpAny (model P w) X.A (pyNext (.ref it)) (λr s1=>r=none/\Inv X pins σ H s1) E s
 self:∀(A:Around)(i:Nat)(s:Shared)(Q:Value->Shared->Prop)(E:Value->Shared->Prop),tn i s.heap->Q (.ref it) s->wpAny (model P w) A (pyIter (.ref it)) Q E s
abbrev TI:=St->Hp->(It->Hp->Prop)->Prop
def PIE(X:Cx)(pins:List (Addr×Obj))(σ:St)(tg:Expr)(R:It->Hp->Prop)(itv:Value)(s2:Shared):Prop :=
 ∃(it:Addr)(fp:List Addr)(tn:Nat->Heap->Prop)(J:It)(H':Hp),itv=.ref it/\Inv X pins σ H' s2/\Dv X.prog X.w X.K tg J fp it tn/\tn 0 s2.heap/\(∀ b∈fp,CZ X pins H' b)/\R J H'
def PI(X:Cx)(tg iter:Expr)(wi:TI):Prop :=
 ∀(pins:List (Addr×Obj))(s:Shared)(σ:St)(H:Hp)(R:It->Hp->Prop),Inv X pins σ H s->wi σ H R->
  wpAny (model X.prog X.w) X.A (eval iter X.env) (λv s1=>wpAny (model X.prog X.w) X.A (pyIter v) (PIE X pins σ tg R) X.xe s1) X.xe s
theorem Kx(b:s.heap.get? it=some o)(hc:o.cls=.type n)(hd:o.data=.fields vs)(c:["enumerate","zip","dict_itemiterator","dict_reverseitemiterator","odict_iterator","itertools.zip_longest","itertools.pairwise"].contains n=false)(a:Q () s):wpAny M A (letOwnedTupleGo tg (.ref it) u) Q E s:=by
 unfold letOwnedTupleGo
 cases tg <;> first
  | exact Qm a
  |(cases u <;> first
    | exact Qm a
    |(refine Ql (wpAny_load b ?_)
      rw[hc,hd]
      show wpAny M A (if(["enumerate","zip","dict_itemiterator","dict_reverseitemiterator","odict_iterator","itertools.zip_longest","itertools.pairwise"].contains n&&vs[0]?==some (rawInt _))=true then _ else _) Q E s
      rw[if_neg (by intro h;rw[c,Bool.false_and]at h;cases h)]
      exact Qm a))
def Itl(K:PySem.W.Frag)(a:Addr):It :=
 ⟨λi H=>∃ xs x,SqL K H a xs/\xs[i]?=some x,λi H x H'=>H'=H/\∀ xs,SqL K H a xs->xs[i]?=some x,λi H=>∃ xs,SqL K H a xs/\xs.length<=i⟩
def Itt(K:PySem.W.Frag)(a:Addr):It :=
 ⟨λi H=>∃ xs x,SqT K H a xs/\xs[i]?=some x,λi H x H'=>H'=H/\∀ xs,SqT K H a xs->xs[i]?=some x,λi H=>∃ xs,SqT K H a xs/\xs.length<=i⟩
def Itr(lo:Int)(n:Nat):It:=⟨λi _=>i < n,λi H x H'=>H'=H/\x=.int (lo+i),λi _=>n<=i⟩
theorem ZD{K:PySem.W.Frag}(a it:Addr):Dv P w K tg (Itl K a) [it] it (λi h=>h.IsListIter it a i) where
 mem:=by simp
 obj:=λi h st b f=>by
  have e:b=it:=by simpa using f
  subst e;obtain⟨o,e,c,d⟩:=st;exact⟨o,e,λv z=>by rw[d]at z;cases z⟩
 keep:=λi h h' st k=>st.at λo e=>k it (by simp) o e
 item:=by
  intro X t hw A hc i pins s σ H E I l st n;subst t hw A;obtain⟨xs,x,j,m⟩:=n;obtain⟨G,D,p,Q⟩:=I.list j;obtain⟨u,N,L⟩:=D.get m;obtain⟨F,B,S,r,y,q⟩:=l it (by simp);refine wpAny_pyNext_list_item st p.isList (x:=u) (by simpa using N) λh' g R=>?_;have J:Inv X pins σ H {s with heap:=h'}:=I.turned (t':=s.toks) (λb o f e=>(R.2 b f).trans e) F B r y q;obtain⟨o,e,c,d⟩:=id g;exact⟨u,rfl,Kx (s:={s with heap:=h'}) e c d (by decide) ⟨x,H,J,L,⟨rfl,λys O=>by rw[I.list_inj O j];exact m⟩,g,λb f=>(l b f).1⟩⟩
 done:=by
  intro X t hw A hc i pins s σ H E I l st n;subst t hw A;obtain⟨xs,j,m⟩:=n;obtain⟨G,D,p,Q⟩:=I.list j;obtain⟨F,B,S,r,y,q⟩:=l it (by simp);have hl:=D.length;exact wpAny_pyNext_list_end (I.ok.hd hc) st p.isList (by simp;lia) λh' eb=>⟨rfl,I.turned (t':=s.toks) (λb o f e=>eb b o f e) F B r y q⟩
 self:=λ_ _ _ _ _ st h=>wpAny_pyIter_listiter st h
theorem ZE{K:PySem.W.Frag}(a it:Addr):Dv P w K tg (Itt K a) [it] it (λi h=>h.IsTupleIter it a i) where
 mem:=by simp
 obj:=λi h st b g=>by
  have e:b=it:=by simpa using g
  subst e;obtain⟨o,e,c,d⟩:=st;exact⟨o,e,λv z=>by rw[d]at z;cases z⟩
 keep:=λi h h' st k=>st.at λo e=>k it (by simp) o e
 item:=by
  intro X y hw B hc i pins s σ H E I m st q;subst y hw B;obtain⟨xs,x,l,n⟩:=q;obtain⟨f,F,p,Q⟩:=I.tuple l;obtain⟨u,N,L⟩:=F.get n;obtain⟨G,D,S,t,A,r⟩:=m it (by simp);refine wpAny_pyNext_tuple_item st (show s.heap.IsTuple a f.toArray from p) (x:=u) (by simpa using N) λh' j R=>?_;have J:Inv X pins σ H {s with heap:=h'}:=I.turned (t':=s.toks) (λb o g e=>(R.2 b g).trans e) G D t A r;obtain⟨o,e,c,d⟩:=id j;exact⟨u,rfl,Kx (s:={s with heap:=h'}) e c d (by decide) ⟨x,H,J,L,⟨rfl,λys O=>by rw[I.tuple_inj O l];exact n⟩,j,λb g=>(m b g).1⟩⟩
 done:=by
  intro X y hw B hc i pins s σ H E I m st q;subst y hw B;obtain⟨xs,l,n⟩:=q;obtain⟨f,F,p,Q⟩:=I.tuple l;obtain⟨G,D,S,t,A,r⟩:=m it (by simp);have hl:=F.length;exact wpAny_pyNext_tuple_end (I.ok.hd hc) st (show s.heap.IsTuple a f.toArray from p) (by simp;lia) λh' eb=>⟨rfl,I.turned (t':=s.toks) (λb o g e=>eb b o g e) G D t A r⟩
 self:=λ_ _ _ _ _ st h=>wpAny_pyIter_tupleiter st h
theorem ZF{K:PySem.W.Frag}(it:Addr)(lo:Int)(n:Nat):Dv P w K tg (Itr lo n) [it] it (λi h=>IsRangeIter h it (lo+(i:Nat)*1) ((n:Int) -(i:Nat)) 1) where
 mem:=by simp
 obj:=λi h st b a=>by
  have e:b=it:=by simpa using a
  subst e
  exact⟨_,st,λv z=>by
   have A:Data.fields _=Data.cell v:=z;cases A⟩
 keep:=λi h h' st k=>k it (by simp) _ st
 item:=by
  intro X f hw q hc i pins s σ H E I d st m;subst f hw q;obtain⟨j,g,B,l,p,r⟩:=d it (by simp);have W:=Walks.range (prog:=X.prog) (w:=X.w) (I.ok.hd hc) it lo 1 n;refine W.item i s _ _ m st λv h' tk y c x=>?_;obtain⟨t,rfl⟩:=y;have u:Inv X pins σ H {s with heap:=h',toks:=tk}:=I.turned (λb o a e=>x b o (by simpa using a) e) j g l p r;refine⟨_,rfl,Kx (s:={s with heap:=h',toks:=tk}) (n:="range_iterator") c rfl rfl (by decide) ⟨.int (lo+i),H,u,⟨t,?_⟩,⟨rfl,rfl⟩,c,λb a=>(d b a).1⟩⟩;rw[Int.mul_one]
 done:=by
  intro X f hw q hc i pins s σ H E I d st m;subst f hw q;obtain⟨j,g,B,l,p,r⟩:=d it (by simp);exact wpAny_pyNext_range_end (I.ok.hd hc) st (by have:n<=i:=m;lia) λh' eb=>⟨rfl,I.turned (t':=s.toks) (λb o a e=>eb b o a e) j g l p r⟩
 self:=λ_ _ _ _ _ st h=>wpAny_pyIter_rangeiter st h
section
theorem ZG{σ:St}{lo:Int}(I:Inv X pins σ H s)(h1:-(2 ^ 62)<=lo)(h2:lo < 2 ^ 62)(c:-(2 ^ 62)<=hi)(g:hi < 2 ^ 62)(q:R (Itr lo (hi - lo).toNat) H):wpAny (model X.prog X.w) X.A (pyIter (.ref s.heap.objs.size)) (PIE X pins σ tg R) E {s with heap:=s.heap.push {cls:=.type "range",data:=.fields #[.int lo t,.int hi u,.int 1 v]},toks:=tk}:=by
 refine wpAny_pyIter_range (IsRange.new ..) (small_one h1 h2 c g) ?_;have a:Inv X pins σ H {s with heap:=s.heap.push {cls:=.type "range",data:=.fields #[.int lo t,.int hi u,.int 1 v]},toks:=tk}:=I.kept λb o e=>Qn _ e
 refine⟨(s.heap.push {cls:=.type "range",data:=.fields #[.int lo t,.int hi u,.int 1 v]}).objs.size,[(s.heap.push {cls:=.type "range",data:=.fields #[.int lo t,.int hi u,.int 1 v]}).objs.size],_,_,H,rfl,
  a.kept (t':=tk) λb o e=>Qn _ e,ZF _ lo (hi - lo).toNat,?_,λb h=>?_,q⟩
 ·have f:lo+((0:Nat):Int)*1=lo:=by simp
  have d:(((hi - lo).toNat:Nat):Int) -((0:Nat):Int)=Builtin.Range.rangeSize lo hi 1:=by rw[rangeSize_one];split <;> lia
  show IsRangeIter _ _ (lo+((0:Nat):Int)*1) ((((hi - lo).toNat:Nat):Int) -((0:Nat):Int)) 1;rw[f,d];exact Qp _ rfl
 ·have e:b=(s.heap.push {cls:=.type "range",data:=.fields #[.int lo t,.int hi u,.int 1 v]}).objs.size:=by simpa using h
  subst e;exact a.fpOk (Yr _) (a.hok.fresh (Yr _))
def ZH(ta:TA):TI:=λσ H R=>ta σ H λvs H1=>∃ j:Int,vs=[.int j]/\-(2 ^ 62)<=j/\j < 2 ^ 62/\R (Itr 0 j.toNat) H1
theorem ZI(g:Gl X "range")(d:X.mg "range"=none)(f:PA X [a] ta)(hs:starEach [a] X.env=[(false,eval a X.env)]:=by rfl):PI X tg (.Call (.Name "range" p) [a] [] pos) (ZH ta):=by
 intro pins s σ H R I h;refine Call_ (CY I g d boot_range (Qg (thn (f pos pins s σ H _ I h) λk l b=>?_) hs rfl));obtain⟨vs,H1,c,r1,q1⟩:=b;obtain⟨j,e,q1,q2,q⟩:=q1;subst e;cases r1 with
 | cons r i =>
  cases i;obtain⟨t,rfl⟩:=r;exact call_range_1 (ZG c (by lia) (by lia) q1 q2 (by simpa using q))
def ZJ(wi:TI)(g:TG)(tb:TS):TS:=λD σ H=>wi σ H λJ H1=>∃ W:Nat->Nat->St->Hp->Prop,(∃ m,W 0 m σ H1)/\∀ i m σ H,W i m σ H->
 (J.stop i H/\D.nx σ H)\/(J.go i H/\∃ N:St->Hp->Prop,(∀ σ' H',N σ' H'->∃ m',m' < m/\W (i+1) m' σ' H')/\∀ x H',J.yld i H x H'->g x σ H' λσ2 H2=>tb {D with nx:=N,ct:=N,bk:=D.nx} σ2 H2)
def FG(fp:List Addr)(h:Heap):List (Addr×Obj):=fp.filterMap λb=>(h.get? b).map λo=>(b,o)
theorem Gg(a:b∈fp)(e:h.get? b=some o):(b,o)∈FG fp h:=List.mem_filterMap.mpr ⟨b,a,by rw[e];rfl⟩
theorem ZK(c:p∈FG fp h):p.1∈fp/\h.get? p.1=some p.2:=by
 obtain⟨b,d,e⟩:=List.mem_filterMap.mp c;cases q:h.get? b with
 | none=>rw[q]at e;cases e
 | some o =>
  rw[q]at e;have a:(b,o)=p:=YE e;subst a;exact⟨d,q⟩
theorem Inv.pinned{σ:St}(I:Inv X pins σ H s)(f:∀ b∈fp,CZ X pins H b)(h:∀ b∈fp,∃ o,s.heap.get? b=some o/\∀ v,o.data≠.cell v):Inv X (pins++FG fp s.heap) σ H s :=
 I.pins_of λp i=>(Yz.mp i).elim (λz=>I.pin p (YN _ z)) λz=>by
  obtain⟨c,e⟩:=ZK z;obtain⟨j,g,k,_⟩:=f p.1 c;obtain⟨o,a,d⟩:=h p.1 c;rw[e]at a;cases a;exact⟨e,j,g,k,d⟩
theorem Inv.unpinned{σ:St}(I:Inv X (pins++pl) σ H s):Inv X pins σ H s:=I.pins_of λp a=>I.pin p (YN _ (YM _ a))
theorem ZL(z:PassesOwn (model X.prog X.w) X.A X.env X.xe)(hc:X.calm=true)(hi:PI X tg iter U)(hg:PG X tg g)(k:PSs X body tb)(hs:∀ x,foldedSetIterable iter X.env x=pure x:=by intro _;rfl):PS X (.For tg iter body [] pos) (ZJ U g tb):=by
 intro pins s σ H D I h;refine wpAny_For (thn (hi pins s σ H _ I h) λv s1 h1=>thn h1 λitv s2 h2=>?_) hs;obtain⟨it,t,Z,J,H2,e,I2,T,R,f2,W,⟨m0,w0⟩,F⟩:=h2;subst e;have a:∀{H':Hp},(∀ b∈t,H' b=none)->∀ b∈t,CZ X pins H' b:=λhn b k=>⟨hn b k,(f2 b k).2⟩;refine codeAny_forLoop_any (λn s'=>∃ i σ' H',Inv X pins σ' H' s'/\Z i s'.heap/\(∀ b∈t,H' b=none)/\W i n σ' H') ?_ m0 ⟨0,σ,H2,I2,R,λb k=>(f2 b k).1,w0⟩;rintro n s3 ⟨i,σ3,L,Y,G,K,w3⟩;rcases F i n σ3 L w3 with⟨stop,qn⟩|⟨go,N,hN,step⟩
 ·refine wpAny_passesOwn z (thn (T.done X rfl rfl rfl hc i pins s3 σ3 L X.xe Y (a K) G stop) λr s4 E=>?_);obtain⟨Q,I4⟩:=E;subst Q;exact wpAny_execs_nil ⟨σ3,L,I4,qn⟩
 ·refine wpAny_passesOwn z (thn (T.item X rfl rfl rfl hc i pins s3 σ3 L X.xe Y (a K) G go) λr s4 B=>?_);obtain⟨u,Q,h4⟩:=B;subst Q;refine wpAny_passesOwn z (thn h4 λ_ s5 p=>?_);obtain⟨x,H5,I5,r5,y5,l,O⟩:=p;have S:=I5.pinned (a O) (T.obj _ _ l);refine wpAny_passesOwn z (thn (hg _ s5 σ3 H5 x u _ S r5 (step x H5 y5)) λ_ s6 q=>?_);obtain⟨σ6,H6,I6,q6⟩:=q;refine wpAny_passesOwn z (thn (k _ s6 σ6 H6 _ I6 q6) λf P q7=>?_)
  have again:∀{σ7:St}{j:Hp},Inv X (pins++FG t s5.heap) σ7 j P->N σ7 j->∃ m,m < n/\∃ i σ' H',Inv X pins σ' H' P/\Z i P.heap/\(∀ b∈t,H' b=none)/\W i m σ' H':=λ{σ7 j}c y=>by
   obtain⟨m',hm,w7⟩:=hN σ7 j y;refine⟨m',hm,i+1,σ7,j,c.unpinned,T.keep _ _ _ l λb k o e=>(c.pin (b,o) (YN _ (YN _ (Gg k e)))).1,λb k=>?_,w7⟩;obtain⟨o,e,d⟩:=T.obj _ _ l b k;exact(c.pin (b,o) (YN _ (YN _ (Gg k e)))).2.1
  cases f with
  | next=>obtain⟨σ7,j,c,y⟩:=q7;exact again c y
  | cont=>obtain⟨σ7,j,c,y⟩:=q7;exact again c y
  | brk=>obtain⟨σ7,j,c,q7⟩:=q7;exact⟨σ7,j,c.unpinned,q7⟩
  | ret v=>obtain⟨x7,σ7,j,c,r7,q7⟩:=q7;exact⟨x7,σ7,j,c.unpinned,r7,q7⟩
end
abbrev R2:=V->V->Hp->VK->Prop
def OpR(X:Cx)(f:Value->Value->Sem Value)(r:R2):Prop :=
 ∀(pins:List (Addr×Obj))(s:Shared)(σ:St)(H:Hp)(x y:V)(v u:Value)(Q:VK),Inv X pins σ H s->RelV x v->RelV y u->r x y H Q->
  wpAny (model X.prog X.w) X.A (f v u) (EP X pins σ Q) X.xe s
def UnR(X:Cx)(f:Value->Sem Value)(r:V->Hp->VK->Prop):Prop :=
 ∀(pins:List (Addr×Obj))(s:Shared)(σ:St)(H:Hp)(x:V)(v:Value)(Q:VK),Inv X pins σ H s->RelV x v->r x H Q->
  wpAny (model X.prog X.w) X.A (f v) (EP X pins σ Q) X.xe s
def CallR(X:Cx)(f:Value)(r:List V->Hp->VK->Prop):Prop :=
 ∀(pins:List (Addr×Obj))(s:Shared)(σ:St)(H:Hp)(xs:List V)(us:List Value)(Q:VK),Inv X pins σ H s->Vals xs us->r xs H Q->
  wpAny (model X.prog X.w) X.A (call f us) (EP X pins σ Q) X.xe s
def ZM(X:Cx)(r:V->Hp->(Bool->Hp->Prop)->Prop):Prop :=
 ∀(pins:List (Addr×Obj))(s:Shared)(σ:St)(H:Hp)(x:V)(v:Value)(Q:Bool->Hp->Prop),Inv X pins σ H s->RelV x v->r x H Q->
  wpAny (model X.prog X.w) X.A (truthy v) (TP X pins σ Q) X.xe s
def tOp(r:R2)(ta tb:TE):TE:=λσ H Q=>ta σ H λx H1=>tb σ H1 λy H2=>r x y H2 Q
def tUn(r:V->Hp->VK->Prop)(ta:TE):TE:=λσ H Q=>ta σ H λx H1=>r x H1 Q
def rI(C:Int->Int->Prop)(g:Int->Int->V):R2:=λx y H Q=>∃ i j,x=.int i/\y=.int j/\C i j/\Q (g i j) H
def rI0(g:Int->Int->V):R2:=λx y H Q=>∃ i j,x=.int i/\y=.int j/\Q (g i j) H
def rU(g:Int->V):V->Hp->VK->Prop:=λx H Q=>∃ i,x=.int i/\Q (g i) H
section
theorem Ky(n:PE X a ta)(o:PE X b tb){σ:St}{R:V->V->Hp->Prop}(I:Inv X pins σ H s)(h:ta σ H λx H1=>tb σ H1 λy H2=>R x y H2){f:Value->Value->Sem Value}(j:∀ v u i x y H2,Inv X pins σ H2 i->RelV x v->RelV y u->R x y H2->wpAny (model X.prog X.w) X.A (f v u) Q X.xe i):
  wpAny (model X.prog X.w) X.A (eval a X.env) (λv e=>wpAny (model X.prog X.w) X.A (eval b X.env) (λu g=>wpAny (model X.prog X.w) X.A (f v u) Q X.xe g) X.xe e) X.xe s:=by
 refine thn (n pins s σ H _ I h) λv m c=>?_;obtain⟨x,H1,k,r1,q1⟩:=c;refine thn (o pins m σ H1 _ k q1) λu i d=>?_;obtain⟨y,H2,l,p,q2⟩:=d;exact j v u i x y H2 l r1 p q2
theorem ZN(e:OpR X (binaryOp op) r)(g:PE X a ta)(j:PE X b tb):PE X (.BinOp a op b pos) (tOp r ta tb):=by
 intro pins s σ H Q I h;exact wpAny_BinOp (Ky g j I h λv u c x y H2 i d f q=>e pins c σ H2 x y v u Q i d f q)
theorem ZO(b:UnR X (unaryOp op) r)(d:PE X a ta):PE X (.UnaryOp op a pos) (tUn r ta):=by
 intro pins s σ H Q I h;exact UnaryOp_ (thn (d pins s σ H _ I h) (by rintro v e ⟨x,H1,c,r1,q1⟩;exact b pins e σ H1 x v Q c r1 q1))
theorem opI{g:Int->Int->Int}(a:∀(i j:Int)(t u:Tok)(s:Shared)(Q:Value->Shared->Prop)(E:Value->Shared->Prop),C i j->Q (.int (g i j) s.toks) {s with toks:=s.toks+1}->wpAny (model X.prog X.w) X.A (f (.int i t) (.int j u)) Q E s):
  OpR X f (rI C λi j=>.int (g i j)):=by
 intro pins s σ H x y v u Q I b c h;obtain⟨i,j,rfl,rfl,hc,q⟩:=h;obtain⟨t,rfl⟩:=b;obtain⟨t',rfl⟩:=c;exact a i j t t' s _ _ hc ⟨.int (g i j),H,I.tok _,⟨_,rfl⟩,q⟩
theorem OH{g:Int->Int->Int}(a:∀(i j:Int)(t u:Tok)(s:Shared)(Q:Value->Shared->Prop)(E:Value->Shared->Prop),Q (.int (g i j) s.toks) {s with toks:=s.toks+1}->wpAny (model X.prog X.w) X.A (f (.int i t) (.int j u)) Q E s):
  OpR X f (rI0 λi j=>.int (g i j)):=by
 intro pins s σ H x y v u Q I b c h;obtain⟨i,j,rfl,rfl,q⟩:=h;obtain⟨t,rfl⟩:=b;obtain⟨t',rfl⟩:=c;exact a i j t t' s _ _ ⟨.int (g i j),H,I.tok _,⟨_,rfl⟩,q⟩
theorem Hz{g:Int->Int->Bool}(a:∀(i j:Int)(t u:Tok)(s:Shared)(Q:Value->Shared->Prop)(E:Value->Shared->Prop),Q (.bool (g i j)) s->wpAny (model X.prog X.w) X.A (f (.int i t) (.int j u)) Q E s):
  OpR X f (rI0 λi j=>.bl (g i j)):=by
 intro pins s σ H x y v u Q I b c h;obtain⟨i,j,rfl,rfl,q⟩:=h;obtain⟨t,rfl⟩:=b;obtain⟨t',rfl⟩:=c;exact a i j t t' s _ _ ⟨.bl (g i j),H,I,rfl,q⟩
theorem ZP(a:0 < y)(h:y < 1267650600228229401496703205376):Builtin.divisionGoesByPylong x y=false:=by
 refine PyProof.noPylong_of_log2 ?_;have h1:y.natAbs≠0:=by lia
 have h2:y.natAbs.log2 < 100:=(Nat.log2_lt h1).mpr (by lia);lia
def EN(i j:Int):Prop:=0 < j/\j < 1267650600228229401496703205376
def EO(i j:Int):Prop:=0<=j/\j<=1000000/\i.natAbs < 2 ^ 64
def CMul(i j:Int):Prop:=(-(2 ^ 64) < i/\i < 2 ^ 64)\/(-(2 ^ 64) < j/\j < 2 ^ 64)
theorem CMul.ok(h:CMul i j):IntMulOk i j:=by
 rcases h with⟨h1,h2⟩|⟨h1,h2⟩
 ·exact .of_left (intBits_le_64 h1 h2)
 ·exact .of_right (intBits_le_64 h1 h2)
theorem ZQ:OpR X (binaryOp .Add) (rI0 λi j=>.int (i+j)):=OH λ_ _ _ _ _ _ _ q=>add_int q
theorem OI:OpR X (binaryOp .Mult) (rI CMul λi j=>.int (i*j)):=opI λ_ _ _ _ _ _ _ hc q=>mul_int q hc.ok
theorem ZR:OpR X (binaryOp .FloorDiv) (rI EN λi j=>.int (i / j)):=opI λi j _ _ _ _ _ hc q=>by
 have h1:(0:Int) < j:=hc.1;have h2:j < 1267650600228229401496703205376:=hc.2;exact floordiv_int (by lia) (by rw[Int.fdiv_eq_ediv_of_nonneg i (by lia)];exact q) (.inl (ZP h1 h2))
theorem ZS:OpR X (binaryOp .Mod) (rI (λ_ j=>0 < j) λi j=>.int (i % j)):=opI λi j _ _ _ _ _ hc q=>by
 have h1:(0:Int) < j:=hc;exact mod_int' (by lia) (by rw[Int.fmod_eq_emod_of_nonneg i (by lia)];exact q)
theorem ZT:OpR X (binaryOp .Pow) (rI EO λi j=>.int (i ^ j.toNat)):=opI λ_ _ _ _ _ _ _ hc q=>pow_int_small hc.1 hc.2.1 hc.2.2 q
theorem ZU:OpR X (inplaceOp .Add) (rI0 λi j=>.int (i+j)):=OH λ_ _ _ _ _ _ _ q=>iadd_int q
theorem unI{g:Int->Int}(a:∀(i:Int)(t:Tok)(s:Shared)(Q:Value->Shared->Prop)(E:Value->Shared->Prop),Q (.int (g i) s.toks) {s with toks:=s.toks+1}->wpAny (model X.prog X.w) X.A (f (.int i t)) Q E s):
  UnR X f (rU λi=>.int (g i)):=by
 intro pins s σ H x v Q I b h;obtain⟨i,rfl,q⟩:=h;obtain⟨t,rfl⟩:=b;exact a i t s _ _ ⟨.int (g i),H,I.tok _,⟨_,rfl⟩,q⟩
theorem ZV:UnR X (unaryOp .USub) (rU λi=>.int (-i)):=unI λ_ _ _ _ _ q=>neg_int q
end
def EQ:V->V->Bool
 | .non,.non=>true | .non,.int _=>true | .int _,.non=>true | .non,.bl _=>true | .bl _,.non=>true | .non,.str _=>true | .str _,.non=>true
 | .int _,.int _=>true | .bl _,.bl _=>true | .str _,.str _=>true | .byt _,.byt _=>true
 | .int _,.str _=>true | .str _,.int _=>true | .bl _,.str _=>true | .str _,.bl _=>true
 | _,_=>false
def rEq:R2:=λx y H Q=>EQ x y=true/\Q (.bl (decide (x=y))) H
def rNe:R2:=λx y H Q=>EQ x y=true/\Q (.bl (!decide (x=y))) H
theorem Kz:decide (V.int i=V.int j)=(i==j):=by
 rw[Bool.eq_iff_iff];simp
theorem KA:decide (V.bl i=V.bl j)=(i==j):=by
 rw[Bool.eq_iff_iff];simp
theorem KC:decide (V.str i=V.str j)=(i==j):=by
 rw[Bool.eq_iff_iff];simp
theorem OJ:decide (V.byt i=V.byt j)=(i.toList==j.toList):=by
 rw[Bool.eq_iff_iff];cases i;cases j;simp
section
variable {b:Expr}{ta tb tc:TE}
theorem A0{σ:St}(I:Inv X pins σ H s)(q:Q (.bl k) H)(e:k=a):EP X pins σ Q (.bool a) s:=by
 subst e;exact⟨.bl k,H,I,rfl,q⟩
theorem ZW:OpR X (compareOp .Eq) rEq:=by
 intro pins s σ H x y v u Q I b a h;obtain⟨hs,q⟩:=h;cases x with
 | non =>
  cases b;cases y with
  | non=>cases a;exact PySem.EqNone.eq_none_none (A0 I q (by simp))
  | bl j=>cases a;exact PySem.EqNone.eq_none_bool (A0 I q (by simp))
  | int j=>obtain⟨t',rfl⟩:=a;exact PySem.EqNone.eq_none_int (A0 I q (by simp))
  | str j=>obtain⟨t',rfl⟩:=a;exact PySem.EqNone.eq_none_str (A0 I q (by simp))
  | _=>exact absurd (show false=true from hs) YW
 | bl i =>
  cases b;cases y with
  | non=>cases a;exact PySem.EqNone.eq_bool_none (A0 I q (by simp))
  | bl j=>cases a;exact eq_bool (A0 I q KA)
  | str j=>obtain⟨t',rfl⟩:=a;exact PySem.EqMixed.eq_bool_str (A0 I q (by simp))
  | _=>exact absurd (show false=true from hs) YW
 | int i =>
  obtain⟨t,rfl⟩:=b;cases y with
  | non=>cases a;exact PySem.EqNone.eq_int_none (A0 I q (by simp))
  | int j=>obtain⟨t',rfl⟩:=a;exact eq_int (A0 I q Kz)
  | str j=>obtain⟨t',rfl⟩:=a;exact PySem.EqMixed.eq_int_str (A0 I q (by simp))
  | _=>exact absurd (show false=true from hs) YW
 | str i =>
  obtain⟨t,rfl⟩:=b;cases y with
  | non=>cases a;exact PySem.EqNone.eq_str_none (A0 I q (by simp))
  | bl j=>cases a;exact PySem.EqMixed.eq_str_bool (A0 I q (by simp))
  | int j=>obtain⟨t',rfl⟩:=a;exact PySem.EqMixed.eq_str_int (A0 I q (by simp))
  | str j=>obtain⟨t',rfl⟩:=a;exact eq_str (A0 I q KC)
  | _=>exact absurd (show false=true from hs) YW
 | byt i =>
  obtain⟨t,rfl⟩:=b;cases y with
  | byt j=>obtain⟨t',rfl⟩:=a;exact PySem.W.eq_bytes (A0 I q OJ)
  | _=>exact absurd (show false=true from hs) YW
 | _=>cases y <;> exact absurd (show false=true from hs) YW
theorem ZX:OpR X (compareOp .NotEq) rNe:=by
 intro pins s σ H x y v u Q I b a h;obtain⟨hs,q⟩:=h;cases x with
 | non =>
  cases b;cases y with
  | non=>cases a;exact PySem.EqNone.ne_none_none (A0 I q (by simp))
  | bl j=>cases a;exact PySem.EqNone.ne_none_bool (A0 I q (by simp))
  | int j=>obtain⟨t',rfl⟩:=a;exact PySem.EqNone.ne_none_int (A0 I q (by simp))
  | str j=>obtain⟨t',rfl⟩:=a;exact PySem.EqNone.ne_none_str (A0 I q (by simp))
  | _=>exact absurd (show false=true from hs) YW
 | bl i =>
  cases b;cases y with
  | non=>cases a;exact PySem.EqNone.ne_bool_none (A0 I q (by simp))
  | bl j=>cases a;exact ne_bool (A0 I q (congrArg not KA))
  | str j=>obtain⟨t',rfl⟩:=a;exact PySem.EqMixed.ne_bool_str (A0 I q (by simp))
  | _=>exact absurd (show false=true from hs) YW
 | int i =>
  obtain⟨t,rfl⟩:=b;cases y with
  | non=>cases a;exact PySem.EqNone.ne_int_none (A0 I q (by simp))
  | int j=>obtain⟨t',rfl⟩:=a;exact ne_int (A0 I q (congrArg not Kz))
  | str j=>obtain⟨t',rfl⟩:=a;exact PySem.EqMixed.ne_int_str (A0 I q (by simp))
  | _=>exact absurd (show false=true from hs) YW
 | str i =>
  obtain⟨t,rfl⟩:=b;cases y with
  | non=>cases a;exact PySem.EqNone.ne_str_none (A0 I q (by simp))
  | bl j=>cases a;exact PySem.EqMixed.ne_str_bool (A0 I q (by simp))
  | int j=>obtain⟨t',rfl⟩:=a;exact PySem.EqMixed.ne_str_int (A0 I q (by simp))
  | str j=>obtain⟨t',rfl⟩:=a;exact ne_str (A0 I q (congrArg not KC))
  | _=>exact absurd (show false=true from hs) YW
 | byt i =>
  obtain⟨t,rfl⟩:=b;cases y with
  | byt j=>obtain⟨t',rfl⟩:=a;exact PySem.W.ne_bytes (A0 I q (congrArg not OJ))
  | _=>exact absurd (show false=true from hs) YW
 | _=>cases y <;> exact absurd (show false=true from hs) YW
theorem ZY:OpR X (compareOp .Lt) (rI0 λi j=>.bl (decide (i < j))):=Hz λ_ _ _ _ _ _ _ q=>lt_int q
theorem ZZ:OpR X (compareOp .LtE) (rI0 λi j=>.bl (decide (i<=j))):=Hz λ_ _ _ _ _ _ _ q=>le_int q
theorem Z0:OpR X (compareOp .Gt) (rI0 λi j=>.bl (decide (j < i))):=Hz λ_ _ _ _ _ _ _ q=>gt_int q
theorem Z1:OpR X (compareOp .GtE) (rI0 λi j=>.bl (decide (j<=i))):=Hz λ_ _ _ _ _ _ _ q=>ge_int q
theorem Z2:OpR X (compareOp .Lt) (λx y H Q=>∃ i j,x=.str i/\y=.str j/\Q (.bl (decide (i.cps.toList < j.cps.toList))) H):=by
 intro pins s σ H x y v u Q I a b h;obtain⟨i,j,rfl,rfl,q⟩:=h;obtain⟨t,rfl⟩:=a;obtain⟨t',rfl⟩:=b;exact lt_str (A0 I q rfl)
theorem Z3:OpR X (compareOp .Is) (λx y H Q=>y=.non/\Q (.bl (decide (x=.non))) H):=by
 intro pins s σ H x y v u Q I a b h;obtain⟨rfl,q⟩:=h;cases b;refine is_none_gen (A0 I q ?_)
 cases x <;> first
  |(cases a;rfl)
  |(obtain⟨t,rfl⟩:=a;rfl)
theorem OpR.or(h:OpR X f r)(h':OpR X f r'):OpR X f (λx y H Q=>r x y H Q\/r' x y H Q):=by
 intro pins s σ H x y v u Q I a b q;rcases q with q | q
 ·exact h pins s σ H x y v u Q I a b q
 ·exact h' pins s σ H x y v u Q I a b q
theorem nV(b:Expr)(h:op≠.In:=by decide)(h2:op≠.NotIn:=by decide):behindInMarks op b=false:=by
 have a:(op==CmpOp.In)=false:=by cases op <;> first | rfl | exact absurd rfl h
 have c:(op==CmpOp.NotIn)=false:=by cases op <;> first | rfl | exact absurd rfl h2
 cases b <;> simp[behindInMarks,a,c]
theorem Z4(f:OpR X (compareOp op) r)(i:PE X a ta)(k:PE X b tb)(e:behindInMarks op b=false):PE X (.Compare a [op] [b] pos) (tOp r ta tb):=by
 intro pins s σ H Q I h;exact wpAny_Compare1 (Ky i k I h λv u c x y H2 j d g q=>f pins c σ H2 x y v u Q j d g q) e
def OK(t:TE):TT:=λσ H Q=>t σ H λx H'=>∃ k,x=.bl k/\Q k H'
theorem Z5(j:OpR X (compareOp op) r)(n:PE X a ta)(q:PE X b tb)(i:behindInMarks op b=false):PT X (.Compare a [op] [b] pos) (OK (tOp r ta tb)):=by
 intro pins s σ H Q I h
 refine wpAny_isTrue_Compare1 (thn (n pins s σ H _ I h) λv m⟨x,H1,f,r1,q1⟩=>thn (q pins m σ H1 _ f q1) λu d⟨y,H2,p,o,q2⟩=>
  thn (j pins d σ H2 x y v u _ p r1 o q2) λc w⟨z,g,t,l,k,e,q3⟩=>?_) i
 subst e;cases l;exact wpAny_truthy_bool ⟨g,t,q3⟩
def KD(r r':R2)(ta tb tc:TE):TE:=λσ H Q=>ta σ H λx H1=>tb σ H1 λy H2=>r x y H2 λz H3=>∃ k,z=.bl k/\
 (if k=true then tc σ H3 λw' H4=>r' y w' H4 Q else Q (.bl false) H3)
theorem Z6(J:OpR X (compareOp op) r)(f:OpR X (compareOp op') r')(E:PE X a ta)(K:PE X b tb)(hc:PE X c tc)(B:lastMarks [op,op'] [b,c]=false:=by with_unfolding_all rfl):PE X (.Compare a [op,op'] [b,c] pos) (KD r r' ta tb tc):=by
 intro pins s σ H Q I h
 refine Compare_chain (thn (E pins s σ H _ I h) λv p⟨x,H1,m,r1,q1⟩=>chain_link (thn (K pins p σ H1 _ m q1) λu l⟨y,H2,n,i,q2⟩=>
  thn (J pins l σ H2 x y v u _ n r1 i q2) λd G⟨z,j,g,o,k,e,q3⟩=>?_)) B
 subst e;cases o;refine wpAny_truthy_bool ?_;cases k with
 | false=>exact ite_ff ⟨.bl false,j,g,rfl,q3⟩
 | true=>exact ite_tt (chain_last (thn (hc pins G σ j _ g q3) (by rintro t A ⟨D,F,w,q,q4⟩;exact f pins A σ F y D u t Q w i q q4)))
theorem Z7(O:OpR X (compareOp op) r)(f:OpR X (compareOp op') r')(K:PE X a ta)(R:PE X b tb)(hc:PE X c tc)(F:lastMarks [op,op'] [b,c]=false:=by with_unfolding_all rfl):PT X (.Compare a [op,op'] [b,c] pos) (OK (KD r r' ta tb tc)):=by
 intro pins s σ H Q I h
 refine isTrue_chain (thn (K pins s σ H _ I h) λv t⟨x,H1,m,r1,q1⟩=>test_link (thn (R pins t σ H1 _ m q1) λu l⟨y,H2,o,g,q2⟩=>
  thn (O pins l σ H2 x y v u _ o r1 g q2) λd N⟨z,j,i,q,k,e,q3⟩=>?_)) F
 subst e;cases q;refine wpAny_truthy_bool ?_;cases k with
 | false =>
  obtain⟨Z,G,n⟩:=q3;cases G;exact ite_ff ⟨j,i,n⟩
 | true =>
  refine ite_tt (test_last (thn (hc pins N σ j _ i q3) λA D⟨J,L,B,w,q4⟩=>thn (f pins D σ L y J u A _ B g w q4) λU Y⟨T,P,E,S,k2,p,q5⟩=>?_));subst p;cases S;exact wpAny_truthy_bool ⟨P,E,q5⟩
def KG(K:PySem.W.Frag)(x:V)(H:Hp)(k:Bool):Prop :=
 match x with
 | .non=>k=false
 | .bl b=>k=b
 | .int i=>k=(i != 0)
 | .str y=>y.length<=sizeLine/\k=((y.length:Int) != 0)
 | .byt y=>y.size<=sizeLine/\k=((y.size:Int) != 0)
 | .ref p=>(∃ xs,SqL K H p xs/\k=!xs.isEmpty)\/(∃ xs,SqT K H p xs/\k=!xs.isEmpty)\/∃ kvs,H p=some (.dK kvs)/\k=!kvs.isEmpty
 | _=>False
theorem Z8{κ:Type}{kvs:List (κ×V)}{vs:List (κ×Value)}(r:KV kvs vs):(!vs.isEmpty)=!kvs.isEmpty:=by
 cases r <;> rfl
theorem OL(r:Vals xs a):(!a.toArray.isEmpty)=!xs.isEmpty:=by
 cases r <;> simp
theorem FH:(sizeLine:Nat) < 2 ^ 63:=by rw[sizeLine_eq];decide
theorem Z9:ZM X (λx H Q=>∃ k,KG X.K x H k/\Q k H):=by
 intro pins s σ H x v Q I f h;obtain⟨k,e,q⟩:=h;have hl:=FH;have hs:sizeLine=16777216:=sizeLine_eq;cases x with
 | non =>
  cases f;have a:k=false:=e;subst a;exact truthy_none ⟨H,I,q⟩
 | bl b =>
  cases f;have a:k=b:=e;subst a;exact wpAny_truthy_bool ⟨H,I,q⟩
 | int i =>
  obtain⟨t,rfl⟩:=f;have a:k=(i != 0):=e;subst a;exact PySem.P.truthy_int ⟨H,I,q⟩
 | str y =>
  obtain⟨t,rfl⟩:=f;obtain⟨o,a⟩:y.length<=sizeLine/\k=((y.length:Int) != 0):=e;subst a;exact PySem.P.truthy_str (by lia) ⟨H,I.tok _,q⟩
 | byt y =>
  obtain⟨t,rfl⟩:=f;obtain⟨o,a⟩:y.size<=sizeLine/\k=((y.size:Int) != 0):=e;subst a;exact PySem.W.truthy_bytes (by lia) ⟨H,I.tok _,q⟩
 | ref p =>
  cases f;have a:(∃ xs,SqL X.K H p xs/\k=!xs.isEmpty)\/(∃ xs,SqT X.K H p xs/\k=!xs.isEmpty)\/∃ c,H p=some (.dK c)/\k=!c.isEmpty:=e;rcases a with⟨xs,g,a⟩|⟨xs,g,a⟩|⟨c,g,a⟩
  ·subst a;obtain⟨j,r,pl,l⟩:=I.list g;have d:=r.length;exact wpAny_truthy_list pl.isList (by simp only[Yn];lia) ⟨H,I.tok _,by rw[OL r];exact q⟩
  ·subst a;obtain⟨j,r,pl,l⟩:=I.tuple g;have d:=r.length;exact truthy_tuple pl (by simp only[Yn];lia) ⟨H,I.tok _,by rw[OL r];exact q⟩
  ·subst a;obtain⟨l,n,vs,r,m⟩:c.length<=sizeLine/\(p==sysModules)=false/\∃ vs,KV c vs/\s.heap.DictOf (Bw X.prog X.w) p vs:=I.hok p _ g;have d:c.length=vs.length:=Paired.length r;exact wpAny_truthy_dict n m (by lia) ⟨H,I.tok _,by rw[Z8 r];exact q⟩
 | _=>exact(show False from e).elim
theorem aa(f:PE X a ta)(d:∀ b,isTrue a X.env b=(do let v <- b;standAt a.pos;holding [v] (truthy v))):
  PT X a (λσ H Q=>ta σ H λx H'=>∃ k,KG X.K x H' k/\Q k H'):=by
 intro pins s σ H Q I h;exact isTrue_plain (thn (f pins s σ H _ I h) (by rintro v e ⟨x,H1,c,r1,q1⟩;exact Z9 pins e σ H1 x v Q c r1 q1)) (d _)
theorem ae:OpR X (binaryOp .Add) (λx y H Q=>∃ i j,x=.str i/\y=.str j/\i.length+j.length<=sizeLine/\Q (.str (i++j)) H):=by
 intro pins s σ H x y v u Q I a b h;obtain⟨i,j,rfl,rfl,c,q⟩:=h;obtain⟨t,rfl⟩:=a;obtain⟨t',rfl⟩:=b;exact add_str (λt' tk=>⟨.str (i++j),H,I.tok _,⟨_,rfl⟩,q⟩) c
theorem af:OpR X (inplaceOp .Add) (λx y H Q=>∃ i j,x=.str i/\y=.str j/\i.length+j.length<=sizeLine/\Q (.str (i++j)) H):=by
 intro pins s σ H x y v u Q I a b h;obtain⟨i,j,rfl,rfl,c,q⟩:=h;obtain⟨t,rfl⟩:=a;obtain⟨t',rfl⟩:=b;exact iadd_str (λt' tk=>⟨.str (i++j),H,I.tok _,⟨_,rfl⟩,q⟩) c
theorem Cz(r:Vals [x] us):∃ u,us=[u]/\RelV x u:=by
 cases r with
 | cons r1 a=>cases a;exact⟨_,rfl,r1⟩
theorem KH(r:Vals [x,y] us):∃ u a,us=[u,a]/\RelV x u/\RelV y a:=by
 cases r with
 | cons r1 b =>
  cases b with
  | cons c d=>cases d;exact⟨_,_,rfl,r1,c⟩
theorem ag:CallR X (.type "int") (λxs H Q=>(∃ i,xs=[.int i]/\Q (.int i) H)\/∃ k,xs=[.bl k]/\Q (.int (if k then 1 else 0)) H):=by
 intro pins s σ H xs a Q I r h;rcases h with⟨i,rfl,q⟩|⟨k,rfl,q⟩
 ·obtain⟨u,rfl,t,rfl⟩:=Cz r;exact call_int_int ⟨.int i,H,I,⟨_,rfl⟩,q⟩
 ·obtain⟨u,rfl,r1⟩:=Cz r;cases r1;exact call_int_bool ⟨.int (if k then 1 else 0),H,I.tok _,⟨_,rfl⟩,q⟩
def OM(K:PySem.W.Frag)(x:V)(H:Hp)(n:Nat):Prop :=
 match x with
 | .str y=>y.length<=sizeLine/\n=y.length
 | .byt y=>y.size<=sizeLine/\n=y.size
 | .ref p=>(∃ xs,SqL K H p xs/\n=xs.length)\/∃ xs,SqT K H p xs/\n=xs.length
 | _=>False
theorem ah:CallR X (.builtin "len") (λxs H Q=>∃ x n,xs=[x]/\OM X.K x H n/\Q (.int n) H):=by
 intro pins s σ H xs j Q I r h;obtain⟨x,n,rfl,e,q⟩:=h;obtain⟨u,rfl,d⟩:=Cz r;have hl:=FH;have hs:sizeLine=16777216:=sizeLine_eq;cases x with
 | str y =>
  obtain⟨t,rfl⟩:=d;obtain⟨i,b⟩:y.length<=sizeLine/\n=y.length:=e;subst b;exact len_str (by lia) ⟨.int _,H,I.tok _,⟨_,rfl⟩,q⟩
 | byt y =>
  obtain⟨t,rfl⟩:=d;obtain⟨i,b⟩:y.size<=sizeLine/\n=y.size:=e;subst b;exact PySem.W.len_bytes (by lia) ⟨.int _,H,I.tok _,⟨_,rfl⟩,q⟩
 | ref p =>
  cases d;have b:(∃ xs,SqL X.K H p xs/\n=xs.length)\/∃ xs,SqT X.K H p xs/\n=xs.length:=e;rcases b with⟨xs,c,b⟩|⟨xs,c,b⟩
  ·subst b;obtain⟨f,r',pl,g⟩:=I.list c;have a:=r'.length;exact Calls.call_len_list pl.isList (by simp only[Yn];lia) ⟨.int xs.length,H,I.tok _,⟨_,by simp only[Yn];rw[a]⟩,q⟩
  ·subst b;obtain⟨f,r',pl,g⟩:=I.tuple c;have a:=r'.length;exact len_tuple pl (by simp only[Yn];lia) ⟨.int xs.length,H,I.tok _,⟨_,by simp only[Yn];rw[a]⟩,q⟩
 | _=>exact(show False from e).elim
end
section
end
section
end
structure Cls(K:PySem.W.Frag)(C:Addr):Prop where
 pg:PySem.W.plainGet K C Str.empty=true
 hd:PySem.W.hasDictIn K C=true
 po:PySem.W.plainOver K C=true
 sa:PySem.W.findIn K (.ref C) "__setattr__"=some (some (.builtin "object.__setattr__"))
theorem Cls.get{K:PySem.W.Frag}(c:Cls K C)(f:Str):PySem.W.plainGet K C f=true:=c.pg
structure ai(K:PySem.W.Frag)(C:Addr)(m:Str)(f:Addr):Prop where
 at_:PySem.W.findIn K (.ref C) m=some (some (.ref f))
 fn:PySem.W.isFn K (.ref f)=true
 kp:PySem.W.keepIn K (.ref f)=true
section
theorem Inv.made{σ:St}(I:Inv X pins σ H s):Inv X pins σ (upd (upd H s.heap.objs.size (.own (s.heap.objs.size+1))) (s.heap.objs.size+1) (.ins C s.heap.objs.size []))
  {s with heap:=(s.heap.push PySem.W.emptyDict).push (PySem.W.instObj C s.heap.objs.size)}:=by
 have c:(s.heap.push PySem.W.emptyDict).get? s.heap.objs.size=some PySem.W.emptyDict:=Qp s.heap rfl
 have f:((s.heap.push PySem.W.emptyDict).push (PySem.W.instObj C s.heap.objs.size)).get? (s.heap.objs.size+1)=some (PySem.W.instObj C s.heap.objs.size):=by
  have:=Qp (s.heap.push PySem.W.emptyDict) (o:=PySem.W.instObj C s.heap.objs.size) rfl;rwa [Qq]at this
 have h:(s.heap.push PySem.W.emptyDict).Ns s.heap.objs.size (λ_=>none):=⟨PySem.W.emptyDict,#[],_,c,rfl,(λe g=>absurd g (by simp)),λ_=>rfl⟩;have d:=I.laid (a:=s.heap.objs.size) (o:=.own (s.heap.objs.size+1)) (h':=s.heap.push PySem.W.emptyDict) (t':=s.toks) (λb u q=>Qn _ q) (Yr _) ⟨_,c⟩;refine d.laid (a:=s.heap.objs.size+1) (o:=.ins C s.heap.objs.size []) (t':=s.toks) (λb u q=>Qn _ q) (Nat.le_of_eq (Qq _ _)) ?_;have ne:s.heap.objs.size≠s.heap.objs.size+1:=Ys (Nat.lt_succ_self _);refine⟨by rw[AZ ne,BS],YX _,ne,f,λ_=>none,(Heap.Ns1.of_empty h).at λo q=>Qn _ q,λ_=>True.intro,λy i=>absurd rfl i⟩
end
section
def Cn:V->V->Hp->VK->Prop:=λx y H Q=>∃ i j,x=.int i/\y=.int j/\Q (.int (i+j)) H
end
section
end
structure Room(k:Nat)(A:Around):Prop where
 hd:A.handled=none
 dp:A.depth+3*k+5 < recursionLimit
 un:A.units+16*k+200 < cLine
theorem Room.mono(r:Room k A)(h:j<=k):Room j A:=⟨r.hd,by have:=r.dp;lia,by have:=r.un;lia⟩
theorem Room.deeper(r:Room (k+1) A)(env:Env):Room k (A.deeper env):=
 ⟨r.hd,by have:=r.dp;show A.depth+1+3*k+5 < _;lia,by have:=r.un;show A.units+3+16*k+200 < _;lia⟩
theorem Room.in1(r:Room (k+1) A):Room k A.in1 :=
 ⟨r.hd,by have:=r.dp;show A.depth+3*k+5 < _;lia,by have:=r.un;show A.units+1+16*k+200 < _;lia⟩
theorem Room.depth(r:Room k A):A.depth < recursionLimit:=by have:=r.dp;lia
theorem Room.units(r:Room k A):A.units+64 < cLine:=by have:=r.un;lia
def FI:TA:=λ_ H Q=>Q [] H
def D3(ta:TE)(tr:TA):TA:=λσ H Q=>ta σ H λx H1=>tr σ H1 λxs H2=>Q (x::xs) H2
section
variable {t:TA}
theorem Gh:PA X [] FI:=λ_ _ _ _ H Q I h=>Calls.spliced_nil ⟨[],H,I,.nil,h⟩
theorem ER(f:PE X e te)(d:PA X es t)(hs:starEach (e::es) X.env=(false,eval e X.env)::starEach es X.env:=by rfl):PA X (e::es) (D3 te t):=by
 intro pos pins s σ H Q I h;rw[hs];show wpAny _ _ (spliced ((false,eval e X.env)::backTo pos (starEach es X.env))) _ _ s;refine Calls.spliced_cons (thn (f pins s σ H _ I h) λu c a=>?_);obtain⟨x,H1,b,r1,q1⟩:=a;exact thn (d pos pins c σ H1 _ b q1) (by rintro j k ⟨xs,H2,g,i,q2⟩;exact⟨x::xs,H2,g,.cons r1 i,q2⟩)
def aj(t:TA):TE:=λσ H Q=>t σ H λxs H1=>xs.length<=sizeLine/\∀ p,H1 p=none->Q (.ref p) (upd H1 p (.tup xs))
def ak(t:TA):TE:=λσ H Q=>t σ H λxs H1=>xs.length<=sizeLine/\∀ p,H1 p=none->Q (.ref p) (upd H1 p (.lst xs))
theorem al{x1}(h:PA X es t):PE X (.Tuple es x1 pos) (aj t):=by
 intro pins s σ H Q I g;refine wpAny_Tuple_spliced (thn (h pos pins s σ H _ I g) λd a⟨xs,H1,c,r,z,q⟩=>⟨by rw[<- r.length];exact z,?_⟩);have f:H1 a.heap.objs.size=none:=c.hok.fresh (Yr _);refine⟨.ref a.heap.objs.size,upd H1 a.heap.objs.size (.tup xs),c.laid (t':=a.toks) (λb u e=>Qn _ e) (Yr _) ?_,rfl,q _ f⟩;exact⟨z,d,r,⟨_,Qp _ rfl,rfl,rfl,_,rfl⟩⟩
theorem am(h:PA X es t):PE X (.List es pos) (ak t):=by
 intro pins s σ H Q I g;refine wpAny_List_spliced (thn (h pos pins s σ H _ I g) λd a⟨xs,H1,c,r,z,q⟩=>⟨by rw[<- r.length];exact z,?_⟩);have f:H1 a.heap.objs.size=none:=c.hok.fresh (Yr _);refine⟨.ref a.heap.objs.size,upd H1 a.heap.objs.size (.lst xs),c.laid (t':=a.toks) (λb u e=>Qn _ e) (Yr _) ?_,rfl,q _ f⟩;exact⟨z,d,0,r,Qp _ rfl⟩
end
abbrev Sp:=List V->Hp->VK->XK->Prop
abbrev CXT:=List Env->Hp->Shared->XK->Value->Shared->Prop
structure Env0(P:Program)(w:World)(K:PySem.W.Frag)(mg:Str->Option Value)(base:Heap)(A:Around)(outer:List Env)(s:Shared)(H:Hp):Prop where
 frames:A.frames=some outer
 mod:Mod K mg base
 bs:∀ b o,base.get? b=some o->s.heap.get? b=some o/\H b=none
 bsz:base.objs.size<=s.heap.objs.size
 funs:s.heap.FunFrames base outer
 frf:∀ b∈frs outer,H b=none
 hok:HOk P w H s.heap
 bare:AllBare s.gens
def CE(outer:List Env)(P:Program)(w:World)(H:Hp)(s:Shared)(Q:VK)(u:Value)(s':Shared):Prop :=
 ∃ v H',s'.os=s.os/\AllBare s'.gens/\Un (frs outer) [] H H' s.heap s'.heap/\HOk P w H' s'.heap/\RelV v u/\Q v H'
def CR(CX:CXT)(outer:List Env)(P:Program)(w:World)(H:Hp)(s:Shared)(Q:VK)(E:XK)(r:Result)(s':Shared):Prop :=
 match r with
 | .ok (.ret u)=>CE outer P w H s Q u s'
 | .ok _=>False
 | .error e=>CX outer H s E e s'
structure FnOk(P:Program)(w:World)(K:PySem.W.Frag)(mg:Str->Option Value)(base:Heap)(CX:CXT)(k:Nat)(f:Addr)(fd:FuncData)(ps:List Str)(sp:Sp):Prop where
 len:∀ vs H Q E,sp vs H Q E->vs.length=ps.length
 run:∀(A:Around)(outer:List Env)(s:Shared)(H:Hp)(args:Args)(us:List Value)(vs:List V)(Q:VK)(E:XK),Room k A->Env0 P w K mg base A outer s H->BindsTo s fd args (ps.zip us)->Vals vs us->sp vs H Q E->
  codeAny (model P w) A (.call (.ref f) args) (CR CX outer P w H s Q E) s
theorem FnOk.mono{K:PySem.W.Frag}(F:FnOk P w K mg base CX j f fd ps sp)(h:j<=k):
  FnOk P w K mg base CX k f fd ps sp:=⟨F.len,λA outer s H a b vs Q E c=>F.run A outer s H a b vs Q E (c.mono h)⟩
theorem FnOk.imp{K:PySem.W.Frag}(F:FnOk P w K mg base CX k f fd ps sp)(h:∀ vs H Q E,b vs H Q E->sp vs H Q E):FnOk P w K mg base CX k f fd ps b :=
 ⟨λvs H Q E q=>F.len vs H Q E (h _ _ _ _ q),λA outer s H a c vs Q E g d i e hs=>F.run A outer s H a c vs Q E g d i e (h _ _ _ _ hs)⟩
theorem Env0.in1{K:PySem.W.Frag}(e:Env0 P w K mg base A outer s H):
  Env0 P w K mg base A.in1 outer s H:=⟨e.frames,e.mod,e.bs,e.bsz,e.funs,e.frf,e.hok,e.bare⟩
section
theorem Inv.env0{σ:St}(I:Inv X pins σ H s):Env0 X.prog X.w X.K X.mg X.base X.A X.stack s H :=
 ⟨I.ok.frames,I.ok.mod,I.bs,Yt I.ok.bsz I.sz,I.stack,I.stkFree,I.hok,I.bare⟩
theorem Inv.after{σ:St}(I:Inv X pins σ H s)(h:CE X.stack X.prog X.w H s Q u s'):EP X pins σ Q u s':=by
 obtain⟨v,H',os,bare,un,hok,r,q⟩:=h;obtain⟨c,g,d,t,a⟩:=s';obtain rfl:a=s.os:=os;exact⟨v,H',I.call (h':=c) (g':=g) (d':=d) (t':=t) (ch:=[]) un hok bare (λb z=>absurd z (by simp)),r,q⟩
end
def ao(sp:Sp)(dvs:List V)(E:XK)(t:TA):TE:=λσ H Q=>t σ H λvs H1=>sp (vs++dvs) H1 Q E
def Binds(K:PySem.W.Frag)(fd:FuncData)(ps:List Str)(ds:List Value):Prop :=
 ∀(s:Shared)(us:List Value),K.In s.heap->(us++ds).length=ps.length->BindsTo s fd ⟨us,[]⟩ (ps.zip (us++ds))
theorem Binds.all{K:PySem.W.Frag}(h:∀ us:List Value,us.length=ps.length->bindArgs fd ⟨us,[]⟩=pure (ps.zip us)):Binds K fd ps []:=λs us _ hl=>by
 rw[Yx]at hl ⊢;exact .of_eq (h us hl)
def ap(CX:CXT)(X:Cx)(E:XK):Prop:=∀(pins:List (Addr×Obj))(σ:St)(H:Hp)(s:Shared)(e:Value)(s':Shared),Inv X pins σ H s->CX X.stack H s E e s'->X.xe e s'
section
end
section
end
structure AB(N P:List Str)(sc:Scope):Prop where
 kind:sc.kind=.function
 co:sc.isCoroutine=false
 gen:sc.isGenerator=false
 nd:N.Nodup
 pre:N.take P.length=P
 par:∀ x∈P,sc.names.lookup x=some .local\/sc.names.lookup x=some .cell
 nofree:∀ y∈sc.names,y.2≠.free
theorem ON{kindOf:Str->Option NameKind}:∀{binds:List (Str×Value)}{m:Str->Option Value},(∀ v,(x,v)∉binds)->bindL kindOf binds m x=m x
 | [],_,_=>rfl
 |(n,v)::r,m,h=>by
  unfold bindL;rw[ON λw hw=>h w (Yd _ hw)];split
  ·have:x≠n:=by rintro rfl;exact h v Ye
   simp[this]
  ·rfl
theorem OO{kindOf:Str->Option NameKind}:∀{binds:List (Str×Value)}{m:Str->Option Value},(∀ v,(x,v)∉binds)->bindC kindOf binds m x=m x
 | [],_,_=>rfl
 |(n,v)::r,m,h=>by
  unfold bindC;rw[OO λw hw=>h w (Yd _ hw)];split
  ·rfl
  ·have:x≠n:=by rintro rfl;exact h v Ye
   simp[this]
theorem OP{kindOf:Str->Option NameKind}:∀{P:List Str}{vs:List Value}{i:Nat}{m:Str->Option Value},P.Nodup->P[i]?=some x->vs[i]?=some v->kindOf x=some .local->
  bindL kindOf (P.zip vs) m x=some v
 | [],_,_,_,_,h,_,_=>by simp at h
 | _::_,[],_,_,_,_,h,_=>by simp at h
 | p::P,w::vs,0,m,nd,h1,h2,a=>by
  simp at h1 h2;subst h1;subst h2;show bindL kindOf ((p,w)::P.zip vs) m p=_;unfold bindL;rw[ON λv b=>(YU.mp nd).1 (List.of_mem_zip b).1,if_pos a];simp
 | p::P,w::vs,i+1,m,nd,h1,h2,a=>by
  show bindL kindOf ((p,w)::P.zip vs) m x=_;unfold bindL;exact OP (i:=i) (YU.mp nd).2 (by simpa using h1) (by simpa using h2) a
theorem OQ{kindOf:Str->Option NameKind}:∀{P:List Str}{vs:List Value}{i:Nat}{m:Str->Option Value},P.Nodup->P[i]?=some x->vs[i]?=some v->kindOf x≠some .local->
  bindC kindOf (P.zip vs) m x=some v
 | [],_,_,_,_,h,_,_=>by simp at h
 | _::_,[],_,_,_,_,h,_=>by simp at h
 | p::P,w::vs,0,m,nd,h1,h2,a=>by
  simp at h1 h2;subst h1;subst h2;show bindC kindOf ((p,w)::P.zip vs) m p=_;unfold bindC;rw[OO λv b=>(YU.mp nd).1 (List.of_mem_zip b).1,if_neg a];simp
 | p::P,w::vs,i+1,m,nd,h1,h2,a=>by
  show bindC kindOf ((p,w)::P.zip vs) m x=_;unfold bindC;exact OQ (i:=i) (YU.mp nd).2 (by simpa using h1) (by simpa using h2) a
def B8(N:List Str)(vs:List V):St:=vs.map some++List.replicate (N.length - vs.length) none
def Bl(CX:CXT)(P:Program)(w:World)(K:PySem.W.Frag)(mg:Str->Option Value)(base:Heap)(N:List Str)(qual:Str)(scope:Scope)(f:Addr)(cd:Value)(A:Around)(outer:List Env)(s:Shared)(H:Hp)(E:XK):Cx where
 prog:=P
 w:=w
 K:=K
 mg:=mg
 base:=base
 A:=A.deeper (envOfC qual scope s.heap.objs.size f cd)
 N:=N
 s₀:=s
 H₀:=H
 env:=envOfC qual scope s.heap.objs.size f cd
 outer:=outer
 stack:=envOfC qual scope s.heap.objs.size f cd::outer
 ex:=[]
 calm:=true
 fn:=λ_=>true
 pn:=[]
 xe:=λe s'=>wpAny (model P w) (A.deeper (envOfC qual scope s.heap.objs.size f cd)) (leaving (envOfC qual scope s.heap.objs.size f cd) e) (λ_ s''=>CX outer H s E e s'') (λe' s''=>CX outer H s E e' s'') s'
theorem KI{a:Scope}(h:a.names.lookup x=some .cell):∃ c,(cellsFrom n a.names []).lookup x=some c:=by
 have q:=PySem.W.cellsFrom_some a.names n [] (.inl h);exact Option.isSome_iff_exists.mp q
theorem OR{K:PySem.W.Frag}(S:AB N ps scope)(hd:A.handled=none)(d:Env0 P w K mg base A outer s H)(hl:vs.length=ps.length)(r:Vals vs us)(x:InCallC s s.heap.objs.size (bindL (envOfC qual scope s.heap.objs.size f cd).kindOf (ps.zip us) λ_=>none) (cellsFrom (s.heap.objs.size+1) scope.names []) (bindC (envOfC qual scope s.heap.objs.size f cd).kindOf (ps.zip us) λ_=>none) o):
  Inv (Bl CX P w K mg base N qual scope f cd A outer s H E) [] (B8 N vs) H o:=by
 have F:ps.length<=N.length:=by have:=congrArg List.length S.pre;rw[List.length_take]at this;lia
 obtain⟨h1,tk,rfl,B⟩:=x.done;have g:∀ b:Addr,b∉(Bl CX P w K mg base N qual scope f cd A outer s H E).ex:=λb z=>absurd (show b∈([]:List Addr)from z) (by simp)
 refine⟨⟨d.mod,S.kind,rfl,rfl,Yr _,λy z c h1 h2=>?_,λy j=>?_,λy c _ h=>?_,λ_=>hd,Around.frames_deeper d.frames,.inr ⟨rfl,rfl⟩,λb z=>absurd z (g b),d.bs,d.bsz,λb _ _=>g b,λb z=>absurd z (g b),d.funs,d.frf⟩,
  rfl,d.bare,Un.kept B,⟨_,x.toInCall.ns,λi y v h1 h2 I=>?_⟩,λy c h=>⟨_,x.cell y c h⟩,d.hok.fresh (Yr _),λy c h=>?_,λp m=>absurd (show p∈([]:List (Addr×Obj))from m) (by simp),d.hok.kept B,?_⟩
 ·exact name_of_addr x.apart (PySem.mem_of_lookup h1) (PySem.mem_of_lookup h2)
 ·have j:scope.names.lookup y=some .cell\/scope.names.lookup y=some .free:=j;rcases j with j | j
  ·exact KI j
  ·exact absurd rfl (S.nofree _ (PySem.mem_of_lookup j))
 ·exact YK (x.above y c (PySem.mem_of_lookup h))
 ·have hi:i < vs.length:=by
   unfold B8 at h2;by_cases hi:i < vs.length
   ·exact hi
   ·rw[List.getElem?_append_right (by simpa using hi)]at h2;rw[List.getElem?_replicate]at h2;split at h2 <;> cases h2
  have G:vs[i]?=some v:=by
   unfold B8 at h2;rw[YJ (by simpa using hi),YR]at h2;cases e:vs[i]? with
   | none=>rw[e]at h2;cases h2
   | some a=>rw[e]at h2;cases h2;rfl
  obtain⟨u,t,D⟩:=r.get G
  have m:ps[i]?=some y:=by
   rw[<- S.pre,List.getElem?_take_of_lt (by lia)];exact h1
  have l:ps.Nodup:=by rw[<- S.pre];exact S.nd.sublist (List.take_sublist _ _)
  refine⟨u,D,?_⟩;rcases S.par y (List.mem_of_getElem? m)with k | k
  ·exact .inl ⟨k,OP l m t k⟩
  ·obtain⟨c,e⟩:=KI (n:=s.heap.objs.size+1) k;refine .inr ⟨.inl k,c,e,?_⟩;have q:=x.cell y c e;rw[OQ l m t (by show scope.names.lookup y≠_;rw[k];decide)]at q;exact q
 ·exact d.hok.fresh (YK (x.above y c (PySem.mem_of_lookup h)))
 ·unfold B8;show _=N.length;rw[Yj,Yh,List.length_replicate];lia
theorem Gi{K:PySem.W.Frag}{kV:Value}(lk:K.lookup f=some ⟨L,O,.func (PySem.W.fnOf name qual params body scope D kV g pm B cdv ct),m⟩)(z:PySem.W.codeIn K cdv qual=true)(S:AB N ps scope)(len:∀ vs H Q E,sp vs H Q E->vs.length=ps.length)(a:∀(A:Around)(outer:List Env)(s:Shared)(H:Hp)(vs:List V)(Q:VK)(E:XK),Room k (A.deeper (envOfC qual scope s.heap.objs.size f cdv))->sp vs H Q E->
   ∃ t,PSs (Bl CX P w K mg base N qual scope f cdv A outer s H E) body t/\t {nx:=λ_ H'=>Q .non H',rt:=Q} (B8 N vs) H):
  FnOk P w K mg base CX (k+1) f (PySem.W.fnOf name qual params body scope D kV g pm B cdv ct) ps sp:=by
 refine⟨len,λA outer s H F Y vs Q E l i hb r d=>?_⟩;have hl:=len _ _ _ _ d;have KX:K.In s.heap:=i.mod.kin.keeps λb o e=>(i.bs b o e).1;have j:s.heap.NoLimit:=i.mod.nolimit.keeps λb o e=>(i.bs b o e).1
 have c:∀ y∈ps.zip Y,scope.names.lookup y.1=some .local\/(scope.names.lookup y.1=some .cell/\((cellsFrom (s.heap.objs.size+1) scope.names []).lookup y.1).isSome=true):=by
  rintro⟨n,v⟩ X;rcases S.par n (List.of_mem_zip X).1 with q | q
  ·exact .inl q
  ·exact .inr ⟨q,PySem.W.cellsFrom_some _ _ _ (.inl q)⟩
 refine codeAny_call_function l.depth (KX _ _ lk) rfl S.co S.gen rfl (PySem.W.codeRec_of KX z) (hb _ _ _ _ ?_);refine wpAny_newFunctionEnv_cells S.kind c λenv Z G x=>?_;subst Z;refine⟨j.keeps x.toInCall.keep,codeAny_func ?_⟩;obtain⟨t,T,U⟩:=a A outer s H vs Q E (l.deeper _) d;have I:Inv (Bl CX P w K mg base N qual scope f cdv A outer s H E) [] (B8 N vs) H G:=OR S l.hd i hl r x;refine wpAny_mono (T [] G (B8 N vs) H _ I U) (λR s' hs=>?_) λe s' hs=>hs
 have h:∀{σ':St}{H':Hp}{v:V}{u:Value},Inv (Bl CX P w K mg base N qual scope f cdv A outer s H E) [] σ' H' s'->RelV v u->Q v H'->CE outer P w H s Q u s' :=
  λ{σ' H' v u}J p q=>⟨v,H',J.os,J.bare,J.base,J.hok,p,q⟩
 cases R with
 | ret u =>
  obtain⟨v,σ',H',J,p,q⟩:=hs;exact h J p q
 | next =>
  obtain⟨σ',H',J,q⟩:=hs;exact h (v:=V.non) (u:=Value.none) J rfl q
 | brk =>
  obtain⟨_,_,_,q⟩:=hs;exact Qk q
 | cont =>
  obtain⟨_,_,_,q⟩:=hs;exact Qk q
section
variable {t:TA}{r:List V->Hp->VK->Prop}
def tCB(r:List V->Hp->VK->Prop)(t:TA):TE:=λσ H Q=>t σ H λvs H1=>r vs H1 Q
theorem aq{p pos:Pos}{id:String}(hc:CallR X (.builtin id) r)(m:Gl X x)(g:X.mg x=none)(k:bootBuiltins x=some (.builtin id))(l:PA X (e::es) t)(d:x≠"__name__":=by decide)(b:(x==("__debug__":Str))=false:=by decide)(j:starEach (e::es) X.env=(false,eval e X.env)::starEach es X.env:=by rfl)(a:(backTo pos (starEach es X.env)).any (·.1)=false:=by rfl):PE X (.Call (.Name x p) (e::es) [] pos) (tCB r t):=by
 intro pins s σ H Q I h;refine wpAny_Call_Name_kw (CY I m g k ?_ d b);exact PyProof.Rows.callWith_builtin1 (thn (l pos pins s σ H _ I h) (by rintro c i ⟨vs,H1,f,r1,q1⟩;exact hc pins i σ H1 vs c Q f r1 q1)) j a
theorem ar{p pos:Pos}(hc:CallR X (.type T) r)(m:Gl X x)(g:X.mg x=none)(k:bootBuiltins x=some (.type T))(l:PA X (e::es) t)(d:x≠"__name__":=by decide)(b:(x==("__debug__":Str))=false:=by decide)(j:starEach (e::es) X.env=(false,eval e X.env)::starEach es X.env:=by rfl)(a:(backTo pos (starEach es X.env)).any (·.1)=false:=by rfl):PE X (.Call (.Name x p) (e::es) [] pos) (tCB r t):=by
 intro pins s σ H Q I h;refine wpAny_Call_Name_kw (CY I m g k ?_ d b);exact Qg (thn (l pos pins s σ H _ I h) (by rintro c i ⟨vs,H1,f,r1,q1⟩;exact hc pins i σ H1 vs c Q f r1 q1)) j a
end
end L2
namespace HT
open PySem PyProof.Rows
section
open PySem.SeqAt
open PySem.AutoSeq1 (wpAny_loadPart')
open PySem.MeetsSeq PySem.MeetsSeq2 PySem.MeetsSeq3
end
section
theorem cat_tup(r:IsTup s.heap t vs.toArray)(u:IsTup s.heap b a.toArray)(p:vs≠[])(h1:a=[]->Q (.ref t) s)(h2:a≠[]->Q (.ref s.heap.objs.size) {s with heap:=s.heap.push {cls:=.type "tuple",data:=.seq (vs++a).toArray}})(j:vs.length+a.length<=sizeLine):wpAny (model prog w) A (binaryOp .Add (.ref t) (.ref b)) Q E s:=by
 obtain⟨⟨cls,q,data,o⟩,i,hc,n,hd⟩:=id r;obtain⟨⟨l,g,k,h⟩,c,f,m,d⟩:=id u;simp only at hc hd f d;subst hc hd f d;have e:vs.toArray++a.toArray=(vs++a).toArray:=by simp
 by_cases hw:a=[]
 ·exact concat_meets ⟨_,i,rfl⟩ ⟨_,c,rfl⟩ noFill_tuple_add seq_tuple_add PySem.F.slot_tuple_add PySem.F.entry_tuple_add (PySem.F.args_tuple_add_2 _ _)
   (tuple_addW1 t b vs.toArray a.toArray n m q g o h (by simpa using p) (by simp[hw])) ⟨i,c,h1 hw⟩
 ·refine concat_meets ⟨_,i,rfl⟩ ⟨_,c,rfl⟩ noFill_tuple_add seq_tuple_add PySem.F.slot_tuple_add PySem.F.entry_tuple_add (PySem.F.args_tuple_add_2 _ _)
   (tuple_addW2 t b vs.toArray a.toArray n m q g o h (by simpa using p) (by simpa using hw) (by rw[Yn,Yn];exact j)) ⟨i,c,?_⟩
  rw[e];exact h2 hw
def sIx(n d:Nat):Option Int->Nat
 | none=>d
 | some v=>if v < 0 then(v+(n:Int)).toNat else min v.toNat n
theorem sIx_none(n d:Nat):sIx n d none=d:=rfl
theorem sIx_nat(n d k:Nat):sIx n d (some (k:Int))=min k n:=by
 show(if(k:Int) < 0 then((k:Int)+(n:Int)).toNat else min (k:Int).toNat n)=min k n;rw[if_neg (by lia),Int.toNat_natCast]
theorem au(n d:Nat)(hd:d<=n)(o:Option Int):sIx n d o<=n:=by
 cases o with
 | none=>exact hd
 | some v =>
  show(if v < 0 then(v+(n:Int)).toNat else min v.toNat n)<=n;by_cases a:v < 0
  ·rw[if_pos a];lia
  ·rw[if_neg a];exact Nat.min_le_right _ _
theorem OS(v:Int)(n d:Nat):(if v < 0 then max (v+(n:Int)) 0 else min v (n:Int))=((sIx n d (some v):Nat):Int):=by
 show(if v < 0 then max (v+(n:Int)) 0 else min v (n:Int))=(((if v < 0 then(v+(n:Int)).toNat else min v.toNat n):Nat):Int);by_cases a:v < 0
 ·simp only[if_pos a];lia
 ·simp only[if_neg a];lia
theorem av(lo hi:Option Int)(n:Nat):Builtin.Slice.sliceAdjust lo hi 1 (n:Int)=(((sIx n 0 lo:Nat):Int),((sIx n n hi:Nat):Int)):=by
 have h1:¬ ((1:Int) < 0):=by lia
 unfold Builtin.Slice.sliceAdjust;simp only[h1,if_false];refine Prod.ext ?_ ?_
 ·cases lo with
  | none=>rfl
  | some v=>exact OS v n 0
 ·cases hi with
  | none=>rfl
  | some v=>exact OS v n n
theorem aw(i j:Nat):Builtin.Slice.slicePlaces (i:Int) (j:Int) 1=j - i:=by
 unfold Builtin.Slice.slicePlaces;have h1:(1:Int) > 0:=by lia
 simp only[h1,if_true,Int.ediv_one];split <;> lia
theorem OT(p:IsPart v o)(h:Q o s):wpAny (model prog w) A (Builtin.Slice.slicePartIndex v) Q E s:=by
 cases p with
 | none=>exact slicePart_none h
 | int i t=>exact slicePart_int h
theorem OU{lo:Option Int}{Q:Int×Int×Nat->Shared->Prop}(hs:s.heap.IsSliceOf c vl vu .none)(pl:IsPart vl lo)(d:IsPart vu hi)(h:Q (((sIx n 0 lo:Nat):Int),1,sIx n n hi - sIx n 0 lo) s):wpAny (model prog w) A (Builtin.Slice.sliceApplied (.ref c) (pure (n:Int))) Q E s:=by
 obtain⟨os,a,e,b⟩:=id hs;unfold Builtin.Slice.sliceApplied Builtin.Slice.sliceFields;refine Ql (Ql (wpAny_field a b (x:=vl) rfl (Ql (wpAny_field a b (x:=vu) rfl (Ql (wpAny_field a b (x:=.none) rfl (Qm ?_)))))));refine Ql (slicePart_none ?_);show wpAny _ _ (if((1:Int)==0)=true then _ else _) _ _ s;rw[if_neg (by decide)];refine Ql (OT pl (Ql (OT d (Ql (Qm ?_)))));show wpAny _ _ (match Builtin.Slice.sliceAdjust lo hi 1 (n:Int)with |(lo,hi)=>pure (lo,(1:Int),Builtin.Slice.slicePlaces lo hi 1)) _ _ s;rw[av lo hi n];show wpAny _ _ (pure (((sIx n 0 lo:Nat):Int),(1:Int),Builtin.Slice.slicePlaces ((sIx n 0 lo:Nat):Int) ((sIx n n hi:Nat):Int) 1)) _ _ s;rw[aw];exact Qm h
theorem ax(xs:Array Value)(i k:Nat):((List.range k).filterMap λ(m:Nat)=>xs[((i:Int)+(m:Int)*1).toNat]?).toArray=((xs.toList.drop i).take k).toArray:=by
 have e:(λ(m:Nat)=>xs[((i:Int)+(m:Int)*1).toNat]?)=λm=>xs[i+m]?:=by
  funext m;have:((i:Int)+(m:Int)*1).toNat=i+m:=by lia
  rw[this]
 rw[e];have:=pick_run xs i k;rw[List.filterMap_map]at this;have a:((λx=>xs[x]?)∘λx=>i+x)=λm=>xs[i+m]?:=rfl;rw[a]at this;rw[this]
theorem getItem_tuple_cut{lo:Option Int}(b:IsTup s.heap t items)(hs:s.heap.IsSliceOf f vl vu .none)(pl:IsPart vl lo)(j:IsPart vu hi)(hw:¬ (sIx items.size 0 lo=0/\sIx items.size items.size hi=items.size))(h:Q (.ref s.heap.objs.size) {s with heap:=s.heap.push {cls:=.type "tuple",data:=.seq ((items.toList.drop (sIx items.size 0 lo)).take (sIx items.size items.size hi - sIx items.size 0 lo)).toArray}})(i:items.size<=sizeLine):wpAny (model prog w) A (getItem (.ref t) (.ref f)) Q E s:=by
 have a:sizeOk (.seq ((items.toList.drop (sIx items.size 0 lo)).take (sIx items.size items.size hi - sIx items.size 0 lo)).toArray):=by
  show((items.toList.drop (sIx items.size 0 lo)).take (sIx items.size items.size hi - sIx items.size 0 lo)).toArray.size<=sizeLine;rw[Yn,List.length_take,List.length_drop,YV];lia
 have l:sIx items.size items.size hi<=items.size:=au _ _ (Yr _) hi;obtain⟨os,d,e,k⟩:=id hs;have c:s.TypeIs (.ref f) "slice":=⟨os,d,e⟩;unfold getItem
 try with_reducible refine wpAny_holding ?_
 first | refine Ql (Qm ?_)| skip
 refine Ql (wpAny_sequenceKey b.typeIs (by decide) ?_)
 refine Ql (wpAny_callSpecial?_slot (name:=Str.ofString "__getitem__") b.typeIs PyProof.Rows.slot_tuple_getitem
  (wpAny_call_entry PyProof.Rows.slot_tuple_getitem b.typeIs entry_tuple_getitem ?_ (args_tuple_getitem _ _)))
 show wpAny _ _ (Builtin.Tuple.tupleItemsOf (.ref t) >>=_) _ _ s;refine Ql (tupleItemsOf_ b ?_);refine Ql (wpAny_typeOf c ?_);rw[if_pos (by decide)];refine Ql (OU hs pl j ?_)
 have g:¬ ((((sIx items.size 0 lo:Nat):Int)==0&&(1:Int)==1&&(sIx items.size items.size hi - sIx items.size 0 lo)==items.size)=true):=by
  intro q;rw[YG,YG]at q;have q1:((sIx items.size 0 lo:Nat):Int)=0:=eq_of_beq q.1.1;have q2:sIx items.size items.size hi - sIx items.size 0 lo=items.size:=eq_of_beq q.2;exact hw ⟨by lia,by lia⟩
 show wpAny _ _ (if(((sIx items.size 0 lo:Nat):Int)==0&&(1:Int)==1&&(sIx items.size items.size hi - sIx items.size 0 lo)==items.size)=true then _ else _) _ _ s;rw[if_neg g,ax]
 first
  | exact Ql (m:=Builtin.Tuple.tupleExact _) (wpAny_newObj_type (Qm ⟨_,rfl,Qm h⟩) a)
  | exact Ql (m:=Builtin.Tuple.tupleExact _) (wpAny_newObj_type (Ql (Qm (Qm ⟨_,rfl,Qm h⟩))) a)
  | exact Ql (Ql (m:=Builtin.Tuple.tupleExact _) (wpAny_newObj_type (Qm (Qm ⟨_,rfl,Qm h⟩)) a))
  | exact Ql (Ql (m:=Builtin.Tuple.tupleExact _) (wpAny_newObj_type (Qm ⟨_,rfl,Qm h⟩) a))
end
end HT
namespace L2
open PySem PySem.Spec PyProof.Rows
abbrev TO:=St->Hp->(Option Int->Hp->Prop)->Prop
def PO(X:Cx)(e:Option Expr)(t:TO):Prop :=
 ∀(pins:List (Addr×Obj))(s:Shared)(σ:St)(H:Hp)(Q:Option Int->Hp->Prop),Inv X pins σ H s->t σ H Q->
  wpAny (model X.prog X.w) X.A (evalPart e X.env) (λu s'=>∃ o H',Inv X pins σ H' s'/\IsPart u o/\Q o H') X.xe s
def ay:TO:=λ_ H Q=>Q none H
def az(t:TE):TO:=λσ H Q=>t σ H λx H1=>∃ i,x=.int i/\Q (some i) H1
section
variable {X:Cx}{te:TE}{lo hi:Option Expr}{tl th:TO}
theorem aA:PO X none ay:=by
 intro pins s σ H Q I h;rw[evalPart_none];exact Qm ⟨none,H,I,.none,h⟩
theorem aB(h:PE X e te):PO X (some e) (az te):=by
 intro pins s σ H Q I hw;rw[evalPart_some];refine thn (h pins s σ H _ I hw) λu c a=>?_;obtain⟨x,H1,b,r1,q1⟩:=a;obtain⟨i,rfl,q⟩:=q1;obtain⟨t,rfl⟩:=r1;exact⟨some i,H1,b,.int i t,q⟩
def SlR(X:Cx)(r:V->Option Int->Option Int->Hp->VK->Prop):Prop :=
 ∀(pins:List (Addr×Obj))(s:Shared)(σ:St)(H:Hp)(x:V)(v vl vu:Value)(lo hi:Option Int)(sl:Addr)(Q:VK),Inv X pins σ H s->RelV x v->s.heap.IsSliceOf sl vl vu .none->IsPart vl lo->IsPart vu hi->r x lo hi H Q->
  ∃ T id,typeLookup (.type T) "__getitem__"=pure (some (.builtin id))/\s.TypeIs v T/\wpAny (model X.prog X.w) X.A (getItem v (.ref sl)) (EP X pins σ Q) X.xe s
theorem SlR.or(h:SlR X r)(h':SlR X r'):SlR X (λx lo hi H Q=>r x lo hi H Q\/r' x lo hi H Q):=by
 intro pins s σ H x v vl vu lo hi b Q I c hs pl a q;rcases q with q | q
 ·exact h pins s σ H x v vl vu lo hi b Q I c hs pl a q
 ·exact h' pins s σ H x v vl vu lo hi b Q I c hs pl a q
def tSl(r:V->Option Int->Option Int->Hp->VK->Prop)(te:TE)(tl th:TO):TE:=λσ H Q=>te σ H λx H1=>tl σ H1 λl H2=>th σ H2 λu H3=>r x l u H3 Q
theorem OV(n:SlR X r)(k:PE X e te)(hl:PO X lo tl)(p:PO X hi th):PE X (.Subscript e (.Slice lo hi none p2) pos) (tSl r te tl th):=by
 intro pins s σ H Q I h;refine Subscript_ (thn (k pins s σ H _ I h) λv m c=>?_);obtain⟨x,H1,i,r1,q1⟩:=c;refine wpAny_Slice (thn (hl pins m σ H1 _ i q1) λvl f⟨l,H2,z,pl,q2⟩=>thn (p pins f σ H2 _ z q2) λvu a⟨u,d,B,j,q3⟩=>?_);rw[evalPart_none];refine Qm ?_;have y:Inv X pins σ d {a with heap:=a.heap.push {cls:=.type "slice",data:=.fields #[vl,vu,.none]}}:=B.kept (t':=a.toks) λb D q=>Qn _ q;obtain⟨T,id,o,g,t⟩:=n pins {a with heap:=a.heap.push {cls:=.type "slice",data:=.fields #[vl,vu,.none]}} σ d x v vl vu l u a.heap.objs.size Q y r1 (Heap.IsSliceOf.new ..) pl j q3;show wpAny (model X.prog X.w) X.A (subscriptTail e (.Slice lo hi none p2) v (.ref a.heap.objs.size)) (EP X pins σ Q) X.xe {a with heap:=a.heap.push {cls:=.type "slice",data:=.fields #[vl,vu,.none]}};exact tail_any (ops:=[.ref a.heap.objs.size,v]) g o t (by with_unfolding_all rfl)
def D4(xs:List V)(lo hi:Option Int):List V:=(xs.drop (HT.sIx xs.length 0 lo)).take (HT.sIx xs.length xs.length hi - HT.sIx xs.length 0 lo)
theorem OW(xs:List V)(lo hi:Option Int):(D4 xs lo hi).length<=xs.length:=by
 unfold D4;rw[List.length_take,List.length_drop];lia
def KJ(K:PySem.W.Frag):V->Option Int->Option Int->Hp->VK->Prop:=λx lo hi H Q=>∃ a xs,x=.ref a/\SqT K H a xs/\
 ¬ (HT.sIx xs.length 0 lo=0/\HT.sIx xs.length xs.length hi=xs.length)/\∀ p,H p=none->Q (.ref p) (upd H p (.tup (D4 xs lo hi)))
theorem OX:SlR X (KJ X.K):=by
 intro pins s σ H x v vl vu lo hi k Q I i hs pl j h;obtain⟨a,xs,rfl,g,hw,q⟩:=h;cases i;obtain⟨d,r,e,f⟩:=I.tuple g;have c:d.toArray.size=xs.length:=by rw[Yn];exact r.length.symm
 refine⟨"tuple",_,PyProof.Rows.slot_tuple_getitem.lookup,e.typeIs,?_⟩;refine HT.getItem_tuple_cut e hs pl j (by rw[c];exact hw) ?_ (by rw[c];exact f);rw[c];refine⟨.ref s.heap.objs.size,_,I.laid (t':=s.toks) (o:=.tup (D4 xs lo hi)) (λb l q=>Qn _ q) (Yr _) ?_,rfl,q _ (I.hok.fresh (Yr _))⟩;exact⟨Yt (OW xs lo hi) f,_,(r.drop (HT.sIx xs.length 0 lo)).take (HT.sIx xs.length xs.length hi - HT.sIx xs.length 0 lo),TupP.new _ _⟩
def KM(K:PySem.W.Frag):R2:=λx y H Q=>∃ a b xs ys,x=.ref a/\y=.ref b/\SqT K H a xs/\SqT K H b ys/\xs≠[]/\xs.length+ys.length<=sizeLine/\
 (ys=[]->Q (.ref a) H)/\(ys≠[]->∀ p,H p=none->Q (.ref p) (upd H p (.tup (xs++ys))))
theorem Vals.nil_iff(r:Vals xs us):us=[]↔xs=[]:=by
 cases r with
 | nil=>simp
 | cons _ _=>simp
theorem aC:OpR X (binaryOp .Add) (KM X.K):=by
 intro pins s σ H x y v u Q I g i h;obtain⟨a,b,xs,ys,rfl,rfl,j,l,f,e,q1,q2⟩:=h;cases g;cases i;obtain⟨k,r1,p1,_⟩:=I.tuple j;obtain⟨d,c,p2,_⟩:=I.tuple l;refine HT.cat_tup p1 p2 (λz=>f (r1.nil_iff.mp z)) (λz=>⟨.ref a,H,I,rfl,q1 (c.nil_iff.mp z)⟩) (λz=>?_) (by rw[<- r1.length,<- c.length];exact e);refine⟨.ref s.heap.objs.size,_,I.laid (t':=s.toks) (o:=.tup (xs++ys)) (λb m q=>Qn _ q) (Yr _) ?_,rfl,q2 (λw=>z (c.nil_iff.mpr w)) _ (I.hok.fresh (Yr _))⟩;exact⟨by rw[Yj];exact e,_,r1.append c,TupP.new _ _⟩
end
def ixN(n:Nat)(i:Int):Option Nat:=if 0<=i then(if i < n then some i.toNat else none)else if -(n:Int)<=i then some (i+n).toNat else none
def atI{α:Type}(xs:List α)(i:Int):Option α:=(ixN xs.length i).bind λj=>xs[j]?
theorem OY(h:ixN n i=some j):seqIndex? i n=some j/\j < n/\-(n:Int)<=i/\i < n:=by
 unfold ixN at h;by_cases a:0<=i
 ·rw[if_pos a]at h;by_cases h1:i < n
  ·rw[if_pos h1]at h;have e:i.toNat=j:=YE h;exact⟨by rw[seqIndex_of a h1,e],by lia,by lia,h1⟩
  ·rw[if_neg h1]at h;cases h
 ·rw[if_neg a]at h;by_cases h1:-(n:Int)<=i
  ·rw[if_pos h1]at h;have e:(i+n).toNat=j:=YE h;exact⟨by rw[seqIndex_neg (by lia) h1,e],by lia,h1,by lia⟩
  ·rw[if_neg h1]at h;cases h
theorem KN{α:Type}{xs:List α}{v:α}(h:atI xs i=some v):∃ j,seqIndex? i xs.length=some j/\xs[j]?=some v/\j < xs.length/\-(xs.length:Int)<=i/\i < xs.length:=by
 unfold atI at h;cases e:ixN xs.length i with
 | none=>rw[e]at h;cases h
 | some j =>
  rw[e]at h;obtain⟨h1,h2,b,a⟩:=OY e;exact⟨j,h1,h,h2,b,a⟩
theorem FJ{α:Type}{xs:List α}{j:Nat}{v:α}(h:xs[j]?=some v):atI xs (j:Int)=some v:=by
 have a:j < xs.length:=(Qa.mp h).1
 have e:ixN xs.length (j:Int)=some j:=by
  unfold ixN;rw[if_pos (by lia),if_pos (by lia)];simp
 unfold atI;rw[e];exact h
def HA(b:Expr):Prop:=∀ o i,subscripted b false o i=operate [o,i] (getItem o i)
def IxR(X:Cx)(r:R2):Prop :=
 ∀(value slice:Expr)(pins:List (Addr×Obj))(s:Shared)(σ:St)(H:Hp)(x y:V)(v u:Value)(Q:VK),Inv X pins σ H s->RelV x v->RelV y u->r x y H Q->
  subscripted slice false v u=operate [v,u] (getItem v u)->wpAny (model X.prog X.w) X.A (subscriptTail value slice v u) (EP X pins σ Q) X.xe s
def MtR(X:Cx)(id:String)(r:V->List V->Hp->VK->Prop):Prop :=
 ∀(pins:List (Addr×Obj))(s:Shared)(σ:St)(H:Hp)(x:V)(xs:List V)(v:Value)(us:List Value)(Q:VK),Inv X pins σ H s->RelV x v->Vals xs us->r x xs H Q->
  wpAny (model X.prog X.w) X.A (call (.builtin id) (v::us)) (EP X pins σ Q) X.xe s
section
variable {a b:Expr}
theorem IxR.or(h:IxR X r)(h':IxR X r'):IxR X (λx y H Q=>r x y H Q\/r' x y H Q):=by
 intro value slice pins s σ H x y v u Q I a b q hs;rcases q with q | q
 ·exact h value slice pins s σ H x y v u Q I a b q hs
 ·exact h' value slice pins s σ H x y v u Q I a b q hs
theorem MtR.or{id:String}(h:MtR X id r)(h':MtR X id r'):MtR X id (λx xs H Q=>r x xs H Q\/r' x xs H Q):=by
 intro pins s σ H x xs v a Q I b c q;rcases q with q | q
 ·exact h pins s σ H x xs v a Q I b c q
 ·exact h' pins s σ H x xs v a Q I b c q
theorem aD(f:IxR X r)(g:PE X a ta)(j:PE X b tb)(hs:HA b):PE X (.Subscript a b pos) (tOp r ta tb):=by
 intro pins s σ H Q I h;exact Subscript_ (Ky g j I h λv u c x y H2 i d e q=>f a b pins c σ H2 x y v u Q i d e q (hs _ _))
def KO(K:PySem.W.Frag):R2:=λx y H Q=>∃ p xs i v,x=.ref p/\y=.int i/\SqL K H p xs/\atI xs i=some v/\Q v H
def KP(K:PySem.W.Frag):R2:=λx y H Q=>∃ p xs i v,x=.ref p/\y=.int i/\SqT K H p xs/\atI xs i=some v/\Q v H
def KQ:R2:=λx y H Q=>∃ z i c,x=.str z/\y=.int i/\z.length<=sizeLine/\atI z.cps.toList i=some c/\Q (.str ⟨#[c]⟩) H
theorem aE:IxR X (KO X.K):=by
 intro value slice pins s σ H x y v u Q I l n h hs;obtain⟨p,xs,i,z,rfl,rfl,k,m,q⟩:=h;cases l;obtain⟨t,rfl⟩:=n;obtain⟨c,r,pl,D⟩:=I.list k;obtain⟨j,h1,h2,B,o,g⟩:=KN m;obtain⟨w,f,b⟩:=r.get h2;have hl:=r.length;have A:=FH;have a:EP X pins σ Q w s:=⟨z,H,I,b,q⟩;by_cases e:0<=i
 ·have d:i.toNat=j:=by
   rw[seqIndex_of e g]at h1;exact YE h1
  exact item_listR pl.isList e (by lia) (by rw[d];simpa using f) a hs
 ·have d:(i+(c.toArray.size:Int)).toNat=j:=by
   rw[seqIndex_neg (by lia) o]at h1;rw[Yn,<- hl];exact YE h1
  exact subscriptTail_builtinR (x:=w) pl.isList.typeIs slot_list_getitem.lookup
   (wpAny_getItem_list_neg (Q:=λr s'=>r=w/\EP X pins σ Q r s') pl.isList (by lia) (by rw[Yn] <;> lia) (by lia) (by rw[d];simpa using f) ⟨rfl,a⟩) hs
theorem aF:IxR X (KP X.K):=by
 intro value slice pins s σ H x y v u Q I d f h hs;obtain⟨p,xs,i,z,rfl,rfl,c,e,q⟩:=h;cases d;obtain⟨t,rfl⟩:=f;obtain⟨k,r,pl,A⟩:=I.tuple c;obtain⟨j,h1,h2,n,o,l⟩:=KN e;obtain⟨w,g,a⟩:=r.get h2;have hl:=r.length;have m:=FH;have b:EP X pins σ Q w s:=⟨z,H,I,a,q⟩
 exact subscriptTail_builtinR (x:=w) pl.typeIs slot_tuple_getitem.lookup
  (getItem_tuple (j:=j) (Q:=λr s'=>r=w/\EP X pins σ Q r s') pl (by lia) (by lia) (by rw[Yn,<- hl];exact h1) (by simpa using g) ⟨rfl,b⟩) hs
theorem aG:IxR X KQ:=by
 intro value slice pins s σ H x y v u Q I b g h hs;obtain⟨z,i,c,rfl,rfl,n,f,q⟩:=h;obtain⟨t,rfl⟩:=b;obtain⟨t',rfl⟩:=g;obtain⟨j,h1,h2,m,k,a⟩:=KN f;have hl:z.cps.toList.length=z.length:=by simp[Str.length]
 rw[hl]at h1 k a;have l:=FH
 exact tail_any (typeIs_str s z t) slot_str_getitem.lookup (getItem_str (c:=c) (by
  have e:decide (i < -(2 ^ 63:Int))=false:=decide_eq_false (by lia);have d:decide (i>=2 ^ 63)=false:=decide_eq_false (by lia);rw[e,d,Bool.or_false]) (by rw[h1];simpa using h2) ⟨.str ⟨#[c]⟩,H,I.tok _,⟨_,rfl⟩,q⟩) hs
theorem aH(a:List Value)(n j:Nat)(u:Value):Obj.mapSeq (·.setIfInBounds j u) {cls:=.type "list",data:=.seq a.toArray n}={cls:=.type "list",data:=.seq (a.set j u).toArray n}:=by
 simp[Obj.mapSeq]
theorem Inv.lst{σ:St}(I:Inv X pins σ H s)(h:H p=some (.lst xs)):
  ∃(a:List Value)(n:Nat),Vals xs a/\s.heap.get? p=some {cls:=.type "list",data:=.seq a.toArray n}/\xs.length<=sizeLine:=by
 obtain⟨z,a,n,r,e⟩:=I.hok p _ h;exact⟨a,n,r,e,z⟩
theorem Inv.lstUpd{σ:St}{a:List Value}(I:Inv X pins σ H s)(h:H p=some (.lst xs))(i:s.heap.get? p=some {cls:=.type "list",data:=.seq a.toArray n})(d:f {cls:=.type "list",data:=.seq a.toArray n}={cls:=.type "list",data:=.seq its'.toArray c})(r:Vals ys its')(g:ys.length<=sizeLine)(t:Nat):
  Inv X pins σ (upd H p (.lst ys)) {s with heap:=s.heap.update p f,toks:=t}:=by
 have e:(s.heap.update p f).get? p=some {cls:=.type "list",data:=.seq its'.toArray c}:=by
  rw[Qs f i (by rw[d] <;> rfl),d]
 refine I.write (x:=p) (e:=p) (by rw[h];trivial) (.inl rfl) (λb u j q=>(Heap.get?_update_other _ _ (YY j)).trans q) ⟨_,e⟩ ?_;exact⟨g,its',c,r,e⟩
def OZ:V->V->V->Hp->(Hp->Prop)->Prop:=λo i v H Q=>∃ p xs k j,o=.ref p/\i=.int k/\H p=some (.lst xs)/\ixN xs.length k=some j/\Q (upd H p (.lst (xs.set j v)))
theorem aI:Ks X OZ:=by
 intro pins s σ H o i v D B u Q I x w m h;obtain⟨p,xs,k,j,rfl,rfl,e,y,q⟩:=h;cases x;obtain⟨t,rfl⟩:=w;obtain⟨a,n,r,b,z⟩:=I.lst e;obtain⟨h1,h2,d,g⟩:=OY y;have hl:=r.length;have A:=FH
 have l:Inv X pins σ (upd H p (.lst (xs.set j v))) {s with heap:=s.heap.update p (Obj.mapSeq (·.setIfInBounds j u))}:=
  I.lstUpd e b (aH a n j u) (r.set m j) (by rw[List.length_set];exact z) s.toks
 by_cases f:0<=k
 ·have c:k.toNat=j:=by
   rw[seqIndex_of f g]at h1;exact YE h1
  exact PySem.W.ki_setAt b f (by lia) (by rw[Yn,<- hl];exact g) (by rw[c];exact⟨_,l,q⟩)
 ·have c:(k+(a.toArray.size:Int)).toNat=j:=by
   rw[seqIndex_neg (by lia) d]at h1;rw[Yn,<- hl];exact YE h1
  exact PySem.W.ki_setBack b (by lia) (by rw[Yn,<- hl];exact d) (by lia) (by rw[c];exact⟨_,l,q⟩)
theorem aJ(lo hi:Option Int)(n:Nat):(sliceBounds lo hi none n).1=((HT.sIx n 0 lo:Nat):Int)/\(sliceBounds lo hi none n).2.1=((HT.sIx n n hi:Nat):Int)/\(sliceBounds lo hi none n).2.2=1:=by
 refine⟨?_,?_,rfl⟩
 ·cases lo with
  | none=>simp[sliceBounds,HT.sIx]
  | some i =>
   simp only[sliceBounds,HT.sIx,Option.getD_none,show(1:Int) > 0 by decide,if_true];by_cases h:i < 0
   ·simp only[h,if_true] <;> lia
   ·simp only[h,if_false] <;> lia
 ·cases hi with
  | none=>simp[sliceBounds,HT.sIx]
  | some i =>
   simp only[sliceBounds,HT.sIx,Option.getD_none,show(1:Int) > 0 by decide,if_true];by_cases h:i < 0
   ·simp only[h,if_true] <;> lia
   ·simp only[h,if_false] <;> lia
theorem aK(a:List Value)(lo hi:Option Int):slicePick a.toArray lo hi none=((a.drop (HT.sIx a.length 0 lo)).take (HT.sIx a.length a.length hi - HT.sIx a.length 0 lo)).toArray:=by
 obtain⟨h1,h2,b⟩:=aJ lo hi a.toArray.size;unfold slicePick;rw[h1,h2,b];simp only[sliceRange_one,pick_run,Yn] <;> rfl
def KR(K:PySem.W.Frag):V->Option Int->Option Int->Hp->VK->Prop:=λx lo hi H Q=>∃ a xs,x=.ref a/\SqL K H a xs/\∀ p,H p=none->Q (.ref p) (upd H p (.lst (D4 xs lo hi)))
theorem O0:SlR X (KR X.K):=by
 intro pins s σ H x v vl vu lo hi k Q I f hs pl g h;obtain⟨a,xs,rfl,e,q⟩:=h;cases f;obtain⟨i,r,d,j⟩:=I.list e;have c:=r.length;refine⟨"list",_,slot_list_getitem.lookup,d.isList.typeIs,?_⟩;refine wpAny_getItem_list_slice d.isList hs pl g .none (by simp) ?_ (by rw[Yn] <;> lia);rw[aK,<- c];refine⟨.ref s.heap.objs.size,_,I.laid (t':=s.toks) (o:=.lst (D4 xs lo hi)) (λb l q=>Qn _ q) (Yr _) ?_,rfl,q _ (I.hok.fresh (Yr _))⟩;exact⟨Yt (OW xs lo hi) j,_,0,(r.drop (HT.sIx xs.length 0 lo)).take (HT.sIx xs.length xs.length hi - HT.sIx xs.length 0 lo),Qp _ rfl⟩
def Dg:V->Bool
 | .non=>true
 | .bl _=>true
 | .int _=>true
 | .str _=>true
 | _=>false
def eqV:V->V->Bool
 | .non,.non=>true
 | .bl a,.bl b=>a==b
 | .bl a,.int b=>(if a then 1 else 0)==b
 | .int a,.bl b=>a==(if b then 1 else 0)
 | .int a,.int b=>a==b
 | .str a,.str b=>a==b
 | _,_=>false
theorem Gj(e:RelV y u)(c:RelV x v)(f:Dg y=true)(d:Dg x=true):SeqAt.EqAt A s u v (eqV y x):=by
 cases y with
 | non =>
  cases e;cases x with
  | non=>cases c;exact SeqAt.EqAt.same _
  | bl b=>cases c;exact SeqAt.EqAt.none_bool b
  | int b=>obtain⟨t,rfl⟩:=c;exact SeqAt.EqAt.none_int b t
  | str b=>obtain⟨t,rfl⟩:=c;exact SeqAt.EqAt.none_str b t
  | _=>exact absurd (show false=true from d) YW
 | bl a =>
  cases e;cases x with
  | non=>cases c;exact SeqAt.EqAt.bool_none a
  | bl b=>cases c;exact SeqAt.EqAt.bool_bool a b
  | int b=>obtain⟨t,rfl⟩:=c;exact SeqAt.EqAt.bool_int a b t
  | str b=>obtain⟨t,rfl⟩:=c;exact SeqAt.EqAt.bool_str a b t
  | _=>exact absurd (show false=true from d) YW
 | int a =>
  obtain⟨t',rfl⟩:=e;cases x with
  | non=>cases c;exact SeqAt.EqAt.int_none a t'
  | bl b=>cases c;exact SeqAt.EqAt.int_bool a t' b
  | int b=>obtain⟨t,rfl⟩:=c;exact SeqAt.EqAt.int_int a t' b t
  | str b=>obtain⟨t,rfl⟩:=c;exact SeqAt.EqAt.int_str a t' b t
  | _=>exact absurd (show false=true from d) YW
 | str a =>
  obtain⟨t',rfl⟩:=e;cases x with
  | non=>cases c;exact SeqAt.EqAt.str_none a t'
  | bl b=>cases c;exact SeqAt.EqAt.str_bool a t' b
  | int b=>obtain⟨t,rfl⟩:=c;exact SeqAt.EqAt.str_int a t' b t
  | str b=>obtain⟨t,rfl⟩:=c;exact SeqAt.EqAt.str_str a t' b t
  | _=>exact absurd (show false=true from d) YW
 | _=>exact absurd (show false=true from f) YW
def eqU(x:V)(u:Value):Bool:=match u with
 | .none=>eqV .non x
 | .bool b=>eqV (.bl b) x
 | .int i _=>eqV (.int i) x
 | .str z _=>eqV (.str z) x
 | _=>false
theorem O1(r:RelV y u)(f:Dg y=true):eqU x u=eqV y x:=by
 cases y with
 | non=>cases r;rfl
 | bl b=>cases r;rfl
 | int i=>obtain⟨t,rfl⟩:=r;rfl
 | str z=>obtain⟨t,rfl⟩:=r;rfl
 | _=>exact absurd (show false=true from f) YW
theorem KS:∀{xs:List V}{us:List Value},Vals xs us->xs.all Dg=true->us.any (eqU x)=xs.any λy=>eqV y x
 | _,_,.nil,_=>rfl
 | y::xs,u::us,.cons r t,f=>by
  rw[List.all_cons,YG]at f;rw[List.any_cons,List.any_cons,O1 r f.1,KS t f.2]
theorem KU(c:RelV x v)(b:Dg x=true):∀{xs:List V}{us:List Value},Vals xs us->xs.all Dg=true->∀ u∈us,SeqAt.EqAt A s u v (eqU x u)
 | _,_,.nil,_=>λu a=>by cases a
 | y::xs,u::us,.cons r t,f=>λd a=>by
  rw[List.all_cons,YG]at f;walk_at "pm"
  ·rw[O1 r f.1];exact Gj r c f.1 b
  ·exact KU c b t f.2 d a
def inV(x:V)(xs:List V):Bool:=xs.any λy=>eqV y x
def rIn(K:PySem.W.Frag)(neg:Bool):R2:=λx y H Q=>∃ p xs,y=.ref p/\(SqL K H p xs\/SqT K H p xs)/\Dg x=true/\xs.all Dg=true/\Q (.bl (if neg then !inV x xs else inV x xs)) H
theorem aL:OpR X (compareOp .In) (rIn X.K false):=by
 intro pins s σ H x y v u Q I c e h;obtain⟨p,xs,rfl,b,d,fs,q⟩:=h;cases e;rcases b with b | b
 ·obtain⟨a,r,pl,f⟩:=I.list b;refine SeqAt.in_listAt (eqU x) pl.isList (λw hw=>KU c d r fs w (by simpa using hw)) ⟨.bl _,H,I,rfl,?_⟩;rw[show a.toArray.any (eqU x)=a.any (eqU x) by simp,KS r fs];exact q
 ·obtain⟨a,r,pl,f⟩:=I.tuple b;refine SeqAt.in_tupleAt (eqU x) pl (λw hw=>KU c d r fs w (by simpa using hw)) ⟨.bl _,H,I,rfl,?_⟩;rw[show a.toArray.any (eqU x)=a.any (eqU x) by simp,KS r fs];exact q
theorem CallR.or(h:CallR X f r)(h':CallR X f r'):CallR X f (λxs H Q=>r xs H Q\/r' xs H Q):=by
 intro pins s σ H xs a Q I b q;rcases q with q | q
 ·exact h pins s σ H xs a Q I b q
 ·exact h' pins s σ H xs a Q I b q
theorem aM:CallR X (.type "list") (λxs H Q=>∃ p ys,xs=[.ref p]/\(SqL X.K H p ys\/SqT X.K H p ys)/\∀ l,H l=none->Q (.ref l) (upd H l (.lst ys))):=by
 intro pins s σ H xs m Q I r h;obtain⟨p,ys,rfl,d,q⟩:=h;obtain⟨u,rfl,k⟩:=Cz r;cases k
 have g:∀(a:List Value),Vals ys a->ys.length<=sizeLine->∀(h':Heap)(c:Nat),(∀ b o',s.heap.get? b=some o'->h'.get? b=some o')->
   h'.get? s.heap.objs.size=some {cls:=.type "list",dict:=none,data:=.seq a.toArray c,slots:=#[]}->EP X pins σ Q (.ref s.heap.objs.size) {s with heap:=h'}:=λa r' i h' c kp e=>
  ⟨.ref s.heap.objs.size,_,I.laid (t':=s.toks) kp (Yr _) (show ObjOk X.prog X.w _ h' _ (.lst ys)from⟨i,a,c,r',e⟩),rfl,q _ (I.hok.fresh (Yr _))⟩
 rcases d with d | d
 ·obtain⟨a,r',pl,i⟩:=I.list d;have f:=r'.length;obtain⟨o,j,hc,n,hd⟩:=pl.isList;exact call_list_seq p (.inl rfl) j hc hd (λh' c kp e=>g a r' i h' c kp e) (by simp only[Yn] <;> lia)
 ·obtain⟨a,r',pl,i⟩:=I.tuple d;have f:=r'.length;obtain⟨o,j,hc,n,hd⟩:=pl;exact call_list_seq p (.inr rfl) j hc hd (λh' c kp e=>g a r' i h' c kp e) (by simp only[Yn] <;> lia)
theorem aN:CallR X (.type "tuple") (λxs H Q=>∃ p ys,xs=[.ref p]/\((SqL X.K H p ys/\∀ l,H l=none->Q (.ref l) (upd H l (.tup ys)))\/(SqT X.K H p ys/\Q (.ref p) H))):=by
 intro pins s σ H xs k Q I r h;obtain⟨p,ys,rfl,h⟩:=h;obtain⟨u,rfl,i⟩:=Cz r;cases i;rcases h with⟨c,q⟩|⟨c,q⟩
 ·obtain⟨a,r',pl,g⟩:=I.list c;have f:=r'.length;refine call_tuple_list pl.isList (λh' kp=>?_) (by simp only[Yn] <;> lia);have d:Inv X pins σ H {s with heap:=h'}:=I.kept (t':=s.toks) kp
  have j:Inv X pins σ (upd H h'.objs.size (.tup ys)) {s with heap:=h'.push {cls:=.type "tuple",data:=.seq a.toArray}}:=
   d.laid (t':=s.toks) (λb o e=>Qn _ e) (Yr _) (show ObjOk X.prog X.w _ _ _ (.tup ys)from⟨g,a,r',TupP.new _ _⟩)
  exact⟨.ref h'.objs.size,_,j,rfl,q _ (d.hok.fresh (Yr _))⟩
 ·obtain⟨a,r',pl,g⟩:=I.tuple c;exact call_tuple_same pl ⟨.ref p,H,I,rfl,q⟩
def tyV(K:PySem.W.Frag)(T:String)(x:V)(H:Hp):Prop:=match x with
 | .str _=>T="str"
 | .int _=>T="int"
 | .ref p=>(T="list"/\∃ xs,SqL K H p xs)\/(T="tuple"/\∃ o,K.lookup p=some o/\o.cls=.type "tuple"/\o.dict=none)\/
   (T="dict"/\((∃ kvs,H p=some (.dK kvs))\/∃ kvs,H p=some (.dT kvs)))\/(T="set"/\∃ S n,H p=some (.set S n))
 | _=>False
theorem aO{σ:St}(I:Inv X pins σ H s)(r:RelV x v)(ty:tyV X.K T x H):
  s.TypeIs v T/\∀ a,v=.ref a->∃ g,s.heap.get? a=some g/\g.dict=none:=by
 cases x with
 | str z =>
  obtain⟨t,rfl⟩:=r;cases(show T="str" from ty);exact⟨typeIs_str s z t,λ_ e=>nomatch e⟩
 | int i =>
  obtain⟨t,rfl⟩:=r;cases(show T="int" from ty);exact⟨typeIs_int s i t,λ_ e=>nomatch e⟩
 | ref p =>
  cases r;rcases ty with⟨rfl,xs,h⟩|⟨rfl,o,b,hc,hd⟩|⟨rfl,b⟩|⟨rfl,S,n,b⟩
  ·obtain⟨j,_,pl,_⟩:=I.list h;refine⟨pl.isList.typeIs,λa e=>?_⟩;cases e;obtain⟨o,n,e,c,hd,_⟩:=pl;exact⟨o,e,hd⟩
  ·refine⟨⟨o,I.kIn p o b,hc⟩,λa e=>?_⟩;cases e;exact⟨o,I.kIn _ o b,hd⟩
  ·have z:∃ o,s.heap.get? p=some o/\o.ExactDict:=by
    rcases b with⟨d,b⟩|⟨d,b⟩
    ·obtain⟨_,_,_,_,o,_,_,e,ex,_⟩:=I.hok p _ b;exact⟨o,e,ex⟩
    ·obtain⟨_,_,_,_,o,_,_,e,ex,_⟩:=I.hok p _ b;exact⟨o,e,ex⟩
   obtain⟨o,e,ex⟩:=z;refine⟨⟨o,e,ex.1⟩,λa f=>?_⟩;cases f;exact⟨o,e,ex.2.1⟩
  ·obtain⟨o,_,_,_,e,ex,_⟩:=I.hok p _ b;refine⟨⟨o,e,ex.1⟩,λa f=>?_⟩;cases f;exact⟨o,e,ex.2.1⟩
 | _=>exact Qk ty
def tBM(K:PySem.W.Frag)(T:String)(r:V->List V->Hp->VK->Prop)(to:TE)(t:TA):TE:=λσ H Q=>to σ H λx H1=>tyV K T x H1/\t σ H1 λxs H2=>r x xs H2 Q
theorem aP{apos cpos:Pos}{id:String}(pa:PlainAttrs T)(slot:Slot T name id)(f:typeOf (.builtin id)=pure (.type "method_descriptor"))(l:MtR X id r)(m:PE X o to)(p:PA X (e::es) t)(b:attributeBase o name X.env (eval o X.env)=eval o X.env:=by rfl)(c:((backTo cpos (starEach (e::es) X.env)).all (λx=>!x.1)&&(backToKw cpos (keywordEach [] X.env)).all (λx=>x.1.isSome)
   && decide ((e::es).length+([]:List Keyword).length+(if([]:List Keyword).isEmpty then 0 else 1) < 30))=true:=by rfl)(a:(apos.endLine==cpos.line)=true:=by rfl)(hs:starEach (e::es) X.env=(false,eval e X.env)::starEach es X.env:=by rfl)(hplain:(backTo cpos (starEach es X.env)).any (·.1)=false:=by rfl):
  PE X (.Call (.Attribute o name apos) (e::es) [] cpos) (tBM X.K T r to t):=by
 intro pins s σ H Q I h;refine wpAny_Call_method_late b c a rfl (thn (m pins s σ H _ I h) λv n d=>?_);obtain⟨x,H1,g,r1,ty,q1⟩:=d;obtain⟨h1,h2⟩:=aO g r1 ty;refine⟨T,id,pa,slot,f,h1,h2,?_⟩;have i:=p cpos pins n σ H1 _ g q1;rw[hs]at i ⊢;refine Calls.callWith_builtin (by show(false||(backTo cpos (starEach es X.env)).any (·.1))=false;rw[hplain] <;> rfl) (Calls.evalArgs_plain ?_);exact thn i (by rintro j k ⟨vs,H2,q,u,q2⟩;exact l pins k σ H2 x vs v j Q q r1 u q2)
end
def MtM(X:Cx)(id:String)(r:V->List V->Hp->VK->Prop):Prop :=
 ∀(pins:List (Addr×Obj))(s:Shared)(σ:St)(H:Hp)(x:V)(xs:List V)(v:Value)(us:List Value)(Q:VK),Inv X pins σ H s->RelV x v->Vals xs us->r x xs H Q->
  wpAny (model X.prog X.w) X.A (call (.builtin id) (v::us)) (EP X pins σ Q) X.xe s
theorem Vals.one:∀{x:V}{us:List Value},Vals [x] us->∃ u,us=[u]/\RelV x u
 | _,_,.cons r .nil=>⟨_,rfl,r⟩
theorem Vals.two:∀{x y:V}{us:List Value},Vals [x,y] us->∃ u v,us=[u,v]/\RelV x u/\RelV y v
 | _,_,_,.cons r (.cons q .nil)=>⟨_,_,rfl,r,q⟩
theorem Vals.zero:∀{us:List Value},Vals [] us->us=[]
 | _,.nil=>rfl
theorem Vals.eraseIdx:∀{xs:List V}{us:List Value}(i:Nat),Vals xs us->Vals (xs.eraseIdx i) (us.eraseIdx i)
 | _,_,_,.nil=>.nil
 | _,_,0,.cons _ t=>t
 | _,_,i+1,.cons r t=>.cons r (Vals.eraseIdx i t)
theorem Vals.rep(h:Vals xs us):∀ k:Nat,Vals (List.replicate k xs).flatten (List.replicate k us).flatten
 | 0=>.nil
 | k+1=>by
  rw[List.replicate_succ,List.replicate_succ,List.flatten_cons,List.flatten_cons];exact Vals.append h (Vals.rep h k)
theorem O2(a:List Value):∀(k:Nat)(b:List Value),
  List.foldl (λd f=>d++f) b.toArray (List.replicate k a.toArray)=(b++(List.replicate k a).flatten).toArray
 | 0,b=>by simp
 | k+1,b=>by
  have e:b.toArray++a.toArray=(b++a).toArray:=by simp
  have c:(b++a)++(List.replicate k a).flatten=b++(List.replicate (k+1) a).flatten:=by
   rw[List.replicate_succ,List.flatten_cons,Yv]
  rw[<- c,<- O2 a k (b++a),<- e,List.replicate_succ,List.foldl_cons]
section
variable {X:Cx}{pins:List (Addr×Obj)}{σ:St}{H:Hp}{s:Shared}{l b:Addr}{xs ys:List V} in
theorem Inv.lset{a its':List Value}{n:Nat}{f:Array Value->Array Value}{t':Nat}(I:Inv X pins σ H s)(d:H l=some (.lst xs))
  (e:s.heap.get? l=some {cls:=.type "list",data:=.seq a.toArray n}) (b:f a.toArray=its'.toArray) (c:Vals ys its') (i:ys.length<=sizeLine):
  Inv X pins σ (upd H l (.lst ys)) {s with heap:=s.heap.update l (Obj.mapSeq f),toks:=t'}:=by
 have q:=PySem.IsL.update e f;rw[b]at q;refine I.write (x:=l) (e:=l) (by rw[d];exact trivial) (.inl rfl) (λj u h g=>(Heap.get?_update_other s.heap (Obj.mapSeq f) (YY h)).trans g) ⟨_,q⟩ ?_;exact⟨i,its',_,c,q⟩
variable {X:Cx}{pins:List (Addr×Obj)}{σ:St}{H:Hp}{s:Shared}{b:Addr}{ys:List V} in
theorem Inv.lnew{a:List Value}{t':Nat}(I:Inv X pins σ H s)(b:Vals ys a)(c:ys.length<=sizeLine):
  Inv X pins σ (upd H s.heap.objs.size (.lst ys)) {s with heap:=s.heap.push {cls:=.type "list",data:=.seq a.toArray},toks:=t'}:=
 I.laid (λ_ _ q=>Qn _ q) (Yr _) ⟨c,a,0,b,Qp _ rfl⟩
theorem Inv.fresh{σ:St}(I:Inv X pins σ H s):H s.heap.objs.size=none:=I.hok.fresh (Yr _)
variable {X:Cx}{pins:List (Addr×Obj)}{σ:St}{H:Hp}{s:Shared}{l b:Addr}{xs:List V} in
theorem Inv.lstM(I:Inv X pins σ H s)(b:H l=some (.lst xs)):xs.length<=sizeLine/\∃(a:List Value)(n:Nat),Vals xs a/\xs.length=a.length/\s.heap.get? l=some {cls:=.type "list",data:=.seq a.toArray n}:=by
 obtain⟨z,a,n,r,e⟩:=I.hok l _ b;exact⟨z,a,n,r,r.length,e⟩
theorem O3(h:n<=sizeLine):Builtin.List.listTooLong n=false:=by
 unfold Builtin.List.listTooLong;exact decide_eq_false (by lia)
end
section
def aQ:V->List V->Hp->VK->Prop:=λx vs H Q=>∃ l xs y,x=.ref l/\vs=[y]/\H l=some (.lst xs)/\xs.length < sizeLine/\Q .non (upd H l (.lst (xs++[y])))
theorem aR:MtM X "list.append" aQ:=by
 intro pins s σ H x vs v g Q I d f h;obtain⟨l,xs,y,rfl,rfl,b,i,q⟩:=h;cases d;obtain⟨u,rfl,c⟩:=f.one;obtain⟨z,a,n,r,hl,e⟩:=I.lstM b;refine call_meets F.slot_list_append ⟨_,e,rfl⟩ F.entry_list_append (F.args_list_append_2 _ _) (PySem.list_append l a.toArray n u (by rw[Yn];lia)) ⟨e,?_⟩;refine⟨.non,_,I.lset (its':=a++[u]) b e (by simp) (r.append (.cons c .nil)) ?_,rfl,q⟩;rw[Yj,List.length_singleton];lia
def aS:V->List V->Hp->VK->Prop:=λx vs H Q=>∃ l b xs zs,x=.ref l/\vs=[.ref b]/\H l=some (.lst xs)/\H b=some (.lst zs)/\xs.length+zs.length<=sizeLine/\Q .non (upd H l (.lst (xs++zs)))
theorem aT:MtM X "list.extend" aS:=by
 intro pins s σ H x vs v y Q I k p h;obtain⟨l,b,xs,zs,rfl,rfl,g,o,B,q⟩:=h;cases k;obtain⟨u,rfl,i⟩:=p.one;cases i;obtain⟨z,c,n,r,hl,e⟩:=I.lstM g;obtain⟨A,a,t,w,j,m⟩:=I.lstM o;have f:c.toArray.size+a.toArray.size<=sizeLine:=by rw[Yn,Yn];lia
 have d:¬ (!c.toArray.isEmpty&&Builtin.List.listTooLong (c.toArray.size+a.toArray.size))=true:=by
  rw[O3 f,Bool.and_false];exact YW
 refine call_meets F.slot_list_extend ⟨_,e,rfl⟩ F.entry_list_extend (F.args_list_extend_2 _ _)
  (AutoSeq1.list_extend_list_list_0 l c.toArray n b a.toArray t d (by rw[Yn];lia) (by lia)) ⟨e,m,?_⟩
 refine⟨.non,_,I.lset (its':=c++a) g e (by simp) (r.append w) ?_,rfl,q⟩;rw[Yj];lia
def Gk:R2:=λx y H Q=>∃ l b xs zs,x=.ref l/\y=.ref b/\H l=some (.lst xs)/\H b=some (.lst zs)/\xs.length+zs.length<=sizeLine/\∀ p,H p=none->Q (.ref p) (upd H p (.lst (xs++zs)))
theorem aU:OpR X (binaryOp .Add) Gk:=by
 intro pins s σ H x y v u Q I g k h;obtain⟨l,b,xs,zs,rfl,rfl,m,f,w,q⟩:=h;cases g;cases k;obtain⟨z,c,n,r,hl,e⟩:=I.lstM m;obtain⟨p,a,t,o,d,i⟩:=I.lstM f;refine PySem.P.add_list e i ?_ (by rw[Yn,Yn];lia);have j:c.toArray++a.toArray=(c++a).toArray:=by simp
 rw[j];exact⟨.ref _,_,I.lnew (t':=s.toks) (r.append o) (by rw[Yj];lia),rfl,q _ I.fresh⟩
def O4:R2:=λx y H Q=>∃ l k xs,x=.ref l/\y=.int k/\H l=some (.lst xs)/\-(2 ^ 63)<=k/\k < 2 ^ 63/\xs.length*k.toNat<=sizeLine/\
 ∀ p,H p=none->Q (.ref p) (upd H p (.lst (List.replicate k.toNat xs).flatten))
theorem aV{α:Type}(xs:List α)(k:Nat):(List.replicate k xs).flatten.length=k*xs.length:=by
 induction k with
 | zero=>simp
 | succ k a=>rw[List.replicate_succ,List.flatten_cons,Yj,a,Nat.succ_mul,Nat.add_comm]
theorem aW:OpR X (binaryOp .Mult) O4:=by
 intro pins s σ H x y v u Q I w A h;obtain⟨l,k,xs,rfl,rfl,D,h1,h2,p,q⟩:=h;cases w;obtain⟨t,rfl⟩:=A;obtain⟨z,b,n,r,hl,e⟩:=I.lstM D;have i:b.toArray.size*k.toNat<=sizeLine:=by rw[Yn,<- hl];exact p
 have f:¬ b.toArray.size*k.toNat >(2 ^ 63 - 1) / 8:=by
  have:(sizeLine:Nat)<=(2 ^ 63 - 1) / 8:=by decide
  lia
 have d:¬ (!Builtin.List.listFitsIndex k)=true:=by
  rw[fitsIndex_both h1 h2];exact YW
 have c:¬ Builtin.List.listTooLong (b.toArray.size*k.toNat)=true:=by
  rw[O3 i];exact YW
 have g:List.foldl (λj o=>j++o) #[] (List.replicate (if b.toArray.isEmpty=true then 0 else k.toNat) b.toArray)=(List.replicate k.toNat b).flatten.toArray:=by
  have B:∀ m:Nat,List.foldl (λj o=>j++o) #[] (List.replicate m b.toArray)=(List.replicate m b).flatten.toArray:=λm=>by
   have:=O2 b m [];rw[Yw]at this;exact this
  rw[B];cases b with
  | nil=>simp
  | cons a r'=>rw[if_neg (by simp)]
 refine wpAny_binaryOp_repeat_ref (T:="list") (U:="int") (by decide) ⟨_,e,rfl⟩ (λs'=>typeIs_int s' k t) noFill_list_mul F.fills_int_mul F.slot_int_rmul repeat_list F.slot_int_index.lookup
  (call_meets F.slot_int_rmul (typeIs_int s k t) F.entry_int_rmul (F.args_int_rmul_2 _ _) (int___rmul___int_list k t l b.toArray n)
   ⟨e,rfl,⟨_,e,rfl⟩,call_meets F.slot_list_mul ⟨_,e,rfl⟩ F.entry_list_mul (F.args_list_mul_2 _ _) (AutoListH.list___mul___list_int_3 l b.toArray n k t d f c) ⟨e,?_⟩⟩)
 rw[g];exact⟨.ref _,_,I.lnew (t':=s.toks) (r.rep k.toNat) (by rw[aV,Nat.mul_comm];exact p),rfl,q _ I.fresh⟩
end
section
end
section
end
end L2
namespace Att
open PySem PySem.W PySem.Calls PyProof.Rows
theorem aX:∀(ns:List Int)(vs:List Value),WellAll P h vs (ns.map WData.int)->IntsAre vs ns:=by
 intro ns;induction ns with
 | nil =>
  intro vs w;rw[YI]at w;cases w;exact .nil
 | cons n ns c =>
  intro vs w;rw[Ym]at w;cases w with
  | cons a b =>
   cases a;exact .cons _ _ (c _ b)
theorem aY{l:OpenLaw}(m:l.most=some n)(b:l.row.toRowW.claim.pre args=true)(j:WellAll P h c args):
  ∃ a vs ns,c=[Value.ref a]/\args=[WData.list (ns.map WData.int)]/\h.get? a=some {cls:=.type "list",data:=.seq vs.toArray}/\IntsAre vs ns/\ns.length<=n:=by
 have k:WShape.hasAll [] args [.list .int]=true:=(pre_splitW b).1;have hc:l.pre.holds [] {args:=args}=true:=(pre_splitW b).2;obtain⟨d,r,rfl,h1,h2⟩:=hasAllW_cons k;obtain rfl:=hasAllW_nil h2;obtain⟨xs,rfl,o⟩:=hasW_list h1;obtain⟨ns,rfl⟩:=items_int o
 have e:ns.length<=n:=by
  unfold OpenLaw.pre at hc
  have i:(WTm.not (.lt (.lit (.int (n:Int))) (.len (.arg 0)))).holds [] {args:=[.list (ns.map .int)]}=true:=by
   have i:=(holds_andW hc).1;rw[m]at i;exact i
  have g:=condW_of i (w_not (w_lt w_lit (w_len_list (w_arg rfl))));rw[Yh]at g;refine Nat.le_of_not_lt λq=>?_;have t:(n:Int) <((ns.length:Nat):Int):=by lia
  first
   |(rw[YH t]at g;exact absurd g (by decide))
   |(simp at g;lia)
 cases j with
 | cons u s =>
  cases s;cases u with
  | list p f=>exact⟨_,_,ns,rfl,rfl,p,aX ns _ f,e⟩
theorem aZ(l:OpenLaw)(args:List WData):l.row.toRowW.claim.post args (.bool true) args=true :=
 postW_of (r:=l.row.toRowW) (X:=(true==true))
  (show WShape.has [] (.bool true) .bool=true by first | rfl | decide | simp[WShape.has,WShape.arms,WShape.armsAll])
  (show(WTm.eq .res (.lit (.bool true))).value [] {args:=args,res:=some (.bool true),after:=args}=some (.bool (true==true))from w_eq_bool (w_res rfl) w_lit) rfl
theorem attach_call{l:OpenLaw}(E:l.most=some n)(p:d.params.defaults=[])(call:∀(w:World)(s₀ b:Shared)(mg mb:Str->Option Value)(h:Addr)(o:Obj)(pm cd c:Value)(a:Addr)(vs:List Value)(ns:List Int),
   Ground q loose [] XP w s₀ mg mb b.heap->YP w b.heap->
   b.heap.get? h=some o->o.data=.func (docDef d.name d.params d.body d.scope pm cd c)->b.heap.CodeRec cd d.name->mg d.name=some (.ref h)->
   b.heap.get? a=some {cls:=.type "list",data:=.seq vs.toArray}->IntsAre vs ns->ns.length<=n->b.gens=#[]->
   codeAny (model l.prog w) callerA (.call (.ref h) ⟨[.ref a],[]⟩) (λr s'=>r=.ok (.ret (.bool true))/\OldK b.heap s'.heap/\s'.os=b.os/\AllBare s'.gens) b):
  WalkO q loose XP YP l.row.toRowW d [] (λf vs=>PySem.call f vs):=by
 intro w s₀ b mg mb G Y h o pm cd c B kV J hd s v k A u x K i t y m H;obtain rfl:B=.none:=Dflts.none v p;obtain rfl:kV=.none:=Dflts.noKw v;obtain⟨a,vs,ns,rfl,rfl,g,e,j⟩:=aY E i m;refine enter_call (codeAny_mono (call w s₀ b mg mb h o pm cd c a vs ns G Y J (fd_plain hd) s k g e j A) λr s' D=>?_);obtain⟨rfl,h2,I,z⟩:=D;exact⟨.inl ⟨.bool true,.bool true,[],rfl,λ_=>rfl,.bool true,aZ l _,λ_=>⟨List.Pairwise.nil,λ_ F=>(nomatch F)⟩⟩,h2,I,z⟩
section
end
end Att
namespace L2
open PySem PySem.Spec PyProof.Rows
theorem O5:∀{vs:List Value}{ns:List Int},IntsAre vs ns->Vals (ns.map V.int) vs
 | _,_,.nil=>.nil
 | _,_,.cons n t h=>.cons ⟨t,rfl⟩ (O5 h)
def HB(H:Hp):Prop:=∀ b,H b=none\/∃ o xs,H b=some (.frz o (.lst xs))
theorem a6{K:PySem.W.Frag}(KX:K.In c.heap)(t:c.heap.Ns mainGlobals mg)(f:c.heap.Ns builtinsNs mb)(J:∀ x:Str,x≠"__name__"->mb x=bootBuiltins x)(D:c.heap.NoLimit)(Z:c.gens=#[])(E:c.heap.get? a=some {cls:=.type "list",data:=.seq vs.toArray})(hi:IntsAre vs ns)(hl:ns.length<=sizeLine)(hr:Room k callerA)(F:∀ base:Heap,K.In base->base.Ns mainGlobals mg->FnOk P w K mg base CX k O fd [x] sp)(j:∀(s:Shared)(u:Value),BindsTo s fd ⟨[u],[]⟩ [(x,u)])(G:∀ H:Hp,HB H->SqL K H a (ns.map V.int)->sp [.ref a] H (λv _=>v=.bl true) λ_ _ _=>False)(I:∀ H e s',CX [] H c (λ_ _ _=>False) e s'->False):
  codeAny (model P w) callerA (.call (.ref O) ⟨[.ref a],[]⟩) (λr s'=>r=.ok (.ret (.bool true))/\OldK c.heap s'.heap/\s'.os=c.os/\AllBare s'.gens) c:=by
 have T:=O5 hi;have y:=hi.length
 have i:∀ H:Hp,HB H->SqL K H a (ns.map V.int)->HOk P w H c.heap->(∀ b,H b≠none->b=a)->(H a≠none->K.lookup a=none)->
   codeAny (model P w) callerA (.call (.ref O) ⟨[.ref a],[]⟩) (λr s'=>r=.ok (.ret (.bool true))/\OldK c.heap s'.heap/\s'.os=c.os/\AllBare s'.gens) c:=by
  intro H U hS hok S hK;have base_of:∀{b:Addr}{o:Obj},c.heap.get? b=some o->H b=none->(Ds c.heap H).get? b=some o:=λe n=>X9 e n
  have Q:∀{b:Addr}{o:Obj}{es:Array DictEntry}{A:Nat},c.heap.get? b=some o->o.data=.dict es A->H b=none:=λ{b o es A}e d=>by
   cases q:H b with
   | none=>rfl
   | some u =>
    have L:b=a:=S b (by rw[q];simp);subst L;rw[E]at e;cases e;have d':Data.seq vs.toArray _=Data.dict es A:=d;cases d'
  have g:∀{b:Addr}{m:Str->Option Value},c.heap.Ns b m->(Ds c.heap H).Ns b m:=λ{b m}⟨o,es,A,e,d,r⟩=>⟨o,es,A,base_of e (Q e d),d,r⟩
  have p:K.In (Ds c.heap H):=λb o e=>base_of (KX b o e) (by
   cases q:H b with
   | none=>rfl
   | some u =>
    have L:b=a:=S b (by rw[q];simp);subst L;rw[hK (by rw[q];simp)]at e;cases e)
  have X:Mod K mg (Ds c.heap H):=⟨p,g t,⟨mb,g f,J⟩,let⟨mc,h1,h2⟩:=D;⟨mc,g h1,h2⟩⟩;have e0:Env0 P w K mg (Ds c.heap H) callerA [] c H:=⟨rfl,X,λb o e=>Y0 e,Nat.le_of_eq (X8 _ _),trivial,λb f=>absurd (show b∈([]:List Addr)from f) (by simp),hok,.of_eq Z⟩;refine codeAny_mono ((F _ p (g t)).run callerA [] c H ⟨[.ref a],[]⟩ [.ref a] [.ref a] _ _ hr e0 (j c (.ref a)) (.cons rfl .nil) (G H U hS)) λr s' h=>?_;cases r with
  | error e=>exact(I H e s' h).elim
  | ok fl =>
   cases fl with
   | next=>exact Qk h
   | brk=>exact Qk h
   | cont=>exact Qk h
   | ret u =>
    obtain⟨v,H',os,bare,un,l,r',q⟩:=h;have Y:v=.bl true:=q;subst Y;obtain rfl:u=Value.bool true:=r';refine⟨rfl,OldK.of_keep λb o e=>?_,os,bare⟩;cases q:H b with
    | none=>exact un.keep b o e q (by intro z;exact absurd (show b∈([]:List Addr)from z) (by simp)) (by simp)
    | some u =>
     rcases U b with z |⟨ob,xs,z⟩
     ·rw[q]at z;cases z
     ·have z2:=un.frzs b ob _ z;obtain⟨R,_⟩:=hok b _ z;obtain⟨e2,_⟩:=l b _ z2;rw[e]at R;cases R;exact e2
 cases N:K.lookup a with
 | some o =>
  have e:=KX a o N;rw[E]at e;cases e;refine i (λ_=>none) (λ_=>.inl rfl) (.inr ⟨_,vs.toArray,_,N,rfl,rfl,rfl,by rw[Yn,y];exact hl,by simpa using T⟩) (λb u z=>by have B:(none:Option HO)=some u:=z;cases B) (λb z=>absurd rfl z) λz=>absurd rfl z
 | none =>
  refine i (λb=>if b=a then some (.frz {cls:=.type "list",data:=.seq vs.toArray} (.lst (ns.map V.int)))else none) (λb=>?_) (.inl (.inr ⟨{cls:=.type "list",data:=.seq vs.toArray},if_pos rfl⟩)) (λb u z=>?_) (λb z=>?_) λ_=>N
  ·by_cases f:b=a
   ·exact .inr ⟨_,_,if_pos f⟩
   ·exact .inl (if_neg f)
  ·by_cases f:b=a
   ·have B:=(if_pos f).symm.trans z;cases B;subst f;exact⟨E,by rw[Yh];exact hl,vs,_,T,E⟩
   ·have B:=(if_neg f).symm.trans z;cases B
  ·by_cases f:b=a
   ·exact f
   ·exact absurd (if_neg f) z
abbrev KOf{K:PySem.W.Frag}{h:Heap}(_:K.In h):PySem.W.Frag:=K
theorem a7{l:PySem.W.OpenLaw}{K:Params->PySem.W.Frag}{CX:World->CXT}{sp:World->Sp}(I:l.most=some n)(A:n<=sizeLine)(z:d.params.defaults=[])(J:Room k callerA)(N:∀(w:World)(h:Heap),YP w h->(K w.params).In h)(F:∀(w:World)(mg:Str->Option Value)(p:Addr)(h:Heap),(K w.params).In h->h.Ns mainGlobals mg->mg d.name=some (.ref p)->
   ∃ fd:FuncData,(∀(s:Shared)(u:Value),BindsTo s fd ⟨[u],[]⟩ [(x,u)])/\
    ∀ base:Heap,(K w.params).In base->base.Ns mainGlobals mg->FnOk l.prog w (K w.params) mg base (CX w) k p fd [x] (sp w))(r:∀(w:World)(H:Hp)(a:Addr)(ns:List Int),ns.length<=n->HB H->SqL (K w.params) H a (ns.map V.int)->sp w [.ref a] H (λv _=>v=.bl true) λ_ _ _=>False)(y:∀(w:World)(H:Hp)(s:Shared)(e:Value)(s':Shared),CX w [] H s (λ_ _ _=>False) e s'->False):
  PySem.W.WalkO q loose XP YP l.row.toRowW d [] (λf vs=>PySem.call f vs):=by
 refine Att.attach_call I z λw s₀ j mg mb p o pm cd B a vs ns G Y R hd O t m i c D=>?_;have KX:=N w _ Y;obtain⟨fd,Q,L⟩:=F w mg p _ KX G.T.g t;exact a6 KX G.T.g G.T.b G.T.builtins G.T.nolimit D m i (Yt c A) J L Q (λH P E=>r w H a ns c P E) λH e s'=>y w H j e s'
abbrev CX0:CXT:=λ_ _ _ _ _ _=>False
abbrev E0:XK:=λ_ _ _=>False
structure Fun(K:PySem.W.Frag)(x qual:Str)(st:Stmt)(f:Addr)(fd:FuncData):Prop where
 ex:∃(oc:Value)(od:Option Addr)(kV doc pm:Value)(an:Option Addr)(cdv ct:Value)(osl:Array (Option Value)),
  fd=PySem.W.fnOf x qual (D1 st) (Bv st) (Ap st) .none kV doc pm an cdv ct/\K.lookup f=some ⟨oc,od,.func fd,osl⟩/\PySem.W.codeIn K cdv qual=true
 kp:PySem.W.keepIn K (.ref f)=true
section
theorem Fun.ok{K:PySem.W.Frag}{st:Stmt}(F:Fun K x qual st f fd)(S:AB N ps (Ap st))(len:∀ vs H Q E,sp vs H Q E->vs.length=ps.length)(a:∀(cdv:Value)(A:Around)(outer:List Env)(s:Shared)(H:Hp)(vs:List V)(Q:VK)(E:XK),Room k (A.deeper (envOfC qual (Ap st) s.heap.objs.size f cdv))->sp vs H Q E->
   ∃ t,PSs (Bl CX0 P w K mg base N qual (Ap st) f cdv A outer s H E).nox (Bv st) t/\t {nx:=λ_ H'=>Q .non H',rt:=Q} (B8 N vs) H):FnOk P w K mg base CX0 (k+1) f fd ps sp:=by
 obtain⟨i,j,kV,g,pm,l,cdv,ct,e,rfl,lk,c⟩:=F.ex;refine Gi lk c S len λA outer s H vs Q E d b=>?_;obtain⟨t,h,q⟩:=a cdv A outer s H vs Q E d b;exact⟨t,h.nox,q⟩
theorem Fun.binds{K:PySem.W.Frag}{st:Stmt}(F:Fun K x qual st f fd)(h:∀(kV a pm:Value)(b:Option Addr)(cdv ct:Value)(us:List Value),us.length=ps.length->bindArgs (PySem.W.fnOf x qual (D1 st) (Bv st) (Ap st) .none kV a pm b cdv ct) ⟨us,[]⟩=pure (ps.zip us)):Binds K fd ps []:=by
 obtain⟨e,g,kV,a,pm,b,cdv,ct,d,rfl,lk,c⟩:=F.ex;exact .all (h kV a pm b cdv ct)
theorem O6{K:PySem.W.Frag}{st:Stmt}{kV:Value}(l:K.lookup f=some ⟨e,g,.func (PySem.W.fnOf x qual (D1 st) (Bv st) (Ap st) .none kV a pm d cdv ct),b⟩)(c:PySem.W.codeIn K cdv qual=true)(k:PySem.W.keepIn K (.ref f)=true):Fun K x qual st f (PySem.W.fnOf x qual (D1 st) (Bv st) (Ap st) .none kV a pm d cdv ct):=⟨⟨e,g,kV,a,pm,d,cdv,ct,b,rfl,l,c⟩,k⟩
end
section
theorem pv{X:Cx}(i:Nat){pos:Pos}(b:X.N[i]?=some x:=by rfl)(c:Vis X.env.scope x:=by first | exact Or.inl rfl | exact Or.inr (Or.inl rfl)| exact Or.inr (Or.inr rfl))(hd:(x==("__debug__":Str))=false:=by decide)(a:(x==("__classdict__":Str))=false:=by decide):PE X (.Name x pos) (Oy i):=Oz b c hd a
end
theorem B1{c A B:Prop}[Decidable c](h1:c->A)(h2:¬ c->B):if c then A else B:=by
 by_cases h:c
 ·rw[if_pos h];exact h1 h
 ·rw[if_neg h];exact h2 h
def Same(H H':Hp):Prop:=∀ b o,H b=some o->H' b=some o
theorem Same.refl(H:Hp):Same H H:=λ_ _ h=>h
theorem Same.trans(a:Same H H1)(b:Same H1 H2):Same H H2:=λc o h=>b c o (a c o h)
theorem Same.free(e:Same H H')(h:H' l=Option.none):H l=Option.none:=by
 cases q:H l with
 | none=>rfl
 | some o =>
  rw[e l o q]at h;cases h
theorem Same.seq{K:PySem.W.Frag}(e:Same H H')(h:SqL K H a xs):SqL K H' a xs:=by
 rcases h with(h |⟨o,h⟩)| h
 ·exact .inl (.inl (e _ _ h))
 ·exact .inl (.inr ⟨o,e _ _ h⟩)
 ·exact .inr h
end L2
namespace L3
open PySem PySem.Spec PyProof.Rows L2
namespace Tb
def hop(M:Nat):Nat->Nat->Nat
 | 0,i=>i
 | n+1,i=>hop M n ((i*5+1) % M)
def cover(M:Nat):Bool:=(List.range M).all λi=>(List.range M).all λj=>(List.range M).any λn=>hop M n i==j
theorem cover8:cover 8=true:=by decide +kernel
theorem cover16:cover 16=true:=by decide +kernel
theorem cover32:cover 32=true:=by decide +kernel
theorem cover64:cover 64=true:=by decide +kernel
theorem HC(M:Nat):∀ m n i,hop M (m+n) i=hop M n (hop M m i)
 | 0,n,i=>by rw[Nat.zero_add];rfl
 | m+1,n,i=>by
  rw[Nat.add_right_comm];show hop M (m+n) ((i*5+1) % M)=_;rw[HC M m n];rfl
theorem a8(d:((List.range M).all λj=>(List.range M).any λn=>hop M n 0==j)=true)(f:hop M M 0=0):cover M=true:=by
 have key:∀ j,j < M->∃ n,n < M/\hop M n 0=j:=λj a=>by
  obtain⟨n,b,e⟩:=List.any_eq_true.mp (List.all_eq_true.mp d j (List.mem_range.mpr a));exact⟨n,List.mem_range.mp b,by simpa using e⟩
 refine List.all_eq_true.mpr λi hi=>List.all_eq_true.mpr λj a=>List.any_eq_true.mpr ?_;obtain⟨m,g,c⟩:=key i (List.mem_range.mp hi);obtain⟨n,b,en⟩:=key j (List.mem_range.mp a);by_cases h:m<=n
 ·refine⟨n - m,List.mem_range.mpr (by lia),?_⟩;have z:=HC M m (n - m) 0;rw[c,show m+(n - m)=n by lia,en]at z;rw[<- z];simp
 ·refine⟨n+M - m,List.mem_range.mpr (by lia),?_⟩;have z:=HC M m (n+M - m) 0;rw[c,show m+(n+M - m)=M+n by lia,HC M M n 0,f,en]at z;rw[<- z];simp
theorem cover128:cover 128=true:=a8 (by decide +kernel) (by decide +kernel)
theorem a9(h:cover M=true)(hi:i < M)(b:j < M):∃ n,n < M/\hop M n i=j:=by
 unfold cover at h;have h1:=List.all_eq_true.mp h i (List.mem_range.mpr hi);have h2:=List.all_eq_true.mp h1 j (List.mem_range.mpr b);obtain⟨n,a,e⟩:=List.any_eq_true.mp h2;exact⟨n,List.mem_range.mp a,by simpa using e⟩
theorem O7(h:SetTable.layClean.free mask owner (a+1) i p=none):
  (owner.getD i (some 0)).isSome=true/\SetTable.layClean.free mask owner a ((i*5+1+p / 32) % (mask+1)) (p / 32)=none:=by
 unfold SetTable.layClean.free at h;have e:0 < SetTable.runEnd mask i+1 - i:=by unfold SetTable.runEnd;split <;> lia
 cases c:(List.range (SetTable.runEnd mask i+1 - i)).find? λk=>(owner.getD (i+k) (some 0)).isNone with
 | some k=>rw[c]at h;cases h
 | none =>
  rw[c]at h;refine⟨?_,h⟩;have d:=List.find?_eq_none.mp c 0 (List.mem_range.mpr e);rw[Nat.add_zero]at d;cases f:owner.getD i (some 0)with
  | some b=>rfl
  | none=>rw[f]at d;exact absurd rfl d
theorem O8:∀(n a i:Nat),SetTable.layClean.free mask owner (n+a) i 0=none->∀ m,m < n->(owner.getD (hop (mask+1) m i) (some 0)).isSome=true
 | 0,a,i,h,m,b=>by lia
 | n+1,a,i,h,m,b=>by
  rw[show n+1+a=(n+a)+1 by lia]at h;obtain⟨h1,h2⟩:=O7 h;simp only[Nat.zero_div,Nat.add_zero]at h2;cases m with
  | zero=>exact h1
  | succ m=>exact O8 n a _ h2 m (by lia)
theorem O9:∀(n a i p:Nat),SetTable.layClean.free mask owner (n+a) i p=none->i < mask+1->∃ b,b < mask+1/\SetTable.layClean.free mask owner a b (p / 32 ^ n)=none
 | 0,a,i,p,h,hi=>⟨i,hi,by rw[Nat.zero_add]at h;simpa using h⟩
 | n+1,a,i,p,h,hi=>by
  rw[show n+1+a=(n+a)+1 by lia]at h;obtain⟨_,h2⟩:=O7 h;obtain⟨b,c,d⟩:=O9 n a _ _ h2 (Nat.mod_lt _ (by lia));refine⟨b,c,?_⟩;rw[Nat.div_div_eq_div_mul,show 32*32 ^ n=32 ^ (n+1) by rw[Nat.pow_succ,Nat.mul_comm]]at d;exact d
theorem ba(hc:cover (mask+1)=true)(hi:i < mask+1)(d:p < 2 ^ 64)(f:∃ j,j < mask+1/\owner.getD j (some 0)=none):(SetTable.layClean.free mask owner (SetTable.turns mask) i p).isSome=true:=by
 cases h:SetTable.layClean.free mask owner (SetTable.turns mask) i p with
 | some j=>rfl
 | none =>
  exfalso;rw[show SetTable.turns mask=13+((mask+1)+1) by unfold SetTable.turns;lia]at h;obtain⟨k,a,h2⟩:=O9 13 _ i p h hi;rw[Nat.div_eq_of_lt (Yu d (by decide))]at h2;have c:=O8 (mask+1) 1 k h2;obtain⟨j,g,e⟩:=f;obtain⟨n,b,en⟩:=a9 hc a g;have:=c n b;rw[en,e]at this;cases this
theorem Pa(hs:owner.size=mask+1):∀(a i p j:Nat),SetTable.layClean.free mask owner a i p=some j->i < mask+1->j < mask+1/\owner.getD j (some 0)=none
 | 0,i,p,j,h,hi=>by unfold SetTable.layClean.free at h;cases h
 | a+1,i,p,j,h,hi=>by
  unfold SetTable.layClean.free at h;cases b:(List.range (SetTable.runEnd mask i+1 - i)).find? λk=>(owner.getD (i+k) (some 0)).isNone with
  | none =>
   rw[b]at h;exact Pa hs a _ _ j h (Nat.mod_lt _ (by lia))
  | some k =>
   rw[b]at h;cases h;have h1:=List.find?_some b;have h2:owner.getD (i+k) (some 0)=none:=by simpa using h1
   refine⟨?_,h2⟩;refine Nat.lt_of_not_le λc=>?_;rw[Array.getD_eq_getD_getElem?,Array.getElem?_eq_none (by lia)]at h2;cases h2
theorem KW{α:Type}(x:α):∀{l:List (Option α)}{j:Nat},l[j]?=some none->((l.set j (some x)).filterMap id).Perm (x::l.filterMap id)
 | [],j,h=>by simp at h
 | a::l,0,h=>by
  simp only[Yb,Option.some.injEq]at h;subst h;exact List.Perm.refl _
 | a::l,j+1,h=>by
  simp only[Yc]at h;rw[Yl];cases a with
  | none=>exact KW x h
  | some b =>
   show(b::(l.set j (some x)).filterMap id).Perm (x::b::l.filterMap id);exact((KW x h).cons b).trans (List.Perm.swap x b _)
theorem Pc:∀{l:List (Option Nat)},(l.filterMap id).length < l.length->∃ j,j < l.length/\l[j]?=some none
 | [],h=>by simp at h
 | none::l,h=>⟨0,by simp,rfl⟩
 | some a::l,h=>by
  have h':(l.filterMap id).length+1 < l.length+1:=h;obtain⟨j,b,e⟩:=Pc (l:=l) (by lia);exact⟨j+1,by simp;lia,by simpa using e⟩
structure Lay(M k:Nat)(owner:Array (Option Nat)):Prop where
 sz:owner.size=M
 pm:(owner.toList.filterMap id).Perm (List.range k)
theorem bb(hc:cover (mask+1)=true)(L:Lay (mask+1) k owner)(m:k < mask+1)(h:Int):
  ∃ j,SetTable.layClean.free mask owner (SetTable.turns mask) (SetTable.bits h % (mask+1)) (SetTable.bits h)=some j/\Lay (mask+1) (k+1) (owner.setIfInBounds j (some k)):=by
 have n:SetTable.bits h < 2 ^ 64:=by
  unfold SetTable.bits;have:=Int.emod_lt_of_pos h (show(0:Int) < 2 ^ 64 by decide);have:=Int.emod_nonneg h (show(2 ^ 64:Int)≠0 by decide);lia
 have hl:(owner.toList.filterMap id).length=k:=by rw[L.pm.length_eq,List.length_range]
 obtain⟨j,d,e⟩:=Pc (l:=owner.toList) (by rw[hl,YV,L.sz];exact m);have b:j < mask+1:=by rw[YV,L.sz]at d;exact d
 have hi:SetTable.bits h % (mask+1) < mask+1:=Nat.mod_lt _ (by lia)
 have hs:=ba (owner:=owner) (i:=SetTable.bits h % (mask+1)) hc hi n ⟨j,b,by
  rw[Array.getD_eq_getD_getElem?];rw[YQ]at e;rw[e];rfl⟩
 obtain⟨a,c⟩:=Option.isSome_iff_exists.mp hs;obtain⟨h1,h2⟩:=Pa L.sz _ _ _ _ c hi;refine⟨a,c,⟨by rw[Array.size_setIfInBounds];exact L.sz,?_⟩⟩
 have f:owner.toList[a]?=some none:=by
  rw[YQ];rw[Array.getD_eq_getD_getElem?]at h2;have g:a < owner.size:=by rw[L.sz];exact h1
  rw[YZ g]at h2 ⊢;exact congrArg some h2
 rw[Array.toList_setIfInBounds];refine(KW k f).trans ?_;rw[List.range_succ];exact((L.pm.cons k).trans (List.perm_append_singleton k _).symm)
theorem Pd(hc:cover (mask+1)=true):∀(hs:List Int)(k:Nat)(owner:Array (Option Nat)),Lay (mask+1) k owner->k+hs.length<=mask+1->
  ∃ o',(hs.foldl (λ(b:Option (Array (Option Nat)×Nat))h=>do
   let(owner,k) <- b
   let j <- SetTable.layClean.free mask owner (SetTable.turns mask) (SetTable.bits h % (mask+1)) (SetTable.bits h)
   pure (owner.setIfInBounds j (some k),k+1)) (some (owner,k)))=some (o',k+hs.length)/\Lay (mask+1) (k+hs.length) o'
 | [],k,owner,L,_=>⟨owner,rfl,L⟩
 | h::hs,k,owner,L,f=>by
  simp only[Yg]at f;obtain⟨j,e,c⟩:=bb hc L (by lia) h;obtain⟨o',d,a⟩:=Pd hc hs (k+1) _ c (by lia);refine⟨o',?_,by rw[Yg,show k+(hs.length+1)=k+1+hs.length by lia];exact a⟩;rw[List.foldl_cons];show hs.foldl _ (some (owner,k) >>=λx=>_)=_;rw[Option.bind_eq_bind,Option.bind_some];dsimp only;rw[e];rw[Option.bind_eq_bind,Option.bind_some];rw[Yg,show k+(hs.length+1)=k+1+hs.length by lia];exact d
theorem bc(M:Nat):Lay M 0 (Array.replicate M none):=⟨by simp,by simp⟩
theorem bd(hc:cover (mask+1)=true)(hs:Array Int)(a:hs.size<=mask+1):∃ o',SetTable.layClean mask hs=some o'/\Lay (mask+1) hs.size o':=by
 obtain⟨o',e,L⟩:=Pd hc hs.toList 0 _ (bc (mask+1)) (by simpa using a);refine⟨o',?_,by simpa using L⟩;unfold SetTable.layClean;rw[<- Array.foldl_toList];rw[e];rfl
theorem Pe{owner:Array (Option Nat)}(h:owner.size=M):(((List.range M).filterMap λj=>(owner.getD j none).map (j,·)).map (·.2))=owner.toList.filterMap id:=by
 have e:owner.toList=(List.range M).map λj=>owner.getD j none:=by
  apply List.ext_getElem?;intro i;rw[YR,YQ];by_cases hi:i < M
  ·have h2:i < owner.size:=by lia
   rw[List.getElem?_range hi,YZ h2,YD,Array.getD_eq_getD_getElem?,YZ h2];rfl
  ·rw[Array.getElem?_eq_none (by lia),Qh (by simp;lia)];rfl
 rw[e,List.filterMap_map,List.map_filterMap];congr 1;funext j;show Option.map (·.2) (Option.map (j,·) (owner.getD j none))=owner.getD j none;cases owner.getD j none <;> rfl
theorem be{owner:Array (Option Nat)}(h:owner.size=M):((List.range M).filterMap λj=>(owner.getD j none).map (j,·)).length=(owner.toList.filterMap id).length:=by
 rw[<- Pe h,Yh]
theorem laid_ok(hc:cover (mask+1)=true)(f m:Nat)(l p:Bool)(hs:Array Int)(b:hs.size<=mask+1):
  ∃ t a,SetTable.laid mask f m l p hs=some (t,a)/\a.toList.Perm (List.range hs.size)/\t.mask=mask/\t.place.size=hs.size/\t.dummies=#[]/\t.led=l/\t.plain=p:=by
 obtain⟨o',e,L⟩:=bd hc hs b;unfold SetTable.laid;rw[e];refine⟨_,_,rfl,?_,rfl,?_,rfl,rfl,rfl⟩
 ·rw[List.toList_toArray,Pe L.sz];exact L.pm
 ·rw[Yn,Yh,be L.sz,L.pm.length_eq,List.length_range]
theorem order_perm{α:Type}(es:Array α)(b:Array Nat)(h:b.toList.Perm (List.range es.size)):(b.filterMap (es[·]?)).toList.Perm es.toList:=by
 rw[Array.toList_filterMap];refine(h.filterMap _).trans ?_;rw[show(List.range es.size).filterMap (λx=>es[x]?)=es.toList from ?_]
 have:∀(l:List α),(List.range l.length).filterMap (λx=>l[x]?)=l:=λl=>by
  induction l with
  | nil=>rfl
  | cons a l c =>
   rw[Yg,List.range_succ_eq_map,List.filterMap_cons];simp only[Yb,List.filterMap_map];congr 1
 have h2:=this es.toList;rw[YV]at h2;simpa only[YQ]using h2
end Tb
def bt(w:World):Bool:=w.params.followText "set-order"
structure Tab(w:World)(es:Array (Int×Value))(t:SetTable)(ks:List Str):Prop where
 el:∀ e∈es.toList,∃ x u,e=(hashStr w x,Value.str x u)
 pm:(es.toList.map λe=>strOf e.2).Perm ks
 nd:ks.Nodup
 ft:t.fits es.size=true
 ld:bt w=false->t.led=true
 pl:t.plain=true->ks=[]
def SS(w:World)(h:Heap)(a:Addr)(ks:List Str):Prop:=∃ o es ep t,h.get? a=some o/\o.ExactSet/\o.data=.set es ep t/\Tab w es t ks
namespace Tab
theorem len(T:Tab w es t ks):es.size=ks.length:=by
 have:=T.pm.length_eq;rw[Yh,YV]at this;exact this
theorem elems(prog:Program)(T:Tab w es t ks):ElemsOf (strKind prog w) es.toList:=λe a=>by
 obtain⟨x,u,rfl⟩:=T.el e a;exact⟨⟨x,by show Value.isStrOf x (.str x u)=true;simp[Value.isStrOf],rfl⟩,rfl⟩
theorem perm(T:Tab w es t ks)(p:es'.toList.Perm es.toList)(f:t'.fits es'.size=true)(l:bt w=false->t'.led=true)(q:t'.plain=true->ks=[]):Tab w es' t' ks :=
 ⟨λe a=>T.el e (p.mem_iff.mp a),(p.map _).trans T.pm,T.nd,f,l,q⟩
theorem mem(T:Tab w es t ks)(k:Str):k∈ks↔∃ e∈es.toList,Value.isStrOf k e.2=true:=by
 rw[<- T.pm.mem_iff,YC];constructor
 ·rintro⟨e,a,rfl⟩;obtain⟨x,u,rfl⟩:=T.el e a;exact⟨_,a,by show Value.isStrOf x (.str x u)=true;simp[Value.isStrOf]⟩
 ·rintro⟨e,a,h⟩;obtain⟨x,u,rfl⟩:=T.el e a;refine⟨_,a,?_⟩;obtain⟨t,b⟩:=Value.isStrOf_shape h;injection b
end Tab
theorem bf(t:SetTable)(n:Nat):(t.orStandIn n).led=t.led:=by
 unfold SetTable.orStandIn;split <;> rfl
theorem bg(t:SetTable)(es:Array (Int×Value))(h:Int)(x:Value):(layNew t es h x).2.1.led=t.led:=by
 unfold layNew;split
 ·exact bf _ _
 ·rfl
theorem bh(t:SetTable)(es:Array (Int×Value))(n:Nat):(relayAll t es n).2.1.led=t.led/\((relayAll t es n).2.1.plain=true->t.plain=true):=by
 unfold relayAll;split
 ·rename_i t' a e;dsimp only;split
  ·unfold SetTable.relaid SetTable.laid at e;simp only[Option.bind_eq_bind,Qf]at e;obtain⟨o,_,e⟩:=e;cases e;exact⟨rfl,id⟩
  ·exact⟨rfl,λh=>by cases h⟩
 ·exact⟨rfl,λh=>by cases h⟩
section
theorem FK{h:Heap}(d:h.get? a=some o)(e:o.ExactSet)(hd:o.data=.set es ep t)(T:Tab w es' t' ks):
  (h.update a (Obj.putSet es' t')).get? a=some {o with data:=.set es' (ep+1) t'}/\SS w (h.update a (Obj.putSet es' t')) a ks:=by
 have c:(h.update a (Obj.putSet es' t')).get? a=some {o with data:=.set es' (ep+1) t'}:=by
  have b:=Qs (Obj.putSet es' t') d (by rw[putSet_of es' t' hd];rfl);rw[putSet_of es' t' hd]at b;exact b
 exact⟨c,_,es',ep+1,t',c,e,rfl,T⟩
theorem bi(T:Tab w es t ks)(c:k∉ks)(p:a.toList.Perm (es.toList++[(hashStr w k,Value.str k u)]))(f:t1.fits a.size=true)(l:t1.led=t.led)(q:t1.plain=false):Tab w a t1 (k::ks):=by
 refine⟨λe b=>?_,?_,YU.mpr ⟨c,T.nd⟩,f,λh=>by rw[l];exact T.ld h,λh=>by rw[q]at h;cases h⟩
 ·rcases Yz.mp (p.mem_iff.mp b)with b | b
  ·exact T.el e b
  ·exact⟨k,u,YA.mp b⟩
 ·refine(p.map _).trans ?_;rw[Yy];exact(List.perm_append_singleton k _).trans (T.pm.cons k)
theorem Pf(hS:SS w s.heap a ks)(hn:ks.length+1 < scanBound)(h:∀ h' b,Heap.SameBut a s.heap h'->SS w h' a (if k∈ks then ks else k::ks)->Q b {s with heap:=h'}):wpAny (model prog w) A (setAddHashed a (.str k u) (hashStr w k)) Q E s:=by
 obtain⟨o,es,ep,t,y,F,hd,T⟩:=hS;have x:=T.elems prog;have q:(strKind prog w).is k (.str k u)=true:=by show Value.isStrOf k (.str k u)=true;simp[Value.isStrOf]
 have D:(Value.str k u).scannable=true:=rfl;have hsz:=T.len;have hb:es.size < scanBound:=by lia
 unfold setAddHashed setAddHashedIn;refine wpAny_holding (Ql (wpAny_setState_of y hd T.ft ?_));dsimp only;rw[byScan_of D hb x,if_pos rfl];refine Ql ?_;unfold setAddByScan;refine Ql (wpAny_rule ?_);refine Ql (wpAny_setScan_of (knd:=strKind prog w) q y hd T.ft x ?_)
 have l:∀(b:Bool){m:Shared}{K:Unit->Shared->Prop},K () m->wpAny (model prog w) A (match b with | true=>rule "set.scan.the-table-gave-way" | false=>pure ()) K E m:=λb m K z=>by
  cases b
  ·exact Qm z
  ·exact wpAny_rule z
 cases Z:List.findIdx? (λe=>(strKind prog w).is k e.2) es.toList with
 | some j =>
  obtain⟨hj,H,_⟩:=List.findIdx?_eq_some_iff_getElem.mp Z;have p:k∈ks:=(T.mem k).mpr ⟨_,Qj hj,H⟩;have R:=h s.heap false (Heap.SameBut.refl a s.heap) (by rw[if_pos p];exact⟨o,es,ep,t,y,F,hd,T⟩);exact Qm (Qm R)
 | none =>
  have n:k∉ks:=λp=>by
   obtain⟨e,he,J⟩:=(T.mem k).mp p;have R:=List.findIdx?_eq_none_iff.mp Z e he;exact Bool.noConfusion (R.symm.trans J)
  have d:=layNew_perm t es (hashStr w k) (.str k u);have f:=layNew_fits t es (hashStr w k) (.str k u);have g:=bg t es (hashStr w k) (.str k u);rw[if_neg n]at h;dsimp only;show wpAny (model prog w) A _ _ E s;have G:(strKind prog w).hash k=hashStr w k:=rfl;revert d f g;generalize layNew t es (hashStr w k) (.str k u)=L;obtain⟨c,t1,dm,gv⟩:=L;intro d f g;dsimp only at d f g ⊢;rw[Array.toList_push]at d;refine Ql (l _ ?_);have hz1:c.size=es.size+1:=by rw[<- YV,d.length_eq,Yj,YV];rfl
  have v:∀ i:SetTable,i.fits c.size=true->i.led=t.led->i.plain=false->wpAny (model prog w) A (do
    storeSet a c i
    if(!dm&&i.tooFull)=true then do
      (match(relayAll i c (SetTable.grown c.size)).2.2 with | true=>rule "set.scan.the-table-gave-way" | false=>pure ())
      storeSet a (relayAll i c (SetTable.grown c.size)).1 (relayAll i c (SetTable.grown c.size)).2.1
      pure (some true)
     else pure (some true)) (λr s'=>wpAny (model prog w) A (match r with | some added=>pure added | none=>setAddHashedIn a (.str k u) (hashStr w k) 99999) Q E s') E s:=λi f2 Y p2=>by
   have O:Tab w c i (k::ks):=bi T n d f2 Y p2;refine Ql (wpAny_storeSet_of y hd ?_ (fits_of_scanBound (by lia)));obtain⟨B,I⟩:=FK y F hd O;have X:=Qr s.heap a (Obj.putSet c i);split
   ·have J:=relayAll_perm i c (SetTable.grown c.size);have hf:=relayAll_fits i c (SetTable.grown c.size);have S:=bh i c (SetTable.grown c.size);have U:=O.perm J hf (λz=>by rw[S.1,Y];exact T.ld z) (λz=>by rw[S.2 z]at p2;cases p2);refine Ql (l _ ?_);refine Ql (wpAny_storeSet_of B rfl ?_ (fits_of_scanBound (by rw[U.len,<- O.len];lia)));obtain⟨_,N⟩:=FK B F rfl U;exact Qm (Qm (h _ _ (X.trans (Qr _ a _)) N))
   ·exact Qm (Qm (h _ _ X I))
  split
  ·refine Ql ?_;rw[hashByValue_scannable 8 D];refine Qm ?_;exact v _ (SetTable.fits_plain_off f) g rfl
  ·rename_i P;refine Ql (Qm ?_);exact v _ f g (by simpa using P)
end
section
theorem SS.kept(S:SS w h a ks)(k:∀ o,h.get? a=some o->h'.get? a=some o):SS w h' a ks:=by
 obtain⟨o,es,c,t,b,r⟩:=S;exact⟨o,es,c,t,k o b,r⟩
theorem SS.nd(S:SS w h a ks):ks.Nodup:=by
 obtain⟨o,es,c,t,b,_,_,T⟩:=S;exact T.nd
theorem Pg(led:Bool)(hl:bt w=false->led=true)(b:h.get? a=some {cls:=.type "set",dict:=none,data:=.set #[] 0 (.fresh 0 0 led)}):SS w h a []:=
 ⟨_,#[],0,_,b,⟨rfl,rfl,rfl⟩,rfl,⟨λe c=>by simp at c,List.Perm.refl _,List.nodup_nil,rfl,hl,λ_=>rfl⟩⟩
variable {prog:Program}{w:World}{A:Around}{s:Shared} in
theorem bj{R:Result->Shared->Prop}{I:Addr}{fp q:List Addr}{G:Array GenState->Array GenState->Prop}{n:Nat}{P:Nat->Value->Prop}{St:Nat->Shared->Prop}(W:WalksS prog w A.in1 I fp q G n P St){S:Addr}(u:S∉fp)
  {val:Nat->Str} (p:∀ i v,P i v->∃ t,v=.str (val i) t):∀(k i:Nat)(s:Shared)(ks:List Str),n - i=k->i<=n->St i s->SS w s.heap S ks->ks.length+k < scanBound->
   (∀ s' ks',Moved (S::q) G s s'->SS w s'.heap S ks'->(∀ x,x∈ks'↔x∈ks\/∃ j,i<=j/\j < n/\val j=x)->R (.ok (.ret .none)) s')->
   codeAny (model prog w) A (.builtin "set.update.loop" ⟨[.ref S,.ref I],[]⟩) R s:=by
 have B:S∉q:=λz=>u (W.sub _ z);have a:∀ b∈q,b∈S::q:=λb z=>Yd _ z;intro k;induction k with
 | zero =>
  intro i s ks Y hi d N _ L;obtain rfl:i=n:=by lia
  refine codeAny_builtin PyProof.Rows.F.entry_set_update_loop ?_;rw[Around.under_plainId PyProof.Rows.F.plain_set_update_loop _];refine Ql (m:=pyNext (.ref I)) (W.done s _ _ d λs' y=>?_);refine Qm (L s' ks (y.mono a) (N.kept λo e=>y.heap S o B e) λx=>⟨.inl,?_⟩);rintro(h |⟨j,h1,h2,_⟩)
  ·exact h
  ·lia
 | succ k Z =>
  intro i s ks Y hi d N hn L;have f:i < n:=by lia
  refine codeAny_builtin PyProof.Rows.F.entry_set_update_loop ?_;rw[Around.under_plainId PyProof.Rows.F.plain_set_update_loop _];refine Ql (m:=pyNext (.ref I)) (W.item i s _ _ f d λv D X l y=>?_);obtain⟨t,rfl⟩:=p i v X;have K:SS w D.heap S ks:=N.kept λo e=>y.heap S o B e;refine Ql (m:=holding [Value.str (val i) t] (setAdd S (.str (val i) t))) (wpAny_holding ?_);unfold setAdd;refine wpAny_holding (Ql ((strKind prog w).pyHash (k:=val i) (by show Value.isStrOf (val i) (.str (val i) t)=true;simp[Value.isStrOf]) ?_));refine Pf (s:={D with toks:=D.toks+1}) K (by lia) λh' b r O=>?_;refine Qm ⟨plainId_quiet PyProof.Rows.F.plain_set_update_loop _,Z (i+1) _ _ (by lia) f (W.frame _ D _ _ l (Nat.le_succ _) λc hc o e=>?_) O ?_ λT ks' Q J U=>?_⟩
  ·rw[r.2 c λz:c=S=>u (by rw[<- z];exact hc)];exact e
  ·split
   ·lia
   ·rw[Yg];lia
  ·refine L T ks' (Moved.trans W.gtrans ((y.mono a).then_heap (Nat.le_succ _) λc o hc e=>?_) Q) J λx=>(U x).trans ?_
   ·rw[r.2 c λz:c=S=>hc (by rw[z];exact Ye)];exact e
   ·have g:x∈(if val i∈ks then ks else val i::ks)↔x∈ks\/val i=x:=by
     split
     ·rename_i H;exact⟨.inl,λz=>z.elim id λe=>e▸H⟩
     ·rw[Yo];exact⟨λz=>z.elim (λe=>.inr e.symm) .inl,λz=>z.elim .inr λe=>.inl e.symm⟩
    rw[g];constructor
    ·rintro((h | h)|⟨j,h1,h2,E⟩)
     ·exact .inl h
     ·exact .inr ⟨i,Yr _,f,h⟩
     ·exact .inr ⟨j,by lia,h2,E⟩
    ·rintro(h |⟨j,h1,h2,E⟩)
     ·exact .inl (.inl h)
     ·by_cases e:j=i
      ·subst e;exact .inl (.inr E)
      ·exact .inr ⟨j,by lia,h2,E⟩
end
abbrev BU(led:Bool):Obj:={cls:=.type "set",dict:=none,data:=.set #[] 0 (.fresh 0 0 led)}
section
theorem bn(h:∀ led:Bool,(bt w=false->led=true)->Q (.ref s.heap.objs.size) {s with heap:=s.heap.push (BU led)}):wpAny (model prog w) A (newSet (.type "set")) Q E s:=by
 unfold newSet setsByText;walk_at "pc";simp only[newObj];refine Ql (wpAny_alloc (Qm (h _ λz=>?_)));show(!(bt w))=true;rw[z];rfl
theorem bo(a:Value)(h:∀ led:Bool,(bt w=false->led=true)->Q (.ref s.heap.objs.size) {s with heap:=s.heap.push (BU led)}):
  codeAny (model prog w) A (.call (.builtin "set.__new__") ⟨[.type "set",a],[]⟩) (wants Q E) s:=by
 refine codeAny_of_tree (?_:wpAny _ A.in1 (do checkBuiltinCall "set.__new__" ⟨[.type "set",a],[]⟩;again (.builtin "set.__new__" ⟨[.type "set",a],[]⟩)) _ _ s);refine Ql (wpAny_of_eq (PySem.F.newCall_set_1 a) (Qm ⟨plainId_quiet PySem.F.plain_set_new _,codeAny_builtin PySem.F.entry_set_new ?_⟩));rw[Around.under_plainId PySem.F.plain_set_new _];unfold Builtin.«set.__new__» Builtin.Frozenset.newClass;have c:=sub_set_self;obtain⟨b,g,d,tk,os⟩:=s;dsimp only;wp_walk;refine wpAny_askSetting (Qm ?_);simp only[newObj];refine Ql (wpAny_alloc (Qm (Qm (h _ λz=>?_))));show(!(bt w))=true;rw[z];rfl
theorem Ph:∀{vs:List Value}{xs:List Str},StrsAre vs xs->∀(i:Nat)(v:Value),vs[i]?=some v->∃ t,v=.str (xs.getD i (Str.ofString "")) t
 | _,_,.nil,i,v,h=>by simp at h
 | _,_,.cons x t r,0,v,h=>⟨t,by simp at h;exact h.symm⟩
 | _,_,.cons x t r,i+1,v,h=>Ph r i v (by simpa using h)
set_option maxHeartbeats 3200000 in
theorem Pi{s:Shared}(hh:A.handled=none)(hl:s.heap.IsList l items)(hi:StrsAre items.toList xs)(X:items.size < scanBound)(h:∀(h':Heap)(tk:Nat)(ks:List Str),SS w h' s.heap.objs.size ks->(∀ x,x∈ks↔x∈xs)->(∀ b o,b < s.heap.objs.size->s.heap.get? b=some o->h'.get? b=some o)->Q (.ref s.heap.objs.size) {s with heap:=h',toks:=tk}):
  wpAny (model prog w) A (call (.type "set") [.ref l]) Q E s:=by
 obtain⟨c,tl,hmro⟩:=PySem.F.called_set.mro;have L:=PySem.F.called_set.made;have Z:=PySem.F.called_set.sub;refine wpAny_call (codeAny_of_tree (?_:wpAny _ _ (callAny (.type "set") _) _ _ _));refine Qm ⟨Code.quiet_builtin _ (by decide +kernel),codeAny_builtin PySem.F.entry_type_call ?_⟩;rw[Around.under_plain (weight_type_call_type "set" [.ref l] []) rfl];have h1:=PySem.F.called_set.notType;have h2:=PySem.F.called_set.canCreate;have hct:=PySem.F.typeCall_set_1 (.ref l);(repeat (any_goals (first | assumption | wp_step)));refine codeAny_mono (bo (.ref l) (E:=E) (Q:=λobj f=>∃ led:Bool,(bt w=false->led=true)/\obj=.ref s.heap.objs.size/\f={s with heap:=s.heap.push (BU led)}) λled z=>⟨led,z,rfl,rfl⟩) λr f d=>?_
 match r,d with
 | .error e,d=>exact d
 | .ok .next,d=>exact d.elim
 | .ok .brk,d=>exact d.elim
 | .ok .cont,d=>exact d.elim
 | .ok (.ret obj),d =>
  obtain⟨led,y,rfl,rfl⟩:=d;have hS:(s.heap.push (BU led)).get? s.heap.objs.size=some (BU led):=Qp _ rfl;have hT:Shared.TypeIs {s with heap:=s.heap.push (BU led)} (.ref s.heap.objs.size) "set":=⟨_,hS,rfl⟩;have hli:=PySem.F.called_set.init.lookup;have hbi:=PySem.F.called_set.init.bind (.ref s.heap.objs.size);(repeat (any_goals (first | assumption | wp_step)));refine codeAny_mono (codeAny_call_builtin (R:=wants (λr g=>r=.none/\∃ h' tk ks,g={s with heap:=h',toks:=tk}/\SS w h' s.heap.objs.size ks/\(∀ x,x∈ks↔x∈xs)/\(∀ b o,b < s.heap.objs.size->s.heap.get? b=some o->h'.get? b=some o)) E) PySem.F.called_set.init.plain PySem.F.entry_set_init (check_set_init_1 hT ?_)) λu g a=>?_
  ·obtain⟨ol,B,J,Y,G⟩:=hl;obtain⟨ocls,m,S,oslots⟩:=ol;simp only at J G;subst J G;have I:(s.heap.push (BU led)).get? l=some {cls:=.type "list",dict:=m,data:=.seq items Y,slots:=oslots}:=Qn _ B;have hs1:=PySem.F.sub_list_set;have hs2:=PySem.F.sub_list_frozenset;have hne:(Value.type "list"==Value.type "dict")=false:=by decide
   have p:(s.heap.push (BU led)).IsList l items:=⟨_,I,rfl,Y,rfl⟩;unfold Builtin.«set.__init__» noKeywords Builtin.Frozenset.updateFrom;generalize N:pyIter=PI;wp_walk;subst N;refine wpAny_pyIter_list p (Ql (wpAny_runValue ?_));have H:l < s.heap.objs.size:=Qo B;have q:l≠(s.heap.push (BU led)).objs.size:=by rw[Qq];exact Ys (Nat.lt_succ_of_lt H)
   have P:s.heap.objs.size∉[(s.heap.push (BU led)).objs.size,l]:=by
    rw[Qq];simp only[Yo,Qc,or_false,not_or];exact⟨Ys (Nat.lt_succ_self _),Nat.ne_of_gt H⟩
   have D:∀(i:Nat)(v:Value),items[i]?=some v->∃ t,v=.str (xs.getD i (Str.ofString "")) t:=λi v hv=>Ph hi i v (by rw[YQ];exact hv);have hxl:items.size=xs.length:=by rw[<- YV];exact hi.length
   refine bj ((Walks.list (by simp[hh]) _ l q items).toS) P D (items.size - 0) 0 _ [] (by lia) (YX _) ⟨⟨_,Qp _ rfl,rfl,rfl⟩,p.push _⟩ ?_ (by simp only[Yi];lia) ?_
   ·exact Pg led y (Qn _ hS)
   ·intro s' ks K k n;obtain⟨h',g',d',U,T⟩:=s';obtain rfl:g'=s.gens:=K.gens;obtain rfl:d'=s.drawn:=K.drawn;obtain rfl:T=s.os:=K.os;refine Qm (Qm ⟨rfl,h',U,ks,rfl,k,λx=>(n x).trans ?_,λb o X e=>?_⟩)
    ·constructor
     ·rintro(z |⟨j,_,hj,e⟩)
      ·cases z
      ·rw[<- e];rw[Qd,Yp (by lia)];exact Qj _
     ·intro n;obtain⟨j,hj,e⟩:=List.getElem_of_mem n;refine .inr ⟨j,YX _,by lia,?_⟩;rw[Qd,Yp hj];exact e
    ·refine K.heap b o ?_ (Qn _ (Qn _ e));simp only[Yo,Qc,or_false,not_or];rw[Qq];exact⟨Ys X,Ys (Nat.lt_succ_of_lt X)⟩
  ·match u,a with
   | .error e,a=>exact a
   | .ok .next,a=>exact a.elim
   | .ok .brk,a=>exact a.elim
   | .ok .cont,a=>exact a.elim
   | .ok (.ret r),a =>
    obtain⟨rfl,h',tk,ks,rfl,k,n,O⟩:=a;(repeat (any_goals (first | assumption | wp_step)));exact h _ _ _ k n O
end
section
end
section
end
section
end
end L3
namespace L2
open PySem PySem.Spec PyProof.Rows
section
theorem bp(I:Nat->Shared->Prop)(l:∀ e s',E' e s'->notedBy (model prog w) A env (λe s'=>R (.error e) s') e s')(q:∀ n s,I n s->wpAny (model prog w) A (pyNext it) (λr b=>match r with
   | none=>R (.ok .next) b
   | some v=>wpAny (model prog w) A (letOwnedTupleGo target it v) (λ_ s₁'=>wpAny (model prog w) A (assign target env v) (λ_ j=>
     wpAny (model prog w) A (forIn ifs true λc r=>if r=true then do let ok <- isTrue c env (eval c env);pure (ForInStep.yield ok)else pure (ForInStep.yield r)) (λok a=>
      if ok=true then wpAny (model prog w) A (eval elt env) (λx i=>
       wpAny (model prog w) A (call (.builtin "list.append") [k,x]) (λ_ g=>∃ m,m < n/\I m g) E' i) E' a
      else ∃ m,m < n/\I m a) E' j) E' s₁') E' b) E' s)(n:Nat)(h:I n s):
  codeAny (model prog w) A (.compLoop (.ListComp elt [⟨target,iter,ifs,0⟩] scope pos) 0 it k env) R s:=by
 refine codeAny_loop rfl I (λn s u=>?_) n h;show wpAny _ A ((compTurn (.ListComp elt [⟨target,iter,ifs,0⟩] scope pos) 0 it k env).onRaise (λx=>do noteFrame x env;theTreesLotGoes x)) _ _ s;refine wpAny_noted ?_;rw[compTurn_list];refine Ql (wpAny_standAt (Ql (wpAny_mono (q n s u) (λr b d=>?_) l)));cases r with
 | none=>exact Qm d
 | some v =>
  refine Ql (wpAny_mono d (λ_ s₁' h₁'=>?_) l);refine Ql (wpAny_mono h₁' (λ_ j t=>Ql (wpAny_mono t (λok a f=>?_) l)) l);cases ok with
  | false=>exact Qm ⟨rfl,f⟩
  | true =>
   exact Ql (Ql (wpAny_mono f (λx i o=>Ql (wpAny_mono o (λ_ g p=>Qm (Qm ⟨rfl,p⟩)) l)) l))
end
def PF(X:Cx)(ifs:List Expr)(t:TT):Prop :=
 ∀(pins:List (Addr×Obj))(s:Shared)(σ:St)(H:Hp)(Q:Bool->Hp->Prop),Inv X pins σ H s->t σ H Q->
  wpAny (model X.prog X.w) X.A (forIn ifs true λc r=>if r=true then do let ok <- isTrue c X.env (eval c X.env);pure (ForInStep.yield ok)else pure (ForInStep.yield r)) (TP X pins σ Q) X.xe s
def bq:TT:=λ_ H Q=>Q true H
theorem br:PF X [] bq:=λ_ _ _ H _ I h=>wpAny_tests_nil ⟨H,I,h⟩
theorem bu(hc:PT X c t):PF X [c] t:=λpins s σ H Q I h=>wpAny_tests_one (hc pins s σ H Q I h)
def cxB(X:Cx)(Nc:List Str)(scope:Scope)(cl:List (Str×Addr))(C:Addr)(fp:List Addr)(s:Shared)(H:Hp):Cx :=
 {X with N:=Nc,s₀:=s,H₀:=H,env:=compEnvC scope cl C X.env,outer:=X.stack,ex:=fp,fn:=λ_=>false,pn:=[],xe:=λ_ _=>False}
structure Blk(X:Cx)(Nc:List Str)(scope:Scope)(cl:List (Str×Addr))(cap:St->St):Prop where
 clos:closureFor scope X.env=pure cl
 kind:scope.kind=.function
 names:∀ x∈scope.names,x.2=.local->scope.names.lookup x.1=some .local
 nocell:∀ y∈scope.names,y.2≠.cell
 sub:∀ y c,cl.lookup y=some c->X.env.cells.lookup y=some c
 has:∀ y,((relabel scope X.env).names.lookup y=some .cell\/(relabel scope X.env).names.lookup y=some .free)->∃ c,cl.lookup y=some c
 take:∀(σ:St)(i:Nat)(y:Str)(v:V),Nc[i]?=some y->(cap σ)[i]?=some (some v)->Vis (relabel scope X.env) y->
  ((relabel scope X.env).names.lookup y=some .cell\/(relabel scope X.env).names.lookup y=some .free)/\Vis X.env.scope y/\X.env.scope.names.lookup y≠some .local/\∃ j:Nat,X.N[j]?=some y/\σ[j]?=some (some v)
 len:∀ σ:St,(cap σ).length=Nc.length
theorem bv(h:∀ y∈scope.names,y.2≠.free):relabel scope env=scope:=by
 unfold relabel
 rw[map_eq_self (l:=scope.names) (λx a=>by
  obtain⟨n,k⟩:=x;have:(k==NameKind.free)=false:=by simpa using h _ a
  simp[this])]
theorem KY{names:List (Str×NameKind)}(h:names.lookup x=some k):(x,k)∈names:=PySem.mem_of_lookup h
theorem BG(kind:scope.kind=.function)(all:∀ y∈scope.names,y.2≠.free/\y.2≠.cell)(names:∀ x∈scope.names,x.2=.local->scope.names.lookup x.1=some .local):
  Blk X Nc scope [] (λ_=>List.replicate Nc.length none) where
 clos:=closureFor_none λx b=>(all x b).1
 kind:=kind
 names:=names
 nocell:=λy a=>(all y a).2
 sub:=λy c h=>by cases h
 has:=λy h=>by
  rw[bv λz d=>(all z d).1]at h;rcases h with h | h
  ·exact absurd rfl (all _ (KY h)).2
  ·exact absurd rfl (all _ (KY h)).1
 take:=λσ i y v h1 h2 e=>by
  rw[List.getElem?_replicate]at h2;split at h2 <;> cases h2
 len:=λσ=>List.length_replicate ..
def cOk(cap:St->St)(g:TG)(tt:TT)(te:TE)(K:List V->Hp->Prop)(σ:St)(J:It)(H1:Hp):Prop :=
 ∃ W:Nat->Nat->St->Hp->List V->Prop,(∃ m,W 0 m (cap σ) H1 [])/\∀ i m σ' H' ys,W i m σ' H' ys->
  (J.stop i H'/\K ys H')\/
  (J.go i H'/\ys.length < sizeLine/\∃ N:St->Hp->List V->Prop,(∀ σ2 H2 ys2,N σ2 H2 ys2->∃ m',m' < m/\W (i+1) m' σ2 H2 ys2)/\
   ∀ x H2,J.yld i H' x H2->g x σ' H2 λσ3 H3=>tt σ3 H3 λb H4=>if b=true then te σ3 H4 λy H5=>N σ3 H5 (ys++[y])else N σ3 H4 ys)
def HD(wi:TI)(cap:St->St)(g:TG)(tt:TT)(te:TE):TE:=λσ H Q=>wi σ H λJ H1=>cOk cap g tt te (λys H'=>∀ a,H' a=none->Q (.ref a) (upd H' a (.lst ys))) σ J H1
section
theorem Pj(hc:X.calm=true)(B:Blk X Nc scope cl cap)(hg:∀ C fp s H,PG (cxB X Nc scope cl C fp s H) tg g)(ht:∀ C fp s H,PF (cxB X Nc scope cl C fp s H) ifs tt)(he:∀ C fp s H,PE (cxB X Nc scope cl C fp s H) elt te){σ:St}{RR:Value->Addr->Result->Shared->Prop}{K:List V->Hp->Prop}(F:Inv X pins σ H2 P)(T:Dv X.prog X.w X.K tg J fp it tn)(st2:tn 0 P.heap)(f2:∀ b∈fp,CZ X pins H2 b)(w2:cOk cap g tt te K σ J H2)(fin:∀(D C:Addr)(s':Shared)(H':Hp)(ys:List V)(oC:Obj),H' D=none->K ys H'->Inv X pins σ (upd H' D (.lst ys)) s'->CZ X pins (upd H' D (.lst ys)) C->s'.heap.get? C=some oC->(∀ v,oC.data≠.cell v)->(∃ m,s'.heap.Ns C m)->RR (.ref D) C (.ok .next) s'):
  wpAny (model X.prog X.w) X.A (newList []) (λacc s₃=>wpAny (model X.prog X.w) X.A (newFunctionEnv scope X.env.globals cl [] X.env.qual none .none (some X.env)) (λcenv s₄=>
   codeAny (model X.prog X.w) X.A (.compStart (.ListComp elt [⟨tg,iter,ifs,0⟩] scope pos) 0 (.ref it) acc {cenv with scope:=relabel scope X.env}) (RR acc cenv.locals) s₄) E s₃) E P:=by
 refine wpAny_newObj_type (wpAny_newFunctionEnv B.nocell (by intro y hy;simp at hy) (λY G t=>?_) B.kind);dsimp only at G t ⊢;generalize hP2:P.heap.push {cls:=.type "list",dict:=none,data:=.seq ([]:List Value).toArray}=P2 at G t ⊢;generalize L:P.heap.objs.size=D at G t ⊢;have hCs:P2.objs.size=D+1:=by rw[<- hP2,Qq,L]
 generalize hCC:P2.objs.size=C at G t hCs ⊢;have hDC:D≠C:=Ys (by rw[hCs];exact Nat.lt_succ_self _);have S:∀ b:Addr,b < D->b≠C:=λb h=>Ys (by rw[hCs];exact Nat.lt_succ_of_lt h);have leC:D<=C:=by rw[hCs];exact Nat.le_succ _
 have Q:∀ b o,P.heap.get? b=some o->Y.get? b=some o:=λb o e=>by
  have f:=Qo e;rw[L]at f;refine t.extBut b o (S b f) (Qn _ ?_);rw[<- hP2];exact Qn _ e
 have hacc:Y.get? D=some {cls:=.type "list",data:=.seq #[]}:=by
  refine t.extBut D _ hDC (Qn _ ?_);rw[<- hP2,<- L];exact Qp _ rfl
 have lt2:∀ b o,P.heap.get? b=some o->b < D:=λb o e=>by rw[<- L];exact Qo e
 have U:∀ b∈fp,b < D:=λb f=>by
  obtain⟨o,e,_⟩:=T.obj _ _ st2 b f;exact lt2 b o e
 have celt:∀ x c,X.env.cells.lookup x=some c->c < D:=λx c e=>by
  obtain⟨v,z⟩:=F.cell x c e;rw[<- L];exact z.lt
 have R:∀ p∈X.pn++pins,p.1 < D:=λp hp=>lt2 _ _ (F.pin p hp).1;have fstk:∀ b∈fp,b∉frs X.stack:=λb f z=>(Yo.mp (F.stkSub b z)).elim (f2 b f).2.1 (f2 b f).2.2.1;have hDn:H2 D=none:=F.hok.fresh (by rw[L];exact Yr _);have hCn:H2 C=none:=F.hok.fresh (by rw[L];exact leC);have sz0:X.s₀.heap.objs.size<=D:=by rw[<- L];exact F.sz
 let Xc:=cxB X Nc scope cl C fp P H2
 have okc:Xc.Ok:=by
  refine⟨F.ok.mod,?_,F.ok.glob,F.ok.blt,?_,λx y c h1 h2=>F.ok.inj x y c (B.sub x c h1) (B.sub y c h2),λx hx=>B.has x hx,(λx c h=>by cases h),F.ok.hd,F.ok.frames,.inl rfl,?_,F.bs,Yt F.ok.bsz F.sz,?_,fstk,F.stack,F.stkFree⟩
  ·exact B.kind
  ·show P.heap.objs.size<=C;rw[L];exact leC
  ·intro b f;refine⟨?_,λx c e=>?_⟩
   ·exact S b (U b f)
   ·exact(f2 b f).2.2.2.2.1 x c (B.sub x c e)
  ·intro b o e f;rcases(f2 b f).2.2.2.1 with z | z
   ·exact F.ok.noex b o e z
   ·exact absurd (Yu (Qo (F.ok.bs b o e).1) z) (YL _)
 have I0:∀ tk,Inv Xc (X.pn++pins) (cap σ) H2 {P with heap:=Y,toks:=tk}:=λtk=>by
  refine⟨okc,rfl,F.bare,Un.kept Q,⟨_,G,λi y v h1 h2 h3=>?_⟩,λx c e=>?_,hCn,λx c e=>F.freeC x c (B.sub x c e),λp hp=>?_,F.hok.kept Q,B.len σ⟩
  ·obtain⟨k1,k2,k3,j,k4,k5⟩:=B.take σ i y v h1 h2 h3;obtain⟨m,hn,hl⟩:=F.loc;obtain⟨u,r,l⟩:=hl j y v k4 k5 k2;refine⟨u,r,.inr ⟨k1,?_⟩⟩;rcases l with⟨l,_⟩|⟨_,c,e,z⟩
   ·exact absurd l k3
   ·obtain⟨c',e'⟩:=B.has y k1;have:=B.sub y c' e';rw[e]at this;cases this;obtain⟨oc,ec,dc⟩:=z;exact⟨c,e',oc,Q _ _ ec,dc⟩
  ·obtain⟨v,oc,ec,dc⟩:=F.cell x c (B.sub x c e);exact⟨v,oc,Q _ _ ec,dc⟩
  ·have Z:p∈X.pn++pins:=by simpa[Xc,cxB]using hp
   obtain⟨e,n,ne,nf,d⟩:=F.pin p Z;exact⟨Q _ _ e,n,S _ (R p Z),λz=>(Yo.mp (F.stkSub _ z)).elim ne nf,d⟩
 have fpc:∀{H':Hp}{o:Obj},(∀ b∈fp,H' b=none)->∀ b∈fp,CZ Xc ((X.pn++pins)++[(D,o)]) H' b:=λ{H' o}hn b f=>by
  refine⟨hn b f,S b (U b f),fstk b f,.inl f,λx c e=>(f2 b f).2.2.2.2.1 x c (B.sub x c e),λp hp=>?_⟩
  ·have Z:p∈X.pn++pins\/p=(D,o):=by
    rcases Yz.mp hp with z | z
    ·cases z
    ·rcases Yz.mp z with z | z
     ·exact .inl z
     ·exact .inr (YA.mp z)
   rcases Z with z | z
   ·exact(f2 b f).2.2.2.2.2 p z
   ·subst z;exact Nat.ne_of_gt (U b f)
 obtain⟨W,⟨m0,w0⟩,turn⟩:=w2
 have loop:∀ tk,codeAny (model X.prog X.w) X.A (.compLoop (.ListComp elt [⟨tg,iter,ifs,0⟩] scope pos) 0 (.ref it) (.ref D) Xc.env) (RR (.ref D) C) {P with heap:=Y,toks:=tk}:=by
  intro tk
  refine bp (E':=λ_ _=>False)
   (λn s'=>∃(i:Nat)(σ':St)(H':Hp)(ys:List V)(I:List Value)(k:Nat),Inv Xc (X.pn++pins) σ' H' s'/\tn i s'.heap/\(∀ b∈fp,H' b=none)/\H' D=none/\s'.heap.get? D=some {cls:=.type "list",data:=.seq I.toArray k}/\
    Vals ys I/\ys.length<=sizeLine/\W i n σ' H' ys) (λ_ _ z=>z.elim) ?_ m0
   ⟨0,cap σ,H2,[],[],0,I0 tk,T.keep _ _ _ st2 λb _ o e=>Q b o e,λb f=>(f2 b f).1,hDn,hacc,.nil,YX _,w0⟩
  rintro n s3 ⟨i,σ3,H3,ys,I,k,I3,st3,fr3,hD3,o3,rv3,hz3,w3⟩
  have I3':Inv Xc ((X.pn++pins)++[(D,{cls:=.type "list",data:=.seq I.toArray k})]) σ3 H3 s3:=I3.pins_of λp hp=>by
   have Z:p∈X.pn++pins\/p=(D,{cls:=.type "list",data:=.seq I.toArray k}):=by
    rcases Yz.mp hp with z | z
    ·exact .inl z
    ·exact .inr (YA.mp z)
   rcases Z with z | z
   ·exact I3.pin p (by simpa[Xc,cxB]using z)
   ·subst z;refine⟨o3,hD3,hDC,λz=>?_,(λv z=>by cases z)⟩
    ·obtain⟨_,o,ho,_⟩:=F.stack.mem z;exact absurd (lt2 _ _ ho) (YL _)
  rcases turn i n σ3 H3 ys w3 with⟨stop,qn⟩|⟨go,hlt,N,hN,step⟩
  ·refine thn (T.done Xc rfl rfl rfl hc i _ s3 σ3 H3 _ I3' (fpc fr3) st3 stop) λr s4 zz1=>?_;obtain⟨hr,I4⟩:=zz1;subst hr;have pD:=I4.pin (D,{cls:=.type "list",data:=.seq I.toArray k}) (by simp);obtain⟨m4,hn4,_⟩:=I4.loc;obtain⟨oC,es,ep,eC,dC,rC⟩:=id hn4;have hD4:H3 D=none:=hD3;have hC4:H3 C=none:=I4.free;have O:∀ b u,H3 b=some u->upd H3 D (.lst ys) b=some u:=λb u e=>by rw[AZ (EL e hD4)];exact e
   have un:Un (frs X.stack) fp H2 (upd H3 D (.lst ys)) P.heap s4.heap:=by
    have u:=I4.base;refine⟨u.keep,u.slot,λb o e n hx=>?_,u.there,λb xs e=>O _ _ (u.tups b xs e),λb o v e=>O _ _ (u.frzs b o v e),λb ps e=>?_⟩
    ·rw[AZ (Ys (lt2 b o e))];exact u.free b o e n hx
    ·obtain⟨more,q⟩:=u.tbls b ps e;exact⟨more,O _ _ q⟩
   have hok:HOk X.prog X.w (upd H3 D (.lst ys)) s4.heap:=λb u e=>by
    by_cases f:b=D
    ·subst f;rw[BS]at e;cases e;exact⟨hz3,I,k,rv3,pD.1⟩
    ·rw[AZ f]at e;exact(I4.hok b u e).stay (λ_ _ _ q=>q) (λc q=>O _ _ q) λc xs q=>O _ _ q
   have I5:Inv X pins σ (upd H3 D (.lst ys)) s4:=F.call' (ch:=fp) I4.os un hok I4.bare λb f=>⟨(f2 b f).2.2.2.1,(f2 b f).2.1,(f2 b f).2.2.2.2.1,(f2 b f).2.2.2.2.2⟩;refine fin D C s4 H3 ys oC hD4 qn I5 ⟨?_,?_,λz=>?_,.inr (Yt sz0 leC),λx c e=>?_,λp hp=>?_⟩ eC (λv z=>by rw[dC]at z;cases z) ⟨m4,hn4⟩
   ·rw[AZ (YY hDC)];exact hC4
   ·have:=F.lt;rw[L]at this;exact YY (S _ this)
   ·exact F.nofs (a:=C) (by rw[L];exact leC) z
   ·exact S _ (celt x c e)
   ·exact S _ (R p hp)
  ·refine thn (T.item Xc rfl rfl rfl hc i _ s3 σ3 H3 _ I3' (fpc fr3) st3 go) λr s4 zz2=>?_;obtain⟨u,hr,h4⟩:=zz2;subst hr;refine thn h4 λ_ s5 zz3=>?_;obtain⟨x,H5,I5,r5,y5,st5,fr5⟩:=zz3;have I5':=I5.pinned (fpc fr5) (T.obj _ _ st5);refine thn (hg C fp P H2 _ s5 σ3 H5 x u _ I5' r5 (step x H5 y5)) λ_ s6 zz4=>?_;obtain⟨σ6,H6,I6,q6⟩:=zz4;refine thn (ht C fp P H2 _ s6 σ6 H6 _ I6 q6) λok s7 zz5=>?_;obtain⟨H7,I7,q7⟩:=zz5
   have again:∀{σ8:St}{H8:Hp}{s8:Shared},Inv Xc (((X.pn++pins)++[(D,{cls:=.type "list",data:=.seq I.toArray k})])++FG fp s5.heap) σ8 H8 s8->
     tn (i+1) s8.heap/\(∀ b∈fp,H8 b=none)/\s8.heap.get? D=some {cls:=.type "list",data:=.seq I.toArray k}/\H8 D=none:=λ{σ8 H8 s8}I8=>by
    refine⟨T.keep _ _ _ st5 λb f o e=>(I8.pin (b,o) (YN _ (YN _ (Gg f e)))).1,λb f=>?_,?_⟩
    ·obtain⟨o,e,d⟩:=T.obj _ _ st5 b f;exact(I8.pin (b,o) (YN _ (YN _ (Gg f e)))).2.1
    ·have:=I8.pin (D,{cls:=.type "list",data:=.seq I.toArray k}) (by simp);exact⟨this.1,this.2.1⟩
   cases ok with
   | false =>
    rw[if_neg YW]at q7 ⊢;obtain⟨m',hm,w7⟩:=hN _ _ _ q7;obtain⟨t7,f7,o7,d7⟩:=again I7;exact⟨m',hm,i+1,σ6,H7,ys,I,k,I7.unpinned.unpinned,t7,f7,d7,o7,rv3,hz3,w7⟩
   | true =>
    rw[if_pos rfl]at q7 ⊢;refine thn (he C fp P H2 _ s7 σ6 H7 _ I7 q7) λy s8 zz6=>?_;obtain⟨yv,H8,I8,r8,q8⟩:=zz6;obtain⟨m',hm,w8⟩:=hN _ _ _ q8;obtain⟨t8,f8,o8,d8⟩:=again I8;have hlen:=rv3.length;refine wpAny_list_append_plain (s:=s8) (items:=I.toArray) ⟨k,o8⟩ (λh9 zz7 sb9=>?_) (by rw[Yn];lia);obtain⟨k9,l9⟩:=zz7
    have I9:Inv Xc (X.pn++pins) σ6 H8 {s8 with heap:=h9}:=by
     refine I8.unpinned.unpinned.turned (t':=s8.toks) (λb o f e=>(sb9.2 b f).trans e) d8 ?_ (.inr ?_) (λx c e=>?_) λp hp=>?_
     ·exact hDC
     ·show P.heap.objs.size<=D;rw[L];exact Yr _
     ·exact Ys (celt x c (B.sub x c e))
     ·exact Ys (R p (by simpa[Xc,cxB]using hp))
    refine⟨m',hm,i+1,σ6,H8,ys++[yv],I++[y],k9,I9,?_,f8,d8,?_,rv3.append (.cons r8 .nil),?_,w8⟩
    ·refine T.keep _ _ _ t8 λb f o e=>?_;exact(sb9.2 b (Ys (U b f))).trans e
    ·rw[l9];simp
    ·rw[Yj,List.length_singleton];lia
 have env_eq:Xc.env=compEnvC scope cl C X.env:=rfl;exact codeAny_compStart_list (loop _) (T.self _ 0 _ _ _ (T.keep _ _ _ st2 λb _ o e=>Q b o e) (loop _))
theorem Pk(hc:X.calm=true)(hi:PI X tg iter d)(B:Blk X Nc scope cl cap)(i:∀ C fp s H,PG (cxB X Nc scope cl C fp s H) tg g)(n:∀ C fp s H,PF (cxB X Nc scope cl C fp s H) ifs tt)(G:∀ C fp s H,PE (cxB X Nc scope cl C fp s H) elt te)(hs:∀ x,foldedSetIterable iter X.env x=pure x:=by intro _;rfl):PE X (.ListComp elt [⟨tg,iter,ifs,0⟩] scope pos) (HD d cap g tt te):=by
 intro pins s σ H Q I h;rw[eval_ListComp];refine wpAny_comprehension_free (use:=none) rfl hs B.clos B.kind B.names (thn (hi pins s σ H _ I h) λv S h1=>thn h1 λp P h2=>?_);obtain⟨R,fp,Y,J,H2,e,j,T,a,L,f⟩:=h2;subst e;refine Pj (RR:=λc C=>compPost (model X.prog X.w) X.A X.xe none (EP X pins σ Q) c C) hc B i n G j T a L f ?_;intro D C s' H' ys U y q t F O Z ⟨m,u⟩;obtain⟨K,z,_,k,r,l⟩:=F;exact⟨m,u,λh' E=>⟨.ref D,_,t.turned (t':=s'.toks) (λb o N e=>(E.2 b N).trans e) K z k r l,rfl,q D y⟩⟩
theorem bw(Y:X.N.Nodup)(t:X.N[i]?=some x)(y:X.env.scope.names.lookup x=some .local)(k:swapsWith (.ListComp elt [⟨tg,iter,ifs,0⟩] scope pos) (some (.Name x pos')) a.line X.env=pure true)(hc:X.calm=true)(hi:PI X tg iter z)(B:Blk X Nc scope cl cap)(Z:∀ C fp s H,PG (cxB X Nc scope cl C fp s H) tg g)(ht:∀ C fp s H,PF (cxB X Nc scope cl C fp s H) ifs tt)(he:∀ C fp s H,PE (cxB X Nc scope cl C fp s H) elt te)(hs:∀ x,foldedSetIterable iter X.env x=pure x:=by intro _;rfl):PS X (.Assign [.Name x pos'] (.ListComp elt [⟨tg,iter,ifs,0⟩] scope pos) a) (Kv (HD z cap g tt te) (Dt i)):=by
 intro pins s σ H E I h;rw[exec_Assign_Name_used _ _ _ _ k];refine Ql (wpAny_standAt (Ql ?_));show wpAny _ X.A (do let _ <- comprehension (.ListComp elt [⟨tg,iter,ifs,0⟩] scope pos) scope X.env _ (newList []) false (eval iter X.env) (some (assign (.Name x pos') X.env))) _ _ s
 refine Ql (wpAny_mono (wpAny_comprehension_free (use:=some (assign (.Name x pos') X.env)) (Q:=λ_ s'=>SP X pins E .next s') rfl hs B.clos B.kind B.names
  (thn (hi pins s σ H _ I h) λv s1 h1=>thn h1 λitv s2 h2=>?_)) (λ_ s' hq=>Qm (Qm hq)) λ_ _ e=>e)
 obtain⟨it,fp,tn,J,H2,e,I2,T,r,f2,U⟩:=h2;subst e;refine Pj (RR:=λu C=>compPost (model X.prog X.w) X.A X.xe (some (assign (.Name x pos') X.env)) (λ_ s'=>SP X pins E .next s') u C) hc B Z ht he I2 T r f2 U ?_;intro D C s' H' ys j hD q I' F f dC ⟨m,hn⟩;obtain⟨R,P,l,G,O,L⟩:=F
 have Ip:Inv X (pins++FG [C] s'.heap) σ (upd H' D (.lst ys)) s':=I'.pinned (fp:=[C]) (λb d=>by
  have e:b=C:=by simpa using d
  subst e
  exact⟨R,P,l,G,O,L⟩) λb d=>by
   have e:b=C:=by simpa using d
   subst e;exact⟨j,f,dC⟩
 show wpAny _ X.A (assign (.Name x pos') X.env (.ref D)) _ _ _;refine wpAny_assign_Name (Gf Ip Y t (.inl y) (v:=.ref D) rfl (λs3 K=>?_) (.inr y));have S:=K.pin (C,j) (YN _ (YN _ (Gg (by simp) f)));obtain⟨oC',es,ep,c,n,p⟩:=hn;rw[f]at c;cases c;refine⟨m,⟨j,es,ep,S.1,n,p⟩,λh' sb=>⟨_,_,K.unpinned.turned (t':=s3.toks) (λb o d e=>(sb.2 b d).trans e) R P G O L,q D hD⟩⟩
end
theorem ObjOk.at(x:ObjOk P w H h a o):∃ u,h.get? a=some u:=by
 cases o with
 | lst xs=>obtain⟨_,_,_,_,e⟩:=x;exact⟨_,e⟩
 | tup xs=>obtain⟨_,_,_,c,e,_⟩:=x;exact⟨_,e⟩
 | dK b=>obtain⟨_,_,_,_,o,_,_,e,_⟩:=x;exact⟨_,e⟩
 | dT b=>obtain⟨_,_,_,_,o,_,_,e,_⟩:=x;exact⟨_,e⟩
 | set S n=>obtain⟨o,_,_,_,e,_⟩:=x;exact⟨_,e⟩
 | ins C dx fs=>obtain⟨_,_,_,e,_⟩:=x;exact⟨_,e⟩
 | own y=>obtain⟨_,e⟩:=x;exact⟨_,e⟩
 | xd fs=>obtain⟨_,⟨_,_,_,e,_⟩,_⟩:=x;exact⟨_,e⟩
 | rng lo hi=>obtain⟨_,_,_,e⟩:=x;exact⟨_,e⟩
 | frz c u=>obtain⟨e,_⟩:=x;exact⟨_,e⟩
 | tbl ps=>exact⟨_,(show h.get? a=some _ from x)⟩
 | met f y=>exact⟨_,(show h.get? a=some _ from x)⟩
 | ext φ=>obtain⟨_,⟨_,e⟩,_⟩:=x;exact⟨_,e⟩
structure Fly(P:Program)(w:World)(outer:List Env)(H0:Hp)(s0:Shared)(H':Hp)(e C:Addr)(s':Shared):Prop where
 os:s'.os=s0.os
 bare:AllBare s'.gens
 un:Un (frs outer) [] H0 H' s0.heap s'.heap
 hok:HOk P w H' s'.heap
 fly:∃(B:Heap)(a0:Value),Heap.FlyingW B outer e (.ref C) a0 s'.heap/\∀ b,b∉frs outer->((∃ o,s0.heap.get? b=some o)\/H' b≠none)->∃ o,B.get? b=some o
 new:s0.heap.get? e=none
 free:H' e=none
def CXe(P:Program)(w:World):CXT:=λouter H0 s0 E ev s'=>∃(e C:Addr)(H':Hp),ev=.ref e/\Fly P w outer H0 s0 H' e C s'/\E (.ref C) none H'
theorem Pl{B:Heap}(un:Un (frs outer) [] t H' j h1)(hok:HOk P w H' h1)(d:∀ b∈frs outer,H' b=none)(v:∀ b∈frs outer,∃ o,h1.get? b=some o/\∀ vs,o.data≠.fields vs)(y:B.StaysIn h1)(p:∀ b,b∉frs outer->((∃ o,j.get? b=some o)\/H' b≠none)->∃ o,B.get? b=some o)(st:B.StaysIn h')(up:h1.UpToSlots h'):Un (frs outer) [] t H' j h'/\HOk P w H' h':=by
 have exact_:∀ b o,b∉frs outer->((∃ o,j.get? b=some o)\/H' b≠none)->h1.get? b=some o->h'.get? b=some o:=λb o c k e=>by
  obtain⟨o',s⟩:=p b c k;have:=y b o' s;rw[e]at this;cases this;exact st b _ s
 refine⟨⟨λb o q n c f=>exact_ b o c (.inl ⟨o,q⟩) (un.keep b o q n c f),λb o q n c f=>?_,un.free,λb o q f=>?_,un.tups,un.frzs,un.tbls⟩,λa o e=>?_⟩
 ·obtain⟨A,i⟩:=un.slot b o q n c f;obtain⟨x,h,l⟩:=v b c;rw[i]at h;cases h;obtain⟨g,m⟩:=up b _ i l;exact⟨g,m⟩
 ·obtain⟨o',i⟩:=un.there b o q f;by_cases c:b∈frs outer
  ·obtain⟨x,h,l⟩:=v b c;obtain⟨g,m⟩:=up b _ h l;exact⟨_,m⟩
  ·exact⟨o',exact_ b o' c (.inl ⟨o,q⟩) i⟩
 ·refine(hok a o e).stay (λb u c q=>?_) (λ_ q=>q) λ_ _ q=>q
  have r:H' b≠none:=by
   rcases c with rfl | c
   ·rw[e];simp
   ·rw[c];simp
  exact exact_ b u (λz=>r (d b z)) (.inr r) q
section
theorem Fly.inv{σ:St}(I:Inv X pins σ H s)(F:Fly X.prog X.w X.stack H s H' e C s')(f:Heap.FlyingW B X.stack e (.ref C) h s'.heap)(d:∀ b,b∉frs X.stack->((∃ o,s.heap.get? b=some o)\/H' b≠none)->∃ o,B.get? b=some o)(st:B.StaysIn h')(up:s'.heap.UpToSlots h'):Inv X pins σ H' {s' with heap:=h'}:=by
 have a:∀ b∈frs X.stack,H' b=none:=λb c=>by
  obtain⟨_,o,g,_⟩:=I.stack.mem c;exact F.un.free b o g (I.stkFree b c) (by simp)
 obtain⟨u,k⟩:=Pl F.un F.hok a (λb c=>(f.2.2.1.mem c).2) f.1 d st up;exact I.call' (s':={s' with heap:=h'}) (ch:=[]) F.os u k F.bare (λb z=>absurd z (by simp))
end
theorem bx{K:PySem.W.Frag}:
  ap (CXe P w) (Bl (CXe P w) P w K mg base N qual scope f cd A outer s H E) E:=by
 intro pins σ Hc r ev s' I ⟨e,C,H',m,F,q⟩;subst m;obtain⟨B,n,l,h⟩:=F.fly;show wpAny _ _ (leaving _ (.ref e)) _ _ s';refine wpAny_leaves_onW I.ok.frames rfl l λh' g up=>?_;have c:=F.inv I l h g.1 up;refine⟨e,C,H',rfl,⟨c.os,c.bare,c.base,c.hok,⟨B,n,g,λb p d=>?_⟩,?_,F.free⟩,q⟩
 ·have k:b∉frs (Bl (CXe P w) P w K mg base N qual scope f cd A outer s H E).stack:=λz=>by
   rcases Yo.mp (c.stkSub b z)with a | a
   ·rcases d with⟨o,j⟩| i
    ·have h1:=Qo j;have h2:=I.ok.above;rw[a]at h1;exact absurd (Yu h1 h2) (YL _)
    ·rw[a]at i;exact i c.free
   ·exact p a
  refine h b k ?_;rcases d with⟨o,j⟩| i
  ·exact .inl (I.base.there b o j (by intro z;cases z))
  ·exact .inr i
 ·cases z:s.heap.get? e with
  | none=>rfl
  | some o =>
   obtain⟨o',a⟩:=I.base.there e o z (by intro z;cases z);rw[F.new]at a;cases a
theorem bz{K:PySem.W.Frag}{σ:St}(I:Inv (Bl (CXe P w) P w K mg base N qual scope f cd A outer s H E) pins σ Hc g)(h:Heap.MadeExcOf g.heap h1 e (.ref C) vs)(q:E (.ref C) none Hc):
  (Bl (CXe P w) P w K mg base N qual scope f cd A outer s H E).xe (.ref e) {g with heap:=h1}:=by
 have p:∀ env∈(Bl (CXe P w) P w K mg base N qual scope f cd A outer s H E).stack,∀ b,env.frame=some b->b∈frs (Bl (CXe P w) P w K mg base N qual scope f cd A outer s H E).stack:=λenv B b j=>List.mem_filterMap.mpr ⟨env,B,j⟩;show wpAny _ _ (leaving _ (.ref e)) _ _ _;refine wpAny_leaves_madeW (base:=PySem.W.hideAll g.heap (frs (Bl (CXe P w) P w K mg base N qual scope f cd A outer s H E).stack)) I.ok.frames rfl (λb o z=>PySem.W.of_hideAll _ z) (PySem.W.funFrames_hide I.stack p) h λh' t y v x up=>?_
 have m:∀ b,b∉frs (Bl (CXe P w) P w K mg base N qual scope f cd A outer s H E).stack->((∃ o,g.heap.get? b=some o)\/Hc b≠none)->∃ o,(PySem.W.hideAll g.heap (frs (Bl (CXe P w) P w K mg base N qual scope f cd A outer s H E).stack)).get? b=some o:=λb j c=>by
  have:∃ o,g.heap.get? b=some o:=by
   rcases c with z | z
   ·exact z
   ·cases a:Hc b with
    | none=>exact absurd a z
    | some o=>exact(I.hok b o a).at
  obtain⟨o,i⟩:=this;exact⟨o,PySem.W.hideAll_get _ i j⟩
 obtain⟨u,k⟩:=Pl (P:=P) (w:=w) (Un.kept h.keeps) (I.hok.kept h.keeps) I.stkFree (λb j=>by
  obtain⟨_,o,i,d⟩:=I.stack.mem j;exact⟨o,h.keeps _ _ i,d⟩) (λb o z=>h.keeps _ _ (PySem.W.of_hideAll _ z)) m y.1 up
 have l:=I.call' (s':={g with heap:=h'}) (ch:=[]) rfl u k I.bare (λb z=>absurd z (by simp))
 have en:Hc e=none:=by
  cases z:Hc e with
  | none=>rfl
  | some o =>
   obtain⟨o',a⟩:=(I.hok e o z).at
   rw[h.new]at a;cases a
 refine⟨e,C,Hc,rfl,⟨l.os,l.bare,l.base,l.hok,⟨_,_,y,λb j c=>?_⟩,?_,en⟩,q⟩
 ·have r:b∉frs (Bl (CXe P w) P w K mg base N qual scope f cd A outer s H E).stack:=λz=>by
   rcases Yo.mp (l.stkSub b z)with a | a
   ·rcases c with⟨o,i⟩| n
    ·have h1:=Qo i;have h2:=I.ok.above;rw[a]at h1;exact absurd (Yu h1 h2) (YL _)
    ·rw[a]at n;exact n l.free
   ·exact j a
  refine m b r ?_;rcases c with⟨o,i⟩| n
  ·exact .inl (I.base.there b o i (by intro z;cases z))
  ·exact .inr n
 ·cases z:s.heap.get? e with
  | none=>rfl
  | some o =>
   obtain⟨o',a⟩:=I.base.there e o z (by intro z;cases z);rw[h.new]at a;cases a
theorem bA{K:PySem.W.Frag}(X:K.In h)(q:PySem.W.excIn K C c a=true):
  ∃ bm N nm q bs hdct sn sub ab col dd k0 k1 k2 k3 k5 mN,h.get? C=some (excClassObj nm q C N bs bm hdct sn sub ab col dd k0 k1 k2 k3 k5 a)/\h.Ns N mN/\mN "__init__"=none/\OwnTail h c bm:=by
 unfold PySem.W.excIn at q;split at q
 ·rename_i dd cd g k;split at q
  ·rename_i m bm k0 k1 k2 k3 n k5 f hs;simp only[YG,beq_iff_eq,Bool.not_eq_true']at q;obtain⟨⟨⟨⟨⟨rfl,rfl⟩,b⟩,j⟩,hok⟩,d⟩:=q;obtain⟨nm,bs,mro,ns,qn,hd,sn,sub,ab,col,i⟩:=cd;dsimp only at f b hok d;subst f b
   have e:g=#[k0,k1,k2,k3,some (.builtin n),k5]:=by
    obtain⟨l⟩:=g;simp only at hs;rw[hs]
   subst e;exact⟨bm,ns,nm,qn,bs,hd,sn,sub,ab,col,dd,k0,k1,k2,k3,k5,_,X _ _ k,.of_isNs (PySem.W.isNs_of_in X hok),PySem.W.nsMap_none_of_in X hok d,PySem.W.tail_of_in X j⟩
  ·cases q
 ·cases q
def bB(C:Addr)(E:XK)(t:TA):TS:=λ_ σ H=>t σ H λvs H1=>vs.length<=sizeLine/\E (.ref C) none H1
section
theorem bC{K:PySem.W.Frag}{z cpos pos:Pos}{Ar:List Expr}(o:Gl (Bl (CXe P w) P w K mg base N qual scope f cd A outer s H E) x)(u:mg x=some (.ref C))(q:PySem.W.excIn K C bm b=true)(FB:ExcBaseFacts B b initId bm)(v:PA (Bl (CXe P w) P w K mg base N qual scope f cd A outer s H E) (a::Ar) t)(k:starEach (a::Ar) (Bl (CXe P w) P w K mg base N qual scope f cd A outer s H E).env=(false,eval a (Bl (CXe P w) P w K mg base N qual scope f cd A outer s H E).env)::starEach Ar (Bl (CXe P w) P w K mg base N qual scope f cd A outer s H E).env:=by rfl)(hplain:(backTo cpos (starEach Ar (Bl (CXe P w) P w K mg base N qual scope f cd A outer s H E).env)).any (·.1)=false:=by rfl)(hd:(x==("__debug__":Str))=false:=by decide):
  PS (Bl (CXe P w) P w K mg base N qual scope f cd A outer s H E) (.Raise (some (.Call (.Name x z) (a::Ar) [] cpos)) none pos) (bB C E t):=by
 intro pins r σ Hc D I h;obtain⟨tl,p,nm,n,bs,hdct,sn,sub,ab,col,dd,k0,k1,k2,k3,k5,mN,l,m,i,T⟩:=bA I.ok.mod.kin q
 refine wpAny_Raise_call_subT (C:=C) (nm:=nm) (q:=n) (N:=p) (bs:=bs) (bm:=tl) (hdct:=hdct) (sn:=sn) (sub:=sub) (ab:=ab) (col:=col) (dd:=dd) (k0:=k0) (k1:=k1) (k2:=k2) (k3:=k3) (k5:=k5)
  FB (mN:=mN) (T.hasType FB.hasBase) (I.ok.hd rfl) (by rw[k];show(false||(backTo cpos (starEach Ar _)).any (·.1))=false;rw[hplain];rfl) i (EM I o u ⟨rfl,?_⟩ hd)
 have c:=v cpos pins r σ Hc _ I h;rw[k]at c ⊢;refine Calls.evalArgs_plain (thn c λy F j=>?_);obtain⟨vs,H1,d,r1,G,q1⟩:=j;exact⟨rfl,by have:=r1.length;show y.length<=_;lia,d.bk _ _ l,m.keeps d.bk,T.keeps d.bk,λh' e g=>bz d g q1⟩
end
theorem bD{K:PySem.W.Frag}(X:K.In s.heap)(w:s.heap.get? e=some i)(a:i.cls=.ref C)(o:PySem.W.typeIn K (.ref D)=some (.type "type"))(f:(PySem.W.clsIn K D).isSome=true)(r:PySem.W.subIn K (.ref D) (.type "BaseException")=some true)(hs:PySem.W.subIn K (.ref C) (.ref D)=some b)(h:Q b s):
  wpAny M A (excMatches (.ref e) (.ref D)) Q E s:=by
 obtain⟨c,g,d,t,os⟩:=s;have n:PySem.W.Looks M c (isInstance (.ref D) (.type "tuple")) false:=(PySem.W.looks_typeIn X o).andThen (PySem.W.Looks.of_pure tc_notTuple)
 have j:PySem.W.Looks M c (isType (.ref D)) true:=by
  unfold PySem.W.clsIn at f;split at f
  ·rename_i x B l p v;intro F z y s' k q;unfold isType loadHead;exact Ql (wpAny_loadPart (k _ _ (X _ _ v)) (Qm q))
  ·cases f
 have u:PySem.W.Looks M c (isExcClass (.ref D)) true:=by
  unfold isExcClass;refine j.andThen ?_;rw[if_pos rfl];exact PySem.W.looks_subIn X r
 have L4:PySem.W.Looks M c (typeOf (.ref e)) (.ref C):=by
  rw[<- a];exact(PySem.W.Looks.ld w).andThen .now
 have m:=PySem.W.looks_subIn (M:=M) X hs;unfold excMatches;refine Ql (n.at ?_);rw[if_neg YW];show wpAny M A (forIn [Value.ref D] PUnit.unit _ >>=_) Q E _;rw[List.forIn_cons];refine Ql (Ql (Ql (u.at ?_)));rw[if_neg (by decide)];refine Qm ?_;refine Qm ?_;refine Ql (L4.at ?_);rw[List.forIn_cons];refine Ql (Ql (Ql (m.at ?_)));cases b with
 | true =>
  rw[if_pos rfl];exact Qm (Qm (Qm h))
 | false =>
  rw[if_neg YW];exact Qm (Qm (Qm h))
theorem Inv.gone{σ:St}(I:Inv X pins σ H s)(F:X.N.Nodup)(hi:X.N[i]?=some n)(L:s.heap.Ns X.env.locals m)(hl:∀(i:Nat)(x:Str)(v:V),X.N[i]?=some x->σ[i]?=some (some v)->Vis X.env.scope x->∃ u,RelV v u/\Ox X.env s.heap m x u)(h:h'.Ns X.env.locals (λx=>if x=n then w else m x))(hs:Heap.SameBut X.env.locals s.heap h'):
  Inv X pins (σ.set i none) H {s with heap:=h',toks:=tk}:=by
 have cne:=I.cne;have hiσ:i < σ.length:=by rw[I.len];exact(Qa.mp hi).1
 refine⟨I.ok,I.os,I.bare,⟨λb o e n r f=>?_,λb o e n r f=>?_,I.base.free,λb o e f=>?_,I.base.tups,I.base.frzs,I.base.tbls⟩,⟨_,h,λj y G a g K=>?_⟩,λy c e=>?_,I.free,I.freeC,λp D=>?_,λb J e=>?_,by simpa using I.len⟩
 ·exact(hs.2 b (Ys (Yu (Qo e) I.ok.above))).trans (I.base.keep b o e n r f)
 ·obtain⟨E,a⟩:=I.base.slot b o e n r f;exact⟨E,(hs.2 b (Ys (Yu (Qo e) I.ok.above))).trans a⟩
 ·obtain⟨o',a⟩:=I.base.there b o e f;exact⟨o',(hs.2 b (Ys (Yu (Qo e) I.ok.above))).trans a⟩
 ·by_cases l:j=i
  ·subst l;rw[List.getElem?_set_self hiσ]at g;cases g
  ·rw[List.getElem?_set_ne (YY l)]at g;obtain⟨A,r',q⟩:=hl j y G a g K;refine⟨A,r',?_⟩;rcases q with⟨k,e⟩|⟨k,c,e,z⟩
   ·refine .inl ⟨k,?_⟩;have:y≠n:=λe=>l (Kq F a (e▸hi));simp[this,e]
   ·exact .inr ⟨k,c,e,z.sameBut hs (cne y c e)⟩
 ·obtain⟨t,z⟩:=I.cell y c e;exact⟨t,z.sameBut hs (cne y c e)⟩
 ·obtain⟨e,n,ne,B,d⟩:=I.pin p D;exact⟨(hs.2 p.1 ne).trans e,n,ne,B,d⟩
 ·refine(I.hok b J e).stay (λc t hc q=>(hs.2 c ?_).trans q) (λ_ q=>q) λ_ _ q=>q;rintro rfl;rcases hc with hc | hc
  ·rw[<- hc,I.free]at e;cases e
  ·rw[I.free]at hc;cases hc
theorem Inv.track{σ:St}(I:Inv X pins σ H s)(h:H e=none)(l:e≠X.env.locals)(hc:∀ x c,X.env.cells.lookup x=some c->c≠e)(k:∀ p∈X.pn++pins,p.1≠e)(j:X.s₀.heap.get? e=none)(ok:ObjOk X.prog X.w (upd H e o) s.heap e o):Inv X pins σ (upd H e o) s:=by
 have a:∀ b u,H b=some u->upd H e o b=some u:=λb u z=>by rw[AZ (EL z h)];exact z
 refine⟨I.ok,I.os,I.bare,⟨I.base.keep,I.base.slot,λb f z n i=>?_,I.base.there,λb xs z=>a _ _ (I.base.tups b xs z),λb f u z=>a _ _ (I.base.frzs b f u z),λb ps z=>?_⟩,I.loc,I.cell,?_,λx c z=>?_,λp z=>?_,λb u z=>?_,I.len⟩
 ·rw[AZ (λq=>by rw[q,j]at z;cases z)];exact I.base.free b f z n i
 ·obtain⟨d,q⟩:=I.base.tbls b ps z;exact⟨d,a _ _ q⟩
 ·rw[AZ (YY l)];exact I.free
 ·rw[AZ (hc x c z)];exact I.freeC x c z
 ·obtain⟨q1,q2,q3⟩:=I.pin p z;exact⟨q1,by rw[AZ (k p z)];exact q2,q3⟩
 ·by_cases g:b=e
  ·subst g;rw[BS]at z;cases z;exact ok
  ·rw[AZ g]at z;exact(I.hok b u z).stay (λ_ _ _ q=>q) (λc q=>a _ _ q) λc xs q=>a _ _ q
def cxH(X:Cx)(e:Addr):Cx:={X with A:=X.A.mark (some (.ref e)),calm:=false,xe:=λ_ _=>False}
theorem Inv.toH{σ:St}(I:Inv X pins σ H s):Inv (cxH X e) pins σ H s :=
 ⟨⟨I.ok.mod,I.ok.kind,I.ok.glob,I.ok.blt,I.ok.above,I.ok.inj,I.ok.has,I.ok.cab,(λz=>by cases z),I.ok.frames,I.ok.stk,I.ok.exf,I.ok.bs,I.ok.bsz,I.ok.noex,I.ok.exfs,I.ok.funs,I.ok.frf⟩,I.os,I.bare,I.base,I.loc,I.cell,I.free,I.freeC,I.pin,I.hok,I.len⟩
theorem Inv.ofH{σ:St}(ok:X.Ok)(I:Inv (cxH X e) pins σ H s):Inv X pins σ H s :=
 ⟨ok,I.os,I.bare,I.base,I.loc,I.cell,I.free,I.freeC,I.pin,I.hok,I.len⟩
def cxT(X:Cx)(pn:List (Addr×Obj))(xe:Value->Shared->Prop):Cx:={X with pn:=pn,xe:=xe}
theorem Inv.toT{σ:St}(I:Inv X pins σ H s):Inv (cxT X (X.pn++pins) xe) [] σ H s :=
 ⟨⟨I.ok.mod,I.ok.kind,I.ok.glob,I.ok.blt,I.ok.above,I.ok.inj,I.ok.has,I.ok.cab,I.ok.hd,I.ok.frames,I.ok.stk,I.ok.exf,I.ok.bs,I.ok.bsz,I.ok.noex,I.ok.exfs,I.ok.funs,I.ok.frf⟩,I.os,I.bare,I.base,I.loc,I.cell,I.free,I.freeC,(λp a=>I.pin p (by simpa[cxT]using a)),I.hok,I.len⟩
theorem Inv.ofT{σ:St}(ok:X.Ok)(I:Inv (cxT X (X.pn++pins) xe) a σ H s):Inv X pins σ H s :=
 ⟨ok,I.os,I.bare,I.base,I.loc,I.cell,I.free,I.freeC,(λp b=>I.pin p (YM _ b)),I.hok,I.len⟩
def CN(e C:Addr):Heap->Prop:=λh=>∃ ox,h.get? e=some ox/\ox.cls=.ref C
def Gm(CX:CXT)(X:Cx)(Eσ:St->XK):Prop:=∀(pins:List (Addr×Obj))(σ:St)(H:Hp)(s:Shared)(e:Value)(s':Shared),Inv X pins σ H s->CX X.stack H s (Eσ σ) e s'->X.xe e s'
def bE(K:PySem.W.Frag)(D:Addr)(i:Nat)(tb:(St->XK)->TS)(th:TS):TS:=λDn σ H=>
 tb (λσ' Cv _ H'=>∃ C,Cv=.ref C/\PySem.W.subIn K (.ref C) (.ref D)=some true/\∀ e,H' e=none->
  th {nx:=λσ2 H2=>Dn.nx (σ2.set i none) H2,rt:=Dn.rt,bk:=λσ2 H2=>Dn.bk (σ2.set i none) H2,ct:=λσ2 H2=>Dn.ct (σ2.set i none) H2} (σ'.set i (some (.ref e))) (upd H' e (.ext (CN e C)))) Dn σ H
theorem bF(hN:X.N.Nodup)(hi:X.N[i]?=some n)(hn:X.env.scope.names.lookup n=some .local)(frm:X.stack=X.env::X.outer)(frl:X.env.frame=some X.env.locals)(hex:X.ex=[])(hgx:Gl X x)(hmx:X.mg x=some (.ref D))(hD:PySem.W.typeIn X.K (.ref D)=some (.type "type"))(hT:(PySem.W.clsIn X.K D).isSome=true)(hB:PySem.W.subIn X.K (.ref D) (.type "BaseException")=some true)(hb:∀(Eσ:St->XK)(pn:List (Addr×Obj))(xe:Value->Shared->Prop),Gm (CXe X.prog X.w) (cxT X pn xe) Eσ->PSs (cxT X pn xe) body (tb Eσ))(hh:∀ e,PSs (cxH X e) (b0::d) th)(hdb:(x==("__debug__":Str))=false:=by decide):
  PS X (.Try body [.ExceptHandler (some (.Name x np)) (some n) (b0::d) G] [] [] pos) (bE X.K D i tb th):=by
 intro pins s σ H Dn I h;refine wpAny_Try_except ?_
 let T:Value->Shared->Prop:=λev t=>wpAny (model X.prog X.w) X.A (noteFrame ev X.env) (λ_ s₂=>wpAny (model X.prog X.w) X.A (setFlight ev none) (λ_ s₃=>
  wpAny (model X.prog X.w) X.A (handleBy ev X.env [.ExceptHandler (some (.Name x np)) (some n) (b0::d) G]) (SP X pins Dn) X.xe s₃) X.xe s₂) X.xe t
 have ok:=I.ok;refine wpAny_mono (hb _ (X.pn++pins) T ?_ [] s σ H Dn I.toT h) (λf t q=>?_) (λev t q=>q)
 ·intro pins' σ' H' s' ev L Z hcx;obtain⟨e,C,H2,rfl,F,C',eC,hsub,q⟩:=hcx;cases eC;show T (.ref e) L;obtain⟨B,a0,fl,cov⟩:=F.fly;have fr:X.A.frames=some (X.env::X.outer):=by rw[<- frm];exact ok.frames
  have fl':Heap.FlyingW B (X.env::X.outer) e (.ref C) a0 L.heap:=by rw[<- frm];exact fl
  refine wpAny_looks_onW fr frl fl' λh₄ E y=>?_;refine wpAny_landsW E λh₅ j J=>?_;have I5:Inv X pins σ' H2 {L with heap:=h₅}:=Inv.ofT ok (F.inv Z fl cov j.1 (y.trans J));obtain⟨ob,hob,hobc⟩:=j.there;refine wpAny_handleBy_cons (codeAny_handlers_test (EM (X:=cxH X e) I5.toH hgx hmx ?_ hdb)) (by intro q;cases q);refine bD I5.kIn hob hobc hD hT hB hsub ?_;refine codeAny_handlers_suite_as ?_;refine lands_againW j λQ l R=>?_;have I6:Inv X pins σ' H2 {L with heap:=Q}:=Inv.ofT ok (F.inv Z fl cov l.1 ((y.trans J).trans R));have Y:∀ b o,s'.heap.get? b=some o->b≠e:=λb o z w=>by rw[w,F.new]at z;cases z
  obtain⟨oe,hoe,hoec⟩:=l.there
  have I7:Inv X pins σ' (upd H2 e (.ext (CN e C))) {L with heap:=Q}:=by
   refine I6.track F.free ?_ (λx c z=>?_) (λp z=>?_) ?_ ⟨⟨oe,hoe,hoec⟩,⟨oe,hoe⟩,(by rintro g1 g2 ⟨ox,z1,z2⟩ k;exact⟨ox,k _ z1,z2⟩)⟩
   ·obtain⟨m,hm,_⟩:=Z.loc;obtain⟨o,es,ep,ho,_⟩:=hm;exact(Y _ _ ho).symm
   ·obtain⟨v,o,ho,_⟩:=Z.cell x c z;exact Y _ _ ho
   ·exact Y _ _ (Z.pin p (YM _ z)).1
   ·cases z:X.s₀.heap.get? e with
    | none=>rfl
    | some o =>
     obtain⟨o',e1⟩:=Z.base.there e o z (λw=>by
      have w':e∈X.ex:=w;rw[hex]at w';cases w')
     rw[F.new]at e1;cases e1
  refine Gf (X:=cxH X e) I7.toH hN hi (.inl hn) (v:=.ref e) rfl (λs8 I8=>?_) (.inr hn);refine wpAny_mono (hh e pins s8 _ _ _ I8 (q e F.free)) (λf s9 q9=>?_) (λ_ _ z=>z.elim)
  have O:∀{σ9:St}{U:Hp}{K9:Shared->Prop},Inv (cxH X e) pins σ9 U s9->(∀ a,Inv X pins (σ9.set i none) U a->K9 a)->
    wpAny (model X.prog X.w) X.A (do bindName X.env n .none;unbindBehindTheSuite X.env n G) (λ_ a=>K9 a) X.xe s9:=λ{σ9 U K9}P k9=>by
   have I9':=Inv.ofH ok P;obtain⟨m,hm,hl⟩:=id I9'.loc;refine wpAny_nameGoes_keeps hn hm (by rw[ok.kind];rfl) λh' v hn' hs=>k9 _ (I9'.gone hN hi hm hl hn' hs)
  cases f with
  | next=>obtain⟨σ9,U,P,q9⟩:=q9;exact O P λa g=>⟨_,_,g,q9⟩
  | brk=>obtain⟨σ9,U,P,q9⟩:=q9;exact O P λa g=>⟨_,_,g,q9⟩
  | cont=>obtain⟨σ9,U,P,q9⟩:=q9;exact O P λa g=>⟨_,_,g,q9⟩
  | ret u=>obtain⟨v,σ9,U,P,r9,q9⟩:=q9;exact O P λa g=>⟨v,_,_,g,r9,q9⟩
 ·cases f with
  | next=>obtain⟨σ',H',S,q⟩:=q;exact wpAny_execs_nil ⟨σ',H',Inv.ofT ok S,q⟩
  | brk=>obtain⟨σ',H',S,q⟩:=q;exact⟨σ',H',Inv.ofT ok S,q⟩
  | cont=>obtain⟨σ',H',S,q⟩:=q;exact⟨σ',H',Inv.ofT ok S,q⟩
  | ret u=>obtain⟨v,σ',H',S,r,q⟩:=q;exact⟨v,σ',H',Inv.ofT ok S,r,q⟩
def Pn(sp:Sp)(dvs:List V)(Eσ:St->XK)(t:TA):TE:=λσ H Q=>t σ H λvs H1=>sp (vs++dvs) H1 Q (Eσ σ)
section
theorem bG{p pos:Pos}(F:FnOk X.prog X.w X.K X.mg X.base CX k f fd ps sp)(o:Room k X.A)(y:Gl X x)(m:X.mg x=some (.ref f))(z:PySem.W.keepIn X.K (.ref f)=true)(D:Binds X.K fd ps ds)(hd:Vals dvs ds)(l:Gm CX X Eσ)(v:PA X (e::es) t)(i:(x==("__debug__":Str))=false:=by decide)(n:starEach (e::es) X.env=(false,eval e X.env)::starEach es X.env:=by rfl)(d:(backTo pos (starEach es X.env)).any (·.1)=false:=by rfl):
  PE X (.Call (.Name x p) (e::es) [] pos) (Pn sp dvs Eσ t):=by
 intro pins s σ H Q I h;refine wpAny_Call_Name_kw (EM I y m ?_ i);refine PySem.W.callWith_K (h₀:=X.base) I.ok.mod.kin z (thn (v pos pins s σ H _ I h) λa g⟨vs,H1,c,r,q⟩=>⟨c.kIn,?_⟩) n d;have j:Vals (vs++dvs) (a++ds):=r.append hd;have hl:(a++ds).length=ps.length:=by rw[<- j.length];exact F.len _ _ _ _ q
 refine wpAny_call (codeAny_mono (F.run X.A X.stack g H1 ⟨a,[]⟩ (a++ds) (vs++dvs) Q (Eσ σ) o c.env0 (D g a c.kIn hl) j q) λr s' b=>?_);cases r with
 | error e=>exact l pins σ H1 g e s' c b
 | ok B =>
  cases B with
  | ret u=>exact c.after b
  | next=>exact Qk b
  | brk=>exact Qk b
  | cont=>exact Qk b
end
structure HE(k:Nat)(A:Around):Prop where
 dp:A.depth+3*k+5 < recursionLimit
 un:A.units+16*k+200 < cLine
structure KZ(P:Program)(w:World)(K:PySem.W.Frag)(mg:Str->Option Value)(base:Heap)(CX:CXT)(k:Nat)(f:Addr)(fd:FuncData)(ps:List Str)(sp:Sp):Prop where
 len:∀ vs H Q E,sp vs H Q E->vs.length=ps.length
 run:∀(A:Around)(outer:List Env)(s:Shared)(H:Hp)(args:Args)(us:List Value)(vs:List V)(Q:VK)(E:XK),HE k A->Env0 P w K mg base A outer s H->BindsTo s fd args (ps.zip us)->Vals vs us->sp vs H Q E->
  codeAny (model P w) A (.call (.ref f) args) (CR CX outer P w H s Q E) s
def cxN(P:Program)(w:World)(K:PySem.W.Frag)(mg:Str->Option Value)(base:Heap)(N:List Str)(qual:Str)(scope:Scope)(f:Addr)(cd:Value)(A:Around)(outer:List Env)(s:Shared)(H:Hp):Cx :=
 {Bl CX0 P w K mg base N qual scope f cd A outer s H E0 with calm:=false,xe:=λ_ _=>False}
theorem bH{K:PySem.W.Frag}{kV:Value}(lk:K.lookup f=some ⟨O,R,.func (PySem.W.fnOf name qual params body scope G kV i pm F cdv ct),p⟩)(D:PySem.W.codeIn K cdv qual=true)(S:AB N ps scope)(len:∀ vs H Q E,sp vs H Q E->vs.length=ps.length)(d:∀(A:Around)(outer:List Env)(s:Shared)(H:Hp)(vs:List V)(Q:VK)(E:XK),sp vs H Q E->∃ t,PSs (cxN P w K mg base N qual scope f cdv A outer s H) body t/\t {nx:=λ_ H'=>Q .non H',rt:=Q} (B8 N vs) H):
  KZ P w K mg base CX (k+1) f (PySem.W.fnOf name qual params body scope G kV i pm F cdv ct) ps sp:=by
 refine⟨len,λA outer s H L us vs Q E hr c hb r h=>?_⟩;have hl:=len _ _ _ _ h;have KX:K.In s.heap:=c.mod.kin.keeps λb o e=>(c.bs b o e).1;have m:s.heap.NoLimit:=c.mod.nolimit.keeps λb o e=>(c.bs b o e).1
 have g:∀ y∈ps.zip us,scope.names.lookup y.1=some .local\/(scope.names.lookup y.1=some .cell/\((cellsFrom (s.heap.objs.size+1) scope.names []).lookup y.1).isSome=true):=by
  rintro⟨n,v⟩ Y;rcases S.par n (List.of_mem_zip Y).1 with q | q
  ·exact .inl q
  ·exact .inr ⟨q,PySem.W.cellsFrom_some _ _ _ (.inl q)⟩
 refine codeAny_call_function (by have:=hr.dp;lia) (KX _ _ lk) rfl S.co S.gen rfl (PySem.W.codeRec_of KX D) (hb _ _ _ _ ?_);refine wpAny_newFunctionEnv_cells S.kind g λenv he l x=>?_;subst he;refine⟨m.keeps x.toInCall.keep,codeAny_func ?_⟩;obtain⟨t,U,X⟩:=d A outer s H vs Q E h;have Z:Env0 P w K mg base {A with handled:=none} outer s H:=⟨c.frames,c.mod,c.bs,c.bsz,c.funs,c.frf,c.hok,c.bare⟩;have a:Inv (Bl CX0 P w K mg base N qual scope f cdv {A with handled:=none} outer s H E0) [] (B8 N vs) H l:=OR S rfl Z hl r x
 have I:Inv (cxN P w K mg base N qual scope f cdv A outer s H) [] (B8 N vs) H l :=
  ⟨⟨a.ok.mod,a.ok.kind,a.ok.glob,a.ok.blt,a.ok.above,a.ok.inj,a.ok.has,a.ok.cab,(λz=>by cases z),Around.frames_deeper c.frames,a.ok.stk,a.ok.exf,a.ok.bs,a.ok.bsz,a.ok.noex,a.ok.exfs,a.ok.funs,a.ok.frf⟩,a.os,a.bare,a.base,a.loc,a.cell,a.free,a.freeC,a.pin,a.hok,a.len⟩
 refine wpAny_mono (U [] l (B8 N vs) H _ I X) (λT s' hs=>?_) λe s' hs=>hs.elim
 have j:∀{σ':St}{H':Hp}{v:V}{u:Value},Inv (cxN P w K mg base N qual scope f cdv A outer s H) [] σ' H' s'->RelV v u->Q v H'->CE outer P w H s Q u s' :=
  λ{σ' H' v u}J B q=>⟨v,H',J.os,J.bare,J.base,J.hok,B,q⟩
 cases T with
 | ret u =>
  obtain⟨v,σ',H',J,B,q⟩:=hs;exact j J B q
 | next =>
  obtain⟨σ',H',J,q⟩:=hs;exact j (v:=V.non) (u:=Value.none) J rfl q
 | brk =>
  obtain⟨_,_,_,q⟩:=hs;exact Qk q
 | cont =>
  obtain⟨_,_,_,q⟩:=hs;exact Qk q
section
theorem bI{p pos:Pos}(F:KZ X.prog X.w X.K X.mg X.base CX0 k f fd ps sp)(n:HE k X.A)(v:Gl X x)(l:X.mg x=some (.ref f))(y:PySem.W.keepIn X.K (.ref f)=true)(B:Binds X.K fd ps [])(o:PA X (e::es) t)(g:(x==("__debug__":Str))=false:=by decide)(m:starEach (e::es) X.env=(false,eval e X.env)::starEach es X.env:=by rfl)(d:(backTo pos (starEach es X.env)).any (·.1)=false:=by rfl):
  PE X (.Call (.Name x p) (e::es) [] pos) (ao sp [] E0 t):=by
 intro pins s σ H Q I h;refine wpAny_Call_Name_kw (EM I v l ?_ g);refine PySem.W.callWith_K (h₀:=X.base) I.ok.mod.kin y (thn (o pos pins s σ H _ I h) λa i⟨vs,H1,c,r,q⟩=>⟨c.kIn,?_⟩) m d;have j:Vals (vs++[]) (a++[]):=r.append .nil;have hl:(a++[]).length=ps.length:=by rw[<- j.length];exact F.len _ _ _ _ q
 refine wpAny_call (codeAny_mono (F.run X.A X.stack i H1 ⟨a,[]⟩ (a++[]) (vs++[]) Q E0 n c.env0 (B i a c.kIn hl) j q) λr s' b=>?_);cases r with
 | error e=>exact Qk b
 | ok z =>
  cases z with
  | ret u=>exact c.after b
  | next=>exact Qk b
  | brk=>exact Qk b
  | cont=>exact Qk b
end
end L2
namespace L3
open PySem PySem.Spec PyProof.Rows L2
abbrev St:=L2.St
inductive W where
 | non | bl (b:Bool)| int (i:Int)| str (x:Str)| tup (xs:List W)| rol (xs:List W)| ref (a:Addr)
inductive HW where
 | lst (xs:List W)| exc (C:Addr)| ins (C:Addr) (fs:List (Str×W))| dct (kvs:List (Key×W))
abbrev Sw:=List (Option W)
abbrev Hw:=Addr->Option HW
def put(H:Hw)(a:Addr)(o:HW):Hw:=λb=>if b=a then some o else H b
theorem Aj:put H a o a=some o:=by unfold put;rw[if_pos rfl]
theorem Av(h:b≠a):put H a o b=H b:=by unfold put;rw[if_neg h]
section
variable (K:PySem.W.Frag)
def RoL(H:Hp)(a:Addr)(xs:List V):Prop:=(∃ o,H a=some (.frz o (.lst xs)))\/
 ∃(o:Obj)(its:Array Value)(n:Nat),K.lookup a=some o/\o.cls=.type "list"/\o.dict=none/\o.data=.seq its n/\its.size<=sizeLine/\Vals xs its.toList
theorem RoL.sq{K:PySem.W.Frag}(h:RoL K H a xs):SqL K H a xs:=by
 rcases h with⟨o,h⟩| h
 ·exact .inl (.inr ⟨o,h⟩)
 ·exact .inr h
mutual
inductive Tr(H:Hp):V->W->Prop where
 | non:Tr H .non .non
 | bl (b:Bool):Tr H (.bl b) (.bl b)
 | int (i:Int):Tr H (.int i) (.int i)
 | str (x:Str):Tr H (.str x) (.str x)
 | tup {a:Addr} {vs:List V} {ws:List W}:SqT K H a vs->TrL H vs ws->Tr H (.ref a) (.tup ws)
 | rol {a:Addr} {vs:List V} {ws:List W}:RoL K H a vs->TrL H vs ws->Tr H (.ref a) (.rol ws)
 | ref (a:Addr):Tr H (.ref a) (.ref a)
inductive TrL(H:Hp):List V->List W->Prop where
 | nil:TrL H [] []
 | cons {v:V} {w:W} {vs:List V} {ws:List W}:Tr H v w->TrL H vs ws->TrL H (v::vs) (w::ws)
end
inductive TrP{α:Type}(H:Hp):List (α×V)->List (α×W)->Prop where
 | nil:TrP H [] []
 | cons {f:α} {v:V} {w:W} {vs:List (α×V)} {ws:List (α×W)}:Tr K H v w->TrP H vs ws->TrP H ((f,v)::vs) ((f,w)::ws)
structure Mono(H H':Hp):Prop where
 tup:∀ a vs,SqT K H a vs->SqT K H' a vs
 rol:∀ a vs,RoL K H a vs->RoL K H' a vs
def RelO2(H:Hp)(a:Addr):HW->Prop
 | .lst ws=>∃ vs,H a=some (.lst vs)/\TrL K H vs ws
 | .exc C=>H a=some (.ext (CN a C))
 | .ins C ws=>∃ dx vs,H a=some (.ins C dx vs)/\TrP K H vs ws
 | .dct ws=>∃ vs,H a=some (.dK vs)/\TrP K H vs ws
def RelH(H:Hp)(G:Hw):Prop:=∀ a o,G a=some o->RelO2 K H a o
structure TrSt(H:Hp)(σ:St)(ω:Sw):Prop where
 len:σ.length=ω.length
 get:∀(i:Nat)(w:W),ω[i]?=some (some w)->∃ v,σ[i]?=some (some v)/\Tr K H v w
end
variable {K:PySem.W.Frag}{H H':Hp}
theorem Mono.refl:Mono K H H:=⟨λ_ _ h=>h,λ_ _ h=>h⟩
theorem Mono.trans(m:Mono K H H')(b:Mono K H' H2):Mono K H H2:=⟨λa vs h=>b.tup a vs (m.tup a vs h),λa vs h=>b.rol a vs (m.rol a vs h)⟩
mutual
theorem Tr.mono(m:Mono K H H'){v:V}{w:W}(t:Tr K H v w):Tr K H' v w:=by
 cases t with
 | non=>exact .non
 | bl b=>exact .bl b
 | int i=>exact .int i
 | str x=>exact .str x
 | tup h l=>exact .tup (m.tup _ _ h) (TrL.mono m l)
 | rol h l=>exact .rol (m.rol _ _ h) (TrL.mono m l)
 | ref a=>exact .ref a
theorem TrL.mono(m:Mono K H H'){vs:List V}{a:List W}(t:TrL K H vs a):TrL K H' vs a:=by
 cases t with
 | nil=>exact .nil
 | cons h l=>exact .cons (Tr.mono m h) (TrL.mono m l)
end
theorem TrP.mono{α:Type}(m:Mono K H H'):∀{vs:List (α×V)}{a:List (α×W)},TrP K H vs a->TrP K H' vs a
 | _,_,.nil=>.nil
 | _,_,.cons r t=>.cons (r.mono m) (TrP.mono m t)
theorem RelO2.mono(m:Mono K H H')(e:H' a=H a):∀{o:HW},RelO2 K H a o->RelO2 K H' a o
 | .lst b,⟨vs,z,t⟩=>⟨vs,e.trans z,t.mono m⟩
 | .exc C,z=>(e.trans z:H' a=_)
 | .ins C b,⟨dx,vs,z,t⟩=>⟨dx,vs,e.trans z,t.mono m⟩
 | .dct b,⟨vs,z,t⟩=>⟨vs,e.trans z,t.mono m⟩
theorem RelO2.some:∀{o:HW},RelO2 K H a o->H a≠none
 | .lst b,⟨vs,z,t⟩,q=>by rw[q]at z;cases z
 | .exc C,z,q=>by rw[show H a=_ from z]at q;cases q
 | .ins C b,⟨dx,vs,z,t⟩,q=>by rw[q]at z;cases z
 | .dct b,⟨vs,z,t⟩,q=>by rw[q]at z;cases z
theorem TrSt.mono(m:Mono K H H')(t:TrSt K H σ ω):TrSt K H' σ ω:=⟨t.len,λi w e=>let⟨v,e',r⟩:=t.get i w e;⟨v,e',r.mono m⟩⟩
theorem TrSt.set(t:TrSt K H σ ω)(i:Nat)(r:Tr K H v w):TrSt K H (σ.set i (some v)) (ω.set i (some w)):=by
 refine⟨by simp[t.len],λj u e=>?_⟩;by_cases h:i=j
 ·subst h;by_cases hl:i < ω.length
  ·rw[List.getElem?_set_self hl]at e;cases e;exact⟨v,List.getElem?_set_self (by rw[t.len];exact hl),r⟩
  ·rw[Qh (by simp;lia)]at e;cases e
 ·rw[List.getElem?_set_ne h]at e;obtain⟨b,a,r'⟩:=t.get j u e;exact⟨b,by rw[List.getElem?_set_ne h];exact a,r'⟩
theorem TrSt.unset(t:TrSt K H σ ω)(i:Nat):TrSt K H (σ.set i none) (ω.set i none):=by
 refine⟨by simp[t.len],λj u e=>?_⟩;by_cases h:i=j
 ·subst h;by_cases hl:i < ω.length
  ·rw[List.getElem?_set_self hl]at e;cases e
  ·rw[Qh (by simp;lia)]at e;cases e
 ·rw[List.getElem?_set_ne h]at e;obtain⟨b,a,r'⟩:=t.get j u e;exact⟨b,by rw[List.getElem?_set_ne h];exact a,r'⟩
theorem TrL.length:∀{vs:List V}{a:List W},TrL K H vs a->vs.length=a.length
 | _,_,.nil=>rfl
 | _,_,.cons _ t=>congrArg (·+1) t.length
theorem TrL.get:∀{vs:List V}{a:List W}{i:Nat}{w:W},TrL K H vs a->a[i]?=some w->∃ v,vs[i]?=some v/\Tr K H v w
 | _,_,_,_,.nil,e=>by simp at e
 | _,_,0,_,.cons r _,e=>by simp at e;subst e;exact⟨_,rfl,r⟩
 | _,_,i+1,w,.cons _ t,e=>by
  obtain⟨v,h1,h2⟩:=TrL.get (i:=i) (w:=w) t (by simpa using e);exact⟨v,by simpa using h1,h2⟩
theorem TrL.get':∀{vs:List V}{a:List W}{i:Nat}{v:V},TrL K H vs a->vs[i]?=some v->∃ w,a[i]?=some w/\Tr K H v w
 | _,_,_,_,.nil,e=>by simp at e
 | _,_,0,_,.cons r _,e=>by simp at e;subst e;exact⟨_,rfl,r⟩
 | _,_,i+1,v,.cons _ t,e=>by
  obtain⟨w,h1,h2⟩:=TrL.get' (i:=i) (v:=v) t (by simpa using e);exact⟨w,by simpa using h1,h2⟩
theorem TrL.append:∀{vs b:List V}{c a:List W},TrL K H vs c->TrL K H b a->TrL K H (vs++b) (c++a)
 | _,_,_,_,.nil,s=>s
 | _,_,_,_,.cons r t,s=>.cons r (t.append s)
theorem TrL.set(r:Tr K H v w):∀{vs:List V}{a:List W}(i:Nat),TrL K H vs a->TrL K H (vs.set i v) (a.set i w)
 | _,_,_,.nil=>.nil
 | _,_,0,.cons _ t=>.cons r t
 | _,_,i+1,.cons q t=>.cons q (TrL.set r i t)
theorem TrL.take:∀{vs:List V}{a:List W}(n:Nat),TrL K H vs a->TrL K H (vs.take n) (a.take n)
 | _,_,0,_=>.nil
 | _,_,_+1,.nil=>.nil
 | _,_,n+1,.cons r t=>.cons r (TrL.take n t)
theorem TrL.drop:∀{vs:List V}{a:List W}(n:Nat),TrL K H vs a->TrL K H (vs.drop n) (a.drop n)
 | _,_,0,r=>r
 | _,_,_+1,.nil=>.nil
 | _,_,n+1,.cons _ t=>TrL.drop n t
theorem K0(h:SqT K H a vs)(f:∀ xs,H b≠some (.tup xs))(d:∀ c xs,H b≠some (.frz c (.tup xs))):SqT K (upd H b o) a vs:=by
 rcases h with(h |⟨c,h⟩)| h
 ·exact .inl (.inl (by rw[AZ (λe=>f _ (e▸h))];exact h))
 ·exact .inl (.inr ⟨c,by rw[AZ (λe=>d _ _ (e▸h))];exact h⟩)
 ·exact .inr h
theorem K1(h:RoL K H a vs)(d:∀ c u,H b≠some (.frz c u)):RoL K (upd H b o) a vs:=by
 rcases h with⟨c,h⟩| h
 ·exact .inl ⟨c,by rw[AZ (λe=>d _ _ (e▸h))];exact h⟩
 ·exact .inr h
theorem Mono.new(b:H p=none)(o:HO):Mono K H (upd H p o):=
 ⟨λa vs h=>K0 h (λxs e=>by rw[b]at e;cases e) (λc xs e=>by rw[b]at e;cases e),λa vs h=>K1 h (λc xs e=>by rw[b]at e;cases e)⟩
theorem Mono.lst(b:H p=some (.lst xs))(o:HO):Mono K H (upd H p o):=
 ⟨λa vs h=>K0 h (λxs e=>by rw[b]at e;cases e) (λc xs e=>by rw[b]at e;cases e),λa vs h=>K1 h (λc xs e=>by rw[b]at e;cases e)⟩
theorem Mono.was(b:H p=some o')(o:HO)(h1:∀ xs,o'≠.tup xs)(h2:∀ c u,o'≠.frz c u):Mono K H (upd H p o):=
 ⟨λa vs h=>K0 h (λxs e=>by rw[b]at e;exact h1 _ (YE e)) (λc xs e=>by rw[b]at e;exact h2 _ _ (YE e)),λa vs h=>K1 h (λc xs e=>by rw[b]at e;exact h2 _ _ (YE e))⟩
theorem RelH.no(r:RelH K H G)(a:H p=none):G p=none:=by
 cases e:G p with
 | none=>rfl
 | some o=>exact absurd a (r p o e).some
theorem RelH.mono0(r:RelH K H G)(b:H p=none):RelH K (upd H p o) G:=λa u e=>
 have q:=r a u e
 q.mono (Mono.new b o) (AZ (by rintro rfl;exact q.some b))
theorem RelH.laid(r:RelH K H G)(m:Mono K H (upd H p o))(t:RelO2 K (upd H p o) p u):RelH K (upd H p o) (put G p u):=λa b e=>by
 by_cases h:a=p
 ·subst h;rw[Aj]at e;cases e;exact t
 ·rw[Av h]at e;exact(r a _ e).mono m (AZ h)
theorem RelH.new(r:RelH K H G)(b:H p=none)(t:TrL K H vs a):RelH K (upd H p (.lst vs)) (put G p (.lst a)):=
 r.laid (Mono.new b _) ⟨vs,BS,t.mono (Mono.new b _)⟩
theorem RelH.chg(r:RelH K H G)(b:H p=some (.lst xs))(t:TrL K H vs a):RelH K (upd H p (.lst vs)) (put G p (.lst a)):=
 r.laid (Mono.lst b _) ⟨vs,BS,t.mono (Mono.lst b _)⟩
abbrev Kw:=W->Hw->Prop
abbrev GE:=Sw->Hw->Kw->Prop
abbrev GT:=Sw->Hw->(Bool->Hw->Prop)->Prop
abbrev GA:=Sw->Hw->(List W->Hw->Prop)->Prop
structure Ew where
 nx:Sw->Hw->Prop
 rt:Kw
 bk:Sw->Hw->Prop
 ct:Sw->Hw->Prop
abbrev GS:=Ew->Sw->Hw->Prop
abbrev GG:=W->Sw->Hw->(Sw->Hw->Prop)->Prop
def GE.M(g:GE):Prop:=∀ ω G(Q Q':Kw),(∀ w G',Q w G'->Q' w G')->g ω G Q->g ω G Q'
def GT.M(g:GT):Prop:=∀ ω G(Q Q':Bool->Hw->Prop),(∀ w G',Q w G'->Q' w G')->g ω G Q->g ω G Q'
def GA.M(g:GA):Prop:=∀ ω G(Q Q':List W->Hw->Prop),(∀ w G',Q w G'->Q' w G')->g ω G Q->g ω G Q'
def GS.M(g:GS):Prop:=∀ ω G(D D':Ew),(∀ a b,D.nx a b->D'.nx a b)->(∀ a b,D.rt a b->D'.rt a b)->(∀ a b,D.bk a b->D'.bk a b)->(∀ a b,D.ct a b->D'.ct a b)->g D ω G->g D' ω G
def GG.M(g:GG):Prop:=∀ w ω G(Q Q':Sw->Hw->Prop),(∀ a b,Q a b->Q' a b)->g w ω G Q->g w ω G Q'
def dn(K:PySem.W.Frag)(H:Hp)(Q:VK):Kw:=λw G=>∀ v H',Mono K H H'->Tr K H' v w->RelH K H' G->Q v H'
def dnT(K:PySem.W.Frag)(H:Hp)(Q:Bool->Hp->Prop):Bool->Hw->Prop:=λb G=>∀ H',Mono K H H'->RelH K H' G->Q b H'
def dnA(K:PySem.W.Frag)(H:Hp)(Q:List V->Hp->Prop):List W->Hw->Prop:=λws G=>∀ vs H',Mono K H H'->TrL K H' vs ws->RelH K H' G->Q vs H'
def dnS(K:PySem.W.Frag)(H:Hp)(Q:St->Hp->Prop):Sw->Hw->Prop:=λω G=>∀ σ H',Mono K H H'->TrSt K H' σ ω->RelH K H' G->Q σ H'
def dnD(K:PySem.W.Frag)(H:Hp)(D:FD):Ew:=⟨dnS K H D.nx,dn K H D.rt,dnS K H D.bk,dnS K H D.ct⟩
theorem Cj(m:Mono K H H')(q:dn K H Q w G):dn K H' Q w G:=λv H2 a t r=>q v H2 (m.trans a) t r
theorem Po(m:Mono K H H')(q:dnT K H Q w G):dnT K H' Q w G:=λH2 a r=>q H2 (m.trans a) r
theorem bJ(m:Mono K H H')(q:dnS K H Q w G):dnS K H' Q w G:=λv H2 a t r=>q v H2 (m.trans a) t r
def up(K:PySem.W.Frag)(g:GE):TE:=λσ H Q=>∃ ω G,TrSt K H σ ω/\RelH K H G/\g ω G (dn K H Q)
def upT(K:PySem.W.Frag)(g:GT):TT:=λσ H Q=>∃ ω G,TrSt K H σ ω/\RelH K H G/\g ω G (dnT K H Q)
def upA(K:PySem.W.Frag)(g:GA):TA:=λσ H Q=>∃ ω G,TrSt K H σ ω/\RelH K H G/\g ω G (dnA K H Q)
def upS(K:PySem.W.Frag)(B:Hp)(g:GS):TS:=λD σ H=>∃ ω G,TrSt K H σ ω/\RelH K H G/\Mono K B H/\g (dnD K B D) ω G
theorem A7(h:PE X e t)(i:∀ σ H Q,t' σ H Q->t σ H Q):PE X e t':=λpins s σ H Q I q=>h pins s σ H Q I (i σ H Q q)
theorem HF(h:PT X e t)(i:∀ σ H Q,t' σ H Q->t σ H Q):PT X e t':=λpins s σ H Q I q=>h pins s σ H Q I (i σ H Q q)
theorem Pp(h:PA X e t)(i:∀ σ H Q,t' σ H Q->t σ H Q):PA X e t':=λpos pins s σ H Q I q=>h pos pins s σ H Q I (i σ H Q q)
theorem C1(h:PS X e t)(i:∀ D σ H,t' D σ H->t D σ H):PS X e t':=λpins s σ H D I q=>h pins s σ H D I (i D σ H q)
theorem K2(h:PSs X e t)(i:∀ D σ H,t' D σ H->t D σ H):PSs X e t':=λpins s σ H D I q=>h pins s σ H D I (i D σ H q)
section
variable {X:Cx}{e:Expr}{es:List Expr}{ga gb:GE}
abbrev PEw(X:Cx)(e:Expr)(g:GE):Prop:=PE X e (up X.K g)
abbrev PTw(X:Cx)(e:Expr)(g:GT):Prop:=PT X e (upT X.K g)
abbrev PAw(X:Cx)(es:List Expr)(g:GA):Prop:=PA X es (upA X.K g)
abbrev PSw(X:Cx)(P:Hp->Prop)(st:Stmt)(g:GS):Prop:=∀ B,P B->PS X st (upS X.K B g)
abbrev Dw(X:Cx)(P:Hp->Prop)(st:List Stmt)(g:GS):Prop:=∀ B,P B->PSs X st (upS X.K B g)
abbrev Pr:Hp->Prop:=λ_=>True
abbrev atB(X:Cx):Hp->Prop:=λB=>B=X.H₀
def gC(w:W):GE:=λ_ G Q=>Q w G
def Ab(i:Nat):GE:=λω G Q=>match ω[i]? with | some (some w)=>Q w G | _=>False
theorem FL:GE.M (gC w):=λ_ _ _ _ h q=>h _ _ q
theorem bK:GE.M (Ab i):=λω G Q a h q=>by
 have z:Ab i ω G Q=(match ω[i]? with | some (some w)=>Q w G | _=>False):=rfl;have b:Ab i ω G a=(match ω[i]? with | some (some w)=>a w G | _=>False):=rfl;rw[z]at q;rw[b];cases e:ω[i]? with
 | none=>rw[e]at q;exact q
 | some o =>
  cases o with
  | none=>rw[e]at q;exact q
  | some w=>rw[e]at q;exact h _ _ q
theorem bL(b:X.N[i]?=some x)(c:Vis X.env.scope x)(hd:(x==("__debug__":Str))=false)(a:(x==("__classdict__":Str))=false):PEw X (.Name x pos) (Ab i):=
 A7 (Oz b c hd a) <| by
  rintro σ H Q ⟨ω,G,d,r,q⟩;unfold Ab at q;split at q
  ·rename_i w z;obtain⟨v,e,t⟩:=d.get i w z;exact⟨v,e,q v H .refl t r⟩
  ·exact q.elim
theorem bM{j}:PEw X (.Constant (.int i) j pos) (gC (.int i)):=A7 Y3 (by rintro σ H Q ⟨ω,G,a,r,q⟩;exact q _ H .refl (.int i) r)
theorem bN{j}:PEw X (.Constant (.bool i) j pos) (gC (.bl i)):=A7 Y4 (by rintro σ H Q ⟨ω,G,a,r,q⟩;exact q _ H .refl (.bl i) r)
theorem bO{j}:PEw X (.Constant .none j pos) (gC .non):=A7 Y5 (by rintro σ H Q ⟨ω,G,a,r,q⟩;exact q _ H .refl .non r)
theorem bP{j}:PEw X (.Constant (.str i) j pos) (gC (.str i)):=A7 OA (by rintro σ H Q ⟨ω,G,a,r,q⟩;exact q _ H .refl (.str i) r)
theorem Ps(c:Gl X x)(b:X.mg x=some u)(a:RelV v u)(t:∀ H,Tr X.K H v w)(hd:(x==("__debug__":Str))=false):PEw X (.Name x pos) (gC w):=
 A7 (OC c b a hd) (by rintro σ H Q ⟨ω,G,d,r,q⟩;exact q _ H .refl (t H) r)
abbrev RW2:=W->W->Hw->Kw->Prop
def RW2.M(r:RW2):Prop:=∀ x y G(Q Q':Kw),(∀ w G',Q w G'->Q' w G')->r x y G Q->r x y G Q'
def Ad(r:RW2)(ga gb:GE):GE:=λω G Q=>ga ω G λx G1=>gb ω G1 λy G2=>r x y G2 Q
theorem CA(mr:r.M)(a:ga.M)(mb:gb.M):GE.M (Ad r ga gb):=λω G Q b h q=>a _ _ _ _ (λx c q1=>mb _ _ _ _ (λy d q2=>mr _ _ _ _ _ h q2) q1) q
theorem HG(mr:r.M)(k:ga.M)(mb:gb.M)(i:∀(x y:W)(v u:V)(G:Hw)(H:Hp)(Q:VK),Tr K H v x->Tr K H u y->RelH K H G->r x y G (dn K H Q)->r2 v u H Q)(σ:St)(H:Hp)(Q:VK)(h:up K (Ad r ga gb) σ H Q):tOp r2 (up K ga) (up K gb) σ H Q:=by
 obtain⟨ω,G,c,j,q⟩:=h;refine⟨ω,G,c,j,k _ _ _ _ (λx g q1 v H1 d f r1=>?_) q⟩;refine⟨ω,g,c.mono d,r1,mb _ _ _ _ (λy e q2 u H2 b ty a=>?_) q1⟩;exact i x y v u e H2 Q (f.mono b) ty a (mr _ _ _ _ _ (λw l z=>Cj (d.trans b) z) q2)
theorem D5(c:OpR X (binaryOp op) r2)(mr:r.M)(f:ga.M)(mb:gb.M)(d:∀(x y:W)(v u:V)(G:Hw)(H:Hp)(Q:VK),Tr X.K H v x->Tr X.K H u y->RelH X.K H G->r x y G (dn X.K H Q)->r2 v u H Q)(e:PEw X a ga)(g:PEw X b gb):PEw X (.BinOp a op b pos) (Ad r ga gb):=A7 (ZN c e g) (HG mr f mb d)
theorem bQ(d:OpR X (compareOp op) r2)(mr:r.M)(g:ga.M)(mb:gb.M)(e:∀(x y:W)(v u:V)(G:Hw)(H:Hp)(Q:VK),Tr X.K H v x->Tr X.K H u y->RelH X.K H G->r x y G (dn X.K H Q)->r2 v u H Q)(f:PEw X a ga)(h:PEw X b gb)(c:behindInMarks op b=false):PEw X (.Compare a [op] [b] pos) (Ad r ga gb):=A7 (Z4 d f h c) (HG mr g mb e)
theorem Pt(c:IxR X r2)(mr:r.M)(f:ga.M)(mb:gb.M)(d:∀(x y:W)(v u:V)(G:Hw)(H:Hp)(Q:VK),Tr X.K H v x->Tr X.K H u y->RelH X.K H G->r x y G (dn X.K H Q)->r2 v u H Q)(e:PEw X a ga)(g:PEw X b gb)(hs:HA b):PEw X (.Subscript a b pos) (Ad r ga gb):=A7 (aD c e g hs) (HG mr f mb d)
end
abbrev Xw:=Sw->Addr->Hw->Prop
abbrev XF:Xw:=λ_ _ _=>False
def upX(K:PySem.W.Frag)(ex:Xw):St->XK:=λσ Cv _ H'=>∃ C ω G,Cv=.ref C/\TrSt K H' σ ω/\RelH K H' G/\ex ω C G
abbrev D6(X:Cx)(ex:Xw):Prop:=Gm (CXe X.prog X.w) X (upX X.K ex)
theorem Un.mono'(u:Un fs b H H' h h'):Mono K H H':=by
 refine⟨λa vs q=>?_,λa vs q=>?_⟩
 ·rcases q with(q |⟨o,q⟩)| q
  ·exact .inl (.inl (u.tups a vs q))
  ·exact .inl (.inr ⟨o,u.frzs a o _ q⟩)
  ·exact .inr q
 ·rcases q with⟨o,q⟩| q
  ·exact .inl ⟨o,u.frzs a o _ q⟩
  ·exact .inr q
abbrev Spw:=List W->Hw->Kw->(Addr->Hw->Prop)->Prop
def dnX(K:PySem.W.Frag)(H:Hp)(E:XK):Addr->Hw->Prop:=λC G'=>∀ H',Mono K H H'->RelH K H' G'->E (.ref C) none H'
def Dx(K:PySem.W.Frag)(sp:Spw):Sp:=λvs H Q E=>∃ ws G,TrL K H vs ws/\RelH K H G/\sp ws G (dn K H Q) (dnX K H E)
def Spw.M(sp:Spw):Prop:=∀ ws G(Q Q':Kw)(E E':Addr->Hw->Prop),(∀ w G',Q w G'->Q' w G')->(∀ w G',E w G'->E' w G')->sp ws G Q E->sp ws G Q' E'
structure Df(P:Program)(w:World)(K:PySem.W.Frag)(mg:Str->Option Value)(base:Heap)(x:Str)(k n:Nat)(sp:Spw):Prop where
 ex:∃(f:Addr)(fd:FuncData)(ps:List Str),mg x=some (.ref f)/\PySem.W.keepIn K (.ref f)=true/\Binds K fd ps []/\ps.length=n/\FnOk P w K mg base (CXe P w) k f fd ps (Dx K sp)
 mono:sp.M
section
variable {gs:GA}{ex:Xw}
def Ac:GA:=λ_ G Q=>Q [] G
def Aa(g:GE)(gs:GA):GA:=λω G Q=>g ω G λx G1=>gs ω G1 λxs G2=>Q (x::xs) G2
theorem Pu:GA.M Ac:=λ_ _ _ _ h q=>h _ _ q
theorem Pv(b:ga.M)(a:gs.M):GA.M (Aa ga gs):=λω G Q c h q=>b _ _ _ _ (λx e q1=>a _ _ _ _ (λxs d q2=>h _ _ q2) q1) q
theorem bR:PAw X [] Ac:=Pp Gh (by rintro σ H Q ⟨ω,G,a,r,q⟩;exact q [] H .refl .nil r)
theorem bU(k:ga.M)(g:gs.M)(j:PEw X e ga)(hs:PAw X es gs)(b:starEach (e::es) X.env=(false,eval e X.env)::starEach es X.env:=by rfl):PAw X (e::es) (Aa ga gs):=
 Pp (ER j hs b) (by rintro σ H Q ⟨ω,G,d,r,q⟩;exact⟨ω,G,d,r,k _ _ _ _ (λx i q1 v H1 f h r1=>⟨ω,i,d.mono f,r1,g _ _ _ _ (λxs m q2 vs H2 c a l=>q2 _ H2 (f.trans c) (.cons (h.mono c) a) l) q1⟩) q⟩)
def Ag(sp:Spw)(ex:Xw)(gs:GA):GE:=λω G Q=>gs ω G λws G1=>sp ws G1 Q (ex ω)
theorem Pw(m:sp.M)(a:gs.M):GE.M (Ag sp ex gs):=λω G Q b h q=>a _ _ _ _ (λd c q1=>m _ _ _ _ _ _ h (λ_ _ z=>z) q1) q
theorem bV{pos p:Pos}(D:Df X.prog X.w X.K X.mg X.base x k n sp)(v:Room k X.A)(j:Gl X x)(o:D6 X ex)(m:gs.M)(y:PAw X (e::es) gs)(d:(x==("__debug__":Str))=false:=by decide)(E:starEach (e::es) X.env=(false,eval e X.env)::starEach es X.env:=by rfl)(b:(backTo pos (starEach es X.env)).any (·.1)=false:=by rfl):
  PEw X (.Call (.Name x p) (e::es) [] pos) (Ag sp ex gs):=by
 obtain⟨f,fd,ps,s,B,J,_,F⟩:=D.ex;refine A7 (bG F v j s B J .nil o y d E b) λσ H Q c=>?_;obtain⟨ω,G,h,r,q⟩:=c;refine⟨ω,G,h,r,m _ _ _ _ (λI u q1 vs H1 i a r1=>?_) q⟩;refine⟨I,u,by rw[Yx];exact a,r1,D.mono _ _ _ _ _ _ (λw g z=>Cj i z) (λC g z H2 t l=>?_) q1⟩;exact⟨C,ω,g,rfl,(h.mono i).mono t,l,z⟩
end
def Bo(N:List Str)(ws:List W):Sw:=ws.map some++List.replicate (N.length - ws.length) none
theorem Gn(t:TrL K H vs a):TrSt K H (L2.B8 N vs) (Bo N a):=by
 have hl:=t.length;refine⟨by simp[L2.B8,Bo,hl],λi w e=>?_⟩;unfold Bo at e;by_cases hi:i < a.length
 ·rw[YJ (by simpa using hi),YR]at e;cases z:a[i]? with
  | none=>rw[z]at e;cases e
  | some c =>
   rw[z]at e;cases e;obtain⟨v,b,r⟩:=t.get z;exact⟨v,by unfold L2.B8;rw[YJ (by simp;lia),YR,b];rfl,r⟩
 ·rw[List.getElem?_append_right (by simpa using hi),List.getElem?_replicate]at e;split at e <;> cases e
def Sub(G G':Hw):Prop:=∀ a o,G a=some o->G' a=some o
theorem Sub.refl:Sub G G:=λ_ _ h=>h
theorem Sub.trans(a:Sub G d)(b:Sub d e):Sub G e:=λc o h=>b c o (a c o h)
theorem Sub.put(h:Sub G b)(d:G a=none):Sub G (put b a o):=λc u z=>by
 rw[Av (λe=>by rw[e,d]at z;cases z)];exact h c u z
theorem Sub.put2(h:Sub G b):Sub (L3.put G a o) (L3.put b a o):=λc u z=>by
 by_cases e:c=a
 ·subst e;rw[Aj]at z ⊢;exact z
 ·rw[Av e]at z ⊢;exact h c u z
theorem RelH.sub(r:RelH K H b)(s:Sub G b):RelH K H G:=λa o e=>r a o (s a o e)
def Kw.C(Q:Kw):Prop:=∀ w G G',Sub G G'->Q w G->Q w G'
def Xc(E:Addr->Hw->Prop):Prop:=∀ w G G',Sub G G'->E w G->E w G'
theorem Gp:Kw.C (dn K H Q):=λw G a s q v H2 m t r=>q v H2 m t (r.sub s)
theorem bW:Xc (dnX K H E):=λw G a s q H2 m r=>q H2 m (r.sub s)
def Au(Q:Kw):Ew:=⟨λ_ G=>Q .non G,Q,λ_ _=>False,λ_ _=>False⟩
section
variable {P:Program}{w:World}{mg:Str->Option Value}{base:Heap}
abbrev cxW(P:Program)(w:World)(K:PySem.W.Frag)(mg:Str->Option Value)(base:Heap)(N:List Str)(qual:Str)(scope:Scope)(f:Addr)(cd:Value)(A:Around)(outer:List Env)(s:Shared)(H:Hp)(E:XK):Cx :=
 Bl (CXe P w) P w K mg base N qual scope f cd A outer s H E
theorem BV:D6 (cxW P w K mg base N qual scope f cd A outer s H E) (λ_=>dnX K H E):=by
 intro pins σ Hc b ev s' I ⟨e,C,H',c,F,d,ω,G,a,g,r,q⟩;cases a;refine bx pins σ Hc b ev s' I ⟨e,C,H',c,F,q H' ?_ r⟩;exact(Un.mono' I.base).trans (Un.mono' F.un)
end
section
variable {X:Cx}{a b c e:Expr}{ga gb:GE}{gt:GT}{g1 g2:GS}
def Ak:GS:=λD ω G=>D.nx ω G
def Af(g1 g2:GS):GS:=λD ω G=>g1 {D with nx:=g2 D} ω G
theorem bX:GS.M Ak:=λ_ _ _ _ h _ _ _ q=>h _ _ q
theorem bY(d:g1.M)(c:g2.M):GS.M (Af g1 g2):=λω G D e h1 h2 a b q=>d _ _ {D with nx:=g2 D} _ (λ_ _ z=>c _ _ _ _ h1 h2 a b z) h2 a b q
theorem bZ:Dw X P [] Ak:=λB b=>K2 Zn (by rintro D σ H ⟨ω,G,a,r,mb,q⟩;exact q σ H mb a r)
theorem b5{st:Stmt}(e:g1.M)(f:g2.M)(h1:PSw X P st g1)(h2:Dw X P sts g2):Dw X P (st::sts) (Af g1 g2):=λB b=>
 K2 (Zo (h1 B b) (h2 B b)) (by rintro D σ H ⟨ω,G,d,r,mb,q⟩;exact⟨ω,G,d,r,mb,e _ _ {dnD X.K B D with nx:=g2 (dnD X.K B D)} _ (λω' c z σ' H' m a r'=>⟨ω',c,a,r',m,z⟩) (λ_ _ z=>z) (λ_ _ z=>z) (λ_ _ z=>z) q⟩)
theorem b6{st:Stmt}(h1:PSw X P st g1):Dw X P [st] g1:=λB a=>K2 (Zp (h1 B a)) λD σ H z=>z
def Ao(i:Nat)(ga:GE):GS:=λD ω G=>ga ω G λw G1=>D.nx (ω.set i (some w)) G1
theorem K3(a:ga.M):GS.M (Ao i ga):=λω G D b h _ _ _ q=>a _ _ _ _ (λ_ _ z=>h _ _ z) q
theorem Px(d:X.N.Nodup)(hi:X.N[i]?=some x)(c:Loc X.env.scope x)(g:ga.M)(f:PEw X e ga)(hs:swapsWith e (some (.Name x pos')) pos.line X.env=pure false)(b:X.fn x=true\/X.env.scope.names.lookup x=some .local):
  PSw X P (.Assign [.Name x pos'] e pos) (Ao i ga):=λB h=>
 C1 (Zx d hi c f hs b) (by rintro D σ H ⟨ω,G,a,r,mb,q⟩;exact⟨ω,G,a,r,g _ _ _ _ (λw j z v H1 m t r1=>z _ H1 (mb.trans m) ((a.mono m).set i t) r1) q⟩)
def Ai(ga:GE):GS:=λD ω G=>ga ω G D.rt
theorem b7(a:ga.M):GS.M (Ai ga):=λω G D b _ h _ _ q=>a _ _ _ _ (λ_ _ z=>h _ _ z) q
theorem b8(c:ga.M)(b:PEw X e ga):PSw X P (.Return (some e) pos) (Ai ga):=λB d=>C1 (Zt b) (by rintro D σ H ⟨ω,G,a,r,mb,q⟩;exact⟨ω,G,a,r,c _ _ _ _ (λw f z v H1 m t r1=>z v H1 (mb.trans m) t r1) q⟩)
def AC(ga:GE):GS:=λD ω G=>ga ω G λ_ G1=>D.nx ω G1
theorem b9(a:ga.M):GS.M (AC ga):=λω G D b h _ _ _ q=>a _ _ _ _ (λ_ _ z=>h _ _ z) q
theorem cb(c:ga.M)(b:PEw X e ga)(hs:swapsWith e none pos.line X.env=pure false):PSw X P (.Expr e pos) (AC ga):=λB d=>
 C1 (Zr b hs) (by rintro D σ H ⟨ω,G,a,r,mb,q⟩;exact⟨ω,G,a,r,c _ _ _ _ (λw f z v H1 m t r1=>z _ H1 (mb.trans m) (a.mono m) r1) q⟩)
def gIf(gt:GT)(g1 g2:GS):GS:=λD ω G=>gt ω G λb G1=>if b=true then g1 D ω G1 else g2 D ω G1
theorem cc(d:gt.M)(f:g1.M)(e:g2.M):GS.M (gIf gt g1 g2):=λω G D g h1 h2 a c q=>d _ _ _ _ (λb h z=>by
 cases b with
 | true=>exact f _ _ _ _ h1 h2 a c z
 | false=>exact e _ _ _ _ h1 h2 a c z) q
theorem ce(f:gt.M)(h:g1.M)(g:g2.M)(hc:PTw X c gt)(h1:Dw X P sts g1)(h2:Dw X P sts' g2):PSw X P (.If c sts sts' pos) (gIf gt g1 g2):=λB d=>
 C1 (Zv hc (h1 B d) (h2 B d)) λD σ H⟨ω,G,a,r,mb,q⟩=>⟨ω,G,a,r,f _ _ _ _ (λb e z H1 m r1=>by
  cases b with
  | true=>exact⟨ω,e,a.mono m,r1,mb.trans m,z⟩
  | false=>exact⟨ω,e,a.mono m,r1,mb.trans m,z⟩) q⟩
def gTB(g:GE):GT:=λω G Q=>g ω G λw G1=>match w with | .bl b=>Q b G1 | _=>False
theorem Py(m:ga.M):GT.M (gTB ga):=λω G Q a h q=>m _ _ _ _ (λw b z=>by
 cases w <;> first | exact h _ _ z | exact z) q
theorem FM{b:Bool}(t:Tr K H v (.bl b)):v=.bl b:=by cases t;rfl
theorem Pz{b:Int}(t:Tr K H v (.int b)):v=.int b:=by cases t;rfl
theorem PB{b:Str}(t:Tr K H v (.str b)):v=.str b:=by cases t;rfl
theorem cf{a:Addr}(t:Tr K H v (.ref a)):v=.ref a:=by cases t;rfl
theorem PC(m:ga.M){σ:St}(h:upT K (gTB ga) σ H f):up K ga σ H (λx H1=>∃ k,x=.bl k/\f k H1):=by
 obtain⟨ω,G,a,r,q⟩:=h;refine⟨ω,G,a,r,m _ _ _ _ (λw d z v H1 c t r1=>?_) q⟩;cases w with
 | bl b=>exact⟨b,FM t,z H1 c r1⟩
 | _=>exact z.elim
theorem cg(e:OpR X (compareOp op) r2)(mr:r.M)(c:ga.M)(mb:gb.M)(f:∀(x y:W)(v u:V)(G:Hw)(H:Hp)(Q:VK),Tr X.K H v x->Tr X.K H u y->RelH X.K H G->r x y G (dn X.K H Q)->r2 v u H Q)(g:PEw X a ga)(h:PEw X b gb)(d:behindInMarks op b=false):PTw X (.Compare a [op] [b] pos) (gTB (Ad r ga gb)):=
 HF (Z5 e g h d) λσ H Q z=>HG mr c mb f σ H _ (PC (CA mr c mb) z)
def B9(w:W)(G:Hw):Option Bool:=match w with
 | .non=>some false
 | .bl b=>some b
 | .int i=>some (i != 0)
 | .tup xs=>some (!xs.isEmpty)
 | .rol xs=>some (!xs.isEmpty)
 | .ref a=>match G a with | some (.lst xs)=>some (!xs.isEmpty)| _=>none
 | .str _=>none
def A4(g:GE):GT:=λω G Q=>g ω G λw G1=>match B9 w G1 with | some b=>Q b G1 | none=>False
theorem ci(m:ga.M):GT.M (A4 ga):=λω G Q c h q=>m _ _ _ _ (λw a z=>by
 cases e:B9 w a with
 | none=>rw[e]at z;exact z
 | some b=>rw[e]at z;exact h _ _ z) q
theorem K5:∀{vs:List V}{a:List W},TrL K H vs a->vs.isEmpty=a.isEmpty
 | _,_,.nil=>rfl
 | _,_,.cons _ _=>rfl
theorem cj{b:Bool}(t:Tr K H v w)(r:RelH K H G)(e:B9 w G=some b):KG K v H b:=by
 cases t with
 | non=>cases e;rfl
 | bl c=>cases e;rfl
 | int i=>cases e;rfl
 | str x=>cases e
 | tup h l=>cases e;exact .inr (.inl ⟨_,h,by rw[K5 l]⟩)
 | rol h l=>cases e;exact .inl ⟨_,h.sq,by rw[K5 l]⟩
 | ref a =>
  unfold B9 at e;dsimp only at e;cases z:G a with
  | none=>rw[z]at e;cases e
  | some o =>
   rw[z]at e;cases o with
   | exc C=>cases e
   | ins C fs=>cases e
   | dct f=>cases e
   | lst xs =>
    cases e;obtain⟨vs,d,l⟩:=r a _ z;exact .inl ⟨vs,SqL.of d,by rw[K5 l]⟩
theorem ck(i:ga.M)(h:PEw X e ga)(d:∀ a,isTrue e X.env a=(do let v <- a;standAt e.pos;holding [v] (truthy v)):=by intro _;rfl):PTw X e (A4 ga):=
 HF (aa h d) λσ H Q⟨ω,G,g,r,q⟩=>⟨ω,G,g,r,i _ _ _ _ (λw f z v H1 m t r1=>by
  cases c:B9 w f with
  | none=>rw[c]at z;exact z.elim
  | some b=>rw[c]at z;exact⟨b,cj t r1 c,z H1 m r1⟩) q⟩
def gNt(g:GT):GT:=λω G Q=>g ω G λb G1=>Q (!b) G1
theorem cm(m:gt.M):GT.M (gNt gt):=λω G Q a h q=>m _ _ _ _ (λw b z=>h _ _ z) q
theorem cn(b:PTw X a gt):PTw X (.UnaryOp .Not a pos) (gNt gt):=HF (Zd b) λσ H Q z=>z
abbrev PWw(X:Cx)(e:Expr)(g:GT):Prop:=PW X e (upT X.K g)
theorem HH(h:PW X e t)(i:∀ σ H Q,t' σ H Q->t σ H Q):PW X e t':=λa pins s σ H Q I q=>h a pins s σ H Q I (i σ H Q q)
def A8(g1 g2:GT):GT:=λω G Q=>g1 ω G λb G1=>if b=true then g2 ω G1 Q else Q false G1
def gOr(g1 g2:GT):GT:=λω G Q=>g1 ω G λb G1=>if b=true then Q true G1 else g2 ω G1 Q
theorem cp(c:gt.M)(a:gu.M):GT.M (A8 gt gu):=λω G Q d h q=>c _ _ _ _ (λb e z=>by
 cases b with
 | true=>exact a _ _ _ _ h z
 | false=>exact h _ _ z) q
theorem cq(c:gt.M)(a:gu.M):GT.M (gOr gt gu):=λω G Q d h q=>c _ _ _ _ (λb e z=>by
 cases b with
 | true=>exact h _ _ z
 | false=>exact a _ _ _ _ h z) q
theorem cr(b:PTw X a gt):PWw X (.BoolOp .And [a] pos) gt:=HH (Y9 b) λσ H Q z=>z
theorem cu(b:PTw X a gt):PWw X (.BoolOp .Or [a] pos) gt:=HH (Za b) λσ H Q z=>z
theorem cw{Ar:List Expr}(g:gt.M)(d:gu.M)(f:PTw X a gt)(h:PWw X (.BoolOp .And (b::Ar) pos) gu):PWw X (.BoolOp .And (a::b::Ar) pos) (A8 gt gu):=
 HH (Zb f h) λσ H Q⟨ω,G,c,r,q⟩=>⟨ω,G,c,r,g _ _ _ _ (λb e z H1 m r1=>by
  cases b with
  | true=>exact⟨ω,e,c.mono m,r1,d _ _ _ _ (λ_ _ z=>Po m z) z⟩
  | false=>exact z H1 m r1) q⟩
theorem cx{Ar:List Expr}(g:gt.M)(d:gu.M)(f:PTw X a gt)(h:PWw X (.BoolOp .Or (b::Ar) pos) gu):PWw X (.BoolOp .Or (a::b::Ar) pos) (gOr gt gu):=
 HH (Zc f h) λσ H Q⟨ω,G,c,r,q⟩=>⟨ω,G,c,r,g _ _ _ _ (λb e z H1 m r1=>by
  cases b with
  | true=>exact z H1 m r1
  | false=>exact⟨ω,e,c.mono m,r1,d _ _ _ _ (λ_ _ z=>Po m z) z⟩) q⟩
theorem cy(h:PWw X (.BoolOp op vs pos) gt):PTw X (.BoolOp op vs pos) gt:=PW.pt h
def Ca(ga gb:GE):GE:=λω G Q=>ga ω G λx G1=>match x with | .bl c=>if c=true then gb ω G1 Q else Q (.bl false) G1 | _=>False
def C2(ga gb:GE):GE:=λω G Q=>ga ω G λx G1=>match x with | .bl c=>if c=true then Q (.bl true) G1 else gb ω G1 Q | _=>False
def BC(gt:GT)(ga gb:GE):GE:=λω G Q=>gt ω G λc G1=>if c=true then ga ω G1 Q else gb ω G1 Q
theorem cz(a:ga.M)(mb:gb.M):GE.M (Ca ga gb):=λω G Q b h q=>a _ _ _ _ (λx d z=>by
 cases x with
 | bl c =>
  cases c with
  | true=>exact mb _ _ _ _ h z
  | false=>exact h _ _ z
 | _=>exact z) q
theorem cA(a:ga.M)(mb:gb.M):GE.M (C2 ga gb):=λω G Q b h q=>a _ _ _ _ (λx d z=>by
 cases x with
 | bl c =>
  cases c with
  | true=>exact h _ _ z
  | false=>exact mb _ _ _ _ h z
 | _=>exact z) q
theorem cB(b:gt.M)(a:ga.M)(mb:gb.M):GE.M (BC gt ga gb):=λω G Q d h q=>b _ _ _ _ (λc e z=>by
 cases c with
 | true=>exact a _ _ _ _ h z
 | false=>exact mb _ _ _ _ h z) q
theorem cC(h:PEw X a ga):PEw X (.BoolOp op [a] pos) ga:=Zg h
theorem cD{Ar:List Expr}(g:ga.M)(mb:gb.M)(f:PEw X a ga)(h:PEw X (.BoolOp .And (b::Ar) pos) gb):PEw X (.BoolOp .And (a::b::Ar) pos) (Ca ga gb):=
 A7 (Zh f h) λσ H Q⟨ω,G,d,r,q⟩=>⟨ω,G,d,r,g _ _ _ _ (λx e z v H1 m t r1=>by
  cases x with
  | bl c =>
   refine⟨c,FM t,?_⟩;cases c with
   | true=>exact⟨ω,e,d.mono m,r1,mb _ _ _ _ (λ_ _ z=>Cj m z) z⟩
   | false=>exact z _ H1 m (.bl false) r1
  | _=>exact z.elim) q⟩
theorem cE{Ar:List Expr}(g:ga.M)(mb:gb.M)(f:PEw X a ga)(h:PEw X (.BoolOp .Or (b::Ar) pos) gb):PEw X (.BoolOp .Or (a::b::Ar) pos) (C2 ga gb):=
 A7 (Zi f h) λσ H Q⟨ω,G,d,r,q⟩=>⟨ω,G,d,r,g _ _ _ _ (λx e z v H1 m t r1=>by
  cases x with
  | bl c =>
   refine⟨c,FM t,?_⟩;cases c with
   | true=>exact z _ H1 m (.bl true) r1
   | false=>exact⟨ω,e,d.mono m,r1,mb _ _ _ _ (λ_ _ z=>Cj m z) z⟩
  | _=>exact z.elim) q⟩
theorem cG(f:gt.M)(h:ga.M)(mb:gb.M)(hc:PTw X c gt)(g:PEw X a ga)(i:PEw X b gb):PEw X (.IfExp c a b pos) (BC gt ga gb):=
 A7 (Zj hc g i) λσ H Q⟨ω,G,d,r,q⟩=>⟨ω,G,d,r,f _ _ _ _ (λc e z H1 m r1=>by
  cases c with
  | true=>exact⟨ω,e,d.mono m,r1,h _ _ _ _ (λ_ _ z=>Cj m z) z⟩
  | false=>exact⟨ω,e,d.mono m,r1,mb _ _ _ _ (λ_ _ z=>Cj m z) z⟩) q⟩
variable {gs:GA}
def Ah(gs:GA):GE:=λω G Q=>gs ω G λws G1=>ws.length<=sizeLine/\Q (.tup ws) G1
def Aq(gs:GA):GE:=λω G Q=>gs ω G λws G1=>ws.length<=sizeLine/\∀ p,G1 p=none->Q (.ref p) (put G1 p (.lst ws))
theorem cH(m:gs.M):GE.M (Ah gs):=λω G Q a h q=>m _ _ _ _ (λc b z=>⟨z.1,h _ _ z.2⟩) q
theorem cI(m:gs.M):GE.M (Aq gs):=λω G Q b h q=>m _ _ _ _ (λd c z=>⟨z.1,λp a=>h _ _ (z.2 p a)⟩) q
theorem cJ{x1}(m:gs.M)(h:PAw X es gs):PEw X (.Tuple es x1 pos) (Ah gs):=
 A7 (al h) λσ H Q⟨ω,G,b,r,q⟩=>⟨ω,G,b,r,m _ _ _ _ (λe d z vs H1 c t r1=>⟨by rw[t.length];exact z.1,λp a=>
  z.2 _ _ (c.trans (Mono.new a _)) (.tup (SqT.of BS) (t.mono (Mono.new a _))) (r1.mono0 a)⟩) q⟩
theorem cK(m:gs.M)(h:PAw X es gs):PEw X (.List es pos) (Aq gs):=
 A7 (am h) λσ H Q⟨ω,G,b,r,q⟩=>⟨ω,G,b,r,m _ _ _ _ (λe d z vs H1 c t r1=>⟨by rw[t.length];exact z.1,λp a=>
  z.2 p (r1.no a) _ _ (c.trans (Mono.new a _)) (.ref p) (r1.new a t)⟩) q⟩
end
def C3(z:Str):List V:=z.cps.toList.map λc=>V.str ⟨#[c]⟩
def Itk(xs:List V):It:=⟨λi _=>i < xs.length,λi H x H'=>H'=H/\xs[i]?=some x,λi _=>xs.length<=i⟩
theorem cL(B:∀ it u,letOwnedTupleGo tg it u=pure ())(it:Addr)(z:Str)(t:Tok):Dv P w K tg (Itk (C3 z)) [it] it (λi h=>h.IsStrIter it "str_ascii_iterator" z t i) where
 mem:=by simp
 obj:=λi h st b a=>by
  have e:b=it:=by simpa using a
  subst e;obtain⟨o,e,c,d⟩:=st;exact⟨o,e,λv z=>by rw[d]at z;cases z⟩
 keep:=λi h h' st k=>by
  obtain⟨o,e,c,d⟩:=st;exact⟨o,k it (by simp) o e,c,d⟩
 item:=by
  intro X g hw x hc i pins s σ H E I f st q;subst g hw x;obtain⟨l,j,J,p,r,y⟩:=f it (by simp);have W:=Walks.strAscii (prog:=X.prog) (w:=X.w) (I.ok.hd hc) it z t;have hi:i < z.cps.size:=by simpa[C3,Itk]using q
  refine W.item i s _ _ hi st λv h' tk G m F=>?_;obtain⟨c,t',n,rfl⟩:=G;have D:Inv X pins σ H {s with heap:=h',toks:=tk}:=I.turned (λb o a e=>F b o (by simpa using a) e) l j p r y;exact⟨_,rfl,wpAny_of_eq (B _ _) ⟨.str ⟨#[c]⟩,H,D,⟨_,rfl⟩,⟨rfl,by simp[C3,n]⟩,m,λb a=>(f b a).1⟩⟩
 done:=by
  intro X g hw x hc i pins s σ H E I f st q;subst g hw x;obtain⟨l,j,J,p,r,y⟩:=f it (by simp);have hi:z.cps.size<=i:=by simpa[C3,Itk]using q
  exact wpAny_pyNext_ascii_end (I.ok.hd hc) st (by simp[hi]) λh' eb=>⟨rfl,I.turned (t':=s.toks) (λb o a e=>eb b o a e) l j p r y⟩
 self:=λA i s Q E st h=>wpAny_pyIter_striter_ascii st h
theorem cM(B:∀ it u,letOwnedTupleGo tg it u=pure ())(it:Addr)(z:Str)(t:Tok):Dv P w K tg (Itk (C3 z)) [it] it (λi h=>h.IsStrIter it "str_iterator" z t i) where
 mem:=by simp
 obj:=λi h st b a=>by
  have e:b=it:=by simpa using a
  subst e;obtain⟨o,e,c,d⟩:=st;exact⟨o,e,λv z=>by rw[d]at z;cases z⟩
 keep:=λi h h' st k=>by
  obtain⟨o,e,c,d⟩:=st;exact⟨o,k it (by simp) o e,c,d⟩
 item:=by
  intro X g hw x hc i pins s σ H E I f st q;subst g hw x;obtain⟨l,j,J,p,r,y⟩:=f it (by simp);have W:=Walks.strWide (prog:=X.prog) (w:=X.w) (I.ok.hd hc) it z t;have hi:i < z.cps.size:=by simpa[C3,Itk]using q
  refine W.item i s _ _ hi st λv h' tk G m F=>?_;obtain⟨c,t',n,rfl⟩:=G;have D:Inv X pins σ H {s with heap:=h',toks:=tk}:=I.turned (λb o a e=>F b o (by simpa using a) e) l j p r y;exact⟨_,rfl,wpAny_of_eq (B _ _) ⟨.str ⟨#[c]⟩,H,D,⟨_,rfl⟩,⟨rfl,by simp[C3,n]⟩,m,λb a=>(f b a).1⟩⟩
 done:=by
  intro X g hw x hc i pins s σ H E I f st q;subst g hw x;obtain⟨l,j,J,p,r,y⟩:=f it (by simp);have hi:z.cps.size<=i:=by simpa[C3,Itk]using q
  exact wpAny_pyNext_wide_end (I.ok.hd hc) st (by simp[hi]) λh' eb=>⟨rfl,I.turned (t':=s.toks) (λb o a e=>eb b o a e) l j p r y⟩
 self:=λA i s Q E st h=>wpAny_pyIter_striter_wide st h
def cN(K:PySem.W.Frag)(tl:TE):TI:=λσ H R=>tl σ H λx H1=>(∃ a,x=.ref a/\(∃ xs,SqL K H1 a xs)/\R (Itl K a) H1)\/(∃ a,x=.ref a/\(∃ xs,SqT K H1 a xs)/\R (Itt K a) H1)\/(∃ z,x=.str z/\R (Itk (C3 z)) H1)
theorem cO(k:∀ it u,letOwnedTupleGo tg it u=pure ())(hl:PE X l tl):PI X tg l (cN X.K tl):=by
 intro pins s σ H R I h;refine thn (hl pins s σ H _ I h) λv c j=>?_;obtain⟨x,H1,d,r1,q1⟩:=j;rcases q1 with⟨a,e,⟨xs,i⟩,q⟩|⟨a,e,⟨xs,i⟩,q⟩|⟨z,e,q⟩
 ·subst e;cases r1;obtain⟨f,r,p,w⟩:=d.list i;refine wpAny_pyIter_list p.isList ?_;refine⟨c.heap.objs.size,[c.heap.objs.size],_,_,H1,rfl,d.kept (t':=c.toks) λb o e=>Qn _ e,ZD a _,⟨_,Qp _ rfl,rfl,rfl⟩,λb g=>?_,q⟩;have e:b=c.heap.objs.size:=by simpa using g
  subst e;exact d.fpOk (Yr _) (d.hok.fresh (Yr _))
 ·subst e;cases r1;obtain⟨f,r,p,w⟩:=d.tuple i;refine wpAny_pyIter_tuple (show c.heap.IsTuple a f.toArray from p) ?_;refine⟨c.heap.objs.size,[c.heap.objs.size],_,_,H1,rfl,d.kept (t':=c.toks) λb o e=>Qn _ e,ZE a _,⟨_,Qp _ rfl,rfl,rfl⟩,λb g=>?_,q⟩;have e:b=c.heap.objs.size:=by simpa using g
  subst e;exact d.fpOk (Yr _) (d.hok.fresh (Yr _))
 ·subst e;obtain⟨t,rfl⟩:=r1
  have m:∀ b∈[c.heap.objs.size],CZ X pins H1 b:=λb g=>by
   have e:b=c.heap.objs.size:=by simpa using g
   subst e;exact d.fpOk (Yr _) (d.hok.fresh (Yr _))
  cases n:z.cps.all (· < 128)
  ·exact wpAny_pyIter_wide n ⟨c.heap.objs.size,[c.heap.objs.size],_,_,H1,rfl,d.kept (t':=c.toks) λb o e=>Qn _ e,cM k _ z t,⟨_,Qp _ rfl,rfl,rfl⟩,m,q⟩
  ·exact wpAny_pyIter_ascii n ⟨c.heap.objs.size,[c.heap.objs.size],_,_,H1,rfl,d.kept (t':=c.toks) λb o e=>Qn _ e,cL k _ z t,⟨_,Qp _ rfl,rfl,rfl⟩,m,q⟩
abbrev GI:=Sw->Hw->(List W->(Hw->Prop)->Hw->Prop)->Prop
def GI.M(g:GI):Prop:=∀ ω G(R R':List W->(Hw->Prop)->Hw->Prop),(∀ ws gd G',R ws gd G'->R' ws gd G')->g ω G R->g ω G R'
def ES(z:Str):List W:=z.cps.toList.map λc=>W.str ⟨#[c]⟩
theorem cP:TrL K H (C3 z) (ES z):=by
 unfold C3 ES;generalize z.cps.toList=l;induction l with
 | nil=>exact .nil
 | cons c l a=>exact .cons (.str _) a
def yes:Hw->Prop:=λ_=>True
def holds(a:Addr)(ws:List W):Hw->Prop:=λG=>G a=some (.lst ws)
def Ax(ga:GE):GI:=λω G R=>ga ω G λw G1=>match w with
 | .tup ws=>R ws yes G1
 | .rol ws=>R ws yes G1
 | .str z=>R (ES z) yes G1
 | .ref a=>match G1 a with | some (.lst ws)=>R ws (holds a ws) G1 | _=>False
 | _=>False
theorem cQ(m:ga.M):GI.M (Ax ga):=λω G R f h q=>m _ _ _ _ (λw c z=>by
 cases w with
 | tup b=>exact h _ _ _ z
 | rol b=>exact h _ _ _ z
 | str x=>exact h _ _ _ z
 | ref a =>
  dsimp only at z ⊢;cases e:c a with
  | none=>rw[e]at z;exact z
  | some o =>
   rw[e]at z;cases o with
   | lst b=>exact h _ _ _ z
   | exc C=>exact z
   | ins C fs=>exact z
   | dct d=>exact z
 | _=>exact z) q
structure ET(K:PySem.W.Frag)(H1:Hp)(J:It)(ws:List W)(gd:Hw->Prop):Prop where
 go:∀(i:Nat)(H:Hp)(G:Hw),Mono K H1 H->RelH K H G->gd G->i < ws.length->J.go i H
 yld:∀(i:Nat)(H:Hp)(G:Hw)(x:V)(H':Hp),Mono K H1 H->RelH K H G->gd G->J.yld i H x H'->i < ws.length->Mono K H H'/\RelH K H' G/\∃ w,ws[i]?=some w/\Tr K H' x w
 stop:∀(H:Hp)(G:Hw),Mono K H1 H->RelH K H G->gd G->J.stop ws.length H
theorem HI{a:List W}{i:Nat}(r:RelH K H G)(e:H'=H)(h:∃ w,a[i]?=some w/\Tr K H x w):Mono K H H'/\RelH K H' G/\∃ w,a[i]?=some w/\Tr K H' x w:=by
 subst e;exact⟨.refl,r,h⟩
theorem PH(h:∀ H G,Mono K H1 H->RelH K H G->c G->∃ vs,SqL K H a vs/\TrL K H vs b):ET K H1 (Itl K a) b c where
 go:=λi H G m r g hi=>by
  obtain⟨vs,q,t⟩:=h H G m r g;have hl:=t.length;exact⟨vs,vs[i]'(by lia),q,by simp⟩
 yld:=λi H G x H' m r g y hi=>by
  obtain⟨vs,q,t⟩:=h H G m r g;obtain⟨w,e,d⟩:=t.get' (y.2 vs q);exact HI r y.1 ⟨w,e,d⟩
 stop:=λH G m r g=>by
  obtain⟨vs,q,t⟩:=h H G m r g;exact⟨vs,q,Nat.le_of_eq t.length⟩
theorem cR(q:SqT K H1 a vs)(t:TrL K H1 vs b):ET K H1 (Itt K a) b d where
 go:=λi H G m r g hi=>by
  have hl:=t.length;exact⟨vs,vs[i]'(by lia),m.tup _ _ q,by simp⟩
 yld:=λi H G x H' m r g y hi=>by
  obtain⟨w,e,c⟩:=(t.mono m).get' (y.2 vs (m.tup _ _ q));exact HI r y.1 ⟨w,e,c⟩
 stop:=λH G m r g=>⟨vs,m.tup _ _ q,Nat.le_of_eq t.length⟩
theorem cS(t:TrL K H1 vs a):ET K H1 (Itk vs) a c where
 go:=λi H G m r g hi=>by show i < vs.length;rw[t.length];exact hi
 yld:=λi H G x H' m r g y hi=>by
  obtain⟨w,e,b⟩:=(t.mono m).get' y.2;exact HI r y.1 ⟨w,e,b⟩
 stop:=λH G m r g=>by show vs.length<=a.length;exact Nat.le_of_eq t.length
def PIw(X:Cx)(tg l:Expr)(gi:GI):Prop:=∃ wi:TI,PI X tg l wi/\∀(σ:St)(H:Hp)(ω:Sw)(G:Hw)(R:List W->(Hw->Prop)->Hw->Prop)(R0:It->Hp->Prop),TrSt X.K H σ ω->RelH X.K H G->gi ω G R->
 (∀ ws gd G1 H1 J,R ws gd G1->Mono X.K H H1->RelH X.K H1 G1->gd G1->ET X.K H1 J ws gd->R0 J H1)->wi σ H R0
theorem cT(f:∀ it u,letOwnedTupleGo tg it u=pure ())(s:ga.M)(hl:PEw X l ga):PIw X tg l (Ax ga):=by
 refine⟨_,cO f hl,λσ H ω G R B p r q k=>⟨ω,G,p,r,s _ _ _ _ (λw n z v H1 m t r1=>?_) q⟩⟩;cases t with
 | tup h l=>exact .inr (.inl ⟨_,rfl,⟨_,h⟩,k _ _ _ H1 _ z m r1 trivial (cR h l)⟩)
 | rol h l=>exact .inl ⟨_,rfl,⟨_,h.sq⟩,k _ _ _ H1 _ z m r1 trivial (PH λH2 g c _ _=>⟨_,(c.rol _ _ h).sq,l.mono c⟩)⟩
 | str x=>exact .inr (.inr ⟨x,rfl,k _ _ _ H1 _ z m r1 trivial (cS cP)⟩)
 | ref a =>
  dsimp only at z;cases e:n a with
  | none=>rw[e]at z;exact z.elim
  | some o =>
   rw[e]at z;cases o with
   | exc C=>exact z.elim
   | ins C fs=>exact z.elim
   | dct d=>exact z.elim
   | lst D =>
    obtain⟨vs,j,A⟩:=r1 a _ e;exact .inl ⟨a,rfl,⟨vs,SqL.of j⟩,k _ _ _ H1 _ z m r1 e (PH λH2 g c y g2=>let⟨vs,e2,t2⟩:=y a _ g2;⟨vs,SqL.of e2,t2⟩)⟩
 | non=>exact z.elim
 | bl b=>exact z.elim
 | int i=>exact z.elim
structure TgW(X:Cx)(tg:Expr)(gg:GG):Prop where
 ex:∃ g:TG,PG X tg g/\∀(x:V)(w:W)(σ:St)(ω:Sw)(H:Hp)(G:Hw)(Q:St->Hp->Prop),Tr X.K H x w->TrSt X.K H σ ω->RelH X.K H G->gg w ω G (dnS X.K H Q)->g x σ H Q
 mono:gg.M
def gNm(i:Nat):GG:=λw ω G Q=>Q (ω.set i (some w)) G
theorem PJ(a:X.N.Nodup)(hi:X.N[i]?=some x)(c:Loc X.env.scope x)(b:X.fn x=true\/X.env.scope.names.lookup x=some .local):TgW X (.Name x p) (gNm i) where
 ex:=⟨_,Du a hi c b,λx w σ ω H G Q t d r q=>q _ H .refl (d.set i t) r⟩
 mono:=λ_ _ _ _ _ h q=>h _ _ q
def AM(i j:Nat):GG:=λw ω G Q=>match w with | .tup [a,b]=>Q ((ω.set i (some a)).set j (some b)) G | _=>False
theorem PK(hc:X.calm=true)(d:X.N.Nodup)(hi:X.N[i]?=some x)(f:Loc X.env.scope x)(e:X.fn x=true\/X.env.scope.names.lookup x=some .local)(n:X.N[j]?=some y)(o:Loc X.env.scope y)(c:X.fn y=true\/X.env.scope.names.lookup y=some .local):TgW X (.Tuple [.Name x p,.Name y m] k pos) (AM i j) where
 ex:=⟨_,Ku hc (FE (Du d hi f e) (FE (Du d n o c) Kt)),λv w σ ω H G Q t g r q=>by
  unfold AM at q;split at q
  ·rename_i a b;cases t with
   | tup h l =>
    cases l with
    | cons ta l =>
     cases l with
     | cons tb l =>
      cases l;exact⟨_,_,rfl,h,rfl,_,_,rfl,_,_,rfl,rfl,q _ H .refl ((g.set i ta).set j tb) r⟩
  ·exact q.elim⟩
 mono:=λw ω G Q s h q=>by
  unfold AM at q ⊢;split
  ·exact h _ _ q
  ·rename_i z;split at q
   ·exact(z _ _ rfl).elim
   ·exact q
def Bs(gd:Hw->Prop)(gg:GG)(gb:GS)(D:Ew):List W->Sw->Hw->Prop
 | [],ω,G=>gd G/\D.nx ω G
 | x::xs,ω,G=>gd G/\gg x ω G λω1 G1=>gb {nx:=Bs gd gg gb D xs,rt:=D.rt,bk:=D.nx,ct:=Bs gd gg gb D xs} ω1 G1
def AT(gi:GI)(gg:GG)(gb:GS):GS:=λD ω G=>gi ω G λws gd G1=>Bs gd gg gb D ws ω G1
theorem K6(mg:c.M)(mb:gb.M)(h1:∀ a b,D.nx a b->e.nx a b)(h2:∀ a b,D.rt a b->e.rt a b):∀(f:List W)(ω:Sw)(G:Hw),Bs d c gb D f ω G->Bs d c gb e f ω G
 | [],ω,G,q=>⟨q.1,h1 _ _ q.2⟩
 | x::xs,ω,G,q=>⟨q.1,mg _ _ _ _ _ (λω1 g z=>mb _ _ {nx:=Bs d c gb D xs,rt:=D.rt,bk:=D.nx,ct:=Bs d c gb D xs} _ (λa b y=>K6 mg mb h1 h2 xs a b y) h2 h1 (λa b y=>K6 mg mb h1 h2 xs a b y) z) q.2⟩
theorem cU(d:gi.M)(mg:a.M)(mb:gb.M):GS.M (AT gi a gb):=λω G D g h1 h2 e h q=>d _ _ _ _ (λc f b z=>K6 mg mb h1 h2 c ω b z) q
theorem cV(q:Bs b c gb D a ω G):b G:=by
 cases a with
 | nil=>exact q.1
 | cons w a=>exact q.1
theorem cW(hp:PassesOwn (model X.prog X.w) X.A X.env X.xe)(hc:X.calm=true)(mi:gi.M)(mb:gb.M)(hi:PIw X tg iter gi)(Y:TgW X tg p)(hb:Dw X Pr body gb)(hs:∀ x,foldedSetIterable iter X.env x=pure x:=by intro _;rfl):PSw X P (.For tg iter body [] pos) (AT gi p gb):=by
 intro B hB;obtain⟨wi,S,hi⟩:=hi;obtain⟨g,F,t⟩:=Y.ex;have mg:=Y.mono;have R:PSs X body (λD σ H=>∃ N,upS X.K N gb D σ H):=(by rintro pins s σ H D I ⟨N,z⟩;exact hb N trivial pins s σ H D I z);refine C1 (ZL hp hc S F R hs) λD σ H T=>?_;obtain⟨ω,G,U,r,u,q⟩:=T;refine hi σ H ω G _ _ U r q λd gd G1 H1 J z m1 r1 hgd O=>?_;have j:=u.trans m1;refine⟨λi m σ' H'=>m=d.length - i/\i<=d.length/\Mono X.K H1 H'/\∃ ω' h,TrSt X.K H' σ' ω'/\RelH X.K H' h/\Bs gd p gb (dnD X.K B D) (d.drop i) ω' h,⟨d.length,by simp,YX _,.refl,ω,G1,U.mono m1,r1,by simpa using z⟩,?_⟩;rintro i m σ' H' ⟨rfl,hle,k,ω',h,o,r',n⟩;have c:=cV n;by_cases l:i < d.length
 ·refine .inr ⟨O.go i H' h k r' c l,λσ2 H2=>Mono X.K H1 H2/\∃ ω2 G2,TrSt X.K H2 σ2 ω2/\RelH X.K H2 G2/\Bs gd p gb (dnD X.K B D) (d.drop (i+1)) ω2 G2,
   (by rintro σ2 H2 ⟨y1,y2⟩;exact⟨d.length -(i+1),by lia,rfl,l,y1,y2⟩),λx H2 y=>?_⟩
  obtain⟨Z,ry,w,ew,tw⟩:=O.yld i H' h x H2 k r' c y l;have k:=k.trans Z
  have ed:d.drop i=w::d.drop (i+1):=by
   obtain⟨h',e'⟩:=Qa.mp ew;rw[<- e'];exact List.drop_eq_getElem_cons h'
  rw[ed]at n;refine t x w σ' ω' _ h _ tw (o.mono Z) ry (mg _ _ _ _ _ (λω1 v z1 σ1 H3 m3 L r3=>?_) n.2);exact⟨H1,ω1,v,L,r3,k.trans m3,mb _ _ _ _ (λa b y σ4 H4 Q f E=>⟨Q,a,b,f,E,y⟩) (λa b y=>Cj j y) (λa b y=>bJ j y) (λa b y σ4 H4 Q f E=>⟨Q,a,b,f,E,y⟩) z1⟩
 ·have e:i=d.length:=by lia
  subst e;rw[List.drop_length]at n;exact .inl ⟨O.stop H' h k r' c,n.2 σ' H' (j.trans k) o r'⟩
def AN(gd:Hw->Prop)(gg:GG)(gt:GT)(ge:GE)(R:List W->Hw->Prop):List W->Sw->Hw->List W->Prop
 | [],_,G,ys=>gd G/\R ys G
 | x::xs,ω,G,ys=>gd G/\ys.length < sizeLine/\gg x ω G λω1 G1=>gt ω1 G1 λb G2=>if b=true then ge ω1 G2 λy G3=>AN gd gg gt ge R xs ω1 G3 (ys++[y])else AN gd gg gt ge R xs ω1 G2 ys
def AI(gi:GI)(n:Nat)(gg:GG)(gt:GT)(ge:GE):GE:=λω G Q=>gi ω G λws gd G1=>AN gd gg gt ge (λys G2=>∀ p,G2 p=none->Q (.ref p) (put G2 p (.lst ys))) ws (List.replicate n none) G1 []
theorem HJ(mg:c.M)(d:gt.M)(e:ge.M)(h:∀ a b,R a b->j a b):∀(i:List W)(ω:Sw)(G:Hw)(ys:List W),AN g c gt ge R i ω G ys->AN g c gt ge j i ω G ys
 | [],ω,G,ys,q=>⟨q.1,h _ _ q.2⟩
 | x::xs,ω,G,ys,q=>⟨q.1,q.2.1,mg _ _ _ _ _ (λω1 n z=>d _ _ _ _ (λb k f=>by
   cases b with
   | true=>exact e _ _ _ _ (λy l m=>HJ mg d e h xs ω1 l _ m) f
   | false=>exact HJ mg d e h xs ω1 k _ f) z) q.2.2⟩
theorem cX(e:gi.M)(mg:a.M)(b:gt.M)(d:ge.M):GE.M (AI gi n a gt ge):=λω G Q f h q=>
 e _ _ _ _ (λk i j z=>HJ mg b d (λys g z p c=>h _ _ (z p c)) _ _ _ _ z) q
theorem PL(q:AN b c gt ge R a ω G ys):b G:=by
 cases a with
 | nil=>exact q.1
 | cons w a=>exact q.1
def Ay:GT:=λ_ G Q=>Q true G
theorem cY:GT.M Ay:=λ_ _ _ _ h q=>h _ _ q
abbrev PFw(X:Cx)(ifs:List Expr)(g:GT):Prop:=PF X ifs (upT X.K g)
theorem cZ:PFw X [] Ay:=(by rintro pins s σ H Q I ⟨ω,G,a,r,q⟩;exact br pins s σ H Q I (q H .refl r))
theorem c0(h:PTw X c g):PFw X [c] g:=bu h
theorem c5{σ:St}(h:σ=List.replicate n none):TrSt K H σ (List.replicate n none):=by
 subst h;refine⟨by simp,λi w e=>?_⟩;rw[List.getElem?_replicate]at e;split at e <;> cases e
theorem c6{X:Cx}{Nc:List Str}(S:∀(σ:St)(H:Hp)(ω:Sw)(G:Hw)(R:List W->(Hw->Prop)->Hw->Prop)(R0:It->Hp->Prop),TrSt X.K H σ ω->RelH X.K H G->gi ω G R->
   (∀ a s B H1 J,R a s B->Mono X.K H H1->RelH X.K H1 B->s B->ET X.K H1 J a s->R0 J H1)->T σ H R0)(F:∀(x:V)(w:W)(σ:St)(ω:Sw)(H:Hp)(G:Hw)(Q:St->Hp->Prop),Tr X.K H x w->TrSt X.K H σ ω->RelH X.K H G->v w ω G (dnS X.K H Q)->g x σ H Q)(mg:v.M)(mt:gt.M)(me:ge.M)(σ:St)(H:Hp)(Q:VK)(h:up X.K (AI gi Nc.length v gt ge) σ H Q):
  HD T (λ_=>List.replicate Nc.length none) g (upT X.K gt) (up X.K ge) σ H Q:=by
 obtain⟨ω,G,ts,r,q⟩:=h;refine S σ H ω G _ _ ts r q λa s B H1 J z m1 r1 hgd P=>?_
 refine⟨λi m σ' H' vs=>m=a.length - i/\i<=a.length/\Mono X.K H1 H'/\∃ ω' l ys,TrSt X.K H' σ' ω'/\RelH X.K H' l/\TrL X.K H' vs ys/\AN s v gt ge (λys k=>∀ p,k p=none->dn X.K H Q (.ref p) (put k p (.lst ys))) (a.drop i) ω' l ys,
  ⟨a.length,by simp,YX _,.refl,_,B,[],c5 rfl,r1,.nil,by simpa using z⟩,?_⟩
 rintro i m σ' H' vs ⟨rfl,hle,j,ω',l,ys,O,r',tv,o⟩;have c:=PL o;by_cases f:i < a.length
 ·have hw:∃ w,a[i]?=some w:=⟨a[i],by simp[f]⟩;obtain⟨w0,A⟩:=hw
  have ed:a.drop i=w0::a.drop (i+1):=by
   obtain⟨h',e'⟩:=Qa.mp A;rw[<- e'];exact List.drop_eq_getElem_cons h'
  rw[ed]at o
  refine .inr ⟨P.go i H' l j r' c f,by rw[tv.length];exact o.2.1,λσ2 H2 u=>Mono X.K H1 H2/\∃ ω2 k t,TrSt X.K H2 σ2 ω2/\RelH X.K H2 k/\TrL X.K H2 u t/\AN s v gt ge (λys k=>∀ p,k p=none->dn X.K H Q (.ref p) (put k p (.lst ys))) (a.drop (i+1)) ω2 k t,
   (by rintro σ2 H2 u ⟨y1,y2⟩;exact⟨a.length -(i+1),by lia,rfl,f,y1,y2⟩),λx H2 y=>?_⟩
  obtain⟨E,ry,w,ew,tw⟩:=P.yld i H' l x H2 j r' c y f;have j:=j.trans E;have tv:=tv.mono E;rw[A]at ew;cases ew;refine F x _ σ' ω' _ l _ tw (O.mono E) ry (mg _ _ _ _ _ (λω1 I z1 σ1 H3 D d r3=>?_) o.2.2);refine⟨ω1,I,d,r3,mt _ _ _ _ (λb Y U H4 n Z=>?_) z1⟩;cases b with
  | true=>exact⟨ω1,Y,d.mono n,Z,me _ _ _ _ (λy5 G5 z5 v5 H5 N t5 r5=>⟨((j.trans D).trans n).trans N,ω1,G5,_,(d.mono n).mono N,r5,(((tv.mono D).mono n).mono N).append (.cons t5 .nil),z5⟩) U⟩
  | false=>exact⟨(j.trans D).trans n,ω1,Y,_,d.mono n,Z,(tv.mono D).mono n,U⟩
 ·have e:i=a.length:=by lia
  subst e;rw[List.drop_length]at o;exact .inl ⟨P.stop H' l j r' c,λp L=>o.2 p (r'.no L) _ _ ((m1.trans j).trans (Mono.new L _)) (.ref p) (r'.new L tv)⟩
structure TgU(X:Cx)(Nc:List Str)(scope:Scope)(tg:Expr)(gg:GG):Prop where
 ex:∃ g:TG,(∀ C fp s H,PG (cxB X Nc scope [] C fp s H) tg g)/\∀(x:V)(w:W)(σ:St)(ω:Sw)(H:Hp)(G:Hw)(Q:St->Hp->Prop),Tr X.K H x w->TrSt X.K H σ ω->RelH X.K H G->gg w ω G (dnS X.K H Q)->g x σ H Q
 mono:gg.M
theorem CB(b:Nc.Nodup)(hi:Nc[i]?=some x)(a:scope.names.lookup x=some .local):TgU X Nc scope (.Name x p) (gNm i) where
 ex:=⟨Dt i,λC c s H=>Du (X:=cxB X Nc scope [] C c s H) b hi (.inl (lookup_relabel_local a)) (.inr (lookup_relabel_local a)),λx w σ ω H G Q t d r q=>q _ H .refl (d.set i t) r⟩
 mono:=λ_ _ _ _ _ h q=>h _ _ q
theorem PM:GG.M (AM i j):=λw ω G Q a h q=>by
 unfold AM at q ⊢;split
 ·exact h _ _ q
 ·rename_i z;split at q
  ·exact(z _ _ rfl).elim
  ·exact q
theorem EU(hc:X.calm=true)(d:Nc.Nodup)(hi:Nc[i]?=some x)(c:scope.names.lookup x=some .local)(n:Nc[j]?=some y)(e:scope.names.lookup y=some .local):
  TgU X Nc scope (.Tuple [.Name x p,.Name y m] k pos) (AM i j) where
 ex:=⟨Cl X.K 2 (BT (Dt i) (BT (Dt j) Ch)),λC f s H=>Ku (X:=cxB X Nc scope [] C f s H) hc (FE (Du d hi (.inl (lookup_relabel_local c)) (.inr (lookup_relabel_local c))) (FE (Du d n (.inl (lookup_relabel_local e)) (.inr (lookup_relabel_local e))) Kt)),
  λv w σ ω H G Q t g r q=>by
   unfold AM at q;split at q
   ·rename_i a b;cases t with
    | tup h l =>
     cases l with
     | cons ta l =>
      cases l with
      | cons tb l =>
       cases l;exact⟨_,_,rfl,h,rfl,_,_,rfl,_,_,rfl,rfl,q _ H .refl ((g.set i ta).set j tb) r⟩
   ·exact q.elim⟩
 mono:=PM
theorem c7(hc:X.calm=true)(hi:PIw X tg iter gi)(B:Blk X Nc scope [] (λ_=>List.replicate Nc.length none))(e:TgU X Nc scope tg d)(f:gt.M)(h:∀ C fp s H,PFw (cxB X Nc scope [] C fp s H) ifs gt)(j:ge.M)(i:∀ C fp s H,PEw (cxB X Nc scope [] C fp s H) elt ge)(hs:∀ x,foldedSetIterable iter X.env x=pure x):
  PEw X (.ListComp elt [⟨tg,iter,ifs,0⟩] scope pos) (AI gi Nc.length d gt ge):=by
 obtain⟨k,a,hi⟩:=hi;obtain⟨g,b,c⟩:=e.ex;exact A7 (Pk hc a B b h i hs) (c6 hi c e.mono f j)
def Aw(C:Int->Int->Prop)(f:Int->Int->Int):RW2:=λx y G Q=>match x,y with
 | .int i,.int j=>C i j/\Q (.int (f i j)) G
 | _,_=>False
theorem Dh:RW2.M (Aw C f):=λx y G Q a h q=>by
 cases x <;> cases y <;> first | exact q | exact⟨q.1,h _ _ q.2⟩
theorem Gq(x y:W)(v u:V)(G:Hw)(H:Hp)(Q:VK)(a:Tr K H v x)(ty:Tr K H u y)(r:RelH K H G)(q:Aw C f x y G (dn K H Q)):rI C (λi j=>.int (f i j)) v u H Q:=by
 cases a <;> first | exact q.elim |(cases ty <;> first | exact q.elim | exact⟨_,_,rfl,rfl,q.1,q.2 _ H .refl (.int _) r⟩)
def Bk:RW2:=λx y G Q=>match x,y with
 | .int i,.int j=>Q (.int (i+j)) G
 | .str a,.str b=>a.length+b.length<=sizeLine/\Q (.str (a++b)) G
 | .ref a,.ref b=>(match G a,G b with
  | some (.lst xs),some (.lst ys)=>xs.length+ys.length<=sizeLine/\∀ p,G p=none->Q (.ref p) (put G p (.lst (xs++ys)))
  | _,_=>False)
 | _,_=>False
theorem K8:RW2.M Bk:=λx y G Q g h q=>by
 cases x <;> cases y <;> first | exact q | exact h _ _ q | exact⟨q.1,h _ _ q.2⟩| skip
 rename_i a b;unfold Bk at q ⊢;dsimp only at q ⊢;cases c:G a with
 | none=>rw[c]at q;exact q
 | some d =>
  cases eb:G b with
  | none=>rw[c,eb]at q;cases d <;> exact q
  | some f =>
   rw[c,eb]at q;cases d <;> cases f <;> first | exact q | exact⟨q.1,λp e=>h _ _ (q.2 p e)⟩
theorem PN:OpR X (binaryOp .Add) (λx y H Q=>(rI0 λi j=>.int (i+j)) x y H Q\/(∃ i j,x=.str i/\y=.str j/\i.length+j.length<=sizeLine/\Q (.str (i++j)) H)\/Gk x y H Q):=OpR.or ZQ (OpR.or ae aU)
theorem PP(x y:W)(v u:V)(G:Hw)(H:Hp)(Q:VK)(m:Tr K H v x)(ty:Tr K H u y)(r:RelH K H G)(q:Bk x y G (dn K H Q)):
  (rI0 λi j=>.int (i+j)) v u H Q\/(∃ i j,v=.str i/\u=.str j/\i.length+j.length<=sizeLine/\Q (.str (i++j)) H)\/Gk v u H Q:=by
 cases m with
 | int i=>cases ty <;> first | exact q.elim | exact .inl ⟨_,_,rfl,rfl,q _ H .refl (.int _) r⟩
 | str i=>cases ty <;> first | exact q.elim | exact .inr (.inl ⟨_,_,rfl,rfl,q.1,q.2 _ H .refl (.str _) r⟩)
 | ref a =>
  cases ty <;> try exact q.elim
  rename_i b;unfold Bk at q;dsimp only at q;cases c:G a with
  | none=>rw[c]at q;exact q.elim
  | some g =>
   cases eb:G b with
   | none=>rw[c,eb]at q;cases g <;> exact q.elim
   | some n =>
    rw[c,eb]at q;cases g <;> cases n <;> try exact q.elim
    obtain⟨vs,l,e⟩:=r a _ c;obtain⟨h,k,f⟩:=r b _ eb;exact .inr (.inr ⟨a,b,vs,h,rfl,rfl,l,k,by rw[e.length,f.length];exact q.1,λp d=>q.2 p (r.no d) _ _ (Mono.new d _) (.ref p) (r.new d (e.append f))⟩)
 | _=>exact q.elim
def Be(f:Int->Int->Bool):RW2:=λx y G Q=>match x,y with
 | .int i,.int j=>Q (.bl (f i j)) G
 | _,_=>False
theorem PQ:RW2.M (Be f):=λx y G Q a h q=>by
 cases x <;> cases y <;> first | exact q | exact h _ _ q
theorem PR(x y:W)(v u:V)(G:Hw)(H:Hp)(Q:VK)(a:Tr K H v x)(ty:Tr K H u y)(r:RelH K H G)(q:Be f x y G (dn K H Q)):rI0 (λi j=>.bl (f i j)) v u H Q:=by
 cases a <;> first | exact q.elim |(cases ty <;> first | exact q.elim | exact⟨_,_,rfl,rfl,q _ H .refl (.bl _) r⟩)
def opt(o:Option W)(f:W->Prop):Prop:=match o with | some w=>f w | none=>False
theorem La(h:∀ w,f w->a w)(q:opt o f):opt o a:=by
 cases o with
 | none=>exact q
 | some w=>exact h _ q
theorem C4(q:opt o f):∃ w,o=some w/\f w:=by
 cases o with
 | none=>exact q.elim
 | some w=>exact⟨w,rfl,q⟩
def Ae(f:W->W->Hw->Option W):RW2:=λx y G Q=>opt (f x y G) λw=>Q w G
theorem D7:RW2.M (Ae f):=λx y G Q a h q=>La (λw z=>h _ _ z) q
def ixW(x y:W)(G:Hw):Option W:=match x,y with
 | .tup xs,.int i=>atI xs i
 | .rol xs,.int i=>atI xs i
 | .ref a,.int i=>(match G a with | some (.lst xs)=>atI xs i | _=>none)
 | .str z,.int i=>if z.length<=sizeLine then(atI z.cps.toList i).map λc=>.str ⟨#[c]⟩else none
 | _,_=>none
theorem Lb(t:TrL K H vs a)(e:atI a i=some w):∃ v,atI vs i=some v/\Tr K H v w:=by
 unfold atI at e ⊢;rw[t.length];cases z:ixN a.length i with
 | none=>rw[z]at e;cases e
 | some j =>
  rw[z]at e;exact t.get e
theorem c8:IxR X (λx y H Q=>KO X.K x y H Q\/KP X.K x y H Q\/KQ x y H Q):=IxR.or aE (IxR.or aF aG)
theorem c9(x y:W)(v u:V)(G:Hw)(H:Hp)(Q:VK)(m:Tr K H v x)(ty:Tr K H u y)(r:RelH K H G)(q:Ae ixW x y G (dn K H Q)):KO K v u H Q\/KP K v u H Q\/KQ v u H Q:=by
 obtain⟨w,e,f⟩:=C4 q;cases ty with
 | int i =>
  cases m with
  | tup h l =>
   obtain⟨j,d,t'⟩:=Lb l e;exact .inr (.inl ⟨_,_,_,_,rfl,rfl,h,d,f _ H .refl t' r⟩)
  | rol h l =>
   obtain⟨j,d,t'⟩:=Lb l e;exact .inl ⟨_,_,_,_,rfl,rfl,h.sq,d,f _ H .refl t' r⟩
  | str z =>
   unfold ixW at e;dsimp only at e;split at e
   ·rename_i n;cases b:atI z.cps.toList i with
    | none=>rw[b]at e;cases e
    | some c =>
     rw[b]at e;cases e;exact .inr (.inr ⟨z,i,c,rfl,rfl,n,b,f _ H .refl (.str _) r⟩)
   ·cases e
  | ref a =>
   unfold ixW at e;dsimp only at e;cases g:G a with
   | none=>rw[g]at e;cases e
   | some o =>
    rw[g]at e;cases o with
    | exc C=>cases e
    | ins C fs=>cases e
    | dct k=>cases e
    | lst p =>
     obtain⟨vs,b,l⟩:=r a _ g;obtain⟨j,d,t'⟩:=Lb l e;exact .inl ⟨_,_,_,_,rfl,rfl,SqL.of b,d,f _ H .refl t' r⟩
  | _=>cases e
 | _=>cases x <;> cases e
structure Em(X:Cx)(e:Expr)(g:GE):Prop where
 p:PEw X e g
 m:g.M
structure Tm(X:Cx)(e:Expr)(g:GT):Prop where
 p:PTw X e g
 m:g.M
structure Wm(X:Cx)(e:Expr)(g:GT):Prop where
 p:PWw X e g
 m:g.M
structure Am(X:Cx)(es:List Expr)(g:GA):Prop where
 p:PAw X es g
 m:g.M
structure Sm(X:Cx)(P:Hp->Prop)(s:Stmt)(g:GS):Prop where
 p:PSw X P s g
 m:g.M
structure Ssm(X:Cx)(P:Hp->Prop)(s:List Stmt)(g:GS):Prop where
 p:Dw X P s g
 m:g.M
structure Im(X:Cx)(tg l:Expr)(g:GI):Prop where
 p:PIw X tg l g
 m:g.M
def place(N:List Str)(x:Str):Option Nat:=N.findIdx? (·==x)
theorem PU(h:place N x=some i):N[i]?=some x:=by
 unfold place at h;obtain⟨hi,e,_⟩:=List.findIdx?_eq_some_iff_getElem.mp h;rw[Yp hi,eq_of_beq e]
def seen(sc:Scope)(x:Str):Bool:=match sc.names.lookup x with | some .local=>true | some .cell=>true | some .free=>true | _=>false
theorem PV(h:seen a x=true):Vis a x:=by
 unfold seen at h;split at h <;> first |(rename_i e;exact .inl e)|(rename_i e;exact .inr (.inl e))|(rename_i e;exact .inr (.inr e))| cases h
def FN(sc:Scope)(x:Str):Bool:=match sc.names.lookup x with | some .local=>true | _=>false
theorem FO(h:FN a x=true):a.names.lookup x=some .local:=by
 unfold FN at h;split at h
 ·rename_i e;exact e
 ·cases h
section
theorem Lc{j}:Em X (.Constant (.int i) j pos) (gC (.int i)):=⟨bM,FL⟩
theorem da{j}:Em X (.Constant (.bool i) j pos) (gC (.bl i)):=⟨bN,FL⟩
theorem db{j}:Em X (.Constant .none j pos) (gC .non):=⟨bO,FL⟩
theorem Ld{j}:Em X (.Constant (.str i) j pos) (gC (.str i)):=⟨bP,FL⟩
theorem df(c:Em X a ga)(d:Em X b gb):Em X (.BinOp a .Add b pos) (Ad Bk ga gb):=⟨D5 PN K8 c.m d.m PP c.p d.p,CA K8 c.m d.m⟩
theorem dg(c:Em X a ga)(d:Em X b gb):Em X (.BinOp a .Sub b pos) (Ad (Aw (λ_ _=>True) λi j=>i - j) ga gb):=
 ⟨D5 (r2:=rI (λ_ _=>True) λi j=>.int (i - j)) (opI λ_ _ _ _ _ _ _ _ q=>sub_int q) Dh c.m d.m Gq c.p d.p,CA Dh c.m d.m⟩
theorem dh(c:Em X a ga)(d:Em X b gb):Em X (.BinOp a .Mult b pos) (Ad (Aw CMul λi j=>i*j) ga gb):=⟨D5 OI Dh c.m d.m Gq c.p d.p,CA Dh c.m d.m⟩
theorem di(c:Em X a ga)(d:Em X b gb):Em X (.BinOp a .FloorDiv b pos) (Ad (Aw EN λi j=>i / j) ga gb):=⟨D5 ZR Dh c.m d.m Gq c.p d.p,CA Dh c.m d.m⟩
theorem dj(c:Em X a ga)(d:Em X b gb):Em X (.BinOp a .Mod b pos) (Ad (Aw (λ_ j=>0 < j) λi j=>i % j) ga gb):=⟨D5 ZS Dh c.m d.m Gq c.p d.p,CA Dh c.m d.m⟩
theorem dk(c:Em X a ga)(d:Em X b gb):Em X (.BinOp a .Pow b pos) (Ad (Aw EO λi j=>i ^ j.toNat) ga gb):=⟨D5 ZT Dh c.m d.m Gq c.p d.p,CA Dh c.m d.m⟩
theorem dq(hs:HA b)(c:Em X a ga)(d:Em X b gb):Em X (.Subscript a b pos) (Ad (Ae ixW) ga gb):=⟨Pt c8 D7 c.m d.m c9 c.p d.p hs,CA D7 c.m d.m⟩
theorem Le{k}(h:Am X es gs):Em X (.Tuple es k pos) (Ah gs):=⟨cJ h.m h.p,cH h.m⟩
theorem HK(h:Am X es gs):Em X (.List es pos) (Aq gs):=⟨cK h.m h.p,cI h.m⟩
theorem Lf(h:Em X a ga):Em X (.BoolOp op [a] pos) ga:=⟨cC h.p,h.m⟩
variable {X:Cx}{a b c:Expr}{Ar:List Expr}{pos:Pos}{ga gb:GE} in
theorem Lg(c:Em X a ga)(d:Em X (.BoolOp .And (b::Ar) pos) gb):Em X (.BoolOp .And (a::b::Ar) pos) (Ca ga gb):=⟨cD c.m d.m c.p d.p,cz c.m d.m⟩
variable {X:Cx}{a b c:Expr}{Ar:List Expr}{pos:Pos}{ga gb:GE} in
theorem dr(c:Em X a ga)(d:Em X (.BoolOp .Or (b::Ar) pos) gb):Em X (.BoolOp .Or (a::b::Ar) pos) (C2 ga gb):=⟨cE c.m d.m c.p d.p,cA c.m d.m⟩
theorem dt(hc:Tm X c gt)(d:Em X a ga)(e:Em X b gb):Em X (.IfExp c a b pos) (BC gt ga gb):=⟨cG hc.m d.m e.m hc.p d.p e.p,cB hc.m d.m e.m⟩
theorem A5:Am X [] Ac:=⟨bR,Pu⟩
theorem AH(a:starEach (e::es) X.env=(false,eval e X.env)::starEach es X.env)(b:Em X e ga)(hs:Am X es gs):Am X (e::es) (Aa ga gs):=⟨bU b.m hs.m b.p hs.p a,Pv b.m hs.m⟩
theorem Bp(D:Df X.prog X.w X.K X.mg X.base x k n sp)(g:Room k X.A)(h:Gl X x)(d:D6 X ex)(b:(x==("__debug__":Str))=false)(f:starEach (e::es) X.env=(false,eval e X.env)::starEach es X.env)(a:(backTo pos (starEach es X.env)).any (·.1)=false)(c:Am X (e::es) gs):Em X (.Call (.Name x p) (e::es) [] pos) (Ag sp ex gs):=⟨bV D g h d c.m c.p b f a,Pw D.mono c.m⟩
theorem Lh(c:∀ a,isTrue e X.env a=(do let v <- a;standAt e.pos;holding [v] (truthy v)))(b:Em X e ga):Tm X e (A4 ga):=⟨ck b.m b.p c,ci b.m⟩
theorem Li(b:Tm X a gt):Tm X (.UnaryOp .Not a pos) (gNt gt):=⟨cn b.p,cm b.m⟩
theorem du(h:Wm X (.BoolOp op vs pos) gt):Tm X (.BoolOp op vs pos) gt:=⟨cy h.p,h.m⟩
theorem dv(h:Tm X a gt):Wm X (.BoolOp .And [a] pos) gt:=⟨cr h.p,h.m⟩
theorem dw(h:Tm X a gt):Wm X (.BoolOp .Or [a] pos) gt:=⟨cu h.p,h.m⟩
variable {X:Cx}{a b c:Expr}{Ar:List Expr}{pos:Pos}{gt gu:GT} in
theorem dy(c:Tm X a gt)(d:Wm X (.BoolOp .And (b::Ar) pos) gu):Wm X (.BoolOp .And (a::b::Ar) pos) (A8 gt gu):=⟨cw c.m d.m c.p d.p,cp c.m d.m⟩
variable {X:Cx}{a b c:Expr}{Ar:List Expr}{pos:Pos}{gt gu:GT} in
theorem dz(c:Tm X a gt)(d:Wm X (.BoolOp .Or (b::Ar) pos) gu):Wm X (.BoolOp .Or (a::b::Ar) pos) (gOr gt gu):=⟨cx c.m d.m c.p d.p,cq c.m d.m⟩
theorem C5:Ssm X P [] Ak:=⟨bZ,bX⟩
theorem AG{st:Stmt}(h:Sm X P st g1):Ssm X P [st] g1:=⟨b6 h.p,h.m⟩
theorem Az{st:Stmt}(h1:Sm X P st g1)(h2:Ssm X P sts g2):Ssm X P (st::sts) (Af g1 g2):=⟨b5 h1.m h2.m h1.p h2.p,bY h1.m h2.m⟩
theorem Ba(a:Em X e ga):Sm X P (.Return (some e) pos) (Ai ga):=⟨b8 a.m a.p,b7 a.m⟩
theorem BZ(hs:swapsWith e none pos.line X.env=pure false)(a:Em X e ga):Sm X P (.Expr e pos) (AC ga):=⟨cb a.m a.p hs,b9 a.m⟩
theorem Cb(hc:Tm X c gt)(h1:Ssm X P sts g1)(h2:Ssm X P sts' g2):Sm X P (.If c sts sts' pos) (gIf gt g1 g2):=⟨ce hc.m h1.m h2.m hc.p h1.p h2.p,cc hc.m h1.m h2.m⟩
theorem PX(a:∀ it u,letOwnedTupleGo tg it u=pure ())(hl:Em X l ga):Im X tg l (Ax ga):=⟨cT a hl.m hl.p,cQ hl.m⟩
theorem EV(d:PassesOwn (model X.prog X.w) X.A X.env X.xe)(hc:X.calm=true)(hs:∀ x,foldedSetIterable iter X.env x=pure x)(hi:Im X tg iter gi)(c:TgW X tg b)(a:Ssm X Pr sts gb):Sm X P (.For tg iter sts [] pos) (AT gi b gb):=
 ⟨cW d hc hi.m a.m hi.p c a.p hs,cU hi.m c.mono a.m⟩
end
theorem dA{bs:List Bool}(r:Vals (bs.map V.bl) a){i:Nat}(e:a.toArray[i]?=some v):v=.bool (bs.getD i false):=by
 have c:a[i]?=some v:=by simpa using e
 have hl:=r.length;rw[Yh]at hl;have hi:i < a.length:=(Qa.mp c).1;have d:bs[i]?=some (bs[i]'(by lia)):=Yp _;obtain⟨u,b,r1⟩:=r.get (i:=i) (x:=.bl (bs[i]'(by lia))) (by rw[YR,d];rfl);rw[c]at b;cases b;rw[Qd,d];exact r1
theorem dB{bs:List Bool}:(List.range bs.length).all (λi=>bs.getD i false)=bs.all id:=by
 rw[Bool.eq_iff_iff];simp only[List.all_eq_true,List.mem_range,id];constructor
 ·intro h b a;obtain⟨i,hi,e⟩:=List.mem_iff_getElem.mp a;have:=h i hi;rw[Qd,Yp hi]at this;rw[<- e];exact this
 ·intro h i hi;rw[Qd,Yp hi];exact h _ (Qj hi)
section
theorem dD(hc:X.calm=true):CallR X (.builtin "all") (λxs H Q=>∃(p:Addr)(bs:List Bool),xs=[.ref p]/\SqL X.K H p (bs.map V.bl)/\Q (.bl (bs.all id)) H):=by
 intro pins s σ H xs g Q I r h;obtain⟨p,bs,rfl,a,q⟩:=h;obtain⟨u,rfl,d⟩:=Cz r;cases d;obtain⟨c,r',pl,j⟩:=I.list a;have hl:=r'.length;rw[Yh]at hl;obtain⟨o,n,e,_⟩:=id pl
 refine call_all_walk (wpAny_pyIter_list pl.isList ⟨s.heap.objs.size,_,_,_,_,_,λi=>bs.getD i false,rfl,Walks.list (A:=X.A.in1) (I.ok.hd hc) _ p (Ys (Qo e)) c.toArray,
  ⟨⟨_,Qp _ rfl,rfl,rfl⟩,pl.isList.push _⟩,λi v s Q E f a=>by rw[dA r' f];exact wpAny_truthy_bool a,λh' tk k=>?_⟩)
 refine⟨.bl (bs.all id),H,I.kept (t':=tk) λb o e=>k b o (by simpa using Ys (Qo e)) (Qn _ e),?_,q⟩;show Value.bool _=_;rw[Yn,<- hl,dB]
theorem Lj{ns:List Int}(r:Vals (ns.map V.int) a){i:Nat}(e:a.toArray[i]?=some v):∃ t,v=.int (ns.getD i 0) t:=by
 have c:a[i]?=some v:=by simpa using e
 have hl:=r.length;rw[Yh]at hl;have hi:i < a.length:=(Qa.mp c).1;have d:ns[i]?=some (ns[i]'(by lia)):=Yp _;obtain⟨u,b,r1⟩:=r.get (i:=i) (x:=.int (ns[i]'(by lia))) (by rw[YR,d];rfl);rw[c]at b;cases b;rw[Qd,d];exact r1
theorem dE(hc:X.calm=true):CallR X (.builtin "sum") (λxs H Q=>∃(p:Addr)(ns:List Int),xs=[.ref p]/\SqL X.K H p (ns.map V.int)/\PyProof.Rows.SumFits ns/\Q (.int ns.sum) H):=by
 intro pins s σ H xs w Q I r h;obtain⟨p,ns,rfl,g,f,q⟩:=h;obtain⟨u,rfl,l⟩:=Cz r;cases l;obtain⟨c,r',pl,x⟩:=I.list g;have hl:=r'.length;rw[Yh]at hl;obtain⟨o,n,e,_⟩:=id pl
 refine call_sum_walk (wpAny_pyIter_list pl.isList ⟨s.heap.objs.size,_,_,_,_,_,λi=>ns.getD i 0,rfl,Walks.list (A:=X.A.in1) (I.ok.hd hc) _ p (Ys (Qo e)) c.toArray,
  ⟨⟨_,Qp _ rfl,rfl,rfl⟩,pl.isList.push _⟩,λb t=>?_,λi v m=>Lj r' m,λj d=>?_,λh' tk t' k=>?_⟩)
 ·rw[Qq];rcases Yo.mp t with a | a
  ·rw[a];exact Nat.lt_succ_self _
  ·rw[YA.mp a];exact Nat.lt_succ_of_lt (Qo e)
 ·rw[Yn,<- hl]at d;have:=f j d;rw[preSum_getD];exact this
 ·refine⟨.int ns.sum,H,I.kept (t':=tk) λb o e=>k b o (by simpa using Ys (Qo e)) (Qn _ e),⟨t',?_⟩,q⟩;rw[Yn,<- hl,preSum_getD,List.take_length]
end
abbrev RWc:=List W->Hw->Kw->Prop
def RWc.M(r:RWc):Prop:=∀ ws G(Q Q':Kw),(∀ w G',Q w G'->Q' w G')->r ws G Q->r ws G Q'
def gB(r:RWc)(gs:GA):GE:=λω G Q=>gs ω G λws G1=>r ws G1 Q
theorem PY(mr:r.M)(a:gs.M):GE.M (gB r gs):=λω G Q b h q=>a _ _ _ _ (λd c z=>mr _ _ _ _ h z) q
theorem PZ(mr:r.M)(c:gs.M)(f:∀ a vs G H Q,TrL K H vs a->RelH K H G->r a G (dn K H Q)->r1 vs H Q)(σ:St)(H:Hp)(Q:VK)(h:up K (gB r gs) σ H Q):tCB r1 (upA K gs) σ H Q:=by
 obtain⟨ω,G,g,e,q⟩:=h;exact⟨ω,G,g,e,c _ _ _ _ (λa d z vs H1 m t b=>f a vs d H1 Q t b (mr _ _ _ _ (λw i y=>Cj m y) z)) q⟩
section
theorem dF{id:String}(hc:CallR X (.builtin id) r1)(mr:r.M)(i:∀ d vs G H Q,TrL X.K H vs d->RelH X.K H G->r d G (dn X.K H Q)->r1 vs H Q)(k:Gl X x)(g:X.mg x=none)(j:bootBuiltins x=some (.builtin id))(f:x≠"__name__")(b:(x==("__debug__":Str))=false)(h:starEach (e::es) X.env=(false,eval e X.env)::starEach es X.env)(a:(backTo pos (starEach es X.env)).any (·.1)=false)(c:Am X (e::es) gs):Em X (.Call (.Name x p) (e::es) [] pos) (gB r gs):=
 ⟨A7 (aq hc k g j c.p f b h a) (PZ mr c.m i),PY mr c.m⟩
theorem dG(hc:CallR X (.type T) r1)(mr:r.M)(i:∀ d vs G H Q,TrL X.K H vs d->RelH X.K H G->r d G (dn X.K H Q)->r1 vs H Q)(k:Gl X x)(g:X.mg x=none)(j:bootBuiltins x=some (.type T))(f:x≠"__name__")(b:(x==("__debug__":Str))=false)(h:starEach (e::es) X.env=(false,eval e X.env)::starEach es X.env)(a:(backTo pos (starEach es X.env)).any (·.1)=false)(c:Am X (e::es) gs):Em X (.Call (.Name x p) (e::es) [] pos) (gB r gs):=
 ⟨A7 (ar hc k g j c.p f b h a) (PZ mr c.m i),PY mr c.m⟩
end
def rF(f:List W->Hw->Option W):RWc:=λws G Q=>opt (f ws G) λw=>Q w G
theorem Gr:RWc.M (rF f):=λb G Q a h q=>La (λw z=>h _ _ z) q
def EW:List W->Option (List Bool)
 | []=>some []
 | .bl b::r=>(EW r).map (b::·)
 | _=>none
theorem P0:∀{a:List W}{bs:List Bool}{vs:List V},EW a=some bs->TrL K H vs a->vs=bs.map V.bl
 | [],bs,vs,e,t=>by cases e;cases t;rfl
 | w::a,bs,vs,e,t=>by
  cases t with
  | cons d t =>
   cases w with
   | bl b =>
    unfold EW at e;cases z:EW a with
    | none=>rw[z]at e;cases e
    | some c =>
     rw[z]at e;cases e;rw[FM d,P0 z t];rfl
   | _=>cases e
def D8:List W->Option (List Int)
 | []=>some []
 | .int b::r=>(D8 r).map (b::·)
 | _=>none
theorem Lk:∀{a:List W}{bs:List Int}{vs:List V},D8 a=some bs->TrL K H vs a->vs=bs.map V.int
 | [],bs,vs,e,t=>by cases e;cases t;rfl
 | w::a,bs,vs,e,t=>by
  cases t with
  | cons d t =>
   cases w with
   | int b =>
    unfold D8 at e;cases z:D8 a with
    | none=>rw[z]at e;cases e
    | some c =>
     rw[z]at e;cases e;rw[Pz d,Lk z t];rfl
   | _=>cases e
def C6(G:Hw)(w:W):Option (List W):=match w with
 | .ref a=>(match G a with | some (.lst xs)=>some xs | _=>none)
 | _=>none
theorem EX(r:RelH K H G)(t:Tr K H v w)(e:C6 G w=some xs):∃ a vs,v=.ref a/\w=.ref a/\G a=some (.lst xs)/\H a=some (.lst vs)/\TrL K H vs xs:=by
 cases t with
 | ref a =>
  unfold C6 at e;dsimp only at e;cases z:G a with
  | none=>rw[z]at e;cases e
  | some o =>
   rw[z]at e;cases o with
   | lst ys=>cases e;obtain⟨vs,b,c⟩:=r a _ z;exact⟨a,vs,rfl,rfl,z,b,c⟩
   | exc C=>cases e
   | ins C fs=>cases e
   | dct d=>cases e
 | _=>cases e
def BD(ws:List W)(G:Hw):Option W:=match ws with | [w]=>(C6 G w).bind λxs=>(EW xs).map λbs=>.bl (bs.all id)| _=>none
theorem dH(b:List W)(vs:List V)(G:Hw)(H:Hp)(Q:VK)(t:TrL K H vs b)(r:RelH K H G)(q:rF BD b G (dn K H Q)):∃(p:Addr)(bs:List Bool),vs=[.ref p]/\SqL K H p (bs.map V.bl)/\Q (.bl (bs.all id)) H:=by
 obtain⟨w,e,h⟩:=C4 q;unfold BD at e;split at e
 ·rename_i m;cases t with
  | cons j t =>
   cases t;obtain⟨xs,f,d⟩:=Qf.mp e;obtain⟨bs,i,g⟩:=YT.mp d;obtain⟨a,l,rfl,rfl,_,c,k⟩:=EX r j f;subst g;have:=P0 i k;subst this;exact⟨a,bs,rfl,SqL.of c,h _ H .refl (.bl _) r⟩
 ·cases e
def Dy:RWc:=λws G Q=>match ws with
 | [w]=>(match(C6 G w).bind D8 with | some ns=>PyProof.Rows.SumFits ns/\Q (.int ns.sum) G | none=>False)
 | _=>False
theorem dI:RWc.M Dy:=λb G Q a h q=>by
 unfold Dy at q ⊢;split at q
 ·split at q
  ·exact⟨q.1,h _ _ q.2⟩
  ·exact q.elim
 ·exact q.elim
theorem dJ(b:List W)(vs:List V)(G:Hw)(H:Hp)(Q:VK)(t:TrL K H vs b)(r:RelH K H G)(q:Dy b G (dn K H Q)):∃(p:Addr)(ns:List Int),vs=[.ref p]/\SqL K H p (ns.map V.int)/\PyProof.Rows.SumFits ns/\Q (.int ns.sum) H:=by
 unfold Dy at q;split at q
 ·rename_i j;split at q
  ·rename_i ns e;cases t with
   | cons g t =>
    cases t;obtain⟨xs,f,d⟩:=Qf.mp e;obtain⟨a,i,rfl,rfl,_,c,h⟩:=EX r g f;have:=Lk d h;subst this;exact⟨a,ns,rfl,SqL.of c,q.1,q.2 _ H .refl (.int _) r⟩
  ·exact q.elim
 ·exact q.elim
def Ck(w:W)(G:Hw):Option W:=match w with
 | .tup xs=>some (.int xs.length)
 | .rol xs=>some (.int xs.length)
 | .str z=>if z.length<=sizeLine then some (.int z.length)else none
 | .ref a=>(match G a with | some (.lst xs)=>some (.int xs.length)| _=>none)
 | _=>none
def Bf(ws:List W)(G:Hw):Option W:=match ws with | [w]=>Ck w G | _=>none
theorem dL(c:List W)(vs:List V)(G:Hw)(H:Hp)(Q:VK)(t:TrL K H vs c)(r:RelH K H G)(q:rF Bf c G (dn K H Q)):∃ x n,vs=[x]/\OM K x H n/\Q (.int n) H:=by
 obtain⟨w,e,b⟩:=C4 q;unfold Bf at e;split at e
 ·cases t with
  | cons i t =>
   cases t;cases i with
   | tup h l=>cases e;exact⟨_,_,rfl,.inr ⟨_,h,rfl⟩,by rw[l.length];exact b _ H .refl (.int _) r⟩
   | rol h l=>cases e;exact⟨_,_,rfl,.inl ⟨_,h.sq,rfl⟩,by rw[l.length];exact b _ H .refl (.int _) r⟩
   | str z =>
    unfold Ck at e;dsimp only at e;split at e
    ·rename_i j;cases e;exact⟨_,_,rfl,⟨j,rfl⟩,b _ H .refl (.int _) r⟩
    ·cases e
   | ref a =>
    unfold Ck at e;dsimp only at e;cases z:G a with
    | none=>rw[z]at e;cases e
    | some o =>
     rw[z]at e;cases o with
     | exc C=>cases e
     | ins C fs=>cases e
     | dct f=>cases e
     | lst xs =>
      cases e;obtain⟨k,g,d⟩:=r a _ z;exact⟨_,_,rfl,.inl ⟨_,SqL.of g,rfl⟩,by rw[d.length];exact b _ H .refl (.int _) r⟩
   | _=>cases e
 ·cases e
mutual
def eqD:W->W->Option Bool
 | .tup xs,.tup ys=>Bm xs ys
 | .non,.non=>some true
 | .bl a,.bl b=>some (a==b)
 | .bl a,.int b=>some ((if a then 1 else 0)==b)
 | .int a,.bl b=>some (a==(if b then 1 else 0))
 | .int a,.int b=>some (a==b)
 | .str a,.str b=>some (a==b)
 | .non,.int _=>some false
 | .int _,.non=>some false
 | .int _,.str _=>some false
 | .str _,.int _=>some false
 | .bl _,.str _=>some false
 | .str _,.bl _=>some false
 | .non,.str _=>some false
 | .str _,.non=>some false
 | .non,.bl _=>some false
 | .bl _,.non=>some false
 | .tup _,.str _=>some false
 | .str _,.tup _=>some false
 | .tup _,.bl _=>some false
 | .bl _,.tup _=>some false
 | .tup _,.int _=>some false
 | .int _,.tup _=>some false
 | _,_=>none
def Bm:List W->List W->Option Bool
 | [],[]=>some true
 | [],_::_=>some false
 | _::_,[]=>some false
 | x::xs,y::ys=>match eqD x y,Bm xs ys with
  | some a,some b=>some (a&&b)
  | _,_=>none
end
mutual
def dpW:W->Nat
 | .tup xs=>dpL xs+1
 | _=>0
def dpL:List W->Nat
 | []=>0
 | x::xs=>max (dpW x) (dpL xs)
end
def Gs:W->Option V
 | .non=>some .non
 | .bl b=>some (.bl b)
 | .int i=>some (.int i)
 | .str x=>some (.str x)
 | _=>none
theorem P1(t:Tr K H v w)(e:Gs w=some f):v=f/\Dg v=true:=by
 cases t <;> first | cases e;exact⟨rfl,rfl⟩| cases e
theorem HL:∀{xs ys:List W}{b:Bool},Bm xs ys=some b->∃ e:Nat->Bool,(∀(i:Nat)x y,xs[i]?=some x->ys[i]?=some y->eqD x y=some (e i))/\b=((List.range (min xs.length ys.length)).all e&&xs.length==ys.length)
 | [],[],b,h=>by
  cases(show some true=some b from h);exact⟨λ_=>true,λi x y h1 h2=>by simp at h1,by simp⟩
 | [],_::_,b,h=>by
  cases(show some false=some b from h);exact⟨λ_=>true,λi x y h1 h2=>by simp at h1,by simp⟩
 | _::_,[],b,h=>by
  cases(show some false=some b from h);exact⟨λ_=>true,λi x y h1 h2=>by simp at h2,by simp⟩
 | x::xs,y::ys,b,h=>by
  have h':(match eqD x y,Bm xs ys with | some a,some b=>some (a&&b)| _,_=>none)=some b:=by rw[<- h];rfl
  cases d:eqD x y with
  | none=>rw[d]at h';cases h'
  | some a =>
   cases g:Bm xs ys with
   | none=>rw[d,g]at h';cases h'
   | some c =>
    rw[d,g]at h';cases h';obtain⟨f,l,hc⟩:=HL g;refine⟨λi=>match i with | 0=>a | j+1=>f j,λi n m h1 h2=>?_,?_⟩
    ·cases i with
     | zero=>simp at h1 h2;subst h1;subst h2;exact d
     | succ j=>exact l j n m (by simpa using h1) (by simpa using h2)
    ·have o:min (x::xs).length (y::ys).length=min xs.length ys.length+1:=by simp only[Yg];lia
     rw[o,List.range_succ_eq_map,List.all_cons,List.all_map,hc];have k:((x::xs).length==(y::ys).length)=(xs.length==ys.length):=by simp
     rw[k,Bool.and_assoc];rfl
theorem P3:∀(xs:List W),(∀ x∈xs,eqD x x=some true\/eqD x x=none)->Bm xs xs=some true\/Bm xs xs=none
 | [],_=>.inl rfl
 | x::xs,h=>by
  have e:Bm (x::xs) (x::xs)=(match eqD x x,Bm xs xs with | some a,some b=>some (a&&b)| _,_=>none):=rfl;rw[e];rcases h x Ye with h1 | h1
  ·rcases P3 xs (λy c=>h y (Yd _ c))with h2 | h2
   ·rw[h1,h2];exact .inl rfl
   ·rw[h1,h2];exact .inr rfl
  ·rw[h1];exact .inr rfl
theorem P4:∀(x:W),eqD x x=some true\/eqD x x=none
 | .non=>.inl rfl
 | .bl b=>.inl (by show some (b==b)=_;simp)
 | .int b=>.inl (by show some (b==b)=_;simp)
 | .str b=>.inl (by show some (b==b)=_;simp)
 | .tup xs=>P3 xs (λx _=>P4 x)
 | .rol _=>.inr rfl
 | .ref _=>.inr rfl
theorem EY:∀{xs:List W}{x:W},x∈xs->dpW x<=dpL xs
 | y::xs,x,h=>by
  have e:dpL (y::xs)=max (dpW y) (dpL xs):=rfl;rw[e];walk_at "pk"
  ·exact Nat.le_max_left ..
  ·exact Yt (EY h) (Nat.le_max_right ..)
theorem dM:∀(c:List W)(ys:List W)(vs:List V),(∀(v:V)(w y:W),w∈c->Tr K H v w->Tr K H v y->eqD w y≠none->w=y)->TrL K H vs c->TrL K H vs ys->Bm c ys≠none->c=ys:=by
 intro c;induction c with
 | nil =>
  intro ys vs _ l d _;cases l;cases d;rfl
 | cons w c f =>
  intro ys vs h l d ne;cases l with
  | cons t l =>
   cases d with
   | @cons _ y _ ys t' d =>
    have e:Bm (w::c) (y::ys)=(match eqD w y,Bm c ys with | some a,some b=>some (a&&b)| _,_=>none):=rfl;have h1:eqD w y≠none:=λz=>ne (by rw[e,z]);have h2:Bm c ys≠none:=λz=>ne (by rw[e,z];cases eqD w y <;> rfl);rw[h _ w y Ye t t' h1,f ys _ (λv w y g=>h v w y (Yd _ g)) l d h2]
theorem dN{σ:St}(I:Inv X pins σ H s)(n:Nat):∀(v:V)(w y:W),dpW w < n->Tr X.K H v w->Tr X.K H v y->eqD w y≠none->w=y:=by
 induction n with
 | zero=>intro v w y h;exact absurd h (Nat.not_lt_zero _)
 | succ n j =>
  intro v w y h m ty ne;cases m with
  | tup g l =>
   rename_i a vs d;generalize b:V.ref a=vr at ty;cases ty with
   | tup c k =>
    cases b;have e:=I.tuple_inj g c;subst e;have f:dpL d+1 < n+1:=h;rw[dM d _ _ (λv w y i=>j v w y (by have:=EY i;lia)) l k ne]
   | rol _ _=>exact absurd rfl ne
   | ref _=>exact absurd rfl ne
   | non=>cases b
   | bl _=>cases b
   | int _=>cases b
   | str _=>cases b
  | rol _ _=>exact absurd (by cases y <;> rfl) ne
  | ref _=>exact absurd (by cases y <;> rfl) ne
  | non=>cases ty;rfl
  | bl _=>cases ty;rfl
  | int _=>cases ty;rfl
  | str _=>cases ty;rfl
theorem dO{σ:St}(I:Inv X pins σ H s)(n:Nat):∀(w y:W)(v u:V)(vv E:Value)(b:Bool)(A:Around),dpW w < n->Tr X.K H v w->Tr X.K H u y->RelV v vv->RelV u E->eqD w y=some b->A.units+n < cLine->SeqAt.EqAt A s vv E b:=by
 induction n with
 | zero=>intro w _ _ _ _ _ _ _ h;exact absurd h (Nat.not_lt_zero _)
 | succ n ih =>
  intro w y v u vv E b A h T ty m i e hu;cases T with
  | tup k l =>
   cases ty with
   | tup p x =>
    rename_i a vs o O us ys;cases m;cases i;by_cases q:a=O
    ·subst q;have Z:=dN I (dpW (.tup o)+1) _ _ _ (Nat.lt_succ_self _) (.tup k l) (.tup p x) (by rw[e];simp);cases Z;rcases P4 (.tup o)with z | z
     ·rw[e]at z;cases z;exact SeqAt.EqAt.same _
     ·rw[e]at z;cases z
    ·obtain⟨d,r1,p1,_⟩:=I.tuple k;obtain⟨g,L,p2,_⟩:=I.tuple p;obtain⟨f,hf,hb⟩:=HL (show Bm o ys=some b from e);have l1:=r1.length;have l2:=L.length;have l3:=l.length;have l4:=x.length;refine SeqAt.EqAt.of_refs q ?_;have key:=SeqAt.RcAt.tuples (A:=A) (s:=s) (e:=f) (show s.heap.IsTuple a d.toArray from p1) (show s.heap.IsTuple O g.toArray from p2) (by lia) (λj h1 h2=>?_)
     ·rw[hb];have Y:d.toArray.size=o.length:=by rw[Yn];lia
      have S:g.toArray.size=ys.length:=by rw[Yn];lia
      rw[Y,S]at key;exact key
     ·have B:j < o.length:=by rw[Yn]at h1;lia
      have N:j < ys.length:=by rw[Yn]at h2;lia
      obtain⟨v1,g1,R⟩:=l.get (Yp B);obtain⟨v2,g2,P⟩:=x.get (Yp N);obtain⟨u1,g3,J⟩:=r1.get g1;obtain⟨Q,g4,r⟩:=L.get g2
      have F:d.toArray[j]=u1:=by
       have z:d[j]?=some d[j]:=Yp (by lia);rw[g3]at z;have D:=YE z;rw[D];simp
      have G:g.toArray[j]=Q:=by
       have z:g[j]?=some g[j]:=Yp (by lia);rw[g4]at z;have D:=YE z;rw[D];simp
      rw[F,G];have hd:dpW (o[j])<=dpL o:=EY (Qj B);have U:dpL o+1 < n+1:=h;exact ih _ _ _ _ _ _ _ A.in1 (by lia) R P J r (hf j _ _ (Yp B) (Yp N)) (by show A.units+1+n < cLine;lia)
   | str _ =>
    cases e;cases m;obtain⟨t,rfl⟩:=i;obtain⟨d,r1,p1,_⟩:=I.tuple k;exact SeqAt.EqAt.tuple_str (A:=A) _ _ p1 (by lia)
   | bl _ =>
    cases e;cases m;cases i;obtain⟨d,r1,p1,_⟩:=I.tuple k;exact SeqAt.EqAt.tuple_bool _ p1 (by lia)
   | int _ =>
    cases e;cases m;obtain⟨t,rfl⟩:=i;obtain⟨d,r1,p1,_⟩:=I.tuple k;exact SeqAt.EqAt.tuple_int (A:=A) _ _ p1 (by lia)
   | _=>cases e
  | non=>cases ty <;> cases e <;> exact Gj m i rfl rfl
  | bl c =>
   cases ty with
   | tup k l =>
    cases e;cases m;cases i;obtain⟨d,r1,p1,_⟩:=I.tuple k;exact SeqAt.EqAt.bool_tuple _ p1 (by lia)
   | _=>cases e <;> exact Gj m i rfl rfl
  | int c =>
   cases ty with
   | tup k l =>
    cases e;cases i;obtain⟨t,rfl⟩:=m;obtain⟨d,r1,p1,_⟩:=I.tuple k;exact SeqAt.EqAt.int_tuple (A:=A) _ _ p1 (by lia)
   | _=>cases e <;> exact Gj m i rfl rfl
  | str c =>
   cases ty with
   | tup k l =>
    cases e;cases i;obtain⟨t,rfl⟩:=m;obtain⟨d,r1,p1,_⟩:=I.tuple k;exact SeqAt.EqAt.str_tuple (A:=A) _ _ p1 (by lia)
   | _=>cases e <;> exact Gj m i rfl rfl
  | rol _ _=>cases y <;> cases e
  | ref _=>cases y <;> cases e
def rSq(K:PySem.W.Frag)(neg:Bool):R2:=λv u H Q=>∃(a b:Addr)(vs us:List V)(ws ys:List W)(c:Bool),v=.ref a/\u=.ref b/\((SqT K H a vs/\SqT K H b us)\/(SqL K H a vs/\SqL K H b us))/\TrL K H vs ws/\TrL K H us ys/\dpL ws < 90/\Bm ws ys=some c/\Q (.bl (c != neg)) H
section
theorem HM{σ:St}(I:Inv X pins σ H s){A:Around}(r1:Vals vs a)(r2:Vals us its')(t1:TrL X.K H vs b)(t2:TrL X.K H us ys)(hd:dpL b < 90)(t:A.units+100 < cLine){f:Nat->Bool}(p:∀(i:Nat)x y,b[i]?=some x->ys[i]?=some y->eqD x y=some (f i))(j:Nat)(h1:j < a.toArray.size)(h2:j < its'.toArray.size):SeqAt.EqAt A.in1 s a.toArray[j] its'.toArray[j] (f j):=by
 have v:=r1.length;have r:=r2.length;have q:=t1.length;have w:=t2.length;have d:j < b.length:=by rw[Yn]at h1;lia
 have m:j < ys.length:=by rw[Yn]at h2;lia
 obtain⟨u,g1,g⟩:=t1.get (Yp d);obtain⟨B,g2,e⟩:=t2.get (Yp m);obtain⟨o,g3,l⟩:=r1.get g1;obtain⟨n,g4,c⟩:=r2.get g2
 have h:a.toArray[j]=o:=by
  have z:a[j]?=some a[j]:=Yp (by lia);rw[g3]at z;rw[YE z];simp
 have k:its'.toArray[j]=n:=by
  have z:its'[j]?=some its'[j]:=Yp (by lia);rw[g4]at z;rw[YE z];simp
 rw[h,k];exact dO I 99 _ _ _ _ _ _ _ A.in1 (by have:=EY (Qj d);lia) g e l c (p j _ _ (Yp d) (Yp m)) (by show A.units+1+99 < cLine;lia)
end
theorem dP(t:X.A.units+100 < cLine):OpR X (compareOp .Eq) (rSq X.K false):=by
 intro pins s σ H x y v u Q I z B h;obtain⟨a,b,vs,L,p,ys,c,rfl,rfl,D,n,m,hd,e,q⟩:=h;cases z;cases B;obtain⟨f,w,r⟩:=HL e;have G:=n.length;have J:=m.length;have j:∀ d:Bool,d=c->EP X pins σ Q (.bool d) s:=λd hd=>by subst hd;exact⟨.bl d,H,I,rfl,by simpa using q⟩
 rcases D with⟨h1,h2⟩|⟨h1,h2⟩
 ·obtain⟨i,r1,p1,_⟩:=I.tuple h1;obtain⟨g,k,p2,_⟩:=I.tuple h2;have F:=r1.length;have E:=k.length;refine SeqAt.eq_tupleAt (e:=f) (show s.heap.IsTuple a i.toArray from p1) (show s.heap.IsTuple b g.toArray from p2) (by lia) (HM I r1 k n m hd t w) (j _ ?_);have l:i.toArray.size=p.length:=by rw[Yn];lia
  have o:g.toArray.size=ys.length:=by rw[Yn];lia
  rw[l,o,r]
 ·obtain⟨i,r1,p1,_⟩:=I.list h1;obtain⟨g,k,p2,_⟩:=I.list h2;have F:=r1.length;have E:=k.length;have l:i.toArray.size=p.length:=by rw[Yn];lia
  have o:g.toArray.size=ys.length:=by rw[Yn];lia
  by_cases hl:p.length=ys.length
  ·refine SeqAt.eq_listAt (e:=f) p1.isList p2.isList (by lia) (by lia) (HM I r1 k n m hd t w) (j _ ?_);rw[l,r,hl];simp
  ·refine SeqAt.eq_list_lengthsAt p1.isList p2.isList (by rw[l,o];simpa using hl) (by lia) (j _ ?_);rw[r];simp[hl]
theorem dQ(t:X.A.units+100 < cLine):OpR X (compareOp .NotEq) (rSq X.K true):=by
 intro pins s σ H x y v u Q I z B h;obtain⟨a,b,vs,L,p,ys,c,rfl,rfl,D,n,m,hd,e,q⟩:=h;cases z;cases B;obtain⟨f,w,r⟩:=HL e;have G:=n.length;have J:=m.length;have j:∀ d:Bool,d=!c->EP X pins σ Q (.bool d) s:=λd hd=>by subst hd;exact⟨.bl _,H,I,rfl,by simpa using q⟩
 rcases D with⟨h1,h2⟩|⟨h1,h2⟩
 ·obtain⟨i,r1,p1,_⟩:=I.tuple h1;obtain⟨g,k,p2,_⟩:=I.tuple h2;have F:=r1.length;have E:=k.length;refine SeqAt.RcNeAt.tuples (e:=f) (show s.heap.IsTuple a i.toArray from p1) (show s.heap.IsTuple b g.toArray from p2) (by lia) (HM I r1 k n m hd t w) _ _ _ _ (j _ ?_);have l:i.toArray.size=p.length:=by rw[Yn];lia
  have o:g.toArray.size=ys.length:=by rw[Yn];lia
  rw[l,o,r]
 ·obtain⟨i,r1,p1,_⟩:=I.list h1;obtain⟨g,k,p2,_⟩:=I.list h2;have F:=r1.length;have E:=k.length;have l:i.toArray.size=p.length:=by rw[Yn];lia
  have o:g.toArray.size=ys.length:=by rw[Yn];lia
  by_cases hl:p.length=ys.length
  ·refine SeqAt.RcNeAt.lists (e:=f) p1.isList p2.isList (by lia) (by lia) (HM I r1 k n m hd t w) _ _ _ _ (j _ ?_);rw[l,r,hl];simp
  ·refine SeqAt.RcNeAt.lists_lengths p1.isList p2.isList (by rw[l,o];simpa using hl) (by lia) _ _ _ _ (j _ ?_);rw[r];simp[hl]
def eqW(x y:W)(G:Hw):Option Bool:=match x,y with
 | .tup xs,.tup ys=>if dpL xs < 90 then Bm xs ys else none
 | .ref a,.ref b=>(match G a,G b with
  | some (.lst xs),some (.lst ys)=>if dpL xs < 90 then Bm xs ys else none
  | _,_=>none)
 | .int a,.int b=>some (a==b)
 | .bl a,.bl b=>some (a==b)
 | .str a,.str b=>some (a==b)
 | .non,.non=>some true
 | .int _,.non=>some false
 | .non,.int _=>some false
 | .int _,.str _=>some false
 | .str _,.int _=>some false
 | .bl _,.str _=>some false
 | .str _,.bl _=>some false
 | .non,.str _=>some false
 | .str _,.non=>some false
 | .non,.bl _=>some false
 | .bl _,.non=>some false
 | _,_=>none
def eqF(neg:Bool)(x y:W)(G:Hw):Option W:=(eqW x y G).map λc=>.bl (c != neg)
theorem P5(c:Bool):(c != true)=!c:=by cases c <;> rfl
theorem P6(neg:Bool)(x y:W)(v u:V)(G:Hw)(H:Hp)(Q:VK)(A:Tr K H v x)(ty:Tr K H u y)(r:RelH K H G)(q:Ae (eqF neg) x y G (dn K H Q)):(EQ v u=true/\Q (.bl (decide (v=u) != neg)) H)\/rSq K neg v u H Q:=by
 obtain⟨w,e,s⟩:=C4 q;obtain⟨c,d,p⟩:=YT.mp e;subst p;have qq:=s (.bl (c != neg)) H .refl (.bl _) r;have f:∀{i j:V},decide (i=j)=c->EQ i j=true->(EQ i j=true/\Q (.bl (decide (i=j) != neg)) H)\/rSq K neg i j H Q:=λ{i j}h1 h2=>.inl ⟨h2,by rw[h1];exact qq⟩;cases A with
 | tup o l =>
  cases ty with
  | tup h B =>
   unfold eqW at d;dsimp only at d;split at d
   ·rename_i hd;exact .inr ⟨_,_,_,_,_,_,c,rfl,rfl,.inl ⟨o,h⟩,l,B,hd,d,qq⟩
   ·cases d
  | _=>cases d
 | ref a =>
  cases ty with
  | ref b =>
   unfold eqW at d;dsimp only at d;cases g:G a with
   | none=>rw[g]at d;cases d
   | some k =>
    cases eb:G b with
    | none=>rw[g,eb]at d;cases k <;> cases d
    | some D =>
     rw[g,eb]at d;cases k <;> cases D <;> try cases d
     dsimp only at d;split at d
     ·rename_i hd;obtain⟨vs,t,m⟩:=r a _ g;obtain⟨E,n,z⟩:=r b _ eb;exact .inr ⟨_,_,_,_,_,_,c,rfl,rfl,.inr ⟨SqL.of t,SqL.of n⟩,m,z,hd,d,qq⟩
     ·cases d
  | _=>cases d
 | rol _ _=>cases y <;> cases d
 | non=>cases ty <;> cases d <;> exact f (by simp) rfl
 | bl b=>cases ty <;> cases d <;> exact f (by first | exact KA | simp) rfl
 | int b=>cases ty <;> cases d <;> exact f (by first | exact Kz | simp) rfl
 | str b=>cases ty <;> cases d <;> exact f (by first | exact KC | simp) rfl
theorem dR(c:X.A.units+100 < cLine):OpR X (compareOp .Eq) (λx y H Q=>(EQ x y=true/\Q (.bl (decide (x=y) != false)) H)\/rSq X.K false x y H Q):=by
 intro pins s σ H x y v u Q I b a h;rcases h with⟨h1,h2⟩| h
 ·exact ZW pins s σ H x y v u Q I b a ⟨h1,by simpa using h2⟩
 ·exact dP c pins s σ H x y v u Q I b a h
theorem dS(c:X.A.units+100 < cLine):OpR X (compareOp .NotEq) (λx y H Q=>(EQ x y=true/\Q (.bl (decide (x=y) != true)) H)\/rSq X.K true x y H Q):=by
 intro pins s σ H x y v u Q I b a h;rcases h with⟨h1,h2⟩| h
 ·exact ZX pins s σ H x y v u Q I b a ⟨h1,by rw[<- P5];exact h2⟩
 ·exact dQ c pins s σ H x y v u Q I b a h
section
variable {a:Expr}
def Dz(G:Hw)(w:W):Option (List W):=match w with
 | .tup xs=>some xs
 | .rol xs=>some xs
 | .ref a=>(match G a with | some (.lst xs)=>some xs | _=>none)
 | _=>none
theorem Ll(r:RelH K H G)(t:Tr K H v w)(e:Dz G w=some xs):∃ a vs,v=.ref a/\(SqL K H a vs\/SqT K H a vs)/\TrL K H vs xs:=by
 cases t with
 | tup h l=>cases e;exact⟨_,_,rfl,.inr h,l⟩
 | rol h l=>cases e;exact⟨_,_,rfl,.inl h.sq,l⟩
 | ref a =>
  unfold Dz at e;dsimp only at e;cases z:G a with
  | none=>rw[z]at e;cases e
  | some o =>
   rw[z]at e;cases o with
   | lst ys=>cases e;obtain⟨vs,b,c⟩:=r a _ z;exact⟨a,vs,rfl,.inl (SqL.of b),c⟩
   | exc C=>cases e
   | ins C fs=>cases e
   | dct d=>cases e
 | _=>cases e
def EZ:List W->Option (List V)
 | []=>some []
 | w::ws=>(Gs w).bind λv=>(EZ ws).map (v::·)
theorem P7:∀{a:List W}{vs us:List V},EZ a=some us->TrL K H vs a->vs=us/\vs.all Dg=true
 | [],vs,us,e,t=>by cases e;cases t;exact⟨rfl,rfl⟩
 | w::a,vs,us,e,t=>by
  cases t with
  | cons j t =>
   obtain⟨f,d,c⟩:=Qf.mp (show(Gs w).bind (λv=>(EZ a).map (v::·))=some us from e);obtain⟨fs,i,h⟩:=YT.mp c;obtain⟨h1,h2⟩:=P1 j d;obtain⟨b,g⟩:=P7 i t;subst h;exact⟨by rw[h1,b],by rw[List.all_cons,h2,g];rfl⟩
def inF(neg:Bool)(x y:W)(G:Hw):Option W:=(Gs x).bind λv=>(Dz G y).bind λxs=>(EZ xs).map λus=>.bl (if neg then !inV v us else inV v us)
theorem dU(neg:Bool)(x y:W)(v u:V)(G:Hw)(H:Hp)(Q:VK)(i:Tr K H v x)(ty:Tr K H u y)(r:RelH K H G)(q:Ae (inF neg) x y G (dn K H Q)):rIn K neg v u H Q:=by
 obtain⟨w,e,m⟩:=C4 q;obtain⟨f,h,g⟩:=Qf.mp e;obtain⟨xs,n,l⟩:=Qf.mp g;obtain⟨o,b,j⟩:=YT.mp l;subst j;obtain⟨h1,h2⟩:=P1 i h;obtain⟨a,vs,rfl,c,t⟩:=Ll r ty n;obtain⟨d,k⟩:=P7 b t;subst h1;subst d;exact⟨a,vs,rfl,c,h2,k,m _ H .refl (.bl _) r⟩
end
section
variable {X:Cx}{a b e o i:Expr}{ga gv go gi:GE}{gt:GT}{g:GS}
def HN(gt:GT)(g:GS):GS:=λD ω G=>∃ W:Nat->Sw->Hw->Prop,(∃ m,W m ω G)/\∀ m ω G,W m ω G->
 gt ω G λb G1=>if b=true then g {nx:=λω' G'=>∃ m',m' < m/\W m' ω' G',rt:=D.rt,bk:=D.nx,ct:=λω' G'=>∃ m',m' < m/\W m' ω' G'} ω G1 else D.nx ω G1
theorem dV(e:gt.M)(mb:g.M):GS.M (HN gt g):=λω G D i h1 h2 h j⟨W,f,c⟩=>⟨W,f,λm ω G w=>e _ _ _ _ (λb k z=>by
 cases b with
 | true=>exact mb _ _ {nx:=λω' d=>∃ a,a < m/\W a ω' d,rt:=D.rt,bk:=D.nx,ct:=λω' d=>∃ a,a < m/\W a ω' d} _ (λ_ _ y=>y) h2 h1 (λ_ _ y=>y) z
 | false=>exact h1 _ _ z) (c m ω G w)⟩
theorem dW(u:PassesOwn (model X.prog X.w) X.A X.env X.xe)(q:gt.M)(mb:g.M)(hc:PTw X c gt)(I:Dw X P sts g):PSw X P (.While c sts [] pos) (HN gt g):=λB F=>
 C1 (ZC u hc (I B F)) <| by
  rintro D σ H ⟨ω,G,s,r,l,W,⟨x,t⟩,i⟩;refine⟨λm σ' H'=>Mono X.K B H'/\∃ ω' e,TrSt X.K H' σ' ω'/\RelH X.K H' e/\W m ω' e,⟨x,l,ω,G,s,r,t⟩,?_⟩;rintro m σ' H' ⟨o,ω',e,f,r',v⟩;refine⟨ω',e,f,r',q _ _ _ _ (λb E z H1 j r1=>?_) (i m ω' e v)⟩;cases b with
  | true =>
   rw[if_pos rfl];refine⟨λσ2 H2=>∃ d,d < m/\Mono X.K B H2/\∃ ω2 p,TrSt X.K H2 σ2 ω2/\RelH X.K H2 p/\W d ω2 p,(by rintro σ2 H2 ⟨d,h1,h2⟩;exact⟨d,h1,h2⟩),ω',E,f.mono j,r1,o.trans j,?_⟩
   exact mb _ _ {nx:=λω' e=>∃ d,d < m/\W d ω' e,rt:=(dnD X.K B D).rt,bk:=(dnD X.K B D).nx,ct:=λω' e=>∃ d,d < m/\W d ω' e} _
    ((by rintro a b ⟨d,h1,h2⟩ σ2 H2 n h k;exact⟨d,h1,n,a,b,h,k,h2⟩)) (λa b y=>y) (λa b y=>y) ((by rintro a b ⟨d,h1,h2⟩ σ2 H2 n h k;exact⟨d,h1,n,a,b,h,k,h2⟩)) z
  | false =>
   rw[if_neg YW];exact z σ' H1 (o.trans j) (f.mono j) r1
theorem P8(b:PassesOwn (model X.prog X.w) X.A X.env X.xe)(hc:Tm X c gt)(a:Ssm X P sts g):Sm X P (.While c sts [] pos) (HN gt g):=⟨dW b hc.m a.m hc.p a.p,dV hc.m a.m⟩
def E1(ω:Sw)(i:Nat):Option W:=match ω[i]? with | some (some w)=>some w | _=>none
theorem dX(ts:TrSt K H σ ω)(e:E1 ω n=some w):∃ v,σ[n]?=some (some v)/\Tr K H v w:=by
 unfold E1 at e;split at e
 ·rename_i u z;cases e;exact ts.get n _ z
 ·cases e
def Cm(n:Nat)(r:RW2)(ga:GE):GS:=λD ω G=>opt (E1 ω n) λx=>ga ω G λy G1=>r x y G1 λz G2=>D.nx (ω.set n (some z)) G2
theorem dY(mr:r.M)(b:ga.M):GS.M (Cm n r ga):=λω G D d h1 _ _ _ q=>La (λx q=>b _ _ _ _ (λy e z=>mr _ _ _ _ _ (λw c a=>h1 _ _ a) z) q) q
theorem dZ(J:OpR X (inplaceOp op) r2)(mr:r.M)(o:∀(x y:W)(v u:V)(G:Hw)(H:Hp)(Q:VK),Tr X.K H v x->Tr X.K H u y->RelH X.K H G->r x y G (dn X.K H Q)->r2 v u H Q)(f:X.N.Nodup)(hi:X.N[n]?=some x)(c:Loc X.env.scope x)(F:X.fn x=true\/X.env.scope.names.lookup x=some .local)(E:ga.M)(A:PEw X e ga):PSw X P (.AugAssign (.Name x pos') op e pos) (Cm n r ga):=λB S=>
 C1 (Zz f hi c A (λpins s σ H x y v u Q I r1 r2 h=>J pins s σ H x y v u Q I r1 r2 h) F) <| by
  rintro D σ H ⟨ω,G,a,p,mb,q⟩;obtain⟨w,k,q⟩:=C4 q;obtain⟨v,i,t⟩:=dX a k;refine⟨v,i,ω,G,a,p,E _ _ _ _ (λy l z u H1 m g r1=>?_) q⟩;exact o w y v u l H1 _ (t.mono m) g r1 (mr _ _ _ _ _ (λL O j R H2 b d r2=>j _ H2 ((mb.trans m).trans b) (((a.mono m).mono b).set n d) r2) z)
def Cc:RW2:=λx y G Q=>match x,y with
 | .int i,.int j=>Q (.int (i+j)) G
 | .str a,.str b=>a.length+b.length<=sizeLine/\Q (.str (a++b)) G
 | _,_=>False
theorem P9:RW2.M Cc:=λx y G Q a h q=>by
 cases x <;> cases y <;> first | exact q | exact h _ _ q | exact⟨q.1,h _ _ q.2⟩
theorem d0(x y:W)(v u:V)(G:Hw)(H:Hp)(Q:VK)(a:Tr K H v x)(ty:Tr K H u y)(r:RelH K H G)(q:Cc x y G (dn K H Q)):
  (rI0 λi j=>.int (i+j)) v u H Q\/(∃ i j,v=.str i/\u=.str j/\i.length+j.length<=sizeLine/\Q (.str (i++j)) H):=by
 cases a with
 | int i=>cases ty <;> first | exact q.elim | exact .inl ⟨_,_,rfl,rfl,q _ H .refl (.int _) r⟩
 | str i=>cases ty <;> first | exact q.elim | exact .inr ⟨_,_,rfl,rfl,q.1,q.2 _ H .refl (.str _) r⟩
 | _=>exact q.elim
def Di(o k v:W)(G:Hw)(Q:Hw->Prop):Prop:=match o,k with
 | .ref a,.int j=>(match G a with
  | some (.lst xs)=>(match ixN xs.length j with | some n=>Q (put G a (.lst (xs.set n v)))| none=>False)
  | _=>False)
 | _,_=>False
theorem Qt{o:W}(q:Di o k v G Q):∃ a j xs n,o=.ref a/\k=.int j/\G a=some (.lst xs)/\ixN xs.length j=some n/\Q (put G a (.lst (xs.set n v))):=by
 unfold Di at q;split at q
 ·split at q
  ·rename_i xs e;split at q
   ·rename_i n b;exact⟨_,_,xs,n,rfl,rfl,e,b,q⟩
   ·exact q.elim
  ·exact q.elim
 ·exact q.elim
theorem Lm{a:Addr}(e:G a=some (.lst xs))(e2:ixN xs.length j=some n)(q:Q (put G a (.lst (xs.set n v)))):Di (.ref a) (.int j) v G Q:=by
 unfold Di;dsimp only;rw[e];dsimp only;rw[e2];exact q
theorem d3{o:W}{b:Hw->Prop}(h:∀ G,Q G->b G)(q:Di o k v G Q):Di o k v G b:=by
 obtain⟨a,j,xs,n,rfl,rfl,e,c,q⟩:=Qt q;exact Lm e c (h _ q)
theorem d4{o:W}(h:Tr K H x v)(ty:Tr K H y o)(i:Tr K H u k)(r:RelH K H G)(q:Di o k v G Pq)(f:∀ d c,Mono K H c->RelH K c d->Pq d->R c):OZ y u x H R:=by
 obtain⟨a,j,xs,n,rfl,rfl,e,g,q⟩:=Qt q;cases ty;cases i;obtain⟨vs,b,t⟩:=r a _ e;exact⟨a,vs,j,n,rfl,rfl,b,by rw[t.length];exact g,f _ _ (Mono.lst b _) (r.chg b (TrL.set h n t)) q⟩
def CC(gv go gi:GE):GS:=λD ω G=>gv ω G λv G1=>go ω G1 λo G2=>gi ω G2 λk G3=>Di o k v G3 λG4=>D.nx ω G4
theorem d5(a:gv.M)(mo:go.M)(b:gi.M):GS.M (CC gv go gi):=λω G D d h1 _ _ _ q=>
 a _ _ _ _ (λv e z=>mo _ _ _ _ (λo c z=>b _ _ _ _ (λk g z=>d3 (λf z=>h1 _ _ z) z) z) z) q
theorem d6(I:∀ v,assign (.Subscript o i pos') X.env v=(do
   let ov <- holding [v] (eval o X.env)
   let iv <- holding [v,ov] (eval i X.env)
   standAt pos'
   holding [v,ov,iv] (setItem ov iv v)
   release [v,ov,iv] []))(hs:swapsWithSole [.Subscript o i pos'] e pos.line X.env=pure false)(hw:swappedStores [.Subscript o i pos'] e X.env=pure none)(h1:(assignEach [.Subscript o i pos'] X.env).map (·.2)=[assign (.Subscript o i pos') X.env])(f:Em X e gv)(g:Em X o go)(hi:Em X i gi):Sm X P (.Assign [.Subscript o i pos'] e pos) (CC gv go gi):=
 ⟨λB O=>C1 (OG f.p (OF g.p hi.p aI I) hs hw h1) λD σ H⟨ω,G,b,r,mb,q⟩=>⟨ω,G,b,r,f.m _ _ _ _ (λv F z x H1 d t r1=>
  ⟨ω,F,b.mono d,r1,g.m _ _ _ _ (λQ E A y H2 c ty l=>
   ⟨ω,E,(b.mono d).mono c,l,hi.m _ _ _ _ (λk L n u N a j s=>
    d4 ((t.mono c).mono a) (ty.mono a) j s n (λK J h w q4=>q4 σ J ((((mb.trans d).trans c).trans a).trans h) ((((b.mono d).mono c).mono a).mono h) w)) A⟩) z⟩) q⟩,d5 f.m g.m hi.m⟩
abbrev GO:=Sw->Hw->(Option Int->Hw->Prop)->Prop
def GO.M(g:GO):Prop:=∀ ω G(Q Q':Option Int->Hw->Prop),(∀ w G',Q w G'->Q' w G')->g ω G Q->g ω G Q'
def dnO(K:PySem.W.Frag)(H:Hp)(Q:Option Int->Hp->Prop):Option Int->Hw->Prop:=λb G=>∀ H',Mono K H H'->RelH K H' G->Q b H'
def upO(K:PySem.W.Frag)(g:GO):TO:=λσ H Q=>∃ ω G,TrSt K H σ ω/\RelH K H G/\g ω G (dnO K H Q)
structure Om(X:Cx)(e:Option Expr)(g:GO):Prop where
 p:PO X e (upO X.K g)
 m:g.M
def AU:GO:=λ_ G Q=>Q none G
def AV(ga:GE):GO:=λω G Q=>ga ω G λw G1=>match w with | .int j=>Q (some j) G1 | _=>False
theorem d9:Om X none AU:=⟨(by rintro pins s σ H Q I ⟨ω,G,a,r,q⟩;exact aA pins s σ H Q I (q H .refl r)),λ_ _ _ _ h q=>h _ _ q⟩
theorem ea(h:Em X e ga):Om X (some e) (AV ga):=⟨λpins s σ H Q I⟨ω,G,b,r,q⟩=>aB h.p pins s σ H Q I ⟨ω,G,b,r,h.m _ _ _ _ (λw a z v H1 m t r1=>by
  cases w with
  | int j=>exact⟨j,Pz t,z H1 m r1⟩
  | _=>exact z.elim) q⟩,λω G Q d c q=>h.m _ _ _ _ (λw a z=>by cases w <;> first | exact c _ _ z | exact z) q⟩
def BH{α:Type}(xs:List α)(lo hi:Option Int):List α:=(xs.drop (HT.sIx xs.length 0 lo)).take (HT.sIx xs.length xs.length hi - HT.sIx xs.length 0 lo)
def slW(w:W)(lo hi:Option Int)(G:Hw)(Q:Kw):Prop:=match w with
 | .tup xs=>¬ (HT.sIx xs.length 0 lo=0/\HT.sIx xs.length xs.length hi=xs.length)/\Q (.tup (BH xs lo hi)) G
 | .rol xs=>∀ p,G p=none->Q (.ref p) (put G p (.lst (BH xs lo hi)))
 | .ref a=>(match G a with | some (.lst xs)=>∀ p,G p=none->Q (.ref p) (put G p (.lst (BH xs lo hi)))| _=>False)
 | _=>False
theorem HP{lo:Option Int}(h:∀ w d,Q w d->c w d)(q:slW w lo hi G Q):slW w lo hi G c:=by
 cases w with
 | tup xs=>exact⟨q.1,h _ _ q.2⟩
 | rol xs=>exact λp b=>h _ _ (q p b)
 | ref a =>
  unfold slW at q ⊢;dsimp only at q ⊢;cases e:G a with
  | none=>rw[e]at q;exact q.elim
  | some g =>
   rw[e]at q;cases g with
   | lst xs=>exact λp b=>h _ _ (q p b)
   | exc C=>exact q.elim
   | ins C fs=>exact q.elim
   | dct f=>exact q.elim
 | _=>exact q.elim
theorem TrL.cut{a:List W}(t:TrL K H vs a)(lo hi:Option Int):TrL K H (D4 vs lo hi) (BH a lo hi):=by
 unfold D4 BH;rw[t.length];exact(t.drop _).take _
theorem HQ{lo:Option Int}(t:Tr K H v w)(r:RelH K H G)(q:slW w lo hi G (dn K H Q)):KJ K v lo hi H Q\/KR K v lo hi H Q:=by
 cases t with
 | tup h l =>
  refine .inl ⟨_,_,rfl,h,by rw[l.length];exact q.1,λp b=>?_⟩;exact q.2 _ _ (Mono.new b _) (.tup (SqT.of BS) ((l.cut lo hi).mono (Mono.new b _))) (r.mono0 b)
 | rol h l=>exact .inr ⟨_,_,rfl,h.sq,λp b=>q p (r.no b) _ _ (Mono.new b _) (.ref p) (r.new b (l.cut lo hi))⟩
 | ref a =>
  unfold slW at q;dsimp only at q;cases e:G a with
  | none=>rw[e]at q;exact q.elim
  | some f =>
   rw[e]at q;cases f with
   | lst xs =>
    obtain⟨vs,c,l⟩:=r a _ e;exact .inr ⟨_,_,rfl,SqL.of c,λp b=>q p (r.no b) _ _ (Mono.new b _) (.ref p) (r.new b (l.cut lo hi))⟩
   | exc C=>exact q.elim
   | ins C fs=>exact q.elim
   | dct d=>exact q.elim
 | _=>exact q.elim
def gSl(ga:GE)(gl gh:GO):GE:=λω G Q=>ga ω G λw G1=>gl ω G1 λlo G2=>gh ω G2 λhi G3=>slW w lo hi G3 Q
theorem ef{lo:Option Expr}{o:GO}(d:Em X e ga)(hl:Om X lo o)(f:Om X hi gh):Em X (.Subscript e (.Slice lo hi none p2) pos) (gSl ga o gh):=
 ⟨A7 (OV (SlR.or OX O0) d.p hl.p f.p) λσ H Q⟨ω,G,c,r,q⟩=>⟨ω,G,c,r,d.m _ _ _ _ (λw n z v H1 g t r1=>⟨ω,n,c.mono g,r1,hl.m _ _ _ _ (λl j a H2 b y=>
   ⟨ω,j,(c.mono g).mono b,y,f.m _ _ _ _ (λh x i B k s=>HQ ((t.mono b).mono k) s (HP (λw D z=>Cj ((g.trans b).trans k) z) i)) a⟩) z⟩) q⟩,
  λω G Q A h q=>d.m _ _ _ _ (λw n z=>hl.m _ _ _ _ (λl j a=>f.m _ _ _ _ (λu x i=>HP h i) a) z) q⟩
end
abbrev UpW(K:PySem.W.Frag)(r:RW2)(r2:R2):Prop:=∀(x y:W)(v u:V)(G:Hw)(H:Hp)(Q:VK),Tr K H v x->Tr K H u y->RelH K H G->r x y G (dn K H Q)->r2 v u H Q
structure Cop(X:Cx)(op:CmpOp)(r:RW2):Prop where
 ex:∃ r2,OpR X (compareOp op) r2/\UpW X.K r r2
 m:r.M
def AW(a b:Str):Bool:=decide (a.cps.toList < b.cps.toList)
def A1(f:Int->Int->Bool)(g:Str->Str->Bool):RW2:=λx y G Q=>match x,y with
 | .int i,.int j=>Q (.bl (f i j)) G
 | .str i,.str j=>Q (.bl (g i j)) G
 | _,_=>False
theorem Qu:RW2.M (A1 f g):=λx y G Q a h q=>by
 cases x <;> cases y <;> first | exact q | exact h _ _ q
theorem Qv:UpW K (A1 f g) (λx y H Q=>rI0 (λi j=>.bl (f i j)) x y H Q\/∃ i j,x=.str i/\y=.str j/\Q (.bl (g i j)) H):=λx y v u G H Q a ty r q=>by
 cases a with
 | int i=>cases ty <;> first | exact q.elim | exact .inl ⟨_,_,rfl,rfl,q _ H .refl (.bl _) r⟩
 | str i=>cases ty <;> first | exact q.elim | exact .inr ⟨_,_,rfl,rfl,q _ H .refl (.bl _) r⟩
 | _=>exact q.elim
theorem eg:OpR X (compareOp .LtE) (λx y H Q=>∃ i j,x=.str i/\y=.str j/\Q (.bl (!AW j i)) H):=by
 intro pins s σ H x y v u Q I a b h;obtain⟨i,j,rfl,rfl,q⟩:=h;obtain⟨t,rfl⟩:=a;obtain⟨t',rfl⟩:=b;exact PySem.P.le_str ⟨.bl _,H,I,rfl,q⟩
theorem eh:Cop X .Lt (A1 (λi j=>decide (i < j)) AW):=⟨⟨_,OpR.or ZY Z2,Qv⟩,Qu⟩
theorem Ln:Cop X .LtE (A1 (λi j=>decide (i<=j)) (λa b=>!AW b a)):=⟨⟨_,OpR.or ZZ eg,Qv⟩,Qu⟩
theorem ei:Cop X .Gt (Be λi j=>decide (j < i)):=⟨⟨_,Z0,PR⟩,PQ⟩
theorem ej:Cop X .GtE (Be λi j=>decide (j<=i)):=⟨⟨_,Z1,PR⟩,PQ⟩
theorem em(a:X.A.units+100 < cLine):Cop X .Eq (Ae (eqF false)):=⟨⟨_,dR a,P6 false⟩,D7⟩
theorem Qw(a:X.A.units+100 < cLine):Cop X .NotEq (Ae (eqF true)):=⟨⟨_,dS a,P6 true⟩,D7⟩
theorem eo:Cop X .In (Ae (inF false)):=⟨⟨_,aL,dU false⟩,D7⟩
section
variable {r r':RW2}{ga gb gc:GE}
theorem er(C:Cop X op r)(e:behindInMarks op b=false)(c:Em X a ga)(d:Em X b gb):Em X (.Compare a [op] [b] pos) (Ad r ga gb):=
 let⟨_,h1,h2⟩:=C.ex
 ⟨bQ h1 C.m c.m d.m h2 c.p d.p e,CA C.m c.m d.m⟩
theorem Qx(C:Cop X op r)(e:behindInMarks op b=false)(c:Em X a ga)(d:Em X b gb):Tm X (.Compare a [op] [b] pos) (gTB (Ad r ga gb)):=
 let⟨_,h1,h2⟩:=C.ex
 ⟨cg h1 C.m c.m d.m h2 c.p d.p e,Py (CA C.m c.m d.m)⟩
def CD(r r':RW2)(ga gb gc:GE):GE:=λω G Q=>ga ω G λx G1=>gb ω G1 λy G2=>r x y G2 λz G3=>match z with
 | .bl k=>if k=true then gc ω G3 λw G4=>r' y w G4 Q else Q (.bl false) G3
 | _=>False
theorem Lo(mr:r.M)(a:r'.M)(d:ga.M)(mb:gb.M)(c:gc.M):GE.M (CD r r' ga gb gc):=λω G Q e h q=>
 d _ _ _ _ (λx g z=>mb _ _ _ _ (λy f z=>mr _ _ _ _ _ (λb j z=>by
  cases b with
  | bl k =>
   cases k with
   | true=>exact c _ _ _ _ (λw i z=>a _ _ _ _ _ h z) z
   | false=>exact h _ _ z
  | _=>exact z) z) z) q
theorem Qy(u:UpW K r r2)(s:UpW K r' a)(mr:r.M)(g:r'.M)(O:ga.M)(mb:gb.M)(o:gc.M)(σ:St)(H:Hp)(Q:VK)(h:up K (CD r r' ga gb gc) σ H Q):KD r2 a (up K ga) (up K gb) (up K gc) σ H Q:=by
 obtain⟨ω,G,e,J,q⟩:=h;refine⟨ω,G,e,J,O _ _ _ _ (λx I F v H1 d t r1=>⟨ω,I,e.mono d,r1,mb _ _ _ _ (λy D B l H2 c ty r2=>?_) F⟩) q⟩;refine u x y v l D H2 _ (t.mono c) ty r2 (mr _ _ _ _ _ (λk p f T E b tk i=>?_) B);cases k with
 | bl k =>
  refine⟨k,FM tk,?_⟩;cases k with
  | true =>
   rw[if_pos rfl];refine⟨ω,p,((e.mono d).mono c).mono b,i,o _ _ _ _ (λw n m N P j A z=>?_) f⟩;exact s y w l N n P Q ((ty.mono b).mono j) A z (g _ _ _ _ _ (λR S L=>Cj (((d.trans c).trans b).trans j) L) m)
  | false =>
   rw[if_neg YW];exact f _ E ((d.trans c).trans b) (.bl false) i
 | _=>exact f.elim
theorem Qz(C:Cop X op r)(d:Cop X op' r')(g:lastMarks [op,op'] [b,c]=false)(e:Em X a ga)(f:Em X b gb)(hc:Em X c gc):Em X (.Compare a [op,op'] [b,c] pos) (CD r r' ga gb gc):=
 let⟨_,h1,h2⟩:=C.ex
 let⟨_,h3,h4⟩:=d.ex
 ⟨A7 (Z6 h1 h3 e.p f.p hc.p g) (Qy h2 h4 C.m d.m e.m f.m hc.m),Lo C.m d.m e.m f.m hc.m⟩
theorem et(C:Cop X op r)(d:Cop X op' r')(g:lastMarks [op,op'] [b,c]=false)(e:Em X a ga)(f:Em X b gb)(hc:Em X c gc):Tm X (.Compare a [op,op'] [b,c] pos) (gTB (CD r r' ga gb gc)):=
 let⟨_,h1,h2⟩:=C.ex
 let⟨_,h3,h4⟩:=d.ex
 ⟨HF (Z7 h1 h3 e.p f.p hc.p g) λσ H Q z=>Qy h2 h4 C.m d.m e.m f.m hc.m σ H _ (PC (Lo C.m d.m e.m f.m hc.m) z),Py (Lo C.m d.m e.m f.m hc.m)⟩
end
abbrev UpC(K:PySem.W.Frag)(r:RWc)(r1:List V->Hp->VK->Prop):Prop:=∀ ws vs G H Q,TrL K H vs ws->RelH K H G->r ws G (dn K H Q)->r1 vs H Q
structure Blt(X:Cx)(f:Value)(r:RWc):Prop where
 ex:∃ r1,CallR X f r1/\UpC X.K r r1
 m:r.M
section
theorem BW{id:String}(g:bootBuiltins x=some (.builtin id))(B:Blt X (.builtin id) r)(i:Gl X x)(d:X.mg x=none)(c:x≠"__name__")(b:(x==("__debug__":Str))=false)(f:starEach (e::es) X.env=(false,eval e X.env)::starEach es X.env)(a:(backTo pos (starEach es X.env)).any (·.1)=false)(h:Am X (e::es) gs):Em X (.Call (.Name x p) (e::es) [] pos) (gB r gs):=
 let⟨_,h1,h2⟩:=B.ex
 dF h1 B.m h2 i d g c b f a h
theorem DA(g:bootBuiltins x=some (.type T))(B:Blt X (.type T) r)(i:Gl X x)(d:X.mg x=none)(c:x≠"__name__")(b:(x==("__debug__":Str))=false)(f:starEach (e::es) X.env=(false,eval e X.env)::starEach es X.env)(a:(backTo pos (starEach es X.env)).any (·.1)=false)(h:Am X (e::es) gs):Em X (.Call (.Name x p) (e::es) [] pos) (gB r gs):=
 let⟨_,h1,h2⟩:=B.ex
 dG h1 B.m h2 i d g c b f a h
end
theorem eu:Blt X (.builtin "len") (rF Bf):=⟨⟨_,ah,dL⟩,Gr⟩
theorem Dj(hc:X.calm=true):Blt X (.builtin "all") (rF BD):=⟨⟨_,dD hc,dH⟩,Gr⟩
theorem Lp(hc:X.calm=true):Blt X (.builtin "sum") Dy:=⟨⟨_,dE hc,dJ⟩,dI⟩
def FP:RWc:=λws G Q=>match ws with
 | [w]=>(match Dz G w with | some xs=>∀ p,G p=none->Q (.ref p) (put G p (.lst xs))| none=>False)
 | _=>False
theorem ez:RWc.M FP:=λc G Q b h q=>by
 unfold FP at q ⊢;split at q
 ·split at q
  ·exact λp a=>h _ _ (q p a)
  ·exact q.elim
 ·exact q.elim
theorem eA:UpC K FP (λxs H Q=>∃ p ys,xs=[.ref p]/\(SqL K H p ys\/SqT K H p ys)/\∀ l,H l=none->Q (.ref l) (upd H l (.lst ys))):=λh vs G H Q t r q=>by
 unfold FP at q;split at q
 ·rename_i g;split at q
  ·rename_i xs e;cases t with
   | cons f t =>
    cases t;obtain⟨a,c,rfl,d,l⟩:=Ll r f e;exact⟨a,c,rfl,d,λp b=>q p (r.no b) _ _ (Mono.new b _) (.ref p) (r.new b l)⟩
  ·exact q.elim
 ·exact q.elim
theorem eB:Blt X (.type "list") FP:=⟨⟨_,aM,eA⟩,ez⟩
def BI(ws:List W)(G:Hw):Option W:=match ws with | [w]=>(Dz G w).map W.tup | _=>none
theorem eD:UpC K (rF BI) (λxs H Q=>∃ p ys,xs=[.ref p]/\((SqL K H p ys/\∀ l,H l=none->Q (.ref l) (upd H l (.tup ys)))\/(SqT K H p ys/\Q (.ref p) H))):=λj vs G H Q t r q=>by
 obtain⟨w,e,f⟩:=C4 q;unfold BI at e;split at e
 ·obtain⟨xs,h,g⟩:=YT.mp e;subst g;cases t with
  | cons i t =>
   cases t;obtain⟨a,d,rfl,b,l⟩:=Ll r i h;rcases b with b | b
   ·exact⟨a,d,rfl,.inl ⟨b,λp c=>f _ _ (Mono.new c _) (.tup (SqT.of BS) (l.mono (Mono.new c _))) (r.mono0 c)⟩⟩
   ·exact⟨a,d,rfl,.inr ⟨b,f _ H .refl (.tup b l) r⟩⟩
 ·cases e
theorem Gu:Blt X (.type "tuple") (rF BI):=⟨⟨_,aN,eD⟩,Gr⟩
def DB(ws:List W)(_:Hw):Option W:=match ws with | [.int i]=>some (.int i)| [.bl k]=>some (.int (if k then 1 else 0))| _=>none
theorem eE:UpC K (rF DB) (λxs H Q=>(∃ i,xs=[.int i]/\Q (.int i) H)\/∃ k,xs=[.bl k]/\Q (.int (if k then 1 else 0)) H):=λc vs G H Q t r q=>by
 obtain⟨w,e,b⟩:=C4 q;unfold DB at e;split at e
 ·cases e;cases t with
  | cons a t=>cases t;cases a;exact .inl ⟨_,rfl,b _ H .refl (.int _) r⟩
 ·cases e;cases t with
  | cons a t=>cases t;cases a;exact .inr ⟨_,rfl,b _ H .refl (.int _) r⟩
 ·cases e
theorem eF:Blt X (.type "int") (rF DB):=⟨⟨_,ag,eE⟩,Gr⟩
def Co:List Int->Int
 | []=>0
 | [x]=>x
 | x::y::r=>max x (Co (y::r))
theorem QA:∀{ns:List Int}{m:Int},m∈ns->m<=Co ns
 | [x],m,h=>by rw[YA.mp h];exact Int.le_refl _
 | x::y::r,m,h=>by
  show m<=max x (Co (y::r));walk_at "pk"
  ·exact Int.le_max_left ..
  ·exact Int.le_trans (QA h) (Int.le_max_right ..)
theorem QB:∀{ns:List Int},ns≠[]->Co ns∈ns
 | [x],_=>YA.mpr rfl
 | x::y::r,_=>by
  show max x (Co (y::r))∈x::y::r;rcases Int.le_total x (Co (y::r))with z | z
  ·rw[Int.max_eq_right z];exact Yd _ (QB (by simp))
  ·rw[Int.max_eq_left z];exact Ye
theorem eG(h:0 < ns.length):ns.getD (argBest (λi j=>decide (ns.getD i 0 > ns.getD j 0)) (ns.length - 1)) 0=Co ns:=by
 obtain⟨h1,h2⟩:=argBest_gt (λi=>ns.getD i 0) (ns.length - 1);have b:ns≠[]:=by intro z;rw[z]at h;simp at h
 have a:argBest (λi j=>decide (ns.getD i 0 > ns.getD j 0)) (ns.length - 1) < ns.length:=by lia
 refine Int.le_antisymm (QA ?_) ?_
 ·rw[Qd,Yp a];exact Qj _
 ·obtain⟨i,hi,e⟩:=List.mem_iff_getElem.mp (QB b);have:=h2 i (by lia);rw[<- e];have z:ns.getD i 0=ns[i]:=by rw[Qd,Yp hi];rfl
  rw[<- z];exact this
theorem eH(hc:X.calm=true):CallR X (.builtin "max") (λxs H Q=>∃(p:Addr)(ns:List Int),xs=[.ref p]/\SqL X.K H p (ns.map V.int)/\0 < ns.length/\Q (.int (Co ns)) H):=by
 intro pins s σ H xs m Q I r h;obtain⟨p,ns,rfl,g,a,q⟩:=h;obtain⟨u,rfl,j⟩:=Cz r;cases j;obtain⟨f,r',pl,w⟩:=I.list g;have hl:=r'.length;rw[Yh]at hl;obtain⟨o,n,e,_⟩:=id pl
 refine call_max_walk (wpAny_pyIter_list pl.isList ⟨s.heap.objs.size,_,_,_,_,_,_,rfl,Walks.list (A:=X.A.in1) (I.ok.hd hc) _ p (Ys (Qo e)) f.toArray,
  ⟨⟨_,Qp _ rfl,rfl,rfl⟩,pl.isList.push _⟩,λb l=>?_,by rw[Yn,<- hl];exact a,CmpOf.ints_gt (λi=>ns.getD i 0) (λi v d=>Lj r' d),λv h' tk d k=>?_⟩)
 ·rw[Qq];rcases Yo.mp l with c | c
  ·rw[c];exact Nat.lt_succ_self _
  ·rw[YA.mp c];exact Nat.lt_succ_of_lt (Qo e)
 ·obtain⟨t,rfl⟩:=Lj r' d;refine⟨.int (Co ns),H,I.kept (t':=tk) λb o e=>k b o (by simpa using Ys (Qo e)) (Qn _ e),⟨t,?_⟩,q⟩;rw[Yn,<- hl,eG a]
def Gv(ws:List W)(G:Hw):Option W:=match ws with
 | [w]=>((C6 G w).bind D8).bind λns=>if 0 < ns.length then some (.int (Co ns))else none
 | _=>none
theorem eI:UpC K (rF Gv) (λxs H Q=>∃(p:Addr)(ns:List Int),xs=[.ref p]/\SqL K H p (ns.map V.int)/\0 < ns.length/\Q (.int (Co ns)) H):=λm vs G H Q t r q=>by
 obtain⟨w,e,h⟩:=C4 q;unfold Gv at e;split at e
 ·obtain⟨ns,f,c⟩:=Qf.mp e;obtain⟨xs,i,g⟩:=Qf.mp f;split at c
  ·rename_i b;cases c;cases t with
   | cons j t =>
    cases t;obtain⟨a,l,rfl,rfl,_,d,k⟩:=EX r j i;have:=Lk g k;subst this;exact⟨a,ns,rfl,SqL.of d,b,h _ H .refl (.int _) r⟩
  ·cases c
 ·cases e
theorem QC(hc:X.calm=true):Blt X (.builtin "max") (rF Gv):=⟨⟨_,eH hc,eI⟩,Gr⟩
structure Mth(X:Cx)(T:String)(name:Str)(id:String)(pre:W->Hw->Prop)(r:W->List W->Hw->Kw->Prop):Prop where
 pa:PlainAttrs T
 slot:Slot T name id
 ty:typeOf (.builtin id)=pure (.type "method_descriptor")
 ex:∃ r2,MtR X id r2/\∀(o:W)(ws:List W)(v:V)(vs:List V)(G:Hw)(H:Hp)(Q:VK),Tr X.K H v o->TrL X.K H vs ws->RelH X.K H G->r o ws G (dn X.K H Q)->r2 v vs H Q
 pr:∀(o:W)(v:V)(G:Hw)(H:Hp),Tr X.K H v o->RelH X.K H G->pre o G->tyV X.K T v H
 m:∀ o ws G(Q Q':Kw),(∀ w G',Q w G'->Q' w G')->r o ws G Q->r o ws G Q'
def gMt(pre:W->Hw->Prop)(r:W->List W->Hw->Kw->Prop)(go:GE)(gs:GA):GE:=λω G Q=>go ω G λo G1=>pre o G1/\gs ω G1 λws G2=>r o ws G2 Q
section
theorem D9{id:String}(M:Mth X T name id pre r)(b:attributeBase o name X.env (eval o X.env)=eval o X.env)(c:((backTo cpos (starEach (e::es) X.env)).all (λx=>!x.1)&&(backToKw cpos (keywordEach [] X.env)).all (λx=>x.1.isSome)&&decide ((e::es).length+([]:List Keyword).length+(if([]:List Keyword).isEmpty then 0 else 1) < 30))=true)(a:(apos.endLine==cpos.line)=true)(hs:starEach (e::es) X.env=(false,eval e X.env)::starEach es X.env)(hplain:(backTo cpos (starEach es X.env)).any (·.1)=false)(g:Em X o go)(k:Am X (e::es) gs):
  Em X (.Call (.Attribute o name apos) (e::es) [] cpos) (gMt pre r go gs):=
 let⟨_,h1,h2⟩:=M.ex
 ⟨A7 (aP M.pa M.slot M.ty h1 g.p k.p b c a hs hplain) λσ H Q⟨ω,G,s,A,q⟩=>⟨ω,G,s,A,g.m _ _ _ _ (λi j z v H1 t tv r1=>⟨M.pr i v j H1 tv r1 z.1,
   ω,j,s.mono t,r1,k.m _ _ _ _ (λu l d vs H2 n f B=>h2 i u v vs l H2 Q (tv.mono n) f B (M.m _ _ _ _ _ (λw E y=>Cj (t.trans n) y) d)) z.2⟩) q⟩,
  λω G Q D h q=>g.m _ _ _ _ (λi j z=>⟨z.1,k.m _ _ _ _ (λu l d=>M.m _ _ _ _ _ h d) z.2⟩) q⟩
end
def AX(o:W)(G:Hw):Prop:=∃ xs,C6 G o=some xs
theorem QD(t:Tr K H v o)(r:RelH K H G)(h:AX o G):tyV K "list" v H:=by
 obtain⟨xs,e⟩:=h;obtain⟨a,vs,rfl,_,_,b,_⟩:=EX r t e;exact .inl ⟨rfl,_,SqL.of b⟩
def Ea(o:W)(G:Hw)(f:List W->Option (List W))(Q:Kw):Prop:=match o with
 | .ref a=>(match G a with | some (.lst xs)=>(match f xs with | some ys=>Q .non (put G a (.lst ys))| none=>False)| _=>False)
 | _=>False
theorem Lq(q:Ea o G f Q):∃ a xs ys,o=.ref a/\G a=some (.lst xs)/\f xs=some ys/\Q .non (put G a (.lst ys)):=by
 unfold Ea at q;split at q
 ·split at q
  ·rename_i xs e;split at q
   ·rename_i ys b;exact⟨_,xs,ys,rfl,e,b,q⟩
   ·exact q.elim
  ·exact q.elim
 ·exact q.elim
theorem Lr(e:G a=some (.lst xs))(e2:f xs=some ys)(q:Q .non (put G a (.lst ys))):Ea (.ref a) G f Q:=by
 unfold Ea;dsimp only;rw[e];dsimp only;rw[e2];exact q
theorem QE(h:∀ w c,Q w c->b w c)(q:Ea o G f Q):Ea o G f b:=by
 obtain⟨a,xs,ys,rfl,e,d,q⟩:=Lq q;exact Lr e d (h _ _ q)
def BJ(o:W)(ws:List W)(G:Hw)(Q:Kw):Prop:=match ws with
 | [y]=>Ea o G (λxs=>if xs.length < sizeLine then some (xs++[y])else none) Q
 | _=>False
theorem eJ:Mth X "list" "append" "list.append" AX BJ where
 pa:=PySem.F.plainAttrs_list
 slot:=PySem.F.slot_list_append
 ty:=PySem.F.type_list_append
 ex:=⟨_,aR,λo i v vs G H Q tv d r q=>by
  unfold BJ at q;split at q
  ·obtain⟨a,xs,ys,rfl,e,c,q⟩:=Lq q;split at c
   ·rename_i b;cases c;cases tv;cases d with
    | cons ty t =>
     cases t;obtain⟨g,f,l⟩:=r a _ e;exact⟨a,g,_,rfl,rfl,f,by rw[l.length];exact b,q _ _ (Mono.lst f _) .non (r.chg f (l.append (.cons ty .nil)))⟩
   ·cases c
  ·exact q.elim⟩
 pr:=λo v G H t r h=>QD t r h
 m:=λo i G Q j h q=>by
  unfold BJ at q ⊢;split at q
  ·exact QE h q
  ·exact q.elim
def BN(o:W)(ws:List W)(G:Hw)(Q:Kw):Prop:=match ws with
 | [y]=>Ea o G (λxs=>(C6 G y).bind λzs=>if xs.length+zs.length<=sizeLine then some (xs++zs)else none) Q
 | _=>False
theorem FQ:Mth X "list" "extend" "list.extend" AX BN where
 pa:=PySem.F.plainAttrs_list
 slot:=PySem.F.slot_list_extend
 ty:=PySem.F.type_list_extend
 ex:=⟨_,aT,λo u v vs G H Q tv f r q=>by
  unfold BN at q;split at q
  ·obtain⟨a,xs,ys,rfl,e,p,q⟩:=Lq q;obtain⟨zs,s,i⟩:=Qf.mp p;split at i
   ·rename_i c;cases i;cases tv;cases f with
    | cons ty t =>
     cases t;obtain⟨n,g,l⟩:=r a _ e;obtain⟨b,d,rfl,_,_,k,j⟩:=EX r ty s;exact⟨a,b,n,d,rfl,rfl,g,k,by rw[l.length,j.length];exact c,q _ _ (Mono.lst g _) .non (r.chg g (l.append j))⟩
   ·cases i
  ·exact q.elim⟩
 pr:=λo v G H t r h=>QD t r h
 m:=λo u G Q w h q=>by
  unfold BN at q ⊢;split at q
  ·exact QE h q
  ·exact q.elim
def Ls(C:Addr)(E:Addr->Hw->Prop)(gs:GA):GS:=λ_ ω G=>gs ω G λws G1=>ws.length<=sizeLine/\E C G1
section
theorem eK{Ar:List Expr}(e:mg x=some (.ref C))(q:PySem.W.excIn K C bm b=true)(FB:ExcBaseFacts B b initId bm)(o:Gl (cxW P w K mg base N qual scope f cd A outer s H E) x)(i:starEach (a::Ar) (cxW P w K mg base N qual scope f cd A outer s H E).env=(false,eval a (cxW P w K mg base N qual scope f cd A outer s H E).env)::starEach Ar (cxW P w K mg base N qual scope f cd A outer s H E).env)(hplain:(backTo cpos (starEach Ar (cxW P w K mg base N qual scope f cd A outer s H E).env)).any (·.1)=false)(hd:(x==("__debug__":Str))=false)(c:Am (cxW P w K mg base N qual scope f cd A outer s H E) (a::Ar) gs):
  Sm (cxW P w K mg base N qual scope f cd A outer s H E) Pb (.Raise (some (.Call (.Name x g) (a::Ar) [] cpos)) none pos) (Ls C (dnX K H E) gs):=by
 refine⟨λu j pins d σ Hc D I h=>?_,λω G D v _ _ _ _ q=>q⟩;obtain⟨ω,G,k,r,mb,n⟩:=h;exact bC o e q FB c.p i hplain hd pins d σ Hc D I ⟨ω,G,k,r,c.m _ _ _ _ (λF y z vs H1 l t r1=>⟨by rw[t.length];exact z.1,z.2 H1 ((Un.mono' I.base).trans l) r1⟩) n⟩
end
theorem RelH.newX(r:RelH K H G)(b:H p=none):RelH K (upd H p (.ext (CN p C))) (put G p (.exc C)):=λa u e=>by
 by_cases h:a=p
 ·subst h;rw[Aj]at e;cases e;exact BS
 ·rw[Av h]at e;exact r.mono0 b a u e
structure HR(D D':Ew):Prop where
 nx:∀ a b,D.nx a b->D'.nx a b
 rt:∀ a b,D.rt a b->D'.rt a b
 bk:∀ a b,D.bk a b->D'.bk a b
 ct:∀ a b,D.ct a b->D'.ct a b
theorem GS.M.le{g:GS}(m:g.M)(h:HR D a)(q:g D ω G):g a ω G:=m ω G D a h.nx h.rt h.bk h.ct q
def Lu(i:Nat)(D:Ew):Ew:={nx:=λω G=>D.nx (ω.set i none) G,rt:=D.rt,bk:=λω G=>D.bk (ω.set i none) G,ct:=λω G=>D.ct (ω.set i none) G}
def QF(K:PySem.W.Frag)(C0:Addr)(i:Nat)(gb:Xw->GS)(gh:GS):GS:=λD ω G=>
 gb (λω' C G'=>PySem.W.subIn K (.ref C) (.ref C0)=some true/\∀ e,G' e=none->gh (Lu i D) (ω'.set i (some (.ref e))) (put G' e (.exc C))) D ω G
def Lv(K:PySem.W.Frag)(C0:Addr)(i:Nat)(gb:Xw->GS)(gh:GS):GS:=λD ω G=>∃ D0,HR D0 D/\QF K C0 i gb gh D0 ω G
theorem eL(Q:X.mg x=some (.ref l))(hD:PySem.W.typeIn X.K (.ref l)=some (.type "type"))(hT:(PySem.W.clsIn X.K l).isSome=true)(hB:PySem.W.subIn X.K (.ref l) (.type "BaseException")=some true)(hN:X.N.Nodup)(hi:place X.N n=some i)(hn:FN X.env.scope n=true)(U:X.stack=X.env::X.outer)(J:X.env.frame=some X.env.locals)(P:X.ex=[])(L:Gl X x)(Y:(x==("__debug__":Str))=false)(hb:∀(ex:Xw)(pn:List (Addr×Obj))(xe:Value->Shared->Prop),D6 (cxT X pn xe) ex->Ssm (cxT X pn xe) (atB X) body (gb ex))(hh:∀ e,Ssm (cxH X e) (atB X) (b0::c) gh):
  Sm X (atB X) (.Try body [.ExceptHandler (some (.Name x np)) (some n) (b0::c) A] [] [] pos) (Lv X.K l i gb gh):=by
 refine⟨λB j=>?_,(by rintro ω G D D' h1 h2 h3 h4 ⟨f,le,q⟩;exact⟨f,⟨λa b z=>h1 a b (le.nx a b z),λa b z=>h2 a b (le.rt a b z),λa b z=>h3 a b (le.bk a b z),λa b z=>h4 a b (le.ct a b z)⟩,q⟩)⟩;have o:B=X.H₀:=j
 let tb:(St->XK)->TS:=λEσ Dn σ H=>∃(ex:Xw)(f:Ew)(ω:Sw)(G:Hw),TrSt X.K H σ ω/\RelH X.K H G/\Mono X.K B H/\
  (∀ σ' C H' ω' k,Mono X.K B H'->TrSt X.K H' σ' ω'->RelH X.K H' k->ex ω' C k->Eσ σ' (.ref C) none H')/\HR f (dnD X.K B Dn)/\gb ex f ω G
 have hbody':∀(Eσ:St->XK)(pn:List (Addr×Obj))(xe:Value->Shared->Prop),Gm (CXe X.prog X.w) (cxT X pn xe) Eσ->PSs (cxT X pn xe) body (tb Eσ):=by
  intro Eσ pn xe hp pins s σ H Dn I ⟨ex,f,ω,G,O,r,mb,v,Z,q⟩
  have pw:D6 (cxT X pn xe) ex:=by
   intro g σ' H1 s1 ev s' I1 ⟨e,C,H',ee,F,C',ω',k,eC,h,r',q'⟩;cases eC;exact hp g σ' H1 s1 ev s' I1 ⟨e,C,H',ee,F,v σ' C H' ω' k (by rw[o];exact(Un.mono' I1.base).trans (Un.mono' F.un)) h r' q'⟩
  have S:=hb ex pn xe pw;exact S.p B j pins s σ H Dn I ⟨ω,G,O,r,mb,S.m.le Z q⟩
 refine C1 (bF (tb:=tb) (th:=upS X.K B gh) hN (PU hi) (FO hn) U J P L Q hD hT hB hbody' (λe=>(hh e).p B j) Y) λD σ H R=>?_;obtain⟨ω,G,O,r,mb,f,le,q⟩:=R;refine⟨_,f,ω,G,O,r,mb,λσ' C H' ω' k m' h r' z=>?_,le,q⟩;refine⟨C,rfl,z.1,λe E=>⟨ω'.set i (some (.ref e)),put k e (.exc C),(h.mono (Mono.new E _)).set i (.ref e),r'.newX E,m'.trans (Mono.new E _),?_⟩⟩
 have T:HR (Lu i f) (dnD X.K B {nx:=λσ2 H2=>D.nx (σ2.set i none) H2,rt:=D.rt,bk:=λσ2 H2=>D.bk (σ2.set i none) H2,ct:=λσ2 H2=>D.ct (σ2.set i none) H2}):=by
  refine⟨λa b y σ2 H2 u d t=>?_,λa b y=>le.rt a b y,λa b y σ2 H2 u d t=>?_,λa b y σ2 H2 u d t=>?_⟩
  ·exact le.nx _ _ y (σ2.set i none) H2 u (d.unset i) t
  ·exact le.bk _ _ y (σ2.set i none) H2 u (d.unset i) t
  ·exact le.ct _ _ y (σ2.set i none) H2 u (d.unset i) t
 exact(hh e).m.le T (z.2 e (r'.no E))
structure DfN(P:Program)(w:World)(K:PySem.W.Frag)(mg:Str->Option Value)(base:Heap)(x:Str)(k n:Nat)(sp:Spw):Prop where
 ex:∃(f:Addr)(fd:FuncData)(ps:List Str),mg x=some (.ref f)/\PySem.W.keepIn K (.ref f)=true/\Binds K fd ps []/\ps.length=n/\KZ P w K mg base CX0 k f fd ps (Dx K sp)
 mono:sp.M
section
theorem eM(D:DfN X.prog X.w X.K X.mg X.base x k n sp)(o:HE k X.A)(u:Gl X x)(c:(x==("__debug__":Str))=false)(j:starEach (e::es) X.env=(false,eval e X.env)::starEach es X.env)(b:(backTo pos (starEach es X.env)).any (·.1)=false)(g:Am X (e::es) gs):Em X (.Call (.Name x p) (e::es) [] pos) (Ag sp (λ_ _ _=>False) gs):=by
 obtain⟨f,fd,ps,h,y,B,_,F⟩:=D.ex;refine⟨A7 (bI F o u h y B g.p c j b) λσ H Q d=>?_,Pw D.mono g.m⟩;obtain⟨ω,G,s,r,q⟩:=d;refine⟨ω,G,s,r,g.m _ _ _ _ (λv l q1 vs H1 t a r1=>?_) q⟩;exact⟨v,l,by rw[Yx];exact a,r1,D.mono _ _ _ _ _ _ (λw i z=>Cj t z) (λC i z=>z.elim) q1⟩
end
def tyN(w:W)(G:Hw):Option String:=match w with
 | .non=>some "NoneType"
 | .bl _=>some "bool"
 | .int _=>some "int"
 | .str _=>some "str"
 | .tup _=>some "tuple"
 | .rol _=>some "list"
 | .ref a=>(match G a with | some (.lst _)=>some "list" | _=>none)
def B2(n T:String):Bool:=n==T||(n=="bool"&&T=="int")
theorem E2(a:n∈["NoneType","bool","int","str","tuple","list"])(b:T∈["tuple","list","str","int","bool","dict"]):PySem.W.kitOne K (.type n) (.type T)=some (B2 n T):=by
 simp only[Yo,Qc,or_false]at a b;rcases a with rfl | rfl | rfl | rfl | rfl | rfl <;> rcases b with rfl | rfl | rfl | rfl | rfl | rfl <;> kernel_rfl
def Bt(T:String)(ge:GE):GE:=λω G Q=>ge ω G λw G1=>match tyN w G1 with | some n=>Q (.bl (B2 n T)) G1 | none=>False
theorem eN(m:ge.M):GE.M (Bt T ge):=λω G Q b h q=>m _ _ _ _ (λw a z=>by
 cases e:tyN w a with
 | none=>rw[e]at z;exact z
 | some n=>rw[e]at z;exact h _ _ z) q
theorem eO{σ:St}(I:Inv X pins σ H s)(b:RelV v u)(t:Tr X.K H v w)(r:RelH X.K H G)(e:tyN w G=some n)(c:T∈["tuple","list","str","int","bool","dict"])(h:∀ tk,Q (.bool (B2 n T)) {s with toks:=tk}):wpAny (model X.prog X.w) X.A (call (.builtin "isinstance") [u,.type T]) Q E s:=by
 cases t with
 | non=>cases e;cases(show u=Value.none from b);exact PySem.W.kia_one PySem.W.kitx_none I.kIn True.intro (E2 (by simp) c) (λz=>nomatch z) h
 | bl y=>cases e;cases(show u=Value.bool y from b);exact PySem.W.kia_one PySem.W.kitx_bool I.kIn True.intro (E2 (by simp) c) (λz=>nomatch z) h
 | int i=>cases e;obtain⟨t,rfl⟩:=b;exact PySem.W.kia_one PySem.W.kitx_int I.kIn True.intro (E2 (by simp) c) (λz=>nomatch z) h
 | str y=>cases e;obtain⟨t,rfl⟩:=b;exact PySem.W.kia_one PySem.W.kitx_str I.kIn True.intro (E2 (by simp) c) (λz=>nomatch z) h
 | tup f l =>
  cases e;cases b;obtain⟨d,_,p,_⟩:=I.tuple f;obtain⟨o,h1,h2,_⟩:=p;exact PySem.W.kia_one PySem.W.kitx_tuple I.kIn ⟨o,h1,h2⟩ (E2 (by simp) c) (λz=>nomatch z) h
 | rol f l =>
  cases e;cases b;obtain⟨d,_,p,_⟩:=I.list f.sq;obtain⟨o,h1,h2,_⟩:=p.isList;exact PySem.W.kia_one PySem.W.kitx_list I.kIn ⟨o,h1,h2⟩ (E2 (by simp) c) (λz=>nomatch z) h
 | ref a =>
  unfold tyN at e;dsimp only at e;cases g:G a with
  | none=>rw[g]at e;cases e
  | some o =>
   rw[g]at e;cases o with
   | exc C=>cases e
   | ins C fs=>cases e
   | dct j=>cases e
   | lst xs =>
    cases e;cases b;obtain⟨vs,k,_⟩:=r a _ g;obtain⟨d,_,p,_⟩:=I.list (SqL.of k);obtain⟨o,h1,h2,_⟩:=p.isList;exact PySem.W.kia_one PySem.W.kitx_list I.kIn ⟨o,h1,h2⟩ (E2 (by simp) c) (λz=>nomatch z) h
theorem QG:bootBuiltins "isinstance"=some (.builtin "isinstance"):=by decide +kernel
section
theorem FR(y:T∈["tuple","list","str","int","bool","dict"])(A:bootBuiltins c=some (.type T))(j:X.mg c=none)(f:X.mg "isinstance"=none)(i:Gl X "isinstance")(k:Gl X c)(B:c≠"__name__")(hd:(c==("__debug__":Str))=false)(o:starEach [e,.Name c pc] X.env=[(false,eval e X.env),(false,eval (.Name c pc) X.env)])(a:starEach [.Name c pc] X.env=[(false,eval (.Name c pc) X.env)])(h:Em X e ge):Em X (.Call (.Name "isinstance" p) [e,.Name c pc] [] pos) (Bt T ge):=by
 refine⟨λpins s σ H Q I g=>?_,eN h.m⟩;obtain⟨ω,G,x,r,q⟩:=g;have pa:PA X [e,.Name c pc] (D3 (up X.K ge) (D3 (tC (.ty T)) FI)):=ER h.p (ER (OD k j A rfl B hd) Gh (by rw[a];rfl)) (by rw[o,a]);refine wpAny_Call_Name_kw (CY I i f QG ?_ (by decide) (by decide));refine PyProof.Rows.callWith_builtin1 (thn (pa pos pins s σ H (λvs H1=>∃ v w b n,vs=[v,.ty T]/\Tr X.K H1 v w/\RelH X.K H1 b/\tyN w b=some n/\Q (.bl (B2 n T)) H1) I ?_) λN L⟨vs,H1,l,r1,v,w,b,n,D,tv,F,d,qq⟩=>?_) (by rw[o,a]) (by rw[a];rfl)
 ·refine⟨ω,G,x,r,h.m _ _ _ _ (λw b z v H1 m t r1=>?_) q⟩;cases d:tyN w b with
  | none=>rw[d]at z;exact z.elim
  | some n=>rw[d]at z;exact⟨v,w,b,n,rfl,t,r1,d,z _ H1 m (.bl _) r1⟩
 ·subst D;obtain⟨u,J,rfl,E,rt⟩:=KH r1;cases rt;exact eO l E tv F d y λtk=>⟨.bl _,H1,l.tok tk,rfl,qq⟩
end
structure E3(K:PySem.W.Frag)(C:Addr):Prop where
 ga:PySem.W.findIn K (.ref C) "__getattribute__"=some (some (.builtin "BaseException.__getattribute__"))
 gh:PySem.W.findIn K (.ref C) "__getattr__"=some none
 cl:(PySem.W.clsIn K C).isSome=true
 fc:PySem.W.findIn K (.ref C) "__class__"=some (some (.builtin "object.__class__"))
 sp:PySem.W.specialIn K (.builtin "object.__class__") "__get__"=some (some (.builtin "getset_descriptor.__get__"))
 tk:PySem.W.takesIn K (.builtin "object.__class__")=some true
 mr:PySem.W.mroIn K C (.type "object")=some true
 mb:PySem.W.mroIn K C (.type "BaseException")=some true
end L3
namespace L3
open PySem PySem.W PySem.Spec PySem.Calls PyProof.Rows PySem.Builtin PySem.Builtin.ObjectAttr PySem.Builtin.Getset_descriptor
section
theorem Gx(I:L2.CN x C h):Looks M h (typeOf (.ref x)) (.ref C):=by
 obtain⟨a,e,c⟩:=I;rw[<- c];exact(Looks.ld e).andThen .now
theorem eP{K:Frag}(X:K.In h)(f:findIn K (.ref C) name=some (some a))(i:specialIn K a "__get__"=some (some g))(b:takesIn K a=some true):Looks M h (find (.ref x) (.ref C) name) (.bind g a):=by
 have c:=looks_findIn (M:=M) X f;have d:Looks M h (getOf (some a)) (some g):=looks_specialIn X i;have e:Looks M h (dataDescriptor? (some a) (some g)) (some (g,a)):=(looks_takesIn (M:=M) X b).andThen .now;exact c.andThen (d.andThen (e.andThen (Looks.tag .now)))
theorem eQ{K:Frag}(X:K.In s.heap)(I:L2.CN x C s.heap)(b:mroIn K C (.type "object")=some true)(h:R (.ok (.ret (.ref C))) s):codeAny (model prog w) A (.call (.builtin "getset_descriptor.__get__") ⟨[.builtin "object.__class__",.ref x,a],[]⟩) R s:=by
 obtain⟨c,e,d,tt,os⟩:=s;have LT:=Gx (M:=model prog w) I;have LM:=looks_mroIn (M:=model prog w) X b;refine codeAny_call_builtin KF.slot_gs.plain KF.entry_gs (KF.slot_gs.check _ _ _ _ _ _ _ _ KF.type_class (KF.args_gs _ _ _) (?_:wpAny _ _ _ _ _ _));(unfold Builtin.«getset_descriptor.__get__» descrGet);(rw[dga_obj]);(refine Ql (Qm ?_));(unfold descrGetter descrCheckInstance descrNameAndClass isInstance);(simp only[KF.owner_class]);(repeat lk);refine⟨Code.quiet_builtin _ (by decide +kernel),(codeAny_builtin KF.entry_class ?_:codeAny _ _ _ _ _)⟩;(unfold Builtin.«object.__class__» shownTypeOf);(repeat lk);exact h
theorem eR{K:Frag}(X:K.In s.heap)(I:L2.CN x C s.heap)(b:mroIn K C (.type "BaseException")=some true)(d:Q () s):
  wpAny M A (checkBuiltinCall "BaseException.__getattribute__" ⟨[.ref x,a],[]⟩) Q E s:=by
 obtain⟨e,g,f,tt,os⟩:=s;have LT:=Gx (M:=M) I;have LM:=looks_mroIn (M:=M) X b;have c:builtinKind "BaseException.__getattribute__"=some .slot:=by decide +kernel
 have sp:splitId "BaseException.__getattribute__"=some ("BaseException","__getattribute__"):=by decide +kernel
 have h:=F.args_bexc_ga (.ref x) a;simp only[checkBuiltinCall,c,sp];refine Ql ?_;unfold isInstance
 repeat lk
 repeat (any_goals (first | assumption | wp_step))
theorem eS{K:Frag}(XC:E3 K C)(X:K.In s.heap)(I:L2.CN x C s.heap)(h:R (.ok (.ret (.ref C))) s):
  codeAny (model prog w) A (.call (.builtin "BaseException.__getattribute__") ⟨[.ref x,.str "__class__" tk],[]⟩) R s:=by
 refine codeAny_call_builtin F.attr_Exception.ga.plain F.entry_bexc_ga (eR X I XC.mb ?_);obtain⟨b,c,a,tt,os⟩:=s;have LT:=Gx (M:=model prog w) I;have LF:=eP (M:=model prog w) (x:=x) X XC.fc XC.sp XC.tk;(unfold Builtin.«object.__getattribute__»)
 repeat (first | with_reducible refine wpAny_call (eQ X I XC.mr ?_)| lk | wp_step)
 all_goals exact h
theorem eT{K:Frag}(XC:E3 K C)(X:K.In s.heap)(I:L2.CN x C s.heap)(h:Q (some (.ref C)) {s with toks:=s.toks+1}):wpAny (model prog w) A (getAttr? (.ref x) "__class__") Q E s:=by
 obtain⟨b,c,a,tt,os⟩:=s;have LT:=Gx (M:=model prog w) I;have LG:=looks_findIn (M:=model prog w) X XC.ga;have LH:=looks_findIn (M:=model prog w) X XC.gh;unfold getAttr? getAttrBy? getAttrBy;refine Ql (wpAny_mkText (Ql (wpAny_attempt (wpAny_holding (Ql (LT.at (Ql (LG.at (?_:wpAny _ _ _ _ _ _)))))))));show wpAny _ _ (getAttrByItsOwn _ _ _ _ _ _) _ _ _;unfold getAttrByItsOwn callGetattribute boundAndCalled;refine Ql ((LH:Looks _ _ (hookBefore (.ref C)) none).at (Ql (wpAny_attempt (wpAny_holding ?_))));show wpAny _ _ (bindSpecial (.builtin "BaseException.__getattribute__") (.ref x) >>=_) _ _ _;refine Ql (wpAny_of_eq (F.attr_Exception.ga.bind _) ?_);refine wpAny_call (eS (s:=⟨b,c,a,tt+1,os⟩) XC X I ?_)
 first
  | exact Qm (handed_on rfl (Qm h))
  | exact Qm (Qm h)
  | exact Qm h
theorem eU{K:Frag}(XC:E3 K C):KitX K (.ref x) (.ref C) (L2.CN x C) where
 ty:=λ_ _ _ I=>Gx I
 it:=λ_ _ X _=>by
  have hc:=XC.cl;unfold clsIn at hc;split at hc
  ·rename_i _ _ _ _ a;intro i f j s' k q;unfold isType loadHead;exact Ql (wpAny_loadPart (k _ _ (X _ _ a)) (Qm q))
  ·cases hc
 ne:=λh c l d n g X b=>by
  have hc:=XC.cl;refine Bool.eq_false_iff.mpr λq=>?_;have e:C=c:=Value.ref.inj (beq_iff_eq.mp q);subst e;unfold clsIn at hc;split at hc
  ·rename_i _ _ _ _ a;have z:=(X _ _ a).symm.trans b;cases z
  ·cases hc
 ca:=λX I k=>eT XC X I k
end
end L3
namespace L3
open PySem PySem.Spec PyProof.Rows L2
variable {K:PySem.W.Frag}{H:Hp}
def CF(K:PySem.W.Frag)(cv:Value)(ge:GE):GE:=λω G Q=>ge ω G λw G1=>match w with
 | .ref a=>(match G1 a with | some (.exc C)=>∃ b,E3 K C/\PySem.W.kitOne K (.ref C) cv=some b/\Q (.bl b) G1 | _=>False)
 | _=>False
theorem eV(m:ge.M):GE.M (CF K cv ge):=λω G Q g h q=>m _ _ _ _ (λw c z=>by
 cases w with
 | ref a =>
  dsimp only at z ⊢;cases e:c a with
  | none=>rw[e]at z;exact z
  | some o =>
   rw[e]at z;cases o with
   | lst xs=>exact z
   | ins C fs=>exact z
   | dct d=>exact z
   | exc C=>obtain⟨b,h1,h2,f⟩:=z;exact⟨b,h1,h2,h _ _ f⟩
 | _=>exact z) q
section
theorem QH(T:RelV cv f)(hc:PE X (.Name c pc) (tC cv))(i:X.mg "isinstance"=none)(l:Gl X "isinstance")(x:starEach [e,.Name c pc] X.env=[(false,eval e X.env),(false,eval (.Name c pc) X.env)])(d:starEach [.Name c pc] X.env=[(false,eval (.Name c pc) X.env)])(k:∀ u,RelV cv u->u=f)(h:Em X e ge):Em X (.Call (.Name "isinstance" p) [e,.Name c pc] [] pos) (CF X.K f ge):=by
 refine⟨λpins s σ H Q I n=>?_,eV h.m⟩;obtain⟨ω,G,B,r,q⟩:=n;have pa:PA X [e,.Name c pc] (D3 (up X.K ge) (D3 (tC cv) FI)):=ER h.p (ER hc Gh (by rw[d];rfl)) (by rw[x,d]);refine wpAny_Call_Name_kw (CY I l i QG ?_ (by decide) (by decide));refine PyProof.Rows.callWith_builtin1 (thn (pa pos pins s σ H (λvs H1=>∃ a C b,vs=[.ref a,cv]/\H1 a=some (.ext (CN a C))/\E3 X.K C/\PySem.W.kitOne X.K (.ref C) f=some b/\Q (.bl b) H1) I ?_) λS R⟨vs,H1,g,r1,a,C,b,E,J,A,L,qq⟩=>?_) (by rw[x,d]) (by rw[d];rfl)
 ·refine⟨ω,G,B,r,h.m _ _ _ _ (λw F z v H1 m t r1=>?_) q⟩;cases w with
  | ref a =>
   dsimp only at z;cases j:F a with
   | none=>rw[j]at z;exact z.elim
   | some o =>
    rw[j]at z;cases o with
    | lst xs=>exact z.elim
    | ins C fs=>exact z.elim
    | dct y=>exact z.elim
    | exc C =>
     obtain⟨b,h1,h2,N⟩:=z;have D:H1 a=some (.ext (CN a C)):=r1 a _ j;exact⟨a,C,b,by rw[cf t],D,h1,h2,N _ H1 m (.bl _) r1⟩
  | _=>exact z.elim
 ·subst E;obtain⟨u,P,rfl,O,rt⟩:=KH r1;cases O;rw[k _ rt];obtain⟨h1,_⟩:=g.hok a _ J;exact PySem.W.kia_one (eU A) g.kIn h1 L (λz=>nomatch z) λtk=>⟨.bl b,H1,g.tok tk,rfl,qq⟩
theorem FT(b:X.mg c=some (.ref C))(a:X.mg "isinstance"=none)(d:Gl X "isinstance")(f:Gl X c)(hd:(c==("__debug__":Str))=false)(i:starEach [e,.Name c pc] X.env=[(false,eval e X.env),(false,eval (.Name c pc) X.env)])(g:starEach [.Name c pc] X.env=[(false,eval (.Name c pc) X.env)])(h:Em X e ge):Em X (.Call (.Name "isinstance" p) [e,.Name c pc] [] pos) (CF X.K (.ref C) ge):=
 QH (cv:=.ref C) rfl (OC f b rfl hd) a d i g (λ_ z=>z) h
theorem eW(k:bootBuiltins c=some (.type T))(b:X.mg c=none)(a:X.mg "isinstance"=none)(d:Gl X "isinstance")(f:Gl X c)(i:c≠"__name__")(hd:(c==("__debug__":Str))=false)(j:starEach [e,.Name c pc] X.env=[(false,eval e X.env),(false,eval (.Name c pc) X.env)])(g:starEach [.Name c pc] X.env=[(false,eval (.Name c pc) X.env)])(h:Em X e ge):Em X (.Call (.Name "isinstance" p) [e,.Name c pc] [] pos) (CF X.K (.type T) ge):=
 QH (cv:=.ty T) rfl (OD f b k rfl i hd) a d j g (λ_ z=>z) h
end
theorem eX:ET K H1 (Itr 0 n) ((List.range n).map λi:Nat=>W.int i) b where
 go:=λi H G m r g hi=>by show i < n;simpa using hi
 yld:=λi H G x H' m r g y hi=>by
  obtain⟨e,ex⟩:=y;subst ex;have a:i < n:=by simpa using hi
  refine HI r e ⟨.int i,by simp[a],?_⟩;rw[Int.zero_add];exact .int _
 stop:=λH G m r g=>by show n<=_;simp
def Eb(gs:GA):GI:=λω G R=>gs ω G λws G1=>match ws with
 | [.int j]=>-(2 ^ 62)<=j/\j < 2 ^ 62/\R ((List.range j.toNat).map λi:Nat=>W.int i) yes G1
 | _=>False
theorem eY(m:gs.M):GI.M (Eb gs):=λω G R c h q=>m _ _ _ _ (λb a z=>by
 split at z
 ·exact⟨z.1,z.2.1,h _ _ _ z.2.2⟩
 ·exact z.elim) q
theorem eZ(c:X.mg "range"=none)(e:Gl X "range")(hs:starEach [a] X.env=[(false,eval a X.env)])(b:Am X [a] gs):Im X tg (.Call (.Name "range" p) [a] [] pos) (Eb gs):=by
 refine⟨⟨_,ZI e c b.p hs,λσ H ω G R g d r q k=>⟨ω,G,d,r,b.m _ _ _ _ (λi h z vs H1 m t r1=>?_) q⟩⟩,eY b.m⟩;split at z
 ·cases t with
  | cons f t=>cases t;cases f;exact⟨_,rfl,z.1,z.2.1,k _ _ _ H1 _ z.2.2 m r1 trivial eX⟩
 ·exact z.elim
theorem Inv.turneds{σ:St}{fp:List Addr}(I:Inv X pins σ H s)(a:∀ b∈fp,CZ X pins H b)(k:∀ b o,b∉fp->s.heap.get? b=some o->h'.get? b=some o):Inv X pins σ H {s with heap:=h',toks:=t'}:=by
 have d:∀ b u,H b=some u->b∉fp:=λb u e z=>by rw[(a b z).1]at e;cases e
 refine I.step (g':=s.gens) (d':=s.drawn) (ch:=fp) (λb f=>⟨(a b f).2.2.2.1,(a b f).2.1,(a b f).2.2.2.2.1,(a b f).2.2.2.2.2⟩) (λb o _ _ hc e _=>k b o hc e) (λb o _ _ hc e _=>⟨o.slots,k b o hc e⟩) (λ_ _ _ _ n=>n)
  (λb o hc e=>⟨o,k b o hc e⟩) (λ_ _ e=>e) (λ_ _ _ e=>e) (λb ps e=>⟨#[],by rw[e];simp⟩) (λm g=>?_) (λb u e=>?_) I.bare
 ·obtain⟨o,es,i,h,r⟩:=g;exact⟨o,es,i,k _ o (λz=>(a _ z).2.1 rfl) h,r⟩
 ·refine(I.hok b u e).stay (λc v hc q=>k c v ?_ q) (λ_ q=>q) λ_ _ q=>q;rcases hc with z | z
  ·rw[z];exact d b u e
  ·exact d c _ z
def rdL(G:Hw)(w:W):Option (List W):=match w with
 | .rol xs=>some xs
 | .ref a=>(match G a with | some (.lst xs)=>some xs | _=>none)
 | _=>none
theorem Gy(r:RelH K H G)(t:Tr K H v w)(e:rdL G w=some xs):∃ a vs,v=.ref a/\SqL K H a vs/\TrL K H vs xs:=by
 cases t with
 | rol h l=>cases e;exact⟨_,_,rfl,h.sq,l⟩
 | ref a =>
  unfold rdL at e;dsimp only at e;cases z:G a with
  | none=>rw[z]at e;cases e
  | some o =>
   rw[z]at e;cases o with
   | lst ys=>cases e;obtain⟨vs,b,c⟩:=r a _ z;exact⟨a,vs,rfl,SqL.of b,c⟩
   | exc C=>cases e
   | ins C fs=>cases e
   | dct d=>cases e
 | _=>cases e
def Bx:List W->List W->List W
 | x::xs,y::ys=>.tup [x,y]::Bx xs ys
 | _,_=>[]
theorem Lw:∀(xs ys:List W),(Bx xs ys).length=min xs.length ys.length
 | [],_=>by simp[Bx]
 | _::_,[]=>by simp[Bx]
 | _::xs,_::ys=>by simp only[Bx,Yg,Lw xs ys];lia
theorem QI:∀(xs ys:List W)(i:Nat){x y:W},xs[i]?=some x->ys[i]?=some y->(Bx xs ys)[i]?=some (.tup [x,y])
 | [],_,_,_,_,h,_=>by simp at h
 | _::_,[],_,_,_,_,h=>by simp at h
 | a::xs,b::ys,0,x,y,h,h'=>by simp at h h';subst h;subst h';rfl
 | a::xs,b::ys,i+1,x,y,h,h'=>by
  have:=QI xs ys i (x:=x) (y:=y) (by simpa using h) (by simpa using h');simpa[Bx]using this
theorem e7:bootBuiltins "len"=some (.builtin "len"):=by decide +kernel
theorem Dk:bootBuiltins "all"=some (.builtin "all"):=by decide +kernel
theorem Lx:bootBuiltins "sum"=some (.builtin "sum"):=by decide +kernel
theorem QJ:bootBuiltins "max"=some (.builtin "max"):=by decide +kernel
theorem QK:bootBuiltins "list"=some (.type "list"):=by decide +kernel
theorem FU:bootBuiltins "tuple"=some (.type "tuple"):=by decide +kernel
theorem QL:bootBuiltins "int"=some (.type "int"):=by decide +kernel
theorem e8:bootBuiltins "str"=some (.type "str"):=by decide +kernel
theorem e9:bootBuiltins "bool"=some (.type "bool"):=by decide +kernel
theorem Ly:bootBuiltins "dict"=some (.type "dict"):=by decide +kernel
theorem fe:bootBuiltins "ValueError"=some (.type "ValueError"):=by decide +kernel
section
variable {X:Cx}{p:Pos}
theorem ff(hi:X.N[i]?=some x)(a:seen X.env.scope x=true)(hd:(x==("__debug__":Str))=false)(hc:(x==("__classdict__":Str))=false):Em X (.Name x pos) (Ab i):=⟨bL hi (PV a) hd hc,bK⟩
theorem FV(c:X.N.Nodup)(hi:X.N[i]?=some x)(b:FN X.env.scope x=true)(hs:swapsWith e (some (.Name x pos')) pos.line X.env=pure false)(a:Em X e ga):Sm X P (.Assign [.Name x pos'] e pos) (Ao i ga):=
 ⟨Px c hi (.inl (FO b)) a.m a.p hs (.inr (FO b)),K3 a.m⟩
theorem fg(c:X.N.Nodup)(hi:X.N[n]?=some x)(b:FN X.env.scope x=true)(a:Em X e ga):Sm X P (.AugAssign (.Name x pos') .Add e pos) (Cm n Cc ga):=
 ⟨dZ (OpR.or ZU af) P9 d0 c hi (.inl (FO b)) (.inr (FO b)) a.m a.p,dY P9 a.m⟩
def Glb(K:PySem.W.Frag)(mg:Str->Option Value)(x:Str)(w:W):Prop:=∃ v u,mg x=some u/\RelV v u/\∀ H,Tr K H v w
theorem E4(h:Glb X.K X.mg x w)(a:Gl X x)(hd:(x==("__debug__":Str))=false):Em X (.Name x pos) (gC w):=
 let⟨_,_,h1,h2,h3⟩:=h
 ⟨Ps a h1 h2 h3 hd,FL⟩
structure Fm(X:Cx)(ifs:List Expr)(g:GT):Prop where
 p:PFw X ifs g
 m:g.M
theorem A6:Fm X [] Ay:=⟨cZ,cY⟩
theorem fh(h:Tm X c gt):Fm X [c] gt:=⟨c0 h.p,h.m⟩
theorem BK(hc:X.calm=true)(B:Blk X Nc scope [] (λ_=>List.replicate Nc.length none))(hs:∀ x,foldedSetIterable iter X.env x=pure x)(hi:Im X tg iter gi)(f:TgU X Nc scope tg a)(c:∀ C fp s H,Fm (cxB X Nc scope [] C fp s H) ifs gt)(d:∀ C fp s H,Em (cxB X Nc scope [] C fp s H) elt ge):Em X (.ListComp elt [⟨tg,iter,ifs,0⟩] scope pos) (AI gi Nc.length a gt ge):=
 have b:gt.M:=(c 0 [] X.s₀ X.H₀).m
 have e:ge.M:=(d 0 [] X.s₀ X.H₀).m
 ⟨c7 hc hi.p B f b (λC fp s H=>(c C fp s H).p) e (λC fp s H=>(d C fp s H).p) hs,cX hi.m f.mono b e⟩
theorem Ec:D6 X (λ_ _ _=>False):=(by rintro pins σ H s ev s' I ⟨e,C,H',c,F,d,ω,G,a,b,r,q⟩;exact q.elim)
theorem AQ(a:Room k A):A.units+100 < cLine:=by have:=a.un;lia
theorem fi(a:Room k A)(h:j<=k):HE j (A.mark e):=⟨by have:=a.dp;show A.depth+3*j+5 < recursionLimit;lia,by have:=a.un;show A.units+16*j+200 < cLine;lia⟩
end
def E5:List (Str×Int)->Str->W
 | [],_=>.non
 |(x,i)::D,z=>if z=x then .int i else E5 D z
def Lz(mg:Str->Option Value)(base:Heap)(x:Str)(D:List (Str×Int)):Prop:=∃ d,mg x=some (.ref d)/\KTD.TextTab base d (D.map λp=>(p.1,KTD.Dat.flat (.int p.2)))
theorem QM:∀{D:List (Str×Int)}{z:Str}{d:KTD.Dat},KTD.datumAt z (D.map λp=>(p.1,KTD.Dat.flat (.int p.2)))=some d->∃ i,d=.flat (.int i)/\E5 D z=.int i
 | [],_,_,h=>by cases h
 |(x,i)::D,z,d,h=>by
  have h':(if decide (z=x)=true then some (KTD.Dat.flat (.int i))else KTD.datumAt z (D.map λp=>(p.1,KTD.Dat.flat (.int p.2))))=some d:=h;unfold E5;by_cases a:z=x
  ·rw[if_pos (YH a)]at h';cases h';exact⟨i,rfl,if_pos a⟩
  ·rw[if_neg (by simpa using a)]at h';rw[if_neg a];exact QM h'
theorem QN:∀{D:List (Str×Int)}{z:Str},KTD.datumAt z (D.map λp=>(p.1,KTD.Dat.flat (.int p.2)))=none->E5 D z=.non
 | [],_,_=>rfl
 |(x,i)::D,z,h=>by
  have h':(if decide (z=x)=true then some (KTD.Dat.flat (.int i))else KTD.datumAt z (D.map λp=>(p.1,KTD.Dat.flat (.int p.2))))=none:=h;unfold E5;by_cases a:z=x
  ·rw[if_pos (YH a)]at h';cases h'
  ·rw[if_neg (by simpa using a)]at h';rw[if_neg a];exact QN h'
def FW(D:List (Str×Int))(gk:GE):GE:=λω G Q=>gk ω G λw G1=>match w with | .str z=>Q (E5 D z) G1 | _=>False
theorem fj(h:Lz X.mg X.base x D)(J:Gl X x)(hd:(x==("__debug__":Str))=false)(f:attributeBase (.Name x j) "get" X.env (eval (.Name x j) X.env)=eval (.Name x j) X.env)(g:((backTo cpos (starEach [e] X.env)).all (λx=>!x.1)&&(backToKw cpos (keywordEach [] X.env)).all (λx=>x.1.isSome)&&decide ([e].length+([]:List Keyword).length+(if([]:List Keyword).isEmpty then 0 else 1) < 30))=true)(c:(apos.endLine==cpos.line)=true)(hs:starEach [e] X.env=(false,eval e X.env)::starEach [] X.env)(hplain:(backTo cpos (starEach [] X.env)).any (·.1)=false)(o:Em X e k):
  Em X (.Call (.Attribute (.Name x j) "get" apos) [e] [] cpos) (FW D k):=by
 refine⟨λpins s σ H Q I⟨ω,G,E,r,q⟩=>?_,λω G Q Q' hh q=>o.m _ _ _ _ (λw Y z=>by cases w <;> first | exact hh _ _ z | exact z) q⟩;obtain⟨d,S,T⟩:=h;have b:KTD.Here X.base s.heap d (D.map λp=>(p.1,KTD.Dat.flat (.int p.2))):=⟨T,I.bk⟩;refine wpAny_Call_method_late f g c rfl (EM I J S ⟨"dict","dict.get",PySem.F.plainAttrs_dict,PySem.F.slot_dict_get,PySem.F.type_dict_get,b.typeIs,b.noDict,?_⟩ hd);have pa:PA X [e] (D3 (up X.K k) FI):=ER o.p Gh hs
 have A:=pa cpos pins s σ H (λvs H1=>∃ z,vs=[.str z]/\∀ v,Tr X.K H1 v (E5 D z)->Q v H1) I ⟨ω,G,E,r,o.m _ _ _ _ (λw Y z v H1 m t r1=>by
  cases w with
  | str y=>exact⟨y,by rw[PB t],λv tv=>z v H1 m tv r1⟩
  | _=>exact z.elim) q⟩
 rw[hs]at A ⊢;refine Calls.callWith_builtin (by show(false||(backTo cpos (starEach [] X.env)).any (·.1))=false;rw[hplain] <;> rfl) (Calls.evalArgs_plain ?_);refine thn A λus B n=>?_;obtain⟨vs,H2,l,L,z,U,q2⟩:=n;subst U;obtain⟨u,rfl,N⟩:=Cz L;obtain⟨t,rfl⟩:=N;have a:KTD.Here X.base B.heap d (D.map λp=>(p.1,KTD.Dat.flat (.int p.2))):=⟨T,l.bk⟩;refine call_meetsIn PySem.F.slot_dict_get a.typeIs PySem.F.entry_dict_get (PySem.F.args_dict_get_2 _ _) (KTD.meets_get1 (h₀:=X.base) (D:=D.map λp=>(p.1,KTD.Dat.flat (.int p.2)))) ⟨a,λdd v Z P=>?_,λR=>?_⟩
 ·obtain⟨i,rfl,O⟩:=QM Z;obtain⟨t2,rfl⟩:=PyProof.V.Flat.int_inv P;exact⟨.int i,H2,l.tok _,⟨_,rfl⟩,q2 _ (by rw[O];exact .int i)⟩
 ·exact⟨.non,H2,l.tok _,rfl,q2 _ (by rw[QN R];exact .non)⟩
def Fn(K:PySem.W.Frag)(mg:Str->Option Value)(st:Stmt)(x:Str)(ps:List Str):Prop:=∃ f fd,mg x=some (.ref f)/\Fun K x x st f fd/\Binds K fd ps []
section
theorem Df.le(D:Df P w K mg base x j n sp)(h:j<=k):Df P w K mg base x k n sp :=
 ⟨let⟨f,fd,ps,h1,h2,h3,h4,F⟩:=D.ex;⟨f,fd,ps,h1,h2,h3,h4,F.mono h⟩,D.mono⟩
theorem mk0{st:Stmt}(Fx:Fn K mg st x ps)(i:ps.length=n)(S:AB N ps (Ap st))(h:sp.M)(len:∀ c G Q E,sp c G Q E->c.length=n)(v:∀{f:Addr}{cdv:Value}{A:Around}{outer:List Env}{s:Shared}{H:Hp}{E:XK},Room k (A.deeper (envOfC x (Ap st) s.heap.objs.size f cdv))->Ssm (cxW P w K mg base N x (Ap st) f cdv A outer s H E).nox (λB=>B=H) (Bv st) g)(ok:∀ c G(Q:Kw)(E:Addr->Hw->Prop),Kw.C Q->sp c G Q E->g (Au Q) (Bo N c) G):Df P w K mg base x (k+1) n sp:=by
 obtain⟨f,fd,h1,F,j⟩:=Fx;refine⟨⟨f,fd,ps,h1,F.kp,j,i,?_⟩,h⟩;obtain⟨I,J,kV,u,pm,L,cdv,ct,l,rfl,lk,e⟩:=F.ex;refine Gi lk e S ((by rintro vs H Q E ⟨c,G,t,r,q⟩;rw[t.length,i];exact len c G _ _ q)) λA outer s H vs Q E o d=>?_;obtain⟨c,G,t,r,q⟩:=d;have D:=v (cdv:=cdv) (outer:=outer) (H:=H) (E:=E) o;refine⟨_,(D.p H rfl).nox,Bo N c,G,Gn t,r,.refl,?_⟩;exact D.m _ _ (Au (dn K H Q)) _ (λa b z σ H2 m O y=>z _ H2 m Tr.non y) (λa b z=>z) (λa b z=>z.elim) (λa b z=>z.elim) (ok c G _ _ Gp q)
theorem mkX{st:Stmt}{g:(Addr->Hw->Prop)->GS}(Fx:Fn K mg st x ps)(i:ps.length=n)(S:AB N ps (Ap st))(h:sp.M)(len:∀ c G Q E,sp c G Q E->c.length=n)(v:∀{f:Addr}{cdv:Value}{A:Around}{outer:List Env}{s:Shared}{H:Hp}{E:XK},Room k (A.deeper (envOfC x (Ap st) s.heap.objs.size f cdv))->Ssm (cxW P w K mg base N x (Ap st) f cdv A outer s H E) (λB=>B=H) (Bv st) (g (dnX K H E)))(ok:∀ c G(Q:Kw)(E:Addr->Hw->Prop),Kw.C Q->Xc E->sp c G Q E->g E (Au Q) (Bo N c) G):Df P w K mg base x (k+1) n sp:=by
 obtain⟨f,fd,h1,F,j⟩:=Fx;refine⟨⟨f,fd,ps,h1,F.kp,j,i,?_⟩,h⟩;obtain⟨I,J,kV,u,pm,L,cdv,ct,l,rfl,lk,e⟩:=F.ex;refine Gi lk e S ((by rintro vs H Q E ⟨c,G,t,r,q⟩;rw[t.length,i];exact len c G _ _ q)) λA outer s H vs Q E o d=>?_;obtain⟨c,G,t,r,q⟩:=d;have D:=v (cdv:=cdv) (outer:=outer) (H:=H) (E:=E) o;refine⟨_,D.p H rfl,Bo N c,G,Gn t,r,.refl,?_⟩;exact D.m _ _ (Au (dn K H Q)) _ (λa b z σ H2 m O y=>z _ H2 m Tr.non y) (λa b z=>z) (λa b z=>z.elim) (λa b z=>z.elim) (ok c G _ _ Gp bW q)
theorem mkN{st:Stmt}(Fx:Fn K mg st x ps)(i:ps.length=n)(S:AB N ps (Ap st))(h:sp.M)(len:∀ c G Q E,sp c G Q E->c.length=n)(u:∀{f:Addr}{cdv:Value}{A:Around}{outer:List Env}{s:Shared}{H:Hp},Ssm (cxN P w K mg base N x (Ap st) f cdv A outer s H) (λB=>B=H) (Bv st) g)(ok:∀ c G(Q:Kw)(E:Addr->Hw->Prop),Kw.C Q->sp c G Q E->g (Au Q) (Bo N c) G):DfN P w K mg base x (k+1) n sp:=by
 obtain⟨f,fd,h1,F,j⟩:=Fx;refine⟨⟨f,fd,ps,h1,F.kp,j,i,?_⟩,h⟩;obtain⟨y,I,kV,o,pm,J,cdv,ct,l,rfl,lk,e⟩:=F.ex;refine bH lk e S ((by rintro vs H Q E ⟨c,G,t,r,q⟩;rw[t.length,i];exact len c G _ _ q)) λA outer s H vs Q E d=>?_;obtain⟨c,G,t,r,q⟩:=d;have D:=u (f:=f) (cdv:=cdv) (A:=A) (outer:=outer) (s:=s) (H:=H);refine⟨_,D.p H rfl,Bo N c,G,Gn t,r,.refl,?_⟩;exact D.m _ _ (Au (dn K H Q)) _ (λa b z σ H2 m L v=>z _ H2 m Tr.non v) (λa b z=>z) (λa b z=>z.elim) (λa b z=>z.elim) (ok c G _ _ Gp q)
end
end L3
namespace L3
open PySem PySem.Spec PyProof.Rows L2
def Bc{α:Type}(n:Nat)(js:List Nat)(l:List (Option α)):List (Option α):=List.replicate n none++js.map λj=>(l[j]?).getD none
theorem LA{α:Type}{l:List (Option α)}:(Bc n js l).length=n+js.length:=by simp[Bc]
theorem QO{α:Type}{l:List (Option α)}{v:α}(h:(Bc n js l)[i]?=some (some v)):∃ m j,i=n+m/\js[m]?=some j/\l[j]?=some (some v):=by
 unfold Bc at h;by_cases hi:i < n
 ·rw[YJ (by simpa using hi),List.getElem?_replicate]at h;split at h <;> cases h
 ·rw[List.getElem?_append_right (by simpa using Nat.le_of_not_lt hi),List.length_replicate,YR]at h;cases a:js[i - n]? with
  | none=>rw[a]at h;cases h
  | some j =>
   rw[a]at h;refine⟨i - n,j,by lia,a,?_⟩;have h':(l[j]?).getD none=some v:=YE h;cases e:l[j]? with
   | none=>rw[e]at h';cases h'
   | some o=>rw[e]at h';exact congrArg some h'
theorem fk{α:Type}{l:List (Option α)}{v:α}(h1:js[m]?=some j)(h2:l[j]?=some (some v)):(Bc n js l)[n+m]?=some (some v):=by
 unfold Bc;rw[List.getElem?_append_right (by simp),List.length_replicate,YR];have:n+m - n=m:=by lia
 rw[this,h1];show some ((l[j]?).getD none)=_;rw[h2];rfl
theorem TrSt.cap{K:PySem.W.Frag}(t:TrSt K H σ ω)(n:Nat)(js:List Nat):TrSt K H (Bc n js σ) (Bc n js ω):=by
 refine⟨by rw[LA,LA],λi w e=>?_⟩;obtain⟨m,j,rfl,h1,h2⟩:=QO e;obtain⟨v,a,r⟩:=t.get j w h2;exact⟨v,fk h1 a,r⟩
def DC(env:Env):List (Str×NameKind)->List (Str×Addr)->List (Str×Addr)
 | [],cs=>cs
 |(n,k)::r,cs=>DC env r (if k=.free then(n,(env.cells.lookup n).getD 0)::cs else cs)
theorem QP:∀(l:List (Str×NameKind))(a:List (Str×Addr)),(∀ y∈l,y.2=.free->∃ c,env.cells.lookup y.1=some c)->
  (forIn l a λ(x:Str×NameKind)r=>if(x.2==NameKind.free)=true then do let c <- cellOf env x.1;pure (ForInStep.yield ((x.1,c)::r))else pure (ForInStep.yield r):Sem (List (Str×Addr)))=pure (DC env l a)
 | [],a,_=>by simp[DC]
 |(n,k)::r,a,h=>by
  have d:=λa=>QP r a λy f=>h y (Yd _ f);rw[List.forIn_cons];by_cases b:k=.free
  ·obtain⟨c,hc⟩:=h (n,k) Ye b;subst b;have e:cellOf env n=pure c:=by unfold cellOf;rw[hc]
   simp only[beq_self_eq_true,if_true,e,pure_bind,DC,hc,Option.getD_some];exact d _
  ·have:(k==NameKind.free)=false:=by simpa using b
   simp only[this,Yq,if_false,pure_bind,DC,b];exact d _
theorem QQ:∀(l:List (Str×NameKind))(a:List (Str×Addr)),(DC env l a).lookup y=some c->a.lookup y=some c\/((y,NameKind.free)∈l/\c=(env.cells.lookup y).getD 0)
 | [],a,h=>.inl h
 |(n,k)::r,a,h=>by
  rcases QQ r _ h with q |⟨q1,q2⟩
  ·split at q
   ·rename_i b;subst b;rw[List.lookup_cons]at q;split at q
    ·rename_i e;have d:y=n:=beq_iff_eq.mp e;subst d;exact .inr ⟨Ye,(YE q).symm⟩
    ·exact .inl q
   ·exact .inl q
  ·exact .inr ⟨Yd _ q1,q2⟩
theorem QR:∀(l:List (Str×NameKind))(a:List (Str×Addr)),(∃ c,a.lookup y=some c)->∃ c,(DC env l a).lookup y=some c
 | [],a,h=>h
 |(n,k)::r,a,h=>QR r _ (by
  split
  ·rw[List.lookup_cons];split
   ·exact⟨_,rfl⟩
   ·exact h
  ·exact h)
theorem QS:∀(l:List (Str×NameKind))(a:List (Str×Addr)),(y,NameKind.free)∈l->∃ c,(DC env l a).lookup y=some c
 | [],a,h=>by cases h
 |(n,k)::r,a,h=>by
  rcases Yo.mp h with h | h
  ·cases h;refine QR r _ ⟨(env.cells.lookup y).getD 0,?_⟩;rw[if_pos rfl,List.lookup_cons,beq_self_eq_true]
  ·exact QS r _ h
theorem QT(nocell:∀ z∈scope.names,z.2≠.cell)(h:(relabel scope env).names.lookup y=some k)(b:k=.cell\/k=.free):(y,NameKind.free)∈scope.names:=by
 have m:=KY h;unfold relabel at m;obtain⟨⟨n,c⟩,a,e⟩:=YC.mp m;dsimp only at e;split at e
 ·rename_i hc;cases e;simp only[YG,beq_iff_eq]at hc;rw[hc.1.1]at a;exact a
 ·cases e;rcases b with rfl | rfl
  ·exact absurd rfl (nocell _ a)
  ·exact a
theorem QU{env:Env}(a:env.scope.kind=.function):∀{names:List (Str×NameKind)}{x:Str},names.lookup x=some .free->env.kindOf x=some .cell->
  (names.map λ(n,k)=>if(k==NameKind.free&&env.scope.kind==.function&&env.kindOf n==some .cell)then(n,NameKind.cell)else(n,k)).lookup x=some .cell
 | [],_,h,_=>by cases h
 |(n,k)::r,x,h,f=>by
  rw[List.lookup_cons]at h;rw[Ym];split at h
  ·rename_i e;have i:x=n:=beq_iff_eq.mp e;subst i;cases h;have c:(NameKind.free==NameKind.free&&env.scope.kind==ScopeKind.function&&env.kindOf x==some NameKind.cell)=true:=by rw[a,f];rfl
   dsimp only;rw[if_pos c,List.lookup_cons,beq_self_eq_true]
  ·rename_i e;have g:=QU a (names:=r) h f;rw[List.lookup_cons]
   have b:(x==(if(k==NameKind.free&&env.scope.kind==ScopeKind.function&&env.kindOf n==some NameKind.cell)=true then(n,NameKind.cell)else(n,k)).1)=false:=by
    split <;> exact e
   dsimp only at b ⊢;split
   ·rename_i d;rw[b]at d;cases d
   ·exact g
theorem Cp(kind:scope.kind=.function)(names:∀ x∈scope.names,x.2=.local->scope.names.lookup x.1=some .local)(nocell:∀ y∈scope.names,y.2≠.cell)(r:∀ y∈scope.names,y.2=.free->y.1∈fr)(A:∀ y∈fr,scope.names.lookup y=some .free)(b:X.env.scope=scX)(p:scX.kind=.function)(g:X.env.cells=cellsFrom n scX.names [])(s:∀ y∈fr,scX.names.lookup y=some .cell)(t:js.map (λj=>X.N[j]?)=fr.map some):Blk X (own++fr) scope (DC X.env scope.names []) (Bc own.length js):=by
 have d:∀ y∈fr,∃ c,X.env.cells.lookup y=some c:=λy a=>by
  rw[g];exact KI (s y a)
 have k:js.length=fr.length:=by have:=congrArg List.length t;simpa using this
 refine⟨?_,kind,names,nocell,λy c h=>?_,λy h=>?_,λσ i y v h1 h2 D=>?_,λσ=>by rw[LA,Yj,k]⟩
 ·have:=QP (env:=X.env) scope.names [] λy a o=>d _ (r y a o);unfold closureFor;simp only[bind_pure];exact this
 ·rcases QQ _ _ h with q |⟨q1,q2⟩
  ·cases q
  ·obtain⟨B,e⟩:=d y (r _ q1 rfl);rw[e]at q2 ⊢;exact congrArg some q2.symm
 ·refine QS _ _ ?_;rcases h with h | h
  ·exact QT nocell h (.inl rfl)
  ·exact QT nocell h (.inr rfl)
 ·obtain⟨m,j,rfl,w,u⟩:=QO h2;rw[List.getElem?_append_right (by lia)]at h1;have:own.length+m - own.length=m:=by lia
  rw[this]at h1;have a:y∈fr:=List.mem_of_getElem? h1;have q:=congrArg (λl=>l[m]?) t;simp only[YR,w,h1,YD]at q;have f:X.env.scope.names.lookup y=some .cell:=by rw[b];exact s y a
  refine⟨.inl (QU (by rw[b];exact p) (A y a) f),.inr (.inl f),(by rw[f];intro z;cases z),j,YE q,u⟩
def AO(gi:GI)(n:Nat)(js:List Nat)(gg:GG)(gt:GT)(ge:GE):GE:=λω G Q=>gi ω G λws gd G1=>AN gd gg gt ge (λys G2=>∀ p,G2 p=none->Q (.ref p) (put G2 p (.lst ys))) ws (Bc n js ω) G1 []
theorem LC(e:gi.M)(mg:a.M)(b:gt.M)(d:ge.M):GE.M (AO gi n js a gt ge):=λω G Q f h q=>
 e _ _ _ _ (λk i j z=>HJ mg b d (λys g z p c=>h _ _ (z p c)) _ _ _ _ z) q
theorem QV{X:Cx}(T:∀(σ:St)(H:Hp)(ω:Sw)(G:Hw)(R:List W->(Hw->Prop)->Hw->Prop)(R0:It->Hp->Prop),TrSt X.K H σ ω->RelH X.K H G->gi ω G R->
   (∀ a t D H1 J,R a t D->Mono X.K H H1->RelH X.K H1 D->t D->ET X.K H1 J a t->R0 J H1)->U σ H R0)(I:∀(x:V)(w:W)(σ:St)(ω:Sw)(H:Hp)(G:Hw)(Q:St->Hp->Prop),Tr X.K H x w->TrSt X.K H σ ω->RelH X.K H G->A w ω G (dnS X.K H Q)->g x σ H Q)(mg:A.M)(mt:gt.M)(me:ge.M)(σ:St)(H:Hp)(Q:VK)(h:up X.K (AO gi n js A gt ge) σ H Q):
  HD U (Bc n js) g (upT X.K gt) (up X.K ge) σ H Q:=by
 obtain⟨ω,G,Z,r,q⟩:=h;refine T σ H ω G _ _ Z r q λa t D H1 J z m1 r1 hgd S=>?_
 refine⟨λi m σ' H' vs=>m=a.length - i/\i<=a.length/\Mono X.K H1 H'/\∃ ω' l ys,TrSt X.K H' σ' ω'/\RelH X.K H' l/\TrL X.K H' vs ys/\AN t A gt ge (λys k=>∀ p,k p=none->dn X.K H Q (.ref p) (put k p (.lst ys))) (a.drop i) ω' l ys,
  ⟨a.length,by simp,YX _,.refl,_,D,[],(Z.mono m1).cap n js,r1,.nil,by simpa using z⟩,?_⟩
 rintro i m σ' H' vs ⟨rfl,hle,j,ω',l,ys,P,r',tv,s⟩;have c:=PL s;by_cases f:i < a.length
 ·have hw:∃ w,a[i]?=some w:=⟨a[i],by simp[f]⟩;obtain⟨w0,B⟩:=hw
  have ed:a.drop i=w0::a.drop (i+1):=by
   obtain⟨h',e'⟩:=Qa.mp B;rw[<- e'];exact List.drop_eq_getElem_cons h'
  rw[ed]at s
  refine .inr ⟨S.go i H' l j r' c f,by rw[tv.length];exact s.2.1,λσ2 H2 v=>Mono X.K H1 H2/\∃ ω2 k u,TrSt X.K H2 σ2 ω2/\RelH X.K H2 k/\TrL X.K H2 v u/\AN t A gt ge (λys k=>∀ p,k p=none->dn X.K H Q (.ref p) (put k p (.lst ys))) (a.drop (i+1)) ω2 k u,
   (by rintro σ2 H2 v ⟨y1,y2⟩;exact⟨a.length -(i+1),by lia,rfl,f,y1,y2⟩),λx H2 y=>?_⟩
  obtain⟨F,ry,w,ew,tw⟩:=S.yld i H' l x H2 j r' c y f;have j:=j.trans F;have tv:=tv.mono F;rw[B]at ew;cases ew;refine I x _ σ' ω' _ l _ tw (P.mono F) ry (mg _ _ _ _ _ (λω1 L z1 σ1 H3 E d r3=>?_) s.2.2);refine⟨ω1,L,d,r3,mt _ _ _ _ (λb G4 Y H4 o r4=>?_) z1⟩;cases b with
  | true=>exact⟨ω1,G4,d.mono o,r4,me _ _ _ _ (λy5 G5 z5 v5 H5 O t5 r5=>⟨((j.trans E).trans o).trans O,ω1,G5,_,(d.mono o).mono O,r5,(((tv.mono E).mono o).mono O).append (.cons t5 .nil),z5⟩) Y⟩
  | false=>exact⟨(j.trans E).trans o,ω1,G4,_,d.mono o,r4,(tv.mono E).mono o,Y⟩
 ·have e:i=a.length:=by lia
  subst e;rw[List.drop_length]at s;exact .inl ⟨S.stop H' l j r' c,λp N=>s.2 p (r'.no N) _ _ ((m1.trans j).trans (Mono.new N _)) (.ref p) (r'.new N tv)⟩
structure TgC(X:Cx)(Nc:List Str)(scope:Scope)(cl:List (Str×Addr))(tg:Expr)(gg:GG):Prop where
 ex:∃ g:TG,(∀ C fp s H,PG (cxB X Nc scope cl C fp s H) tg g)/\∀(x:V)(w:W)(σ:St)(ω:Sw)(H:Hp)(G:Hw)(Q:St->Hp->Prop),Tr X.K H x w->TrSt X.K H σ ω->RelH X.K H G->gg w ω G (dnS X.K H Q)->g x σ H Q
 mono:gg.M
theorem CO(b:Nc.Nodup)(hi:Nc[i]?=some x)(a:scope.names.lookup x=some .local):TgC X Nc scope cl (.Name x p) (gNm i) where
 ex:=⟨Dt i,λC c s H=>Du (X:=cxB X Nc scope cl C c s H) b hi (.inl (lookup_relabel_local a)) (.inr (lookup_relabel_local a)),λx w σ ω H G Q t d r q=>q _ H .refl (d.set i t) r⟩
 mono:=λ_ _ _ _ _ h q=>h _ _ q
theorem QW(hc:X.calm=true)(d:Nc.Nodup)(hi:Nc[i]?=some x)(c:scope.names.lookup x=some .local)(n:Nc[j]?=some y)(e:scope.names.lookup y=some .local):
  TgC X Nc scope cl (.Tuple [.Name x p,.Name y m] k pos) (AM i j) where
 ex:=⟨Cl X.K 2 (BT (Dt i) (BT (Dt j) Ch)),λC f s H=>Ku (X:=cxB X Nc scope cl C f s H) hc (FE (Du d hi (.inl (lookup_relabel_local c)) (.inr (lookup_relabel_local c))) (FE (Du d n (.inl (lookup_relabel_local e)) (.inr (lookup_relabel_local e))) Kt)),
  λv w σ ω H G Q t g r q=>by
   unfold AM at q;split at q
   ·rename_i a b;cases t with
    | tup h l =>
     cases l with
     | cons ta l =>
      cases l with
      | cons tb l =>
       cases l;exact⟨_,_,rfl,h,rfl,_,_,rfl,_,_,rfl,rfl,q _ H .refl ((g.set i ta).set j tb) r⟩
   ·exact q.elim⟩
 mono:=PM
section
theorem Dl(hc:X.calm=true)(B:Blk X Nc scope cl (Bc n js))(hs:∀ x,foldedSetIterable iter X.env x=pure x)(hi:Im X tg iter gi)(c:TgC X Nc scope cl tg e)(h:∀ C fp s H,Fm (cxB X Nc scope cl C fp s H) ifs gt)(i:∀ C fp s H,Em (cxB X Nc scope cl C fp s H) elt ge):Em X (.ListComp elt [⟨tg,iter,ifs,0⟩] scope pos) (AO gi n js e gt ge):=by
 have f:gt.M:=(h 0 [] X.s₀ X.H₀).m;have j:ge.M:=(i 0 [] X.s₀ X.H₀).m;refine⟨?_,LC hi.m c.mono f j⟩;obtain⟨k,a,hi⟩:=hi.p;obtain⟨g,b,d⟩:=c.ex;exact A7 (Pk hc a B b (λC fp s H=>(h C fp s H).p) (λC fp s H=>(i C fp s H).p) hs) (QV hi d c.mono f j)
def LD(sc:Scope)(x:Str):Bool:=match sc.names.lookup x with | some .cell=>true | _=>false
theorem fm(h:LD a x=true):a.names.lookup x=some .cell:=by
 unfold LD at h;split at h
 ·assumption
 ·cases h
theorem fq(b:X.N.Nodup)(hi:X.N[i]?=some x)(d:LD X.env.scope x=true)(c:X.fn x=true)(hs:swapsWith e (some (.Name x pos')) pos.line X.env=pure false)(a:Em X e ga):Sm X P (.Assign [.Name x pos'] e pos) (Ao i ga):=
 ⟨Px b hi (.inr (fm d)) a.m a.p hs (.inl c),K3 a.m⟩
end
section
theorem fu{j:List Value}(k:IsTup s.heap t #[])(o:IsTup s.heap b j.toArray)(h1:Q (.ref b) s):wpAny (model prog w) A (binaryOp .Add (.ref t) (.ref b)) Q E s:=by
 obtain⟨⟨cls,p,data,m⟩,i,hc,n,hd⟩:=id k;obtain⟨⟨h,e,f,g⟩,c,d,l,a⟩:=id o;simp only at hc hd d a;subst hc hd d a;exact concat_meets ⟨_,i,rfl⟩ ⟨_,c,rfl⟩ noFill_tuple_add seq_tuple_add PySem.F.slot_tuple_add PySem.F.entry_tuple_add (PySem.F.args_tuple_add_2 _ _) (tuple_addW0 t b #[] j.toArray n l p e m g rfl) ⟨i,c,h1⟩
end
def LI(K:PySem.W.Frag):R2:=λx y H Q=>∃ a b ys,x=.ref a/\y=.ref b/\SqT K H a []/\SqT K H b ys/\Q (.ref b) H
theorem fv:OpR X (binaryOp .Add) (LI X.K):=by
 intro pins s σ H x y v u Q I d e h;obtain⟨a,b,ys,rfl,rfl,f,i,q⟩:=h;cases d;cases e;obtain⟨g,r1,p1,_⟩:=I.tuple f;obtain⟨c,j,p2,_⟩:=I.tuple i;cases r1;exact fu p1 p2 ⟨.ref b,H,I,rfl,q⟩
def A2:RW2:=λx y G Q=>match x,y with
 | .tup xs,.tup ys=>xs.length+ys.length<=sizeLine/\Q (.tup (xs++ys)) G
 | x,y=>Bk x y G Q
theorem Gz:A2 (.tup xs) (.tup ys) G Q=(xs.length+ys.length<=sizeLine/\Q (.tup (xs++ys)) G):=rfl
theorem FX(a:¬((∃ xs,x=.tup xs)/\∃ ys,y=.tup ys)):A2 x y G Q=Bk x y G Q:=by
 cases x <;> cases y <;> first | rfl | exact absurd ⟨⟨_,rfl⟩,⟨_,rfl⟩⟩ a
theorem QX:RW2.M A2:=λx y G Q b h q=>by
 by_cases a:(∃ xs,x=.tup xs)/\∃ ys,y=.tup ys
 ·obtain⟨⟨xs,rfl⟩,⟨ys,rfl⟩⟩:=a;exact⟨q.1,h _ _ q.2⟩
 ·rw[FX a]at q ⊢;exact K8 _ _ _ _ _ h q
theorem fw:OpR X (binaryOp .Add) (λx y H Q=>((rI0 λi j=>.int (i+j)) x y H Q\/(∃ i j,x=.str i/\y=.str j/\i.length+j.length<=sizeLine/\Q (.str (i++j)) H)\/Gk x y H Q)\/LI X.K x y H Q\/KM X.K x y H Q):=OpR.or PN (OpR.or fv aC)
theorem fx{K:PySem.W.Frag}(x y:W)(v u:V)(G:Hw)(H:Hp)(Q:VK)(m:Tr K H v x)(ty:Tr K H u y)(r:RelH K H G)(q:A2 x y G (dn K H Q)):
  ((rI0 λi j=>.int (i+j)) v u H Q\/(∃ i j,v=.str i/\u=.str j/\i.length+j.length<=sizeLine/\Q (.str (i++j)) H)\/Gk v u H Q)\/LI K v u H Q\/KM K v u H Q:=by
 by_cases n:(∃ xs,x=.tup xs)/\∃ ys,y=.tup ys
 ·obtain⟨⟨xs,rfl⟩,⟨ys,rfl⟩⟩:=n;rw[Gz]at q;cases m with
  | tup f c =>
   cases ty with
   | tup h d =>
    rename_i a vs b l;cases c with
    | nil=>exact .inr (.inl ⟨a,b,l,rfl,rfl,f,h,by simpa using q.2 _ H .refl (.tup h d) r⟩)
    | cons g c =>
     refine .inr (.inr ⟨a,b,_,l,rfl,rfl,f,h,by simp,?_,λe=>?_,λe p k=>?_⟩)
     ·rw[(TrL.cons g c).length,d.length];exact q.1
     ·subst e;cases d;have:=q.2 (.ref a) H .refl (by simpa using Tr.tup f (.cons g c)) r;exact this
     ·exact q.2 _ _ (Mono.new k _) (.tup (SqT.of BS) (((TrL.cons g c).append d).mono (Mono.new k _))) (r.mono0 k)
 ·refine .inl (PP x y v u G H Q m ty r ?_);rwa [FX n]at q
theorem E6(c:Em X a ga)(d:Em X b gb):Em X (.BinOp a .Add b pos) (Ad A2 ga gb):=⟨D5 fw QX c.m d.m fx c.p d.p,CA QX c.m d.m⟩
end L3
namespace L3
open PySem PySem.Spec PyProof.Rows L2
variable {K:PySem.W.Frag}
theorem TrP.lookup{α:Type}[BEq α]:∀{vs:List (α×V)}{a:List (α×W)}{f:α}{w:W},TrP K H vs a->a.lookup f=some w->∃ v,vs.lookup f=some v/\Tr K H v w
 | _,_,_,_,.nil,e=>by cases e
 | _,_,f,w,.cons (f:=g) r t,e=>by
  rw[List.lookup_cons]at e ⊢;cases b:f==g with
  | true=>rw[b]at e;cases e;exact⟨_,rfl,r⟩
  | false=>rw[b]at e;exact t.lookup e
theorem TrP.length{α:Type}:∀{vs:List (α×V)}{a:List (α×W)},TrP K H vs a->vs.length=a.length
 | _,_,.nil=>rfl
 | _,_,.cons _ t=>congrArg (·+1) t.length
section
variable {P:Hp->Prop}{f m:Str}{C:Addr}{ex:Xw}
theorem Mono.ins(a:H p=some (.ins C dx xs))(o:HO):Mono K H (upd H p o):=Mono.was a _ (λ_ z=>by cases z) (λ_ _ z=>by cases z)
structure DfM(P:Program)(w:World)(K:PySem.W.Frag)(mg:Str->Option Value)(base:Heap)(C:Addr)(m:Str)(k n:Nat)(sp:Spw):Prop where
 ex:∃(f:Addr)(fd:FuncData)(ps:List Str),ai K C m f/\Binds K fd ps []/\ps.length=n/\FnOk P w K mg base (CXe P w) k f fd ps (Dx K sp)
 mono:sp.M
end
section
end
section
theorem DfM.le(D:DfM P w K mg base C m j n sp)(h:j<=k):DfM P w K mg base C m k n sp :=
 ⟨let⟨f,fd,ps,h1,h2,h3,F⟩:=D.ex;⟨f,fd,ps,h1,h2,h3,F.mono h⟩,D.mono⟩
variable {K:PySem.W.Frag}{H:Hp}{P:Program}{w:World}{mg:Str->Option Value}{base:Heap} in
theorem QY{m qual:Str}{st:Stmt}{f:Addr}{fd:FuncData}{N ps:List Str}{k n:Nat}{sp:Spw}{g:GS}(F:Fun K m qual st f fd)(h:ps.length=n)(S:AB N ps (Ap st))(len:∀ c G Q E,sp c G Q E->c.length=n)
  (o:∀{f:Addr}{cdv:Value}{A:Around}{outer:List Env}{s:Shared}{H:Hp}{E:XK},Room k (A.deeper (envOfC qual (Ap st) s.heap.objs.size f cdv))->Ssm (cxW P w K mg base N qual (Ap st) f cdv A outer s H E).nox (λB=>B=H) (Bv st) g)
  (ok:∀ c G(Q:Kw)(E:Addr->Hw->Prop),Kw.C Q->sp c G Q E->g (Au Q) (Bo N c) G):FnOk P w K mg base (CXe P w) (k+1) f fd ps (Dx K sp):=by
 obtain⟨v,x,kV,l,pm,y,cdv,ct,i,rfl,lk,e⟩:=F.ex;refine Gi lk e S ((by rintro vs H Q E ⟨c,G,t,r,q⟩;rw[t.length,h];exact len c G _ _ q)) λA outer s H vs Q E j d=>?_;obtain⟨c,G,t,r,q⟩:=d;have D:=o (cdv:=cdv) (outer:=outer) (H:=H) (E:=E) j;refine⟨_,(D.p H rfl).nox,Bo N c,G,Gn t,r,.refl,?_⟩;exact D.m _ _ (Au (dn K H Q)) _ (λa b z σ H2 m I u=>z _ H2 m Tr.non u) (λa b z=>z) (λa b z=>z.elim) (λa b z=>z.elim) (ok c G _ _ Gp q)
end
def isStr(o:W)(_:Hw):Prop:=∃ x,o=.str x
end L3
namespace HT
open PySem PySem.Spec PyProof.Rows
section
theorem getItem_tuple_whole{lo:Option Int}(a:IsTup s.heap t items)(hs:s.heap.IsSliceOf f vl vu .none)(pl:IsPart vl lo)(g:IsPart vu hi)(hw:sIx items.size 0 lo=0/\sIx items.size items.size hi=items.size)(h:Q (.ref t) s):wpAny (model prog w) A (getItem (.ref t) (.ref f)) Q E s:=by
 obtain⟨os,d,e,i⟩:=id hs;have c:s.TypeIs (.ref f) "slice":=⟨os,d,e⟩;unfold getItem
 try with_reducible refine wpAny_holding ?_
 first | refine Ql (Qm ?_)| skip
 refine Ql (wpAny_sequenceKey a.typeIs (by decide) ?_)
 refine Ql (wpAny_callSpecial?_slot (name:=Str.ofString "__getitem__") a.typeIs PyProof.Rows.slot_tuple_getitem
  (wpAny_call_entry PyProof.Rows.slot_tuple_getitem a.typeIs entry_tuple_getitem ?_ (args_tuple_getitem _ _)))
 show wpAny _ _ (Builtin.Tuple.tupleItemsOf (.ref t) >>=_) _ _ s;refine Ql (tupleItemsOf_ a ?_);refine Ql (wpAny_typeOf c ?_);rw[if_pos (by decide)];refine Ql (OU hs pl g ?_)
 have b:(((sIx items.size 0 lo:Nat):Int)==0&&(1:Int)==1&&(sIx items.size items.size hi - sIx items.size 0 lo)==items.size)=true:=by
  rw[hw.1,hw.2];simp
 show wpAny _ _ (if(((sIx items.size 0 lo:Nat):Int)==0&&(1:Int)==1&&(sIx items.size items.size hi - sIx items.size 0 lo)==items.size)=true then _ else _) _ _ s;rw[if_pos b];have j:=a.typeIs;unfold Builtin.Tuple.tupleIsExact
 repeat (any_goals (first | assumption | wp_step))
 exact⟨_,rfl,Qm h⟩
end
end HT
namespace L3
open PySem PySem.Spec PyProof.Rows L2
variable {K:PySem.W.Frag}{H:Hp}
def QZ(K:PySem.W.Frag):V->Option Int->Option Int->Hp->VK->Prop:=λx lo hi H Q=>∃ a xs,x=.ref a/\SqT K H a xs/\(HT.sIx xs.length 0 lo=0/\HT.sIx xs.length xs.length hi=xs.length)/\Q (.ref a) H
theorem fy:SlR X (QZ X.K):=by
 intro pins s σ H x v vl vu lo hi i Q I f hs pl g h;obtain⟨a,xs,rfl,e,hw,q⟩:=h;cases f;obtain⟨c,r,d,j⟩:=I.tuple e;have b:c.toArray.size=xs.length:=by rw[Yn];exact r.length.symm
 refine⟨"tuple",_,PyProof.Rows.slot_tuple_getitem.lookup,d.typeIs,?_⟩;exact HT.getItem_tuple_whole d hs pl g (by rw[b];exact hw) ⟨.ref a,H,I,rfl,q⟩
def Q0:V->Option Int->Option Int->Hp->VK->Prop:=λx lo hi H Q=>∃ z,x=.str z/\z.length<=sizeLine/\Q (.str (Txt.slice z lo hi)) H
theorem fz:SlR X Q0:=by
 intro pins s σ H x v vl vu lo hi n Q I g hs pl f h;obtain⟨z,rfl,e,q⟩:=h;obtain⟨t,rfl⟩:=g;obtain⟨os,a,b,c⟩:=id hs;refine⟨"str",_,F.slot_str_getitem.lookup,typeIs_str _ _ _,?_⟩;have d:∀ t' k,EP X pins σ Q (.str (Txt.slice z lo hi) t') {s with toks:=k}:=λt' k=>⟨.str _,H,I.tok k,⟨t',rfl⟩,q⟩;cases pl with
 | none =>
  cases f with
  | none=>exact wpAny_getItem_str_slice (l:=none) (u:=none) (st:=none) ⟨os,a,b,c⟩ rfl (post_val_or_str ⟨Yt (Txt.slice_le z _ _) e,d⟩)
  | int j u=>exact wpAny_getItem_str_slice (l:=none) (u:=some (j,u)) (st:=none) ⟨os,a,b,c⟩ rfl (post_val_or_str ⟨Yt (Txt.slice_le z _ _) e,d⟩)
 | int i u =>
  cases f with
  | none=>exact wpAny_getItem_str_slice (l:=some (i,u)) (u:=none) (st:=none) ⟨os,a,b,c⟩ rfl (post_val_or_str ⟨Yt (Txt.slice_le z _ _) e,d⟩)
  | int j m=>exact wpAny_getItem_str_slice (l:=some (i,u)) (u:=some (j,m)) (st:=none) ⟨os,a,b,c⟩ rfl (post_val_or_str ⟨Yt (Txt.slice_le z _ _) e,d⟩)
def slA(w:W)(lo hi:Option Int)(G:Hw)(Q:Kw):Prop:=match w with
 | .tup xs=>Q (.tup (BH xs lo hi)) G
 | .str z=>z.length<=sizeLine/\Q (.str (Txt.slice z lo hi)) G
 | w=>slW w lo hi G Q
theorem Q1{lo:Option Int}(h:∀ w d,Q w d->c w d)(q:slA w lo hi G Q):slA w lo hi G c:=by
 cases w with
 | tup xs=>exact h _ _ q
 | str z=>exact⟨q.1,h _ _ q.2⟩
 | non=>exact Qk q
 | bl b=>exact Qk q
 | int i=>exact Qk q
 | rol xs=>exact HP (w:=.rol xs) (lo:=lo) (hi:=hi) (G:=G) h q
 | ref a=>exact HP (w:=.ref a) (lo:=lo) (hi:=hi) (G:=G) h q
theorem fA{lo:Option Int}(t:Tr K H v w)(r:RelH K H G)(q:slA w lo hi G (dn K H Q)):((KJ K v lo hi H Q\/KR K v lo hi H Q)\/QZ K v lo hi H Q)\/Q0 v lo hi H Q:=by
 cases t with
 | tup h l =>
  rename_i a vs c;by_cases hw:HT.sIx c.length 0 lo=0/\HT.sIx c.length c.length hi=c.length
  ·refine .inl (.inr ⟨a,vs,rfl,h,by rw[l.length];exact hw,?_⟩);refine q _ H .refl ?_ r;have e:BH c lo hi=c:=by unfold BH;rw[hw.1,hw.2];simp
   rw[e];exact .tup h l
  ·exact .inl (.inl (HQ (.tup h l) r ⟨hw,q⟩))
 | str z=>exact .inr ⟨z,rfl,q.1,q.2 _ H .refl (.str _) r⟩
 | non=>exact Qk q
 | bl b=>exact Qk q
 | int i=>exact Qk q
 | rol h l=>exact .inl (.inl (HQ (.rol h l) r q))
 | ref a=>exact .inl (.inl (HQ (.ref a) r q))
section
variable {ga:GE}
def Bn(ga:GE)(gl gh:GO):GE:=λω G Q=>ga ω G λw G1=>gl ω G1 λlo G2=>gh ω G2 λhi G3=>slA w lo hi G3 Q
theorem fB{lo:Option Expr}(d:Em X e ga)(hl:Om X lo o)(f:Om X hi gh):Em X (.Subscript e (.Slice lo hi none p2) pos) (Bn ga o gh):=
 ⟨A7 (OV (SlR.or (SlR.or (SlR.or OX O0) fy) fz) d.p hl.p f.p) λσ H Q⟨ω,G,c,r,q⟩=>⟨ω,G,c,r,d.m _ _ _ _ (λw n z v H1 g t r1=>⟨ω,n,c.mono g,r1,hl.m _ _ _ _ (λl j a H2 b y=>
   ⟨ω,j,(c.mono g).mono b,y,f.m _ _ _ _ (λh x i B k s=>fA ((t.mono b).mono k) s (Q1 (λw D z=>Cj ((g.trans b).trans k) z) i)) a⟩) z⟩) q⟩,
  λω G Q A h q=>d.m _ _ _ _ (λw n z=>hl.m _ _ _ _ (λl j a=>f.m _ _ _ _ (λu x i=>Q1 h i) a) z) q⟩
end
theorem StrsAre.len:∀{vs:List Value}{ys:List Str},StrsAre vs ys->vs.length=ys.length
 | _,_,.nil=>rfl
 | _,_,.cons _ _ r=>congrArg (·+1) (StrsAre.len r)
section
end
def B0:RW2:=λx y G Q=>match x,y with
 | .int i,.int j=>CMul i j/\Q (.int (i*j)) G
 | .str x,.int n=>MulOk x n/\Q (.str (Txt.mul x n)) G
 | .ref a,.int k=>(match G a with
  | some (.lst xs)=>-(2 ^ 63)<=k/\k < 2 ^ 63/\xs.length*k.toNat<=sizeLine/\∀ p,G p=none->Q (.ref p) (put G p (.lst (List.replicate k.toNat xs).flatten))
  | _=>False)
 | _,_=>False
theorem Q2:RW2.M B0:=λx y G Q c h q=>by
 cases x <;> cases y <;> first | exact q | exact⟨q.1,h _ _ q.2⟩| skip
 rename_i a k;unfold B0 at q ⊢;dsimp only at q ⊢;cases e:G a with
 | none=>rw[e]at q;exact q
 | some o =>
  rw[e]at q;cases o <;> first | exact q | exact⟨q.1,q.2.1,q.2.2.1,λp b=>h _ _ (q.2.2.2 p b)⟩
def Q3:R2:=λx y H Q=>∃ z n,x=.str z/\y=.int n/\MulOk z n/\Q (.str (Txt.mul z n)) H
theorem fC:OpR X (binaryOp .Mult) Q3:=by
 intro pins s σ H x y v u Q I a b h;obtain⟨z,n,rfl,rfl,ok,q⟩:=h;obtain⟨t,rfl⟩:=a;obtain⟨c,rfl⟩:=b;exact SB.mul ok λt' k=>⟨.str _,H,I.tok k,⟨t',rfl⟩,q⟩
theorem TrL.rep(t:TrL K H vs a):∀ k:Nat,TrL K H (List.replicate k vs).flatten (List.replicate k a).flatten
 | 0=>.nil
 | k+1=>by
  rw[List.replicate_succ,List.replicate_succ,List.flatten_cons,List.flatten_cons];exact t.append (t.rep k)
theorem fD(x y:W)(v u:V)(G:Hw)(H:Hp)(Q:VK)(f:Tr K H v x)(ty:Tr K H u y)(r:RelH K H G)(q:B0 x y G (dn K H Q)):(rI CMul λi j=>.int (i*j)) v u H Q\/Q3 v u H Q\/O4 v u H Q:=by
 cases f with
 | int i=>cases ty <;> first | exact q.elim | exact .inl ⟨_,_,rfl,rfl,q.1,q.2 _ H .refl (.int _) r⟩
 | str z=>cases ty <;> first | exact q.elim | exact .inr (.inl ⟨_,_,rfl,rfl,q.1,q.2 _ H .refl (.str _) r⟩)
 | ref a =>
  cases ty <;> try exact q.elim
  unfold B0 at q;dsimp only at q;cases b:G a with
  | none=>rw[b]at q;exact q.elim
  | some g =>
   rw[b]at q;cases g <;> try exact q.elim
   obtain⟨vs,e,d⟩:=r a _ b;exact .inr (.inr ⟨a,_,vs,rfl,rfl,e,q.1,q.2.1,by rw[d.length];exact q.2.2.1,λp c=>q.2.2.2 p (r.no c) _ _ (Mono.new c _) (.ref p) (r.new c (d.rep _))⟩)
 | _=>exact q.elim
theorem fE(c:Em X a ga)(d:Em X b gb):Em X (.BinOp a .Mult b pos) (Ad B0 ga gb):=⟨D5 (OpR.or OI (OpR.or fC aW)) Q2 c.m d.m fD c.p d.p,CA Q2 c.m d.m⟩
theorem HS(I:X.N.Nodup)(o:X.N[i]?=some x)(F:FN X.env.scope x=true)(h:swapsWith (.ListComp elt [⟨tg,iter,ifs,0⟩] scope pos) (some (.Name x pos')) a.line X.env=pure true)(hc:X.calm=true)(B:Blk X Nc scope cl (Bc n js))(hs:∀ x,foldedSetIterable iter X.env x=pure x)(hi:Im X tg iter gi)(b:TgC X Nc scope cl tg y)(A:∀ C fp s H,Fm (cxB X Nc scope cl C fp s H) ifs gt)(E:∀ C fp s H,Em (cxB X Nc scope cl C fp s H) elt ge):
  Sm X P (.Assign [.Name x pos'] (.ListComp elt [⟨tg,iter,ifs,0⟩] scope pos) a) (Ao i (AO gi n js y gt ge)):=by
 have c:gt.M:=(A 0 [] X.s₀ X.H₀).m;have d:ge.M:=(E 0 [] X.s₀ X.H₀).m;refine⟨λJ Q=>?_,K3 (LC hi.m b.mono c d)⟩;obtain⟨L,k,j⟩:=hi.p;obtain⟨g,f,e⟩:=b.ex;refine C1 (bw (tt:=upT X.K gt) (te:=up X.K ge) I o (FO F) h hc k B f (λC fp s H=>(A C fp s H).p) (λC fp s H=>(E C fp s H).p) hs) λD σ H l=>?_;obtain⟨ω,G,u,r,mb,q⟩:=l;refine QV j e b.mono c d σ H _ ⟨ω,G,u,r,LC hi.m b.mono c d _ _ _ _ (λw O z v H1 m t r1=>?_) q⟩;exact z _ H1 (mb.trans m) ((u.mono m).set i t) r1
section
variable {H:Hp}{X:Cx}{k:Nat}{f:Addr}{x:Str}{pos:Pos}{e:Expr} in
theorem fF{E:Value->Shared->Prop}{pins:List (Addr×Obj)}{s:Shared}{σ:St}{H:Hp}{i:Nat}{x:Str}{v:V}{pos:Pos}{Q:Value->Shared->Prop}(I:Inv X pins σ H s)(j:X.N[i]?=some x)(k:Vis X.env.scope x)(e:σ[i]?=some (some v))(hd:(x==("__debug__":Str))=false)(f:(x==("__classdict__":Str))=false)
  (b:∀ u,RelV v u->Q u s):wpAny (model X.prog X.w) X.A (eval (.Name x pos) X.env) Q E s:=by
 obtain⟨m,g,hl⟩:=I.loc;obtain⟨u,r,l⟩:=hl i x v j e k;rcases l with⟨d,h⟩|⟨d,c,hc,a⟩
 ·exact wpAny_Name (wpAny_loadName_local I.ok.kind d g h (b u r)) hd
 ·rcases d with d | d
  ·exact wpAny_Name (wpAny_loadName_cell I.ok.kind d hc a (b u r)) hd
  ·exact wpAny_Name (wpAny_loadName_free I.ok.kind d hc a (b u r) f) hd
theorem fG{Eσ:St->XK}{i:Nat}(F:FnOk X.prog X.w X.K X.mg X.base CX k f fd ps sp)(z:Room k X.A)(v:X.N[i]?=some x)(y:Vis X.env.scope x)(E:PySem.W.keepIn X.K (.ref f)=true)(J:Binds X.K fd ps [])(n:Gm CX X Eσ)(B:PA X (e::es) t)(j:(x==("__debug__":Str))=false)(l:(x==("__classdict__":Str))=false)(o:starEach (e::es) X.env=(false,eval e X.env)::starEach es X.env)(d:(backTo pos (starEach es X.env)).any (·.1)=false):
  PE X (.Call (.Name x p) (e::es) [] pos) (λσ H Q=>σ[i]?=some (some (.ref f))/\Pn sp [] Eσ t σ H Q):=by
 intro pins s σ H Q I ⟨hi,h⟩;refine wpAny_Call_Name_kw (fF I v y hi j l λu D=>?_);cases D;refine PySem.W.callWith_K (h₀:=X.base) I.ok.mod.kin E (thn (B pos pins s σ H _ I h) λa g⟨vs,H1,c,r,q⟩=>⟨c.kIn,?_⟩) o d;have m:Vals (vs++[]) (a++[]):=r.append .nil;have hl:(a++[]).length=ps.length:=by rw[<- m.length];exact F.len _ _ _ _ q
 refine wpAny_call (codeAny_mono (F.run X.A X.stack g H1 ⟨a,[]⟩ (a++[]) (vs++[]) Q (Eσ σ) z c.env0 (J g a c.kIn hl) m q) λr s' b=>?_);cases r with
 | error e=>exact n pins σ H1 g e s' c b
 | ok G =>
  cases G with
  | ret u=>exact c.after b
  | next=>exact Qk b
  | brk=>exact Qk b
  | cont=>exact Qk b
end
def fAt(mg:Str->Option Value)(x:Str):Addr:=match mg x with | some (.ref f)=>f | _=>0
theorem Q4(h:mg x=some (.ref f)):fAt mg x=f:=by unfold fAt;rw[h]
section
variable {gs:GA}{ex:Xw}
def DD(i:Nat)(f:Addr)(sp:Spw)(ex:Xw)(gs:GA):GE:=λω G Q=>ω[i]?=some (some (.ref f))/\gs ω G λws G1=>sp ws G1 Q (ex ω)
theorem fH(m:sp.M)(a:gs.M):GE.M (DD i f sp ex gs):=λω G Q b h q=>⟨q.1,a _ _ _ _ (λd c q1=>m _ _ _ _ _ _ h (λ_ _ z=>z) q1) q.2⟩
theorem fI(D:Df X.prog X.w X.K X.mg X.base y k n sp)(J:Room k X.A)(m:X.N[i]?=some x)(u:Vis X.env.scope x)(t:D6 X ex)(s:gs.M)(L:PAw X (e::es) gs)(g:(x==("__debug__":Str))=false)(h:(x==("__classdict__":Str))=false)(P:starEach (e::es) X.env=(false,eval e X.env)::starEach es X.env)(c:(backTo pos (starEach es X.env)).any (·.1)=false):
  PEw X (.Call (.Name x p) (e::es) [] pos) (DD i (fAt X.mg y) sp ex gs):=by
 obtain⟨f,fd,ps,B,O,S,_,F⟩:=D.ex;rw[Q4 B];refine A7 (fG F J m u O S t L g h P c) λσ H Q d=>?_;obtain⟨ω,G,b,r,q0,q⟩:=d;obtain⟨v,ev,tv⟩:=b.get i _ q0;cases tv;refine⟨ev,ω,G,b,r,s _ _ _ _ (λR I q1 vs H1 l a r1=>?_) q⟩;refine⟨R,I,by rw[Yx];exact a,r1,D.mono _ _ _ _ _ _ (λw j z=>Cj l z) (λC j z H2 E o=>?_) q1⟩;exact⟨C,ω,j,rfl,(b.mono l).mono E,o,z⟩
theorem Q5(D:Df X.prog X.w X.K X.mg X.base y k n sp)(h:Room k X.A)(hi:place X.N x=some i)(j:seen X.env.scope x=true)(f:D6 X ex)(b:(x==("__debug__":Str))=false)(c:(x==("__classdict__":Str))=false)(g:starEach (e::es) X.env=(false,eval e X.env)::starEach es X.env)(a:(backTo pos (starEach es X.env)).any (·.1)=false)(d:Am X (e::es) gs):Em X (.Call (.Name x p) (e::es) [] pos) (DD i (fAt X.mg y) sp ex gs):=⟨fI D h (PU hi) (PV j) f d.m d.p b c g a,fH D.mono d.m⟩
theorem HU(D:Df X.prog X.w X.K X.mg X.base x k n sp)(b:Gl X x)(hd:(x==("__debug__":Str))=false):Em X (.Name x pos) (gC (.ref (fAt X.mg x))):=by
 obtain⟨f,fd,ps,a,c,d,_,F⟩:=D.ex;rw[Q4 a];exact⟨Ps (v:=.ref f) b a rfl (λH=>.ref f) hd,FL⟩
end
end L3
namespace L3
open PySem PySem.Spec PyProof.Rows L2
theorem fJ(h:n < 128):(SetTable.sizeAbove n=8\/SetTable.sizeAbove n=16\/SetTable.sizeAbove n=32\/SetTable.sizeAbove n=64\/SetTable.sizeAbove n=128)/\n < SetTable.sizeAbove n:=by
 have:∀ m:Fin 128,(SetTable.sizeAbove m.1=8\/SetTable.sizeAbove m.1=16\/SetTable.sizeAbove m.1=32\/SetTable.sizeAbove m.1=64\/SetTable.sizeAbove m.1=128)/\m.1 < SetTable.sizeAbove m.1:=by decide +kernel
 exact this ⟨n,h⟩
theorem Q6(h:n < 128):Tb.cover (SetTable.sizeAbove n - 1+1)=true/\n < SetTable.sizeAbove n/\SetTable.sizeAbove n<=128:=by
 obtain⟨h1,h2⟩:=fJ h;rcases h1 with e | e | e | e | e <;> rw[e]at h2 ⊢
 ·exact⟨Tb.cover8,h2,by decide⟩
 ·exact⟨Tb.cover16,h2,by decide⟩
 ·exact⟨Tb.cover32,h2,by decide⟩
 ·exact⟨Tb.cover64,h2,by decide⟩
 ·exact⟨Tb.cover128,h2,by decide⟩
theorem Q7{t:SetTable}(h1:t.place.size=n)(h2:t.dummies=#[])(a:n<=t.mask):t.fits n=true:=by
 unfold SetTable.fits SetTable.fill;rw[h2,h1];simp;exact a
section
theorem Q8(T:Tab w es t ks)(hc:Tb.cover (mask+1)=true)(o:ks.length<=mask)(hl:bt w=false->l=true)(j:p=true->ks=[]):
  ∃ t' a,SetTable.laid mask f m l p (es.map (·.1))=some (t',a)/\(a.filterMap (es[·]?)).size=es.size/\Tab w (a.filterMap (es[·]?)) t' ks:=by
 have q:=T.len;obtain⟨t',a,e,c,i,g,n,k,h⟩:=Tb.laid_ok hc f m l p (es.map (·.1)) (by rw[Array.size_map];lia);rw[Array.size_map]at c g;have d:=Tb.order_perm es a c;have b:(a.filterMap (es[·]?)).size=es.size:=by rw[<- YV,d.length_eq,YV]
 refine⟨t',a,e,b,T.perm d ?_ (λz=>by rw[k];exact hl z) λz=>j (by rw[<- h];exact z)⟩;rw[b];exact Q7 g n (by rw[i];lia)
theorem fK(g:SS w s.heap a ks)(i:n < 128)(r:ks.length<=n)(h:∀ h',Heap.SameBut a s.heap h'->SS w h' a ks->Q () {s with heap:=h'}):wpAny (model prog w) A (setRelay a n) Q E s:=by
 obtain⟨o,es,q,t,d,j,hd,T⟩:=g;obtain⟨hc,h1,h2⟩:=Q6 i;have u:=T.len;unfold setRelay;refine Ql (wpAny_setState_of d hd T.ft ?_);dsimp only
 rw[if_neg (by have:(128:Nat)<=sizeLine:=by decide
               lia)]
 obtain⟨t',b,e,c,k⟩:=Q8 (f:=t.finger) (m:=t.movedTo (SetTable.sizeAbove n - 1)) (l:=t.led) (p:=t.plain) T hc (by lia) T.ld T.pl;refine Ql ?_;unfold SetTable.relaid;rw[e];show wpAny (model prog w) A (if((b.filterMap (es[·]?)).size != es.size)=true then _ else pure (b.filterMap (es[·]?),t')) _ E s;rw[if_neg (by rw[c];simp)];refine Qm (wpAny_storeSet_of d hd ?_ (fits_of_scanBound (by rw[c];unfold scanBound;lia)));exact h _ (Qr s.heap a _) (FK d j hd k).2
theorem fL(c:SS w s.heap a ks)(f:ks.length+n < 64)(h:∀ h',Heap.SameBut a s.heap h'->SS w h' a ks->Q () {s with heap:=h'}):wpAny (model prog w) A (setRoomFor a n) Q E s:=by
 have b:=c;obtain⟨o,es,j,t,d,g,hd,T⟩:=c;have k:=T.len;unfold setRoomFor;refine Ql (wpAny_setState_of d hd T.ft ?_)
 have i:t.place.size=es.size:=by
  have:=T.ft;unfold SetTable.fits at this;simp only[YG,beq_iff_eq]at this;exact this.1
 dsimp only;unfold SetTable.roomFor;split
 ·rename_i v e;split at e
  ·cases e;exact fK b (by lia) (by lia) h
  ·cases e
 ·exact Qm (h s.heap (Heap.SameBut.refl a s.heap) b)
end
theorem LJ{α:Type}:∀(l:List α)(i:Nat)(h:i < l.length),(l[i]::l.eraseIdx i).Perm l
 | a::l,0,h=>List.Perm.refl _
 | a::l,i+1,h=>by
  have h':i < l.length:=Nat.lt_of_succ_lt_succ h;exact(List.Perm.swap a (l[i]'h') (l.eraseIdx i)).trans ((LJ l i h').cons a)
theorem Q9{α:Type}(next:Nat->Nat):∀(n k:Nat)(a:List α)(out:Array α),a.length=n->(pickOrder.go next n k a out).toList.Perm (out.toList++a)
 | 0,k,a,out,h=>by
  obtain rfl:=Qi.mp h;rw[Yx];exact List.Perm.refl _
 | n+1,k,a,out,h=>by
  have b:next k % a.length < a.length:=Nat.mod_lt _ (by lia)
  unfold pickOrder.go;rw[Yp b];dsimp only;refine(Q9 next n (k+1) _ _ (by rw[List.length_eraseIdx_of_lt b];lia)).trans ?_;rw[Array.toList_push,Yv];refine List.Perm.append_left _ ?_;exact LJ a _ b
theorem Ra{α:Type}(next:Nat->Nat)(xs:Array α):(pickOrder next xs).toList.Perm xs.toList:=by
 have:=Q9 next xs.size 0 xs.toList #[] (by simp)
 unfold pickOrder;simpa using this
section
theorem LK{Q:Option Bool×Unit->Shared->Prop}{f:Int×Value->Option Bool×Unit->Sem (ForInStep (Option Bool×Unit))}(a:∀ e,(∃ x u,e=(hashStr w x,Value.str x u))->f e (none,())=pure (ForInStep.yield (none,()))):
  ∀(l:List (Int×Value)),(∀ e∈l,∃ x u,e=(hashStr w x,Value.str x u))->Q (none,()) s->wpAny (model prog w) A (forIn l (none,()) f) Q E s
 | [],_,q=>Qm q
 | e::l,h,q=>by
  rw[List.forIn_cons,a e (h e Ye)];exact Ql (Qm (LK a l (λx b=>h x (Yd _ b)) q))
theorem fM(l:SS w s.heap a i)(m:SS w s.heap b kb)(q:Q true s):wpAny (model prog w) A (setsQuiet [a,b]) Q E s:=by
 obtain⟨r,j,pa,ta,h,n,hd,T⟩:=l;obtain⟨p,eb,o,tb,d,k,c,g⟩:=m;have hyield:∀ e:Int×Value,(∃ x u,e=(hashStr w x,Value.str x u))->True:=λ_ _=>trivial;unfold setsQuiet;refine Ql ?_;rw[List.forIn_cons];refine Ql (Ql (wpAny_setEntries_of h hd T.ft ?_));rw[<- Array.forIn_toList];refine Ql (LK (w:=w) (λe f=>?_) j.toList T.el (Qm ?_))
 ·obtain⟨x,u,rfl⟩:=f;rfl
 dsimp only;rw[List.forIn_cons];refine Ql (Ql (wpAny_setEntries_of d c g.ft ?_));rw[<- Array.forIn_toList];refine Ql (LK (w:=w) (λe f=>?_) eb.toList g.el (Qm ?_))
 ·obtain⟨x,u,rfl⟩:=f;rfl
 dsimp only;rw[List.forIn_nil];exact Qm (Qm q)
theorem fN(j:s.heap.get? o=some g)(p:g.ExactSet)(hd:g.data=.set es ep t)(T:Tab w es t q)(e:SS w s.heap f ks)(r:ks.length < scanBound)(h:∀ h' l,Heap.SameBut f s.heap h'->SS w h' f ks->l.toList.Perm es.toList->Q l {s with heap:=h'}):wpAny (model prog w) A (setWalkUnseen o [f] (some f)) Q E s:=by
 have u:=T.len
 have d:bt w=true\/es.size<=1->wpAny (model prog w) A (setWalk o) Q E s:=λhw=>by
  unfold setWalk;refine Ql (wpAny_setState_of j hd T.ft ?_);dsimp only;unfold setsByText;walk_at "pc";show wpAny (model prog w) A (if bt w=true then _ else _) Q E s;by_cases c:bt w=true
  ·rw[if_pos c];exact Ql (wpAny_askSetting (Qm (h s.heap _ (Heap.SameBut.refl _ _) e (Ra _ _))))
  ·rw[if_neg c];have h1:es.size<=1:=hw.resolve_left c;show wpAny (model prog w) A (if(!t.plain&&decide (es.size > 1))=true then _ else _) Q E s
   rw[if_neg (by have:¬ es.size > 1:=by lia
                 simp[this])]
   refine Ql ?_;show wpAny (model prog w) A (if(!t.led&&decide (es.size > 1))=true then _ else pure ()) _ E s
   rw[if_neg (by have:¬ es.size > 1:=by lia
                 simp[this])]
   exact Qm (Qm (h s.heap _ (Heap.SameBut.refl _ _) e (List.Perm.refl _)))
 unfold setWalkUnseen;refine Ql (wpAny_setState_of j hd T.ft ?_);dsimp only;unfold setsByText;walk_at "pc";show wpAny (model prog w) A (if(bt w||t.led&&t.plain||decide (es.size<=1))=true then _ else _) Q E s;by_cases hc:(bt w||t.led&&t.plain||decide (es.size<=1))=true
 ·rw[if_pos hc];refine d ?_;simp only[Bool.or_eq_true,YG,YS]at hc;rcases hc with(hc | hc)| hc
  ·exact .inl hc
  ·have:=T.pl hc.2;subst this;exact .inr (by rw[u];decide)
  ·exact .inr hc
 ·rw[if_neg hc];simp only[Bool.or_eq_true,YG,YS,not_or]at hc;have c:bt w=false:=by simpa using hc.1.1
  refine Ql (fM ⟨g,es,ep,t,j,p,hd,T⟩ e ?_);rw[if_neg (by decide)];refine Ql (wpAny_rule ?_);have m:=e;obtain⟨of,x,v,i,b,k,a,Tf⟩:=e;refine Ql (wpAny_setState_of b a Tf.ft ?_);dsimp only;split
  ·refine Ql (wpAny_storeSet_of b a ?_ ?_)
   ·refine Qm (h _ _ (Qr s.heap f _) (FK b k a (Tf.perm (List.Perm.refl _) ?_ (λ_=>?_) λz=>?_)).2 (List.Perm.refl _))
    ·cases i;exact Tf.ft
    ·show(i.led&&t.led)=true;rw[Tf.ld c,T.ld c];rfl
    ·refine Tf.pl ?_;have n:(i.plain&&t.plain)=true:=z;simp only[YG]at n;exact n.1
   ·exact fits_of_scanBound (by rw[Tf.len];exact r)
  ·exact Qm (h _ _ (Heap.SameBut.refl _ _) m (List.Perm.refl _))
theorem Rb(i:o≠a)(hd:n.data=.set es ep t)(F:t.fits es.size=true)(G:∀(s':Shared)(D:Unit->Shared->Prop),s'.heap.get? o=some n->D () s'->wpAny (model prog w) A d D E s')(c:∀ x u,f (hashStr w x,Value.str x u) PUnit.unit=(do let _ <- holding [Value.str x u] (setAddHashed a (Value.str x u) (hashStr w x));d;let r <- setState o;if(r.2.1 != ep)=true then(do unsupported "set.changed-during-merge";pure (ForInStep.yield PUnit.unit))else pure (ForInStep.yield PUnit.unit))):
  ∀(l:List (Int×Value))(s:Shared)(ks:List Str)(Q:PUnit->Shared->Prop),(∀ e∈l,∃ x u,e=(hashStr w x,Value.str x u))->s.heap.get? o=some n->SS w s.heap a ks->ks.length+l.length < scanBound->
   (∀ h' ks',Heap.SameBut a s.heap h'->SS w h' a ks'->(∀ x,x∈ks'↔x∈ks\/x∈l.map λe=>strOf e.2)->Q PUnit.unit {s with heap:=h'})->wpAny (model prog w) A (forIn l PUnit.unit f) Q E s
 | [],s,ks,Q,_,_,v,_,h=>Qm (h s.heap ks (Heap.SameBut.refl _ _) v λx=>⟨.inl,λz=>z.elim id λz=>by cases z⟩)
 | e::l,s,ks,Q,m,L,v,J,h=>by
  obtain⟨x,u,rfl⟩:=m e Ye;simp only[Yg]at J;rw[List.forIn_cons,c x u];refine Ql (Ql (wpAny_holding (Pf v (by lia) λh1 b k q=>?_)));have g:h1.get? o=some n:=by rw[k.2 o i];exact L
  refine Ql (G _ _ g (Ql (wpAny_setState_of g hd F ?_)));rw[if_neg (by simp)];refine Qm (Rb i hd F G c l _ _ Q (λy I=>m y (Yd _ I)) g q (by split <;>(try rw[Yg]) <;> lia) λh2 ks' j B H=>?_);refine h h2 ks' (k.trans j) B λy=>(H y).trans ?_;rw[Ym,Yo];show _↔y∈ks\/y=x\/_
  have K:y∈(if x∈ks then ks else x::ks)↔y∈ks\/y=x:=by
   split
   ·rename_i p;exact⟨.inl,λz=>z.elim id λe=>e▸p⟩
   ·rw[Yo];exact⟨λz=>z.elim .inr .inl,λz=>z.elim .inr .inl⟩
  rw[K,or_assoc]
end
section
structure Bare(led:Bool)(n:Nat)(t:SetTable):Prop where
 pl:t.place=#[]
 dm:t.dummies=#[]
 cv:Tb.cover (t.mask+1)=true
 rm:n<=t.mask
 ld:t.led=led
theorem Bare.fits(B:Bare led n t):t.fits 0=true:=Q7 (by rw[B.pl];rfl) B.dm (YX _)
theorem fO(f:s.heap.get? a=some (BU led))(p:n < 32)(h:∀ h' ep t,Heap.SameBut a s.heap h'->h'.get? a=some {BU led with data:=.set #[] ep t}->Bare led n t->Q () {s with heap:=h'}):wpAny (model prog w) A (setRoomFor a n) Q E s:=by
 unfold setRoomFor;refine Ql (wpAny_setState_of f rfl rfl ?_);show wpAny (model prog w) A (match(if(0+n)*5>=7*3 then some ((0+n)*2)else none)with | some v=>setRelay a v | _=>pure ()) Q E s;by_cases hc:(0+n)*5>=7*3
 ·rw[if_pos hc];obtain⟨c,h1,h2⟩:=Q6 (n:=(0+n)*2) (by lia);dsimp only;unfold setRelay;refine Ql (wpAny_setState_of f rfl rfl ?_);dsimp only
  rw[if_neg (by have:(128:Nat)<=sizeLine:=by decide
                lia)]
  obtain⟨t',b,e,g,i,k,m,l,o⟩:=Tb.laid_ok c (SetTable.fresh 0 0 led).finger ((SetTable.fresh 0 0 led).movedTo (SetTable.sizeAbove ((0+n)*2) - 1)) (SetTable.fresh 0 0 led).led (SetTable.fresh 0 0 led).plain (Array.map (·.1) (#[]:Array (Int×Value))) (by simp);refine Ql ?_;unfold SetTable.relaid;rw[e]
  have d:b=#[]:=by
   have:=g.length_eq;simp at this;exact this
  subst d;show wpAny (model prog w) A (pure ((#[]:Array Nat).filterMap ((#[]:Array (Int×Value))[·]?),t')) _ E s;refine Qm (wpAny_storeSet_of f rfl ?_ (YX _));refine h _ 1 t' (Qr s.heap a _) ?_ ⟨?_,m,by rw[i];exact c,by rw[i];lia,l⟩
  ·have j:=Qs (Obj.putSet #[] t') f (by rw[putSet_of #[] t' rfl];rfl);rw[putSet_of #[] t' rfl]at j;exact j
  ·exact Array.eq_empty_of_size_eq_zero (by rw[k];simp)
 ·rw[if_neg hc];exact Qm (h s.heap 0 _ (Heap.SameBut.refl _ _) f ⟨rfl,rfl,Tb.cover8,by show n<=7;lia,rfl⟩)
theorem Rc(u:o≠a)(v:s.heap.get? a=some (BU led))(hl:bt w=false->led=true)(F:SS w s.heap o i)(K:i.length < 32)(h:∀ h',Heap.SameBut a s.heap h'->SS w h' a i->(i=[]->h'.get? a=some (BU led))->Q () {s with heap:=h'}):wpAny (model prog w) A (setMerge a o p) Q E s:=by
 obtain⟨L,es,J,t,H,I,hd,T⟩:=F;have y:=T.len;unfold setMerge;rw[if_neg (by simp only[beq_iff_eq];exact λz=>u z.symm)];refine Ql (wpAny_setState_of H hd T.ft ?_);dsimp only;by_cases d:es.isEmpty=true
 ·rw[if_pos d]
  have:i=[]:=by
   rw[Array.isEmpty_iff]at d;subst d;exact Qi.mp y.symm
  subst this;exact Qm (h s.heap (Heap.SameBut.refl _ _) (Pg led hl v) λ_=>v)
 ·rw[if_neg d]
  have r:i≠[]:=λz=>by
   subst z;exact d (by rw[Array.isEmpty_iff];exact Array.eq_empty_of_size_eq_zero y)
  refine Ql (fO v (by lia) λh1 D j l b B=>?_);refine Ql (wpAny_setState_of b rfl B.fits ?_);dsimp only;have q:bt w=false->(j.led&&t.led)=true:=λz=>by rw[B.ld,hl z,T.ld z];rfl
  have n:(j.plain&&t.plain)=true->i=[]:=λz=>by
   simp only[YG]at z;exact T.pl z.2
  have g:(j.fill != 0)=false:=by unfold SetTable.fill;rw[B.pl,B.dm];rfl
  unfold SetTable.road;rw[g];simp only[Yq,if_false];by_cases x:(j.mask==t.mask&&t.dummies.isEmpty)=true
  ·rw[if_pos x];dsimp only;refine wpAny_storeSet_of b rfl ?_ (fits_of_scanBound (by unfold scanBound;lia));refine h _ (l.trans (Qr h1 a _)) (FK b ⟨rfl,rfl,rfl⟩ rfl (T.perm (List.Perm.refl _) ?_ q n)).2 λz=>absurd z r;have:=T.ft;cases t;exact this
  ·rw[if_neg x];dsimp only;obtain⟨t',c,e,k,G⟩:=Q8 (f:=j.finger) (m:=j.moves) T B.cv (by have:=B.rm;lia) q n;refine Ql ?_;rw[e];show wpAny (model prog w) A (if((c.filterMap (es[·]?)).size != es.size)=true then _ else pure (c.filterMap (es[·]?),t')) _ E _;rw[if_neg (by rw[k];simp)];refine Qm (wpAny_storeSet_of b rfl ?_ (fits_of_scanBound (by rw[k];unfold scanBound;lia)));exact h _ (l.trans (Qr h1 a _)) (FK b ⟨rfl,rfl,rfl⟩ rfl G).2 λz=>absurd z r
theorem fP(b:o≠a)(O:ks≠[])(K:SS w s.heap a ks)(L:SS w s.heap o r)(Y:ks.length+r.length < 64)(I:∀ j,s.heap.get? o=some j->∀(s':Shared)(J:Unit->Shared->Prop),s'.heap.get? o=some j->J () s'->wpAny (model prog w) A f J E s')(h:∀ h' ks',Heap.SameBut a s.heap h'->SS w h' a ks'->(∀ x,x∈ks'↔x∈ks\/x∈r)->Q () {s with heap:=h'}):wpAny (model prog w) A (setMerge a o f) Q E s:=by
 obtain⟨j,es,X,t,H,v,hd,T⟩:=L;have R:=T.len;have I:=I j H;unfold setMerge;rw[if_neg (by simp only[beq_iff_eq];exact λz=>b z.symm)];refine Ql (wpAny_setState_of H hd T.ft ?_);dsimp only;by_cases c:es.isEmpty=true
 ·rw[if_pos c]
  have:r=[]:=by
   rw[Array.isEmpty_iff]at c;subst c;exact Qi.mp R.symm
  subst this;exact Qm (h s.heap ks (Heap.SameBut.refl _ _) K λx=>⟨.inl,λz=>z.elim id λz=>by cases z⟩)
 ·rw[if_neg c];refine Ql (fL K (by lia) λh1 n q=>?_);have m:=q;obtain⟨Z,U,pa,ta,B,P,G,Ta⟩:=q;refine Ql (wpAny_setState_of B G Ta.ft ?_);dsimp only
  have g:(ta.fill != 0)=true:=by
   have i:=Ta.ft;unfold SetTable.fits at i;simp only[YG,beq_iff_eq]at i;have hl:=Ta.len;have:ks.length≠0:=λz=>O (Qi.mp z);unfold SetTable.fill;simp only[bne_iff_ne,ne_eq];lia
  unfold SetTable.road;rw[g];simp only[if_true];have p:h1.get? o=some j:=by rw[n.2 o b];exact H
  refine Ql (fN p v hd T m (by unfold scanBound;lia) λh2 l d y i=>?_);have D:h2.get? o=some j:=by rw[d.2 o b];exact p
  rw[<- Array.forIn_toList];refine Ql (Rb b hd T.ft I (λx u=>rfl) l.toList _ ks _ (λe N=>T.el e (i.mem_iff.mp N)) D y ?_ λS ks' k F v=>?_)
  ·have hl:l.toList.length=es.size:=i.length_eq.trans YV;rw[hl];unfold scanBound;lia
  ·refine Qm (h S ks' ((n.trans d).trans k) F λx=>(v x).trans ?_);rw[((i.map _).trans T.pm).mem_iff]
end
theorem fQ:entryFor table "set.__or__"=some Builtin.«frozenset.__or__»:=entryFor_alias (id':="frozenset.__or__") (by kernel_rfl) rfl (by decide +kernel) (by kernel_rfl)
section
theorem SS.ty{s:Shared}(S:SS w s.heap a ks):s.TypeIs (.ref a) "set":=by
 obtain⟨o,es,d,t,b,c,_⟩:=S;exact⟨o,b,c.1⟩
theorem LN(b:s.TypeIs (.ref a) "set")(q:Q true s):wpAny (model prog w) A (Builtin.Frozenset.isAnySet (.ref a)) Q E s:=by
 unfold Builtin.Frozenset.isAnySet;refine Ql (wpAny_isInstance b sub_set_self ?_);exact Qm q
theorem SS.new{s:Shared}(S:SS w s.heap a ks)(o:Obj):SS w (s.heap.push o) a ks:=S.kept λ_ e=>Qn _ e
theorem SS.lt{s:Shared}(S:SS w s.heap a ks):a < s.heap.objs.size:=by
 obtain⟨o,es,c,t,b,_⟩:=S;exact Qo b
theorem SS.same(S:SS w h a ks)(c:a≠b)(d:Heap.SameBut b h h'):SS w h' a ks:=S.kept λo e=>by rw[d.2 a c];exact e
theorem fR{s:Shared}(y:a≠b)(l:SS w s.heap a q)(n:SS w s.heap b kb)(K:q.length < 32)(J:kb.length < 32)(h:∀ h' ks,SS w h' s.heap.objs.size ks->(∀ x,x∈ks↔x∈q\/x∈kb)->(∀ c o,c < s.heap.objs.size->s.heap.get? c=some o->h'.get? c=some o)->Q (.ref s.heap.objs.size) {s with heap:=h'}):
  wpAny (model prog w) A (binaryOp .BitOr (.ref a) (.ref b)) Q E s:=by
 refine wpAny_binaryOp_same (op:=.BitOr) (T:="set") l.ty n.ty PySem.F.fills_set_or PySem.F.slot_set_or (wpAny_call_entry PySem.F.slot_set_or l.ty fQ ?_ (PySem.F.args_set_or_2 _ _));unfold Builtin.«frozenset.__or__»;refine Ql (m:=Builtin.Frozenset.slot1 "__or__" ⟨[.ref a,.ref b],[]⟩) ?_;unfold Builtin.Frozenset.slot1;refine Ql (Qm (a:=(Value.ref a,[Value.ref b])) ?_);refine Qm ?_;refine Ql (m:=(Builtin.Frozenset.isAnySet (.ref a) <&&> Builtin.Frozenset.isAnySet (.ref b))) ?_;refine Ql (LN l.ty (LN n.ty ?_));rw[if_neg (by decide)];refine Ql (m:=Builtin.Frozenset.addrOf (.ref a)) (Qm ?_);refine Ql ?_;refine Ql (m:=Builtin.Frozenset.copyOf a) ?_;unfold Builtin.Frozenset.copyOf Builtin.Frozenset.baseOf;refine Ql (Ql (wpAny_isInstance l.ty sub_set_self (Qm ?_)));rw[if_pos rfl];refine Ql (bn λled i=>?_);refine Ql (Qm ?_);have f:∀{c:Addr},c < s.heap.objs.size->c≠s.heap.objs.size:=λz=>Ys z;have H:(s.heap.push (BU led)).get? s.heap.objs.size=some (BU led):=Qp _ rfl;refine Ql (Rc (s:={s with heap:=s.heap.push (BU led)}) (f l.lt) H i (l.new _) K λh1 r G p=>?_);refine Qm ?_;show wpAny (model prog w) A.in1 (if(Value.ref b != Value.ref a)=true then _ else _) _ E _;rw[if_pos (by simp only[bne_iff_ne,ne_eq,Value.ref.injEq];exact λz=>y z.symm)];refine Ql (m:=Builtin.Frozenset.addrOf _) (Qm ?_);have k:SS w h1 b kb:=(n.new (BU led)).same (f n.lt) r;have L:Shared.TypeIs {s with heap:=h1} (.ref b) "set":=SS.ty (s:={s with heap:=h1}) k
 have keep:∀ h2,Heap.SameBut s.heap.objs.size h1 h2->∀ c o,c < s.heap.objs.size->s.heap.get? c=some o->h2.get? c=some o:=λh2 d c o hc e=>by
  rw[d.2 c (f hc),r.2 c (f hc)];exact Qn _ e
 refine Ql (wpAny_holding ?_);unfold Builtin.Frozenset.updateFrom;refine Ql (LN L ?_);rw[if_pos rfl];refine Ql (m:=Builtin.Frozenset.addrOf (.ref b)) (Qm ?_);unfold Builtin.Frozenset.merge;have j:=k;obtain⟨R,es,S,t,O,v,hd,T⟩:=k;refine Ql (wpAny_setEpoch_of O hd T.ft ?_);have u:∀ h2 ks,Heap.SameBut s.heap.objs.size h1 h2->SS w h2 s.heap.objs.size ks->(∀ x,x∈ks↔x∈q\/x∈kb)->Q (.ref s.heap.objs.size) {s with heap:=h2}:=λh2 ks d g v=>h h2 ks g v (keep h2 d);by_cases N:q=[]
 ·subst N;refine Rc (s:={s with heap:=h1}) (f n.lt) (p rfl) i j J λh2 d g _=>?_;refine Qm (Qm ⟨_,rfl,by simp,u h2 kb d g λx=>⟨.inr,λz=>z.elim (λz=>by cases z) id⟩⟩)
 ·refine fP (s:={s with heap:=h1}) (f n.lt) N G j (by lia) (λB I s' U D P=>?_) λh2 ks d g v=>?_
  ·have e:B=R:=by
    have:=I.symm.trans O;exact YE this
   subst e;unfold Builtin.Frozenset.unchanged;refine Ql (wpAny_setEpoch_of D hd T.ft ?_);rw[if_neg (by simp)];exact Qm P
  ·exact Qm (Qm ⟨_,rfl,by simp,u h2 ks d g v⟩)
end
theorem E7:Slot "set_iterator" "__next__" "set_iterator.__next__":=.of (owner:="set_iterator") (n:="__next__") (by rw[typeLookup_type,builtinLookup_eq_fast];kernel_rfl) (by decide +kernel) (by decide +kernel) (by decide +kernel) (by first | exact .inl (by decide +kernel)| exact .inr (by decide +kernel)) (by rw[isSubtype_type];kernel_rfl)
theorem Re:Slot "set" "__iter__" "set.__iter__":=.of (owner:="set") (n:="__iter__") (by rw[typeLookup_type,builtinLookup_eq_fast];kernel_rfl) (by decide +kernel) (by decide +kernel) (by decide +kernel) (by first | exact .inl (by decide +kernel)| exact .inr (by decide +kernel)) (by rw[isSubtype_type];kernel_rfl)
theorem Rf:entryFor table "set_iterator.__next__"=some Builtin.«set_iterator.__next__»:=entryFor_of_fast (by kernel_rfl)
theorem fS:entryFor table "set.__iter__"=some Builtin.«frozenset.__iter__»:=entryFor_alias (id':="frozenset.__iter__") (by kernel_rfl) rfl (by decide +kernel) (by kernel_rfl)
theorem Rg(a:Value):argsOk "set_iterator.__next__" ⟨[a],[]⟩:=by unfold argsOk;kernel_rfl
theorem fT(a:Value):argsOk "set.__iter__" ⟨[a],[]⟩:=by unfold argsOk;kernel_rfl
section
variable {w:World}
theorem fU(b:n≠0)(h:∀ i d,i < n->Q i {s with drawn:=d}):wpAny (model prog w) A (choose a n) Q E s :=
 λ_ _ _=>⟨b,h _ _ (Nat.mod_lt _ (Nat.pos_of_ne_zero b))⟩
theorem Rh{α:Type}:∀(n:Nat)(xs:List α)(s:Shared)(Q:List α->Shared->Prop),xs.length=n->(∀ ys d,ys.Perm xs->Q ys {s with drawn:=d})->wpAny (model prog w) A (drawOrder n xs) Q E s
 | 0,xs,s,Q,h,q=>by
  obtain rfl:=Qi.mp h;exact Qm (q [] s.drawn (List.Perm.refl _))
 | n+1,[],s,Q,h,q=>by cases h
 | n+1,x::xs,s,Q,h,q=>by
  unfold drawOrder;refine Ql (fU (by simp) λi d hi=>?_);rw[Yp hi];dsimp only;refine Ql (Rh n _ _ _ (by rw[List.length_eraseIdx_of_lt hi];simpa using h) λys b a=>?_);exact Qm (q _ b ((a.cons _).trans (LJ _ i hi)))
abbrev Itr(first:Value)(i:Nat)(a:Addr)(n ep:Nat):Obj:={cls:=.type "set_iterator",data:=.fields #[first,.int i 0,.ref a,.int n 0,.int ep 0]}
inductive Md(w:World)(a T:Addr)(es:Array (Int×Value))(ep:Nat)(t:SetTable)(l:List (Int×Value))(h:Heap):Value->Nat->Prop where
 | drawn {ps:List Nat} {oT:Obj} {c i:Nat}:h.get? T=some oT->oT.data=.seq (ps.map λp:Nat=>rawInt p).toArray c->ps.length=l.length->(∀(j p:Nat),ps[j]?=some p->∃ e,es[p]?=some e/\l[j]?=some e)->Md w a T es ep t l h (.ref T) i
 | text {k i:Nat}:bt w=true->l=(pickOrder (w.params.setOrder a ep) es).toList->Md w a T es ep t l h (.int k 0) i
 | few {k i:Nat}:bt w=false->t.led=true->es.size<=1->l=es.toList->(i=0->k=0)->(∀ j:Nat,i=1->t.place[0]?=some j->k=j+1)->Md w a T es ep t l h (.int k 0) i
structure Wk(w:World)(it a T:Addr)(ob:Obj)(es:Array (Int×Value))(ep:Nat)(t:SetTable)(l:List (Int×Value))(i:Nat)(h:Heap):Prop where
 st:∃ first,h.get? it=some (Itr first i a es.size ep)/\Md w a T es ep t l h first i
 ob:h.get? a=some ob
theorem Md.at(M:Md w a T es ep t l h v i)(k:∀ o,h.get? T=some o->h'.get? T=some o):Md w a T es ep t l h' v i:=by
 cases M with
 | drawn h1 h2 c b=>exact .drawn (k _ h1) h2 c b
 | text h1 h2=>exact .text h1 h2
 | few h1 h2 c b d e=>exact .few h1 h2 c b d e
theorem Ri{h:Heap}(e:h.get? it=some (Itr first i a n ep))(j:Nat):(h.update it (Obj.mapFields (·.setIfInBounds 1 (rawInt j)))).get? it=some (Itr first j a n ep):=by
 have b:=Qs (Obj.mapFields (·.setIfInBounds 1 (rawInt j))) e (Obj.isFreed_of_fields (Obj.data_mapFields rfl _));rw[b];rfl
theorem HV{h:Heap}(e:h.get? it=some (Itr first i a n ep))(v:Value):(h.update it (Obj.mapFields (·.setIfInBounds 0 v))).get? it=some (Itr v i a n ep):=by
 have b:=Qs (Obj.mapFields (·.setIfInBounds 0 v)) e (Obj.isFreed_of_fields (Obj.data_mapFields rfl _));rw[b];rfl
end
section
theorem Rj(j k:Nat):SetTable.below #[j] k=if j < k then 1 else 0:=by
 show SetTable.below.go #[j] k 1 0 1=_;unfold SetTable.below.go;simp only[Nat.zero_lt_one,if_true];show(if j < k then SetTable.below.go #[j] k 0 1 1 else SetTable.below.go #[j] k 0 0 0)=_;rfl
theorem HX{α:Type}{xs:Array α}(h:xs.size<=1):xs=#[]\/∃ x,xs=#[x]:=by
 obtain⟨l⟩:=xs
 match l,h with
 | [],_=>exact .inl rfl
 | [x],_=>exact .inr ⟨x,rfl⟩
theorem fV(U:y.ExactSet)(hd:y.data=.set es ep t)(Tb:Tab w es t ks)(m:a≠it)(h:T≠it)(S:Wk w it a T y es ep t l i s.heap)(hl:l[i]?=some e)(G:∀ h',Wk w it a T y es ep t l (i+1) h'->Heap.SameBut it s.heap h'->Q (some e.2) {s with heap:=h'}):wpAny (model prog w) A (pyNext (.ref it)) Q E s:=by
 obtain⟨⟨first,hi,M⟩,d⟩:=S;have H:s.TypeIs (.ref it) "set_iterator":=⟨_,hi,rfl⟩;unfold pyNext;refine Ql (wpAny_attempt (wpAny_callSpecial?_slot (name:=Str.ofString "__next__") H E7 (wpAny_call_entry E7 H Rf ?_ (Rg _))));unfold Builtin.«set_iterator.__next__»;refine Ql (Qm (a:=(Value.ref it,([]:List Value))) ?_);refine Ql (wpAny_fieldsOf hi rfl ?_);dsimp only;refine Ql (wpAny_setEntries_of d hd Tb.ft ?_);rw[if_neg (by simp)]
 have two:∀(v:Value),Md w a T es ep t l s.heap v (i+1)->Q (some e.2) {s with heap:=(s.heap.update it (Obj.mapFields (·.setIfInBounds 0 v))).update it (Obj.mapFields (·.setIfInBounds 1 (rawInt (i+1))))}:=λv P=>by
  have f:=(Qr s.heap it (Obj.mapFields (·.setIfInBounds 0 v))).trans (Qr _ it (Obj.mapFields (·.setIfInBounds 1 (rawInt (i+1)))));refine G _ ⟨⟨v,Ri (HV hi v) (i+1),P.at λo z=>by rw[f.2 T h];exact z⟩,by rw[f.2 a m];exact d⟩ f
 cases M with
 | drawn h1 h2 u r =>
  rename_i ps X c
  obtain⟨p,I⟩:∃ p,ps[i]?=some p:=by
   obtain⟨g,_⟩:=Qa.mp hl;exact⟨_,Yp (by lia)⟩
  obtain⟨O,R,B⟩:=r i p I;obtain rfl:O=e:=YE (B.symm.trans hl);dsimp only;refine Ql (wpAny_seqItems h1 h2 ?_);dsimp only
  have L:(ps.map λp:Nat=>rawInt p).toArray[(Int.ofNat i).toNat]?=some (rawInt p):=by
   simp[I]
  have D:(ps.map λp:Nat=>rawInt p).toArray[((i:Int)).toNat]?=some (.int (p:Int) 0):=L;rw[D];dsimp only;refine Ql ?_;unfold setNextDrawn;refine Ql (wpAny_setState_of d hd Tb.ft ?_);dsimp only;rw[if_neg (by simp)];rw[show((p:Int)).toNat=p from Int.toNat_natCast p,R];dsimp only;refine Qm (Ql (wpAny_setField hi rfl (by simp) (Qm ⟨_,rfl,Qm ?_⟩)));have f:=Qr s.heap it (Obj.mapFields (·.setIfInBounds 1 (rawInt (i+1))));exact G _ ⟨⟨_,Ri hi (i+1),.drawn (by rw[f.2 T h];exact h1) h2 u r⟩,by rw[f.2 a m];exact d⟩ f
 | text h1 h2 =>
  rename_i k;dsimp only;refine Ql ?_;unfold setNext;refine Ql (wpAny_setState_of d hd Tb.ft ?_);dsimp only;unfold setsByText;walk_at "pc";walk_at "pj";rw[if_pos h1,if_neg (by simp)];unfold setWalk;refine Ql (Ql (wpAny_setState_of d hd Tb.ft ?_));dsimp only;unfold setsByText;walk_at "pc";walk_at "pj";rw[if_pos h1];refine Ql (wpAny_askSetting (Qm ?_));subst h2;rw[YQ]at hl;show wpAny (model prog w) _ (pure (((pickOrder (w.params.setOrder a ep) es)[((i:Int)).toNat]?).map _)) _ _ s;rw[show((i:Int)).toNat=i from Int.toNat_natCast i,hl];refine Qm ?_;dsimp only[Option.map_some];walk_at "pu";refine Ql (wpAny_setField (HV hi _) rfl (by simp) (Qm ⟨_,rfl,Qm ?_⟩));exact two _ (.text h1 rfl)
 | few h1 h2 u r N Y =>
  rename_i k;subst r;rw[YQ]at hl;have b:=Tb.ft;rcases HX u with z |⟨x,z⟩
  ·rw[z]at hl;simp at hl
  ·rw[z]at hl
   have F:i=0:=by
    obtain⟨g,_⟩:=Array.getElem?_eq_some_iff.mp hl;simpa using g
   subst F;obtain rfl:x=e:=by simpa using hl
   obtain rfl:=N rfl
   have n:t.place.size=1:=by
    unfold SetTable.fits at b;rw[z]at b;simp only[YG,beq_iff_eq]at b;exact b.1
   obtain⟨j,J⟩:∃ j,t.place=#[j]:=by
    rcases HX (by lia:t.place.size<=1)with q | q
    ·rw[q]at n;cases n
    ·exact q
   dsimp only;refine Ql ?_;unfold setNext;refine Ql (wpAny_setState_of d hd Tb.ft ?_);dsimp only;unfold setsByText;walk_at "pc";walk_at "pj";rw[if_neg (by rw[h1];decide)];show wpAny (model prog w) _ (if(!t.plain&&decide (es.size > 1))=true then _ else _) _ _ s
   rw[if_neg (by have:¬ es.size > 1:=by lia
                 simp[this])]
   refine Ql ?_;show wpAny (model prog w) _ (if(!t.led&&!es.isEmpty)=true then _ else pure ()) _ _ s;rw[if_neg (by rw[h2];simp)];refine Qm ?_;show wpAny (model prog w) _ (pure (match es[SetTable.below t.place 0]?,t.place[SetTable.below t.place 0]? with | some (_,x),some j=>some (x,j+1)| _,_=>none)) _ _ s;rw[J,Rj,if_neg (by lia),z];refine Qm ?_;walk_at "pu";refine Ql (wpAny_setField (HV hi _) rfl (by simp) (Qm ⟨_,rfl,Qm ?_⟩));refine two _ (.few (k:=j+1) h1 h2 u rfl (λq=>by cases q) λK _ q=>?_);rw[J]at q;have:j=K:=by simpa using q
   lia
end
section
theorem LO{s:Shared}{R:Fin->Shared->Prop}{Q:Option Value->Shared->Prop}(d:A.handled=none)(x:Heap.ExtBut it c h1)(f:∀ h',Heap.ExtBut it c h'->Q none {s with heap:=h'}):
  wpAny (model prog w) A.in1 (do let e <- newExc (.type "StopIteration") [];raiseNew e) R (λe s'=>wpAny (model prog w) A (do let b <- isInstance e (.type "StopIteration");if b=true then pure none else throw e) Q E s') {s with heap:=h1}:=by
 refine Ql ?_;simp only[newExc,newTuple];refine Ql (wpAny_newObj_type ?_ (by size_fits));refine Ql (m:=firstArgMember _ _) (wpAny_of_eq (a:=Value.none) (by first | rfl |(simp only[firstArgMember];rfl)) (wpAny_newObj_type ?_ (by size_fits)));simp only[raiseNew];refine Ql (wpAny_handled ?_);rw[show A.in1.handled=none from d];refine Ql (Qm (wpAny_throw ?_));refine Ql (wpAny_isInstance (T:="StopIteration") (b:=true) ⟨_,Qp _ rfl,rfl⟩ isSubtype_stop ?_);exact Qm (f _ ((x.push _).push _))
theorem fW(h:A.handled=none)(H:n.ExactSet)(hd:n.data=.set es ep t)(Tb:Tab w es t ks)(S:Wk w it a T n es ep t l i s.heap)(hl:l.length=i)(m:es.size=i)(g:∀ h',Heap.ExtBut it s.heap h'->Q none {s with heap:=h'}):wpAny (model prog w) A (pyNext (.ref it)) Q E s:=by
 obtain⟨⟨first,hi,M⟩,f⟩:=S;have r:s.TypeIs (.ref it) "set_iterator":=⟨_,hi,rfl⟩;unfold pyNext;refine Ql (wpAny_attempt (wpAny_callSpecial?_slot (name:=Str.ofString "__next__") r E7 (wpAny_call_entry E7 r Rf ?_ (Rg _))));unfold Builtin.«set_iterator.__next__»;refine Ql (Qm (a:=(Value.ref it,([]:List Value))) ?_);refine Ql (wpAny_fieldsOf hi rfl ?_);dsimp only;refine Ql (wpAny_setEntries_of f hd Tb.ft ?_);rw[if_neg (by simp)];have v:((i:Int)).toNat=i:=Int.toNat_natCast i;cases M with
 | drawn h1 h2 y B =>
  rename_i ps I c;dsimp only;refine Ql (wpAny_seqItems h1 h2 ?_);dsimp only
  have D:(ps.map λp:Nat=>rawInt p).toArray[((i:Int)).toNat]?=none:=by
   rw[v];simp;lia
  rw[D];dsimp only;walk_at "pu";refine Ql (wpAny_setField (HV hi _) rfl (by simp) ?_);exact LO h ((Qr s.heap it (Obj.mapFields (·.setIfInBounds 0 (rawInt 0)))).trans (Qr _ it _)).extBut g
 | text h1 h2 =>
  rename_i k;dsimp only;refine Ql ?_;unfold setNext;refine Ql (wpAny_setState_of f hd Tb.ft ?_);dsimp only;unfold setsByText;walk_at "pc";walk_at "pj";rw[if_pos h1,if_neg (by simp)];unfold setWalk;refine Ql (Ql (wpAny_setState_of f hd Tb.ft ?_));dsimp only;unfold setsByText;walk_at "pc";walk_at "pj";rw[if_pos h1];refine Ql (wpAny_askSetting (Qm ?_));show wpAny (model prog w) _ (pure (((pickOrder (w.params.setOrder a ep) es)[((i:Int)).toNat]?).map _)) _ _ s
  have F:(pickOrder (w.params.setOrder a ep) es)[i]?=none:=by
   rw[<- YQ,<- h2];exact Qh (by lia)
  rw[v,F];refine Qm ?_;dsimp only[Option.map_none];walk_at "pu";exact LO h (Qr s.heap it _).extBut g
 | few h1 h2 y B J G =>
  rename_i k;have b:=Tb.ft
  have d:es[SetTable.below t.place k]?=none:=by
   refine Array.getElem?_eq_none ?_;rcases HX y with z |⟨x,z⟩
   ·rw[z];exact YX _
   ·have e:t.place.size=1:=by
     unfold SetTable.fits at b;rw[z]at b;simp only[YG,beq_iff_eq]at b;exact b.1
    obtain⟨j,u⟩:∃ j,t.place=#[j]:=by
     rcases HX (by lia:t.place.size<=1)with q | q
     ·rw[q]at e;cases e
     ·exact q
    have o:i=1:=by rw[<- m,z];rfl
    have:=G j o (by rw[u];rfl);rw[u,this,Rj,if_pos (by lia),z];exact Yr _
  dsimp only;refine Ql ?_;unfold setNext;refine Ql (wpAny_setState_of f hd Tb.ft ?_);dsimp only;unfold setsByText;walk_at "pc";walk_at "pj";rw[if_neg (by rw[h1];decide)];show wpAny (model prog w) _ (if(!t.plain&&decide (es.size > 1))=true then _ else _) _ _ s
  rw[if_neg (by have:¬ es.size > 1:=by lia
                simp[this])]
  refine Ql ?_;show wpAny (model prog w) _ (if(!t.led&&!es.isEmpty)=true then _ else pure ()) _ _ s;rw[if_neg (by rw[h2];simp)];refine Qm ?_;show wpAny (model prog w) _ (pure (match es[SetTable.below t.place ((k:Int)).toNat]?,t.place[SetTable.below t.place ((k:Int)).toNat]? with | some (_,x),some j=>some (x,j+1)| _,_=>none)) _ _ s;rw[show((k:Int)).toNat=k from Int.toNat_natCast k,d];refine Qm ?_;walk_at "pu";exact LO h (Qr s.heap it _).extBut g
theorem Rk:Slot "set_iterator" "__iter__" "set_iterator.__iter__":=.of (owner:="set_iterator") (n:="__iter__") (by rw[typeLookup_type,builtinLookup_eq_fast];kernel_rfl) (by decide +kernel) (by decide +kernel) (by decide +kernel) (by first | exact .inl (by decide +kernel)| exact .inr (by decide +kernel)) (by rw[isSubtype_type];kernel_rfl)
theorem fX:entryFor table "set_iterator.__iter__"=some Builtin.«dict_keyiterator.__iter__»:=entryFor_alias (id':="dict_keyiterator.__iter__") (by kernel_rfl) rfl (by decide +kernel) (by kernel_rfl)
theorem fY(a:Value):argsOk "set_iterator.__iter__" ⟨[a],[]⟩:=by unfold argsOk;kernel_rfl
theorem fZ(x:A.handled=none)(q:n.ExactSet)(hd:n.data=.set es ep t)(Tb:Tab w es t ks)(g:a≠it)(f:T≠it)(hl:l.length=es.size):
  Walks prog w A it [it,a,T] [it] es.size (λi v=>∃ e,l[i]?=some e/\v=e.2) (λi h=>Wk w it a T n es ep t l i h) where
 sub:=λb c=>by simp at c;simp[c]
 frame:=λ_ _ _ st p=>by
  obtain⟨⟨first,hi,M⟩,r⟩:=st;exact⟨⟨first,p it (by simp) _ hi,M.at λo e=>p T (by simp) o e⟩,p a (by simp) _ r⟩
 item:=λi s Q E hi st d=>by
  obtain⟨e,u⟩:∃ e,l[i]?=some e:=⟨_,Yp (by lia)⟩;refine fV q hd Tb g f st u λh' W j=>?_;exact d _ h' s.toks ⟨e,u,rfl⟩ W (λb o c z=>j.extBut b o (λh=>c (by simp[h])) z)
 done:=λs Q E st d=>fW x q hd Tb st hl rfl λh' k=>d h' s.toks λb o c e=>k b o (λh=>c (by simp[h])) e
 self:=λ_ s Q E st d=>by
  obtain⟨⟨first,hi,M⟩,r⟩:=st;have m:s.TypeIs (.ref it) "set_iterator":=⟨_,hi,rfl⟩;refine wpAny_pyIter_slot m Rk (wpAny_call_entry Rk m fX (Qm ⟨_,rfl,"set_iterator",_,m,E7.lookup,d⟩) (fY _))
end
theorem By{α:Type}{es:Array α}:∀{ys:List Nat},(∀ p∈ys,p < es.size)->(ys.filterMap (es[·]?)).length=ys.length/\∀(j p:Nat),ys[j]?=some p->∃ e,es[p]?=some e/\(ys.filterMap (es[·]?))[j]?=some e
 | [],_=>⟨rfl,λj p h=>by simp at h⟩
 | y::ys,h=>by
  have b:es[y]?=some (es[y]'(h y Ye)):=YZ _;obtain⟨h1,h2⟩:=By (ys:=ys) λp c=>h p (Yd _ c);rw[List.filterMap_cons,b];refine⟨by simp[h1],λj p a=>?_⟩;cases j with
  | zero =>
   simp only[Yb,Option.some.injEq]at a;subst a;exact⟨_,b,rfl⟩
  | succ j =>
   simp only[Yc]at a ⊢;exact h2 j p a
section
theorem f3{s:Shared}(f:s.heap.get? a=some v)(I:v.ExactSet)(hd:v.data=.set es ep t)(Tb:Tab w es t ks)(H:ks.length < scanBound)(h:∀ it T l h' d,s.heap.objs.size<=it->T≠it->(T=a\/s.heap.objs.size<=T)->(∀ c o,s.heap.get? c=some o->h'.get? c=some o)->Wk w it a T v es ep t l 0 h'->l.Perm es.toList->T < h'.objs.size->it < h'.objs.size->Q (.ref it) {s with heap:=h',drawn:=d}):wpAny (model prog w) A (pyIter (.ref a)) Q E s:=by
 have D:s.TypeIs (.ref a) "set":=⟨v,f,I.1⟩;have q:a < s.heap.objs.size:=Qo f;have G:=Tb.len;refine wpAny_pyIter_slot D Re (wpAny_call_entry Re D fS ?_ (fT _));unfold Builtin.«frozenset.__iter__»;refine Ql (m:=Builtin.Frozenset.slot0 "__iter__" ⟨[.ref a],[]⟩) (Qm (a:=a) ?_);refine Ql (m:=Builtin.Frozenset.sizeOf a) (Ql (wpAny_setEntries_of f hd Tb.ft (Qm ?_)));refine Ql ?_;unfold setDrawn;refine Ql (wpAny_setState_of f hd Tb.ft ?_);dsimp only;unfold setsByText;walk_at "pc";show wpAny (model prog w) _ (pure (!(bt w)&&(!t.plain&&decide (es.size > 1)))) _ _ s;refine Qm ?_;by_cases hc:(!(bt w)&&(!t.plain&&decide (es.size > 1)))=true
 ·rw[if_pos hc];refine Ql (Rh es.size (List.range es.size) s _ (List.length_range) λys d r=>?_);have x:ys.length=es.size:=by rw[r.length_eq,List.length_range]
  refine Ql (wpAny_newTuple (items:=ys.map λi:Nat=>rawInt i) ?_ (by rw[Yh,x,G];exact fits_of_scanBound H));refine Ql (wpAny_setEpoch_of (s:={s with heap:=s.heap.push _,drawn:=d}) (Qn _ f) hd Tb.ft ?_);simp only[newFields];refine Ql (wpAny_newObj_type ?_ (by show(5:Nat)<=sizeLine+2;decide));refine Qm ⟨_,rfl,"set_iterator",_,⟨_,Qp _ rfl,rfl⟩,E7.lookup,?_⟩;obtain⟨b,B⟩:=By (es:=es) (ys:=ys) λp z=>List.mem_range.mp (r.mem_iff.mp z)
  have n:(ys.filterMap (es[·]?)).Perm es.toList:=by
   have y:=L3.Tb.order_perm es ys.toArray (by simpa using r);simpa using y
  refine h _ s.heap.objs.size (ys.filterMap (es[·]?)) _ d ?_ ?_ (.inr (Yr _)) (λc o e=>Qn _ (Qn _ e)) ⟨⟨_,Qp _ rfl,.drawn (Qn _ (Qp _ rfl)) rfl b.symm B⟩,Qn _ (Qn _ f)⟩ n ?_ ?_
  ·rw[Qq];exact Nat.le_succ _
  ·rw[Qq];exact Ys (Nat.lt_succ_self _)
  ·rw[Qq,Qq];exact Nat.lt_succ_of_lt (Nat.lt_succ_self _)
  ·simp only[Qq];exact Nat.lt_succ_self _
 ·rw[if_neg hc];refine Ql (Qm ?_);refine Ql (wpAny_setEpoch_of f hd Tb.ft ?_);simp only[newFields];refine Ql (wpAny_newObj_type ?_ (by show(5:Nat)<=sizeLine+2;decide));refine Qm ⟨_,rfl,"set_iterator",_,⟨_,Qp _ rfl,rfl⟩,E7.lookup,?_⟩
  have u:∀ l,l.Perm es.toList->Md w a a es ep t l (s.heap.push (Itr (rawInt 0) 0 a es.size ep)) (rawInt 0) 0->Q (.ref s.heap.objs.size) {s with heap:=s.heap.push (Itr (rawInt 0) 0 a es.size ep)}:=λl r M=>
   h _ a l _ s.drawn (Yr _) (Ys q) (.inl rfl) (λc o e=>Qn _ e) ⟨⟨_,Qp _ rfl,M⟩,Qn _ f⟩ r (by rw[Qq];exact Nat.lt_succ_of_lt q) (by rw[Qq];exact Nat.lt_succ_self _)
  by_cases F:bt w=true
  ·exact u _ (Ra _ _) (.text (k:=0) F rfl)
  ·have g:bt w=false:=by simpa using F
   have h1:es.size<=1:=by
    rw[g]at hc;simp only[YO,Bool.true_and,YG,YS,not_and]at hc;cases b:t.plain with
    | true=>have:=Tb.pl b;subst this;rw[G];decide
    | false=>have:=hc (by rw[b];rfl);lia
   exact u es.toList (List.Perm.refl _) (.few (k:=0) g (Tb.ld g) h1 rfl (λ_=>rfl) λj z=>by cases z)
end
theorem f5:Slot "set" "__len__" "set.__len__":=.of (owner:="set") (n:="__len__") (by rw[typeLookup_type,builtinLookup_eq_fast];kernel_rfl) (by decide +kernel) (by decide +kernel) (by decide +kernel) (by first | exact .inl (by decide +kernel)| exact .inr (by decide +kernel)) (by rw[isSubtype_type];kernel_rfl)
section
theorem f6(b:s.TypeIs (.ref a) "set")(q:Q false s):wpAny (model prog w) A (Builtin.List.listLengthHint (.ref a)) Q E s:=by
 unfold Builtin.List.listLengthHint;refine Ql (wpAny_specialOf b f5.lookup ?_);have hs:splitId "set.__len__"=some ("set","__len__"):=by kernel_rfl
 dsimp only;rw[hs];dsimp only;refine Ql (wpAny_isInstance b sub_set_self ?_);rw[if_neg (by decide)];show wpAny (model prog w) A (if _=true then _ else _) Q E s;rw[if_pos (by decide +kernel)];refine Ql (wpAny_typeOf b ?_);exact Qm q
theorem f9{s:Shared}(hh:A.handled=none)(hS:SS w s.heap a ks)(hn:ks.length < scanBound)(h:∀(s':Shared)(vs:List Value)(xs:List Str),StrsAre vs xs->xs.Perm ks->(∀ c o,c < s.heap.objs.size->s.heap.get? c=some o->s'.heap.get? c=some o)->s'.gens=s.gens->s'.os=s.os->s.heap.objs.size<=s'.heap.objs.size->Q vs s'):wpAny (model prog w) A (collect (.ref a)) Q E s:=by
 have n:=hS;obtain⟨ob,es,ep,t,ho,N,hd,T⟩:=hS;have hz:=T.len;have I:a < s.heap.objs.size:=Qo ho;unfold collect;refine Ql (wpAny_runValue (codeAny_builtin PySem.F.entry_proto_collect ?_));rw[Around.under_plainId PySem.F.plain_proto_collect _];refine Ql (m:=newList []) (wpAny_newList ?_ (YX _));refine Qm ⟨plainId_quiet PySem.F.plain_list_iadd _,codeAny_builtin PySem.F.entry_list_iadd ?_⟩;rw[Around.under_plainId PySem.F.plain_list_iadd _];have g:s.heap.objs.size≠a:=YY (Ys I);have J:(s.heap.push (seqObj "list" #[] 0)).get? a=some ob:=Qn _ ho;have hT1:Shared.TypeIs {s with heap:=s.heap.push (seqObj "list" #[] 0)} (.ref a) "set":=⟨ob,J,N.1⟩;refine(?_:wpAny (model prog w) A.in1 (Builtin.List.listExtendWith (.ref s.heap.objs.size) (.ref a) (.ref s.heap.objs.size)) _ _ {s with heap:=s.heap.push (seqObj "list" #[] 0)});unfold Builtin.List.listExtendWith;refine Ql (wpAny_typeOf hT1 ?_);have c1:Builtin.List.listSameRef (.ref s.heap.objs.size) (.ref a)=false:=by simp[Builtin.List.listSameRef,g]
 have c2:(Value.type "set"==Value.type "list")=false:=by decide
 have c3:(Value.type "set"==Value.type "tuple")=false:=by decide
 simp only[c1,c2,c3,Bool.or_false,Yq,if_false];refine Ql (f3 J N hd T hn λO Tp l h' d K D hTa keep W R hTl hil=>?_);obtain⟨⟨first,hi,M⟩,L⟩:=id W;have U:Shared.TypeIs {s with heap:=h',drawn:=d} (.ref a) "set":=⟨ob,L,N.1⟩;refine Ql (wpAny_holding (f6 U ?_));refine(?_:wpAny (model prog w) A.in1 (rule "list.extend.makes-room" >>=λ_=>Builtin.List.listTouch (.ref s.heap.objs.size) >>=λ_=>again (.builtin "list.extend.loop" ⟨[.ref s.heap.objs.size,.ref O,.ref s.heap.objs.size],[]⟩)) _ _ {s with heap:=h',drawn:=d});refine Ql (wpAny_rule ?_);have G:h'.get? s.heap.objs.size=some (seqObj "list" #[] 0):=keep _ _ (Qp _ rfl);refine Ql (m:=Builtin.List.listTouch (.ref s.heap.objs.size)) (Ql (m:=updateSeq s.heap.objs.size (·.push .none)) (wpAny_updateSeq (s:={s with heap:=h',drawn:=d}) G rfl ?_));have B:=Qs (Obj.mapSeq (·.push Value.none)) G rfl;refine(?_:wpAny (model prog w) A.in1 (updateSeq s.heap.objs.size (·.pop)) _ _ _);refine wpAny_updateSeq B rfl ?_;have P:=Qs (Obj.mapSeq (·.pop)) B rfl;have f:s.heap.objs.size < O:=by rw[Qq]at K;exact K
 have r:s.heap.objs.size≠Tp:=by
  rcases hTa with e | e
  ·rw[e];exact g
  ·rw[Qq]at e;exact Ys e
 have X:s.heap.objs.size∉[O,a,Tp]:=by
  simp only[Yo,Qc,or_false,not_or];exact⟨Ys f,g,r⟩
 have hai:a≠O:=Ys (Nat.lt_trans I f);have y:l.length=es.size:=by rw[R.length_eq,YV]
 have WS:=(fZ (prog:=prog) (w:=w) (A:=A.in1) (by simp[hh]) N hd T hai D y).toS
 have j:∀ b o,b≠s.heap.objs.size->h'.get? b=some o->((h'.update s.heap.objs.size (Obj.mapSeq (·.push Value.none))).update s.heap.objs.size (Obj.mapSeq (·.pop))).get? b=some o :=
  λb o q e=>(Heap.get?_update_other _ _ (YY q)).trans ((Heap.get?_update_other _ _ (YY q)).trans e)
 refine Qm ⟨plainId_quiet PySem.F.plain_extend_loop _,codeAny_extend_loopS WS (fits_of_scanBound (by rw[hz];exact hn)) _ X _ es.size 0 _ _ _ rfl (YX _)
  ⟨⟨first,j _ _ (YY (Ys f)) hi,M.at λo e=>j _ _ (YY r) e⟩,j _ _ (YY g) L⟩ P (ItemsOf.nil _) λs' p c Y n k=>?_⟩
 refine Ql (m:=load s.heap.objs.size) (wpAny_load n (Qm ?_))
 have Z:p.toList=l.map (·.2):=by
  apply List.ext_getElem?;intro i;rw[YR,YQ];by_cases H:i < p.size
  ·obtain⟨e,he,S⟩:=k.2 i _ (YZ H);rw[YZ H,he,S];rfl
  ·rw[Array.getElem?_eq_none (by lia),Qh (by rw[y,<- k.1];lia)];rfl
 have z:∀ v∈l.map (·.2),∃ x t,v=Value.str x t:=λv S=>by
  obtain⟨e,he,rfl⟩:=YC.mp S;obtain⟨x,u,rfl⟩:=T.el e (R.mem_iff.mp he);exact⟨x,u,rfl⟩
 refine h s' p.toList ((l.map (·.2)).map strOf) (by rw[Z];exact strsAre_map _ z) ?_ (λb o q e=>?_) Y.gens Y.os ?_
 ·rw[YB];exact((R.map _).trans T.pm)
 ·refine Y.heap b o ?_ (j b o (Ys q) (keep b o (Qn _ e)));simp only[Yo,Qc,or_false,not_or];exact⟨Ys q,Ys (Nat.lt_trans q f)⟩
 ·exact YK (Qo n)
theorem gf{s:Shared}(F:A.handled=none)(y:SS w s.heap a ks)(B:ks.length < 64)(h:∀(s':Shared)(p:Addr)(vs:List Value)(xs:List Str)(e:Nat),s.heap.objs.size<=p->s'.heap.get? p=some (seqObj "list" vs.toArray e)->StrsAre vs xs->xs.Perm ks->sortedS xs=true->(∀ c o,c < s.heap.objs.size->s.heap.get? c=some o->s'.heap.get? c=some o)->s'.gens=s.gens->s'.os=s.os->Q (.ref p) s'):
  wpAny (model prog w) A (call (.builtin "sorted") [.ref a]) Q E s:=by
 refine Calls.call_function_entry kind_sorted plain_sorted entry_sorted (args_sorted1 _) ?_;unfold Builtin.«sorted»;refine Ql (m:=checkCount "sorted" 1 1 _) (Qm ?_);refine Ql (f9 (by simp[F]) y (by unfold scanBound;lia) λg vs xs i v keep x l b=>?_);have u:vs.length < 64:=by rw[i.length,v.length_eq];exact B
 refine Ql (wpAny_newList ?_ (by have:=(by decide:(64:Nat)<=sizeLine);lia));have d:(g.heap.push (seqObj "list" vs.toArray 0)).get? g.heap.objs.size=some (seqObj "list" vs.toArray 0):=Qp _ rfl;refine Ql (wpAny_holding (wpAny_call_entry slot_list_sort ⟨_,d,rfl⟩ entry_list_sort (list_sort_treeK (s:={g with heap:=g.heap.push (seqObj "list" vs.toArray 0)}) strKind_oneLt d i.keysOf (λI J r e=>keyKind_strs (by rw[<- e];exact i)) u λf H D=>⟨_,rfl,?_⟩) (args_list_sort _)));obtain⟨q,k,t,j⟩:=sorted_out_str i H D;obtain⟨e,G⟩:=sortedHeap_at (n:=0) (vs:=vs) (out:=(arrOf f).map (·.2)) d;refine Qm ⟨_,rfl,h _ _ ((arrOf f).map (·.2)).toList q e b (by rw[Array.toArray_toList];exact G) k (t.trans v) j (λc o hc z=>?_) x l⟩;rw[sortedHeap_old (Ys (Yu hc b)) (by rw[Qq];exact Nat.lt_succ_of_lt (Yu hc b))];exact Qn _ (keep c o hc z)
end
end L3
namespace L3
open PySem PySem.Spec PyProof.Rows L2
variable {K:PySem.W.Frag}{H H2:Hp}
theorem HY:∀{xs:List Str}{a:List Value},Vals (xs.map V.str) a->StrsAre a xs
 | [],_,.nil=>.nil
 | x::xs,_,.cons r b=>by
  obtain⟨t,rfl⟩:=r;exact .cons x t (HY b)
theorem LP:∀{xs:List Str}{a:List Value},StrsAre a xs->Vals (xs.map V.str) a
 | [],_,.nil=>.nil
 | x::xs,_,.cons _ t b=>.cons ⟨t,rfl⟩ (LP b)
theorem GB{α:Type}[BEq α][LawfulBEq α]:∀{ks xs:List α},ks.Nodup->(∀ x∈ks,x∈xs)->ks.length<=xs.length
 | [],xs,_,_=>YX _
 | k::ks,xs,d,h=>by
  have c:=YU.mp d;have a:k∈xs:=h k Ye;have h1:=GB (xs:=xs.erase k) c.2 λx b=>(List.mem_erase_of_ne (λe=>c.1 (by rw[<- e];exact b))).mpr (h x (Yd _ b));rw[List.length_erase_of_mem a]at h1;have:0 < xs.length:=List.length_pos_of_mem a;rw[Yg];lia
section
variable {ta tb:TE}
theorem LQ{X:Cx}(hs:starEach [e] X.env=(false,eval e X.env)::starEach [] X.env)(h:wpAny (model X.prog X.w) A (eval e X.env) (λv a=>Q [v] a) E s):wpAny (model X.prog X.w) A (spliced (backTo pos (starEach [e] X.env))) Q E s:=by
 rw[hs];refine Calls.spliced_cons (wpAny_mono h (λv a q=>?_) λ_ _ z=>z);exact Calls.spliced_nil q
def gj(K:PySem.W.Frag)(ta tb:TE):TE:=λσ H Q=>ta σ H λx H1=>∃(p:Addr)(xs:List Str),x=.ref p/\SqL K H1 p (xs.map V.str)/\xs.length < 32/\tb σ H1 λy H2=>∃(q:Addr)(ys:List Str),y=.ref q/\SqL K H2 q (ys.map V.str)/\ys.length < 32/\
 ∀(zs:List Str)(r:Addr),zs.Nodup->sortedS zs=true->(∀ x,x∈zs↔x∈xs\/x∈ys)->H2 r=none->Q (.ref r) (upd H2 r (.lst (zs.map V.str)))
theorem gm(hc:X.calm=true)(n1:X.mg "sorted"=none)(n2:X.mg "set"=none)(g1:Gl X "sorted")(g2:Gl X "set")(h1:starEach [e] X.env=(false,eval e X.env)::starEach [] X.env)(h2:starEach [eb] X.env=(false,eval eb X.env)::starEach [] X.env)(L:starEach [.BinOp (.Call (.Name "set" p1) [e] [] q1) .BitOr (.Call (.Name "set" p2) [eb] [] q2) qb] X.env=(false,eval (.BinOp (.Call (.Name "set" p1) [e] [] q1) .BitOr (.Call (.Name "set" p2) [eb] [] q2) qb) X.env)::starEach [] X.env)(ha:PE X e ta)(hb:PE X eb tb):
  PE X (.Call (.Name "sorted" p3) [.BinOp (.Call (.Name "set" p1) [e] [] q1) .BitOr (.Call (.Name "set" p2) [eb] [] q2) qb] [] q3) (gj X.K ta tb):=by
 intro pins s σ H Q I h;have bS:bootBuiltins "sorted"=some (.builtin "sorted"):=by decide +kernel
 have bT:bootBuiltins "set"=some (.type "set"):=by decide +kernel
 have hh:X.A.handled=none:=I.ok.hd hc;refine wpAny_Call_Name_kw (CY I g1 n1 bS ?_);refine PyProof.Rows.callWith_builtin1 (LQ L ?_) L rfl;refine wpAny_BinOp ?_;refine wpAny_Call_Name_kw (CY I g2 n2 bT ?_);refine Qg (LQ h1 ?_) h1 rfl;refine thn (ha pins s σ H _ I h) λv k zz1=>?_;obtain⟨x,H1,m,r1,p,xs,ex,hq,hn,q1⟩:=zz1;subst ex;cases r1;obtain⟨its,rv,pl,hz⟩:=m.list hq;have hil:its.length=xs.length:=by have:=rv.length;rw[Yh]at this;exact this.symm
 refine Pi hh pl.isList (by simpa using HY rv) (by rw[Yn,hil];unfold scanBound;lia) λh' tk ka hA G keep=>?_;have Y:=hA;obtain⟨R,S,U,tA,hoA,hxA,B,TA⟩:=hA;have I2:Inv X pins σ H1 {k with heap:=h',toks:=tk}:=m.kept λb u z=>keep b u (Qo z) z
 have I3:Inv X (pins++[(k.heap.objs.size,R)]) σ H1 {k with heap:=h',toks:=tk}:=I2.pins_of λp g=>by
  rcases Yz.mp g with g | g
  ·exact I2.pin p (YN _ g)
  ·have e:=YA.mp g;subst e;exact⟨hoA,m.hok.fresh (Yr _),YY (Ys m.lt),m.nofs (Yr _),λv z=>by rw[B]at z;cases z⟩
 refine wpAny_Call_Name_kw (CY I3 g2 n2 bT ?_);refine Qg (LQ h2 ?_) h2 rfl;refine thn (hb _ _ σ H1 _ I3 q1) λv2 f zz2=>?_;obtain⟨y,H2,I4,r2,q,ys,ey,hq2,hn2,q2⟩:=zz2;subst ey;cases r2;have d:f.heap.get? k.heap.objs.size=some R:=(I4.pin (k.heap.objs.size,R) (YN _ (YN _ (YA.mpr rfl)))).1;have I5:Inv X pins σ H2 f:=I4.unpinned;obtain⟨N,F,pl2,hz2⟩:=I5.list hq2;have t:N.length=ys.length:=by have:=F.length;rw[Yh]at this;exact this.symm
 refine Pi hh pl2.isList (by simpa using HY F) (by rw[Yn,t];unfold scanBound;lia) λc tk2 kb hB E a=>?_;have Z:SS X.w c k.heap.objs.size ka:=⟨R,S,U,tA,a _ _ (Qo d) d,hxA,B,TA⟩;have lka:ka.length < 32:=Nat.lt_of_le_of_lt (GB Y.nd λx l=>(G x).mp l) hn;have lkb:kb.length < 32:=Nat.lt_of_le_of_lt (GB hB.nd λx l=>(E x).mp l) hn2;refine fR (s:={f with heap:=c,toks:=tk2}) (Ys (Qo d)) Z hB lka lkb λL kc P D j=>?_
 have T:kc.length < 64:=by
  have:=GB (xs:=ka++kb) P.nd λx l=>Yz.mpr ((D x).mp l);rw[Yj]at this;lia
 refine gf hh P T λs' r vs zs en hr n hv g hs i hg hos=>?_;have z1:f.heap.objs.size < c.objs.size:=SS.lt (s:={f with heap:=c}) hB;have z2:c.objs.size < L.objs.size:=SS.lt (s:={f with heap:=L}) P;have o:f.heap.objs.size<=r:=YK (Yu (Nat.lt_trans z1 z2) hr)
 have O:∀ b u,f.heap.get? b=some u->s'.heap.get? b=some u:=λb u z=>by
  have y1:=a b u (Qo z) z;have y2:=j b u (Qo y1) y1;exact i b u (Qo y2) y2
 have hzl:zs.length<=sizeLine:=by
  have:(64:Nat)<=sizeLine:=by decide
  rw[g.length_eq];lia
 have J:Inv X pins σ (upd H2 r (.lst (zs.map V.str))) {f with heap:=s'.heap,toks:=s'.toks}:=I5.laid (t':=s'.toks) O o (show ObjOk X.prog X.w _ s'.heap r (.lst (zs.map V.str))from⟨by rw[Yh];exact hzl,vs,en,LP hv,n⟩);refine⟨.ref r,_,⟨J.ok,by rw[hos];exact J.os,by rw[hg];exact J.bare,J.base,J.loc,J.cell,J.free,J.freeC,J.pin,J.hok,J.len⟩,rfl,q2 zs r (g.nodup_iff.mpr P.nd) hs (λx=>?_) (I5.hok.fresh o)⟩;rw[g.mem_iff,D,G,E]
def LR(ga gb:GE):GE:=λω G Q=>ga ω G λx G1=>∃ xs:List Str,C6 G1 x=some (xs.map W.str)/\xs.length < 32/\gb ω G1 λy G2=>∃ ys:List Str,C6 G2 y=some (ys.map W.str)/\ys.length < 32/\
 ∀(zs:List Str)(p:Addr),zs.Nodup->sortedS zs=true->(∀ x,x∈zs↔x∈xs\/x∈ys)->G2 p=none->Q (.ref p) (put G2 p (.lst (zs.map W.str)))
theorem gn(g:ga.M)(mb:gb.M):GE.M (LR ga gb):=λω G Q i h q=>g _ _ _ _ ((by rintro x k ⟨xs,h1,h2,q1⟩;exact⟨xs,h1,h2,mb _ _ _ _ ((by rintro y j ⟨ys,e,f,q2⟩;exact⟨ys,e,f,λzs p a b c d=>h _ _ (q2 zs p a b c d)⟩)) q1⟩)) q
theorem LS:∀{xs:List Str}{vs:List V},TrL K H vs (xs.map W.str)->vs=xs.map V.str
 | [],_,.nil=>rfl
 | x::xs,_,.cons t a=>by
  cases t;rw[LS a];rfl
theorem LU:∀(xs:List Str),TrL K H (xs.map V.str) (xs.map W.str)
 | []=>.nil
 | x::xs=>.cons (.str x) (LU xs)
theorem gp(hc:X.calm=true)(n1:X.mg "sorted"=none)(E:X.mg "set"=none)(g1:Gl X "sorted")(g2:Gl X "set")(h1:starEach [e] X.env=(false,eval e X.env)::starEach [] X.env)(h2:starEach [eb] X.env=(false,eval eb X.env)::starEach [] X.env)(N:starEach [.BinOp (.Call (.Name "set" p1) [e] [] q1) .BitOr (.Call (.Name "set" p2) [eb] [] q2) qb] X.env=(false,eval (.BinOp (.Call (.Name "set" p1) [e] [] q1) .BitOr (.Call (.Name "set" p2) [eb] [] q2) qb) X.env)::starEach [] X.env)(j:Em X e ga)(l:Em X eb gb):
  Em X (.Call (.Name "sorted" p3) [.BinOp (.Call (.Name "set" p1) [e] [] q1) .BitOr (.Call (.Name "set" p2) [eb] [] q2) qb] [] q3) (LR ga gb):=by
 refine⟨A7 (gm hc n1 E g1 g2 h1 h2 N j.p l.p) λσ H Q f=>?_,gn j.m l.m⟩;obtain⟨ω,G,n,K,q⟩:=f;refine⟨ω,G,n,K,j.m _ _ _ _ (λx J g v H1 o z r1=>?_) q⟩;obtain⟨xs,s,B,q1⟩:=g;obtain⟨a,vs,rfl,rfl,P,O,tv⟩:=EX r1 z s;obtain rfl:=LS tv;refine⟨a,xs,rfl,.inl (.inl O),B,ω,J,n.mono o,r1,l.m _ _ _ _ (λy R d u H2 F ty h=>?_) q1⟩;obtain⟨ys,A,k,q2⟩:=d;obtain⟨b,S,rfl,rfl,L,i,t⟩:=EX h ty A;obtain rfl:=LS t;refine⟨b,ys,rfl,.inl (.inl i),k,λzs r I D w c=>?_⟩;exact q2 zs r I D w (h.no c) _ _ (o.trans (F.trans (Mono.new c _))) (.ref r) (h.new c (LU zs))
end
end L3
namespace L3
open PySem PySem.Spec PyProof.Rows L2
def BO{α:Type}(kvs:List (Key×α))(x:Str)(d:α):α:=((kvs.find? λy=>decide (y.1=Sum.inr x)).map (·.2)).getD d
theorem GC{α:Type}{v d:α}{kvs:List (Key×α)}:BO ((k,v)::kvs) x d=if k=Sum.inr x then v else BO kvs x d:=by
 unfold BO;rw[List.find?_cons];by_cases h:k=Sum.inr x
 ·simp[h]
 ·simp[h]
theorem Rl(b:RelV d r):∀{kvs:List (Key×V)}{vs:List (Key×Value)},KV kvs vs->RelV (BO kvs x d) ((valueAt vs (Sum.inr x)).getD r)
 | _,_,.nil=>b
 |(k,v)::kvs,(f,g)::vs,.cons ⟨e,c⟩ t=>by
  have a:=Rl (x:=x) b t;cases(show k=f from e);rw[GC];unfold valueAt at a ⊢;rw[List.find?_cons];by_cases h:k=Sum.inr x
  ·simp[h];exact c
  ·simp[h];exact a
theorem Rm{K:PySem.W.Frag}(td:Tr K H d w):∀{vs:List (Key×V)}{a:List (Key×W)},TrP K H vs a->Tr K H (BO vs x d) (BO a x w)
 | _,_,.nil=>td
 |(k,v)::vs,(_,u)::a,.cons tv t=>by
  rw[GC,GC];split
  ·exact tv
  ·exact Rm td t
def GF(o:W)(ws:List W)(G:Hw)(Q:Kw):Prop:=∃ p kvs x d,o=.ref p/\ws=[.str x,d]/\G p=some (.dct kvs)/\Q (BO kvs x d) G
def GH(o:W)(G:Hw):Prop:=∃ p kvs,o=.ref p/\G p=some (.dct kvs)
theorem gq:MtR X "dict.get" (λv vs H Q=>∃ p kvs x d,v=.ref p/\vs=[.str x,d]/\H p=some (.dK kvs)/\Q (BO kvs x d) H):=by
 intro pins s σ H x vs v i Q I c e h;obtain⟨p,kvs,x,d,rfl,rfl,f,q⟩:=h;cases c;cases e with
 | cons r1 t =>
  cases t with
  | cons g t =>
   cases t;obtain⟨t,rfl⟩:=r1;obtain⟨z,hd,vs,a,b⟩:kvs.length<=sizeLine/\(p==sysModules)=false/\∃ vs,KV kvs vs/\s.heap.DictOf (Bw X.prog X.w) p vs:=I.hok p _ f;refine call_meetsIn PySem.F.slot_dict_get b.typeIs PySem.F.entry_dict_get (PySem.F.args_dict_get_3 _ _ _) (meets_dict_get_default (Bw X.prog X.w) p (k:=Sum.inr x) (by simp[Bw,D2,Value.isStrOf]) hd _) ⟨_,b.mapOf,?_⟩;exact⟨_,H,I.tok _,Rl g a,q⟩
theorem gr:Mth X "dict" "get" "dict.get" GH GF where
 pa:=PySem.F.plainAttrs_dict
 slot:=PySem.F.slot_dict_get
 ty:=PySem.F.type_dict_get
 ex:=⟨_,gq,λo k v vs G H Q tv c r q=>by
  obtain⟨p,a,x,d,rfl,rfl,e,q⟩:=q;cases tv;cases c with
  | cons g t =>
   cases t with
   | cons j t =>
    cases t;cases g;obtain⟨b,f,l⟩:=r p _ e;exact⟨p,b,x,_,rfl,rfl,f,q _ _ .refl (Rm j l) r⟩⟩
 pr:=λo v G H t r h=>by
  obtain⟨p,a,rfl,e⟩:=h;cases t;obtain⟨b,f,l⟩:=r p _ e;exact .inr (.inr (.inl ⟨rfl,.inl ⟨b,f⟩⟩))
 m:=(by rintro o k G Q n h ⟨p,a,x,d,h1,h2,i,q⟩;exact⟨p,a,x,d,h1,h2,i,h _ _ q⟩)
section
end
end L3
namespace L3
open PySem PySem.Spec PyProof.Rows L2
variable {K:PySem.W.Frag}{H H':Hp}
section
theorem gw(u:s.heap.IsTupleIter it l i)(v:s.heap.IsTuple l xs)(c:xs[i]?=some x)(e:∀ h',h'.IsTupleIter it l (i+1)->Heap.SameBut it s.heap h'->Q x {s with heap:=h'}):
  wpAny (model prog w) A (Builtin.SmallTypes.nextOf (.ref it)) Q E s:=by
 obtain⟨j,b,f,a⟩:=id u;obtain⟨h,el,_,g,d⟩:=v;unfold Builtin.SmallTypes.nextOf;refine Ql (wpAny_callSpecial?_slot (name:=Str.ofString "__next__") u.typeIs PySem.F.slot_tuple_iterator_next (wpAny_call_entry PySem.F.slot_tuple_iterator_next u.typeIs PySem.F.entry_tuple_iterator_next ?_ (PySem.F.args_tuple_iterator_next_1 _)));refine Ql (m:=field (.ref it) 0) (wpAny_field b a (x:=.ref l) rfl ?_);show wpAny (model prog w) _ (if(Value.ref l==Value.none)=true then _ else _) _ E s;rw[if_neg (show ¬ ((Value.ref l==Value.none)=true)from YW)];refine Ql (m:=field (.ref it) 1) (wpAny_field b a (x:=.int i 0) rfl ?_);refine Ql (m:=seqItems? (.ref l)) (wpAny_seqItems el d ?_);simp only[Int.toNat_natCast];rw[c];refine Ql (wpAny_setField b a (by simp) (Qm ⟨x,rfl,Qm (e _ ⟨_,Qs _ b (Obj.isFreed_of_fields (Obj.data_mapFields a _)),(Obj.cls_mapFields ..).trans f,?_⟩ (Qr ..))⟩));rw[Obj.data_mapFields a];simp[rawInt]
theorem gz(g:A.handled=none)(u:s.heap.IsTupleIter it l i)(v:s.heap.IsTuple l xs)(d:xs[i]?=none)(h:∀ h' e,Heap.ExtBut it s.heap h'->(∃ o,h'.get? e=some o/\o.cls=.type "StopIteration")->E (.ref e) {s with heap:=h'}):wpAny (model prog w) A (Builtin.SmallTypes.nextOf (.ref it)) Q E s:=by
 obtain⟨n,b,p,c⟩:=id u;obtain⟨k,el,_,j,f⟩:=v;unfold Builtin.SmallTypes.nextOf;refine Ql (wpAny_callSpecial?_slot (name:=Str.ofString "__next__") u.typeIs PySem.F.slot_tuple_iterator_next (wpAny_call_entry PySem.F.slot_tuple_iterator_next u.typeIs PySem.F.entry_tuple_iterator_next ?_ (PySem.F.args_tuple_iterator_next_1 _)));refine Ql (m:=field (.ref it) 0) (wpAny_field b c (x:=.ref l) rfl ?_);show wpAny (model prog w) _ (if(Value.ref l==Value.none)=true then _ else _) _ E s;rw[if_neg (show ¬ ((Value.ref l==Value.none)=true)from YW)];refine Ql (m:=field (.ref it) 1) (wpAny_field b c (x:=.int i 0) rfl ?_);refine Ql (m:=seqItems? (.ref l)) (wpAny_seqItems el f ?_);simp only[Int.toNat_natCast];rw[d];refine Ql (wpAny_rule (Ql (wpAny_setField b c (by simp) ?_)));refine Ql (m:=newExc (.type "StopIteration") []) ?_;simp only[newExc,newTuple];refine Ql (wpAny_newObj_type ?_ (by size_fits));refine Ql (m:=firstArgMember _ _) (wpAny_of_eq (a:=Value.none) (by first | rfl |(simp only[firstArgMember];rfl)) (wpAny_newObj_type ?_ (by size_fits)));simp only[raiseNew];refine Ql (wpAny_handled ?_);rw[show A.in1.handled=none from g];refine Ql (Qm (wpAny_throw ?_));exact h _ _ (((Qr ..).extBut.push _).push _) ⟨_,Qp _ rfl,rfl⟩
theorem tat{h h':Heap}(x:h.IsTupleIter a t i)(k:∀ o,h.get? a=some o->h'.get? a=some o):h'.IsTupleIter a t i:=by
 obtain⟨o,e,r⟩:=x;exact⟨o,k o e,r⟩
def itN(t:Bool):String:=bif t then "tuple_iterator" else "list_iterator"
def ItX(t:Bool)(h:Heap)(a l:Addr)(i:Nat):Prop:=∃ o,h.get? a=some o/\o.cls=.type (itN t)/\o.data=.fields #[.ref l,.int i 0]
def SqH(t:Bool)(h:Heap)(l:Addr)(xs:Array Value):Prop:=match t with | true=>h.IsTuple l xs | false=>h.IsList l xs
theorem ItX.at(x:ItX t h a l i)(k:∀ o,h.get? a=some o->h'.get? a=some o):ItX t h' a l i:=by
 obtain⟨o,e,r⟩:=x;exact⟨o,k o e,r⟩
theorem ItX.extBut(x:ItX t h a l i)(k:Heap.ExtBut b h h')(n:a≠b):ItX t h' a l i:=x.at λo e=>k a o n e
theorem SqH.at(x:SqH t h l xs)(k:∀ o,h.get? l=some o->h'.get? l=some o):SqH t h' l xs:=by
 cases t
 ·obtain⟨o,e,r⟩:=x;exact⟨o,k o e,r⟩
 ·obtain⟨o,e,r⟩:=x;exact⟨o,k o e,r⟩
theorem SqH.extBut(x:SqH t h l xs)(k:Heap.ExtBut b h h')(n:l≠b):SqH t h' l xs:=x.at λo e=>k l o n e
theorem SqH.lt(x:SqH t h l xs):l < h.objs.size:=by
 cases t
 ·obtain⟨o,e,r⟩:=x;exact Qo e
 ·obtain⟨o,e,r⟩:=x;exact Qo e
theorem LV(u:ItX t s.heap it l i)(v:SqH t s.heap l xs)(a:xs[i]?=some x)(b:∀ h',ItX t h' it l (i+1)->Heap.SameBut it s.heap h'->Q x {s with heap:=h'}):
  wpAny (model prog w) A (Builtin.SmallTypes.nextOf (.ref it)) Q E s:=by
 cases t
 ·exact wpAny_nextOf_list_item u v a b
 ·exact gw u v a b
theorem Rn(c:A.handled=none)(u:ItX t s.heap it l i)(v:SqH t s.heap l xs)(b:xs[i]?=none)(a:∀ h' e,Heap.ExtBut it s.heap h'->(∃ o,h'.get? e=some o/\o.cls=.type "StopIteration")->E (.ref e) {s with heap:=h'}):wpAny (model prog w) A (Builtin.SmallTypes.nextOf (.ref it)) Q E s:=by
 cases t
 ·exact wpAny_nextOf_list_end c u v b a
 ·exact gz c u v b a
theorem Ro(v:SqH t s.heap l xs)(a:Q (.ref s.heap.objs.size) {s with heap:=s.heap.push {cls:=.type (itN t),data:=.fields #[.ref l,.int 0 0]}}):wpAny (model prog w) A (pyIter (.ref l)) Q E s:=by
 cases t
 ·exact wpAny_pyIter_list v a
 ·exact wpAny_pyIter_tuple v a
theorem gA{TI TO K:Addr}{Q:Value->Shared->Prop}(D:ZipApart z TI TO G F N K)(P:IsZip s.heap z TI TO .none)(Y:IsPair s.heap TI (.ref G) (.ref F))(U:IsPair s.heap TO a b)(u1:ItX t1 s.heap G N k1)(u2:ItX t2 s.heap F K k2)(v1:SqH t1 s.heap N xs)(v2:SqH t2 s.heap K ys)(hx:xs[k1]?=some x)(hy:ys[k2]?=some y)(hQ:∀ h',IsZip h' z TI TO (rawInt s.heap.objs.size)->IsPair h' TO x y->ItX t1 h' G N (k1+1)->ItX t2 h' F K (k2+1)->IsPair h' s.heap.objs.size x y->(∀ c o,c≠z->c≠TO->c≠G->c≠F->s.heap.get? c=some o->h'.get? c=some o)->Q (.ref s.heap.objs.size) {s with heap:=h'}):
  wpAny (model prog w) A (Builtin.«zip.__next__» ⟨[.ref z],[]⟩) (λZ s'=>∃ v,Z=.done (.ret v)/\Q v s') E s:=by
 refine Ql (m:=field (.ref z) 2) (wpAny_field P rfl (x:=.bool false) rfl ?_);refine Ql (m:=field (.ref z) 3) (wpAny_field P rfl (x:=.ref TI) rfl (Ql (m:=seqItems? (.ref TI)) (wpAny_seqItems Y rfl ?_)));refine Ql (m:=Builtin.SmallTypes.ownedTupleIsFree (.ref z)) ?_;unfold Builtin.SmallTypes.ownedTupleIsFree;refine Ql (m:=field (.ref z) 0) (wpAny_field P rfl (x:=.none) rfl (Qm ?_));simp only[if_true];refine Ql (wpAny_rule (Ql (wpAny_field P rfl (x:=.ref TO) rfl (Ql (wpAny_setField_rec P (by simp) λT n f=>?_)))));replace n:IsZip T z TI TO .ellipsis:=n;refine Ql ?_;simp only[List.zipIdx_cons,List.zipIdx_nil,List.forIn_cons,List.forIn_nil];refine Ql (Ql (wpAny_onRaise ?_));refine Ql (m:=Builtin.SmallTypes.nextOf (.ref G)) ?_;refine LV (u1.extBut f.extBut D.i1z) (v1.extBut f.extBut D.l1z) hx λS w1 h=>Qm ?_;have hTO₂:IsPair S TO a b:=h.extBut _ _ D.TOi1 (f.extBut _ _ D.TOz U);refine Ql (wpAny_seqItems hTO₂ rfl (Ql (wpAny_updateSeq_pair hTO₂ λH hTO₃ g=>?_)));replace hTO₃:IsPair H TO x b:=hTO₃;refine Ql (wpAny_letGo (Qm ?_));refine Ql (Ql (wpAny_onRaise ?_));refine Ql (m:=Builtin.SmallTypes.nextOf (.ref F)) ?_;refine LV (((u2.extBut f.extBut D.i2z).extBut h.extBut D.i12.symm).extBut g.extBut D.TOi2.symm) (((v2.extBut f.extBut D.l2z).extBut h.extBut D.l2i1).extBut g.extBut D.l2TO) hy λO w2 j=>Qm ?_;have hTO₄:IsPair O TO x b:=j.extBut _ _ D.TOi2 hTO₃;refine Ql (wpAny_seqItems hTO₄ rfl (Ql (wpAny_updateSeq_pair hTO₄ λd hTO₅ i=>?_)));replace hTO₅:IsPair d TO x y:=hTO₅;refine Ql (wpAny_letGo (Qm (Qm ?_)));refine Ql (wpAny_seqItems hTO₅ rfl (Ql (wpAny_newTuple ?_ (by show(2:Nat)<=sizeLine;decide))));have J:d.objs.size=s.heap.objs.size:=by rw[i.1,j.1,g.1,h.1,f.1]
 have q:IsZip d z TI TO .ellipsis:=i.extBut _ _ D.TOz.symm (j.extBut _ _ D.i2z.symm (g.extBut _ _ D.TOz.symm (h.extBut _ _ D.i1z.symm n)));have w1':ItX t1 d G N (k1+1):=((w1.extBut g.extBut D.TOi1.symm).extBut j.extBut D.i12).extBut i.extBut D.TOi1.symm;have X:ItX t2 d F K (k2+1):=w2.extBut i.extBut D.TOi2.symm;refine Ql (m:=Builtin.SmallTypes.ownedTupleHandOut (.ref z) (.ref d.objs.size)) ?_;unfold Builtin.SmallTypes.ownedTupleHandOut;have B:IsZip (d.push {cls:=.type "tuple",data:=.seq #[x,y]}) z TI TO .ellipsis:=Qn _ q;refine Ql (wpAny_setField_rec B (by simp) λL l t=>?_);replace l:IsZip L z TI TO (rawInt d.objs.size):=l;refine wpAny_setField_rec l (by simp) λp k r=>?_;replace k:IsZip p z TI TO (rawInt d.objs.size):=k;have I:d.objs.size≠z:=Nat.ne_of_gt (Qo q);have u:∀ c o,c≠z->d.get? c=some o->p.get? c=some o:=λc o R e=>r.extBut _ _ R (t.extBut _ _ R (Qn _ e));have hT₈:IsPair p d.objs.size x y:=r.extBut _ _ I (t.extBut _ _ I (Qp _ rfl));rw[J]at k hT₈;refine Qm ⟨_,rfl,(?_:Q (.ref d.objs.size) _)⟩;rw[J];exact hQ p k (u _ _ D.TOz hTO₅) (w1'.at λo e=>u _ o D.i1z e) (X.at λo e=>u _ o D.i2z e) hT₈ λc o R c2 c3 c4 e=>u c o R (i.extBut _ _ c2 (j.extBut _ _ c4 (g.extBut _ _ c2 (h.extBut _ _ c3 (f.extBut _ _ R e)))))
theorem gD{TI TO:Addr}(Z:A.handled=none)(D:ZipApart z TI TO I v P O)(G:IsZip s.heap z TI TO .none)(R:IsPair s.heap TI (.ref I) (.ref v))(K:IsPair s.heap TO a b)(u1:ItX t1 s.heap I P k1)(u2:ItX t2 s.heap v O k2)(Y:SqH t1 s.heap P xs)(v2:SqH t2 s.heap O ys)(F:xs[k1]?=none\/ys[k2]?=none)(X:∀ h' e,(∀ c o,c≠z->c≠TO->c≠I->c≠v->s.heap.get? c=some o->h'.get? c=some o)->(∃ o,h'.get? e=some o/\o.cls=.type "StopIteration")->E (.ref e) {s with heap:=h'}):wpAny (model prog w) A (Builtin.«zip.__next__» ⟨[.ref z],[]⟩) Q E s:=by
 refine Ql (m:=field (.ref z) 2) (wpAny_field G rfl (x:=.bool false) rfl ?_);refine Ql (m:=field (.ref z) 3) (wpAny_field G rfl (x:=.ref TI) rfl (Ql (m:=seqItems? (.ref TI)) (wpAny_seqItems R rfl ?_)));refine Ql (m:=Builtin.SmallTypes.ownedTupleIsFree (.ref z)) ?_;unfold Builtin.SmallTypes.ownedTupleIsFree;refine Ql (m:=field (.ref z) 0) (wpAny_field G rfl (x:=.none) rfl (Qm ?_));simp only[if_true];refine Ql (wpAny_rule (Ql (wpAny_field G rfl (x:=.ref TO) rfl (Ql (wpAny_setField_rec G (by simp) λJ h d=>?_)))));replace h:IsZip J z TI TO .ellipsis:=h;refine Ql ?_;simp only[List.zipIdx_cons,List.zipIdx_nil,List.forIn_cons,List.forIn_nil];refine Ql (Ql (wpAny_onRaise ?_));refine Ql (m:=Builtin.SmallTypes.nextOf (.ref I)) ?_;cases N:xs[k1]? with
 | none =>
  refine Rn Z (u1.extBut d.extBut D.i1z) (Y.extBut d.extBut D.l1z) N λr e f S=>?_;obtain⟨T,i,k⟩:=S;have n:IsZip r z TI TO .ellipsis:=f _ _ D.i1z.symm h;have u:e≠z:=λq=>by subst q;rw[n]at i;cases i;simp at k
  exact wpAny_setField_rec n (by simp) λt _ g=>X t e (λc o H _ L _ q=>g.extBut _ _ H (f _ _ L (d.extBut _ _ H q))) ⟨T,g.extBut _ _ u i,k⟩
 | some x =>
  have hy:ys[k2]?=none:=by
   rcases F with q | q
   ·rw[N]at q;cases q
   ·exact q
  refine LV (u1.extBut d.extBut D.i1z) (Y.extBut d.extBut D.l1z) N λr w1 f=>Qm ?_;have hTO₂:IsPair r TO a b:=f.extBut _ _ D.TOi1 (d.extBut _ _ D.TOz K);refine Ql (wpAny_seqItems hTO₂ rfl (Ql (wpAny_updateSeq_pair hTO₂ λt hTO₃ g=>?_)));refine Ql (wpAny_letGo (Qm ?_));refine Ql (Ql (wpAny_onRaise ?_));refine Ql (m:=Builtin.SmallTypes.nextOf (.ref v)) ?_;refine Rn Z (((u2.extBut d.extBut D.i2z).extBut f.extBut D.i12.symm).extBut g.extBut D.TOi2.symm) (((v2.extBut d.extBut D.l2z).extBut f.extBut D.l2i1).extBut g.extBut D.l2TO) hy λB e p U=>?_;obtain⟨T,i,k⟩:=U;have j:IsZip B z TI TO .ellipsis:=p _ _ D.i2z.symm (g.extBut _ _ D.TOz.symm (f.extBut _ _ D.i1z.symm h));have u:e≠z:=λq=>by subst q;rw[j]at i;cases i;simp at k
  exact wpAny_setField_rec j (by simp) λy _ l=>X y e (λc o H c2 L c4 q=>l.extBut _ _ H (p _ _ c4 (g.extBut _ _ c2 (f.extBut _ _ L (d.extBut _ _ H q))))) ⟨T,l.extBut _ _ u i,k⟩
abbrev zX1(t1:Bool)(h:Heap)(l1:Addr):Heap:=h.push {cls:=.type (itN t1),data:=.fields #[.ref l1,.int 0 0]}
abbrev zX2(t1 t2:Bool)(h:Heap)(l1 l2:Addr):Heap:=(zX1 t1 h l1).push {cls:=.type (itN t2),data:=.fields #[.ref l2,.int 0 0]}
abbrev zX3(t1 t2:Bool)(h:Heap)(l1 l2:Addr):Heap:=(zX2 t1 t2 h l1 l2).push {cls:=.type "tuple",data:=.seq #[.ref h.objs.size,.ref (zX1 t1 h l1).objs.size]}
abbrev zX4(t1 t2:Bool)(h:Heap)(l1 l2:Addr):Heap:=(zX3 t1 t2 h l1 l2).push {cls:=.type "tuple",data:=.seq #[.none,.none]}
abbrev zX5(t1 t2:Bool)(h:Heap)(l1 l2:Addr):Heap:=(zX4 t1 t2 h l1 l2).push {cls:=.type "zip",data:=.fields #[.none,.bool false,.bool false,.ref (zX2 t1 t2 h l1 l2).objs.size,.ref (zX3 t1 t2 h l1 l2).objs.size]}
theorem gE(t1 t2:Bool)(a b:Addr)(xs ys:Array Value):Meets (Builtin.«zip.__new__» ⟨[.type "zip",.ref a,.ref b],[]⟩) (λ_ R s=>SqH t1 s.heap a xs/\SqH t2 s.heap b ys/\R (.ok (.ret (.ref (zX4 t1 t2 s.heap a b).objs.size))) {s with heap:=zX5 t1 t2 s.heap a b}):=
 .of_wp λprog w A R s h=>by
  obtain⟨i,g,d,tk,os⟩:=s;obtain⟨l,k,h⟩:=h;have j:=sub_zip;have c:SqH t1 (Shared.heap ⟨i,g,d,tk,os⟩) a xs:=l;have f:SqH t2 (Shared.heap ⟨i.push {cls:=.type (itN t1),data:=.fields #[.ref a,.int 0 0]},g,d,tk,os⟩) b ys:=k.at λ_ e=>Qn _ e;wp_walk using Ro c,Ro f;exact⟨_,rfl,h⟩
theorem gF{s:Shared}(l:SqH t1 s.heap a xs)(j:SqH t2 s.heap b ys)(h:∀ h',IsZip h' (s.heap.objs.size+4) (s.heap.objs.size+2) (s.heap.objs.size+3) .none->IsPair h' (s.heap.objs.size+2) (.ref s.heap.objs.size) (.ref (s.heap.objs.size+1))->IsPair h' (s.heap.objs.size+3) .none .none->ItX t1 h' s.heap.objs.size a 0->ItX t2 h' (s.heap.objs.size+1) b 0->h'.objs.size=s.heap.objs.size+5->(∀ c o,s.heap.get? c=some o->h'.get? c=some o)->Q (.ref (s.heap.objs.size+4)) {s with heap:=h'}):
  wpAny (model prog w) A (call (.type "zip") [.ref a,.ref b]) Q E s:=by
 refine callType_new PySem.F.called_zip (by decide) (PySem.F.typeCall_zip_2 _ _) (PySem.F.newCall_zip_2 _ _) (λobj=>PySem.F.args_object_init_3 obj _ _) PySem.F.entry_zip_new (gE t1 t2 a b xs ys) ⟨l,j,?_⟩;have g:(zX1 t1 s.heap a).objs.size=s.heap.objs.size+1:=Qq ..;have d:(zX2 t1 t2 s.heap a b).objs.size=s.heap.objs.size+2:=by rw[Qq,g]
 have i:(zX3 t1 t2 s.heap a b).objs.size=s.heap.objs.size+3:=by rw[Qq,d]
 have f:(zX4 t1 t2 s.heap a b).objs.size=s.heap.objs.size+4:=by rw[Qq,i]
 have k:(zX5 t1 t2 s.heap a b).objs.size=s.heap.objs.size+5:=by rw[Qq,f]
 have e:(zX5 t1 t2 s.heap a b).get? (zX4 t1 t2 s.heap a b).objs.size=some _:=Qp _ rfl;have g4:(zX5 t1 t2 s.heap a b).get? (zX3 t1 t2 s.heap a b).objs.size=some _:=Qn _ (Qp _ rfl);have g3:(zX5 t1 t2 s.heap a b).get? (zX2 t1 t2 s.heap a b).objs.size=some _:=Qn _ (Qn _ (Qp _ rfl));have g2:(zX5 t1 t2 s.heap a b).get? (zX1 t1 s.heap a).objs.size=some _:=Qn _ (Qn _ (Qn _ (Qp _ rfl)));have g1:(zX5 t1 t2 s.heap a b).get? s.heap.objs.size=some _:=Qn _ (Qn _ (Qn _ (Qn _ (Qp _ rfl))));rw[d,i,f]at e;rw[g,d]at g3;rw[i]at g4;rw[g]at g2;rw[f];exact⟨⟨_,e,rfl⟩,h _ e g3 g4 ⟨_,g1,rfl,rfl⟩ ⟨_,g2,rfl,rfl⟩ k λc o x=>Qn _ (Qn _ (Qn _ (Qn _ (Qn _ x))))⟩
end
def SqX(t:Bool)(K:PySem.W.Frag)(H:Hp)(a:Addr)(xs:List V):Prop:=match t with | true=>SqT K H a xs | false=>SqL K H a xs
theorem FY{σ:St}(I:Inv X pins σ H s)(h:SqX t X.K H a xs):∃ b:List Value,Vals xs b/\SqH t s.heap a b.toArray:=by
 cases t
 ·obtain⟨b,r,p,_⟩:=I.list h;exact⟨b,r,p.isList⟩
 ·obtain⟨b,r,p,_⟩:=I.tuple h;exact⟨b,r,p⟩
theorem Rp{σ:St}(I:Inv X pins σ H s)(h:SqX t X.K H a xs)(h':SqX t X.K H a ys):xs=ys:=by
 cases t
 ·exact I.list_inj h h'
 ·exact I.tuple_inj h h'
def Rq(t1 t2:Bool)(K:PySem.W.Frag)(l1 l2:Addr):It :=
 ⟨λi H=>∃ xs ys,SqX t1 K H l1 xs/\SqX t2 K H l2 ys/\i < xs.length/\i < ys.length,
  λi H v H'=>∃ T x y,H T=none/\v=.ref T/\H'=upd H T (.tup [x,y])/\∀ xs ys,SqX t1 K H l1 xs->SqX t2 K H l2 ys->xs[i]?=some x/\ys[i]?=some y,
  λi H=>∃ xs ys,SqX t1 K H l1 xs/\SqX t2 K H l2 ys/\i=min xs.length ys.length⟩
theorem gG{TI TO:Addr}(D:ZipApart z TI TO t n l1 Z):
  Dv P w K (.Tuple L k tpos) (Rq t1 t2 K l1 Z) [z,TI,TO,t,n] z (λi h=>IsZip h z TI TO .none/\IsPair h TI (.ref t) (.ref n)/\(∃ a b,IsPair h TO a b)/\ItX t1 h t l1 i/\ItX t2 h n Z i):=
 have obj:∀{i h},(IsZip h z TI TO .none/\IsPair h TI (.ref t) (.ref n)/\(∃ a b,IsPair h TO a b)/\ItX t1 h t l1 i/\ItX t2 h n Z i)->∀ b∈[z,TI,TO,t,n],∃ o,h.get? b=some o/\∀ v,o.data≠.cell v:=λst b d=>by
  obtain⟨r,f,⟨a,c,g⟩,⟨o1,e1,_,d1⟩,⟨o2,e2,_,d2⟩⟩:=st;simp only[Yo,Qc,or_false]at d;rcases d with rfl | rfl | rfl | rfl | rfl
  ·exact⟨_,r,λv z=>by cases z⟩
  ·exact⟨_,f,λv z=>by cases z⟩
  ·exact⟨_,g,λv z=>by cases z⟩
  ·exact⟨o1,e1,λv z=>by rw[d1]at z;cases z⟩
  ·exact⟨o2,e2,λv z=>by rw[d2]at z;cases z⟩
 {mem:=by simp
  obj:=λi h st=>obj st
  keep:=λi h h' st N=>by
   obtain⟨r,f,⟨a,c,g⟩,h1,h2⟩:=st;exact⟨N z (by simp) _ r,N TI (by simp) _ f,⟨a,c,N TO (by simp) _ g⟩,h1.at λo e=>N t (by simp) o e,h2.at λo e=>N n (by simp) o e⟩
  item:=by
   intro X hP hw hK hc i pins s σ H E I hf st hg;have ob:=obj st;subst hP hw hK;obtain⟨xs,ys,Y,hy,hix,hiy⟩:=hg;obtain⟨u,r1,G⟩:=FY I Y;obtain⟨B,r2,J⟩:=FY I hy;obtain⟨r,f,⟨a,b,g⟩,h1,h2⟩:=st;have O:s.TypeIs (.ref z) "zip":=⟨_,r,rfl⟩;have gx:xs[i]?=some xs[i]:=Yp hix;have gy:ys[i]?=some ys[i]:=Yp hiy;obtain⟨u1,q1,rv1⟩:=r1.get gx;obtain⟨u2,q2,rv2⟩:=r2.get gy;unfold pyNext;refine Ql (wpAny_attempt (wpAny_callSpecial?_slot (name:=Str.ofString "__next__") O PySem.F.slot_zip_next (wpAny_call_entry PySem.F.slot_zip_next O PySem.F.entry_zip_next (gA D r f g h1 h2 G J (x:=u1) (y:=u2) (by simpa using q1) (by simpa using q2) λh' a1 a2 a3 a4 a5 hk=>Qm ?_) (PySem.F.args_zip_next_1 _))));refine⟨_,rfl,wpAny_letOwnedTupleGo_zip a1 λh2 hz' j=>?_⟩;have lt:∀{b:Addr}{o:Obj},s.heap.get? b=some o->b≠s.heap.objs.size:=λe=>Ys (Qo e);have l:∀ b,b∉[z,TI,TO,t,n]->b≠z/\b≠TO/\b≠t/\b≠n:=λb d=>⟨λe=>d (by simp[e]),λe=>d (by simp[e]),λe=>d (by simp[e]),λe=>d (by simp[e])⟩;have I1:Inv X pins σ H {s with heap:=h2}:=Inv.turneds (t':=s.toks) I hf λb o d e=>j.extBut _ _ (l b d).1 (hk b o (l b d).1 (l b d).2.1 (l b d).2.2.1 (l b d).2.2.2 e);have R:H s.heap.objs.size=none:=I.hok.fresh (Yr _);have hTz:s.heap.objs.size≠z:=YY (lt r)
   have I2:Inv X pins σ (upd H s.heap.objs.size (.tup [xs[i],ys[i]])) {s with heap:=h2}:=by
    refine I1.track R ?_ (λx c e=>?_) (λp hp=>?_) ?_ ⟨by show 2<=sizeLine;decide,[u1,u2],.cons rv1 (.cons rv2 .nil),⟨_,j.extBut _ _ hTz a5,rfl,rfl,_,rfl⟩⟩
    ·obtain⟨m,⟨o,es,ep,U,_⟩,_⟩:=I.loc;exact YY (lt U)
    ·obtain⟨v,o,U,_⟩:=I.cell x c e;exact lt U
    ·exact lt (I.pin p hp).1
    ·cases e:X.s₀.heap.get? s.heap.objs.size with
     | none=>rfl
     | some o=>exact absurd (Yu (Qo e) I.sz) (YL _)
   refine⟨.ref s.heap.objs.size,_,I2,rfl,⟨_,_,_,R,rfl,rfl,λxs' ys' hx' hy'=>?_⟩,⟨hz',j.extBut _ _ D.TIz (hk _ _ D.TIz D.TITO D.TIi1 D.TIi2 f),⟨_,_,j.extBut _ _ D.TOz a2⟩,a3.extBut j.extBut D.i1z,a4.extBut j.extBut D.i2z⟩,λb d=>?_⟩
   ·rw[Rp I hx' Y,Rp I hy' hy];exact⟨gx,gy⟩
   ·obtain⟨o,e,_⟩:=ob b d;rw[AZ (lt e)];exact(hf b d).1
  done:=by
   intro X hP hw hK hc i pins s σ H E I hf st hg;subst hP hw hK;obtain⟨xs,ys,Y,hy,hi⟩:=hg;obtain⟨u,r1,G⟩:=FY I Y;obtain⟨B,r2,J⟩:=FY I hy;have n1:=r1.length;have n2:=r2.length;obtain⟨r,f,⟨a,b,g⟩,h1,h2⟩:=st;have O:s.TypeIs (.ref z) "zip":=⟨_,r,rfl⟩
   have S:u.toArray[i]?=none\/B.toArray[i]?=none:=by
    rcases Nat.le_total xs.length ys.length with q | q
    ·exact .inl (Array.getElem?_eq_none (by simp only[Yn];lia))
    ·exact .inr (Array.getElem?_eq_none (by simp only[Yn];lia))
   unfold pyNext;refine Ql (wpAny_attempt (wpAny_callSpecial?_slot (name:=Str.ofString "__next__") O PySem.F.slot_zip_next (wpAny_call_entry PySem.F.slot_zip_next O PySem.F.entry_zip_next (gD (I.ok.hd hc) D r f g h1 h2 G J S λh' e hk he=>?_) (PySem.F.args_zip_next_1 _))));obtain⟨o,U,hc⟩:=he;exact Ql (wpAny_isInstance (T:="StopIteration") (b:=true) ⟨o,U,hc⟩ isSubtype_stop (Qm ⟨rfl,Inv.turneds (t':=s.toks) I hf λb o d e=>hk b o (λe=>d (by simp[e])) (λe=>d (by simp[e])) (λe=>d (by simp[e])) (λe=>d (by simp[e])) e⟩))
  self:=λA i s Q E st h=>wpAny_pyIter_zip st.1 h}
def gH(t1 t2:Bool)(K:PySem.W.Frag)(ta:TA):TI:=λσ H R=>ta σ H λvs H1=>∃ a b xs ys,vs=[.ref a,.ref b]/\SqX t1 K H1 a xs/\SqX t2 K H1 b ys/\R (Rq t1 t2 K a b) H1
theorem gI(B:Gl X "zip")(G:X.mg "zip"=none)(J:PA X [a,b] ta)(hs:starEach [a,b] X.env=[(false,eval a X.env),(false,eval b X.env)])(i:starEach [b] X.env=[(false,eval b X.env)]):
  PI X (.Tuple c k tpos) (.Call (.Name "zip" p) [a,b] [] pos) (gH t1 t2 X.K ta):=by
 intro pins s σ H R I h;refine Call_ (CY I B G boot_zip (Qg (thn (J pos pins s σ H _ I h) λQ w o=>?_) (by rw[hs,i]) (by rw[i];rfl)));obtain⟨vs,H1,d,r1,q1⟩:=o;obtain⟨P,O,xs,ys,e,A,F,q⟩:=q1;subst e;obtain⟨u,N,rfl,E,n⟩:=KH r1;cases E;cases n;obtain⟨v,_,g⟩:=FY d A;obtain⟨y,_,j⟩:=FY d F;refine gF g j λh' x m l t r D L=>wpAny_pyIter_zip x ?_;refine⟨_,_,_,_,H1,rfl,d.kept (t':=w.toks) L,gG (zipApart_new g.lt j.lt),⟨x,m,⟨_,_,l⟩,t,r⟩,λb z=>?_,q⟩
 have f:w.heap.objs.size<=b:=by
  simp only[Yo,Qc,or_false]at z;rcases z with rfl | rfl | rfl | rfl | rfl
  ·exact Qb _ 4
  ·exact Qb _ 2
  ·exact Qb _ 3
  ·exact Yr _
  ·exact Qb _ 1
 exact d.fpOk f (d.hok.fresh f)
theorem gJ(t:Tr K H v (.tup xs)):∃ a vs,v=.ref a/\SqT K H a vs/\TrL K H vs xs:=by
 cases t with
 | tup h l=>exact⟨_,_,rfl,h,l⟩
def rdX(t:Bool)(G:Hw)(x:W):Option (List W):=match t,x with | true,.tup xs=>some xs | true,_=>none | false,x=>rdL G x
theorem HZ(r:RelH K H G)(b:Tr K H v x)(e:rdX t G x=some xs):∃ a vs,v=.ref a/\SqX t K H a vs/\TrL K H vs xs:=by
 cases t
 ·exact Gy r b e
 ·unfold rdX at e;split at e
  ·cases e;exact gJ b
  ·cases e
  ·rename_i h;cases h
def Rr(t1 t2:Bool)(gs:GA):GI:=λω G R=>gs ω G λws G1=>∃ x y xs ys,ws=[x,y]/\rdX t1 G1 x=some xs/\rdX t2 G1 y=some ys/\R (Bx xs ys) (λG=>rdX t1 G x=some xs/\rdX t2 G y=some ys) G1
theorem gK(m:gs.M):GI.M (Rr t1 t2 gs):=λω G R f h q=>m _ _ _ _ ((by rintro d c ⟨x,y,xs,ys,e,b,a,z⟩;exact⟨x,y,xs,ys,e,b,a,h _ _ _ z⟩)) q
theorem LW(t1 t2:Bool)(hm:X.mg "zip"=none)(hg:Gl X "zip")(hs:starEach [a,b] X.env=[(false,eval a X.env),(false,eval b X.env)])(J:starEach [b] X.env=[(false,eval b X.env)])(F:Am X [a,b] gs):
  Im X (.Tuple s k tpos) (.Call (.Name "zip" p) [a,b] [] pos) (Rr t1 t2 gs):=by
 refine⟨⟨_,gI (t1:=t1) (t2:=t2) hg hm F.p hs J,λσ H ω G R R0 Y r q U=>⟨ω,G,Y,r,F.m _ _ _ _ (λws G1 z vs H1 m t r1=>?_) q⟩⟩,gK F.m⟩;obtain⟨x,y,xs,ys,rfl,P,N,z⟩:=z;cases t with
 | cons O t =>
  cases t with
  | cons ty t =>
   cases t;obtain⟨S,B,rfl,A,l1⟩:=HZ r1 O P;obtain⟨Q,w,rfl,D,l2⟩:=HZ r1 ty N
   have two:∀{e j},Mono X.K H1 e->RelH X.K e j->(rdX t1 j x=some xs/\rdX t2 j y=some ys)->∃ d c,SqX t1 X.K e S d/\TrL X.K e d xs/\SqX t2 X.K e Q c/\TrL X.K e c ys:=λ{e j}g f g3=>by
    obtain⟨b1,d,e3,n,o⟩:=HZ f (O.mono g) g3.1;obtain⟨b2,c,Z,h,l⟩:=HZ f (ty.mono g) g3.2;cases e3;cases Z;exact⟨d,c,n,o,h,l⟩
   refine⟨S,Q,B,w,rfl,A,D,U _ _ _ H1 _ z m r1 ⟨P,N⟩ ⟨λi e j g f g3 hi=>?_,λi e j v H4 g f g3 y3 hi=>?_,λe j g f g3=>?_⟩⟩
   ·obtain⟨d,c,n,o,h,l⟩:=two g f g3;rw[Lw]at hi;exact⟨d,c,n,h,by rw[o.length];lia,by rw[l.length];lia⟩
   ·obtain⟨d,c,n,o,h,l⟩:=two g f g3;obtain⟨T,v1,v2,L,rfl,rfl,hv⟩:=y3;obtain⟨g1,g2⟩:=hv _ _ n h;obtain⟨w1,q1,I⟩:=o.get' g1;obtain⟨w2,q2,u⟩:=l.get' g2;have E:Mono X.K e (upd e T (.tup [v1,v2])):=Mono.new L _;exact⟨E,f.mono0 L,_,QI _ _ i q1 q2,.tup (SqT.of BS) (.cons (I.mono E) (.cons (u.mono E) .nil))⟩
   ·obtain⟨d,c,n,o,h,l⟩:=two g f g3;exact⟨d,c,n,h,by rw[Lw,o.length,l.length]⟩
theorem LX(h:Im X tg e gi)(m:GI.M a)(i:∀ ω G R,a ω G R->gi ω G R):Im X tg e a:=by
 obtain⟨⟨b,p,f⟩,_⟩:=h;exact⟨⟨b,p,λσ H ω G R d g r q c=>f σ H ω G R d g r (i _ _ _ q) c⟩,m⟩
def B3(gs:GA):GI:=λω G R=>gs ω G λws G1=>∃ xs ys,ws=[.tup xs,.tup ys]/\R (Bx xs ys) yes G1
theorem gL(m:gs.M):GI.M (B3 gs):=λω G R c h q=>m _ _ _ _ ((by rintro b a ⟨xs,ys,e,z⟩;exact⟨xs,ys,e,h _ _ _ z⟩)) q
theorem FZ(f:X.mg "zip"=none)(g:Gl X "zip")(hs:starEach [a,b] X.env=[(false,eval a X.env),(false,eval b X.env)])(d:starEach [b] X.env=[(false,eval b X.env)])(e:Am X [a,b] gs):
  Im X (.Tuple c k tpos) (.Call (.Name "zip" p) [a,b] [] pos) (B3 gs):=
 LX (LW true true f g hs d e) (gL e.m) λω G R q=>e.m _ _ _ _ (by
  rintro i h ⟨xs,ys,rfl,z⟩;refine⟨_,_,xs,ys,rfl,rfl,rfl,?_⟩;rw[show(λG=>rdX true G (.tup xs)=some xs/\rdX true G (.tup ys)=some ys)=yes from funext λ_=>propext ⟨λ_=>trivial,λ_=>⟨rfl,rfl⟩⟩];exact z) q
def C7(gs:GA):GI:=λω G R=>gs ω G λws G1=>match ws with
 | [x,y]=>(match rdL G1 x,rdL G1 y with
  | some xs,some ys=>R (Bx xs ys) (λG=>rdL G x=some xs/\rdL G y=some ys) G1
  | _,_=>False)
 | _=>False
theorem Rt{gs:GA}{R:List W->(Hw->Prop)->Hw->Prop}(z:match b with
 | [x,y]=>(match rdL a x,rdL a y with
  | some xs,some ys=>R (Bx xs ys) (λG=>rdL G x=some xs/\rdL G y=some ys) a
  | _,_=>False)
 | _=>False):∃ x y xs ys,b=[x,y]/\rdL a x=some xs/\rdL a y=some ys/\R (Bx xs ys) (λG=>rdL G x=some xs/\rdL G y=some ys) a:=by
 split at z
 ·rename_i x y;split at z
  ·rename_i xs ys c d;exact⟨x,y,xs,ys,rfl,c,d,z⟩
  ·exact z.elim
 ·exact z.elim
theorem gM(m:gs.M):GI.M (C7 gs):=λω G R e h q=>m _ _ _ _ (λd c z=>by
 obtain⟨x,y,xs,ys,rfl,b,a,z⟩:=Rt (gs:=gs) z;dsimp only;rw[b,a];exact h _ _ _ z) q
theorem Ru(g:X.mg "zip"=none)(i:Gl X "zip")(hs:starEach [a,b] X.env=[(false,eval a X.env),(false,eval b X.env)])(d:starEach [b] X.env=[(false,eval b X.env)])(e:Am X [a,b] gs):
  Im X (.Tuple c k tpos) (.Call (.Name "zip" p) [a,b] [] pos) (C7 gs):=
 LX (LW false false g i hs d e) (gM e.m) λω G R q=>e.m _ _ _ _ (by
  intro l j z;obtain⟨x,y,xs,ys,rfl,h,f,z⟩:=Rt (gs:=gs) z;exact⟨x,y,xs,ys,rfl,h,f,z⟩) q
end L3
namespace L3
open PySem PySem.Spec PyProof.Rows L2
abbrev E8(h:Heap)(T:Addr)(a b c:Value):Prop:=h.get? T=some {cls:=.type "tuple",data:=.seq #[a,b,c]}
section
def St3(n l1 l2 l3:Nat)(f0:Value)(i:Nat)(h:Heap):Prop:=IsZip h (n+5) (n+3) (n+4) f0/\E8 h (n+3) (.ref n) (.ref (n+1)) (.ref (n+2))/\(∃ a b c,E8 h (n+4) a b c)/\h.IsListIter n l1 i/\h.IsListIter (n+1) l2 i/\h.IsListIter (n+2) l3 i
end
end L3
namespace L3
open PySem PySem.Spec PyProof.Rows L2
variable {K:PySem.W.Frag}{H:Hp}
section
theorem St3.at(st:St3 n j m g l i h)(k:∀(c:Nat)o,n<=c->c<=n+5->h.get? c=some o->h'.get? c=some o):St3 n j m g l i h':=by
 obtain⟨s,f,⟨a,b,c,d⟩,r,q,p⟩:=st;exact⟨k _ _ (by lia) (by lia) s,k _ _ (by lia) (by lia) f,⟨a,b,c,k _ _ (by lia) (by lia) d⟩,r.at λo e=>k _ o (by lia) (by lia) e,q.at λo e=>k _ o (by lia) (by lia) e,p.at λo e=>k _ o (by lia) (by lia) e⟩
end
def GJ(w:W):Bool:=match w with | .non=>true | _=>false
def isF(neg:Bool)(x y:W)(_:Hw):Option W:=match y with | .non=>some (.bl (GJ x != neg))| _=>none
theorem gN(t:Tr K H v x):decide (v=.non)=GJ x:=by cases t <;> rfl
theorem gO(t:Tr K H u .non):u=.non:=by cases t;rfl
theorem gP(neg:Bool)(x y:W)(v u:V)(G:Hw)(H:Hp)(Q:VK)(b:Tr K H v x)(ty:Tr K H u y)(r:RelH K H G)(q:Ae (isF neg) x y G (dn K H Q)):u=.non/\Q (.bl (GJ x != neg)) H:=by
 obtain⟨w,e,a⟩:=C4 q;cases y with
 | non=>cases e;exact⟨gO ty,a _ H .refl (.bl _) r⟩
 | _=>cases e
theorem gQ:Cop X .Is (Ae (isF false)):=⟨⟨_,Z3,λx y v u G H Q a ty r q=>by
 obtain⟨h1,h2⟩:=gP false x y v u G H Q a ty r q;refine⟨h1,?_⟩;rw[gN a];simpa using h2⟩,D7⟩
section
def St3T(n l1 l2 l3:Nat)(f0:Value)(i:Nat)(h:Heap):Prop:=IsZip h (n+5) (n+3) (n+4) f0/\E8 h (n+3) (.ref n) (.ref (n+1)) (.ref (n+2))/\(∃ a b c,E8 h (n+4) a b c)/\h.IsTupleIter n l1 i/\h.IsTupleIter (n+1) l2 i/\h.IsTupleIter (n+2) l3 i
theorem St3T.at(st:St3T n j m g l i h)(k:∀(c:Nat)o,n<=c->c<=n+5->h.get? c=some o->h'.get? c=some o):St3T n j m g l i h':=by
 obtain⟨s,f,⟨a,b,c,d⟩,r,q,p⟩:=st;exact⟨k _ _ (by lia) (by lia) s,k _ _ (by lia) (by lia) f,⟨a,b,c,k _ _ (by lia) (by lia) d⟩,tat r λo e=>k _ o (by lia) (by lia) e,tat q λo e=>k _ o (by lia) (by lia) e,tat p λo e=>k _ o (by lia) (by lia) e⟩
end
section
end
def LY(K:PySem.W.Frag)(mg:Str->Option Value)(base:Heap)(x:Str)(D:List (Str×List Str)):Prop:=∃ d,mg x=some (.ref d)/\KTD.TabOf (λss v=>∃ a,v=.ref a/\∀ H:Hp,SqT K H a (ss.map V.str)) base d D
theorem Rv(H:Hp):∀ ss:List Str,TrL K H (ss.map V.str) (ss.map W.str)
 | []=>.nil
 | s::ss=>.cons (.str _) (Rv H ss)
theorem gR(X:K.In h)(G:h.Ns mainGlobals mg)(B:K.In base)(e:PySem.W.nsIn K mainGlobals x=some (some (.ref d)))(l:K.lookup d=some o)(hd:(d==sysModules)=false)(f:o.ExactDict)(b:o.data=.dict es ep)(c:KTD.Rows (λss v=>∃ a,v=.ref a/\∀ H:Hp,SqT K H a (ss.map V.str)) es.toList D):LY K mg base x D :=
 ⟨d,PySem.W.mg_of X G e,hd,o,es,ep,B _ _ l,f,b,c⟩
theorem Cd{ts:List (Str×Tok)}{dd:Option Addr}(h1:e.key=.str x t)(h2:e.val=.ref a)(l:K.lookup a=some ⟨.type "tuple",none,.seq ((ts.map λp=>Value.str p.1 p.2).toArray) n,c⟩)(d:ts.length<=1000)(r:KTD.Rows (λss v=>∃ a,v=.ref a/\∀ H:Hp,SqT K H a (ss.map V.str)) es D):KTD.Rows (λss v=>∃ a,v=.ref a/\∀ H:Hp,SqT K H a (ss.map V.str)) (e::es) ((x,ts.map (·.1))::D):=by
 refine .cons h1 ⟨a,h2,λH=>.inr ⟨_,_,n,l,rfl,rfl,rfl,?_,?_⟩⟩ r
 ·simp only[Yn,Yh];exact Yt d (by decide)
 ·have vs:∀ ts:List (Str×Tok),Vals ((ts.map (·.1)).map V.str) (ts.map λp=>Value.str p.1 p.2):=λts=>by
   induction ts with
   | nil=>exact .nil
   | cons p ts b=>exact .cons ⟨p.2,rfl⟩ b
  simpa using vs ts
end L3
namespace L3
open PySem PySem.Spec PyProof.Rows L2
abbrev gS(h:Heap)(z TI TO:Addr)(f0:Value)(b:Bool):Prop:=h.get? z=some {cls:=.type "zip",dict:=none,data:=.fields #[f0,.bool b,.bool false,.ref TI,.ref TO],slots:=#[]}
section
def Hd3(n l1 l2 l3 i:Nat)(h:Heap):Prop:=(∃(T:Nat)(o:Obj)(b:Bool),gS h (n+5) (n+3) (n+4) (rawInt T) b/\h.get? T=some o/\(T < n\/n+5 < T))/\E8 h (n+3) (.ref n) (.ref (n+1)) (.ref (n+2))/\h.IsListIter n l1 i/\h.IsListIter (n+1) l2 i/\h.IsListIter (n+2) l3 i
def Cm3(n l1 l2 l3 i:Nat)(h:Heap):Prop:=(i=0/\St3 n l1 l2 l3 .none 0 h)\/Hd3 n l1 l2 l3 i h
theorem Cm3.zip(st:Cm3 n a c d i h):∃ o,h.get? (n+5)=some o/\o.cls=.type "zip":=by
 rcases st with⟨_,st⟩| st
 ·exact⟨_,st.1,rfl⟩
 ·obtain⟨⟨T,o,b,e,_⟩,_⟩:=st;exact⟨_,e,rfl⟩
end
section
end
end L3
namespace L3
open PySem PySem.Spec PyProof.Rows L2
section
def St3M(n l1 l2 l3:Nat)(f0:Value)(i:Nat)(h:Heap):Prop:=IsZip h (n+5) (n+3) (n+4) f0/\E8 h (n+3) (.ref n) (.ref (n+1)) (.ref (n+2))/\(∃ a b c,E8 h (n+4) a b c)/\h.IsListIter n l1 i/\h.IsTupleIter (n+1) l2 i/\h.IsTupleIter (n+2) l3 i
theorem St3M.at(st:St3M n j m g l i h)(k:∀(c:Nat)o,n<=c->c<=n+5->h.get? c=some o->h'.get? c=some o):St3M n j m g l i h':=by
 obtain⟨s,f,⟨a,b,c,d⟩,r,q,p⟩:=st;exact⟨k _ _ (by lia) (by lia) s,k _ _ (by lia) (by lia) f,⟨a,b,c,k _ _ (by lia) (by lia) d⟩,r.at λo e=>k _ o (by lia) (by lia) e,tat q λo e=>k _ o (by lia) (by lia) e,tat p λo e=>k _ o (by lia) (by lia) e⟩
end
def isB(x y:W)(_:Hw):Option W:=match x,y with | .bl a,.bl b=>some (.bl (!(a==b)))| _,_=>none
end L3
namespace L3
open PySem PySem.Spec PyProof.Rows L2
end L3
namespace L3
open PySem PySem.Spec PyProof.Rows L2
variable {H:Hp}
def atT{α:Type}(kvs:List (Key×α))(x:Str):Option α:=(kvs.find? λy=>decide (y.1=Sum.inr x)).map (·.2)
theorem LZ{α:Type}{v:α}{kvs:List (Key×α)}:atT ((k,v)::kvs) x=if k=Sum.inr x then some v else atT kvs x:=by
 unfold atT;rw[List.find?_cons];by_cases h:k=Sum.inr x
 ·simp[h]
 ·simp[h]
theorem Rw:∀{kvs:List (Key×V)}{vs:List (Key×Value)},KV kvs vs->(atT kvs x=none/\valueAt vs (Sum.inr x)=none)\/∃ v u,atT kvs x=some v/\valueAt vs (Sum.inr x)=some u/\RelV v u
 | _,_,.nil=>.inl ⟨rfl,rfl⟩
 |(k,v)::kvs,(d,c)::vs,.cons ⟨e,b⟩ t=>by
  have a:=Rw (x:=x) t;cases(show k=d from e);rw[LZ];unfold valueAt at a ⊢;rw[List.find?_cons];by_cases h:k=Sum.inr x
  ·simp only[h,if_true,decide_true];exact .inr ⟨v,c,rfl,rfl,b⟩
  ·simp only[h,if_false,decide_false];exact a
theorem Rx{K:PySem.W.Frag}:∀{vs:List (Key×V)}{a:List (Key×W)},TrP K H vs a->(atT vs x=none/\atT a x=none)\/∃ v w,atT vs x=some v/\atT a x=some w/\Tr K H v w
 | _,_,.nil=>.inl ⟨rfl,rfl⟩
 |(k,v)::vs,(_,u)::a,.cons tv t=>by
  rw[LZ,LZ];by_cases h:k=Sum.inr x
  ·rw[if_pos h,if_pos h];exact .inr ⟨_,_,rfl,rfl,tv⟩
  ·rw[if_neg h,if_neg h];exact Rx t
def inK(neg:Bool)(x y:W)(G:Hw):Option W:=match x,y with
 | .str z,.ref p=>(match G p with | some (.dct kvs)=>some (.bl ((atT kvs z).isSome != neg))| _=>none)
 | _,_=>none
def Ry:R2:=λx y H Q=>∃ p kvs z v,x=.ref p/\y=.str z/\H p=some (.dK kvs)/\atT kvs z=some v/\Q v H
theorem gT:IxR X Ry:=by
 intro value slice pins s σ H x y v u Q I f j h hs;obtain⟨p,a,z,v,rfl,rfl,l,b,q⟩:=h;cases f;obtain⟨t,rfl⟩:=j;obtain⟨_,hd,vs,d,e⟩:a.length<=sizeLine/\(p==sysModules)=false/\∃ vs,KV a vs/\s.heap.DictOf (Bw X.prog X.w) p vs:=I.hok p _ l;rcases Rw (x:=z) d with⟨c,_⟩|⟨m,u,c,g,i⟩
 ·rw[c]at b;cases b
 ·rw[c]at b;cases b;refine subscriptTail_builtinR (x:=u) e.typeIs PySem.F.slot_dict_getitem.lookup ?_ hs;exact wpAny_getItem_of (knd:=Bw X.prog X.w) (k:=Sum.inr z) (Q:=λr s'=>r=u/\EP X pins σ Q r s') (by simp[Bw,D2,Value.isStrOf]) e.mapOf g ⟨rfl,_,H,I.tok _,i,q⟩
def ixK(x y:W)(G:Hw):Option W:=match x,y with
 | .ref p,.str z=>(match G p with | some (.dct kvs)=>atT kvs z | _=>none)
 | _,_=>none
theorem gU{K:PySem.W.Frag}(x y:W)(v u:V)(G:Hw)(H:Hp)(Q:VK)(f:Tr K H v x)(ty:Tr K H u y)(r:RelH K H G)(q:Ae ixK x y G (dn K H Q)):Ry v u H Q:=by
 obtain⟨w,e,h⟩:=C4 q;unfold ixK at e;split at e
 ·rename_i p z;split at e
  ·rename_i c g;cases f;cases ty;obtain⟨b,d,l⟩:=r p _ g;rcases Rx (x:=z) l with⟨_,a⟩|⟨v,u,a,i,tv⟩
   ·rw[a]at e;cases e
   ·rw[i]at e;cases e;exact⟨p,b,z,v,rfl,rfl,d,a,h _ H .refl tv r⟩
  ·cases e
 ·cases e
theorem gW(hs:HA b)(c:Em X a ga)(d:Em X b gb):Em X (.Subscript a b pos) (Ad (Ae ixK) ga gb):=⟨Pt gT D7 c.m d.m gU c.p d.p hs,CA D7 c.m d.m⟩
def BE{α:Type}(kvs:List (Key×α))(k:Key)(v:α):List (Key×α):=if kvs.any (λkv=>decide (kv.1=k))then kvs.map (λkv=>if kv.1=k then(kv.1,v)else kv)else kvs++[(k,v)]
theorem gX{α:Type}(kvs:List (Key×α))(k:Key)(v:α):(BE kvs k v).length<=kvs.length+1:=by unfold BE;split <;> simp
theorem Rz:∀{kvs:List (Key×V)}{vs:List (Key×Value)},KV kvs vs->kvs.any (λkv=>decide (kv.1=k))=vs.any (λkv=>decide (kv.1=k))
 | _,_,.nil=>rfl
 | _,_,.cons ⟨e,_⟩ t=>by rw[List.any_cons,List.any_cons,Rz t,e]
theorem RA(r:RelV v u):∀{kvs:List (Key×V)}{vs:List (Key×Value)},KV kvs vs->KV (kvs.map λkv=>if kv.1=k then(kv.1,v)else kv) (vs.map λkv=>if kv.1=k then(kv.1,u)else kv)
 | _,_,.nil=>.nil
 |(a,x)::_,(b,y)::_,.cons ⟨e,c⟩ t=>by
  cases(show a=b from e);rw[Ym,Ym];refine .cons ?_ (RA r t);by_cases h:a=k
  ·rw[if_pos h,if_pos h];exact⟨rfl,r⟩
  ·rw[if_neg h,if_neg h];exact⟨rfl,c⟩
theorem RB(r:RelV v u):∀{kvs:List (Key×V)}{vs:List (Key×Value)},KV kvs vs->KV (kvs++[(k,v)]) (vs++[(k,u)])
 | _,_,.nil=>.cons ⟨rfl,r⟩ .nil
 | _,_,.cons h t=>.cons h (RB r t)
theorem gY(r:RelV v u)(h:KV kvs vs):KV (BE kvs k v) (stored vs k u):=by
 unfold BE stored;rw[Rz h];split
 ·exact RA r h
 ·exact RB r h
theorem RC{K:PySem.W.Frag}:∀{vs:List (Key×V)}{a:List (Key×W)},TrP K H vs a->vs.any (λkv=>decide (kv.1=k))=a.any (λkv=>decide (kv.1=k))
 | _,_,.nil=>rfl
 | _,_,.cons _ t=>by rw[List.any_cons,List.any_cons,RC t]
theorem L0{K:PySem.W.Frag}(r:Tr K H v w):∀{vs:List (Key×V)}{b:List (Key×W)},TrP K H vs b->TrP K H (vs.map λkv=>if kv.1=k then(kv.1,v)else kv) (b.map λkv=>if kv.1=k then(kv.1,w)else kv)
 | _,_,.nil=>.nil
 |(a,x)::_,(_,y)::_,.cons tv t=>by
  rw[Ym,Ym];by_cases h:a=k
  ·simp only[h,if_true];exact .cons r (L0 r t)
  ·simp only[h,if_false];exact .cons tv (L0 r t)
theorem RD{K:PySem.W.Frag}(r:Tr K H v w):∀{vs:List (Key×V)}{a:List (Key×W)},TrP K H vs a->TrP K H (vs++[(k,v)]) (a++[(k,w)])
 | _,_,.nil=>.cons r .nil
 | _,_,.cons h t=>.cons h (RD r t)
theorem gZ{K:PySem.W.Frag}(r:Tr K H v w)(h:TrP K H vs a):TrP K H (BE vs k v) (BE a k w):=by
 unfold BE;rw[RC h];split
 ·exact L0 r h
 ·exact RD r h
theorem RE{K:PySem.W.Frag}:∀{vs:List (Key×V)}{a:List (Key×W)},TrP K H vs a->vs.length=a.length
 | _,_,.nil=>rfl
 | _,_,.cons _ t=>by rw[Yg,Yg,RE t]
def RF:V->V->V->Hp->(Hp->Prop)->Prop:=λo i v H Q=>∃ p kvs z,o=.ref p/\i=.str z/\H p=some (.dK kvs)/\kvs.length < sizeLine/\Q (upd H p (.dK (BE kvs (Sum.inr z) v)))
theorem g5:Ks X RF:=by
 intro pins s σ H o i v E D u Q I y m l h;obtain⟨p,a,z,rfl,rfl,f,hl,q⟩:=h;cases y;obtain⟨t,rfl⟩:=m;obtain⟨_,hd,vs,d,B⟩:a.length<=sizeLine/\(p==sysModules)=false/\∃ vs,KV a vs/\s.heap.DictOf (Bw X.prog X.w) p vs:=I.hok p _ f;have g:=Paired.length d;refine wpAny_setItem_pairs (knd:=Bw X.prog X.w) (k:=Sum.inr z) (by simp[Bw,D2,Value.isStrOf]) B (λh' c j=>?_) (by lia);have r:∃ o,h'.get? p=some o:=by obtain⟨o,_,_,n,_⟩:=c;exact⟨o,n⟩
 refine⟨_,I.write (t':=s.toks+1) (x:=p) (e:=p) (o:=.dK (BE a (Sum.inr z) v)) (by rw[f];trivial) (.inl rfl) (λb w A e=>(j.2 b A).trans e) r ?_,q⟩;have:=gX a (Sum.inr z) v;exact⟨by lia,hd,_,gY l d,c⟩
def RG(o k v:W)(G:Hw)(Q:Hw->Prop):Prop:=∃ p kvs z,o=.ref p/\k=.str z/\G p=some (.dct kvs)/\kvs.length < sizeLine/\Q (put G p (.dct (BE kvs (Sum.inr z) v)))
theorem g6{K:PySem.W.Frag}(h:Tr K H x v)(ty:Tr K H y o)(i:Tr K H u k)(r:RelH K H G)(q:RG o k v G Pq)(f:∀ c b,Mono K H b->RelH K b c->Pq c->R b):RF y u x H R:=by
 obtain⟨p,a,z,rfl,rfl,e,g,q⟩:=q;cases ty;cases i;obtain⟨vs,d,t⟩:=r p _ e;have m:Mono K H (upd H p (.dK (BE vs (Sum.inr z) x))):=Mono.was d _ (λ_ z=>by cases z) (λ_ _ z=>by cases z);exact⟨p,vs,z,rfl,rfl,d,by rw[RE t];exact g,f _ _ m (RelH.laid (u:=.dct (BE a (Sum.inr z) v)) r m ⟨_,BS,(gZ h t).mono m⟩) q⟩
def F0(gv go gi:GE):GS:=λD ω G=>gv ω G λv G1=>go ω G1 λo G2=>gi ω G2 λk G3=>RG o k v G3 λG4=>D.nx ω G4
theorem g7(c:gv.M)(mo:go.M)(g:gi.M):GS.M (F0 gv go gi):=λω G D i h1 _ _ _ q=>
 c _ _ _ _ (λv j z=>mo _ _ _ _ (λo h z=>g _ _ _ _ ((by rintro k l ⟨p,a,z,f,e,d,b,q⟩;exact⟨p,a,z,f,e,d,b,h1 _ _ q⟩)) z) z) q
theorem g8(I:∀ v,assign (.Subscript o i pos') X.env v=(do
   let ov <- holding [v] (eval o X.env)
   let iv <- holding [v,ov] (eval i X.env)
   standAt pos'
   holding [v,ov,iv] (setItem ov iv v)
   release [v,ov,iv] []))(hs:swapsWithSole [.Subscript o i pos'] e pos.line X.env=pure false)(hw:swappedStores [.Subscript o i pos'] e X.env=pure none)(h1:(assignEach [.Subscript o i pos'] X.env).map (·.2)=[assign (.Subscript o i pos') X.env])(f:Em X e gv)(g:Em X o go)(hi:Em X i gi):Sm X P (.Assign [.Subscript o i pos'] e pos) (F0 gv go gi):=
 ⟨λB O=>C1 (OG f.p (OF g.p hi.p g5 I) hs hw h1) λD σ H⟨ω,G,b,r,mb,q⟩=>⟨ω,G,b,r,f.m _ _ _ _ (λv F z x H1 d t r1=>
  ⟨ω,F,b.mono d,r1,g.m _ _ _ _ (λQ E A y H2 c ty l=>
   ⟨ω,E,(b.mono d).mono c,l,hi.m _ _ _ _ (λk L n u N a j s=>
    g6 ((t.mono c).mono a) (ty.mono a) j s n (λK J h w q4=>q4 σ J ((((mb.trans d).trans c).trans a).trans h) ((((b.mono d).mono c).mono a).mono h) w)) A⟩) z⟩) q⟩,g7 f.m g.m hi.m⟩
def g9:TE:=λ_ H Q=>∀ l,H l=none->Q (.ref l) (upd H l (.dK []))
theorem hE:PE X (.Dict [] [] pos) g9:=by
 intro pins s σ H Q I h;refine wpAny_Dict_empty ?_
 have big:sysModules < s.heap.objs.size:=by
  have h:mainGlobals < s.heap.objs.size:=(I.mod.glob.keeps I.bk).lt;exact Nat.lt_trans (by decide) h
 have a:=I.hok.fresh (Yr s.heap.objs.size);have J:Inv X pins σ (upd H s.heap.objs.size (.dK [])) {s with heap:=s.heap.push {cls:=.type "dict",data:=.dict #[]},toks:=s.toks}:=I.laid (t':=s.toks) (λb u e=>Qn _ e) (Yr _) (show ObjOk X.prog X.w _ _ _ (.dK _)from⟨YX _,by simpa using Nat.ne_of_gt big,[],.nil,Heap.DictOf.new s.heap⟩);exact⟨.ref _,_,J,rfl,h _ a⟩
def H9:GE:=λ_ G Q=>∀ l,G l=none->Q (.ref l) (put G l (.dct []))
theorem hF:Em X (.Dict [] [] pos) H9:=by
 refine⟨A7 hE λσ H Q⟨ω,G,b,r,q⟩l hl=>?_,λω G Q a h q l hl=>h _ _ (q l hl)⟩;exact q l (r.no hl) _ _ (Mono.new hl _) (.ref l) (RelH.laid r (Mono.new hl _) ⟨_,BS,.nil⟩)
end L3
namespace L3
open PySem PySem.Spec PyProof.Rows L2
section
end
theorem hG(h:(Bw prog w).is (Sum.inr z) v=true):∃ t,v=.str z t:=by
 rcases De (show D2 (Sum.inr z) v=true from h)with⟨i,t,e,_⟩|⟨x,t,e,rfl⟩
 ·cases e
 ·cases e;exact⟨t,rfl⟩
theorem RH:∀{zs:List Str}{kvs:List (Key×Value)}{a:List Value},kvs.map (·.1)=zs.map Sum.inr->a.length=kvs.length->(∀(j:Nat)(v:Value),a[j]?=some v->∃ k x,kvs[j]?=some (k,x)/\(Bw prog w).is k v=true)->Vals (zs.map V.str) a
 | [],[],a,_,hl,_=>by
  cases a with
  | nil=>exact .nil
  | cons _ _=>cases hl
 | z::zs,(k,x)::kvs,a,e,hl,h=>by
  cases a with
  | nil=>cases hl
  | cons v a =>
   rw[Ym,Ym]at e;obtain⟨f,d⟩:=List.cons.inj e;obtain⟨c,b,h1,h2⟩:=h 0 v rfl;cases h1;cases(show k=Sum.inr z from f);obtain⟨t,rfl⟩:=hG h2;refine .cons ⟨t,rfl⟩ (RH (prog:=prog) (w:=w) d (Nat.succ.inj hl) λj u g=>?_);obtain⟨c,b,h1,h2⟩:=h (j+1) u (by simpa using g);exact⟨c,b,by simpa using h1,h2⟩
theorem RI:∀{kvs:List (Key×V)}{vs:List (Key×Value)},KV kvs vs->vs.map (·.1)=kvs.map (·.1)
 | _,_,.nil=>rfl
 | _,_,.cons h t=>by rw[Ym,Ym,RI t,h.1]
theorem RJ{K:PySem.W.Frag}:∀{vs:List (Key×V)}{a:List (Key×W)},TrP K H vs a->vs.map (·.1)=a.map (·.1)
 | _,_,.nil=>rfl
 | _,_,.cons _ t=>by rw[Ym,Ym,RJ t]
def Ia(g:GE):GE:=λω G Q=>g ω G λx G1=>∃ i,x=.int i/\Q (.int (-i)) G1
theorem hI(m:g.M):GE.M (Ia g):=λω G Q a h q=>m _ _ _ _ (by rintro x b ⟨i,e,z⟩;exact⟨i,e,h _ _ z⟩) q
theorem hJ(h:Em X a g):Em X (.UnaryOp .USub a pos) (Ia g):=
 ⟨A7 (ZO ZV h.p) λσ H Q⟨ω,G,b,r,q⟩=>⟨ω,G,b,r,h.m _ _ _ _ (λx c z v H1 m t r1=>by
  obtain⟨i,rfl,z⟩:=z;cases t;exact⟨_,rfl,z _ _ m (.int _) r1⟩) q⟩,hI h.m⟩
end L3
namespace L3
open PySem PySem.Spec PyProof.Rows L2
section
end
end L3
namespace L3
open PySem PySem.Spec PyProof.Rows L2
def ev{α:Type}(lt:Nat->Nat->Bool)(n:Nat):PySem.W.KasT α->Option α
 | .ret a=>some a
 | .ask i j k=>if i≠j/\i < n/\j < n then ev lt n (k (lt i j))else none
section
end
end L3
namespace L3
open PySem PySem.Spec PyProof.Rows L2
theorem RK:bootBuiltins "sorted"=some (.builtin "sorted"):=by decide +kernel
end L3
namespace L3
open PySem PySem.Spec PyProof.Rows L2
section
end
section
end
end L3
namespace L3
open PySem PySem.Spec PyProof.Rows L2
end L3
namespace L3
open PySem PySem.Spec PyProof.Rows L2
section
end
section
end
end L3
namespace L3
open PySem PySem.Spec PyProof.Rows L2
section
end
end L3
namespace L3
open PySem PySem.Spec PyProof.Rows L2
section
theorem hL(G:A.handled=none)(hd:(d==sysModules)=false)(r:s.heap.DictAt (Bw prog w) d kvs ep)(B:kvs.length<=sizeLine)(h:∀(h':Heap)(tk:Nat)(a:Array Value),(∀ b o,s.heap.get? b=some o->h'.get? b=some o)->s.heap.objs.size<=h'.objs.size->ItemsOf (λi v=>∃ k x,kvs[i]?=some (k,x)/\(Bw prog w).is k v=true) a kvs.length->R a.toList {s with heap:=h',toks:=tk}):
  wpAny (model prog w) A (collect (.ref d)) R E s:=by
 have l:d < s.heap.objs.size:=r.lt_size;unfold collect;refine Ql (wpAny_runValue (codeAny_builtin PySem.F.entry_proto_collect ?_));rw[Around.under_plainId PySem.F.plain_proto_collect _];refine Ql (m:=newList []) (wpAny_newList ?_ (YX _));refine Qm ⟨plainId_quiet PySem.F.plain_list_iadd _,codeAny_builtin PySem.F.entry_list_iadd ?_⟩;rw[Around.under_plainId PySem.F.plain_list_iadd _];have z:(s.heap.push (seqObj "list" #[] 0)).get? s.heap.objs.size=some {cls:=.type "list",data:=.seq #[]}:=Qp _ rfl;refine(?_:wpAny (model prog w) A.in1 (Builtin.List.listExtendWith (.ref s.heap.objs.size) (.ref d) (.ref s.heap.objs.size)) _ _ {s with heap:=s.heap.push (seqObj "list" #[] 0)})
 have key:=PySem.W.kdl_extend (A:=A) (s:={s with heap:=s.heap.push (seqObj "list" #[] 0)}) (R:=λ(q:Result)(s':Shared)=>∃(h':Heap)(tk:Nat)(a:Array Value)(c:Nat),q=.ok (.ret (.ref s.heap.objs.size))/\s'={s with heap:=h',toks:=tk}/\(∀ b o,s.heap.get? b=some o->h'.get? b=some o)/\h'.get? s.heap.objs.size=some {cls:=.type "list",dict:=none,data:=.seq a c,slots:=#[]}/\ItemsOf (λi v=>∃ k x,kvs[i]?=some (k,x)/\(Bw prog w).is k v=true) a kvs.length)
  (PySem.W.kdl_dict (knd:=Bw prog w) (kvs:=kvs) (ep:=ep) hd) G (r.push _) s.heap.objs.size (Nat.ne_of_gt l) (Nat.ne_of_gt l) (.ref s.heap.objs.size) 0 z (λh' tk a c n j g=>⟨h',tk,a,c,rfl,rfl,λb o e=>n b o (Ys (Qo e)) (Qn _ e),j,g⟩) B
 refine wpAny_mono key (λp s' x=>?_) λe s' x=>?_
 ·cases p with
  | done f =>
   obtain⟨h',tk,a,c,e,rfl,n,j,g⟩:=x;cases e;refine Ql (m:=load s.heap.objs.size) (wpAny_load j (Qm ?_));exact h h' tk a n (YK (Qo j)) g
  | again t =>
   refine⟨x.1,codeAny_mono x.2 λq u y=>?_⟩;obtain⟨h',tk,a,c,rfl,rfl,n,j,g⟩:=y;refine Ql (m:=load s.heap.objs.size) (wpAny_load j (Qm ?_));exact h h' tk a n (YK (Qo j)) g
 ·obtain⟨_,_,_,_,D,_⟩:=x;cases D
end
theorem hM(hc:X.calm=true):CallR X (.builtin "sorted") (λxs H Q=>∃(p:Addr)(kvs:List (Key×V))(zs:List Str),xs=[.ref p]/\H p=some (.dK kvs)/\kvs.map (·.1)=zs.map Sum.inr/\zs.length < 64/\∀(ys:List Str)l,sortedS ys=true->ys.Perm zs->H l=none->Q (.ref l) (upd H l (.lst (ys.map V.str)))):=by
 intro pins s σ H xs us Q I r h;obtain⟨p,kvs,zs,rfl,T,O,L,q⟩:=h;obtain⟨u,rfl,G⟩:=Cz r;cases G;obtain⟨hz,hd,vs,f,P⟩:kvs.length<=sizeLine/\(p==sysModules)=false/\∃ vs,KV kvs vs/\s.heap.DictOf (Bw X.prog X.w) p vs:=I.hok p _ T;have hl:=Paired.length f;obtain⟨Y,D⟩:=P.dictAt;have i:vs.map (·.1)=zs.map Sum.inr:=by rw[<- O,RI f]
 have R:zs.length=vs.length:=by have:=congrArg List.length i;simpa using this.symm
 have K:(64:Nat)<=sizeLine:=by decide
 refine Calls.call_function_entry kind_sorted plain_sorted entry_sorted (args_sorted1 _) ?_;unfold Builtin.«sorted»;refine Ql (m:=checkCount "sorted" 1 1 _) (Qm ?_);refine Ql (hL (by simp[I.ok.hd hc]) hd D (by lia) λh1 tk A keep g a=>?_);have k:StrsAre A.toList zs:=HY (RH (prog:=X.prog) (w:=X.w) i (by rw[YV];exact a.1) λj v e=>a.2 j v (by rw[<- YQ];exact e));generalize A.toList=ac at k ⊢;have F:ac.length < 64:=by rw[k.length];exact L
 refine Ql (wpAny_newList ?_ (by lia));have d:(h1.push (seqObj "list" ac.toArray 0)).get? h1.objs.size=some (seqObj "list" ac.toArray 0):=Qp _ rfl;refine Ql (wpAny_holding (wpAny_call_entry slot_list_sort ⟨_,d,rfl⟩ entry_list_sort (list_sort_treeK (s:={s with heap:=h1.push (seqObj "list" ac.toArray 0),toks:=tk}) strKind_oneLt d k.keysOf (λZ v2 r e=>keyKind_strs (by rw[<- e];exact k)) F λc U N=>⟨_,rfl,?_⟩) (args_list_sort _)));obtain⟨ys,E,t,B⟩:=sorted_out_str k U N;obtain⟨e,S⟩:=sortedHeap_at (n:=0) (vs:=ac) (out:=(arrOf c).map (·.2)) d
 have y:∀ b o,s.heap.get? b=some o->(sortedHeap (h1.push (seqObj "list" ac.toArray 0)) h1.objs.size ac ((arrOf c).map (·.2))).get? b=some o:=λb o z=>by
  have x:=Qo (keep b o z);rw[sortedHeap_old (Ys x) (by rw[Qq];exact Nat.lt_succ_of_lt x)];exact Qn _ (keep b o z)
 have J:Inv X pins σ (upd H h1.objs.size (.lst (ys.map V.str))) {s with heap:=_,toks:=tk}:=I.laid (t':=tk) y g (show ObjOk X.prog X.w _ _ _ (.lst (ys.map V.str))from⟨by rw[Yh,t.length_eq];lia,((arrOf c).map (·.2)).toList,e,LP E,by rw[Array.toArray_toList];exact S⟩);exact Qm ⟨_,rfl,.ref h1.objs.size,_,J,rfl,q ys _ B t (I.hok.fresh g)⟩
def Ib(ws:List W)(G:Hw)(Q:Kw):Prop:=∃(p:Addr)(kvs:List (Key×W))(zs:List Str),ws=[.ref p]/\G p=some (.dct kvs)/\kvs.map (·.1)=zs.map Sum.inr/\zs.length < 64/\∀(ys:List Str)l,sortedS ys=true->ys.Perm zs->G l=none->Q (.ref l) (put G l (.lst (ys.map W.str)))
theorem hR:RWc.M Ib:=λg G Q f h⟨p,c,zs,h1,h2,d,e,q⟩=>⟨p,c,zs,h1,h2,d,e,λys l a b hl=>h _ _ (q ys l a b hl)⟩
theorem hU{K:PySem.W.Frag}:UpC K Ib (λxs H Q=>∃(p:Addr)(kvs:List (Key×V))(zs:List Str),xs=[.ref p]/\H p=some (.dK kvs)/\kvs.map (·.1)=zs.map Sum.inr/\zs.length < 64/\∀(ys:List Str)l,sortedS ys=true->ys.Perm zs->H l=none->Q (.ref l) (upd H l (.lst (ys.map V.str)))):=λi vs G H Q t r q=>by
 obtain⟨p,kvs,zs,rfl,f,g,d,q⟩:=q;cases t with
 | cons h t =>
  cases t;cases h;obtain⟨c,e,l⟩:=r p _ f;refine⟨p,c,zs,rfl,e,by rw[RJ l];exact g,d,λys l a b hl=>?_⟩;exact q ys l a b (r.no hl) _ _ (Mono.new hl _) (.ref l) (r.new hl (LU ys))
theorem hV(hc:X.calm=true):Blt X (.builtin "sorted") Ib:=⟨⟨_,hM hc,hU⟩,hR⟩
end L3
namespace L3
open PySem PySem.Spec PyProof.Rows L2
variable {K:PySem.W.Frag}{H H':Hp}
section
end
def Ite(K:PySem.W.Frag)(l:Addr):It :=
 ⟨λi H=>∃ xs,SqL K H l xs/\i < xs.length,
  λi H v H'=>∃ T x,H T=none/\v=.ref T/\H'=upd H T (.tup [.int i,x])/\∀ xs,SqL K H l xs->xs[i]?=some x,
  λi H=>∃ xs,SqL K H l xs/\i=xs.length⟩
theorem hW(n1:e≠it)(n2:l≠e)(n3:l≠it):
  Dv P w K (.Tuple t k tpos) (Ite K l) [e,it] e (λi h=>(∃ a,IsEnum h e it i a)/\h.IsListIter it l i) where
 mem:=by simp
 obj:=λi h st b d=>by
  obtain⟨⟨a,f⟩,⟨o1,N,_,d1⟩⟩:=st;simp only[Yo,Qc,or_false]at d;rcases d with rfl | rfl
  ·exact⟨_,f,λv z=>by cases z⟩
  ·exact⟨o1,N,λv z=>by rw[d1]at z;cases z⟩
 keep:=λi h h' st kk=>by
  obtain⟨⟨a,f⟩,h1⟩:=st;exact⟨⟨a,kk e (by simp) _ f⟩,h1.at λo x=>kk it (by simp) o x⟩
 item:=by
  intro X L hw Y hc i pins s σ H E I D st F;subst L hw Y;obtain⟨xs,B,hix⟩:=F;obtain⟨y,r1,g,z1⟩:=I.list B;have q1:=r1.length;obtain⟨⟨a,f⟩,h1⟩:=st;have gx:xs[i]?=some xs[i]:=Yp hix;obtain⟨R,g1,S⟩:=r1.get gx;refine wpAny_pyNext_enum_item f h1 g.isList (x:=R) (by simpa using g1) n1 λh' hO J hT hsz T=>⟨.ref s.heap.objs.size,rfl,?_⟩;refine wpAny_letOwnedTupleGo_enum hO λj G r=>?_;have lt:∀{b:Addr}{o:Obj},s.heap.get? b=some o->b≠s.heap.objs.size:=λx q=>absurd (Qo x) (by rw[q];exact YL _);have ne:s.heap.objs.size≠e:=λq=>lt f q.symm;have I1:Inv X pins σ H {s with heap:=j,toks:=s.toks+1}:=Inv.turneds I D λb o d x=>r.extBut b o (λq=>d (by simp[q])) (T b o (λq=>d (by simp[q])) (λq=>d (by simp[q])) x);have u:H s.heap.objs.size=none:=I.hok.fresh (Yr _);have n:TupP j s.heap.objs.size #[.int i s.toks,R]:=⟨_,r.extBut _ _ ne hT,rfl,rfl,_,rfl⟩
  have I2:Inv X pins σ (upd H s.heap.objs.size (.tup [.int i,xs[i]])) {s with heap:=j,toks:=s.toks+1}:=by
   refine I1.track u ?_ (λx c z=>?_) (λp hp=>?_) ?_ ⟨by show 2<=sizeLine;decide,[.int i s.toks,R],.cons ⟨_,rfl⟩ (.cons S .nil),n⟩
   ·obtain⟨m,⟨o,es,ep,Z,_⟩,_⟩:=I.loc;exact YY (lt Z)
   ·obtain⟨v,o,Z,_⟩:=I.cell x c z;exact lt Z
   ·exact lt (I.pin p hp).1
   ·cases z:X.s₀.heap.get? s.heap.objs.size with
    | none=>rfl
    | some o=>exact absurd (Yu (Qo z) I.sz) (YL _)
  refine⟨.ref s.heap.objs.size,_,I2,rfl,⟨s.heap.objs.size,_,u,rfl,rfl,λxs' U=>?_⟩,⟨⟨_,G⟩,J.extBut r.extBut (YY n1)⟩,λb d=>?_⟩
  ·rw[I.list_inj U B];exact gx
  ·have O:=(D b d).1
   have:b≠s.heap.objs.size:=by
    obtain⟨o1,N,_⟩:=h1;simp only[Yo,Qc,or_false]at d;rcases d with rfl | rfl
    ·exact lt f
    ·exact lt N
   rw[AZ this];exact O
 done:=by
  intro X L hw Y hc i pins s σ H E I D st F;subst L hw Y;obtain⟨xs,B,rfl⟩:=F;obtain⟨y,r1,g,z1⟩:=I.list B;have q1:=r1.length;obtain⟨⟨a,f⟩,h1⟩:=st;refine wpAny_pyNext_enum_end (I.ok.hd hc) f h1 g.isList (by simp;lia) λh' T=>⟨rfl,?_⟩;exact Inv.turneds (t':=s.toks) I D λb o d x=>T b o (λq=>d (by simp[q])) x
 self:=λA i s Q E st h=>by
  obtain⟨⟨a,f⟩,_⟩:=st;exact wpAny_pyIter_enum f h
def hX(K:PySem.W.Frag)(ta:TA):TI:=λσ H R=>ta σ H λvs H1=>∃ a xs,vs=[.ref a]/\SqL K H1 a xs/\R (Ite K a) H1
theorem hY(v:Gl X "enumerate")(z:X.mg "enumerate"=none)(A:PA X [a] ta)(hs:starEach [a] X.env=[(false,eval a X.env)]):
  PI X (.Tuple c k tpos) (.Call (.Name "enumerate" p) [a] [] pos) (hX X.K ta):=by
 intro pins s σ H R I h;refine Call_ (CY I v z boot_enumerate (Qg (thn (A pos pins s σ H _ I h) λD i j=>?_) (by rw[hs];rfl) rfl));obtain⟨vs,H1,g,r1,q1⟩:=j;obtain⟨y,xs,e,t,q⟩:=q1;subst e;obtain⟨u,rfl,x⟩:=Cz r1;cases x;obtain⟨m,_,f,_⟩:=g.list t;have o:y < i.heap.objs.size:=by obtain⟨_,e,_⟩:=f.isList;exact Qo e
 refine call_enumerate_list f.isList λh' n l w B=>wpAny_pyIter_enum n ?_;refine⟨_,_,_,_,H1,rfl,g.kept (t':=i.toks) B,hW (Nat.succ_ne_self _) (Ys (Nat.lt_succ_of_lt o)) (Ys o),⟨⟨_,n⟩,l⟩,λb r=>?_,q⟩
 have d:i.heap.objs.size<=b:=by
  simp only[Yo,Qc,or_false]at r;rcases r with rfl | rfl
  ·exact Qb _ 1
  ·exact Yr _
 exact g.fpOk d (g.hok.fresh d)
def Ed:Nat->List W->List W
 | _,[]=>[]
 | i,x::xs=>.tup [.int i,x]::Ed (i+1) xs
theorem L1:∀(i:Nat)(xs:List W),(Ed i xs).length=xs.length
 | _,[]=>rfl
 | i,x::xs=>by simp only[Ed,Yg,L1 (i+1) xs]
theorem RL:∀(j:Nat)(xs:List W)(i:Nat){x:W},xs[i]?=some x->(Ed j xs)[i]?=some (.tup [.int ((j+i:Nat):Int),x])
 | _,[],_,_,h=>by simp at h
 | j,a::xs,0,x,h=>by simp at h;subst h;rfl
 | j,a::xs,i+1,x,h=>by
  have:=RL (j+1) xs i (x:=x) (by simpa using h);rw[show j+1+i=j+(i+1) by lia]at this;simpa[Ed]using this
def F1(gs:GA):GI:=λω G R=>gs ω G λws G1=>∃ x xs,ws=[x]/\rdL G1 x=some xs/\R (Ed 0 xs) (λG=>rdL G x=some xs) G1
theorem hZ(m:gs.M):GI.M (F1 gs):=λω G R d h q=>m _ _ _ _ (λc b z=>by
 obtain⟨x,xs,rfl,a,z⟩:=z;exact⟨x,xs,rfl,a,h _ _ _ z⟩) q
theorem RM(N:X.mg "enumerate"=none)(I:Gl X "enumerate")(hs:starEach [a] X.env=[(false,eval a X.env)])(s:Am X [a] gs):
  Im X (.Tuple d k tpos) (.Call (.Name "enumerate" p) [a] [] pos) (F1 gs):=by
 refine⟨⟨_,hY I N s.p hs,λσ H ω G R Z F r q E=>⟨ω,G,F,r,s.m _ _ _ _ (λws U z vs H1 m t r1=>?_) q⟩⟩,hZ s.m⟩;obtain⟨x,xs,rfl,B,z⟩:=z;cases t with
 | cons j t =>
  cases t;obtain⟨P,o,rfl,n,S⟩:=Gy r1 j B;refine⟨P,o,rfl,n,E _ _ _ H1 _ z m r1 B ⟨λi l y e c g3 hi=>?_,λi l y v Y e c g3 O hi=>?_,λl y e c g3=>?_⟩⟩
  ·obtain⟨A,b,f,g,h⟩:=Gy c (j.mono e) g3;cases f;rw[L1]at hi;exact⟨b,g,by rw[h.length];lia⟩
  ·obtain⟨A,b,f,g,h⟩:=Gy c (j.mono e) g3;cases f;obtain⟨T,L,w,rfl,rfl,J⟩:=O;have g1:=J _ g;obtain⟨Q,q1,u⟩:=h.get' g1;have D:Mono X.K l (upd l T (.tup [.int i,L])):=Mono.new w _;have g2:=RL 0 xs i q1;rw[Nat.zero_add]at g2;exact⟨D,c.mono0 w,_,g2,.tup (SqT.of BS) (.cons (.int _) (.cons (u.mono D) .nil))⟩
  ·obtain⟨A,b,f,g,h⟩:=Gy c (j.mono e) g3;cases f;exact⟨b,g,by rw[L1,h.length]⟩
def prs(X:Cx)(pos:Pos):List (Option Expr)->List Expr->List (Sem Value×Sem Value)
 | some k::ks,v::vs=>(eval k X.env,do let x <- eval v X.env;standAt pos;pure x)::prs X pos ks vs
 | _,_=>[]
def KVs:List Str->List V->List (Value×Value)->Prop
 | [],[],[]=>True
 | k::ks,v::vs,p::ps=>(∃ t,p.1=.str k t)/\RelV v p.2/\KVs ks vs ps
 | _,_,_=>False
def PD(X:Cx)(pos:Pos)(kes:List (Option Expr))(ves:List Expr)(ks:List Str)(t:TA):Prop :=
 ∀(pins:List (Addr×Obj))(s:Shared)(σ:St)(H:Hp)(Q:List V->Hp->Prop),Inv X pins σ H s->t σ H Q->wpAny (model X.prog X.w) X.A (evalPairs (prs X pos kes ves)) (λps s'=>∃ vs H',Inv X pins σ H' s'/\KVs ks vs ps/\Q vs H') X.xe s
theorem h0:PD X pos [] [] [] FI:=λ_ _ _ H Q I h=>evalPairs_nil ⟨[],H,I,trivial,h⟩
theorem ia(w:PE X f (tC (.str k)))(o:PE X v te)(r:PD X pos c b ks t):PD X pos (some f::c) (v::b) (k::ks) (D3 te t):=by
 intro pins s σ H Q I h;refine evalPairs_cons (thn (w pins s σ H (λu H'=>u=.str k/\H'=H) I ⟨rfl,rfl⟩) λa n d=>?_);obtain⟨A,H1,z,m,rfl,rfl⟩:=d;refine Ql (thn (o pins n σ _ _ z h) λx g e=>Ql (wpAny_standAt (Qm ?_)));obtain⟨j,H2,q,i,q2⟩:=e;exact thn (r pins g σ H2 _ q q2) (by rintro ps B ⟨vs,p,y,l,q3⟩;exact⟨j::vs,p,y,⟨m,i,l⟩,q3⟩)
theorem RN(h:PD X pos a b ks t)(i:∀ σ H Q,t' σ H Q->t σ H Q):PD X pos a b ks t':=λpins s σ H Q I q=>h pins s σ H Q I (i σ H Q q)
def kvW{α:Type}:List Str->List α->List (Key×α)
 | k::ks,v::vs=>(Sum.inr k,v)::kvW ks vs
 | _,_=>[]
theorem KVs.len:∀{ks:List Str}{vs:List V}{ps:List (Value×Value)},KVs ks vs ps->vs.length=ks.length/\ps.length=ks.length
 | [],[],[],_=>⟨rfl,rfl⟩
 | k::ks,v::vs,p::ps,h=>by
  obtain⟨a,b⟩:=KVs.len h.2.2;simp only[Yg];lia
theorem RO{α:Type}:∀{ks:List Str}{vs:List α},(kvW ks vs).length<=ks.length
 | [],vs=>by cases vs <;> exact Yr _
 | k::ks,[]=>YX _
 | k::ks,v::vs=>by have:=RO (ks:=ks) (vs:=vs);simp only[kvW,Yg];lia
theorem KVs.carries:∀{ks:List Str}{vs:List V}{ps:List (Value×Value)},KVs ks vs ps->Carries (Bw P w) ps (kvW ks (ps.map (·.2)))
 | [],[],[],_=>trivial
 | k::ks,v::vs,(a,x)::ps,h=>by
  obtain⟨⟨t,e⟩,_,h⟩:=h;have b:a=.str k t:=e;subst b;exact⟨X7 _ _ _ _,rfl,h.carries⟩
theorem KVs.kv:∀{ks:List Str}{vs:List V}{ps:List (Value×Value)},KVs ks vs ps->KV (kvW ks vs) (kvW ks (ps.map (·.2)))
 | [],[],[],_=>.nil
 | k::ks,v::vs,(a,x)::ps,h=>.cons ⟨rfl,h.2.1⟩ h.2.2.kv
theorem ib{k:Key}{v:Value}(h:∀ y∈a,y.1≠k):stored a k v=a++[(k,v)]:=by
 unfold stored;rw[if_neg];intro z;obtain⟨y,b,e⟩:=List.any_eq_true.mp z;exact h y b (of_decide_eq_true e)
theorem RP:∀(ks:List Str)(vs:List Value)(a:List (Key×Value)),ks.Nodup->(∀ y∈a,∀ k∈ks,y.1≠Sum.inr k)->merged a (kvW ks vs)=a++kvW ks vs
 | [],vs,a,_,_=>by cases vs <;> simp[kvW,merged]
 | k::ks,[],a,_,_=>by simp[kvW,merged]
 | k::ks,v::vs,a,f,c=>by
  obtain⟨n1,g⟩:=YU.mp f;show merged (stored a (Sum.inr k) v) (kvW ks vs)=a++(Sum.inr k,v)::kvW ks vs;rw[ib λy b=>c y b k Ye,RP ks vs _ g λy b j d=>?_,Yv]
  ·rfl
  ·rcases Yz.mp b with b | b
   ·exact c y b j (Yd _ d)
   ·rw[YA.mp b];intro e;exact n1 (by rw[Sum.inr.inj e];exact d)
def ic(ks:List Str)(t:TA):TE:=λσ H Q=>t σ H λvs H1=>ks.Nodup/\∀ l,H1 l=none->Q (.ref l) (upd H1 l (.dK (kvW ks vs)))
theorem ie(l:(evalEachOpt d X.env).zip ((evalEach a X.env).map λv=>do let x <- v;standAt pos;pure x)=(prs X pos d a).map λp=>(some p.1,p.2))(N:prs X pos d a≠[])(hl:(prs X pos d a).length<=15)(j:ks.length<=15)(f:PD X pos d a ks t):PE X (.Dict d a pos) (ic ks t):=by
 intro pins s σ H Q I h;have m:∀ b:Addr,s.heap.objs.size<=b->H b=none:=λb r=>I.hok.fresh r;refine wpAny_Dict_pairs (knd:=Bw X.prog X.w) l N hl ?_;have i:(s.heap.push {cls:=.type "dict",data:=.dict #[]}).get? s.heap.objs.size=some {cls:=.type "dict",data:=.dict #[]}:=Qp _ rfl;have y:Inv X pins σ H {s with heap:=s.heap.push {cls:=.type "dict",data:=.dict #[]}}:=I.kept (t':=s.toks) λb u e=>Qn _ e
 have D:Inv X (pins++[(s.heap.objs.size,{cls:=.type "dict",data:=.dict #[]})]) σ H {s with heap:=s.heap.push {cls:=.type "dict",data:=.dict #[]}}:=y.pins_of λp f=>by
  rcases Yz.mp f with z | z
  ·exact y.pin p (YN _ z)
  ·rw[YA.mp z];exact⟨i,m _ (Yr _),Nat.ne_of_gt I.lt,I.nofs (Yr _),λv z=>by cases z⟩
 refine thn (f _ _ σ H _ D h) λps k g=>?_;obtain⟨vs,J,A,kv,F,q⟩:=g;have pd:=A.pin (s.heap.objs.size,{cls:=.type "dict",data:=.dict #[]}) (by simp);refine⟨kvW ks (ps.map (·.2)),kv.carries,⟨_,#[],0,pd.1,⟨rfl,rfl,rfl⟩,rfl,λ_ O=>by simp at O,Pairs.nil,List.nodup_nil⟩,λh' B L=>?_⟩;rw[RP ks _ [] F (λ_ E=>by cases E),Yw]at B;have K:=A.unpinned
 have big:sysModules < s.heap.objs.size:=by
  have h:mainGlobals < s.heap.objs.size:=(I.mod.glob.keeps I.bk).lt;exact Nat.lt_trans (by decide) h
 have G:Inv X pins σ J {k with heap:=h',toks:=k.toks+ps.length}:=by
  refine K.turned (t':=k.toks+ps.length) (λb o r e=>(L.2 b r).trans e) pd.2.1 pd.2.2.1 (.inr I.sz) (λx c e=>?_) λp f=>?_
  ·obtain⟨v,o,n,_⟩:=I.cell x c e;exact Ys (Qo n)
  ·exact Ys (Qo (I.pin p f).1)
 refine⟨.ref s.heap.objs.size,_,G.track (o:=.dK (kvW ks vs)) pd.2.1 pd.2.2.1 (λx c e=>?_) (λp f=>Ys (Qo (I.pin p f).1)) ?_ ⟨Yt RO (Yt j (by decide)),by simpa using Nat.ne_of_gt big,_,kv.kv,B⟩,rfl,q _ pd.2.1⟩
 ·obtain⟨v,o,n,_⟩:=I.cell x c e;exact Ys (Qo n)
 ·cases e:X.s₀.heap.get? s.heap.objs.size with
  | none=>rfl
  | some o=>exact absurd (Yu (Qo e) I.sz) (YL _)
structure Pm(X:Cx)(pos:Pos)(kes:List (Option Expr))(ves:List Expr)(ks:List Str)(g:GA):Prop where
 p:PD X pos kes ves ks (upA X.K g)
 m:g.M
theorem RQ:Pm X pos [] [] [] Ac:=⟨RN h0 (by rintro σ H Q ⟨ω,G,a,r,q⟩;exact q [] H .refl .nil r),Pu⟩
theorem C8{j}(d:Em X v ga)(e:Pm X pos b a ks gs):Pm X pos (some (.Constant (.str k) j kp)::b) (v::a) (k::ks) (Aa ga gs):=
 ⟨RN (ia OA d.p e.p) (by rintro σ H Q ⟨ω,G,g,r,q⟩;exact⟨ω,G,g,r,d.m _ _ _ _ (λx l q1 v H1 h i r1=>⟨ω,l,g.mono h,r1,e.m _ _ _ _ (λxs o q2 vs H2 f c n=>q2 _ H2 (h.trans f) (.cons (i.mono f) c) n) q1⟩) q⟩),Pv d.m e.m⟩
def Ic(ks:List Str)(gs:GA):GE:=λω G Q=>gs ω G λws G1=>ks.Nodup/\∀ l,G1 l=none->Q (.ref l) (put G1 l (.dct (kvW ks ws)))
theorem ig(m:gs.M):GE.M (Ic ks gs):=λω G Q a h q=>m _ _ _ _ (by rintro c b ⟨e,z⟩;exact⟨e,λl hl=>h _ _ (z l hl)⟩) q
theorem RS:∀{ks:List Str}{vs:List V}{b:List W},TrL K H vs b->TrP K H (kvW ks vs) (kvW ks b)
 | [],_,_,t=>by cases t <;> exact .nil
 | k::ks,_,_,.nil=>.nil
 | k::ks,_,_,.cons a t=>.cons a (RS t)
theorem RT(d:(evalEachOpt b X.env).zip ((evalEach a X.env).map λv=>do let x <- v;standAt pos;pure x)=(prs X pos b a).map λp=>(some p.1,p.2))(g:prs X pos b a≠[])(hl:(prs X pos b a).length<=15)(e:ks.length<=15)(c:Pm X pos b a ks gs):Em X (.Dict b a pos) (Ic ks gs):=by
 refine⟨A7 (ie d g hl e c.p) λσ H Q⟨ω,G,h,r,q⟩=>⟨ω,G,h,r,c.m _ _ _ _ (λk j z vs H1 i tv r1=>?_) q⟩,ig c.m⟩;obtain⟨f,z⟩:=z;exact⟨f,λl hl=>z l (r1.no hl) _ _ (i.trans (Mono.new hl _)) (.ref l) (RelH.laid r1 (Mono.new hl _) ⟨_,BS,RS (tv.mono (Mono.new hl _))⟩)⟩
section
theorem ii{δ:Type}{R:δ->Value->Prop}{D:List (Str×δ)}(T:KTD.TabOf R h₀ a D)(n:∀ b o,h₀.get? b=some o->s.heap.get? b=some o)(h1:∀ d v,KTD.datumAt k D=some d->R d v->Q (some v) {s with toks:=s.toks+1})(h2:KTD.datumAt k D=none->Q none {s with toks:=s.toks+1}):wpAny (model prog w) A (dictGet a (.str k tk)) Q E s:=by
 obtain⟨_,o,es,p,g,hc,hd,h⟩:=T;have g:=n _ _ g;unfold dictGet
 try with_reducible refine wpAny_holding ?_
 refine Ql (wpAny_pyHash_str (Ql (KTD.kt_dictFind_strs (s:={s with toks:=s.toks+1}) g hd (by obtain⟨l⟩:=es;simpa using h.exact) ?_)))
 have c:Q (findBy (λk v=>v.isStr k) es k) {s with toks:=s.toks+1}:=by
  have j:findBy (λk v=>v.isStr k) es k=(es.toList.find? λe=>e.key.isStr k).map (·.val):=by
   obtain⟨l⟩:=es;simp[findBy]
  rw[j];cases f:KTD.datumAt k D with
  | none=>rw[h.find_none f];exact h2 f
  | some d=>obtain⟨v,e,m⟩:=h.find_some f;rw[e];exact h1 d v f m
 rw[findBy_of_findIdx?]at c;cases hi:es.findIdx? λe=>e.key.isStr k with
 | none=>rw[hi]at c;exact Qm c
 | some i=>rw[hi]at c;exact Ql (wpAny_dictEntries (s:={s with toks:=s.toks+1}) g hd (Qm c))
variable {prog:Program}{w:World}{s:Shared} in
theorem ij{δ:Type}{R:δ->Value->Prop}{h₀:Heap}{a:Addr}{D:List (Str×δ)}{k:Str}{tk:Tok}:MeetsIn prog w (Builtin.«dict.get» ⟨[.ref a,.str k tk],[]⟩) (λ_ Z s=>(KTD.TabOf R h₀ a D/\∀ b o,h₀.get? b=some o->s.heap.get? b=some o)/\(∀ d v,KTD.datumAt k D=some d->R d v->Z (.ok (.ret v)) {s with toks:=s.toks+1})/\(KTD.datumAt k D=none->Z (.ok (.ret .none)) {s with toks:=s.toks+1})):=
 .of_wp λA Z s⟨⟨T,g⟩,h1,h2⟩=>by
  show wpAny _ _ (dictGet a (.str k tk) >>=_) _ _ s;refine Ql (ii T g (λd v f c=>Qm ⟨v,rfl,h1 d v f c⟩) λe=>?_);show wpAny _ _ (Builtin.Dict.missed a (.str k tk) >>=_) _ _ _;exact Ql (wpAny_missed_other T.1 (Qm ⟨.none,rfl,h2 e⟩))
end
def E9(D:List (Str×List Str))(z:Str):W:=match KTD.datumAt z D with | some ss=>.tup (ss.map W.str)| none=>.non
def Ie(D:List (Str×List Str))(gk:GE):GE:=λω G Q=>gk ω G λw G1=>match w with | .str z=>Q (E9 D z) G1 | _=>False
theorem ik(h:LY X.K X.mg X.base x D)(L:Gl X x)(hd:(x==("__debug__":Str))=false)(c:attributeBase (.Name x j) "get" X.env (eval (.Name x j) X.env)=eval (.Name x j) X.env)(f:((backTo cpos (starEach [e] X.env)).all (λx=>!x.1)&&(backToKw cpos (keywordEach [] X.env)).all (λx=>x.1.isSome)&&decide ([e].length+([]:List Keyword).length+(if([]:List Keyword).isEmpty then 0 else 1) < 30))=true)(a:(apos.endLine==cpos.line)=true)(hs:starEach [e] X.env=(false,eval e X.env)::starEach [] X.env)(hplain:(backTo cpos (starEach [] X.env)).any (·.1)=false)(g:Em X e k):
  Em X (.Call (.Attribute (.Name x j) "get" apos) [e] [] cpos) (Ie D k):=by
 refine⟨λpins s σ H Q I⟨ω,G,E,r,q⟩=>?_,λω G Q Q' hh q=>g.m _ _ _ _ (λw Z z=>by cases w <;> first | exact hh _ _ z | exact z) q⟩;obtain⟨d,U,T⟩:=h
 have ty:∀{s:Shared},(∀ b o,X.base.get? b=some o->s.heap.get? b=some o)->s.TypeIs (.ref d) "dict":=λg=>by
  obtain⟨_,o,_,_,n,hc,_⟩:=T;exact⟨o,g _ _ n,hc.1⟩
 have nd:∀ b,Value.ref d=.ref b->∃ B,s.heap.get? b=some B/\B.dict=none:=λb e=>by
  injection e with e;subst e;obtain⟨_,o,_,_,n,hc,_⟩:=T;exact⟨o,I.bk _ _ n,hc.2.1⟩
 refine wpAny_Call_method_late c f a rfl (EM I L U ⟨"dict","dict.get",PySem.F.plainAttrs_dict,PySem.F.slot_dict_get,PySem.F.type_dict_get,ty I.bk,nd,?_⟩ hd);have pa:PA X [e] (D3 (up X.K k) FI):=ER g.p Gh hs
 have A:=pa cpos pins s σ H (λvs H1=>∃ z,vs=[.str z]/\∀ v,Tr X.K H1 v (E9 D z)->Q v H1) I ⟨ω,G,E,r,g.m _ _ _ _ (λw Z z v H1 m t r1=>by
  cases w with
  | str y=>exact⟨y,by rw[PB t],λv tv=>z v H1 m tv r1⟩
  | _=>exact z.elim) q⟩
 rw[hs]at A ⊢;refine Calls.callWith_builtin (by show(false||(backTo cpos (starEach [] X.env)).any (·.1))=false;rw[hplain] <;> rfl) (Calls.evalArgs_plain ?_);refine thn A λus s2 l=>?_;obtain⟨vs,H2,i,N,z,Y,q2⟩:=l;subst Y;obtain⟨u,rfl,O⟩:=Cz N;obtain⟨t,rfl⟩:=O;refine call_meetsIn PySem.F.slot_dict_get (ty i.bk) PySem.F.entry_dict_get (PySem.F.args_dict_get_2 _ _) (ij (h₀:=X.base) (D:=D)) ⟨⟨T,i.bk⟩,λJ v ha R=>?_,λS=>?_⟩
 ·obtain⟨b,rfl,P⟩:=R;exact⟨.ref b,H2,i.tok _,rfl,q2 _ (by unfold E9;rw[ha];exact .tup (P H2) (Rv H2 J))⟩
 ·exact⟨.non,H2,i.tok _,rfl,q2 _ (by unfold E9;rw[S];exact .non)⟩
end L3
namespace L3
open PySem PySem.Spec PyProof.Rows L2
def Fa(gs:GA):GI:=λω G R=>gs ω G λws G1=>∃ xs y ys,ws=[.tup xs,y]/\rdL G1 y=some ys/\R (Bx xs ys) (λG=>rdL G y=some ys) G1
theorem il(m:gs.M):GI.M (Fa gs):=λω G R d h q=>m _ _ _ _ ((by rintro c b ⟨xs,y,ys,e,a,z⟩;exact⟨xs,y,ys,e,a,h _ _ _ z⟩)) q
theorem RU(g:X.mg "zip"=none)(i:Gl X "zip")(hs:starEach [a,b] X.env=[(false,eval a X.env),(false,eval b X.env)])(d:starEach [b] X.env=[(false,eval b X.env)])(e:Am X [a,b] gs):
  Im X (.Tuple c k tpos) (.Call (.Name "zip" p) [a,b] [] pos) (Fa gs):=
 LX (LW true false g i hs d e) (il e.m) λω G R q=>e.m _ _ _ _ (by
  rintro l j ⟨xs,y,ys,rfl,f,z⟩;refine⟨_,y,xs,ys,rfl,rfl,f,?_⟩;rw[show(λG=>rdX true G (.tup xs)=some xs/\rdX false G y=some ys)=λG=>rdL G y=some ys from funext λ_=>propext ⟨λh=>h.2,λh=>⟨rfl,h⟩⟩];exact z) q
end L3
namespace L3
open PySem PySem.Spec PyProof.Rows L2
end L3
namespace L3
open PySem PySem.Spec PyProof.Rows L2
theorem im:CallR X (.type "dict") (λxs H Q=>∃(p:Addr)(kvs:List (Key×V)),xs=[.ref p]/\H p=some (.dK kvs)/\∀ l,H l=none->Q (.ref l) (upd H l (.dK kvs))):=by
 intro pins s σ H xs k Q I r h;obtain⟨p,kvs,rfl,i,q⟩:=h;obtain⟨u,rfl,d⟩:=Cz r;cases d;obtain⟨c,hd,vs,a,j⟩:kvs.length<=sizeLine/\(p==sysModules)=false/\∃ vs,KV kvs vs/\s.heap.DictOf (Bw X.prog X.w) p vs:=I.hok p _ i;have hl:=Paired.length a;refine kt_call_dict hd j (by lia) λh' f hs=>?_
 have big:sysModules < s.heap.objs.size:=by
  have h:mainGlobals < s.heap.objs.size:=(I.mod.glob.keeps I.bk).lt;exact Nat.lt_trans (by decide) h
 have g:Inv X pins σ (upd H s.heap.objs.size (.dK kvs)) {s with heap:=h'}:=
  I.laid (t':=s.toks) (λb u e=>(hs.2 b (Ys (Qo e))).trans (Qn _ e)) (Yr _) (show ObjOk X.prog X.w _ _ _ (.dK _)from⟨c,by simpa using Nat.ne_of_gt big,_,a,f⟩)
 exact⟨.ref s.heap.objs.size,_,g,rfl,q _ (I.hok.fresh (Yr _))⟩
def GK(ws:List W)(G:Hw)(Q:Kw):Prop:=∃(p:Addr)(kvs:List (Key×W)),ws=[.ref p]/\G p=some (.dct kvs)/\∀ l,G l=none->Q (.ref l) (put G l (.dct kvs))
theorem io:RWc.M GK:=λc G Q b h⟨p,a,h1,h2,q⟩=>⟨p,a,h1,h2,λl hl=>h _ _ (q l hl)⟩
theorem ip{K:PySem.W.Frag}:UpC K GK (λxs H Q=>∃(p:Addr)(kvs:List (Key×V)),xs=[.ref p]/\H p=some (.dK kvs)/\∀ l,H l=none->Q (.ref l) (upd H l (.dK kvs))):=λf vs G H Q t r q=>by
 obtain⟨p,kvs,rfl,d,q⟩:=q;cases t with
 | cons e t =>
  cases t;cases e;obtain⟨b,c,l⟩:=r p _ d;refine⟨p,b,rfl,c,λa hl=>?_⟩;exact q a (r.no hl) _ _ (Mono.new hl _) (.ref a) (RelH.laid r (Mono.new hl _) ⟨_,BS,l.mono (Mono.new hl _)⟩)
theorem iq(_:X.calm=true):Blt X (.type "dict") GK:=⟨⟨_,im,ip⟩,io⟩
end L3
namespace L2
open PySem PySem.Spec PyProof.Rows
end L2
namespace L3
open PySem PySem.Spec PyProof.Rows L2
section
variable {α:Type}
theorem Bg:atI (x::xs) 0=some x:=FJ (j:=0) (xs:=x::xs) rfl
theorem Bb:atI (x::y::xs) 1=some y:=FJ (j:=1) (xs:=x::y::xs) rfl
theorem B4:atI (x::y::z::xs) 2=some z:=FJ (j:=2) (xs:=x::y::z::xs) rfl
end
theorem An:opt (some w) f=f w:=rfl
theorem AD(h:G p=none):Sub G (put G p o):=Sub.refl.put h
theorem Bh(s:Sub G a)(h:a p=none):Sub G (put a p o):=s.trans (AD h)
theorem L5:put (put G p o) p o'=put G p o':=by
 funext b;unfold put;split <;> rfl
theorem Cq(h:G p=some (.lst xs)):C6 G (.ref p)=some xs:=by unfold C6;dsimp only;rw[h]
theorem L6(h:G p=some (.lst xs)):Dz G (.ref p)=some xs:=by unfold Dz;dsimp only;rw[h]
theorem Cr(h:G p=some (.lst xs)):rdL G (.ref p)=some xs:=by unfold rdL;dsimp only;rw[h]
theorem RV(h:G p=some (.lst xs)):Ck (.ref p) G=some (.int xs.length):=by unfold Ck;dsimp only;rw[h]
theorem Ee(h:G p=some (.lst xs)):ixW (.ref p) (.int i) G=atI xs i:=by unfold ixW;dsimp only;rw[h]
theorem DF:∀ bs:List Bool,EW (bs.map W.bl)=some bs
 | []=>rfl
 | b::bs=>by show(EW (bs.map W.bl)).map (b::·)=_;rw[DF bs];rfl
theorem L8:∀ bs:List Int,D8 (bs.map W.int)=some bs
 | []=>rfl
 | b::bs=>by show(D8 (bs.map W.int)).map (b::·)=_;rw[L8 bs];rfl
theorem RW:∀ bs:List Str,EZ (bs.map W.str)=some (bs.map V.str)
 | []=>rfl
 | b::bs=>by show(Gs (.str b)).bind (λv=>(EZ (bs.map W.str)).map (v::·))=_;rw[RW bs];rfl
theorem RX(s:Str):∀ bs:List Str,inV (.str s) (bs.map V.str)=bs.any (·==s)
 | []=>rfl
 | b::bs=>by
  show(eqV (.str b) (.str s)||inV (.str s) (bs.map V.str))=_;rw[RX s bs];rfl
theorem Ef(a:c G):∀(b:List W)(o:Option W)(ys:List W),(∀ x∈b,∀ Q:Kw,Q (f x) G->ge [some x] G Q)->
  ys.length+b.length<=sizeLine->R (ys++b.map f) G->AN c (gNm 0) Ay ge R b [o] G ys
 | [],o,ys,_,_,r=>⟨a,by simpa using r⟩
 | x::b,o,ys,h,hl,r=>by
  refine⟨a,by simp only[Yg]at hl;lia,?_⟩;show ge [some x] G λy d=>AN c (gNm 0) Ay ge R b [some x] d (ys++[y]);refine h x Ye _ (Ef a b (some x) (ys++[f x]) (λy e=>h y (Yd _ e)) ?_ ?_)
  ·simp only[Yj,Yg,Yi]at hl ⊢;lia
  ·simpa[Yv]using r
theorem RY{f:W->W->W}(a:c G):∀(b:List (W×W))(o o':Option W)(ys:List W),(∀ x∈b,∀ Q:Kw,Q (f x.1 x.2) G->ge [some x.1,some x.2] G Q)->
  ys.length+b.length<=sizeLine->R (ys++b.map λx=>f x.1 x.2) G->AN c (AM 0 1) Ay ge R (b.map λx=>W.tup [x.1,x.2]) [o,o'] G ys
 | [],o,o',ys,_,_,r=>⟨a,by simpa using r⟩
 | x::b,o,o',ys,h,hl,r=>by
  refine⟨a,by simp only[Yg]at hl;lia,?_⟩;show ge [some x.1,some x.2] G λy d=>AN c (AM 0 1) Ay ge R (b.map λx=>W.tup [x.1,x.2]) [some x.1,some x.2] d (ys++[y]);refine h x Ye _ (RY a b (some x.1) (some x.2) (ys++[f x.1 x.2]) (λy e=>h y (Yd _ e)) ?_ ?_)
  ·simp only[Yj,Yg,Yi]at hl ⊢;lia
  ·simpa[Yv]using r
theorem Ig:∀(xs ys:List W),Bx xs ys=(xs.zip ys).map λx=>W.tup [x.1,x.2]
 | [],_=>by simp[Bx]
 | _::_,[]=>by simp[Bx]
 | x::xs,y::ys=>by simp[Bx,Ig xs ys]
def spR{α:Type}(A:α->List W->Hw->Prop)(f:α->W):Spw:=λws G Q _=>∃ x,A x ws G/\Q (f x) G
theorem Ce{α:Type}{A:α->List W->Hw->Prop}{f:α->W}:Spw.M (spR A f):=(by rintro c G Q a E b h _ ⟨x,h1,q⟩;exact⟨x,h1,h _ _ q⟩)
def spL{α:Type}(A:α->List W->Hw->Prop)(f:α->List W):Spw:=λws G Q _=>∃ x,A x ws G/\∀ p,G p=none->Q (.ref p) (put G p (.lst (f x)))
theorem BX{α:Type}{A:α->List W->Hw->Prop}{f:α->List W}:Spw.M (spL A f):=(by rintro d G Q b E c h _ ⟨x,h1,q⟩;exact⟨x,h1,λp a=>h _ _ (q p a)⟩)
theorem CP{α:Type}(xs:List α):BH xs (some 1) none=xs.drop 1:=by
 have e:HT.sIx xs.length 0 (some 1)=min 1 xs.length:=HT.sIx_nat xs.length 0 1;unfold BH;rw[e,HT.sIx_none];cases xs with
 | nil=>rfl
 | cons x xs =>
  have a:min 1 (x::xs).length=1:=by simp only[Yg];lia
  rw[a];show(xs.take ((xs.length+1) - 1))=xs;rw[Nat.add_sub_cancel,List.take_length]
theorem GL{α:Type}(x:α)(xs:List α):¬ (HT.sIx (x::xs).length 0 (some 1)=0/\HT.sIx (x::xs).length (x::xs).length none=(x::xs).length):=by
 have e:HT.sIx (x::xs).length 0 (some 1)=min 1 (x::xs).length:=HT.sIx_nat (x::xs).length 0 1;intro h;have:=h.1;rw[e]at this;simp only[Yg]at this;lia
theorem L9{lo:Option Int}(h:G p=some (.lst xs))(q:∀ p1,G p1=none->Q (.ref p1) (put G p1 (.lst (BH xs lo hi)))):slW (.ref p) lo hi G Q:=by
 unfold slW;dsimp only;rw[h];exact q
theorem AJ{G:Hw}(h:G p=some o)(h':G q=none):p≠q:=by intro e;rw[e,h']at h;cases h
theorem A9(h:n<=100000):n<=sizeLine:=Yt h (by decide)
theorem Bq(h:n<=100000):n < sizeLine:=Nat.lt_of_le_of_lt h (by decide)
section
theorem ok0{K:PySem.W.Frag}{st:Stmt}(F:Fun K x x st f fd)(S:AB N ps (Ap st))(len:∀ c G Q E,sp c G Q E->c.length=ps.length)(l:∀{f:Addr}{cdv:Value}{A:Around}{outer:List Env}{s:Shared}{H:Hp}{E:XK},Room k (A.deeper (envOfC x (Ap st) s.heap.objs.size f cdv))->Ssm (cxW P w K mg base N x (Ap st) f cdv A outer s H E).nox (λB=>B=H) (Bv st) g)(ok:∀ c G(Q:Kw)(E:Addr->Hw->Prop),Kw.C Q->sp c G Q E->g (Au Q) (Bo N c) G):FnOk P w K mg base (CXe P w) (k+1) f fd ps (Dx K sp):=by
 obtain⟨o,u,kV,j,pm,v,cdv,ct,h,rfl,lk,e⟩:=F.ex;refine Gi lk e S ((by rintro vs H Q E ⟨c,G,t,r,q⟩;rw[t.length];exact len c G _ _ q)) λA outer s H vs Q E i d=>?_;obtain⟨c,G,t,r,q⟩:=d;have D:=l (cdv:=cdv) (outer:=outer) (H:=H) (E:=E) i;refine⟨_,(D.p H rfl).nox,Bo N c,G,Gn t,r,.refl,?_⟩;exact D.m _ _ (Au (dn K H Q)) _ (λa b z σ H2 m y n=>z _ H2 m Tr.non n) (λa b z=>z) (λa b z=>z.elim) (λa b z=>z.elim) (ok c G _ _ Gp q)
end
def Ih:Spw:=λws _ Q _=>∃ ns:List Int,ws=[.rol (ns.map W.int)]/\ns.length<=63/\∀ G',Q (.bl true) G'
theorem RZ{K:PySem.W.Frag}:∀ ns:List Int,TrL K H (ns.map V.int) (ns.map W.int)
 | []=>.nil
 | n::ns=>.cons (.int n) (RZ ns)
theorem ir{K:PySem.W.Frag}{ns:List Int}(hl:ns.length<=63)(c:HB H)(b:SqL K H a (ns.map V.int)):Dx K Ih [.ref a] H (λv _=>v=.bl true) (λ_ _ _=>False):=by
 have d:RoL K H a (ns.map V.int):=by
  rcases b with(h |⟨o,h⟩)| h
  ·rcases c a with z |⟨o,xs,z⟩
   ·rw[z]at h;cases h
   ·rw[z]at h;cases h
  ·exact .inl ⟨o,h⟩
  ·exact .inr h
 exact⟨[.rol (ns.map W.int)],λ_=>none,.cons (.rol d (RZ ns)) .nil,(λa o e=>by cases e),ns,rfl,hl,λf v H' m t r=>FM t⟩
theorem iu(h:CXe P w [] H s (λ_ _ _=>False) e s'):False:=by
 obtain⟨_,_,_,_,_,q⟩:=h;exact q
section
variable {K:PySem.W.Frag}{h:Heap}{mg:Str->Option Value}(X:K.In h)(G:h.Ns mainGlobals mg)
include X G
theorem iw{st:Stmt}{h:Option Addr}{kV:Value}(e1:PySem.W.nsIn K mainGlobals x=some (some (.ref f)))(l:K.lookup f=some ⟨g,h,.func (PySem.W.fnOf x x (D1 st) (Bv st) (Ap st) .none kV a pm d cdv ct),e⟩)(c:PySem.W.codeIn K cdv x=true)(k:PySem.W.keepIn K (.ref f)=true)(b:∀(kV a pm:Value)(d:Option Addr)(cdv ct:Value)(us:List Value),us.length=ps.length->bindArgs (PySem.W.fnOf x x (D1 st) (Bv st) (Ap st) .none kV a pm d cdv ct) ⟨us,[]⟩=pure (ps.zip us)):Fn K mg st x ps :=
 ⟨f,_,PySem.W.mg_of X G e1,O6 l c k,(O6 l c k).binds b⟩
theorem F2(e:PySem.W.nsIn K mainGlobals x=some (some (.int i t))):Glb K mg x (.int i):=⟨.int i,.int i t,PySem.W.mg_of X G e,⟨t,rfl⟩,λH=>.int i⟩
theorem ix{ts:List (Str×Tok)}{dd:Option Addr}(e:PySem.W.nsIn K mainGlobals x=some (some (.ref d)))(l:K.lookup d=some ⟨.type "tuple",none,.seq ((ts.map λp=>Value.str p.1 p.2).toArray) n,c⟩)(f:ts.length<=1000):
  Glb K mg x (.tup (ts.map λp=>.str p.1)):=by
 have vs:∀ ts:List (Str×Tok),Vals (ts.map λp=>V.str p.1) (ts.map λp=>Value.str p.1 p.2):=λts=>by
  induction ts with
  | nil=>exact .nil
  | cons p ts a=>exact .cons ⟨p.2,rfl⟩ a
 have b:∀(H:Hp)(ts:List (Str×Tok)),TrL K H (ts.map λp=>V.str p.1) (ts.map λp=>W.str p.1):=λH ts=>by
  induction ts with
  | nil=>exact .nil
  | cons p ts a=>exact .cons (.str _) a
 refine⟨.ref d,.ref d,PySem.W.mg_of X G e,rfl,λH=>.tup (.inr ⟨_,_,n,l,rfl,rfl,rfl,?_,by simpa using vs ts⟩) (b H ts)⟩;simp only[Yn,Yh];exact Yt f (by decide)
end
theorem iy{K:PySem.W.Frag}(X:K.In h)(G:h.Ns mainGlobals mg)(B:K.In base)(e:PySem.W.nsIn K mainGlobals x=some (some (.ref d)))(l:K.lookup d=some o)(hd:(d==sysModules)=false)(c:o.ExactDict)(a:o.data=.dict es ep)(b:KTD.Rows (KTD.Dat.At base) es.toList (D.map λp=>(p.1,KTD.Dat.flat (.int p.2)))):Lz mg base x D :=
 ⟨d,PySem.W.mg_of X G e,hd,o,es,ep,B _ _ l,c,a,b⟩
theorem GM{K:PySem.W.Frag}(a:(Value.ref C==Value.ref D)=false)(c:(PySem.W.clsIn K D).isSome=true)(h1:PySem.W.typeIn K (.ref D)=some (.type "type"))(h2:PySem.W.subIn K (.ref C) (.ref D)=some b):PySem.W.kitOne K (.ref C) (.ref D)=some b:=by
 unfold PySem.W.kitOne PySem.W.kitCls;rw[if_neg (by rw[a];exact YW)];dsimp only;rw[if_pos (by rw[c,h1];rfl)];exact h2
theorem iz{K:PySem.W.Frag}:PySem.W.kitOne K (.ref C) (.ref C)=some true:=by
 unfold PySem.W.kitOne;rw[if_pos (by simp)]
theorem iA{K:PySem.W.Frag}(a:PySem.W.kitMeta T=true)(h2:PySem.W.subIn K (.ref C) (.type T)=some b):PySem.W.kitOne K (.ref C) (.type T)=some b:=by
 unfold PySem.W.kitOne PySem.W.kitCls;rw[if_neg (by intro h;cases beq_iff_eq.mp h)];dsimp only;rw[if_pos a];exact h2
theorem iB{l:PySem.W.OpenLaw}{K:Params->PySem.W.Frag}(j:Room k callerA)(i:l.most=some 63)(b:d.params.defaults=[])(o:∀(w:World)(h:Heap),YP w h->(K w.params).In h)(F:∀(w:World)(mg:Str->Option Value)(c:Addr)(h:Heap),(K w.params).In h->h.Ns mainGlobals mg->mg d.name=some (.ref c)->
   ∃ fd:FuncData,(∀(s:Shared)(u:Value),BindsTo s fd ⟨[u],[]⟩ [("script",u)])/\∀ base:Heap,(K w.params).In base->base.Ns mainGlobals mg->FnOk l.prog w (K w.params) mg base (CXe l.prog w) k c fd ["script"] (Dx (K w.params) Ih)):
  PySem.W.WalkO q loose XP YP l.row.toRowW d [] (λf vs=>PySem.call f vs):=
 L2.a7 (n:=63) (k:=k) (x:="script") (CX:=λw=>CXe l.prog w) (sp:=λw=>Dx (K w.params) Ih) i (by decide) b j o F (λw H a ns hl m g=>ir hl m g) λw H s e s' z=>iu z
theorem Fb{α:Type}{o:Option α}{x:α}(h:o=some x):o.isSome=true:=by rw[h];rfl
theorem ln0{us:List Value}(h:us.length=0):us=[]:=Qi.mp h
theorem ln1{us:List Value}(h:us.length=n+1):∃ a r,us=a::r/\r.length=n:=by
 cases us with
 | nil=>cases h
 | cons a r=>exact⟨a,r,rfl,Nat.succ.inj h⟩
end L3
namespace KT
open PySem L2 L3
mutual
inductive Kd where
 | any | num | truth
 | to (a b:Kd)| box (a:Kd)| row (fs:Fs) (o:Bool)
inductive Fs where
 | nil | cons (n:Str) (m:Bool) (k:Kd) (r:Fs)
end
def mark(m:Bool):Str:=if m then "must" else "may"
mutual
def Kd.enc:Kd->W
 | .any=>.tup [.str "any"]
 | .num=>.tup [.str "num"]
 | .truth=>.tup [.str "truth"]
 | .to a b=>.tup [.str "to",a.enc,b.enc]
 | .box a=>.tup [.str "box",a.enc]
 | .row fs o=>.tup [.str "row",.tup fs.enc,.bl o]
def Fs.enc:Fs->List W
 | .nil=>[]
 | .cons n m k r=>.tup [.str n,.str (mark m),k.enc]::r.enc
end
def Fs.kinds:Fs->List Kd
 | .nil=>[]
 | .cons _ _ k r=>k::r.kinds
def Fs.names:Fs->List Str
 | .nil=>[]
 | .cons n _ _ r=>n::r.names
def Kd.kids:Kd->List Kd
 | .to a b=>[a,b]
 | .box a=>[a]
 | .row fs _=>fs.kinds
 | _=>[]
mutual
def Kd.cnt:Kd->Nat
 | .to a b=>1+(a.cnt+b.cnt)
 | .box a=>1+a.cnt
 | .row fs _=>1+fs.cnt
 | _=>1
def Fs.cnt:Fs->Nat
 | .nil=>0
 | .cons _ _ k r=>k.cnt+r.cnt
end
mutual
def Kd.dp:Kd->Nat
 | .to a b=>1+max a.dp b.dp
 | .box a=>1+a.dp
 | .row fs _=>1+fs.dp
 | _=>1
def Fs.dp:Fs->Nat
 | .nil=>0
 | .cons _ _ k r=>max k.dp r.dp
end
mutual
def Kd.all:Kd->List Kd
 | .to a b=>.to a b::(a.all++b.all)
 | .box a=>.box a::a.all
 | .row fs o=>.row fs o::fs.all
 | .any=>[.any]
 | .num=>[.num]
 | .truth=>[.truth]
def Fs.all:Fs->List Kd
 | .nil=>[]
 | .cons _ _ k r=>k.all++r.all
end
def A3:List Kd->Nat
 | []=>0
 | k::r=>k.cnt+A3 r
def dpL:List Kd->Nat
 | []=>0
 | k::r=>max k.dp (dpL r)
theorem Ii:∀ fs:Fs,fs.cnt=A3 fs.kinds
 | .nil=>rfl
 | .cons _ _ k r=>by show k.cnt+r.cnt=k.cnt+A3 r.kinds;rw[Ii r]
theorem R1:∀ fs:Fs,fs.dp=dpL fs.kinds
 | .nil=>rfl
 | .cons _ _ k r=>by show max k.dp r.dp=max k.dp (dpL r.kinds);rw[R1 r]
theorem R3:∀ fs:Fs,fs.all=fs.kinds.flatMap Kd.all
 | .nil=>rfl
 | .cons _ _ k r=>by show k.all++r.all=(k::r.kinds).flatMap Kd.all;rw[R3 r,Qe]
theorem C9(k:Kd):k.cnt=1+A3 k.kids:=by
 cases k with
 | to a b=>show 1+(a.cnt+b.cnt)=1+(a.cnt+(b.cnt+0));lia
 | box a=>show 1+a.cnt=1+(a.cnt+0);lia
 | row fs o=>show 1+fs.cnt=1+A3 fs.kinds;rw[Ii]
 | _=>rfl
theorem Ij(k:Kd):k.dp=1+dpL k.kids:=by
 cases k with
 | to a b=>show 1+max a.dp b.dp=1+max a.dp (max b.dp 0);lia
 | box a=>show 1+a.dp=1+max a.dp 0;lia
 | row fs o=>show 1+fs.dp=1+dpL fs.kinds;rw[R1]
 | _=>rfl
theorem R4(k:Kd):k.all=k::k.kids.flatMap Kd.all:=by
 cases k with
 | to a b=>show Kd.to a b::(a.all++b.all)=Kd.to a b::[a,b].flatMap Kd.all;simp[Qe]
 | box a=>show Kd.box a::a.all=Kd.box a::[a].flatMap Kd.all;simp[Qe]
 | row fs o=>show Kd.row fs o::fs.all=Kd.row fs o::fs.kinds.flatMap Kd.all;rw[R3]
 | _=>rfl
theorem R5:∀(l m:List Kd),A3 (l++m)=A3 l+A3 m
 | [],m=>by simp[A3]
 | k::l,m=>by show k.cnt+A3 (l++m)=k.cnt+A3 l+A3 m;rw[R5 l m];lia
theorem R6:∀(l m:List Kd),dpL (l++m)=max (dpL l) (dpL m)
 | [],m=>by simp[dpL]
 | k::l,m=>by show max k.dp (dpL (l++m))=max (max k.dp (dpL l)) (dpL m);rw[R6 l m];lia
theorem Ma(k:Kd):1<=k.cnt:=by rw[C9];lia
theorem DG(k:Kd):1<=k.dp:=by rw[Ij];lia
theorem R7:∀ l:List Kd,A3 l=l.length+A3 (l.flatMap Kd.kids)
 | []=>rfl
 | k::l=>by
  show k.cnt+A3 l=(l.length+1)+A3 ((k::l).flatMap Kd.kids);rw[Qe,R5,R7 l,C9 k];lia
theorem R8:∀ l:List Kd,l≠[]->dpL l=1+dpL (l.flatMap Kd.kids)
 | [],h=>absurd rfl h
 | [k],_=>by
  show max k.dp 0=1+dpL ([k].flatMap Kd.kids);rw[Qe,List.flatMap_nil,Yx,Ij];lia
 | k::a::l,_=>by
  have b:=R8 (a::l) (by simp);show max k.dp (dpL (a::l))=1+dpL ((k::a::l).flatMap Kd.kids);rw[Qe,R6,b,Ij k];lia
theorem F3:∀ l:List Kd,l.length<=A3 l
 | []=>Yr _
 | k::l=>by have:=F3 l;have:=Ma k;show l.length+1<=k.cnt+A3 l;lia
theorem Mb:∀{l:List Kd}{k:Kd},k∈l->k.cnt<=A3 l
 | a::l,k,h=>by
  show k.cnt<=a.cnt+A3 l;walk_at "pk"
  ·lia
  ·have:=Mb h;lia
theorem EY:∀{l:List Kd}{k:Kd},k∈l->k.dp<=dpL l
 | a::l,k,h=>by
  show k.dp<=max a.dp (dpL l);walk_at "pk"
  ·lia
  ·have:=EY h;lia
theorem Fc{k:Kd}(h:c∈k.kids):c.dp+1<=k.dp:=by rw[Ij k];have:=EY h;lia
theorem GN{k:Kd}(h:c∈k.kids):c.cnt+1<=k.cnt:=by rw[C9 k];have:=Mb h;lia
theorem R9(k:Kd):k.kids.length+1<=k.cnt:=by rw[C9 k];have:=F3 k.kids;lia
theorem Sa:∀ fs:Fs,fs.enc.length=fs.kinds.length
 | .nil=>rfl
 | .cons _ _ k r=>by show r.enc.length+1=r.kinds.length+1;rw[Sa r]
theorem iC:∀(n:Nat)(k:Kd),k.dp<=n->k.all.length=k.cnt:=by
 intro n;induction n with
 | zero=>intro k h;have:=DG k;lia
 | succ n b =>
  intro k h
  have key:∀ l:List Kd,(∀ c∈l,c.dp<=n)->(l.flatMap Kd.all).length=A3 l:=by
   intro l;induction l with
   | nil=>intro _;rfl
   | cons c l a =>
    intro hl;rw[Qe,Yj,b c (hl c Ye),a (λd hd=>hl d (Yd _ hd))];rfl
  rw[R4,Yg,key k.kids (λc hc=>by have:=Fc hc;lia),C9];lia
theorem Mc(k:Kd):k.all.length=k.cnt:=iC k.dp k (Yr _)
def Kd.unk:Kd->Bool
 | .any=>true
 | .row _ o=>o
 | _=>false
def Kd.fb:Kd->Bool
 | .to _ _=>true
 | .box _=>true
 | _=>false
def Kd.known(k:Kd):Bool:=!(k.all.any Kd.unk)
def Kd.data(k:Kd):Bool:=!(k.all.any Kd.fb)
def Kd.hd:Kd->Str
 | .any=>"any"
 | .num=>"num"
 | .truth=>"truth"
 | .to _ _=>"to"
 | .box _=>"box"
 | .row _ _=>"row"
def Kd.own:Kd->List Str
 | .row _ o=>if o then["row","open"]else["row"]
 | k=>[k.hd]
def GP(z:Str):Bool:=!AW z "a"&&!AW "z" z
def AA(n:Str):Bool:=decide (1<=n.length)&&decide (n.length<=8)&&n.cps.toList.all λc=>GP ⟨#[c]⟩
def AY:List Str->Bool
 | a::b::r=>AW a b&&AY (b::r)
 | _=>true
mutual
def Kd.ok:Kd->Bool
 | .to a b=>a.ok&&b.ok
 | .box a=>a.ok
 | .row fs _=>AY fs.names&&fs.ok
 | _=>true
def Fs.ok:Fs->Bool
 | .nil=>true
 | .cons n _ k r=>AA n&&k.ok&&r.ok
end
theorem Sb:∀{fs:Fs},fs.ok=true->∀ c∈fs.kinds,c.ok=true
 | .nil,_,c,hc=>by cases hc
 | .cons n m k r,h,c,hc=>by
  have h':(AA n&&k.ok&&r.ok)=true:=h;walk_at "pa";rcases Yo.mp hc with rfl | hc
  ·exact h'.1.2
  ·exact Sb h'.2 c hc
theorem Me{k:Kd}(h:k.ok=true):∀ c∈k.kids,c.ok=true:=by
 intro c hc;cases k with
 | to a b =>
  have h':(a.ok&&b.ok)=true:=h;walk_at "pa";have d:c=a\/c=b:=by simpa[Kd.kids]using hc
  rcases d with rfl | rfl
  ·exact h'.1
  ·exact h'.2
 | box a=>have d:c=a:=by simpa[Kd.kids]using hc
          subst d;exact h
 | row fs o =>
  have h':(AY fs.names&&fs.ok)=true:=h;walk_at "pa";exact Sb h'.2 c hc
 | _=>cases hc
theorem Br(n:Bool)(i j:Int)(G:Hw):eqF n (.int i) (.int j) G=some (.bl ((i==j) != n)):=rfl
theorem Bd(n:Bool)(i j:Str)(G:Hw):eqF n (.str i) (.str j) G=some (.bl ((i==j) != n)):=rfl
open PySem PySem.Spec PyProof.Rows L2 L3
abbrev Mf:Stmt:=top 26
abbrev Mg:Stmt:=top 27
abbrev Mh:Stmt:=top 25
abbrev Mi:Stmt:=top 24
abbrev Mj:Stmt:=top 23
abbrev Zip:Stmt:=top 22
abbrev Mk:Stmt:=top 21
abbrev Ml:Stmt:=top 19
abbrev Ik:Stmt:=top 18
abbrev Mm:Stmt:=top 17
abbrev Mn:Stmt:=top 20
abbrev Mo:Stmt:=top 14
abbrev Mp:Stmt:=top 15
abbrev Mq:Stmt:=top 16
abbrev Mr:Stmt:=top 29
abbrev Il:Stmt:=top 30
abbrev Ms:Stmt:=top 31
abbrev Mt:Stmt:=top 39
abbrev Mu:Stmt:=top 40
abbrev Mv:Stmt:=top 43
abbrev Mw:Stmt:=top 45
abbrev Mx:Stmt:=top 44
abbrev My:Stmt:=top 42
abbrev Mz:Stmt:=top 41
abbrev MA:Stmt:=top 38
abbrev GQ:Stmt:=top 37
abbrev MB:Stmt:=top 51
abbrev MC:Stmt:=top 52
abbrev MD:Stmt:=top 56
abbrev Io:Stmt:=top 57
abbrev Iq:Stmt:=top 55
abbrev Ir:Stmt:=top 58
abbrev ME:Stmt:=top 59
abbrev GR:Stmt:=top 54
abbrev GU:Stmt:=top 47
abbrev GV:Stmt:=top 50
abbrev MF:Stmt:=top 53
abbrev GW:Stmt:=top 48
abbrev GX:Stmt:=top 49
abbrev MG:Stmt:=top 61
abbrev MH:Stmt:=top 62
abbrev MI:Stmt:=top 63
abbrev GY:Stmt:=top 64
abbrev Iu:Stmt:=top 65
abbrev MJ:Stmt:=top 66
abbrev GZ:Stmt:=top 67
abbrev MK:Stmt:=top 68
abbrev ML:Stmt:=top 69
abbrev MM:Stmt:=top 70
abbrev Iv:Stmt:=top 71
abbrev Iw:Stmt:=top 72
abbrev MN:Stmt:=top 73
abbrev Iy:Stmt:=top 74
abbrev G0:Stmt:=top 75
abbrev MO:Stmt:=top 76
abbrev F4:Stmt:=top 77
def Sd:List (Str×Int):=[("any",1),("num",1),("truth",1),("to",3),("box",2),("row",3)]
def AR:List (Str×List Str):=[("num",["number"]),("truth",["truth"]),("name",["name"]),("fun",["name","kind","term"]),("call",["term","term"]),("rec",["fields"]),("get",["term","name"]),("or",["term","name","term"]),("if",["term","term","term"]),("plus",["term","term"]),("less",["term","term"]),("new",["term"]),("read",["term"]),("write",["term","term"]),("as",["term","kind"])]
structure Adr where
 CastError:Addr
 NoKind:Addr
 NoTerm:Addr
 BadUse:Addr
 NoValue:Addr
 NoNumber:Addr
 BadNote:Addr
structure Fns(K:PySem.W.Frag)(mg:Str->Option Value):Prop where
 iD:Fn K mg Mf "is_small_letter" ["sign"]
 iE:Fn K mg Mg "names_rise" ["names"]
 iF:Fn K mg Mh "is_name" ["thing"]
 iG:Fn K mg Mi "is_field" ["thing"]
 iH:Fn K mg Mj "are_fields" ["thing"]
 iI:Fn K mg Zip "has_form" ["thing"]
 iJ:Fn K mg Mk "kinds_within" ["kind"]
 iK:Fn K mg Ml "layer_within" ["layer","things_within"]
 iL:Fn K mg Ik "is_made_of" ["thing","is_formed","things_within","most","deepest"]
 iM:Fn K mg Mm "is_kind" ["thing"]
 Se:Fn K mg Mn "kinds_in" ["kind"]
 iN:Fn K mg Mo "entry_of" ["row","name"]
 iO:Fn K mg Mp "names_of" ["row"]
 iP:Fn K mg Mq "names_of_both" ["one","other"]
 Sf:Fn K mg Mr "is_less" ["one","other"]
 iQ:Fn K mg Il "is_less_row" ["one","other"]
 iR:Fn K mg Ms "is_less_entry" ["one","other"]
 iS:Fn K mg Mt "form_of" ["word"]
 Sg:Fn K mg Mu "parts_of" ["term"]
 iT:Fn K mg Mv "is_number" ["thing"]
 iU:Fn K mg Mw "is_term_field" ["thing"]
 iV:Fn K mg Mx "are_term_fields" ["thing"]
 iW:Fn K mg My "is_of_sort" ["thing","sort"]
 iX:Fn K mg Mz "has_term_form" ["thing"]
 iY:Fn K mg MA "is_term" ["thing"]
 iZ:Fn K mg GQ "check_term" ["thing"]
 i0:Fn K mg MB "told_by" ["term"]
 Sh:Fn K mg MC "all_told" ["term"]
 i1:Fn K mg MD "with_one" ["things","number","thing"]
 i2:Fn K mg Io "with_kinds_within" ["kind","inner"]
 Si:Fn K mg Iq "less_kinds" ["kind"]
 i3:Fn K mg Ir "with_kind" ["term","kind"]
 i4:Fn K mg ME "with_parts" ["term","parts"]
 Sj:Fn K mg GR "less_terms" ["term"]
 i5:Fn K mg GU "forgettings" ["term"]
 i6:Fn K mg GV "kinds_told" ["term"]
 Sk:Fn K mg MF "without_kinds" ["term"]
 i7:Fn K mg GW "forgotten" ["term"]
 i8:Fn K mg GX "less_term" ["one","other"]
 i9:Fn K mg MG "_law_state" ["script","k"]
 jg:Fn K mg MH "_law_take" ["state","many"]
 Sl:Fn K mg MI "_law_kind" ["state","deep"]
 Sn:Fn K mg GY "_law_least" ["state","want"]
 So:Fn K mg Iu "_law_dim" ["state","kind"]
 ji:Fn K mg MJ "_law_blur" ["state","part"]
 jj:Fn K mg GZ "_law_by_name" ["state","want","names","deep"]
 Sq:Fn K mg MK "_law_term" ["state","want","names","deep"]
 jk:Fn K mg ML "_law_any_first" ["state","want","names","deep"]
 jl:Fn K mg MM "_law_around" ["state","want","names","deep"]
 jm:Fn K mg Iv "_law_parts" ["term"]
 Sr:Fn K mg Iw "_law_size" ["term"]
 jn:Fn K mg MN "_law_drawn" ["state","want"]
 jA:Fn K mg Iy "_law_which" ["e"]
 jC:Fn K mg G0 "_law_asked" ["way","one","other"]
 jI:Fn K mg MO "_law_flags" ["way","one","other"]
 jK:Fn K mg F4 "law" ["script"]
structure Bls(mg:Str->Option Value):Prop where
 jN:mg "ValueError"=none
 Dm:mg "all"=none
 jO:mg "bool"=none
 MP:mg "dict"=none
 Ss:mg "enumerate"=none
 Su:mg "int"=none
 CG:mg "isinstance"=none
 jT:mg "len"=none
 Sv:mg "list"=none
 Sx:mg "max"=none
 jU:mg "range"=none
 Sy:mg "set"=none
 Ha:mg "sorted"=none
 jZ:mg "str"=none
 MQ:mg "sum"=none
 F5:mg "tuple"=none
 Do:mg "zip"=none
structure Tx(K:PySem.W.Frag)(mg:Str->Option Value)(base:Heap)(a:Adr):Prop extends Fns K mg,Bls mg where
 Sz:mg "CastError"=some (.ref a.CastError)
 SA:mg "NoKind"=some (.ref a.NoKind)
 MR:mg "NoTerm"=some (.ref a.NoTerm)
 SC:mg "BadUse"=some (.ref a.BadUse)
 SD:mg "NoValue"=some (.ref a.NoValue)
 SE:mg "NoNumber"=some (.ref a.NoNumber)
 SF:mg "BadNote"=some (.ref a.BadNote)
 SG:PySem.W.excIn K a.NoTerm [.type "ValueError",.type "Exception",.type "BaseException",.type "object"] "ValueError.__new__"=true
 SH:PySem.W.typeIn K (.ref a.CastError)=some (.type "type")
 SI:(PySem.W.clsIn K a.CastError).isSome=true
 SJ:PySem.W.subIn K (.ref a.CastError) (.type "BaseException")=some true
 SK:Glb K mg "MARKS" (.tup [(.str "must"),(.str "may")])
 SL:Glb K mg "MOST_DEPTH" (.int 8)
 SM:Glb K mg "MOST_KINDS" (.int 40)
 SN:Glb K mg "MOST_LETTERS" (.int 8)
 SO:Glb K mg "MOST_NUMBER" (.int 99999999999999999999)
 SQ:Glb K mg "MOST_TERMS" (.int 40)
 SR:Glb K mg "MOST_TERM_DEPTH" (.int 10)
 SU:Lz mg base "LENGTHS" Sd
 SV:LY K mg base "FORMS" AR
 SW:PySem.W.subIn K (.ref a.NoTerm) (.ref a.CastError)=some true
 SX:E3 K a.NoTerm
 SY:PySem.W.kitOne K (.ref a.NoTerm) (.ref a.NoKind)=some false
 S0:PySem.W.kitOne K (.ref a.NoTerm) (.ref a.NoTerm)=some true
 S1:PySem.W.kitOne K (.ref a.NoTerm) (.ref a.BadUse)=some false
 S2:PySem.W.kitOne K (.ref a.NoTerm) (.ref a.NoValue)=some false
 S3:PySem.W.kitOne K (.ref a.NoTerm) (.ref a.NoNumber)=some false
 S4:PySem.W.kitOne K (.ref a.NoTerm) (.ref a.BadNote)=some false
 S5:PySem.W.kitOne K (.ref a.NoTerm) (.type "ValueError")=some true
def Dn(P:Program)(w:World)(K:PySem.W.Frag)(mg:Str->Option Value)(base:Heap)(N:List Str)(x:Str)(st:Stmt)(k:Nat)(g:GS):Prop:=∀{f:Addr}{cdv:Value}{A:Around}{outer:List Env}{s:Shared}{H:Hp}{E:XK},Room k (A.deeper (envOfC x (Ap st) s.heap.objs.size f cdv))->Ssm (cxW P w K mg base N x (Ap st) f cdv A outer s H E).nox (λB=>B=H) (Bv st) g
theorem mk0{K:PySem.W.Frag}{st:Stmt}(Fx:Fn K mg st x ps)(c:ps.length=n)(S:AB N ps (Ap st))(b:sp.M)(len:∀ a G Q E,sp a G Q E->a.length=n)(d:Dn P w K mg base N x st k g)(ok:∀ a G(Q:Kw)(E:Addr->Hw->Prop),Kw.C Q->sp a G Q E->g (Au Q) (Bo N a) G):Df P w K mg base x (k+1) n sp:=L3.mk0 Fx c S b len d ok
set_option hygiene false in
local macro_rules | `(tactic| walk_at "s") => `(tactic| exact ⟨rfl, rfl, rfl, by decide +kernel, rfl, by decide +kernel, by decide +kernel⟩)
set_option hygiene false in
local macro_rules | `(tactic| walk_at "c") => `(tactic| first | exact em hu | exact Qw hu | exact eo | exact cop_nin | exact ei | exact eh | exact ej | exact Ln | exact gQ | exact cop_isn | exact cop_inT hu | exact cop_nInT hu | exact cop_nInU hu | exact cop_isB | exact cop_inN hu | exact cop_inK | exact cop_ninK | exact cop_inS)
set_option hygiene false in
local macro_rules | `(tactic| walk_at "b") => `(tactic| first | refine BW Dk (Dj rfl) rfl T.Dm (by decide) rfl rfl rfl ?_ | refine DA Ly (blt_dict rfl) rfl T.MP (by decide) rfl rfl rfl ?_ | refine DA QL (eF) rfl T.Su (by decide) rfl rfl rfl ?_ | refine BW e7 (eu) rfl T.jT (by decide) rfl rfl rfl ?_ | refine DA QK (eB) rfl T.Sv (by decide) rfl rfl rfl ?_ | refine BW QJ (QC rfl) rfl T.Sx (by decide) rfl rfl rfl ?_ | refine BW RK (blt_sorted) rfl T.Ha (by decide) rfl rfl rfl ?_ | refine BW Lx (Lp rfl) rfl T.MQ (by decide) rfl rfl rfl ?_ | refine DA FU (Gu) rfl T.F5 (by decide) rfl rfl rfl ?_ | refine DA Ly (iq rfl) rfl T.MP (by decide) rfl rfl rfl ?_ | refine BW RK (hV rfl) rfl T.Ha (by decide) rfl rfl rfl ?_ | refine FR (T := "tuple") (by decide) FU T.F5 T.CG rfl rfl (by decide) rfl rfl rfl ?_ | refine FR (T := "list") (by decide) QK T.Sv T.CG rfl rfl (by decide) rfl rfl rfl ?_ | refine FR (T := "str") (by decide) e8 T.jZ T.CG rfl rfl (by decide) rfl rfl rfl ?_ | refine FR (T := "int") (by decide) QL T.Su T.CG rfl rfl (by decide) rfl rfl rfl ?_ | refine FR (T := "bool") (by decide) e9 T.jO T.CG rfl rfl (by decide) rfl rfl rfl ?_ | refine FR (T := "dict") (by decide) Ly T.MP T.CG rfl rfl (by decide) rfl rfl rfl ?_ | refine gp rfl T.Ha T.Sy rfl rfl rfl rfl rfl ?_ ?_ | refine fj T.SU rfl rfl rfl rfl rfl rfl rfl ?_ | refine D9 eJ rfl rfl rfl rfl rfl ?_ ?_ | refine D9 FQ rfl rfl rfl rfl rfl ?_ ?_ | refine D9 gr rfl rfl rfl rfl rfl ?_ ?_ | exact E4 T.SK rfl rfl | exact E4 T.SL rfl rfl | exact E4 T.SM rfl rfl | exact E4 T.SN rfl rfl | exact E4 T.SO rfl rfl | exact E4 T.SQ rfl rfl | exact E4 T.SR rfl rfl)
set_option hygiene false in
local macro_rules | `(tactic| walk_at "v") => `(tactic| (first | (show Am _ _ _; first | exact A5 | refine AH rfl ?_ ?_) | (show Em _ _ _; first | exact ff rfl rfl rfl rfl | exact Lc | exact Ld | refine dq (fun _ _ => rfl) ?_ ?_ | refine Bp (by assumption) (hr.mono (by assumption)) rfl Ec rfl rfl rfl ?_ | refine Le ?_ | refine HK ?_ | exact da | refine er (by walk_at "c") rfl ?_ ?_ | refine E6 ?_ ?_ | refine dg ?_ ?_ | refine dj ?_ ?_ | refine dh ?_ ?_ | refine fE ?_ ?_ | refine di ?_ ?_ | refine dk ?_ ?_ | walk_at "b" | exact db | refine dt ?_ ?_ ?_ | refine Lg ?_ ?_ | refine dr ?_ ?_ | refine Lf ?_ | refine em_not ?_ | refine df ?_ ?_ | refine fB ?_ ?_ ?_ | refine ef ?_ ?_ ?_ | refine Qz (by walk_at "c") (by walk_at "c") rfl ?_ ?_ ?_ | refine gW (fun _ _ => rfl) ?_ ?_ | exact hF | refine em_sortI rfl T.Ha rfl rfl rfl rfl ?_ | refine em_sortUD rfl T.Ha T.Sy rfl rfl rfl rfl rfl ?_ ?_) | (show Tm _ _ _; first | refine Qx (by walk_at "c") rfl ?_ ?_ | refine Li ?_ | refine du ?_ | refine Lh (fun _ => rfl) ?_ | refine et (by walk_at "c") (by walk_at "c") rfl ?_ ?_ ?_) | (show Ssm _ _ _ _; first | refine Az ?_ ?_ | exact C5 | refine AG ?_) | (show Sm _ _ _ _; first | refine Ba ?_ | refine FV hN rfl rfl rfl ?_ | refine Cb ?_ ?_ ?_ | refine BZ rfl ?_ | refine EV PassesOwn.never rfl (fun _ => rfl) ?_ ?_ ?_ | refine P8 PassesOwn.never ?_ ?_ | refine fg hN rfl rfl ?_ | refine d6 (fun _ => rfl) rfl rfl rfl ?_ ?_ ?_ | refine sm_asg rfl rfl rfl ?_ ?_ | refine fq hN rfl rfl rfl rfl ?_ | exact sm_pass | exact sm_never | refine g8 (fun _ => rfl) rfl rfl rfl ?_ ?_ ?_) | (show Wm _ _ _; first | refine dy ?_ ?_ | refine dz ?_ ?_ | refine dv ?_ | refine dw ?_) | (show Im _ _ _ _; first | refine im_seq ?_ | refine PX (fun _ _ => rfl) ?_ | refine eZ T.jU rfl rfl ?_) | (show Om _ _ _; first | exact d9 | refine ea ?_) | (show Fm _ _ _; first | exact A6 | refine fh ?_) | exact PJ hN rfl (.inl rfl) (.inr rfl) | exact tg_three rfl hN rfl (.inl rfl) (.inr rfl) rfl (.inl rfl) (.inr rfl) rfl (.inl rfl) (.inr rfl) | exact PK rfl hN rfl (.inl rfl) (.inr rfl) rfl (.inl rfl) (.inr rfl) | exact PK rfl hN rfl (.inr rfl) (.inl rfl) rfl (.inl rfl) (.inr rfl) | exact PJ hN rfl (.inr rfl) (.inl rfl)) <;> walk_at "v")
set_option hygiene false in
local macro_rules | `(tactic| walk_at "z") => `(tactic| (intro f cdv A outer s H E hr; have hu := AQ hr; walk_at "v"))
variable {w:World}{K:PySem.W.Frag}{mg:Str->Option Value}{a:Adr}
abbrev S6:List Str:=["sign"]
theorem S7:AB S6 ["sign"] (Ap Mf):=by walk_at "s"
def S8:GS:=(Ai (CD (A1 (λi j=>decide (i<=j)) (λa b=>!AW b a)) (A1 (λi j=>decide (i<=j)) (λa b=>!AW b a)) (gC (.str "a")) (Ab 0) (gC (.str "z"))))
theorem j1(T:Tx K mg base a):Dn P w K mg base S6 "is_small_letter" Mf k (S8):=by
 have hN:=S7.nd;walk_at "z"
abbrev S9:List Str:=["names"]
theorem Tc:AB S9 ["names"] (Ap Mg):=by walk_at "s"
def Td:GS:=(Ai (gB (rF BD) (Aa (AI (C7 (Aa (Ab 0) (Aa (gSl (Ab 0) (AV (gC (.int 1))) AU) Ac))) 2 (AM 0 1) Ay (Ad (A1 (λi j=>decide (i < j)) AW) (Ab 0) (Ab 1))) Ac)))
theorem j2(T:Tx K mg base a):Dn P w K mg base S9 "names_rise" Mg k (Td):=λ{f cdv A outer s H E}hr=>
 have hu:=AQ hr
 have hN:=Tc.nd
 (AG (Ba (BW Dk (Dj rfl) rfl T.Dm (by decide) rfl rfl rfl (AH rfl (BK (Nc:=["one","other"]) rfl (BG rfl (by decide +kernel) (by decide +kernel)) (λ_=>rfl) (Ru T.Do rfl rfl rfl (by walk_at "v")) (EU (i:=0) (j:=1) rfl (by decide) rfl rfl rfl rfl) (λC fp s1 H1=>A6) (λC fp s1 H1=>(by walk_at "v"))) A5))))
abbrev Tg:List Str:=["thing"]
theorem Th:AB Tg ["thing"] (Ap Mh):=by walk_at "s"
def Ti(Iz:Spw):GS:=(Af (gIf (gOr (gNt (A4 (Bt "str" (Ab 0)))) (gNt (gTB (CD (A1 (λi j=>decide (i<=j)) (λa b=>!AW b a)) (A1 (λi j=>decide (i<=j)) (λa b=>!AW b a)) (gC (.int 1)) (gB (rF Bf) (Aa (Ab 0) Ac)) (gC (.int 8)))))) (Ai (gC (.bl false))) Ak) (Ai (gB (rF BD) (Aa (AI (Ax (Ab 0)) 1 (gNm 0) Ay (Ag Iz XF (Aa (Ab 0) Ac))) Ac))))
theorem j7(T:Tx K mg base a)(nW:Df P w K mg base "is_small_letter" IA 1 Iz)(nX:IA<=k):Dn P w K mg base Tg "is_name" Mh k (Ti Iz):=λ{f cdv A outer s H E}hr=>
 have hu:=AQ hr
 have hN:=Th.nd
 (Az (by walk_at "v") (AG (Ba (BW Dk (Dj rfl) rfl T.Dm (by decide) rfl rfl rfl (AH rfl (BK (Nc:=["sign"]) rfl (BG rfl (by decide +kernel) (by decide +kernel)) (λ_=>rfl) (by walk_at "v") (CB (i:=0) (by decide) rfl rfl) (λC fp s1 H1=>A6) (λC fp s1 H1=>(by walk_at "v"))) A5)))))
abbrev Tj:List Str:=["thing"]
theorem Tl:AB Tj ["thing"] (Ap Mi):=by walk_at "s"
def Tn(Cs:Spw):GS:=(Af (gIf (gOr (gNt (A4 (Bt "tuple" (Ab 0)))) (gTB (Ad (Ae (eqF true)) (gB (rF Bf) (Aa (Ab 0) Ac)) (gC (.int 3))))) (Ai (gC (.bl false))) Ak) (Ai (Ca (Ag Cs XF (Aa (Ad (Ae ixW) (Ab 0) (gC (.int 0))) Ac)) (Ad (Ae (inF false)) (Ad (Ae ixW) (Ab 0) (gC (.int 1))) (gC (.tup [(.str "must"),(.str "may")]))))))
theorem j9(T:Tx K mg base a)(To:Df P w K mg base "is_name" CQ 1 Cs)(Tq:CQ<=k):Dn P w K mg base Tj "is_field" Mi k (Tn Cs):=by
 have hN:=Tl.nd;walk_at "z"
abbrev Ts:List Str:=["thing"]
theorem Tt:AB Ts ["thing"] (Ap Mj):=by walk_at "s"
def Tu(IB:Spw)(DH:Spw):GS:=(Af (gIf (gNt (A4 (Bt "tuple" (Ab 0)))) (Ai (gC (.bl false))) Ak) (Ai (Ca (gB (rF BD) (Aa (AI (Ax (Ab 0)) 1 (gNm 0) Ay (Ag IB XF (Aa (Ab 0) Ac))) Ac)) (Ag DH XF (Aa (AI (Ax (Ab 0)) 1 (gNm 0) Ay (Ad (Ae ixW) (Ab 0) (gC (.int 0)))) Ac)))))
theorem kd(T:Tx K mg base a)(nY:Df P w K mg base "is_field" IC 1 IB)(nZ:IC<=k)(MS:Df P w K mg base "names_rise" Eg 1 DH)(MT:Eg<=k):Dn P w K mg base Ts "are_fields" Mj k (Tu IB DH):=λ{f cdv A outer s H E}hr=>
 have hu:=AQ hr
 have hN:=Tt.nd
 (Az (by walk_at "v") (AG (Ba (Lg (BW Dk (Dj rfl) rfl T.Dm (by decide) rfl rfl rfl (AH rfl (BK (Nc:=["part"]) rfl (BG rfl (by decide +kernel) (by decide +kernel)) (λ_=>rfl) (by walk_at "v") (CB (i:=0) (by decide) rfl rfl) (λC fp s1 H1=>A6) (λC fp s1 H1=>(by walk_at "v"))) A5)) (Lf (Bp MS (hr.mono MT) rfl Ec rfl rfl rfl (AH rfl (BK (Nc:=["part"]) rfl (BG rfl (by decide +kernel) (by decide +kernel)) (λ_=>rfl) (by walk_at "v") (CB (i:=0) (by decide) rfl rfl) (λC fp s1 H1=>A6) (λC fp s1 H1=>(by walk_at "v"))) A5)))))))
local macro_rules | `(tactic| walk_at "rd") => `(tactic| ((try dsimp only [Af,gIf,Ai,Ao,AC,Ak,Ab,gC,Ad,gTB,A4,gNt,A8,gOr,Ca,C2,BC,Ah,Aq,Aa,Ac,Ag,gB,rF,Ae,Bt,gMt,Cm,CD,A1,Be,Aw,Bk,Cc,gSl,AV,AU,AI,Ax,C7,Au,Bo,List.map_cons,List.map_nil,List.length_cons,List.length_nil,List.cons_append,List.nil_append,List.getElem?_cons_zero,List.getElem?_cons_succ,List.set_cons_zero,List.set_cons_succ,List.replicate,B9,tyN,An,Bg,Bb,B4,ixW,Br,Bd,Bf,Ck,BD,List.getElem?_nil]); (try simp only [Af,gIf,Ai,Ao,AC,Ak,Ab,gC,Ad,gTB,A4,gNt,A8,gOr,Ca,C2,BC,Ah,Aq,Aa,Ac,Ag,gB,rF,Ae,Bt,gMt,Cm,CD,A1,Be,Aw,Bk,Cc,gSl,AV,AU,AI,Ax,C7,Au,Bo,List.map_cons,List.map_nil,List.length_cons,List.length_nil,List.cons_append,List.nil_append,List.getElem?_cons_zero,List.getElem?_cons_succ,List.set_cons_zero,List.set_cons_succ,List.replicate,B9,tyN,An,Bg,Bb,B4,ixW,Br,Bd,Bf,Ck,BD,List.getElem?_nil])))
abbrev ke:Spw:=spR (λ(z:Str)ws _=>ws=[.str z]) λz=>.bl (GP z)
theorem IA(T:Tx K mg base a):Df P w K mg base "is_small_letter" 1 1 ke:=by
 refine mk0 T.iD rfl S7 Ce ((by rintro b G Q E ⟨z,e,_⟩;rw[e];rfl)) (j1 T) λb G Q E c q=>?_;obtain⟨z,rfl,q⟩:=q;unfold S8;walk_at "rd";dsimp only at q;unfold GP at q;walk_at "pb"
 ·rw[h]at q;simpa using q
 ·rw[Bool.eq_false_iff.mpr h]at q;simpa using q
theorem Tv:∀ ns:List Str,AY ns=((ns.zip (ns.drop 1)).map λx=>AW x.1 x.2).all id
 | []=>rfl
 | [_]=>rfl
 | a::b::r=>by
  show(AW a b&&AY (b::r))=_;rw[Tv (b::r)];rfl
abbrev kf:Spw:=spR (λ(ns:List Str)ws G=>∃ p,ws=[.ref p]/\G p=some (.lst (ns.map W.str))/\ns.length<=1000) λns=>.bl (AY ns)
def ltW(x y:W):W:=match x,y with | .str a,.str b=>.bl (AW a b)| _,_=>.non
theorem Eg(T:Tx K mg base a):Df P w K mg base "names_rise" 1 1 kf:=by
 refine mk0 T.iE rfl Tc Ce ((by rintro m G Q E ⟨ns,⟨p,e,_⟩,_⟩;rw[e];rfl)) (j2 T) λm G Q E i q=>?_;obtain⟨ns,⟨p,rfl,d,hl⟩,q⟩:=q;unfold Td;walk_at "rd";refine L9 d λp1 h1=>?_;have g:=AJ d h1;have c:rdL (put G p1 (.lst (BH (ns.map W.str) (some 1) none))) (.ref p)=some (ns.map W.str):=Cr (by rw[Av g];exact d);have b:rdL (put G p1 (.lst (BH (ns.map W.str) (some 1) none))) (.ref p1)=some (BH (ns.map W.str) (some 1) none):=Cr Aj;simp only[c,b];rw[CP,<- List.map_drop,Ig,List.zip_map,YB];have l:((λx:W×W=>W.tup [x.1,x.2])∘Prod.map W.str W.str)=(λx:W×W=>W.tup [x.1,x.2])∘λx:Str×Str=>(W.str x.1,W.str x.2):=rfl;rw[l,<- YB];refine RY (f:=ltW) ⟨by rw[CP,<- List.map_drop]at c;exact c,by rw[CP,<- List.map_drop]at b;exact b⟩ _ none none [] (λx h n k=>?_) ?_ ?_
 ·obtain⟨y,o,rfl⟩:=YC.mp h;exact k
 ·rw[Yh,List.length_zip];exact A9 (by simp only[Yi];lia)
 ·intro p2 h2;rw[YB];have j:((λx:W×W=>ltW x.1 x.2)∘λx:Str×Str=>(W.str x.1,W.str x.2))=W.bl∘λx:Str×Str=>AW x.1 x.2:=rfl;rw[j,<- YB,Yw];simp only[Cq Aj,Option.bind_some,DF,YD,An];rw[<- Tv];exact i _ _ _ (Bh (AD h1) h2) q
abbrev kg:Spw:=spR (λ(z:Str)ws _=>ws=[.str z]/\z.length<=100000) λz=>.bl (AA z)
def Tw(x:W):W:=match x with | .str z=>.bl (GP z)| _=>.non
theorem CQ(T:Tx K mg base a):Df P w K mg base "is_name" 2 1 kg:=by
 refine mk0 T.iF rfl Th Ce ((by rintro r G Q E ⟨z,⟨e,_⟩,_⟩;rw[e];rfl)) (j7 T (IA T) (Yr _)) λr G Q E l q=>?_;obtain⟨z,⟨rfl,i⟩,q⟩:=q;unfold Ti;walk_at "rd";have g:z.length<=sizeLine:=A9 i;have n:B2 "str" "str"=true:=by decide
 simp only[n,g,if_true,An,YF,Yq,if_false];unfold AA at q;by_cases h1:1<=z.length
 ·by_cases h:z.length<=8
  ·have b:(1:Int)<=(z.length:Int):=by lia
   have d:(z.length:Int)<=8:=by lia
   simp only[b,d,decide_true,if_true,YF,Yq,if_false];refine Ef (f:=Tw) trivial (ES z) none [] (λx k s o=>?_) ?_ ?_
   ·obtain⟨c,hc,rfl⟩:=YC.mp k;exact⟨_,rfl,o⟩
   ·rw[ES,Yh];exact A9 (by show 0+z.cps.toList.length<=100000;rw[Nat.zero_add];simpa[Str.length]using i)
   ·intro p m
    have j:(ES z).map Tw=(z.cps.toList.map λc=>GP ⟨#[c]⟩).map W.bl:=by
     unfold ES;rw[YB,YB];rfl
    rw[Yw,j];simp only[Cq Aj,Option.bind_some,DF,YD,An];rw[List.all_map];simp only[h1,h,decide_true,Bool.true_and]at q;exact l _ _ _ (AD m) q
  ·have b:(1:Int)<=(z.length:Int):=by lia
   have d:¬ (z.length:Int)<=8:=by lia
   simp only[h1,h,decide_true,decide_false,Bool.true_and,Bool.false_and]at q;simp only[b,d,decide_true,decide_false,if_true,YO,Yq,if_false];exact q
 ·have b:¬ (1:Int)<=(z.length:Int):=by lia
  simp only[h1,decide_false,Bool.false_and]at q;simp only[b,decide_false,if_true,YO,Yq,if_false];exact q
abbrev Tz:List Str:=["thing"]
theorem TC:AB Tz ["thing"] (Ap Zip):=by walk_at "s"
def TD(ID:Spw):GS:=(Af (gIf (gOr (gNt (A4 (Bt "tuple" (Ab 0)))) (gOr (gTB (Ad (Ae (eqF false)) (gB (rF Bf) (Aa (Ab 0) Ac)) (gC (.int 0)))) (gNt (A4 (Bt "str" (Ad (Ae ixW) (Ab 0) (gC (.int 0)))))))) (Ai (gC (.bl false))) Ak) (Af (gIf (gTB (Ad (Ae (eqF true)) (gB (rF Bf) (Aa (Ab 0) Ac)) (FW Sd (Ad (Ae ixW) (Ab 0) (gC (.int 0)))))) (Ai (gC (.bl false))) Ak) (Ai (C2 (Ad (Ae (eqF true)) (Ad (Ae ixW) (Ab 0) (gC (.int 0))) (gC (.str "row"))) (Ca (Ag ID XF (Aa (Ad (Ae ixW) (Ab 0) (gC (.int 1))) Ac)) (Bt "bool" (Ad (Ae ixW) (Ab 0) (gC (.int 2)))))))))
theorem kh(T:Tx K mg base a)(n0:Df P w K mg base "are_fields" IE 1 ID)(n4:IE<=k):Dn P w K mg base Tz "has_form" Zip k (TD ID):=by
 have hN:=TC.nd;walk_at "z"
abbrev TF:List Str:=["kind"]
theorem TH:AB TF ["kind"] (Ap Mk):=by walk_at "s"
def TJ:GS:=(Af (gIf (gTB (Ad (Ae (eqF false)) (Ad (Ae ixW) (Ab 0) (gC (.int 0))) (gC (.str "row")))) (Ai (AI (Ax (Ad (Ae ixW) (Ab 0) (gC (.int 1)))) 1 (gNm 0) Ay (Ad (Ae ixW) (Ab 0) (gC (.int 2))))) Ak) (Ai (gB (FP) (Aa (gSl (Ab 0) (AV (gC (.int 1))) AU) Ac))))
theorem ki(T:Tx K mg base a):Dn P w K mg base TF "kinds_within" Mk k (TJ):=λ{f cdv A outer s H E}hr=>
 have hu:=AQ hr
 have hN:=TH.nd
 (Az (Cb (by walk_at "v") (AG (Ba (BK (Nc:=["field"]) rfl (BG rfl (by decide +kernel) (by decide +kernel)) (λ_=>rfl) (by walk_at "v") (CB (i:=0) (by decide) rfl rfl) (λC fp s1 H1=>A6) (λC fp s1 H1=>(by walk_at "v"))))) C5) (by walk_at "v"))
abbrev TK:List Str:=["layer","things_within","found","thing"]
theorem TN:AB TK ["layer","things_within"] (Ap Ml):=by walk_at "s"
def kj(mg:Str->Option Value)(nm:Str)(sp_fn:Spw):GS:=(Af (Ao 2 (Aq Ac)) (Af (AT (Ax (Ab 0)) (gNm 3) (AC (gMt AX BN (Ab 2) (Aa (DD 1 (fAt mg nm) sp_fn XF (Aa (Ab 3) Ac)) Ac)))) (Ai (Ab 2))))
theorem kl(T:Tx K mg base a)(D_fn:Df P w K mg base nm k_fn 1 sp_fn)(h_fn:k_fn<=k):Dn P w K mg base TK "layer_within" Ml k (kj mg nm sp_fn):=λ{f cdv A outer s H E}hr=>
 have hu:=AQ hr
 have hN:=TN.nd
 (Az (by walk_at "v") (Az (EV PassesOwn.never rfl (λ_=>rfl) (by walk_at "v") (by walk_at "v") (AG (BZ rfl (D9 FQ rfl rfl rfl rfl rfl (by walk_at "v") (AH rfl (Q5 (i:=1) D_fn (hr.mono h_fn) rfl rfl Ec rfl rfl rfl rfl (by walk_at "v")) A5))))) (by walk_at "v")))
abbrev TQ:List Str:=["thing","is_formed","things_within","most","deepest","layer","count","depth"]
theorem TR:AB TQ ["thing","is_formed","things_within","most","deepest"] (Ap Ik):=by walk_at "s"
def km(mg:Str->Option Value)(nm:Str)(sp_fn:Spw)(IF:Spw):GS:=(Af (Ao 5 (Aq (Aa (Ab 0) Ac))) (Af (Ao 6 (gC (.int 0))) (Af (Ao 7 (gC (.int 0))) (Af (HN (gTB (Ad (Be λi j=>decide (j < i)) (gB (rF Bf) (Aa (Ab 5) Ac)) (gC (.int 0)))) (Af (Cm 6 Cc (gB (rF Bf) (Aa (Ab 5) Ac))) (Af (Cm 7 Cc (gC (.int 1))) (Af (gIf (gOr (gTB (Ad (Be λi j=>decide (j < i)) (Ab 6) (Ab 3))) (gTB (Ad (Be λi j=>decide (j < i)) (Ab 7) (Ab 4)))) (Ai (gC (.bl false))) Ak) (Af (gIf (gNt (A4 (gB (rF BD) (Aa (AO (Ax (Ab 5)) 1 [1] (gNm 0) Ay (DD 1 (fAt mg nm) sp_fn XF (Aa (Ab 0) Ac))) Ac)))) (Ai (gC (.bl false))) Ak) (Ao 5 (Ag IF XF (Aa (Ab 5) (Aa (Ab 2) Ac))))))))) (Ai (gC (.bl true)))))))
theorem kn(T:Tx K mg base a)(D_fn:Df P w K mg base nm k_fn 1 sp_fn)(h_fn:k_fn<=k)(n5:Df P w K mg base "layer_within" IG 2 IF)(n6:IG<=k):Dn P w K mg base TQ "is_made_of" Ik k (km mg nm sp_fn IF):=λ{f cdv A outer s H E}hr=>
 have hu:=AQ hr
 have hN:=TR.nd
 (Az (by walk_at "v") (Az (by walk_at "v") (Az (by walk_at "v") (Az (P8 PassesOwn.never (by walk_at "v") (Az (by walk_at "v") (Az (by walk_at "v") (Az (by walk_at "v") (Az (Cb (Li (Lh (λ_=>rfl) (BW Dk (Dj rfl) rfl T.Dm (by decide) rfl rfl rfl (AH rfl (Dl rfl (Cp (own:=["part"]) (fr:=["is_formed"]) (js:=[1]) (scX:=Ap Ik) (n:=s.heap.objs.size+1) rfl (by decide +kernel) (by decide +kernel) (by decide +kernel) (by decide +kernel) rfl rfl rfl (by decide +kernel) rfl) (λ_=>rfl) (by walk_at "v") (CO (i:=0) (by decide) rfl rfl) (λC fp s1 H1=>A6) (λC fp s1 H1=>(Q5 (i:=1) D_fn (hr.mono h_fn) rfl rfl Ec rfl rfl rfl rfl (by walk_at "v")))) A5)))) (by walk_at "v") C5) (by walk_at "v")))))) (by walk_at "v")))))
abbrev TU:List Str:=["thing"]
theorem TV:AB TU ["thing"] (Ap Mm):=by walk_at "s"
def ko(mg:Str->Option Value)(MU:Spw)(CH:Spw)(DI:Spw):GS:=(Ai (Ag DI XF (Aa (Ab 0) (Aa (gC (.ref (fAt mg "has_form"))) (Aa (gC (.ref (fAt mg "kinds_within"))) (Aa (gC (.int 40)) (Aa (gC (.int 8)) Ac)))))))
theorem kq(T:Tx K mg base a)(kr:Df P w K mg base "has_form" Hb 1 MU)(n7:Hb<=k)(MV:Df P w K mg base "kinds_within" CI 1 CH)(TX:CI<=k)(MW:Df P w K mg base "is_made_of" Eh 5 DI)(MX:Eh<=k):Dn P w K mg base TU "is_kind" Mm k (ko mg MU CH DI):=λ{f cdv A outer s H E}hr=>
 have hu:=AQ hr
 have hN:=TV.nd
 (AG (Ba (Bp MW (hr.mono MX) rfl Ec rfl rfl rfl (AH rfl (by walk_at "v") (AH rfl (HU kr rfl rfl) (AH rfl (HU MV rfl rfl) (by walk_at "v")))))))
abbrev TY:List Str:=["kind","found","inner"]
theorem TZ:AB TY ["kind"] (Ap Mn):=by walk_at "s"
def T1(CH:Spw)(DJ:Spw):GS:=(Af (Ao 1 (Aq (Aa (Ab 0) Ac))) (Af (AT (Ax (Ag CH XF (Aa (Ab 0) Ac))) (gNm 2) (AC (gMt AX BN (Ab 1) (Aa (Ag DJ XF (Aa (Ab 2) Ac)) Ac)))) (Ai (Ab 1))))
theorem kt(T:Tx K mg base a)(MV:Df P w K mg base "kinds_within" CI 1 CH)(TX:CI<=k)(ku:Df P w K mg base "kinds_in" Ei 1 DJ)(kx:Ei<=k):Dn P w K mg base TY "kinds_in" Mn k (T1 CH DJ):=by
 have hN:=TZ.nd;walk_at "z"
local macro_rules | `(tactic| walk_at "rd") => `(tactic| ((try dsimp only [Af,gIf,Ai,Ao,AC,Ak,Ab,gC,Ad,gTB,A4,gNt,A8,gOr,Ca,C2,BC,Ah,Aq,Aa,Ac,Ag,gB,rF,Ae,Bt,gMt,Cm,E1,CD,A1,Be,Aw,Bk,Cc,gSl,AV,AU,AI,Ax,C7,Eb,AT,FW,CC,Au,Bo,List.map_cons,List.map_nil,List.length_cons,List.length_nil,List.cons_append,List.nil_append,List.getElem?_cons_zero,List.getElem?_cons_succ,List.set_cons_zero,List.set_cons_succ,List.replicate,B9,tyN,An,Bg,Bb,B4,ixW,Br,Bd,Bf,Ck,BD,BI,DB,List.getElem?_nil]); (try simp only [Af,gIf,Ai,Ao,AC,Ak,Ab,gC,Ad,gTB,A4,gNt,A8,gOr,Ca,C2,BC,Ah,Aq,Aa,Ac,Ag,gB,rF,Ae,Bt,gMt,Cm,E1,CD,A1,Be,Aw,Bk,Cc,gSl,AV,AU,AI,Ax,C7,Eb,AT,FW,CC,Au,Bo,List.map_cons,List.map_nil,List.length_cons,List.length_nil,List.cons_append,List.nil_append,List.getElem?_cons_zero,List.getElem?_cons_succ,List.set_cons_zero,List.set_cons_succ,List.replicate,B9,tyN,An,Bg,Bb,B4,ixW,Br,Bd,Bf,Ck,BD,BI,DB,List.getElem?_nil])))
abbrev ky:Spw:=spR (λ(x:Str×Bool×W)ws _=>ws=[.tup [.str x.1,.str (mark x.2.1),x.2.2]]/\AA x.1=true) λ_=>.bl true
theorem MY(h:AA n=true):n.length<=8:=by
 unfold AA at h;simp only[YG,YS]at h;exact h.1.2
theorem kz(b:Bool)(G:Hw):inF false (.str (mark b)) (.tup [.str "must",.str "may"]) G=some (.bl true):=by cases b <;> kernel_rfl
theorem IC(T:Tx K mg base a):Df P w K mg base "is_field" 3 1 ky:=by
 refine mk0 T.iG rfl Tl Ce ((by rintro d G Q E ⟨x,⟨e,_⟩,_⟩;rw[e];rfl)) (j9 T (CQ T) (Yr _)) λd G Q E g q=>?_;obtain⟨⟨n,b,k⟩,⟨rfl,c⟩,q⟩:=q;have hl:n.length<=8:=MY c;dsimp only at q c;unfold Tn;walk_at "rd";have f:B2 "tuple" "tuple"=true:=by decide
 simp only[f,YF,Yq,if_false];refine⟨n,⟨rfl,by lia⟩,?_⟩;dsimp only;rw[c];simp only[if_true,kz,An];exact q
theorem T2(k:Kd):∃ xs,k.enc=.tup (.str k.hd::xs):=by cases k <;> exact⟨_,rfl⟩
abbrev kA:Spw:=spR (λ(fs:Fs)ws _=>ws=[.tup fs.enc]/\fs.ok=true/\AY fs.names=true/\fs.cnt<=1000) λ_=>.bl true
def IH(x:W):W:=match x with | .tup (n::_)=>n | _=>.non
theorem MZ:∀{fs:Fs}{x:W},fs.ok=true->x∈fs.enc->∃ n b k,x=.tup [.str n,.str (mark b),k]/\AA n=true
 | .nil,x,_,h=>by cases h
 | .cons n m k r,x,a,h=>by
  have h':(AA n&&k.ok&&r.ok)=true:=a;walk_at "pa";walk_at "pk"
  ·exact⟨n,m,k.enc,rfl,h'.1.1⟩
  ·exact MZ h'.2 h
theorem M0:∀ fs:Fs,fs.enc.map IH=fs.names.map W.str
 | .nil=>rfl
 | .cons n m k r=>by show W.str n::r.enc.map IH=W.str n::r.names.map W.str;rw[M0 r]
theorem II:∀ fs:Fs,fs.names.length=fs.enc.length
 | .nil=>rfl
 | .cons n m k r=>by show r.names.length+1=r.enc.length+1;rw[II r]
theorem Hd(fs:Fs):fs.enc.length<=fs.cnt:=by rw[Sa,Ii];exact F3 _
theorem IE(T:Tx K mg base a):Df P w K mg base "are_fields" 4 1 kA:=by
 refine mk0 T.iH rfl Tt Ce ((by rintro t G Q E ⟨x,⟨e,_⟩,_⟩;rw[e];rfl)) (kd T (IC T) (Yr _) (Eg T) (by lia)) λt G Q E m q=>?_;obtain⟨fs,⟨rfl,l,s,hc⟩,q⟩:=q;have hl:=Hd fs;unfold Tu;walk_at "rd";have r:B2 "tuple" "tuple"=true:=by decide
 simp only[r,YF,Yq,if_false];refine Ef (f:=λ_=>.bl true) trivial fs.enc none [] (λx d i g=>?_) (by simp only[Yi];exact A9 (by lia)) ?_
 ·obtain⟨n,b,k,rfl,j⟩:=MZ l d;exact⟨⟨n,b,k⟩,⟨rfl,j⟩,g⟩
 ·intro p o;rw[Yw,show(λ_:W=>W.bl true)=W.bl∘(λ_=>true)from rfl,<- YB];simp only[Cq Aj,Option.bind_some,DF,YD,An];have c:(fs.enc.map λ_=>true).all id=true:=by simp
  rw[c];simp only[if_true];refine Ef (f:=IH) trivial fs.enc none [] (λx d i g=>?_) (by simp only[Yi];exact A9 (by lia)) ?_
  ·obtain⟨n,b,k,rfl,j⟩:=MZ l d;show Ad (Ae ixW) (Ab 0) (gC (.int 0)) [some (W.tup [.str n,.str (mark b),k])] _ i;exact g
  ·intro p2 h;rw[Yw,M0];refine⟨fs.names,⟨p2,rfl,Aj,by rw[II];lia⟩,?_⟩;dsimp only;rw[s];exact m _ _ _ (Bh (AD o) h) q
def noK(x:W):Prop:=x=.tup [.str "no"]\/x=.tup [.str "to"]
def KFm(x:W)(b:Bool):Prop:=(∃ k:Kd,x=k.enc/\k.ok=true/\k.cnt<=1000/\b=true)\/(noK x/\b=false)
abbrev kB:Spw:=spR (λ(x:W×Bool)ws _=>ws=[x.1]/\KFm x.1 x.2) λx=>.bl x.2
theorem Hb(T:Tx K mg base a):Df P w K mg base "has_form" 5 1 kB:=by
 refine mk0 T.iI rfl TC Ce ((by rintro j G Q E ⟨x,⟨e,_⟩,_⟩;rw[e];rfl)) (kh T (IE T) (Yr _)) λj G Q E l q=>?_;obtain⟨⟨x,b⟩,⟨rfl,h⟩,q⟩:=q;rcases h with⟨k,rfl,d,hc,rfl⟩|⟨rfl | rfl,rfl⟩;rotate_left
 ·exact Eq.mpr (by kernel_rfl) q
 ·exact Eq.mpr (by kernel_rfl) q
 have g:B2 "tuple" "tuple"=true:=by decide
 have f:B2 "bool" "bool"=true:=by decide
 have c:B2 "str" "str"=true:=by decide
 unfold TD;cases k with
 | any =>
  exact Eq.mpr (by kernel_rfl) q
 | num =>
  exact Eq.mpr (by kernel_rfl) q
 | truth =>
  exact Eq.mpr (by kernel_rfl) q
 | to x y =>
  exact Eq.mpr (by kernel_rfl) q
 | box x =>
  exact Eq.mpr (by kernel_rfl) q
 | row fs o =>
  have h':(AY fs.names&&fs.ok)=true:=d;walk_at "pa";have i:1+fs.cnt<=1000:=hc;simp only[Kd.enc];walk_at "rd";simp only[g,c,YF,Yq,if_false];refine⟨fs,⟨rfl,h'.2,h'.1,by lia⟩,?_⟩;simp only[if_true,f];exact q
def M1(x:W):W:=match x with | .tup [_,_,k]=>k | _=>.non
theorem T3:∀ fs:Fs,fs.enc.map M1=fs.kinds.map Kd.enc
 | .nil=>rfl
 | .cons n m k r=>by show k.enc::r.enc.map M1=k.enc::r.kinds.map Kd.enc;rw[T3 r]
theorem M2:∀{fs:Fs}{x:W},x∈fs.enc->∃ n b k,x=.tup [.str n,.str (mark b),k]
 | .nil,x,h=>by cases h
 | .cons n m k r,x,h=>by
  walk_at "pk"
  ·exact⟨n,m,k.enc,rfl⟩
  ·exact M2 h
abbrev kC:Spw:=spL (λ(k:Kd)ws _=>ws=[k.enc]/\k.cnt<=20000) λk=>k.kids.map Kd.enc
theorem CI(T:Tx K mg base a):Df P w K mg base "kinds_within" 1 1 kC:=by
 refine mk0 T.iJ rfl TH BX ((by rintro i G Q E ⟨x,⟨e,_⟩,_⟩;rw[e];rfl)) (ki T) λi G Q E j q=>?_;obtain⟨k,⟨rfl,hc⟩,q⟩:=q;unfold TJ;cases k with
 | row fs o =>
  have g:1+fs.cnt<=20000:=hc;have hl:=Hd fs;simp only[Kd.enc];walk_at "rd";refine Ef (f:=M1) trivial fs.enc none [] (λx d c h=>?_) (by simp only[Yi];exact A9 (by lia)) ?_
  ·obtain⟨n,b,k,rfl⟩:=M2 d;show Ad (Ae ixW) (Ab 0) (gC (.int 2)) [some (W.tup [.str n,.str (mark b),k])] _ c;exact h
  ·rw[Yw,T3];exact q
 | any=>exact And.intro (GL _ _) q
 | num=>exact And.intro (GL _ _) q
 | truth=>exact And.intro (GL _ _) q
 | to x y=>exact And.intro (GL _ _) q
 | box x=>exact And.intro (GL _ _) q
theorem Fe(b:G p=some (.lst xs))(a:G r=some (.lst zs))(hl:xs.length+zs.length<=sizeLine)(q:Q .non (put G p (.lst (xs++zs)))):BN (.ref p) [.ref r] G Q:=by
 unfold BN;refine Lr b ?_ q;rw[Cq a,Option.bind_some,if_pos hl]
theorem B5(h:G p=some (.lst xs)):AX (.ref p) G:=⟨xs,Cq h⟩
abbrev T4(n:Nat):Spw:=spL (λ(k:Kd)ws _=>ws=[k.enc]/\k.dp<=n/\k.cnt<=10000) λk=>k.all.map Kd.enc
local macro_rules | `(tactic| walk_at "rd") => `(tactic| ((try dsimp only [Af,gIf,Ai,Ao,AC,Ak,Ab,gC,Ad,gTB,A4,gNt,A8,gOr,Ca,C2,BC,Ah,Aq,Aa,Ac,Ag,gB,rF,Ae,Bt,gMt,Cm,E1,CD,A1,Be,Aw,Bk,Cc,gSl,AV,AU,AI,Ax,C7,Eb,AT,FW,CC,DD,AO,Bc,Au,Bo,List.map_cons,List.map_nil,List.length_cons,List.length_nil,List.cons_append,List.nil_append,List.getElem?_cons_zero,List.getElem?_cons_succ,List.set_cons_zero,List.set_cons_succ,List.replicate,B9,tyN,An,Bg,Bb,B4,ixW,Br,Bd,Bf,Ck,BD,BI,DB,List.getElem?_nil]); (try simp only [Af,gIf,Ai,Ao,AC,Ak,Ab,gC,Ad,gTB,A4,gNt,A8,gOr,Ca,C2,BC,Ah,Aq,Aa,Ac,Ag,gB,rF,Ae,Bt,gMt,Cm,E1,CD,A1,Be,Aw,Bk,Cc,gSl,AV,AU,AI,Ax,C7,Eb,AT,FW,CC,DD,AO,Bc,Au,Bo,List.map_cons,List.map_nil,List.length_cons,List.length_nil,List.cons_append,List.nil_append,List.getElem?_cons_zero,List.getElem?_cons_succ,List.set_cons_zero,List.set_cons_succ,List.replicate,B9,tyN,An,Bg,Bb,B4,ixW,Br,Bd,Bf,Ck,BD,BI,DB,List.getElem?_nil])))
inductive Al{α:Type}(F:W->α->Prop):List W->List α->Prop
 | nil:Al F [] []
 | cons {x:W} {y:α} {l:List W} {m:List α}:F x y->Al F l m->Al F (x::l) (y::m)
theorem Al.map{α β:Type}{F:W->α->Prop}{e:β->W}{f:β->α}:∀{l:List β},(∀ x∈l,F (e x) (f x))->Al F (l.map e) (l.map f)
 | [],_=>.nil
 | x::_,h=>.cons (h x Ye) (Al.map λy a=>h y (Yd _ a))
theorem Al.len{α:Type}{F:W->α->Prop}{m:List α}(h:Al F l m):m.length=l.length:=by
 induction h with
 | nil=>rfl
 | cons _ _ a=>rw[Yg,Yg,a]
abbrev T5(sp:Spw)(F:W->Bool->Prop):Prop:=∀ x b G Q E,F x b->Q (.bl b) G->sp [x] G Q E
abbrev M3(sp:Spw)(F:W->List W->Prop):Prop:=∀ x ps G Q E,F x ps->(∀ r,G r=none->Q (.ref r) (put G r (.lst ps)))->sp [x] G Q E
theorem kD(i:p≠q0)(q:M3 sp F)(t:Al F l pss):∀(o:Option W)(G:Hw)(a:List W),a.length+pss.flatten.length<=20000->G p=some (.lst a)->G q0=some (.lst items)->
  (∀ o' e,e p=some (.lst (a++pss.flatten))->(∀ b,b≠p->∀ u,G b=some u->e b=some u)->D.nx [some k0,some (.ref j),some (.ref p),o'] e)->
  Bs (holds q0 items) (gNm 3) (AC (gMt AX BN (Ab 2) (Aa (DD 1 j sp XF (Aa (Ab 3) Ac)) Ac))) D l [some k0,some (.ref j),some (.ref p),o] G:=by
 induction t with
 | nil=>exact λo G a _ f d c=>⟨d,c o G (by rw[List.flatten_nil,Yx];exact f) λ_ _ _ h=>h⟩
 | @cons x ps l pss h t n =>
  intro o G a hl f d c;rw[List.flatten_cons,Yj]at hl;refine⟨d,B5 f,rfl,q _ _ _ _ _ h λr g=>?_⟩;simp only[Ac];refine Fe (by rw[Av (AJ f g)];exact f) Aj (A9 (by lia)) ?_;refine n (some x) _ (a++ps) (by rw[Yj];lia) Aj (by rw[Av (YY i),Av (AJ d g)];exact d) λo' e h1 h2=>?_;refine c o' e (by rw[h1,List.flatten_cons,Yv]) λb m u k=>h2 b m u ?_;rw[Av m,Av (AJ k g)];exact k
abbrev kE(mg:Str->Option Value)(nm:Str)(F:W->List W->Prop):Spw:=spL (λ(x:List W×List (List W))ws G=>∃ p,ws=[.ref p,.ref (fAt mg nm)]/\G p=some (.lst x.1)/\Al F x.1 x.2/\x.2.flatten.length<=20000) λx=>x.2.flatten
theorem kF{a:GG}{Ar:GS}(h1:ω[i]?=some (some (.ref p)))(h:G p=some (.lst xs))(q:Bs (holds p xs) a gb {D with nx:=Ar D} xs ω G):Af (AT (Ax (Ab i)) a gb) Ar D ω G:=by
 unfold Af AT Ax Ab;rw[h1];dsimp only;rw[h];exact q
theorem IG(T:Tx K mg base a)(D:Df P w K mg base nm j 1 sp)(n:M3 sp F):Df P w K mg base "layer_within" (j+1) 2 (kE mg nm F):=by
 refine mk0 T.iK rfl TN BX ((by rintro o G Q E ⟨x,⟨p,e,_⟩,_⟩;rw[e];rfl)) (kl T D (Yr _)) λo G Q E k q=>?_;obtain⟨⟨l,m⟩,⟨q0,rfl,i,hl,r⟩,q⟩:=q;refine And.intro (Qzz 0) λp g=>?_;have h:p≠q0:=YY (AJ i g);have c:put G p (.lst []) q0=some (.lst l):=AD g _ _ i;dsimp only;show Af (AT _ _ _) _ (Au Q) [some (.ref q0),some (.ref (fAt mg nm)),some (.ref p),none] _;refine kF rfl c ?_;refine kD h n hl none _ [] (by rw[Yi];lia) Aj c λo' s h1 h2=>?_;refine k _ _ _ (λb u d=>?_) (q p g);by_cases f:b=p
 ·subst f;rw[Aj]at d;cases d;exact h1
 ·rw[Av f]at d;exact h2 b f u (by rw[Av f];exact d)
theorem He{α:Type}{enc f:α->W}{cst:Sw}(a:b G):∀(l:List α)(o:Option W)(ys:List W),(∀ x∈l,∀ Q:Kw,Q (f x) G->ge (some (enc x)::cst) G Q)->
  ys.length+l.length<=sizeLine->R (ys++l.map f) G->AN b (gNm 0) Ay ge R (l.map enc) (o::cst) G ys
 | [],o,ys,_,_,r=>⟨a,by simpa using r⟩
 | x::l,o,ys,h,hl,r=>by
  refine⟨a,by simp only[Yg]at hl;lia,?_⟩;show ge (some (enc x)::cst) G λy d=>AN b (gNm 0) Ay ge R (l.map enc) (some (enc x)::cst) d (ys++[y]);refine h x Ye _ (He a l (some (enc x)) (ys++[f x]) (λy c=>h y (Yd _ c)) ?_ ?_)
  ·simp only[Yj,Yg,Yi]at hl ⊢;lia
  ·simpa[Yv]using r
inductive Md(F:W->Bool->Prop)(L:W->List W->Prop)(mo de:Nat):Nat->Nat->Nat->List W->Bool->Prop
 | nil {c d:Nat}:Md F L mo de 0 c d [] true
 | big {c d:Nat} {x:W} {l:List W}:l.length < 1000->mo < c+(l.length+1)\/de < d+1->Md F L mo de 0 c d (x::l) false
 | bad {c d:Nat} {x:W} {l:List W} {bs:List Bool}:l.length < 1000->c+(l.length+1)<=mo->d+1<=de->Al F (x::l) bs->bs.all id=false->Md F L mo de 0 c d (x::l) false
 | step {n c d:Nat} {x:W} {l:List W} {bs:List Bool} {pss:List (List W)} {b:Bool}:l.length < 1000->c+(l.length+1)<=mo->d+1<=de->Al F (x::l) bs->bs.all id=true->Al L (x::l) pss->pss.flatten.length<=20000->Md F L mo de n (c+(l.length+1)) (d+1) pss.flatten b->Md F L mo de (n+1) c d (x::l) b
theorem T6(g:T5 sp F)(c:d G)(t:Al F l bs):∀(o:Option W)(a:List Bool),a.length+bs.length<=1000->R ((a++bs).map W.bl) G->
  AN d (gNm 0) Ay (DD 1 e sp XF (Aa (Ab 0) Ac)) R l [o,some (.ref e)] G (a.map W.bl):=by
 induction t with
 | nil=>exact λo a _ r=>⟨c,by rw[Yx]at r;exact r⟩
 | @cons x b l bs h t f =>
  intro o a hl r;walk_at "pv";refine⟨c,by rw[Yh];exact Bq (by lia),rfl,g _ _ _ _ _ h ?_⟩;have z:=f (some x) (a++[b]) (by rw[Yj];exact(show a.length+1+bs.length<=1000 by lia)) (by rw[Yv];exact r);rw[Yy]at z;exact z
abbrev kG(mg:Str->Option Value)(n1 n2:Str)(F:W->Bool->Prop)(L:W->List W->Prop)(mo de:Nat):Spw:=spR (λ(x:W×Bool)ws _=>ws=[x.1,.ref (fAt mg n1),.ref (fAt mg n2),.int mo,.int de]/\∃ n,Md F L mo de n 0 0 [x.1] x.2) λx=>.bl x.2
theorem Eh(T:Tx K mg base a)(X:Df P w K mg base n1 j 1 I)(O:Df P w K mg base u i 1 D)(hi:i < j)(H:T5 I F)(U:M3 D L):Df P w K mg base "is_made_of" (j+1) 5 (kG mg n1 u F L mo de):=by
 refine mk0 T.iL rfl TR Ce ((by rintro Y G Q E ⟨x,⟨e,_⟩,_⟩;rw[e];rfl)) (kn T X (Yr _) (IG T O U) hi) λY G Q E o q=>?_;obtain⟨⟨x,b⟩,⟨rfl,n,r⟩,q⟩:=q;dsimp only at r q;refine And.intro (Qzz 1) λp N=>?_;refine Exists.intro (λm ω A=>∃(l:List W)(p:Addr)(c d:Nat),ω=[some x,some (.ref (fAt mg n1)),some (.ref (fAt mg u)),some (.int mo),some (.int de),some (.ref p),some (.int c),some (.int d)]/\A p=some (.lst l)/\Sub G A/\Md F L mo de m c d l b) ⟨⟨n,[x],p,0,0,rfl,Aj,AD N,r⟩,?_⟩;rintro m ω Z ⟨l,p,c,d,rfl,hl,hs,r⟩;walk_at "rd";simp only[hl,An];have z:∀(y:W)(l:List W),decide ((0:Int) <((y::l).length:Nat))=true:=λy l=>YH (by rw[Yg];lia);cases r with
 | nil=>exact o _ _ _ hs q
 | @big _ _ y l B h =>
  rw[if_pos (z y l)];by_cases g:(mo:Int) < c+((y::l).length:Nat)
  ·rw[if_pos (YH g),if_pos trivial];exact o _ _ _ hs q
  ·rw[Yg]at g;rw[Yg,if_neg (by rw[YS];exact g),if_pos (YH (by lia))];exact o _ _ _ hs q
 | @bad _ _ y l bs B h1 h2 k s =>
  rw[if_pos (z y l),if_neg (by rw[YS,Yg];lia),if_neg (by rw[YS];lia)];refine T6 H hl k none [] (by rw[k.len,Yg,Yi];lia) λp1 f=>?_;simp only[Yw,Cq Aj,Option.bind_some,DF,YD,An,s,YO,if_true];exact o _ _ _ (Bh hs f) q
 | @step n _ _ y l bs v _ B h1 h2 k s R S J =>
  rw[if_pos (z y l),if_neg (by rw[YS,Yg];lia),if_neg (by rw[YS];lia)];refine T6 H hl k none [] (by rw[k.len,Yg,Yi];lia) λp1 f=>?_;simp only[Yw,Cq Aj,Option.bind_some,DF,YD,An,s,YF,Yq,if_false];refine⟨(y::l,v),⟨p,rfl,AD f _ _ hl,R,S⟩,λp2 t=>⟨n,Nat.lt_succ_self n,_,p2,_,_,?_,Aj,Bh (Bh hs f) t,J⟩⟩;simp only[Yg,Int.natCast_add,Int.natCast_one]
theorem M4{α:Type}{enc:α->W}{kids:α->List α}{cl a:List α->Nat}{ok:α->Prop}(i:∀ l,cl l=l.length+cl (l.flatMap kids))(t:∀ l,l≠[]->a l=1+a (l.flatMap kids))(r:cl []=0)(s:a []=0)(h:∀ x,ok x->F (enc x) true/\L (enc x) ((kids x).map enc)/\∀ y∈kids x,ok y):∀(n:Nat)(l:List α)(c d:Nat),a l<=n->(∀ x∈l,ok x)->cl l<=1000->c<=mo->d<=de->∃ m,Md F L mo de m c d (l.map enc) (decide (c+cl l<=mo/\d+a l<=de))
 | _,[],c,d,_,_,_,hc,hd=>⟨0,by
  rw[YH (show c+cl []<=mo/\d+a []<=de by rw[r,s];exact⟨hc,hd⟩)];exact .nil⟩
 | n,x::l,c,d,f,j,hl,hc,hd=>by
  have h1:=i (x::l);have h2:=t (x::l) (by simp);have u:=i ((x::l).flatMap kids);have e:(l.map enc).length=l.length:=Yh _;rw[Yg]at h1;by_cases g:mo < c+(l.length+1)\/de < d+1
  ·rw[decide_eq_false (by lia)];exact⟨0,.big (by lia) (by rw[e];exact g)⟩
  ·match n,f with
   | 0,f=>lia
   | n+1,f =>
   obtain⟨m,q⟩:=M4 (mo:=mo) (de:=de) i t r s h n ((x::l).flatMap kids) (c+(l.length+1)) (d+1) (by lia) (λy o=>by obtain⟨z,b,o⟩:=List.mem_flatMap.mp o;exact(h z (j z b)).2.2 y o) (by lia) (by lia) (by lia);rw[show decide (c+(l.length+1)+cl ((x::l).flatMap kids)<=mo/\d+1+a ((x::l).flatMap kids)<=de)=decide (c+cl (x::l)<=mo/\d+a (x::l)<=de) by rw[decide_eq_decide];lia]at q;have p:((x::l).map λk=>(kids k).map enc).flatten=((x::l).flatMap kids).map enc:=by rw[List.map_flatMap];rfl
   refine⟨m+1,Md.step (bs:=(x::l).map λ_=>true) (by lia) (by rw[e];lia) (by lia) (Al.map (l:=x::l) (e:=enc) λz b=>(h z (j z b)).1) (by simp) (Al.map (l:=x::l) (e:=enc) λz b=>(h z (j z b)).2.1) ?_ ?_⟩
   ·rw[p,Yh];lia
   ·rw[p,e];exact q
def F6(k:Kd):Bool:=decide (k.cnt<=40/\k.dp<=8)
def KLs(x:W)(ps:List W):Prop:=∃ k:Kd,x=k.enc/\k.cnt<=20000/\ps=k.kids.map Kd.enc
def KB(x:W)(b:Bool):Prop:=(∃ k:Kd,x=k.enc/\k.ok=true/\k.cnt<=1000/\b=F6 k)\/(noK x/\b=false)
theorem kH(h:KB x b):∃ m,Md KFm KLs 40 8 m 0 0 [x] b:=by
 rcases h with⟨k,rfl,c,hc,rfl⟩|⟨h,rfl⟩
 ·have z:=M4 (F:=KFm) (L:=KLs) (mo:=40) (de:=8) (ok:=λk:Kd=>k.ok=true/\k.cnt<=1000) R7 R8 rfl rfl (λk h=>⟨.inl ⟨k,rfl,h.1,h.2,rfl⟩,⟨k,rfl,by have:=h.2;lia,rfl⟩,λy a=>⟨Me h.1 y a,by have:=h.2;have:=C9 k;have:=Mb a;lia⟩⟩) k.dp [k] 0 0 (by show max k.dp 0<=_;lia) (λx d=>by rw[YA.mp d];exact⟨c,hc⟩) (by show k.cnt+0<=_;lia) (by decide) (by decide);rw[show decide (0+A3 [k]<=40/\0+dpL [k]<=8)=F6 k by unfold F6;rw[decide_eq_decide];show 0+(k.cnt+0)<=40/\0+max k.dp 0<=8↔_;lia]at z;exact z
 ·exact⟨0,.bad (bs:=[false]) (by decide) (by decide) (by decide) (.cons (.inr ⟨h,rfl⟩) .nil) rfl⟩
abbrev kI:Spw:=spR (λ(x:W×Bool)ws _=>ws=[x.1]/\KB x.1 x.2) λx=>.bl x.2
theorem IJ(T:Tx K mg base a):Df P w K mg base "is_kind" 7 1 kI:=by
 refine mk0 T.iM rfl TV Ce ((by rintro c G Q E ⟨x,⟨e,_⟩,_⟩;rw[e];rfl)) (kq T (Hb T) (by lia) (CI T) (by lia) (Eh T (F:=KFm) (L:=KLs) (mo:=40) (de:=8) (Hb T) (CI T) (by lia) (λx b G Q E h q=>⟨(x,b),⟨rfl,h⟩,q⟩) (λx ps G Q E⟨k,e,hc,d⟩q=>⟨k,⟨by rw[e],hc⟩,by rw[d]at q;exact q⟩)) (Yr _)) λc G Q E f q=>?_;obtain⟨⟨x,b⟩,⟨rfl,h⟩,q⟩:=q;exact Exists.intro (x,b) ⟨⟨rfl,kH h⟩,q⟩
def orS(s1 s2:Spw):Spw:=λws G Q E=>s1 ws G Q E\/s2 ws G Q E
theorem kJ{a:Spw}(h1:b.M)(h2:a.M):Spw.M (orS b a):=λd G Q c E e h h' q=>q.elim (λq=>.inl (h1 _ _ _ _ _ _ h h' q)) (λq=>.inr (h2 _ _ _ _ _ _ h h' q))
theorem mk2{st:Stmt}(Fx:Fn K mg st x ps)(e:ps.length=n)(S:AB N ps (Ap st))(I:d.M)(y:c.M)(v:∀ a G Q E,d a G Q E->a.length=n)(u:∀ a G Q E,c a G Q E->a.length=n)(z:Dn P w K mg base N x st k g1)(J:Dn P w K mg base N x st k g2)(p:∀ a G(Q:Kw)(E:Addr->Hw->Prop),Kw.C Q->d a G Q E->g1 (Au Q) (Bo N a) G)(o:∀ a G(Q:Kw)(E:Addr->Hw->Prop),Kw.C Q->c a G Q E->g2 (Au Q) (Bo N a) G):Df P w K mg base x (k+1) n (orS d c):=by
 obtain⟨f,fd,h1,F,D⟩:=Fx;have A:=QY (P:=P) (w:=w) (base:=base) F e S v z p;have B:=QY (P:=P) (w:=w) (base:=base) F e S u J o;refine⟨⟨f,fd,_,h1,F.kp,D,e,⟨λvs H Q E⟨a,G,t,r,q⟩=>?_,λl outer s H b i vs Q E h j m g⟨a,G,t,r,q⟩=>?_⟩⟩,kJ I y⟩
 ·rcases q with q | q
  ·exact A.len vs H Q E ⟨a,G,t,r,q⟩
  ·exact B.len vs H Q E ⟨a,G,t,r,q⟩
 ·rcases q with q | q
  ·exact A.run l outer s H b i vs Q E h j m g ⟨a,G,t,r,q⟩
  ·exact B.run l outer s H b i vs Q E h j m g ⟨a,G,t,r,q⟩
abbrev T7:List Str:=["word"]
theorem T8:AB T7 ["word"] (Ap Mt):=by walk_at "s"
def T9:GS:=(Ai (Ie AR (Ab 0)))
theorem kK(T:Tx K mg base a):Dn P w K mg base T7 "form_of" Mt k (T9):=λ{f cdv A outer s H E}hr=>
 have hu:=AQ hr
 have hN:=T8.nd
 (AG (Ba (ik T.SV rfl rfl rfl rfl rfl rfl rfl (by walk_at "v"))))
abbrev IK:List Str:=["term"]
theorem M5:AB IK ["term"] (Ap Mu):=by walk_at "s"
def Hf(Bu:Spw):GS:=(Af (gIf (gTB (Ad (Ae (eqF false)) (Ad (Ae ixW) (Ab 0) (gC (.int 0))) (gC (.str "rec")))) (Ai (AI (Ax (Ad (Ae ixW) (Ab 0) (gC (.int 1)))) 1 (gNm 0) Ay (Ad (Ae ixW) (Ab 0) (gC (.int 1))))) Ak) (Ai (AI (B3 (Aa (Ag Bu XF (Aa (Ad (Ae ixW) (Ab 0) (gC (.int 0))) Ac)) (Aa (Bn (Ab 0) (AV (gC (.int 1))) AU) Ac))) 2 (AM 0 1) (gTB (Ad (Ae (eqF false)) (Ab 0) (gC (.str "term")))) (Ab 1))))
theorem M6(T:Tx K mg base a)(IL:Df P w K mg base "form_of" Bz 1 Bu)(IM:Bz<=k):Dn P w K mg base IK "parts_of" Mu k (Hf Bu):=λ{f cdv A outer s H E}hr=>
 have hu:=AQ hr
 have hN:=M5.nd
 (Az (Cb (by walk_at "v") (AG (Ba (BK (Nc:=["field"]) rfl (BG rfl (by decide +kernel) (by decide +kernel)) (λ_=>rfl) (by walk_at "v") (CB (i:=0) (by decide) rfl rfl) (λC fp s1 H1=>A6) (λC fp s1 H1=>(by walk_at "v"))))) C5) (AG (Ba (BK (Nc:=["sort","thing"]) rfl (BG rfl (by decide +kernel) (by decide +kernel)) (λ_=>rfl) (FZ T.Do rfl rfl rfl (by walk_at "v")) (EU (i:=0) (j:=1) rfl (by decide) rfl rfl rfl rfl) (λC fp s1 H1=>(by walk_at "v")) (λC fp s1 H1=>(by walk_at "v"))))))
abbrev Ua:List Str:=["thing"]
theorem Ub:AB Ua ["thing"] (Ap Mv):=by walk_at "s"
def M7:GS:=(Af (gIf (gOr (gNt (A4 (Bt "int" (Ab 0)))) (A4 (Bt "bool" (Ab 0)))) (Ai (gC (.bl false))) Ak) (Ai (CD (A1 (λi j=>decide (i<=j)) (λa b=>!AW b a)) (A1 (λi j=>decide (i<=j)) (λa b=>!AW b a)) (Ia (gC (.int 99999999999999999999))) (Ab 0) (gC (.int 99999999999999999999)))))
theorem Uc(T:Tx K mg base a):Dn P w K mg base Ua "is_number" Mv k (M7):=λ{f cdv A outer s H E}hr=>
 have hu:=AQ hr
 have hN:=Ub.nd
 (Az (by walk_at "v") (AG (Ba (Qz Ln Ln rfl (hJ (by walk_at "v")) (by walk_at "v") (by walk_at "v")))))
abbrev Ud:List Str:=["thing"]
theorem Ue:AB Ud ["thing"] (Ap Mw):=by walk_at "s"
def Ug(Cs:Spw):GS:=(Ai (Ca (Bt "tuple" (Ab 0)) (Ca (Ad (Ae (eqF false)) (gB (rF Bf) (Aa (Ab 0) Ac)) (gC (.int 2))) (Ag Cs XF (Aa (Ad (Ae ixW) (Ab 0) (gC (.int 0))) Ac)))))
theorem kL(T:Tx K mg base a){CQ:Nat}(To:Df P w K mg base "is_name" CQ 1 Cs)(Tq:CQ<=k):Dn P w K mg base Ud "is_term_field" Mw k (Ug Cs):=by
 have hN:=Ue.nd;walk_at "z"
abbrev Uh:List Str:=["thing"]
theorem Ui:AB Uh ["thing"] (Ap Mx):=by walk_at "s"
def Uj(IN:Spw)(DH:Spw):GS:=(Af (gIf (gNt (A4 (Bt "tuple" (Ab 0)))) (Ai (gC (.bl false))) Ak) (Ai (Ca (gB (rF BD) (Aa (AI (Ax (Ab 0)) 1 (gNm 0) Ay (Ag IN XF (Aa (Ab 0) Ac))) Ac)) (Ag DH XF (Aa (AI (Ax (Ab 0)) 1 (gNm 0) Ay (Ad (Ae ixW) (Ab 0) (gC (.int 0)))) Ac)))))
theorem kM(T:Tx K mg base a)(n8:Df P w K mg base "is_term_field" IP 1 IN)(n9:IP<=k){Eg:Nat}(MS:Df P w K mg base "names_rise" Eg 1 DH)(MT:Eg<=k):Dn P w K mg base Uh "are_term_fields" Mx k (Uj IN DH):=λ{f cdv A outer s H E}hr=>
 have hu:=AQ hr
 have hN:=Ui.nd
 (Az (by walk_at "v") (AG (Ba (Lg (BW Dk (Dj rfl) rfl T.Dm (by decide) rfl rfl rfl (AH rfl (BK (Nc:=["part"]) rfl (BG rfl (by decide +kernel) (by decide +kernel)) (λ_=>rfl) (by walk_at "v") (CB (i:=0) (by decide) rfl rfl) (λC fp s1 H1=>A6) (λC fp s1 H1=>(by walk_at "v"))) A5)) (Lf (Bp MS (hr.mono MT) rfl Ec rfl rfl rfl (AH rfl (BK (Nc:=["part"]) rfl (BG rfl (by decide +kernel) (by decide +kernel)) (λ_=>rfl) (by walk_at "v") (CB (i:=0) (by decide) rfl rfl) (λC fp s1 H1=>A6) (λC fp s1 H1=>(by walk_at "v"))) A5)))))))
abbrev Uk:List Str:=["thing","sort"]
theorem Ul:AB Uk ["thing","sort"] (Ap My):=by walk_at "s"
def Um(IQ:Spw)(Cs:Spw)(IR:Spw)(IS:Spw):GS:=(Af (gIf (gTB (Ad (Ae (eqF false)) (Ab 1) (gC (.str "number")))) (Ai (Ag IQ XF (Aa (Ab 0) Ac))) Ak) (Af (gIf (gTB (Ad (Ae (eqF false)) (Ab 1) (gC (.str "truth")))) (Ai (Bt "bool" (Ab 0))) Ak) (Af (gIf (gTB (Ad (Ae (eqF false)) (Ab 1) (gC (.str "name")))) (Ai (Ag Cs XF (Aa (Ab 0) Ac))) Ak) (Af (gIf (gTB (Ad (Ae (eqF false)) (Ab 1) (gC (.str "kind")))) (Ai (Ag IR XF (Aa (Ab 0) Ac))) Ak) (Af (gIf (gTB (Ad (Ae (eqF false)) (Ab 1) (gC (.str "fields")))) (Ai (Ag IS XF (Aa (Ab 0) Ac))) Ak) (Ai (gC (.bl true))))))))
theorem kN(T:Tx K mg base a)(oa:Df P w K mg base "is_number" IT 1 IQ)(og:IT<=k){CQ:Nat}(To:Df P w K mg base "is_name" CQ 1 Cs)(Tq:CQ<=k){IJ:Nat}(oh:Df P w K mg base "is_kind" IJ 1 IR)(oi:IJ<=k)(oj:Df P w K mg base "are_term_fields" IU 1 IS)(om:IU<=k):Dn P w K mg base Uk "is_of_sort" My k (Um IQ Cs IR IS):=by
 have hN:=Ul.nd;walk_at "z"
abbrev Uo:List Str:=["thing","form"]
theorem Up:AB Uo ["thing"] (Ap Mz):=by walk_at "s"
def Uq(Bu:Spw)(IV:Spw):GS:=(Af (gIf (gOr (gNt (A4 (Bt "tuple" (Ab 0)))) (gOr (gTB (Ad (Ae (eqF false)) (gB (rF Bf) (Aa (Ab 0) Ac)) (gC (.int 0)))) (gNt (A4 (Bt "str" (Ad (Ae ixW) (Ab 0) (gC (.int 0)))))))) (Ai (gC (.bl false))) Ak) (Af (Ao 1 (Ag Bu XF (Aa (Ad (Ae ixW) (Ab 0) (gC (.int 0))) Ac))) (Af (gIf (gOr (gTB (Ad (Ae (isF false)) (Ab 1) (gC .non))) (gTB (Ad (Ae (eqF true)) (gB (rF Bf) (Aa (Ab 0) Ac)) (Ad (A2) (gC (.int 1)) (gB (rF Bf) (Aa (Ab 1) Ac)))))) (Ai (gC (.bl false))) Ak) (Ai (gB (rF BD) (Aa (AI (B3 (Aa (Bn (Ab 0) (AV (gC (.int 1))) AU) (Aa (Ab 1) Ac))) 2 (AM 0 1) Ay (Ag IV XF (Aa (Ab 0) (Aa (Ab 1) Ac)))) Ac))))))
theorem kO(T:Tx K mg base a)(IL:Df P w K mg base "form_of" Bz 1 Bu)(IM:Bz<=k)(oo:Df P w K mg base "is_of_sort" IW 2 IV)(oq:IW<=k):Dn P w K mg base Uo "has_term_form" Mz k (Uq Bu IV):=λ{f cdv A outer s H E}hr=>
 have hu:=AQ hr
 have hN:=Up.nd
 (Az (by walk_at "v") (Az (by walk_at "v") (Az (by walk_at "v") (AG (Ba (BW Dk (Dj rfl) rfl T.Dm (by decide) rfl rfl rfl (AH rfl (BK (Nc:=["part","sort"]) rfl (BG rfl (by decide +kernel) (by decide +kernel)) (λ_=>rfl) (FZ T.Do rfl rfl rfl (by walk_at "v")) (EU (i:=0) (j:=1) rfl (by decide) rfl rfl rfl rfl) (λC fp s1 H1=>A6) (λC fp s1 H1=>(by walk_at "v"))) A5)))))))
abbrev Ur:List Str:=["thing"]
theorem Us:AB Ur ["thing"] (Ap MA):=by walk_at "s"
def kP(mg:Str->Option Value)(M8:Spw)(BY:Spw)(DI:Spw):GS:=(Ai (Ag DI XF (Aa (Ab 0) (Aa (gC (.ref (fAt mg "has_term_form"))) (Aa (gC (.ref (fAt mg "parts_of"))) (Aa (gC (.int 40)) (Aa (gC (.int 10)) Ac)))))))
theorem kQ(T:Tx K mg base a)(kR:Df P w K mg base "has_term_form" Hg 1 M8)(ot:Hg<=k)(IX:Df P w K mg base "parts_of" Cf 1 BY)(M9:Cf<=k){Eh:Nat}(MW:Df P w K mg base "is_made_of" Eh 5 DI)(MX:Eh<=k):Dn P w K mg base Ur "is_term" MA k (kP mg M8 BY DI):=λ{f cdv A outer s H E}hr=>
 have hu:=AQ hr
 have hN:=Us.nd
 (AG (Ba (Bp MW (hr.mono MX) rfl Ec rfl rfl rfl (AH rfl (by walk_at "v") (AH rfl (HU kR rfl rfl) (AH rfl (HU IX rfl rfl) (by walk_at "v")))))))
abbrev Ut:List Str:=["thing"]
theorem Uu:AB Ut ["thing"] (Ap GQ):=by walk_at "s"
def Na(K:PySem.W.Frag)(a:Adr)(IY:Spw)(E:Addr->Hw->Prop):GS:=(gIf (gNt (A4 (Ag IY (λ_=>E) (Aa (Ab 0) Ac)))) (Ls a.NoTerm E (Aa (gC (.str "this is no term")) Ac)) Ak)
theorem kS(T:Tx K mg base a)(kT:Df P w K mg base "is_term" IZ 1 IY)(kU:IZ<=k)(hr:Room k (A.deeper (envOfC "check_term" (Ap GQ) s.heap.objs.size f cdv))):Ssm (cxW P w K mg base Ut "check_term" (Ap GQ) f cdv A outer s H E) (λB=>B=H) (Bv GQ) (Na K a IY (dnX K H E)):=
 have hu:=AQ hr
 have hN:=Uu.nd
 (AG (Cb (Li (Lh (λ_=>rfl) (Bp kT (hr.mono kU) rfl BV rfl rfl rfl (by walk_at "v")))) (AG (eK T.MR T.SG PySem.F.excBase_ValueError rfl rfl rfl rfl (by walk_at "v"))) C5))
mutual
inductive Te where
 | nd (w:Str) (r:As)
inductive As where
 | nil | num (i:Int) (r:As)| tru (b:Bool) (r:As)| nam (x:Str) (r:As)| knd (k:Kd) (r:As)| trm (t:Te) (r:As)| fld (f:Fl) (r:As)
inductive Fl where
 | nil | cons (x:Str) (t:Te) (r:Fl)
end
mutual
def Te.enc:Te->W
 | .nd w r=>.tup (.str w::r.enc)
def As.enc:As->List W
 | .nil=>[]
 | .num i r=>.int i::r.enc
 | .tru b r=>.bl b::r.enc
 | .nam x r=>.str x::r.enc
 | .knd k r=>k.enc::r.enc
 | .trm t r=>t.enc::r.enc
 | .fld f r=>.tup f.enc::r.enc
def Fl.enc:Fl->List W
 | .nil=>[]
 | .cons x t r=>.tup [.str x,t.enc]::r.enc
end
def Fl.names:Fl->List Str
 | .nil=>[]
 | .cons x _ r=>x::r.names
def Fl.terms:Fl->List Te
 | .nil=>[]
 | .cons _ t r=>t::r.terms
def As.sorts:As->List Str
 | .nil=>[]
 | .num _ r=>"number"::r.sorts
 | .tru _ r=>"truth"::r.sorts
 | .nam _ r=>"name"::r.sorts
 | .knd _ r=>"kind"::r.sorts
 | .trm _ r=>"term"::r.sorts
 | .fld _ r=>"fields"::r.sorts
def As.parts:As->List Te
 | .nil=>[]
 | .num _ r=>r.parts
 | .tru _ r=>r.parts
 | .nam _ r=>r.parts
 | .knd _ r=>r.parts
 | .trm t r=>t::r.parts
 | .fld f r=>f.terms++r.parts
def As.told:As->List Kd
 | .nil=>[]
 | .num _ r=>r.told
 | .tru _ r=>r.told
 | .nam _ r=>r.told
 | .knd k r=>k::r.told
 | .trm _ r=>r.told
 | .fld _ r=>r.told
def Te.parts:Te->List Te
 | .nd _ r=>r.parts
def Te.told:Te->List Kd
 | .nd _ r=>r.told
mutual
def Te.cnt:Te->Nat
 | .nd _ r=>1+r.cnt
def As.cnt:As->Nat
 | .nil=>0
 | .num _ r=>r.cnt
 | .tru _ r=>r.cnt
 | .nam _ r=>r.cnt
 | .knd _ r=>r.cnt
 | .trm t r=>t.cnt+r.cnt
 | .fld f r=>f.cnt+r.cnt
def Fl.cnt:Fl->Nat
 | .nil=>0
 | .cons _ t r=>t.cnt+r.cnt
end
mutual
def Te.dp:Te->Nat
 | .nd _ r=>1+r.dp
def As.dp:As->Nat
 | .nil=>0
 | .num _ r=>r.dp
 | .tru _ r=>r.dp
 | .nam _ r=>r.dp
 | .knd _ r=>r.dp
 | .trm t r=>max t.dp r.dp
 | .fld f r=>max f.dp r.dp
def Fl.dp:Fl->Nat
 | .nil=>0
 | .cons _ t r=>max t.dp r.dp
end
def BF(k:Kd):Bool:=decide (k.cnt<=31/\k.dp<=8)
theorem kW(h:BF k=true):F6 k=true:=by
 have h2:k.cnt<=31/\k.dp<=8:=of_decide_eq_true h;unfold F6;rw[YS];lia
abbrev NB:Int:=99999999999999999999
mutual
def Te.ok:Te->Bool
 | .nd w r=>decide (KTD.datumAt w AR=some r.sorts)&&r.ok
def As.ok:As->Bool
 | .nil=>true
 | .num i r=>decide (-NB<=i/\i<=NB)&&r.ok
 | .tru _ r=>r.ok
 | .nam x r=>AA x&&r.ok
 | .knd k r=>(k.ok&&BF k)&&r.ok
 | .trm t r=>t.ok&&r.ok
 | .fld f r=>(AY f.names&&f.ok)&&r.ok
def Fl.ok:Fl->Bool
 | .nil=>true
 | .cons x t r=>(AA x&&t.ok)&&r.ok
end
def AK:List Te->Nat
 | []=>0
 | t::r=>t.cnt+AK r
def tdp:List Te->Nat
 | []=>0
 | t::r=>max t.dp (tdp r)
theorem Nb:∀(l m:List Te),AK (l++m)=AK l+AK m
 | [],m=>by simp[AK]
 | v::l,m=>by show v.cnt+AK (l++m)=v.cnt+AK l+AK m;rw[Nb l m];lia
theorem Nd:∀(l m:List Te),tdp (l++m)=max (tdp l) (tdp m)
 | [],m=>by simp[tdp]
 | v::l,m=>by show max v.dp (tdp (l++m))=max (max v.dp (tdp l)) (tdp m);rw[Nd l m];lia
theorem Uv:∀ f:Fl,f.cnt=AK f.terms/\f.dp=tdp f.terms
 | .nil=>⟨rfl,rfl⟩
 | .cons _ t r=>by
  obtain⟨a,b⟩:=Uv r;exact⟨by show t.cnt+r.cnt=t.cnt+AK r.terms;rw[a],by show max t.dp r.dp=max t.dp (tdp r.terms);rw[b]⟩
theorem Ej:∀ r:As,r.cnt=AK r.parts/\r.dp=tdp r.parts
 | .nil=>⟨rfl,rfl⟩
 | .num _ r=>Ej r
 | .tru _ r=>Ej r
 | .nam _ r=>Ej r
 | .knd _ r=>Ej r
 | .trm t r=>by
  obtain⟨a,b⟩:=Ej r;exact⟨by show t.cnt+r.cnt=t.cnt+AK r.parts;rw[a],by show max t.dp r.dp=max t.dp (tdp r.parts);rw[b]⟩
 | .fld f r=>by
  obtain⟨a,b⟩:=Ej r;obtain⟨c,d⟩:=Uv f;exact⟨by show f.cnt+r.cnt=AK (f.terms++r.parts);rw[Nb,a,c],by show max f.dp r.dp=tdp (f.terms++r.parts);rw[Nd,b,d]⟩
theorem Da(t:Te):t.cnt=1+AK t.parts:=by cases t with | nd w r=>show 1+r.cnt=_;rw[(Ej r).1];rfl
theorem Ek(t:Te):t.dp=1+tdp t.parts:=by cases t with | nd w r=>show 1+r.dp=_;rw[(Ej r).2];rfl
theorem Nf(t:Te):1<=t.cnt:=by rw[Da];lia
theorem Ja(t:Te):1<=t.dp:=by rw[Ek];lia
theorem Uw:∀ l:List Te,AK l=l.length+AK (l.flatMap Te.parts)
 | []=>rfl
 | v::l=>by
  show v.cnt+AK l=(l.length+1)+AK ((v::l).flatMap Te.parts);rw[Qe,Nb,Uw l,Da v];lia
theorem Ux:∀ l:List Te,l≠[]->tdp l=1+tdp (l.flatMap Te.parts)
 | [],h=>absurd rfl h
 | [v],_=>by
  show max v.dp 0=1+tdp ([v].flatMap Te.parts);rw[Qe,List.flatMap_nil,Yx,Ek];lia
 | v::u::l,_=>by
  have a:=Ux (u::l) (by simp);show max v.dp (tdp (u::l))=1+tdp ((v::u::l).flatMap Te.parts);rw[Qe,Nd,a,Ek v];lia
theorem Jb:∀ l:List Te,l.length<=AK l
 | []=>Yr _
 | v::l=>by have:=Jb l;have:=Nf v;show l.length+1<=v.cnt+AK l;lia
theorem Jc:∀{l:List Te}{v:Te},v∈l->v.cnt<=AK l
 | u::l,v,h=>by
  show v.cnt<=u.cnt+AK l;walk_at "pk"
  ·lia
  ·have:=Jc h;lia
theorem Hh:∀{l:List Te}{v:Te},v∈l->v.dp<=tdp l
 | u::l,v,h=>by
  show v.dp<=max u.dp (tdp l);walk_at "pk"
  ·lia
  ·have:=Hh h;lia
theorem Ng(t:Te):t.parts.length+1<=t.cnt:=by rw[Da t];have:=Jb t.parts;lia
theorem El:∀ r:As,r.enc.length=r.sorts.length
 | .nil=>rfl
 | .num _ r=>congrArg (·+1) (El r)
 | .tru _ r=>congrArg (·+1) (El r)
 | .nam _ r=>congrArg (·+1) (El r)
 | .knd _ r=>congrArg (·+1) (El r)
 | .trm _ r=>congrArg (·+1) (El r)
 | .fld _ r=>congrArg (·+1) (El r)
theorem Uy:∀{f:Fl},f.ok=true->∀ c∈f.terms,c.ok=true
 | .nil,_,c,hc=>by cases hc
 | .cons x t r,h,c,hc=>by
  have h':((AA x&&t.ok)&&r.ok)=true:=h;walk_at "pa";rcases Yo.mp hc with rfl | hc
  ·exact h'.1.2
  ·exact Uy h'.2 c hc
theorem Ff:∀{r:As},r.ok=true->∀ c∈r.parts,c.ok=true
 | .nil,_,c,hc=>by cases hc
 | .num i r,h,c,hc=>by
  walk_at "ps";walk_at "pa";exact Ff h'.2 c hc
 | .tru _ r,h,c,hc=>Ff (r:=r) h c hc
 | .nam x r,h,c,hc=>by
  have h':(AA x&&r.ok)=true:=h;walk_at "pa";exact Ff h'.2 c hc
 | .knd k r,h,c,hc=>by
  have h':((k.ok&&BF k)&&r.ok)=true:=h;walk_at "pa";exact Ff h'.2 c hc
 | .trm t r,h,c,hc=>by
  have h':(t.ok&&r.ok)=true:=h;walk_at "pa";rcases Yo.mp hc with rfl | hc
  ·exact h'.1
  ·exact Ff h'.2 c hc
 | .fld f r,h,c,hc=>by
  have h':((AY f.names&&f.ok)&&r.ok)=true:=h;walk_at "pa";rcases Yz.mp hc with hc | hc
  ·exact Uy h'.1.2 c hc
  ·exact Ff h'.2 c hc
theorem CS{w:Str}(h:(Te.nd w r).ok=true):KTD.datumAt w AR=some r.sorts/\r.ok=true:=by
 have h':(decide (KTD.datumAt w AR=some r.sorts)&&r.ok)=true:=h;simp only[YG,YS]at h';exact h'
theorem En{t:Te}(h:t.ok=true):∀ c∈t.parts,c.ok=true:=by
 cases t with
 | nd w r=>exact Ff (CS h).2
def Jd(x:W):W:=match x with | .tup [_,k]=>k | _=>.non
abbrev Nh:Spw:=spR (λ(z:Str)ws _=>ws=[.str z]) λz=>E9 AR z
theorem Bz(T:Tx K mg base a):Df P w K mg base "form_of" 1 1 Nh:=by
 refine mk0 T.iS rfl T8 Ce (λb G Q E⟨x,e,_⟩=>by rw[e];rfl) (kK T) λb G Q E c q=>?_;obtain⟨z,rfl,q⟩:=q;unfold T9;show Ie AR (Ab 0) [some (.str z)] G _;simp only[Ie,Ab,Yb];exact q
theorem Hi{w:Str}(h:KTD.datumAt w AR=some ss):E9 AR w=.tup (ss.map W.str):=by unfold E9;rw[h]
theorem Je{δ:Type}:∀{D:List (Str×δ)}{k:Str}{d:δ},KTD.datumAt k D=some d->(k,d)∈D
 | [],k,d,h=>by cases h
 |(x,e)::D,k,d,h=>by
  have h':(if decide (k=x)=true then some e else KTD.datumAt k D)=some d:=h;by_cases a:k=x
  ·rw[if_pos (YH a)]at h';cases h';rw[a];exact Ye
  ·rw[if_neg (by simp[a])]at h';exact Yd _ (Je h')
theorem kX:(AR.all λp=>decide (p.1="rec")||!p.2.contains ("fields":Str))=true:=by decide +kernel
theorem kY:(AR.all λp=>!decide (p.1="rec")||decide (p.2=[("fields":Str)]))=true:=by decide +kernel
theorem Fg{w:Str}{r:As}(h:KTD.datumAt w AR=some r.sorts):(w="rec"->∃ f,r=.fld f .nil)/\(w≠"rec"->("fields":Str)∉r.sorts):=by
 have b:=Je h;have h1:=List.all_eq_true.mp kX _ b;have h2:=List.all_eq_true.mp kY _ b;simp only[Bool.or_eq_true,Bool.not_eq_true',YS,decide_eq_false_iff_not]at h1 h2;constructor
 ·intro e;have a:r.sorts=[("fields":Str)]:=h2.resolve_left λz=>z e;cases r with
  | fld f r =>
   have c:("fields":Str)::r.sorts=[("fields":Str)]:=a;injection c with _ h5;cases r with
   | nil=>exact⟨f,rfl⟩
   | num _ _=>cases h5
   | tru _ _=>cases h5
   | nam _ _=>cases h5
   | knd _ _=>cases h5
   | trm _ _=>cases h5
   | fld _ _=>cases h5
  | nil=>cases a
  | num _ _=>exact absurd (List.cons.inj a).1 (by decide +kernel)
  | tru _ _=>exact absurd (List.cons.inj a).1 (by decide +kernel)
  | nam _ _=>exact absurd (List.cons.inj a).1 (by decide +kernel)
  | knd _ _=>exact absurd (List.cons.inj a).1 (by decide +kernel)
  | trm _ _=>exact absurd (List.cons.inj a).1 (by decide +kernel)
 ·intro e z;have a:=h1.resolve_left e;rw[List.contains_iff_mem.mpr z]at a;cases a
theorem Ni:∀ f:Fl,f.enc.map Jd=f.terms.map Te.enc
 | .nil=>rfl
 | .cons x t r=>by show t.enc::r.enc.map Jd=t.enc::r.terms.map Te.enc;rw[Ni r]
theorem Nj:∀{f:Fl}{x:W},f.ok=true->x∈f.enc->∃ n v,x=.tup [.str n,v]/\AA n=true
 | .nil,x,_,h=>by cases h
 | .cons n t r,x,a,h=>by
  have h':((AA n&&t.ok)&&r.ok)=true:=a;walk_at "pa";walk_at "pk"
  ·exact⟨n,t.enc,rfl,h'.1.1⟩
  ·exact Nj h'.2 h
abbrev gTe:GT:=gTB (Ad (Ae (eqF false)) (Ab 0) (gC (.str "term")))
theorem kZ(q:Q (s=="term") G):gTe [some (.str s),some v] G Q:=by
 simp only[gTe,gTB,Ad,Ae,Ab,gC,Yb,Bd,An];cases h:(s=="term")with
 | true=>rw[h]at q;exact q
 | false=>rw[h]at q;exact q
theorem Eo(hl:ys.length < 1000)(h:AN yes (AM 0 1) gTe (Ab 1) R zs [some (.str s),some v] G (if(s=="term")=true then ys++[v]else ys)):
  AN yes (AM 0 1) gTe (Ab 1) R (.tup [.str s,v]::zs) [o,o'] G ys:=by
 refine⟨trivial,Bq (by lia),?_⟩;show gTe [some (.str s),some v] G _;refine kZ ?_;cases e:(s=="term")with
 | true =>
  rw[e]at h;rw[if_pos rfl];exact h
 | false =>
  rw[e]at h;rw[if_neg (by decide)];exact h
theorem Kn:∀(r:As)(o o':Option W)(ys:List W),("fields":Str)∉r.sorts->ys.length+r.enc.length<=1000->R (ys++r.parts.map Te.enc) G->
  AN yes (AM 0 1) gTe (Ab 1) R (Bx (r.sorts.map W.str) r.enc) [o,o'] G ys
 | .nil,o,o',ys,_,_,h=>⟨trivial,by have h':R (ys++[]) G:=h;rw[Yx]at h';exact h'⟩
 | .num i r,o,o',ys,a,hl,h=>by
  have b:ys.length+(r.enc.length+1)<=1000:=hl;refine Eo (s:="number") (v:=.int i) (by lia) ?_;rw[if_neg (by decide +kernel)];walk_at "pr"
 | .tru i r,o,o',ys,a,hl,h=>by
  have b:ys.length+(r.enc.length+1)<=1000:=hl;refine Eo (s:="truth") (v:=.bl i) (by lia) ?_;rw[if_neg (by decide +kernel)];walk_at "pr"
 | .nam i r,o,o',ys,a,hl,h=>by
  have b:ys.length+(r.enc.length+1)<=1000:=hl;refine Eo (s:="name") (v:=.str i) (by lia) ?_;rw[if_neg (by decide +kernel)];walk_at "pr"
 | .knd i r,o,o',ys,a,hl,h=>by
  have b:ys.length+(r.enc.length+1)<=1000:=hl;refine Eo (s:="kind") (v:=i.enc) (by lia) ?_;rw[if_neg (by decide +kernel)];walk_at "pr"
 | .trm t r,o,o',ys,a,hl,h=>by
  have b:ys.length+(r.enc.length+1)<=1000:=hl;refine Eo (s:="term") (v:=t.enc) (by lia) ?_;rw[if_pos (by decide +kernel)];refine Kn r _ _ _ (λz=>a (Yd _ z)) (by rw[Yj];simp only[Yg,Yi];lia) ?_;rw[Yv];exact h
 | .fld f r,o,o',ys,a,_,_=>absurd Ye a
theorem Nk:∀ f:Fl,f.enc.length<=f.cnt
 | .nil=>Yr _
 | .cons _ t r=>by have:=Nk r;have:=Nf t;show r.enc.length+1<=t.cnt+r.cnt;lia
theorem k6:(AR.all λp=>decide (p.2.length<=3))=true:=by decide +kernel
theorem Fh{w:Str}{r:As}(h:KTD.datumAt w AR=some r.sorts):r.sorts.length<=3:=of_decide_eq_true (List.all_eq_true.mp k6 _ (Je h))
abbrev Jf:Spw:=spL (λ(t:Te)ws _=>ws=[t.enc]/\t.ok=true/\t.cnt<=20000) λt=>t.parts.map Te.enc
theorem Uz(c:List W)(G:Hw)(Q:Kw)(E:Addr->Hw->Prop)(_:Kw.C Q)(q:Jf c G Q E):Hf Nh (Au Q) (Bo IK c) G:=by
 obtain⟨t,⟨rfl,h,hc⟩,q⟩:=q;cases t with
 | nd w r =>
 obtain⟨h1,h2⟩:=CS h;have hs:=Fh h1;have hl:=El r;unfold Hf;show Af (gIf _ _ Ak) _ (Au Q) [some (.tup (.str w::r.enc))] G;walk_at "pl";by_cases e:w="rec"
 ·rw[show(w==("rec":Str))=true by simp[e]];obtain⟨f,rfl⟩:=(Fg h1).1 e;have i:1+(f.cnt+0)<=20000:=hc;have j:=Nk f;have a:((AY f.names&&f.ok)&&true)=true:=h2;simp only[Bool.and_true,YG]at a;simp only[show(true != false)=true from rfl,if_true,Ai,AI,Ax,Ad,Ae,Ab,gC,Yb,As.enc,ixW,Bb,An,Au,List.replicate];refine Ef (f:=Jd) trivial f.enc none [] (λx g d b=>?_) (by simp only[Yi];exact A9 (by lia)) ?_
  ·obtain⟨n,u,rfl,_⟩:=Nj a.2 g;show Ad (Ae ixW) (Ab 0) (gC (.int 1)) [some (W.tup [.str n,u])] _ d;simp only[Ad,Ae,Ab,gC,Yb,ixW,Bb,An];exact b
  ·rw[Yw,Ni];have b:∀ p,G p=none->Q (.ref p) (put G p (.lst ((f.terms++[]).map Te.enc))):=q;rw[Yx]at b;exact b
 ·rw[show(w==("rec":Str))=false by simpa using e];simp only[show(false != false)=false from rfl,Yq,if_false,Ak,Ai,AI,B3,Ag,Bn,AV,AU,Aa,Ac,Ad,Ae,Ab,gC,Yb,ixW,Bg,An,Au,List.replicate];refine⟨w,rfl,?_⟩;show slA (.tup (.str w::r.enc)) (some 1) none G _;show ∃ xs ys,_;refine⟨r.sorts.map W.str,r.enc,?_,?_⟩
  ·rw[CP];dsimp only;rw[Hi h1];rfl
  ·exact Kn r none none [] ((Fg h1).2 e) (by simp only[Yi];lia) (by rw[Yw];exact q)
theorem Cf(T:Tx K mg base a):Df P w K mg base "parts_of" 2 1 Jf:=mk0 (k:=1) T.Sg rfl M5 BX (λb G Q E⟨x,⟨e,_⟩,_⟩=>by rw[e];rfl) (M6 T (Bz T) (Yr _)) Uz
theorem k7:B2 "int" "int"=true:=by decide
theorem UA:B2 "int" "bool"=false:=by decide
theorem UB:B2 "bool" "bool"=true:=by decide
theorem Nl:B2 "tuple" "tuple"=true:=by decide
theorem k8:B2 "str" "str"=true:=by decide
theorem la:B2 "bool" "int"=true:=by decide
abbrev lb:Spw:=orS (spR (λ(i:Int)ws _=>ws=[.int i]/\-NB<=i/\i<=NB) λ_=>.bl true) (spR (λ(b:Bool)ws _=>ws=[.bl b]) λ_=>.bl false)
theorem IT(T:Tx K mg base a):Df P w K mg base "is_number" 1 1 lb:=by
 refine mk2 T.iT rfl Ub Ce Ce (λc G Q E⟨x,⟨e,_⟩,_⟩=>by rw[e];rfl) (λc G Q E⟨x,e,_⟩=>by rw[e];rfl) (Uc T) (Uc T) (λc G Q E d q=>?_) (λc G Q E d q=>?_)
 ·obtain⟨i,⟨rfl,h1,h2⟩,q⟩:=q;unfold M7;walk_at "rd";simp only[k7,UA,YF,Yq,if_false,Ia,gC];have f:decide (i<=(99999999999999999999:Int))=true:=YH h2;simp only[f];refine⟨99999999999999999999,rfl,?_⟩;rw[if_pos (YH h1)];exact q
 ·obtain⟨b,rfl,q⟩:=q;unfold M7;walk_at "rd";simp only[la,UB,YF,Yq,if_false,if_true];exact q
abbrev lc:Spw:=spR (λ(x:Str×W)ws _=>ws=[.tup [.str x.1,x.2]]/\AA x.1=true) λ_=>.bl true
theorem IP(T:Tx K mg base a):Df P w K mg base "is_term_field" 3 1 lc:=by
 refine mk0 T.iU rfl Ue Ce (λc G Q E⟨x,⟨e,_⟩,_⟩=>by rw[e];rfl) (kL T (CQ T) (Yr _)) λc G Q E d q=>?_;obtain⟨⟨n,u⟩,⟨rfl,b⟩,q⟩:=q;have hl:n.length<=8:=MY b;dsimp only at q b;unfold Ug;walk_at "rd";simp only[Nl,if_true];refine⟨n,⟨rfl,by lia⟩,?_⟩;dsimp only;rw[b];exact q
def F7(l:List (Str×W)):List W:=l.map λx=>.tup [.str x.1,x.2]
abbrev lf:Spw:=spR (λ(l:List (Str×W))ws _=>ws=[.tup (F7 l)]/\(∀ x∈l,AA x.1=true)/\l.length<=1000) λl=>.bl (AY (l.map (·.1)))
theorem IU(T:Tx K mg base a):Df P w K mg base "are_term_fields" 4 1 lf:=by
 refine mk0 T.iV rfl Ui Ce (λm G Q E⟨x,⟨e,_⟩,_⟩=>by rw[e];rfl) (kM T (IP T) (Yr _) (Eg T) (by lia)) λm G Q E i q=>?_;obtain⟨l,⟨rfl,j,hl⟩,q⟩:=q;unfold Uj;walk_at "rd";simp only[Nl,YF,Yq,if_false];refine He (enc:=λx:Str×W=>.tup [.str x.1,x.2]) (f:=λ_=>.bl true) (cst:=[]) trivial l none [] (λx h g c=>?_) (by simp only[Yi];exact A9 (by lia)) ?_
 ·exact⟨x,⟨rfl,j x h⟩,c⟩
 ·intro p k;rw[Yw,show(λ_:Str×W=>W.bl true)=W.bl∘(λ_=>true)from rfl,<- YB];simp only[Cq Aj,Option.bind_some,DF,YD,An];have b:(l.map λ_=>true).all id=true:=by simp
  rw[b];simp only[if_true];refine He (enc:=λx:Str×W=>.tup [.str x.1,x.2]) (f:=λx=>.str x.1) (cst:=[]) trivial l none [] (λx h g c=>?_) (by simp only[Yi];exact A9 (by lia)) ?_
  ·show Ad (Ae ixW) (Ab 0) (gC (.int 0)) [some (W.tup [.str x.1,x.2])] _ g;walk_at "rd";exact c
  ·intro p2 d;rw[Yw];refine⟨l.map (·.1),⟨p2,rfl,by rw[Aj,YB];rfl,by rw[Yh];lia⟩,?_⟩;exact i _ _ _ (Bh (AD k) d) q
def flL:Fl->List (Str×W)
 | .nil=>[]
 | .cons x t r=>(x,t.enc)::flL r
theorem UC:∀ f:Fl,f.enc=F7 (flL f)
 | .nil=>rfl
 | .cons x t r=>by show _::r.enc=_::F7 (flL r);rw[UC r]
theorem UD:∀ f:Fl,(flL f).map (·.1)=f.names
 | .nil=>rfl
 | .cons x t r=>by show x::(flL r).map (·.1)=x::r.names;rw[UD r]
theorem UE:∀{f:Fl},f.ok=true->∀ x∈flL f,AA x.1=true
 | .nil,_,x,h=>by cases h
 | .cons n t r,a,x,h=>by
  have h':((AA n&&t.ok)&&r.ok)=true:=a;walk_at "pa";walk_at "pk"
  ·exact h'.1.1
  ·exact UE h'.2 x h
theorem UF:∀ f:Fl,(flL f).length<=f.cnt
 | .nil=>Yr _
 | .cons _ t r=>by have:=UF r;have:=Nf t;show(flL r).length+1<=t.cnt+r.cnt;lia
inductive Os:W->Str->Bool->Prop
 | num (i:Int) (h:-NB<=i/\i<=NB):Os (.int i) "number" true
 | numB (b:Bool):Os (.bl b) "number" false
 | tru (b:Bool):Os (.bl b) "truth" true
 | truB (i:Int):Os (.int i) "truth" false
 | nam (x:Str) (h:x.length<=8):Os (.str x) "name" (AA x)
 | knd (k:Kd) (h:k.ok=true) (h2:F6 k=true):Os k.enc "kind" true
 | kndB (x:W) (h:noK x):Os x "kind" false
 | trm (x:W):Os x "term" true
 | fld (l:List (Str×W)) (h:∀ x∈l,AA x.1=true) (h3:l.length<=1000):Os (.tup (F7 l)) "fields" (AY (l.map (·.1)))
def Nn:Spw:=λws G Q _=>∃ v s b,ws=[v,.str s]/\Os v s b/\Q (.bl b) G
theorem lg:Spw.M Nn:=(by rintro d G Q a E c h _ ⟨v,s,b,h1,h2,q⟩;exact⟨v,s,b,h1,h2,h _ _ q⟩)
theorem DK{Ar:GS}(h1:ω[1]?=some (some (.str s)))(h:if s=t then e ω G D.rt else Ar D ω G):Af (gIf (gTB (Ad (Ae (eqF false)) (Ab 1) (gC (.str t)))) (Ai e) Ak) Ar D ω G:=by
 simp only[Af,gIf,gTB,Ad,Ae,Ab,h1,gC,Bd,An,Ai,Ak];by_cases z:s=t
 ·rw[if_pos z]at h;rw[show(s==t)=true by simp[z]];exact h
 ·rw[if_neg z]at h;rw[show(s==t)=false by simpa using z];exact h
theorem IW(T:Tx K mg base a):Df P w K mg base "is_of_sort" 8 2 Nn:=by
 refine mk0 (k:=7) T.iW rfl Ul lg (λc G Q E⟨_,_,_,e,_⟩=>by rw[e];rfl) (kN T (IT T) (by lia) (CQ T) (by lia) (IJ T) (by lia) (IU T) (by lia)) λc G Q E f q=>?_;obtain⟨v,s,b,rfl,h,q⟩:=q;unfold Um;show Af _ _ (Au Q) [some v,some (.str s)] G;have no:∀{s t:Str}{e:GE}{Ar:GS}{D:Ew}{ω:Sw},s≠t->ω[1]?=some (some (.str s))->Ar D ω G->Af (gIf (gTB (Ad (Ae (eqF false)) (Ab 1) (gC (.str t)))) (Ai e) Ak) Ar D ω G:=λh h1 h2=>DK h1 (by rw[if_neg h];exact h2);cases h with
 | num i h =>
  refine DK rfl ?_;rw[if_pos rfl];exact .inl ⟨i,⟨rfl,h⟩,q⟩
 | numB i =>
  refine DK rfl ?_;rw[if_pos rfl];exact .inr ⟨i,rfl,q⟩
 | tru b =>
  refine no (by decide +kernel) rfl (DK rfl ?_);rw[if_pos rfl];simp only[Bt,Ab,Yb,tyN,UB,An];exact q
 | truB b =>
  refine no (by decide +kernel) rfl (DK rfl ?_);rw[if_pos rfl];simp only[Bt,Ab,Yb,tyN,UA,An];exact q
 | nam x h =>
  refine no (by decide +kernel) rfl (no (by decide +kernel) rfl (DK rfl ?_));rw[if_pos rfl];exact⟨x,⟨rfl,by lia⟩,q⟩
 | knd k h h2 =>
  have g:k.cnt<=40/\k.dp<=8:=of_decide_eq_true h2;refine no (by decide +kernel) rfl (no (by decide +kernel) rfl (no (by decide +kernel) rfl (DK rfl ?_)));rw[if_pos rfl];exact Exists.intro (k.enc,true) ⟨⟨rfl,.inl ⟨k,rfl,h,by lia,h2.symm⟩⟩,q⟩
 | kndB x h =>
  refine no (by decide +kernel) rfl (no (by decide +kernel) rfl (no (by decide +kernel) rfl (DK rfl ?_)));rw[if_pos rfl];exact Exists.intro (v,false) ⟨⟨rfl,.inr ⟨h,rfl⟩⟩,q⟩
 | trm t=>exact no (by decide +kernel) rfl (no (by decide +kernel) rfl (no (by decide +kernel) rfl (no (by decide +kernel) rfl (no (by decide +kernel) rfl q))))
 | fld l h d =>
  refine no (by decide +kernel) rfl (no (by decide +kernel) rfl (no (by decide +kernel) rfl (no (by decide +kernel) rfl (DK rfl ?_))));rw[if_pos rfl];exact⟨l,⟨rfl,h,d⟩,q⟩
def As.prs:As->List (W×Str)
 | .nil=>[]
 | .num i r=>(.int i,"number")::r.prs
 | .tru b r=>(.bl b,"truth")::r.prs
 | .nam x r=>(.str x,"name")::r.prs
 | .knd k r=>(k.enc,"kind")::r.prs
 | .trm t r=>(t.enc,"term")::r.prs
 | .fld f r=>(.tup f.enc,"fields")::r.prs
theorem F8:∀ r:As,Bx r.enc (r.sorts.map W.str)=r.prs.map λx=>.tup [x.1,.str x.2]
 | .nil=>rfl
 | .num _ r=>congrArg (_::·) (F8 r)
 | .tru _ r=>congrArg (_::·) (F8 r)
 | .nam _ r=>congrArg (_::·) (F8 r)
 | .knd _ r=>congrArg (_::·) (F8 r)
 | .trm _ r=>congrArg (_::·) (F8 r)
 | .fld _ r=>congrArg (_::·) (F8 r)
theorem Fi:∀{r:As},r.ok=true->r.cnt<=1000->∀ x∈r.prs,Os x.1 x.2 true
 | .nil,_,_,x,a=>by cases a
 | .num i r,h,hc,x,a=>by
  walk_at "ps";simp only[YG,YS]at h';walk_at "pm"
  ·exact .num i h'.1
  ·exact Fi (r:=r) h'.2 hc x a
 | .tru b r,h,hc,x,a=>by
  walk_at "pm"
  ·exact .tru b
  ·exact Fi (r:=r) h hc x a
 | .nam y r,h,hc,x,a=>by
  have h':(AA y&&r.ok)=true:=h;walk_at "pa";walk_at "pm"
  ·have:=Os.nam y (MY h'.1);rw[h'.1]at this;exact this
  ·exact Fi (r:=r) h'.2 hc x a
 | .knd k r,h,hc,x,a=>by
  have h':((k.ok&&BF k)&&r.ok)=true:=h;walk_at "pa";walk_at "pm"
  ·exact .knd k h'.1.1 (kW h'.1.2)
  ·exact Fi (r:=r) h'.2 hc x a
 | .trm t r,h,hc,x,a=>by
  have h':(t.ok&&r.ok)=true:=h;have c:t.cnt+r.cnt<=1000:=hc;walk_at "pa";walk_at "pm"
  ·exact .trm _
  ·exact Fi (r:=r) h'.2 (by lia) x a
 | .fld f r,h,hc,x,a=>by
  have h':((AY f.names&&f.ok)&&r.ok)=true:=h;have c:f.cnt+r.cnt<=1000:=hc;walk_at "pa";walk_at "pm"
  ·have:=Os.fld (flL f) (UE h'.1.2) (by have:=UF f;lia);rw[UD,h'.1.1,<- UC]at this;exact this
  ·exact Fi (r:=r) h'.2 (by lia) x a
theorem Dp:∀ r:As,r.prs.length=r.sorts.length
 | .nil=>rfl
 | .num _ r=>congrArg (·+1) (Dp r)
 | .tru _ r=>congrArg (·+1) (Dp r)
 | .nam _ r=>congrArg (·+1) (Dp r)
 | .knd _ r=>congrArg (·+1) (Dp r)
 | .trm _ r=>congrArg (·+1) (Dp r)
 | .fld _ r=>congrArg (·+1) (Dp r)
theorem UG:∀(l:List (W×Str×Bool))(o o':Option W)(ys:List W),(∀ x∈l,Os x.1 x.2.1 x.2.2)->ys.length+l.length<=1000->R (ys++l.map λx=>.bl x.2.2) G->
  AN yes (AM 0 1) Ay (Ag Nn XF (Aa (Ab 0) (Aa (Ab 1) Ac))) R (l.map λx=>.tup [x.1,.str x.2.1]) [o,o'] G ys
 | [],o,o',ys,_,_,h=>⟨trivial,by rw[YI,Yx]at h;exact h⟩
 | x::l,o,o',ys,a,hl,h=>by
  walk_at "pv";refine⟨trivial,Bq (by lia),?_⟩;simp only[AM,Ay,if_true,Yk,Yl,Ag,Aa,Ac,Ab,Yb,Yc];refine⟨x.1,x.2.1,x.2.2,rfl,a x Ye,?_⟩;refine UG l _ _ _ (λz b=>a z (Yd _ b)) (by rw[Yj];simp only[Yg,Yi];lia) ?_;rw[Yv];exact h
theorem AF{Ar:GS}(h:ge ω G λw a=>Ar D (ω.set i (some w)) a):Af (Ao i ge) Ar D ω G:=h
theorem UH{Ar:GS}(h:∀ Z:Bool->Hw->Prop,Z false G->c ω G Z)(h2:Ar D ω G):Af (gIf c s Ak) Ar D ω G:=by
 simp only[Af,gIf];refine h _ ?_;simp only[Yq,if_false,Ak];exact h2
def FF(w:Str)(xs:List W)(b:Bool):Prop:=∃ ss,KTD.datumAt w AR=some ss/\((xs.length≠ss.length/\b=false)\/∃ l:List (W×Str×Bool),xs=l.map (·.1)/\ss=l.map (·.2.1)/\(∀ x∈l,Os x.1 x.2.1 x.2.2)/\b=l.all (·.2.2))
def UI:Spw:=λws G Q _=>∃ w xs b,ws=[.tup (.str w::xs)]/\FF w xs b/\xs.length<=10/\Q (.bl b) G
theorem lh:Spw.M UI:=(by rintro e G Q c E d h _ ⟨v,s,b,h1,h2,a,q⟩;exact⟨v,s,b,h1,h2,a,h _ _ q⟩)
theorem UJ:∀ l:List (W×Str×Bool),Bx (l.map (·.1)) ((l.map (·.2.1)).map W.str)=l.map λx=>.tup [x.1,.str x.2.1]
 | []=>rfl
 | _::l=>congrArg (_::·) (UJ l)
theorem Hg(T:Tx K mg base a):Df P w K mg base "has_term_form" 9 1 UI:=by
 refine mk0 (k:=8) T.iX rfl Up lh (λm G Q E⟨_,_,_,e,_⟩=>by rw[e];rfl) (kO T (Bz T) (by lia) (IW T) (by lia)) λm G Q E g q=>?_;obtain⟨w,xs,b,rfl,⟨d,h1,n⟩,f,q⟩:=q;unfold Uq;show Af (gIf _ _ Ak) _ (Au Q) [some (.tup (.str w::xs)),none] G;refine UH (λZ c=>?_) ?_
 ·simp only[gOr,gNt,A4,Bt,Ab,Yb,tyN,B9,An,Nl,k8,YF,Yq,if_false,gTB,Ad,Ae,gB,rF,Aa,Ac,Bf,Ck,gC,Br,ixW,Bg];have i:((((W.str w::xs).length:Nat):Int)==0)=false:=by simp only[Yg];simpa using(show ¬ ((xs.length:Int)+1=0) by lia)
  simp only[i,bne_self_eq_false,Yq,if_false];exact c
 refine AF ?_;simp only[Ag,Aa,Ac,Ad,Ae,Ab,gC,Yb,ixW,Bg,An];refine⟨w,rfl,?_⟩;dsimp only;rw[Hi h1];walk_at "pe";rcases n with⟨j,rfl⟩|⟨l,rfl,rfl,hl,rfl⟩
 ·simp only[Af,gIf,gOr,gTB,Ad,Ae,Ab,gC,Yb,Yc,isF,GJ,An,Yq,if_false,gB,rF,Aa,Ac,Bf,Ck,A2,Bk];rw[if_neg (by decide),Br,An]
  have e:((((W.str w::xs).length:Nat):Int)==1+(((d.map W.str).length:Nat):Int))=false:=by
   rw[Yh,Yg];simpa using(show ¬ ((xs.length:Int)+1=1+d.length) by lia)
  rw[e];exact q
 refine UH (λZ c=>?_) ?_
 ·simp only[gOr,gTB,Ad,Ae,Ab,gC,Yb,Yc,isF,GJ,An,Yq,if_false,gB,rF,Aa,Ac,Bf,Ck,A2,Bk];rw[if_neg (by decide),Br,An]
  have e:((((W.str w::l.map (·.1)).length:Nat):Int)==1+((((l.map (·.2.1)).map W.str).length:Nat):Int))=true:=by
   rw[Yh,Yh,Yg,Yh];simpa using(show(l.length:Int)+1=1+l.length by lia)
  rw[e];exact c
 rw[Yh]at f;simp only[Ai,gB,rF,AI,B3,Bn,AV,AU,Aa,Ac,Ab,gC,Yb,Yc,Au,List.replicate];refine⟨l.map (·.1),(l.map (·.2.1)).map W.str,?_,?_⟩
 ·rw[CP];rfl
 rw[UJ];refine UG l none none [] hl (by simp only[Yi];lia) λp h=>?_;rw[Yw,show(λx:W×Str×Bool=>W.bl x.2.2)=W.bl∘(λx=>x.2.2)from rfl,<- YB];simp only[BD,Cq Aj,Option.bind_some,DF,YD,An];rw[List.all_map];exact g _ _ _ (AD h) q
theorem CJ:∀ r:As,r.prs.map (·.1)=r.enc/\r.prs.map (·.2)=r.sorts
 | .nil=>⟨rfl,rfl⟩
 | .num _ r=>⟨congrArg (_::·) (CJ r).1,congrArg (_::·) (CJ r).2⟩
 | .tru _ r=>⟨congrArg (_::·) (CJ r).1,congrArg (_::·) (CJ r).2⟩
 | .nam _ r=>⟨congrArg (_::·) (CJ r).1,congrArg (_::·) (CJ r).2⟩
 | .knd _ r=>⟨congrArg (_::·) (CJ r).1,congrArg (_::·) (CJ r).2⟩
 | .trm _ r=>⟨congrArg (_::·) (CJ r).1,congrArg (_::·) (CJ r).2⟩
 | .fld _ r=>⟨congrArg (_::·) (CJ r).1,congrArg (_::·) (CJ r).2⟩
theorem li{w:Str}(a:(Te.nd w r).ok=true)(hc:(Te.nd w r).cnt<=1000):FF w r.enc true/\r.enc.length<=10:=by
 obtain⟨h1,h2⟩:=CS a;have hs:=Fh h1;have c:1+r.cnt<=1000:=hc;obtain⟨p1,p2⟩:=CJ r;refine⟨⟨r.sorts,h1,.inr ⟨r.prs.map λx=>(x.1,x.2,true),?_,?_,?_,?_⟩⟩,by rw[El];lia⟩
 ·rw[YB];exact p1.symm
 ·rw[YB];exact p2.symm
 ·intro x b;obtain⟨y,d,rfl⟩:=YC.mp b;exact Fi h2 (by lia) y d
 ·simp
def TFm(x:W)(b:Bool):Prop:=∃ w xs,x=.tup (.str w::xs)/\FF w xs b/\xs.length<=10
theorem lj{t:Te}(a:t.ok=true)(hc:t.cnt<=1000):TFm t.enc true:=by
 cases t with
 | nd w r =>
  obtain⟨h1,h2⟩:=li a hc;exact⟨w,r.enc,rfl,h1,h2⟩
def tg(t:Te):Prop:=t.ok=true/\t.cnt<=40/\t.dp<=10
theorem Jg(h:Q (.tup (xs.drop 1)) G):slA (.tup xs) (some 1) none G Q:=by
 show Q (.tup (BH xs (some 1) none)) G;rw[CP];exact h
abbrev n1:W:=.tup [.str "num",.int 1]
abbrev isB(y:W):Prop:=TFm y false
def WR(x:W)(ps:List W):Prop:=∃ y,isB y/\((x=.tup [.str "new",y]/\ps=[y])\/(x=.tup [.str "rec",.tup [.tup [.str "a",y]]]/\ps=[y])\/(x=.tup [.str "call",n1,y]/\ps=[n1,y]))
def Jh(x:W):Prop:=isB x\/∃ ps,WR x ps
theorem ll:TFm n1 true:=⟨"num",[.int 1],rfl,⟨["number"],by decide +kernel,.inr ⟨[(.int 1,"number",true)],rfl,rfl,(λx a=>by rw[YA.mp a];exact .num 1 (by decide)),rfl⟩⟩,by decide⟩
theorem lm(h:WR x ps):TFm x true:=by
 obtain⟨y,_,h⟩:=h;rcases h with⟨rfl,_⟩|⟨rfl,_⟩|⟨rfl,_⟩
 ·exact⟨"new",[y],rfl,⟨["term"],by decide +kernel,.inr ⟨[(y,"term",true)],rfl,rfl,(λx a=>by rw[YA.mp a];exact .trm _),rfl⟩⟩,(show 1<=10 by decide)⟩
 ·refine⟨"rec",[.tup [.tup [.str "a",y]]],rfl,⟨["fields"],by decide +kernel,.inr ⟨[(.tup (F7 [("a",y)]),"fields",true)],rfl,rfl,(λx a=>?_),rfl⟩⟩,(show 1<=10 by decide)⟩;rw[YA.mp a];exact .fld [("a",y)] (λz b=>by rw[YA.mp b];exact(show AA "a"=true by decide +kernel)) (show 1<=1000 by decide)
 ·refine⟨"call",[n1,y],rfl,⟨["term","term"],by decide +kernel,.inr ⟨[(n1,"term",true),(y,"term",true)],rfl,rfl,(λx a=>?_),rfl⟩⟩,(show 2<=10 by decide)⟩;simp only[Yo,Qc,or_false]at a;rcases a with rfl | rfl <;> exact .trm _
abbrev UK:Spw:=spL (λ(x:W×List W)ws _=>ws=[x.1]/\WR x.1 x.2) λx=>x.2
theorem lp(a:List W)(G:Hw)(Q:Kw)(E:Addr->Hw->Prop)(_:Kw.C Q)(q:UK a G Q E):Hf Nh (Au Q) (Bo IK a) G:=by
 obtain⟨⟨x,ps⟩,⟨rfl,y,_,h⟩,q⟩:=q;unfold Hf;rcases h with⟨rfl,rfl⟩|⟨rfl,rfl⟩|⟨rfl,rfl⟩
 ·show Af (gIf _ _ Ak) _ (Au Q) [some (.tup [.str "new",y])] G;simp only[Af,gIf,gTB,Ad,Ae,Ab,gC,Yb,ixW,Bg,An,Bd,show(("new":Str)=="rec")=false by decide +kernel,show(false != false)=false from rfl,Yq,if_false,Ak,Ai,AI,B3,Ag,Bn,AV,AU,Aa,Ac,Au,List.replicate];refine⟨"new",rfl,Jg ⟨[.str "term"],[y],rfl,?_⟩⟩;refine Eo (s:="term") (by decide) ?_;rw[if_pos (by decide +kernel)];exact⟨trivial,q⟩
 ·show Af (gIf _ _ Ak) _ (Au Q) [some (.tup [.str "rec",.tup [.tup [.str "a",y]]])] G;simp only[Af,gIf,gTB,Ad,Ae,Ab,gC,Yb,ixW,Bg,Bb,An,Bd,show(("rec":Str)=="rec")=true by decide +kernel,show(true != false)=true from rfl,if_true,Ai,AI,Ax,Au,List.replicate];refine⟨trivial,by decide,?_⟩;simp only[gNm,Ay,if_true,Yk,Ad,Ae,Ab,gC,Yb,ixW,Bb,An];exact⟨trivial,q⟩
 ·show Af (gIf _ _ Ak) _ (Au Q) [some (.tup [.str "call",n1,y])] G;simp only[Af,gIf,gTB,Ad,Ae,Ab,gC,Yb,ixW,Bg,An,Bd,show(("call":Str)=="rec")=false by decide +kernel,show(false != false)=false from rfl,Yq,if_false,Ak,Ai,AI,B3,Ag,Bn,AV,AU,Aa,Ac,Au,List.replicate];refine⟨"call",rfl,Jg ⟨[.str "term",.str "term"],[n1,y],rfl,?_⟩⟩;refine Eo (s:="term") (by decide) ?_;rw[if_pos (by decide +kernel)];refine Eo (s:="term") (show 1 < 1000 by decide) ?_;rw[if_pos (by decide +kernel)];exact⟨trivial,q⟩
theorem UL(T:Tx K mg base a):Df P w K mg base "parts_of" 2 1 (orS Jf UK):=mk2 T.Sg rfl M5 BX BX (λb G Q E⟨x,⟨e,_⟩,_⟩=>by rw[e];rfl) (λb G Q E⟨x,⟨e,_⟩,_⟩=>by rw[e];rfl) (M6 T (Bz T) (Yr _)) (M6 T (Bz T) (Yr _)) Uz lp
def TPs(x:W)(ps:List W):Prop:=(∃ t:Te,x=t.enc/\t.ok=true/\t.cnt<=1000/\ps=t.parts.map Te.enc)\/WR x ps
def TB(x:W)(b:Bool):Prop:=(∃ t:Te,x=t.enc/\tg t/\b=true)\/(Jh x/\b=false)
theorem Np(h:isB y)(hc:c<=1)(hd:d<=1):Md TFm TPs 40 10 0 c d [y] false:=.bad (bs:=[false]) (by decide) (by show c+1<=40;lia) (by lia) (.cons h .nil) rfl
theorem lq(h:TB x b):∃ m,Md TFm TPs 40 10 m 0 0 [x] b:=by
 rcases h with⟨t,rfl,⟨c,hc,hd⟩,rfl⟩|⟨h |⟨ps,h⟩,rfl⟩
 ·have z:=M4 (F:=TFm) (L:=TPs) (mo:=40) (de:=10) (ok:=λt:Te=>t.ok=true/\t.cnt<=1000) Uw Ux rfl rfl (λt h=>⟨lj h.1 h.2,.inl ⟨t,rfl,h.1,h.2,rfl⟩,λy a=>⟨En h.1 y a,by have:=h.2;have:=Da t;have:=Jc a;lia⟩⟩) t.dp [t] 0 0 (by show max t.dp 0<=_;lia) (λx d=>by rw[YA.mp d];exact⟨c,by lia⟩) (by show t.cnt+0<=_;lia) (by decide) (by decide);rw[YH (show 0+AK [t]<=40/\0+tdp [t]<=10 by show 0+(t.cnt+0)<=40/\0+max t.dp 0<=10;lia)]at z;exact z
 ·exact⟨0,Np h (by decide) (by decide)⟩
 ·have hw:=h;obtain⟨y,a,h⟩:=h;refine⟨1,.step (bs:=[true]) (pss:=[ps]) (by decide) (by decide) (by decide) (.cons (lm hw) .nil) rfl (.cons (.inr hw) .nil) ?_ ?_⟩
  ·rcases h with⟨_,rfl⟩|⟨_,rfl⟩|⟨_,rfl⟩
   ·exact(show 1<=20000 by decide)
   ·exact(show 1<=20000 by decide)
   ·exact(show 2<=20000 by decide)
  ·rcases h with⟨_,rfl⟩|⟨_,rfl⟩|⟨_,rfl⟩
   ·exact Np a (by decide) (by decide)
   ·exact Np a (by decide) (by decide)
   ·exact .bad (bs:=[true,false]) (show 1 < 1000 by decide) (show 1+2<=40 by decide) (by decide) (.cons ll (.cons a .nil)) rfl
abbrev lr:Spw:=spR (λ(x:W×Bool)ws _=>ws=[x.1]/\TB x.1 x.2) λx=>.bl x.2
theorem IZ(T:Tx K mg base a):Df P w K mg base "is_term" 11 1 lr:=by
 refine mk0 (k:=10) T.iY rfl Us Ce ((by rintro c G Q E ⟨x,⟨e,_⟩,_⟩;rw[e];rfl)) (kQ T (Hg T) (by lia) (UL T) (by lia) (Eh T (F:=TFm) (L:=TPs) (mo:=40) (de:=10) (Hg T) (UL T) (by lia) (λx b G Q E⟨w,xs,e,h,hl⟩q=>⟨w,xs,b,by rw[e],h,hl,q⟩) (λx ps G Q E h q=>h.elim (λ⟨t,e,f,hc,d⟩=>.inl ⟨t,⟨by rw[e],f,by lia⟩,by rw[d]at q;exact q⟩) λh=>.inr ⟨(x,ps),⟨rfl,h⟩,q⟩)) (by lia)) λc G Q E g q=>?_;obtain⟨⟨x,b⟩,⟨rfl,h⟩,q⟩:=q;exact Exists.intro (x,b) ⟨⟨rfl,lq h⟩,q⟩
abbrev UM:List Str:=["term"]
theorem UN:AB UM ["term"] (Ap MB):=by walk_at "s"
def UO(Bu:Spw):GS:=(Ai (AI (B3 (Aa (Ag Bu XF (Aa (Ad (Ae ixW) (Ab 0) (gC (.int 0))) Ac)) (Aa (Bn (Ab 0) (AV (gC (.int 1))) AU) Ac))) 2 (AM 0 1) (gTB (Ad (Ae (eqF false)) (Ab 0) (gC (.str "kind")))) (Ab 1)))
theorem lu(T:Tx K mg base a){Bz:Nat}(IL:Df P w K mg base "form_of" Bz 1 Bu)(IM:Bz<=k):Dn P w K mg base UM "told_by" MB k (UO Bu):=λ{f cdv A outer s H E}hr=>
 have hu:=AQ hr
 have hN:=UN.nd
 (AG (Ba (BK (Nc:=["sort","thing"]) rfl (BG rfl (by decide +kernel) (by decide +kernel)) (λ_=>rfl) (FZ T.Do rfl rfl rfl (by walk_at "v")) (EU (i:=0) (j:=1) rfl (by decide) rfl rfl rfl rfl) (λC fp s1 H1=>(by walk_at "v")) (λC fp s1 H1=>(by walk_at "v")))))
abbrev UP:List Str:=["term","found","part"]
theorem UQ:AB UP ["term"] (Ap MC):=by walk_at "s"
def UR(DL:Spw)(BY:Spw)(Cg:Spw):GS:=(Af (Ao 1 (Ag DL XF (Aa (Ab 0) Ac))) (Af (AT (Ax (Ag BY XF (Aa (Ab 0) Ac))) (gNm 2) (AC (gMt AX BN (Ab 1) (Aa (Ag Cg XF (Aa (Ab 2) Ac)) Ac)))) (Ai (Ab 1))))
theorem lv(T:Tx K mg base a)(lw:Df P w K mg base "told_by" Ep 1 DL)(lx:Ep<=k){Cf:Nat}(IX:Df P w K mg base "parts_of" Cf 1 BY)(M9:Cf<=k)(Hj:Df P w K mg base "all_told" CT 1 Cg)(Hk:CT<=k):Dn P w K mg base UP "all_told" MC k (UR DL BY Cg):=by
 have hN:=UQ.nd;walk_at "z"
abbrev US:List Str:=["things","number","thing"]
theorem UT:AB US ["things","number","thing"] (Ap MD):=by walk_at "s"
def UU:GS:=(Ai (Ad (A2) (Ad (A2) (Bn (Ab 0) AU (AV (Ab 1))) (Aq (Aa (Ab 2) Ac))) (Bn (Ab 0) (AV (Ad (A2) (Ab 1) (gC (.int 1)))) AU)))
theorem ly(T:Tx K mg base a):Dn P w K mg base US "with_one" MD k (UU):=by
 have hN:=UT.nd;walk_at "z"
abbrev UV:List Str:=["kind","inner","fields"]
theorem Nq:AB UV ["kind","inner"] (Ap Io):=by walk_at "s"
def UW:GS:=(Af (gIf (gTB (Ad (Ae (eqF true)) (Ad (Ae ixW) (Ab 0) (gC (.int 0))) (gC (.str "row")))) (Ai (Ad (A2) (Ah (Aa (Ad (Ae ixW) (Ab 0) (gC (.int 0))) Ac)) (gB (rF BI) (Aa (Ab 1) Ac)))) Ak) (Af (Ao 2 (AO (Fa (Aa (Ad (Ae ixW) (Ab 0) (gC (.int 1))) (Aa (Ab 1) Ac))) 2 [] (AM 0 1) Ay (Ah (Aa (Ad (Ae ixW) (Ab 0) (gC (.int 0))) (Aa (Ad (Ae ixW) (Ab 0) (gC (.int 1))) (Aa (Ab 1) Ac)))))) (Ai (Ah (Aa (gC (.str "row")) (Aa (gB (rF BI) (Aa (Ab 2) Ac)) (Aa (Ad (Ae ixW) (Ab 0) (gC (.int 2))) Ac)))))))
theorem lz(T:Tx K mg base a):Dn P w K mg base UV "with_kinds_within" Io k (UW):=λ{f cdv A outer s H E}hr=>
 have hu:=AQ hr
 have hN:=Nq.nd
 (Az (by walk_at "v") (Az (HS (i:=2) Nq.nd rfl rfl rfl rfl (Cp (own:=["field","part"]) (fr:=[]) (js:=[]) (scX:=Ap Io) (n:=s.heap.objs.size+1) rfl (by decide +kernel) (by decide +kernel) (by decide +kernel) (by decide +kernel) rfl rfl rfl (by decide +kernel) rfl) (λ_=>rfl) (RU T.Do rfl rfl rfl (by walk_at "v")) (QW (i:=0) (j:=1) rfl (by decide) rfl rfl rfl rfl) (λC fp s1 H1=>A6) (λC fp s1 H1=>(by walk_at "v"))) (by walk_at "v")))
abbrev UX:List Str:=["kind","found","inner","number","part"]
theorem UY:AB UX ["kind"] (Ap Iq):=by walk_at "s"
def UZ(CH:Spw)(DM:Spw)(DN:Spw)(Ji:Spw):GS:=(Af (Ao 1 (BC (gTB (Ad (Ae (eqF false)) (Ad (Ae ixW) (Ab 0) (gC (.int 0))) (gC (.str "any")))) (Aq Ac) (Aq (Aa (Ah (Aa (gC (.str "any")) Ac)) Ac)))) (Af (gIf (A8 (gTB (Ad (Ae (eqF false)) (Ad (Ae ixW) (Ab 0) (gC (.int 0))) (gC (.str "row")))) (gNt (A4 (Ad (Ae ixW) (Ab 0) (gC (.int 2)))))) (AC (gMt AX BJ (Ab 1) (Aa (Ah (Aa (gC (.str "row")) (Aa (Ad (Ae ixW) (Ab 0) (gC (.int 1))) (Aa (gC (.bl true)) Ac)))) Ac))) Ak) (Af (Ao 2 (Ag CH XF (Aa (Ab 0) Ac))) (Af (AT (F1 (Aa (Ab 2) Ac)) (AM 3 4) (AC (gMt AX BN (Ab 1) (Aa (AO (Ax (Ag DM XF (Aa (Ab 4) Ac))) 1 [0,2,3] (gNm 0) Ay (Ag Ji XF (Aa (Ab 1) (Aa (Ag DN XF (Aa (Ab 2) (Aa (Ab 3) (Aa (Ab 0) Ac)))) Ac)))) Ac)))) (Ai (Ab 1))))))
theorem lA(T:Tx K mg base a){CI:Nat}(MV:Df P w K mg base "kinds_within" CI 1 CH)(TX:CI<=k)(lB:Df P w K mg base "less_kinds" Er 1 DM)(lC:Er<=k)(lD:Df P w K mg base "with_one" Es 3 DN)(lE:Es<=k)(ou:Df P w K mg base "with_kinds_within" Jj 2 Ji)(ow:Jj<=k):Dn P w K mg base UX "less_kinds" Iq k (UZ CH DM DN Ji):=λ{f cdv A outer s H E}hr=>
 have hu:=AQ hr
 have hN:=UY.nd
 (Az (by walk_at "v") (Az (by walk_at "v") (Az (by walk_at "v") (Az (EV PassesOwn.never rfl (λ_=>rfl) (RM T.Ss rfl rfl (by walk_at "v")) (by walk_at "v") (AG (BZ rfl (D9 FQ rfl rfl rfl rfl rfl (by walk_at "v") (AH rfl (Dl rfl (Cp (own:=["less"]) (fr:=["kind","inner","number"]) (js:=[0,2,3]) (scX:=Ap Iq) (n:=s.heap.objs.size+1) rfl (by decide +kernel) (by decide +kernel) (by decide +kernel) (by decide +kernel) rfl rfl rfl (by decide +kernel) rfl) (λ_=>rfl) (by walk_at "v") (CO (i:=0) (by decide) rfl rfl) (λC fp s1 H1=>A6) (λC fp s1 H1=>(by walk_at "v"))) A5))))) (by walk_at "v")))))
abbrev U0:List Str:=["term","kind","sorts"]
theorem U1:AB U0 ["term","kind"] (Ap Ir):=by walk_at "s"
def U2(Bu:Spw):GS:=(Af (Ao 2 (Ag Bu XF (Aa (Ad (Ae ixW) (Ab 0) (gC (.int 0))) Ac))) (Ai (Ad (A2) (Ah (Aa (Ad (Ae ixW) (Ab 0) (gC (.int 0))) Ac)) (gB (rF BI) (Aa (AO (B3 (Aa (Ab 2) (Aa (Bn (Ab 0) (AV (gC (.int 1))) AU) Ac))) 2 [1] (AM 0 1) Ay (BC (gTB (Ad (Ae (eqF false)) (Ab 0) (gC (.str "kind")))) (Ab 2) (Ab 1))) Ac)))))
theorem lF(T:Tx K mg base a){Bz:Nat}(IL:Df P w K mg base "form_of" Bz 1 Bu)(IM:Bz<=k):Dn P w K mg base U0 "with_kind" Ir k (U2 Bu):=λ{f cdv A outer s H E}hr=>
 have hu:=AQ hr
 have hN:=U1.nd
 (Az (by walk_at "v") (AG (Ba (E6 (by walk_at "v") (DA FU (Gu) rfl T.F5 (by decide) rfl rfl rfl (AH rfl (Dl rfl (Cp (own:=["sort","thing"]) (fr:=["kind"]) (js:=[1]) (scX:=Ap Ir) (n:=s.heap.objs.size+1) rfl (by decide +kernel) (by decide +kernel) (by decide +kernel) (by decide +kernel) rfl rfl rfl (by decide +kernel) rfl) (λ_=>rfl) (FZ T.Do rfl rfl rfl (by walk_at "v")) (QW (i:=0) (j:=1) rfl (by decide) rfl rfl rfl rfl) (λC fp s1 H1=>A6) (λC fp s1 H1=>(by walk_at "v"))) A5))))))
abbrev U3:List Str:=["term","parts","things","number","sort","thing"]
theorem U4:AB U3 ["term","parts"] (Ap ME):=by walk_at "s"
def U5(Bu:Spw):GS:=(Af (gIf (gTB (Ad (Ae (eqF false)) (Ad (Ae ixW) (Ab 0) (gC (.int 0))) (gC (.str "rec")))) (Ai (Ah (Aa (gC (.str "rec")) (Aa (gB (rF BI) (Aa (AI (Fa (Aa (Ad (Ae ixW) (Ab 0) (gC (.int 1))) (Aa (Ab 1) Ac))) 2 (AM 0 1) Ay (Ah (Aa (Ad (Ae ixW) (Ab 0) (gC (.int 0))) (Aa (Ab 1) Ac)))) Ac)) Ac)))) Ak) (Af (Ao 2 (Aq (Aa (Ad (Ae ixW) (Ab 0) (gC (.int 0))) Ac))) (Af (Ao 3 (gC (.int 0))) (Af (AT (B3 (Aa (Ag Bu XF (Aa (Ad (Ae ixW) (Ab 0) (gC (.int 0))) Ac)) (Aa (Bn (Ab 0) (AV (gC (.int 1))) AU) Ac))) (AM 4 5) (Af (AC (gMt AX BJ (Ab 2) (Aa (BC (gTB (Ad (Ae (eqF false)) (Ab 4) (gC (.str "term")))) (Ad (Ae ixW) (Ab 1) (Ab 3)) (Ab 5)) Ac))) (Cm 3 Cc (BC (gTB (Ad (Ae (eqF false)) (Ab 4) (gC (.str "term")))) (gC (.int 1)) (gC (.int 0)))))) (Ai (gB (rF BI) (Aa (Ab 2) Ac)))))))
theorem lG(T:Tx K mg base a){Bz:Nat}(IL:Df P w K mg base "form_of" Bz 1 Bu)(IM:Bz<=k):Dn P w K mg base U3 "with_parts" ME k (U5 Bu):=λ{f cdv A outer s H E}hr=>
 have hu:=AQ hr
 have hN:=U4.nd
 (Az (Cb (by walk_at "v") (AG (Ba (Le (AH rfl Ld (AH rfl (DA FU (Gu) rfl T.F5 (by decide) rfl rfl rfl (AH rfl (BK (Nc:=["field","part"]) rfl (BG rfl (by decide +kernel) (by decide +kernel)) (λ_=>rfl) (RU T.Do rfl rfl rfl (by walk_at "v")) (EU (i:=0) (j:=1) rfl (by decide) rfl rfl rfl rfl) (λC fp s1 H1=>A6) (λC fp s1 H1=>(by walk_at "v"))) A5)) A5))))) C5) (Az (by walk_at "v") (Az (by walk_at "v") (Az (EV PassesOwn.never rfl (λ_=>rfl) (FZ T.Do rfl rfl rfl (by walk_at "v")) (by walk_at "v") (by walk_at "v")) (by walk_at "v")))))
abbrev U6:List Str:=["term","found","kind","parts","number","part"]
theorem U7:AB U6 ["term"] (Ap GR):=by walk_at "s"
def U8(DL:Spw)(DM:Spw)(DO:Spw)(BY:Spw)(DP:Spw)(DN:Spw)(DQ:Spw):GS:=(Af (Ao 1 (Aq Ac)) (Af (AT (Ax (Ag DL XF (Aa (Ab 0) Ac))) (gNm 2) (AC (gMt AX BN (Ab 1) (Aa (AO (Ax (Ag DM XF (Aa (Ab 2) Ac))) 1 [0] (gNm 0) Ay (Ag DO XF (Aa (Ab 1) (Aa (Ab 0) Ac)))) Ac)))) (Af (Ao 3 (Ag BY XF (Aa (Ab 0) Ac))) (Af (AT (F1 (Aa (Ab 3) Ac)) (AM 4 5) (AC (gMt AX BN (Ab 1) (Aa (AO (Ax (Ag DP XF (Aa (Ab 5) Ac))) 1 [0,3,4] (gNm 0) Ay (Ag DQ XF (Aa (Ab 1) (Aa (Ag DN XF (Aa (Ab 2) (Aa (Ab 3) (Aa (Ab 0) Ac)))) Ac)))) Ac)))) (Ai (Ab 1))))))
theorem lH(T:Tx K mg base a)(lw:Df P w K mg base "told_by" Ep 1 DL)(lx:Ep<=k)(lB:Df P w K mg base "less_kinds" Er 1 DM)(lC:Er<=k)(lI:Df P w K mg base "with_kind" Et 2 DO)(lJ:Et<=k){Cf:Nat}(IX:Df P w K mg base "parts_of" Cf 1 BY)(M9:Cf<=k)(U9:Df P w K mg base "less_terms" Eu 1 DP)(Va:Eu<=k)(lD:Df P w K mg base "with_one" Es 3 DN)(lE:Es<=k)(Vb:Df P w K mg base "with_parts" Ex 2 DQ)(Vc:Ex<=k):Dn P w K mg base U6 "less_terms" GR k (U8 DL DM DO BY DP DN DQ):=λ{f cdv A outer s H E}hr=>
 have hu:=AQ hr
 have hN:=U7.nd
 (Az (by walk_at "v") (Az (EV PassesOwn.never rfl (λ_=>rfl) (by walk_at "v") (by walk_at "v") (AG (BZ rfl (D9 FQ rfl rfl rfl rfl rfl (by walk_at "v") (AH rfl (Dl rfl (Cp (own:=["less"]) (fr:=["term"]) (js:=[0]) (scX:=Ap GR) (n:=s.heap.objs.size+1) rfl (by decide +kernel) (by decide +kernel) (by decide +kernel) (by decide +kernel) rfl rfl rfl (by decide +kernel) rfl) (λ_=>rfl) (by walk_at "v") (CO (i:=0) (by decide) rfl rfl) (λC fp s1 H1=>A6) (λC fp s1 H1=>(by walk_at "v"))) A5))))) (Az (by walk_at "v") (Az (EV PassesOwn.never rfl (λ_=>rfl) (RM T.Ss rfl rfl (by walk_at "v")) (by walk_at "v") (AG (BZ rfl (D9 FQ rfl rfl rfl rfl rfl (by walk_at "v") (AH rfl (Dl rfl (Cp (own:=["less"]) (fr:=["term","parts","number"]) (js:=[0,3,4]) (scX:=Ap GR) (n:=s.heap.objs.size+1) rfl (by decide +kernel) (by decide +kernel) (by decide +kernel) (by decide +kernel) rfl rfl rfl (by decide +kernel) rfl) (λ_=>rfl) (by walk_at "v") (CO (i:=0) (by decide) rfl rfl) (λC fp s1 H1=>A6) (λC fp s1 H1=>(by walk_at "v"))) A5))))) (by walk_at "v")))))
abbrev Vd:List Str:=["term"]
theorem Ve:AB Vd ["term"] (Ap GU):=by walk_at "s"
def Nr(BL:Spw)(DP:Spw)(E:Addr->Hw->Prop):GS:=(Af (AC (Ag BL (λ_=>E) (Aa (Ab 0) Ac))) (Ai (Ag DP (λ_=>E) (Aa (Ab 0) Ac))))
theorem lK(T:Tx K mg base a)(Ey:Df P w K mg base "check_term" B6 1 BL)(Ez:B6<=k)(U9:Df P w K mg base "less_terms" Eu 1 DP)(Va:Eu<=k)(hr:Room k (A.deeper (envOfC "forgettings" (Ap GU) s.heap.objs.size f cdv))):Ssm (cxW P w K mg base Vd "forgettings" (Ap GU) f cdv A outer s H E) (λB=>B=H) (Bv GU) (Nr BL DP (dnX K H E)):=
 have hu:=AQ hr
 have hN:=Ve.nd
 (Az (BZ rfl (Bp Ey (hr.mono Ez) rfl BV rfl rfl rfl (by walk_at "v"))) (AG (Ba (Bp U9 (hr.mono Va) rfl BV rfl rfl rfl (by walk_at "v")))))
abbrev Vf:List Str:=["term"]
theorem Vg:AB Vf ["term"] (Ap GV):=by walk_at "s"
def Nt(BL:Spw)(Cg:Spw)(DJ:Spw)(E:Addr->Hw->Prop):GS:=(Af (AC (Ag BL (λ_=>E) (Aa (Ab 0) Ac))) (Ai (gB (Dy) (Aa (AI (Ax (Ag Cg (λ_=>E) (Aa (Ab 0) Ac))) 1 (gNm 0) Ay (gB (rF Bf) (Aa (Ag DJ XF (Aa (Ab 0) Ac)) Ac))) Ac))))
theorem lL(T:Tx K mg base a)(Ey:Df P w K mg base "check_term" B6 1 BL)(Ez:B6<=k)(Hj:Df P w K mg base "all_told" CT 1 Cg)(Hk:CT<=k)(ku:Df P w K mg base "kinds_in" Ei 1 DJ)(kx:Ei<=k)(hr:Room k (A.deeper (envOfC "kinds_told" (Ap GV) s.heap.objs.size f cdv))):Ssm (cxW P w K mg base Vf "kinds_told" (Ap GV) f cdv A outer s H E) (λB=>B=H) (Bv GV) (Nt BL Cg DJ (dnX K H E)):=
 have hu:=AQ hr
 have hN:=Vg.nd
 (Az (BZ rfl (Bp Ey (hr.mono Ez) rfl BV rfl rfl rfl (by walk_at "v"))) (AG (Ba (BW Lx (Lp rfl) rfl T.MQ (by decide) rfl rfl rfl (AH rfl (BK (Nc:=["kind"]) rfl (BG rfl (by decide +kernel) (by decide +kernel)) (λ_=>rfl) (PX (λ_ _=>rfl) (Bp Hj (hr.mono Hk) rfl BV rfl rfl rfl (by walk_at "v"))) (CB (i:=0) (by decide) rfl rfl) (λC fp s1 H1=>A6) (λC fp s1 H1=>(by walk_at "v"))) A5)))))
abbrev Vh:List Str:=["term","bare"]
theorem Nu:AB Vh ["term"] (Ap MF):=by walk_at "s"
def Vi(BY:Spw)(Ci:Spw)(DQ:Spw)(DO:Spw):GS:=(Af (Ao 1 (Ag DQ XF (Aa (Ab 0) (Aa (AI (Ax (Ag BY XF (Aa (Ab 0) Ac))) 1 (gNm 0) Ay (Ag Ci XF (Aa (Ab 0) Ac))) Ac)))) (Ai (Ag DO XF (Aa (Ab 1) (Aa (Ah (Aa (gC (.str "any")) Ac)) Ac)))))
theorem lM(T:Tx K mg base a){Cf:Nat}(IX:Df P w K mg base "parts_of" Cf 1 BY)(M9:Cf<=k)(Hl:Df P w K mg base "without_kinds" CU 1 Ci)(Hm:CU<=k)(Vb:Df P w K mg base "with_parts" Ex 2 DQ)(Vc:Ex<=k)(lI:Df P w K mg base "with_kind" Et 2 DO)(lJ:Et<=k):Dn P w K mg base Vh "without_kinds" MF k (Vi BY Ci DQ DO):=λ{f cdv A outer s H E}hr=>
 have hu:=AQ hr
 have hN:=Nu.nd
 (Az (FV (i:=1) Nu.nd rfl rfl rfl (Bp Vb (hr.mono Vc) rfl Ec rfl rfl rfl (AH rfl (by walk_at "v") (AH rfl (BK (Nc:=["part"]) rfl (BG rfl (by decide +kernel) (by decide +kernel)) (λ_=>rfl) (by walk_at "v") (CB (i:=0) (by decide) rfl rfl) (λC fp s1 H1=>A6) (λC fp s1 H1=>(by walk_at "v"))) A5)))) (by walk_at "v"))
abbrev Vj:List Str:=["term"]
theorem Vk:AB Vj ["term"] (Ap GW):=by walk_at "s"
def Nv(BL:Spw)(Ci:Spw)(E:Addr->Hw->Prop):GS:=(Af (AC (Ag BL (λ_=>E) (Aa (Ab 0) Ac))) (Ai (Ag Ci (λ_=>E) (Aa (Ab 0) Ac))))
theorem lN(T:Tx K mg base a)(Ey:Df P w K mg base "check_term" B6 1 BL)(Ez:B6<=k)(Hl:Df P w K mg base "without_kinds" CU 1 Ci)(Hm:CU<=k)(hr:Room k (A.deeper (envOfC "forgotten" (Ap GW) s.heap.objs.size f cdv))):Ssm (cxW P w K mg base Vj "forgotten" (Ap GW) f cdv A outer s H E) (λB=>B=H) (Bv GW) (Nv BL Ci (dnX K H E)):=
 have hu:=AQ hr
 have hN:=Vk.nd
 (Az (BZ rfl (Bp Ey (hr.mono Ez) rfl BV rfl rfl rfl (by walk_at "v"))) (AG (Ba (Bp Hl (hr.mono Hm) rfl BV rfl rfl rfl (by walk_at "v")))))
abbrev Vl:List Str:=["one","other"]
theorem Vm:AB Vl ["one","other"] (Ap GX):=by walk_at "s"
def Nw(BL:Spw)(Ci:Spw)(Cg:Spw)(Ct:Spw)(E:Addr->Hw->Prop):GS:=(Af (AC (Ag BL (λ_=>E) (Aa (Ab 0) Ac))) (Af (AC (Ag BL (λ_=>E) (Aa (Ab 1) Ac))) (Af (gIf (gTB (Ad (Ae (eqF true)) (Ag Ci (λ_=>E) (Aa (Ab 0) Ac)) (Ag Ci (λ_=>E) (Aa (Ab 1) Ac)))) (Ai (gC (.bl false))) Ak) (Ai (gB (rF BD) (Aa (AI (C7 (Aa (Ag Cg (λ_=>E) (Aa (Ab 0) Ac)) (Aa (Ag Cg (λ_=>E) (Aa (Ab 1) Ac)) Ac))) 2 (AM 0 1) Ay (Ag Ct XF (Aa (Ab 0) (Aa (Ab 1) Ac)))) Ac))))))
theorem lO(T:Tx K mg base a)(Ey:Df P w K mg base "check_term" B6 1 BL)(Ez:B6<=k)(Hl:Df P w K mg base "without_kinds" CU 1 Ci)(Hm:CU<=k)(Hj:Df P w K mg base "all_told" CT 1 Cg)(Hk:CT<=k)(Vn:Df P w K mg base "is_less" Dc 2 Ct)(Vo:Dc<=k)(hr:Room k (A.deeper (envOfC "less_term" (Ap GX) s.heap.objs.size f cdv))):Ssm (cxW P w K mg base Vl "less_term" (Ap GX) f cdv A outer s H E) (λB=>B=H) (Bv GX) (Nw BL Ci Cg Ct (dnX K H E)):=
 have hu:=AQ hr
 have hN:=Vm.nd
 (Az (BZ rfl (Bp Ey (hr.mono Ez) rfl BV rfl rfl rfl (by walk_at "v"))) (Az (BZ rfl (Bp Ey (hr.mono Ez) rfl BV rfl rfl rfl (by walk_at "v"))) (Az (Cb (Qx (Qw hu) rfl (Bp Hl (hr.mono Hm) rfl BV rfl rfl rfl (by walk_at "v")) (Bp Hl (hr.mono Hm) rfl BV rfl rfl rfl (by walk_at "v"))) (by walk_at "v") C5) (AG (Ba (BW Dk (Dj rfl) rfl T.Dm (by decide) rfl rfl rfl (AH rfl (BK (Nc:=["left","right"]) rfl (BG rfl (by decide +kernel) (by decide +kernel)) (λ_=>rfl) (Ru T.Do rfl rfl rfl (AH rfl (Bp Hj (hr.mono Hk) rfl BV rfl rfl rfl (by walk_at "v")) (AH rfl (Bp Hj (hr.mono Hk) rfl BV rfl rfl rfl (by walk_at "v")) A5))) (EU (i:=0) (j:=1) rfl (by decide) rfl rfl rfl rfl) (λC fp s1 H1=>A6) (λC fp s1 H1=>(by walk_at "v"))) A5)))))))
theorem Dq{st:Stmt}(Fx:Fn K mg st x ps)(m:sp.M)(no:∀ a G Q E,¬ sp a G Q E):Df P w K mg base x k ps.length sp:=by
 obtain⟨f,fd,h1,F,c⟩:=Fx;exact⟨⟨f,fd,_,h1,F.kp,c,rfl,⟨(by rintro vs H Q E ⟨a,G,t,r,q⟩;exact absurd q (no _ _ _ _)),(by rintro A outer s H b d vs Q E _ _ _ _ ⟨a,G,t,r,q⟩;exact absurd q (no _ _ _ _))⟩⟩,m⟩
abbrev gWd(t:Str):GT:=gTB (Ad (Ae (eqF false)) (Ab 0) (gC (.str t)))
theorem Nx:∀(l:List (W×Str))(o o':Option W)(ys:List W),ys.length+l.length<=1000->R (ys++(l.filter λx=>x.2==t).map (·.1)) G->
  AN yes (AM 0 1) (gWd t) (Ab 1) R (l.map λx=>.tup [.str x.2,x.1]) [o,o'] G ys
 | [],o,o',ys,_,h=>⟨trivial,by rw[List.filter_nil,YI,Yx]at h;exact h⟩
 | x::l,o,o',ys,hl,h=>by
  walk_at "pv";refine⟨trivial,Bq (by lia),?_⟩;show gWd t [some (.str x.2),some x.1] G _;simp only[gWd,gTB,Ad,Ae,Ab,gC,Yb,Bd,An];rw[List.filter_cons]at h;cases e:(x.2==t)with
  | true =>
   rw[e,if_pos rfl]at h;rw[show(true != false)=true from rfl,if_pos rfl];refine Nx l _ _ (ys++[x.1]) (by rw[Yj];simp only[Yg,Yi];lia) ?_;rw[Yv];exact h
  | false =>
   rw[e,if_neg (by decide)]at h;rw[show(false != false)=false from rfl,if_neg (by decide)];exact Nx l _ _ ys (by lia) h
theorem DS:∀ r:As,Bx (r.sorts.map W.str) r.enc=r.prs.map λx=>.tup [.str x.2,x.1]
 | .nil=>rfl
 | .num _ r=>congrArg (_::·) (DS r)
 | .tru _ r=>congrArg (_::·) (DS r)
 | .nam _ r=>congrArg (_::·) (DS r)
 | .knd _ r=>congrArg (_::·) (DS r)
 | .trm _ r=>congrArg (_::·) (DS r)
 | .fld _ r=>congrArg (_::·) (DS r)
theorem Hn{s t:Str}{l:List (W×Str)}(h:(s==t)=false):((x,s)::l).filter (λx=>x.2==t)=l.filter λx=>x.2==t:=by
 rw[List.filter_cons];show(if(s==t)=true then _ else _)=_;rw[h,if_neg (by decide)]
theorem Fj:∀ r:As,(r.prs.filter λx=>x.2==("kind":Str)).map (·.1)=r.told.map Kd.enc
 | .nil=>rfl
 | .num _ r=>by show((_::r.prs).filter _).map _=_;rw[Hn (by decide +kernel)];exact Fj r
 | .tru _ r=>by show((_::r.prs).filter _).map _=_;rw[Hn (by decide +kernel)];exact Fj r
 | .nam _ r=>by show((_::r.prs).filter _).map _=_;rw[Hn (by decide +kernel)];exact Fj r
 | .knd k r=>by
  show(((k.enc,("kind":Str))::r.prs).filter λx=>x.2==("kind":Str)).map (·.1)=k.enc::r.told.map Kd.enc;rw[List.filter_cons,if_pos (show(("kind":Str)=="kind")=true by decide +kernel),Ym,Fj r]
 | .trm _ r=>by show((_::r.prs).filter _).map _=_;rw[Hn (by decide +kernel)];exact Fj r
 | .fld _ r=>by show((_::r.prs).filter _).map _=_;rw[Hn (by decide +kernel)];exact Fj r
abbrev lP:Spw:=spL (λ(t:Te)ws _=>ws=[t.enc]/\t.ok=true) λt=>t.told.map Kd.enc
theorem Ep(T:Tx K mg base a):Df P w K mg base "told_by" 2 1 lP:=by
 refine mk0 (k:=1) T.i0 rfl UN BX (λb G Q E⟨x,⟨e,_⟩,_⟩=>by rw[e];rfl) (lu T (Bz T) (Yr _)) λb G Q E d q=>?_;obtain⟨t,⟨rfl,c⟩,q⟩:=q;cases t with
 | nd w r =>
 obtain⟨h1,h2⟩:=CS c;have hs:=Fh h1;unfold UO;show Ai _ (Au Q) [some (.tup (.str w::r.enc))] G;simp only[Ai,AI,B3,Ag,Bn,AV,AU,Aa,Ac,Ad,Ae,Ab,gC,Yb,ixW,Bg,An,Au,List.replicate];refine⟨w,rfl,?_⟩;show ∃ xs ys,_;refine⟨r.sorts.map W.str,r.enc,?_,?_⟩
 ·rw[CP];dsimp only;rw[Hi h1];rfl
 ·rw[DS];refine Nx r.prs none none [] (by rw[Dp];simp only[Yi];lia) ?_;rw[Yw,Fj];exact q
def Bi:Nat->Te->List Kd
 | 0,_=>[]
 | n+1,t=>t.told++t.parts.flatMap (Bi n)
theorem Fk:∀ r:As,r.told.length<=r.sorts.length
 | .nil=>Yr _
 | .num _ r=>Nat.le_succ_of_le (Fk r)
 | .tru _ r=>Nat.le_succ_of_le (Fk r)
 | .nam _ r=>Nat.le_succ_of_le (Fk r)
 | .knd _ r=>Nat.succ_le_succ (Fk r)
 | .trm _ r=>Nat.le_succ_of_le (Fk r)
 | .fld _ r=>Nat.le_succ_of_le (Fk r)
theorem Jk{t:Te}(h:t.ok=true):t.told.length<=3:=by
 cases t with
 | nd w r=>exact Yt (Fk r) (Fh (CS h).1)
theorem Jl:∀(n:Nat)(t:Te),t.ok=true->(Bi n t).length<=3*t.cnt
 | 0,t,_=>YX _
 | n+1,t,h=>by
  have f:=Jk h;have b:=En h;have e:=Da t
  have go:∀ l:List Te,(∀ c∈l,c.ok=true)->(l.flatMap (Bi n)).length<=3*AK l:=by
   intro l;induction l with
   | nil=>intro _;exact Yr _
   | cons c l a =>
    intro hl;have i:=Jl n c (hl c Ye);have g:=a λd hd=>hl d (Yd _ hd);rw[Qe,Yj];show _<=3*(c.cnt+AK l);lia
  have:=go t.parts b;show(t.told++t.parts.flatMap (Bi n)).length<=_;rw[Yj];lia
abbrev Vp(n:Nat):Spw:=spL (λ(t:Te)ws _=>ws=[t.enc]/\t.ok=true/\t.dp<=n/\t.cnt<=1000) λt=>(Bi n t).map Kd.enc
theorem Vq:∀(l:List Te)(o:Option W)(k0:W)(G:Hw)(a:List W),(∀ c∈l,c.ok=true/\c.dp<=n)->a.length+3*AK l<=20000->AK l<=1000->p≠q0->G p=some (.lst a)->G q0=some (.lst items)->
  (∀ ω j,(∃ o',ω=[some k0,some (.ref p),o'])->j p=some (.lst (a++(l.flatMap (Bi n)).map Kd.enc))->(∀ b,b≠p->∀ u,G b=some u->j b=some u)->D.nx ω j)->
  Bs (holds q0 items) (gNm 2) (AC (gMt AX BN (Ab 1) (Aa (Ag (Vp n) XF (Aa (Ab 2) Ac)) Ac))) D (l.map Te.enc) [some k0,some (.ref p),o] G
 | [],o,k0,G,a,_,_,_,e,k,i,f=>⟨i,f _ G ⟨o,rfl⟩ (by simpa using k) λ_ _ _ h=>h⟩
 | c::l,o,k0,G,a,hd,hl,hc,e,k,i,f=>by
  have x:c.cnt+AK l<=1000:=hc;have y:a.length+3*(c.cnt+AK l)<=20000:=hl;have g:=hd c Ye;have z:=Jl n c g.1;refine⟨i,?_⟩;show AC _ _ [some k0,some (.ref p),some c.enc] G;walk_at "rd";refine⟨B5 k,c,⟨rfl,g.1,g.2,by lia⟩,λr t=>?_⟩;have s:=AJ k t;have m:=AJ i t;refine Fe (by rw[Av s];exact k) Aj (by rw[Yh];exact A9 (by lia)) ?_;refine Vq l (some c.enc) k0 _ (a++(Bi n c).map Kd.enc) (λd q=>hd d (Yd _ q)) (by rw[Yj,Yh];lia) (by lia) e Aj ?_ ?_
  ·rw[Av (YY e),Av m];exact i
  ·intro ω j hω h1 h2;refine f ω j hω (by rw[h1,Qe,Yy,Yv]) λb w u v=>h2 b w u ?_;rw[Av w,Av (AJ v t)];exact v
theorem CT(T:Tx K mg base a):∀ n:Nat,Df P w K mg base "all_told" (n+3) 1 (Vp n)
 | 0=>Dq T.Sh BX λl G Q E⟨t,⟨_,_,hd,_⟩,_⟩=>by have:=Ja t;lia
 | n+1=>by
  refine mk0 (k:=n+3) T.Sh rfl UQ BX (λl G Q E⟨x,⟨e,_⟩,_⟩=>by rw[e];rfl) (lv T (Ep T) (by lia) (Cf T) (by lia) (CT T n) (Yr _)) λl G Q E m q=>?_;obtain⟨t,⟨rfl,j,hd,hc⟩,q⟩:=q;have y:=Da t;have v:=Ek t;have s:=Jk j;unfold UR;walk_at "rd";refine⟨t,⟨rfl,j⟩,λp r=>?_⟩;refine⟨t,⟨rfl,j,by lia⟩,λq0 d=>?_⟩;have g:p≠q0:=AJ Aj d;simp only[Aj];refine Vq t.parts none t.enc _ (t.told.map Kd.enc) (λc h=>⟨En j c h,by have:=Hh h;lia⟩) (by rw[Yh];lia) (by lia) g (by rw[Av g];exact Aj) Aj ?_;intro ω o hω h1 h2;obtain⟨o',rfl⟩:=hω;simp only[Yb,Yc]
  have hs:Sub (put G p (.lst ((Bi (n+1) t).map Kd.enc))) o:=λb u f=>by
   by_cases i:b=p
   ·subst i;rw[Aj]at f;cases f;rw[h1,<- Yy];rfl
   ·rw[Av i]at f;refine h2 b i u ?_;rw[Av (λz=>by subst z;rw[Av i]at d;rw[d]at f;cases f),Av i];exact f
  exact m _ _ _ hs (q p r)
def Ny(C:Addr):Spw:=λws G Q E=>(∃ t:Te,ws=[t.enc]/\tg t/\Q .non G)\/∃ x:W,ws=[x]/\Jh x/\E C G
theorem lQ:Spw.M (Ny C):=(by
 rintro c G Q a E b h h' (⟨t,h1,h2,q⟩|⟨t,h1,h2,q⟩)
 ·exact .inl ⟨t,h1,h2,h _ _ q⟩
 ·exact .inr ⟨t,h1,h2,h' _ _ q⟩)
theorem B6(T:Tx K mg base a):Df P w K mg base "check_term" 12 1 (Ny a.NoTerm):=by
 refine mkX (k:=11) T.iZ rfl Uu lQ (by rintro b G Q E (⟨x,e,_⟩|⟨x,e,_⟩) <;> rw[e] <;> rfl) (g:=λE=>Na K a _ E) (kS T (IZ T) (by lia)) λb G Q E c d q=>?_;unfold Na;rcases q with⟨t,rfl,h,q⟩|⟨x,rfl,h,q⟩
 ·walk_at "rd";refine⟨(t.enc,true),⟨rfl,.inl ⟨t,rfl,h,rfl⟩⟩,?_⟩;simp only[YF,Yq,if_false];exact q
 ·walk_at "rd";refine⟨(x,false),⟨rfl,.inr ⟨h,rfl⟩⟩,?_⟩;simp only[YO,if_true];unfold Ls;walk_at "rd";exact⟨by decide,q⟩
theorem lR{α:Type}(xs:List α)(i:Nat):BH xs none (some (i:Int))=xs.take i:=by
 unfold BH;rw[HT.sIx_none,HT.sIx_nat];show(xs.drop 0).take (min i xs.length - 0)=xs.take i;rw[List.drop_zero,Nat.sub_zero,List.take_eq_take_iff];lia
theorem lS{α:Type}(xs:List α)(i:Nat):BH xs (some (i:Int)) none=xs.drop i:=by
 unfold BH;rw[HT.sIx_none,HT.sIx_nat];rcases Nat.le_total i xs.length with h | h
 ·rw[Nat.min_eq_left h];exact List.take_of_length_le (by rw[List.length_drop];exact Yr _)
 ·rw[Nat.min_eq_right h,List.drop_of_length_le (Yr _),List.drop_of_length_le h];simp
def Jm:Spw:=λws G Q _=>∃(p:Addr)(xs:List W)(i:Nat)(v:W),ws=[.ref p,.int i,v]/\G p=some (.lst xs)/\i < xs.length/\xs.length<=1000/\∀ r,G r=none->Q (.ref r) (put G r (.lst (xs.set i v)))
theorem lT:Spw.M Jm:=(by rintro e G Q d E f h _ ⟨p,xs,i,v,h1,h2,a,b,q⟩;exact⟨p,xs,i,v,h1,h2,a,b,λr c=>h _ _ (q r c)⟩)
theorem Vr{α:Type}:∀(xs:List α)(i:Nat)(v:α),i < xs.length->xs.take i++[v]++xs.drop (i+1)=xs.set i v
 | [],i,v,h=>by cases h
 | x::xs,0,v,_=>rfl
 | x::xs,i+1,v,h=>by
  have a:=Vr xs i v (by simpa using h);rw[List.take_succ_cons,List.drop_succ_cons,Yl,<- a];rfl
theorem Vs(h:put G p o q=none):G q=none:=by
 by_cases a:q=p
 ·subst a;rw[Aj]at h;cases h
 ·rw[Av a]at h;exact h
theorem Vt(h1:G p=some (.lst xs))(h2:G r=some (.lst ys))(hl:xs.length+ys.length<=2000)(q:∀ s,G s=none->Q (.ref s) (put G s (.lst (xs++ys)))):A2 (.ref p) (.ref r) G Q:=by
 rw[FX (λz=>by obtain⟨⟨u,a⟩,_⟩:=z;cases a)];unfold Bk;simp only[h1,h2];exact⟨A9 (by lia),q⟩
theorem Vu{lo:Option Int}(h:slW (.ref p) lo hi G Q):slA (.ref p) lo hi G Q:=h
theorem Es(T:Tx K mg base a):Df P w K mg base "with_one" 1 3 Jm:=by
 refine mk0 T.i1 rfl UT lT (λt G Q E⟨_,_,_,_,e,_⟩=>by rw[e];rfl) (ly T) λt G Q E r q=>?_;obtain⟨p,xs,i,v,rfl,k,hi,x,q⟩:=q;unfold UU;show Ai _ (Au Q) [some (.ref p),some (.int i),some v] G;simp only[Ai,Ad,Bn,AV,AU,Aq,Aa,Ac,Ab,gC,Yb,Yc,Au];refine Vu (L9 k λp1 g=>?_);rw[lR];refine⟨(Qzz 1),λp2 d=>?_⟩;have m:(xs.take i).length=i:=by rw[List.length_take];lia
 have g1:put (put G p1 (.lst (xs.take i))) p2 (.lst [v]) p1=some (.lst (xs.take i)):=by rw[Av (AJ Aj d)];exact Aj
 have l:Sub G (put (put G p1 (.lst (xs.take i))) p2 (.lst [v])):=Bh (AD g) d;refine Vt g1 Aj (by simp only[Yg,Yi];lia) λp3 j=>?_;have f:=Bh (o:=.lst (xs.take i++[v])) l j;have g3:put (put (put G p1 (.lst (xs.take i))) p2 (.lst [v])) p3 (.lst (xs.take i++[v])) p3=some (.lst (xs.take i++[v])):=Aj;generalize put (put (put G p1 (.lst (xs.take i))) p2 (.lst [v])) p3 (.lst (xs.take i++[v]))=G3 at f g3 ⊢;rw[show A2 (.int (i:Int)) (.int 1) G3=λQ=>Q (.int ((i:Int)+1)) G3 from rfl];refine Vu (L9 (f _ _ k) λy b=>?_);rw[show((i:Int)+1)=((i+1:Nat):Int) by lia,lS];have s:(xs.drop (i+1)).length=xs.length -(i+1):=List.length_drop;refine Vt (by rw[Av (AJ g3 b)];exact g3) Aj (by rw[Yj,m,s];simp only[Yg,Yi];lia) λh c=>?_;rw[Vr xs i v hi]
 have n:G h=none:=by
  cases z:G h with
  | none=>rfl
  | some u=>rw[Bh f b _ _ z]at c;cases c
 exact r _ _ _ (Sub.put2 (Bh f b)) (q h n)
def Fs.withK:Fs->List Kd->Fs
 | .cons n m _ r,c::cs=>.cons n m c (r.withK cs)
 | fs,_=>fs
def Kd.withK:Kd->List Kd->Kd
 | .to _ _,[x,y]=>.to x y
 | .box _,[x]=>.box x
 | .row fs o,cs=>.row (fs.withK cs) o
 | k,_=>k
def Nz:Spw:=λws G Q _=>∃(k:Kd)(p:Addr)(cs:List Kd),ws=[k.enc,.ref p]/\G p=some (.lst (cs.map Kd.enc))/\cs.length=k.kids.length/\k.cnt<=1000/\Q (k.withK cs).enc G
theorem lU:Spw.M Nz:=(by rintro e G Q d E f h _ ⟨k,p,c,h1,h2,a,b,q⟩;exact⟨k,p,c,h1,h2,a,b,h _ _ q⟩)
theorem Ho(h:G p=some (.lst ys)):BI [.ref p] G=some (.tup ys):=by unfold BI;dsimp only;rw[L6 h];rfl
theorem Vv(b:d G):∀(fs:Fs)(a:List Kd)(o o':Option W)(ys:List W),a.length=fs.kinds.length->ys.length+a.length<=1000->R (ys++(fs.withK a).enc) G->
  AN d (AM 0 1) Ay (Ah (Aa (Ad (Ae ixW) (Ab 0) (gC (.int 0))) (Aa (Ad (Ae ixW) (Ab 0) (gC (.int 1))) (Aa (Ab 1) Ac)))) R (Bx fs.enc (a.map Kd.enc)) [o,o'] G ys
 | .nil,[],o,o',ys,_,_,h=>⟨b,by have h':R (ys++[]) G:=h;rw[Yx]at h';exact h'⟩
 | .cons n m k r,c::a,o,o',ys,hl,f,h=>by
  have e:a.length+1=r.kinds.length+1:=hl;rw[Yg]at f;refine⟨b,Bq (by lia),?_⟩;simp only[AM,Ay,if_true,Yk,Yl,Ah,Aa,Ac,Ad,Ae,Ab,gC,Yb,Yc,ixW,Bg,Bb,An];walk_at "pp";refine Vv b r a _ _ _ (by lia) (by rw[Yj];simp only[Yg,Yi];lia) ?_;rw[Yv];exact h
theorem Jj(T:Tx K mg base a):Df P w K mg base "with_kinds_within" 1 2 Nz:=by
 refine mk0 T.i2 rfl Nq lU (λt G Q E⟨_,_,_,e,_⟩=>by rw[e];rfl) (lz T) λt G Q E l q=>?_;obtain⟨k,p,b,rfl,f,hl,hc,q⟩:=q;unfold UW;show Af (gIf _ _ Ak) _ (Au Q) [some k.enc,some (.ref p),none] G
 have ne:∀{h:Str}{xs:List W},h≠"row"->k.enc=.tup (.str h::xs)->(k.withK b).enc=.tup (.str h::b.map Kd.enc)->Af (gIf (gTB (Ad (Ae (eqF true)) (Ad (Ae ixW) (Ab 0) (gC (.int 0))) (gC (.str "row")))) (Ai (Ad (A2) (Ah (Aa (Ad (Ae ixW) (Ab 0) (gC (.int 0))) Ac)) (gB (rF BI) (Aa (Ab 1) Ac)))) Ak) (Af (Ao 2 (AO (Fa (Aa (Ad (Ae ixW) (Ab 0) (gC (.int 1))) (Aa (Ab 1) Ac))) 2 [] (AM 0 1) Ay (Ah (Aa (Ad (Ae ixW) (Ab 0) (gC (.int 0))) (Aa (Ad (Ae ixW) (Ab 0) (gC (.int 1))) (Aa (Ab 1) Ac)))))) (Ai (Ah (Aa (gC (.str "row")) (Aa (gB (rF BI) (Aa (Ab 2) Ac)) (Aa (Ad (Ae ixW) (Ab 0) (gC (.int 2))) Ac)))))) (Au Q) [some k.enc,some (.ref p),none] G:=by
  intro h xs i m j;rw[j]at q;rw[m];walk_at "pl";rw[show(h==("row":Str))=false by simpa using i];simp only[show(false != true)=true from rfl,if_true,Ai,Ad,Ah,Aa,Ac,Ae,Ab,gC,Yb,Yc,ixW,Bg,An,gB,rF,Ho f,Gz,Au];have v:=C9 k;have g:=F3 k.kids;refine⟨(Qzz 1),?_,q⟩;rw[Yh];exact A9 (by simp only[Yg,Yi];lia)
 cases k with
 | any=>exact ne (h:="any") (by decide +kernel) rfl (by cases b with | nil=>rfl | cons c b=>cases hl)
 | num=>exact ne (h:="num") (by decide +kernel) rfl (by cases b with | nil=>rfl | cons c b=>cases hl)
 | truth=>exact ne (h:="truth") (by decide +kernel) rfl (by cases b with | nil=>rfl | cons c b=>cases hl)
 | to x y =>
  refine ne (h:="to") (by decide +kernel) rfl ?_
  match b,hl with
  | [c,d],_=>rfl
 | box x =>
  refine ne (h:="box") (by decide +kernel) rfl ?_
  match b,hl with
  | [c],_=>rfl
 | row fs o =>
  have s:1+fs.cnt<=1000:=hc;have g:b.length=fs.kinds.length:=hl;have u:fs.kinds.length<=fs.cnt:=by rw[Ii];exact F3 _
  simp only[Kd.enc,Af,gIf,gTB,Ad,Ae,Ab,gC,Yb,ixW,Bg,An,Bd];rw[show(("row":Str)=="row")=true by decide +kernel];simp only[show(true != true)=false from rfl,Yq,if_false,Ak,Ao,AO,Fa,Bc,Aa,Ac,Ad,Ae,Ab,gC,Yb,Yc,ixW,Bb,An,YI,List.replicate,Yx];refine⟨fs.enc,.ref p,b.map Kd.enc,rfl,Cr f,?_⟩;refine Vv (Cr f) fs b none none [] g (by simp only[Yi];lia) λr n=>?_;rw[Yw];simp only[Yk,Yl,Ai,Ah,Aa,Ac,gC,gB,rF,Ab,Yb,Yc,Ho Aj,An,Ad,Ae,ixW,B4,Au];exact⟨(Qzz 3),l _ _ _ (AD n) q⟩
def opn:Kd->List Kd
 | .row fs false=>[.row fs true]
 | _=>[]
def lkS(f:Kd->List Kd)(k:Kd):Nat->List Kd->List Kd
 | _,[]=>[]
 | i,c::cs=>(f c).map (λd=>k.withK (k.kids.set i d))++lkS f k (i+1) cs
def lk:Nat->Kd->List Kd
 | 0,_=>[]
 | n+1,k=>((if k.hd="any" then[]else[.any])++opn k)++lkS (lk n) k 0 k.kids
theorem Vw(h:∀ c,(f c).length<=2*c.cnt):∀(l:List Kd)(i:Nat),(lkS f k i l).length<=2*A3 l
 | [],_=>YX _
 | c::l,i=>by
  have h1:=h c;have h2:=Vw (k:=k) h l (i+1);show((f c).map _++lkS f k (i+1) l).length<=2*(c.cnt+A3 l);rw[Yj,Yh];lia
theorem Jn:∀(n:Nat)(k:Kd),(lk n k).length<=2*k.cnt
 | 0,k=>YX _
 | n+1,k=>by
  have h1:=Vw (k:=k) (Jn n) k.kids 0;have h2:=C9 k;have b:(if k.hd="any" then([]:List Kd)else[.any]).length<=1:=by split <;> decide
  have a:(opn k).length<=1:=by
   cases k with
   | row fs o =>
    cases o with
    | false=>exact Yr 1
    | true=>exact YX _
   | _=>exact YX _
  show(((if k.hd="any" then([]:List Kd)else[.any])++opn k)++lkS (lk n) k 0 k.kids).length<=_;rw[Yj,Yj];lia
theorem Jo{α:Type}{enc f:α->W}{cst:Sw}:∀(l:List α)(o:Option W)(ys:List W)(G:Hw),(∀ a,Sub G a->g a)->(∀ x∈l,∀(a:Hw)(Q:Kw),Sub G a->(∀ b,Sub a b->Q (f x) b)->ge (some (enc x)::cst) a Q)->
  ys.length+l.length<=sizeLine->(∀ c,Sub G c->R (ys++l.map f) c)->AN g (gNm 0) Ay ge R (l.map enc) (o::cst) G ys
 | [],o,ys,G,d,_,_,r=>⟨d G Sub.refl,by simpa using r G Sub.refl⟩
 | x::l,o,ys,G,d,h,hl,r=>by
  refine⟨d G Sub.refl,by simp only[Yg]at hl;lia,?_⟩;show ge (some (enc x)::cst) G λy j=>AN g (gNm 0) Ay ge R (l.map enc) (some (enc x)::cst) j (ys++[y]);refine h x Ye _ _ Sub.refl λb e=>Jo l (some (enc x)) (ys++[f x]) b (λa i=>d a (e.trans i)) (λy k a Q i=>h y (Yd _ k) a Q (e.trans i)) ?_ λc s'=>?_
  ·simp only[Yj,Yg,Yi]at hl ⊢;lia
  ·simpa[Yv]using r c (e.trans s')
abbrev NA(n:Nat):Spw:=spL (λ(k:Kd)ws _=>ws=[k.enc]/\k.dp<=n/\k.cnt<=1000) λk=>(lk n k).map Kd.enc
abbrev Jp(n:Nat):GS:=AC (gMt AX BN (Ab 1) (Aa (AO (Ax (Ag (NA n) XF (Aa (Ab 4) Ac))) 1 [0,2,3] (gNm 0) Ay (Ag Nz XF (Aa (Ab 1) (Aa (Ag Jm XF (Aa (Ab 2) (Aa (Ab 3) (Aa (Ab 0) Ac)))) Ac)))) Ac))
theorem Vx(s:p≠q)(F:k.cnt<=1000):∀(l:List Kd)(i:Nat)(o3 o4:Option W)(G:Hw)(a:List Kd),(∀ c∈l,c.dp<=n)->i+l.length=k.kids.length->a.length+2*A3 l<=5000->A3 l<=1000->G p=some (.lst (a.map Kd.enc))->G q=some (.lst (k.kids.map Kd.enc))->
  (∀ o3 o4 m,m p=some (.lst ((a++lkS (lk n) k i l).map Kd.enc))->(∀ b,b≠p->∀ u,G b=some u->m b=some u)->D.nx [some k.enc,some (.ref p),some (.ref q),o3,o4] m)->
  Bs (λG=>rdL G (.ref q)=some (k.kids.map Kd.enc)) (AM 3 4) (Jp n) D (Ed i (l.map Kd.enc)) [some k.enc,some (.ref p),some (.ref q),o3,o4] G
 | [],i,o3,o4,G,a,_,_,_,_,z,v,j=>⟨Cr v,j o3 o4 G (by show G p=some (.lst ((a++[]).map Kd.enc));rw[Yx];exact z) λ_ _ _ h=>h⟩
 | c::l,i,o3,o4,G,a,hd,hi,T,hc,z,v,j=>by
  have I:a.length+2*(c.cnt+A3 l)<=5000:=T;have S:c.cnt+A3 l<=1000:=hc;rw[Yg]at hi;have U:=Jn n c;refine⟨Cr v,?_⟩;show Jp n _ [some k.enc,some (.ref p),some (.ref q),some (.int i),some c.enc] G;simp only[Jp,AC,gMt,AO,Ax,Ag,Bc,Aa,Ac,Ab,Ym,YI,List.replicate,List.cons_append,Yw,Yb,Yc,Option.getD_some];refine⟨B5 z,c,⟨rfl,hd c Ye,by lia⟩,λr A=>?_⟩;simp only[Aj];have O:(k.kids.map Kd.enc).length=k.kids.length:=Yh _;have N:k.kids.length<=1000:=by have:=C9 k;have:=F3 k.kids;lia
  refine Jo (enc:=Kd.enc) (f:=λd=>(k.withK (k.kids.set i d)).enc) (cst:=[some k.enc,some (.ref q),some (.int i)]) (lk n c) none [] _ (λR E=>E _ _ Aj) (λd y R X E J=>?_) (by exact A9 (by simp only[Yi];lia)) λm s' p1 g=>?_
  ·walk_at "ph";refine⟨q,k.kids.map Kd.enc,i,d.enc,rfl,E _ _ (AD A _ _ v),by lia,by lia,λK B=>?_⟩;exact⟨k,K,k.kids.set i d,rfl,by rw[Aj,List.map_set],by rw[List.length_set],F,J _ (AD B)⟩
  ·rw[Yw];have x:m p=some (.lst (a.map Kd.enc)):=s' _ _ (AD A _ _ z);have w:m q=some (.lst (k.kids.map Kd.enc)):=s' _ _ (AD A _ _ v);have n1:=AJ x g;have Q:=AJ w g;refine Fe (xs:=a.map Kd.enc) (zs:=(lk n c).map λd=>(k.withK (k.kids.set i d)).enc) (by rw[Av n1];exact x) Aj (by rw[Yh,Yh];exact A9 (by lia)) ?_;have e:a.map Kd.enc++((lk n c).map λd=>(k.withK (k.kids.set i d)).enc)=(a++(lk n c).map λd=>k.withK (k.kids.set i d)).map Kd.enc:=by rw[Yy,YB];rfl
   rw[e];refine Vx s F l (i+1) _ _ _ (a++(lk n c).map λd=>k.withK (k.kids.set i d)) (λd y=>hd d (Yd _ y)) (by lia) (by rw[Yj,Yh];lia) (by lia) Aj ?_ ?_
   ·rw[Av (YY s),Av Q];exact w
   ·intro o3 o4 P g1 g2;refine j o3 o4 P (by rw[g1,Yv];rfl) λb H u L=>g2 b H u ?_;have t:=s' _ _ (AD (o:=.lst ((lk n c).map Kd.enc)) A _ _ L);rw[Av H,Av (AJ t g)];exact t
theorem DT(a:G p=some (.lst xs))(hl:xs.length < sizeLine)(q:Q .non (put G p (.lst (xs++[y])))):BJ (.ref p) [y] G Q:=by
 unfold BJ;refine Lr a ?_ q;rw[if_pos hl]
theorem Cu(k:Kd)(G:Hw):ixW k.enc (.int 0) G=some (.str k.hd):=by
 obtain⟨xs,e⟩:=T2 k;rw[e];exact Bg
theorem NC{k:Kd}(h:k.hd="row"):∃ fs o,k=.row fs o:=by
 cases k <;> first | exact⟨_,_,rfl⟩| exact absurd h (by simp only[Kd.hd];decide)
theorem Er(T:Tx K mg base a):∀ n:Nat,Df P w K mg base "less_kinds" (n+2) 1 (NA n)
 | 0=>Dq T.Si BX λt G Q E⟨k,⟨_,hd,_⟩,_⟩=>by have:=DG k;lia
 | n+1=>by
  refine mk0 (k:=n+2) T.Si rfl UY BX (λt G Q E⟨x,⟨e,_⟩,_⟩=>by rw[e];rfl) (lA T (CI T) (by lia) (Er T n) (Yr _) (Es T) (by lia) (Jj T) (by lia)) λt G Q E v q=>?_;obtain⟨k,⟨rfl,hd,hc⟩,q⟩:=q;unfold UZ;show Af (Ao 1 _) _ (Au Q) [some k.enc,none,none,none,none] G;refine AF ?_
  have l:∀ Z:Kw,(∀ p,G p=none->Z (.ref p) (put G p (.lst ((if k.hd="any" then([]:List Kd)else[.any]).map Kd.enc))))->BC (gTB (Ad (Ae (eqF false)) (Ad (Ae ixW) (Ab 0) (gC (.int 0))) (gC (.str "any")))) (Aq Ac) (Aq (Aa (Ah (Aa (gC (.str "any")) Ac)) Ac)) [some k.enc,none,none,none,none] G Z:=by
   intro Z j;simp only[BC,gTB,Ad,Ae,Ab,gC,Yb,Cu,An,Bd];by_cases e:k.hd="any"
   ·rw[if_pos e]at j;rw[show(k.hd==("any":Str))=true by simp[e],show(true != false)=true from rfl,if_pos rfl];simp only[Aq,Ac];exact⟨by decide,j⟩
   ·rw[if_neg e]at j;rw[show(k.hd==("any":Str))=false by simpa using e,show(false != false)=false from rfl,if_neg (by decide)];simp only[Aq,Ah,Aa,Ac,gC];exact⟨by decide,by decide,j⟩
  refine l _ λp I=>?_;walk_at "pe";generalize s:(if k.hd="any" then([]:List Kd)else[.any])=A;have B:A.length<=1:=by rw[<- s];split <;> decide
  have r:∀{Ar:GS}{D:Ew},Ar D [some k.enc,some (.ref p),none,none,none] (put G p (.lst ((A++opn k).map Kd.enc)))->Af (gIf (A8 (gTB (Ad (Ae (eqF false)) (Ad (Ae ixW) (Ab 0) (gC (.int 0))) (gC (.str "row")))) (gNt (A4 (Ad (Ae ixW) (Ab 0) (gC (.int 2)))))) (AC (gMt AX BJ (Ab 1) (Aa (Ah (Aa (gC (.str "row")) (Aa (Ad (Ae ixW) (Ab 0) (gC (.int 1))) (Aa (gC (.bl true)) Ac)))) Ac))) Ak) Ar D [some k.enc,some (.ref p),none,none,none] (put G p (.lst (A.map Kd.enc))):=by
   intro Ar D h;simp only[Af,gIf,A8,gTB,Ad,Ae,Ab,gC,Yb,Cu,An,Bd];by_cases e:k.hd="row"
   ·rw[show(k.hd==("row":Str))=true by simp[e],show(true != false)=true from rfl,if_pos rfl];obtain⟨fs,o,rfl⟩:=NC e;simp only[gNt,A4,Ad,Ae,Ab,gC,Yb,Kd.enc,ixW,B4,An,B9];cases o with
    | true =>
     simp only[YF,Yq,if_false,Ak];have h':Ar D [some (Kd.row fs true).enc,some (.ref p),none,none,none] (put G p (.lst ((A++[]).map Kd.enc))):=h;rw[Yx]at h';exact h'
    | false =>
     simp only[YO,if_true,AC,gMt,Ah,Aa,Ac,Ad,Ae,Ab,gC,Yb,Yc,ixW,Bb,An];refine⟨B5 Aj,(Qzz 3),DT Aj (by rw[Yh];exact Bq (by lia)) ?_⟩;rw[L5];have h':Ar D [some (Kd.row fs false).enc,some (.ref p),none,none,none] (put G p (.lst ((A++[Kd.row fs true]).map Kd.enc))):=h;rw[Yy]at h';exact h'
   ·rw[show(k.hd==("row":Str))=false by simpa using e,show(false != false)=false from rfl,if_neg (by decide)];simp only[Yq,if_false,Ak]
    have H:opn k=[]:=by
     cases k with
     | row fs o=>exact absurd rfl e
     | _=>rfl
    rw[H,Yx]at h;exact h
  refine r ?_
  have F:(opn k).length<=1:=by
   cases k with
   | row fs o =>
    cases o with
    | false=>exact Yr 1
    | true=>exact YX _
   | _=>exact YX _
  refine AF ?_;simp only[Ag,Aa,Ac,Ab,Yb];refine⟨k,⟨rfl,by lia⟩,λq0 d=>?_⟩;walk_at "pe";have g:p≠q0:=AJ Aj d;have N:=C9 k;show Af (AT _ _ (Jp n)) _ (Au Q) _ _;simp only[Af,AT,F1,Aa,Ac,Ab,Yb,Yc];refine⟨.ref q0,k.kids.map Kd.enc,rfl,Cr Aj,?_⟩;refine Vx g hc k.kids 0 none none _ (A++opn k) (λc m=>by have:=Fc m;lia) (by lia) (by rw[Yj];lia) (by lia) (by rw[Av g];exact Aj) Aj λJ L y h1 h2=>?_;simp only[Ai,Ab,Yb,Yc,Au]
  have hs:Sub (put G p (.lst ((lk (n+1) k).map Kd.enc))) y:=λb u f=>by
   by_cases i:b=p
   ·subst i;rw[Aj]at f;cases f;rw[h1,<- s];rfl
   ·rw[Av i]at f;refine h2 b i u ?_;rw[Av (λz=>by subst z;rw[Av i]at d;rw[d]at f;cases f),Av i];exact f
  exact v _ _ _ hs (q p I)
def As.withKd(k:Kd):As->As
 | .nil=>.nil
 | .num i r=>.num i (r.withKd k)
 | .tru b r=>.tru b (r.withKd k)
 | .nam x r=>.nam x (r.withKd k)
 | .knd _ r=>.knd k (r.withKd k)
 | .trm t r=>.trm t (r.withKd k)
 | .fld f r=>.fld f (r.withKd k)
def Te.withKd(k:Kd):Te->Te
 | .nd w r=>.nd w (r.withKd k)
theorem ND:∀(l:List (W×Str))(o o':Option W)(ys:List W),ys.length+l.length<=1000->R (ys++l.map λx=>if(x.2==("kind":Str))=true then v else x.1) G->
  AN yes (AM 0 1) Ay (BC (gTB (Ad (Ae (eqF false)) (Ab 0) (gC (.str "kind")))) (Ab 2) (Ab 1)) R (l.map λx=>.tup [.str x.2,x.1]) [o,o',some v] G ys
 | [],o,o',ys,_,h=>⟨trivial,by rw[YI,Yx]at h;exact h⟩
 | x::l,o,o',ys,hl,h=>by
  walk_at "pv";refine⟨trivial,Bq (by lia),?_⟩;simp only[AM,Ay,if_true,Yk,Yl,BC,gTB,Ad,Ae,Ab,gC,Yb,Yc,Bd,An];rw[Ym]at h;cases e:(x.2==("kind":Str))with
  | true =>
   rw[e,if_pos rfl]at h;rw[show(true != false)=true from rfl,if_pos rfl];refine ND l _ _ (ys++[v]) (by rw[Yj];simp only[Yg,Yi];lia) ?_;rw[Yv];exact h
  | false =>
   rw[e,if_neg (by decide)]at h;rw[show(false != false)=false from rfl,if_neg (by decide)];refine ND l _ _ (ys++[x.1]) (by rw[Yj];simp only[Yg,Yi];lia) ?_;rw[Yv];exact h
theorem EA(k:Kd):∀ r:As,(r.prs.map λx=>if(x.2==("kind":Str))=true then k.enc else x.1)=(r.withKd k).enc
 | .nil=>rfl
 | .num i r=>by show(if((("number":Str))=="kind")=true then k.enc else W.int i)::_=W.int i::(r.withKd k).enc;rw[if_neg (by decide +kernel)];exact congrArg (_::·) (EA k r)
 | .tru b r=>by show(if((("truth":Str))=="kind")=true then k.enc else W.bl b)::_=W.bl b::(r.withKd k).enc;rw[if_neg (by decide +kernel)];exact congrArg (_::·) (EA k r)
 | .nam x r=>by show(if((("name":Str))=="kind")=true then k.enc else W.str x)::_=W.str x::(r.withKd k).enc;rw[if_neg (by decide +kernel)];exact congrArg (_::·) (EA k r)
 | .knd j r=>by show(if((("kind":Str))=="kind")=true then k.enc else j.enc)::_=k.enc::(r.withKd k).enc;rw[if_pos (by decide +kernel)];exact congrArg (_::·) (EA k r)
 | .trm t r=>by show(if((("term":Str))=="kind")=true then k.enc else t.enc)::_=t.enc::(r.withKd k).enc;rw[if_neg (by decide +kernel)];exact congrArg (_::·) (EA k r)
 | .fld f r=>by show(if((("fields":Str))=="kind")=true then k.enc else W.tup f.enc)::_=W.tup f.enc::(r.withKd k).enc;rw[if_neg (by decide +kernel)];exact congrArg (_::·) (EA k r)
abbrev Vy:Spw:=spR (λ(x:Te×Kd)ws _=>ws=[x.1.enc,x.2.enc]/\x.1.ok=true) λx=>(x.1.withKd x.2).enc
theorem Et(T:Tx K mg base a):Df P w K mg base "with_kind" 2 2 Vy:=by
 refine mk0 (k:=1) T.i3 rfl U1 Ce (λf G Q E⟨x,⟨e,_⟩,_⟩=>by rw[e];rfl) (lF T (Bz T) (Yr _)) λf G Q E c q=>?_;obtain⟨⟨t,k⟩,⟨rfl,b⟩,q⟩:=q;dsimp only at b q;cases t with
 | nd w r =>
 obtain⟨h1,h2⟩:=CS b;have hs:=Fh h1;unfold U2;show Af (Ao 2 _) _ (Au Q) [some (.tup (.str w::r.enc)),some k.enc,none] G;refine AF ?_;simp only[Ag,Aa,Ac,Ad,Ae,Ab,gC,Yb,ixW,Bg,An];refine⟨w,rfl,?_⟩;dsimp only;rw[Hi h1];simp only[Yk,Yl,Ai,Ad,Ah,Aa,Ac,Ae,Ab,gC,Yb,Yc,ixW,Bg,An,gB,AO,B3,Bn,AV,AU,Bc,Ym,YI,List.replicate,List.cons_append,Yw,Option.getD_some,Au];refine⟨(Qzz 1),?_⟩;show ∃ xs ys,_;refine⟨r.sorts.map W.str,r.enc,by rw[CP];rfl,?_⟩;rw[DS];refine ND r.prs none none [] (by rw[Dp];simp only[Yi];lia) λp d=>?_;rw[Yw,EA];simp only[rF,Ho Aj,An,Gz];have el:(r.withKd k).enc.length<=3:=by rw[<- EA,Yh,Dp];exact hs
 exact⟨A9 (by simp only[Yg,Yi];lia),c _ _ _ (AD d) q⟩
def Fl.withT:Fl->List Te->Fl
 | .cons x _ r,u::us=>.cons x u (r.withT us)
 | f,_=>f
def As.withPs:As->List Te->As
 | .nil,_=>.nil
 | .num i r,us=>.num i (r.withPs us)
 | .tru b r,us=>.tru b (r.withPs us)
 | .nam x r,us=>.nam x (r.withPs us)
 | .knd k r,us=>.knd k (r.withPs us)
 | .trm t r,u::us=>.trm u (r.withPs us)
 | .trm t r,[]=>.trm t r
 | .fld f r,us=>.fld (f.withT us) r
def Te.withPs:Te->List Te->Te
 | .nd w r,us=>.nd w (r.withPs us)
theorem Vz(a:b G):∀(f:Fl)(us:List Te)(o o':Option W)(ys:List W),us.length=f.terms.length->ys.length+us.length<=1000->R (ys++(f.withT us).enc) G->
  AN b (AM 0 1) Ay (Ah (Aa (Ad (Ae ixW) (Ab 0) (gC (.int 0))) (Aa (Ab 1) Ac))) R (Bx f.enc (us.map Te.enc)) [o,o'] G ys
 | .nil,[],o,o',ys,_,_,h=>⟨a,by have h':R (ys++[]) G:=h;rw[Yx]at h';exact h'⟩
 | .cons x t r,u::us,o,o',ys,hl,c,h=>by
  have d:us.length+1=r.terms.length+1:=hl;rw[Yg]at c;refine⟨a,Bq (by lia),?_⟩;simp only[AM,Ay,if_true,Yk,Yl,Ah,Aa,Ac,Ad,Ae,Ab,gC,Yb,Yc,ixW,Bg,An];refine⟨(Qzz 2),?_⟩;refine Vz a r us _ _ _ (by lia) (by rw[Yj];simp only[Yg,Yi];lia) ?_;rw[Yv];exact h
def mix:List (W×Str)->List W->List W
 | [],_=>[]
 | x::l,us=>if(x.2==("term":Str))=true then us.headD x.1::mix l us.tail else x.1::mix l us
def DU:List (W×Str)->Nat
 | []=>0
 | x::l=>(if(x.2==("term":Str))=true then 1 else 0)+DU l
abbrev NE:GS:=Af (AC (gMt AX BJ (Ab 2) (Aa (BC (gTB (Ad (Ae (eqF false)) (Ab 4) (gC (.str "term")))) (Ad (Ae ixW) (Ab 1) (Ab 3)) (Ab 5)) Ac))) (Cm 3 Cc (BC (gTB (Ad (Ae (eqF false)) (Ab 4) (gC (.str "term")))) (gC (.int 1)) (gC (.int 0))))
theorem NF(d:p≠q):∀(l:List (W×Str))(j:Nat)(o4 c:Option W)(G:Hw)(a:List W),j+DU l=vs.length->a.length+l.length<=1000->G p=some (.lst vs)->G q=some (.lst a)->
  (∀ i o4 c g,g q=some (.lst (a++mix l (vs.drop j)))->(∀ b,b≠q->∀ u,G b=some u->g b=some u)->D.nx [t,some (.ref p),some (.ref q),some (.int i),o4,c] g)->
  Bs yes (AM 4 5) NE D (l.map λx=>.tup [.str x.2,x.1]) [t,some (.ref p),some (.ref q),some (.int (j:Int)),o4,c] G
 | [],j,o4,c,G,a,_,_,r,k,f=>⟨trivial,f _ o4 c G (by show G q=some (.lst (a++[]));rw[Yx];exact k) λ_ _ _ h=>h⟩
 | x::l,j,o4,c,G,a,y,hl,r,k,f=>by
  walk_at "pv";have n:j+((if(x.2==("term":Str))=true then 1 else 0)+DU l)=vs.length:=y;refine⟨trivial,?_⟩;show NE _ [t,some (.ref p),some (.ref q),some (.int (j:Int)),some (.str x.2),some x.1] G;simp only[NE,Af,AC,gMt,Cm,BC,gTB,Ad,Ae,Aa,Ac,Ab,gC,Yb,Yc,Bd,An];cases e:(x.2==("term":Str))with
  | true =>
   rw[e,if_pos rfl]at n;have m:j < vs.length:=by lia
   have s:ixW (.ref p) (.int (j:Int)) G=some vs[j]:=by rw[Ee r];exact FJ (Yp m)
   simp only[show(true != false)=true from rfl,if_true,s,An];refine⟨B5 k,DT k (Bq (by lia)) ?_⟩;simp only[Cc,Yk,Yl];refine NF (vs:=vs) d l (j+1) _ _ _ (a++[vs[j]]) (by lia) (by rw[Yj];simp only[Yg,Yi];lia) (by rw[Av d];exact r) Aj λi o4 c g h1 h2=>?_;refine f i o4 c g ?_ λb o u v=>h2 b o u (by rw[Av o];exact v);rw[h1,Yv];have w:vs.drop j=vs[j]::vs.drop (j+1):=List.drop_eq_getElem_cons m;rw[w];show _=some (HW.lst (a++(if(x.2==("term":Str))=true then vs[j]::mix l (vs.drop (j+1))else _)));rw[e,if_pos rfl];rfl
  | false =>
   rw[e,if_neg (by decide)]at n;simp only[show(false != false)=false from rfl,Yq,if_false];refine⟨B5 k,DT k (Bq (by lia)) ?_⟩;simp only[Cc,Yk,Yl,Int.add_zero];refine NF (vs:=vs) d l j _ _ _ (a++[x.1]) (by lia) (by rw[Yj];simp only[Yg,Yi];lia) (by rw[Av d];exact r) Aj λi o4 c g h1 h2=>?_;refine f i o4 c g ?_ λb o u v=>h2 b o u (by rw[Av o];exact v);rw[h1,Yv];show _=some (HW.lst (a++(if(x.2==("term":Str))=true then _ else x.1::mix l (vs.drop j))));rw[e,if_neg (by decide)];rfl
theorem XN(h:(s==("term":Str))=false):mix ((x,s)::l) us=x::mix l us:=by
 show(if(s==("term":Str))=true then _ else _)=_;rw[h,if_neg (by decide)]
theorem XO(h:(s==("term":Str))=false):DU ((x,s)::l)=DU l:=by
 show(if(s==("term":Str))=true then 1 else 0)+DU l=DU l;rw[h,if_neg (by decide),Nat.zero_add]
theorem Ko:∀(r:As)(us:List Te),("fields":Str)∉r.sorts->us.length=r.parts.length->mix r.prs (us.map Te.enc)=(r.withPs us).enc/\DU r.prs=r.parts.length
 | .nil,us,_,_=>⟨rfl,rfl⟩
 | .num i r,us,c,hl=>by
  walk_at "pt";walk_at "pi"
 | .tru i r,us,c,hl=>by
  walk_at "pt";walk_at "pi"
 | .nam i r,us,c,hl=>by
  walk_at "pt";walk_at "pi"
 | .knd i r,us,c,hl=>by
  walk_at "pt";walk_at "pi"
 | .trm t r,u::us,c,hl=>by
  have d:us.length+1=r.parts.length+1:=hl;obtain⟨a,b⟩:=Ko r us (λz=>c (Yd _ z)) (by lia);constructor
  ·show(if(("term":Str)=="term")=true then u.enc::mix r.prs (us.map Te.enc)else _)=u.enc::(r.withPs us).enc;rw[if_pos (by decide +kernel),a]
  ·show(if(("term":Str)=="term")=true then 1 else 0)+DU r.prs=r.parts.length+1;rw[if_pos (by decide +kernel),b];lia
 | .trm t r,[],_,hl=>by cases hl
 | .fld f r,us,c,_=>absurd Ye c
def NG:Spw:=λws G Q _=>∃(t:Te)(p:Addr)(us:List Te),ws=[t.enc,.ref p]/\G p=some (.lst (us.map Te.enc))/\us.length=t.parts.length/\t.ok=true/\t.cnt<=900/\Q (t.withPs us).enc G
theorem lV:Spw.M NG:=(by rintro f G Q e E g h _ ⟨k,p,d,h1,h2,b,c,a,q⟩;exact⟨k,p,d,h1,h2,b,c,a,h _ _ q⟩)
theorem Ex(T:Tx K mg base a):Df P w K mg base "with_parts" 2 2 NG:=by
 refine mk0 (k:=1) T.i4 rfl U4 lV (λD G Q E⟨_,_,_,e,_⟩=>by rw[e];rfl) (lG T (Bz T) (Yr _)) λD G Q E s q=>?_;obtain⟨t,p,j,rfl,l,hl,A,hc,q⟩:=q;have o:=Ng t;cases t with
 | nd w r =>
 obtain⟨h1,h2⟩:=CS A;have hs:=Fh h1;unfold U5;show Af (gIf _ _ Ak) _ (Au Q) [some (.tup (.str w::r.enc)),some (.ref p),none,none,none,none] G;walk_at "pl";by_cases e:w="rec"
 ·rw[show(w==("rec":Str))=true by simp[e]];obtain⟨f,rfl⟩:=(Fg h1).1 e;have d:j.length=(f.terms++[]).length:=hl;rw[Yx]at d;have g:(f.terms++[]).length+1<=(Te.nd w (.fld f .nil)).cnt:=o;rw[Yx]at g;simp only[show(true != false)=true from rfl,if_true,Ai,Ah,Aa,Ac,gB,AI,Fa,Ad,Ae,Ab,gC,Yb,Yc,As.enc,ixW,Bb,An,Au,List.replicate];refine⟨f.enc,.ref p,j.map Te.enc,rfl,Cr l,?_⟩;refine Vz (Cr l) f j none none [] d (by simp only[Yi];lia) λp1 m=>?_;rw[Yw];simp only[rF,Ho Aj,An];refine⟨(Qzz 2),s _ _ _ (AD m) ?_⟩;rw[e]at q;exact q
 ·rw[show(w==("rec":Str))=false by simpa using e];obtain⟨B,z⟩:=Ko r j ((Fg h1).2 e) hl;simp only[show(false != false)=false from rfl,Yq,if_false,Ak];refine AF ?_;simp only[Aq,Aa,Ac,Ad,Ae,Ab,gC,Yb,ixW,Bg,An];refine⟨(Qzz 1),λq0 h=>?_⟩;have c:p≠q0:=AJ l h;walk_at "pe";refine AF ?_;simp only[gC,Yk,Yl];simp only[Af,AT,B3,Ag,Bn,AV,AU,Aa,Ac,Ad,Ae,Ab,gC,Yb,ixW,Bg,An];refine⟨w,rfl,?_⟩;show ∃ xs ys,_;refine⟨r.sorts.map W.str,r.enc,?_,?_⟩
  ·rw[CP];dsimp only;rw[Hi h1];rfl
  rw[DS];refine NF (vs:=j.map Te.enc) c r.prs 0 none none _ [.str w] (by rw[z,Yh,Nat.zero_add];exact hl.symm) (by rw[Dp];simp only[Yg,Yi];lia) (by rw[Av c];exact l) Aj λi H F y g1 g2=>?_;simp only[Ai,gB,rF,Aa,Ac,Ab,Yb,Yc,Ho g1,An,Au];rw[List.drop_zero,B]
  have n:Sub G y:=λb u v=>by
   have x:b≠q0:=AJ v h;exact g2 b x u (by rw[Av x];exact v)
  exact s _ _ _ n q
def ltS(f:Te->List Te)(t:Te):Nat->List Te->List Te
 | _,[]=>[]
 | i,c::cs=>(f c).map (λd=>t.withPs (t.parts.set i d))++ltS f t (i+1) cs
def ltK(t:Te)(l:List Kd):List Te:=l.flatMap λk=>(lk 8 k).map λj=>t.withKd j
def lt:Nat->Te->List Te
 | 0,_=>[]
 | n+1,t=>ltK t t.told++ltS (lt n) t 0 t.parts
theorem Fo:∀{r:As},r.ok=true->∀ k∈r.told,k.cnt<=31/\k.dp<=8
 | .nil,_,c,hc=>by cases hc
 | .num i r,h,c,hc=>by
  walk_at "ps";walk_at "pa";exact Fo h'.2 c hc
 | .tru _ r,h,c,hc=>Fo (r:=r) h c hc
 | .nam x r,h,c,hc=>by
  have h':(AA x&&r.ok)=true:=h;walk_at "pa";exact Fo h'.2 c hc
 | .knd k r,h,c,hc=>by
  have h':((k.ok&&BF k)&&r.ok)=true:=h;walk_at "pa";rcases Yo.mp hc with rfl | hc
  ·exact of_decide_eq_true h'.1.2
  ·exact Fo h'.2 c hc
 | .trm t r,h,c,hc=>by
  have h':(t.ok&&r.ok)=true:=h;walk_at "pa";exact Fo h'.2 c hc
 | .fld f r,h,c,hc=>by
  have h':((AY f.names&&f.ok)&&r.ok)=true:=h;walk_at "pa";exact Fo h'.2 c hc
theorem Jq{t:Te}(h:t.ok=true):∀ k∈t.told,k.cnt<=31/\k.dp<=8:=by
 cases t with
 | nd w r=>exact Fo (CS h).2
theorem NH:∀ l:List Kd,(∀ k∈l,k.cnt<=31/\k.dp<=8)->(ltK t l).length<=80*l.length
 | [],_=>YX _
 | k::l,h=>by
  have h1:=Jn 8 k;have h2:=(h k Ye).1;have b:=NH (t:=t) l λj a=>h j (Yd _ a);show((lk 8 k).map _++ltK t l).length<=80*(l.length+1);rw[Yj,Yh];lia
theorem VB:∀(n:Nat)(t:Te),t.ok=true->(lt n t).length<=240*t.cnt
 | 0,t,_=>YX _
 | n+1,t,h=>by
  have h1:=NH (t:=t) t.told (Jq h);have f:=Jk h;have b:=En h;have e:=Da t
  have go:∀(l:List Te)(i:Nat),(∀ c∈l,c.ok=true)->(ltS (lt n) t i l).length<=240*AK l:=by
   intro l;induction l with
   | nil=>intro i _;exact YX _
   | cons c l a =>
    intro i hl;have j:=VB n c (hl c Ye);have g:=a (i+1) λd hd=>hl d (Yd _ hd);show((lt n c).map _++ltS (lt n) t (i+1) l).length<=240*(c.cnt+AK l);rw[Yj,Yh];lia
  have:=go t.parts 0 b;show(ltK t t.told++ltS (lt n) t 0 t.parts).length<=_;rw[Yj];lia
abbrev Jr:GS:=AC (gMt AX BN (Ab 1) (Aa (AO (Ax (Ag (NA 8) XF (Aa (Ab 2) Ac))) 1 [0] (gNm 0) Ay (Ag Vy XF (Aa (Ab 1) (Aa (Ab 0) Ac)))) Ac))
theorem VC(i:p≠q)(B:t.ok=true):∀(l:List Kd)(c:Option W)(G:Hw)(a:List Te),(∀ k∈l,k.cnt<=31/\k.dp<=8)->a.length+80*l.length<=20000->G p=some (.lst (a.map Te.enc))->G q=some (.lst items)->
  (∀ c x,x p=some (.lst ((a++ltK t l).map Te.enc))->(∀ b,b≠p->∀ u,G b=some u->x b=some u)->D.nx [some t.enc,some (.ref p),c,none,none,none] x)->
  Bs (holds q items) (gNm 2) Jr D (l.map Kd.enc) [some t.enc,some (.ref p),c,none,none,none] G
 | [],c,G,a,_,_,w,v,g=>⟨v,g c G (by show G p=some (.lst ((a++[]).map Te.enc));rw[Yx];exact w) λ_ _ _ h=>h⟩
 | k::l,c,G,a,A,hl,w,v,g=>by
  walk_at "pv";have h1:=Jn 8 k;have h2:=A k Ye;refine⟨v,?_⟩;show Jr _ [some t.enc,some (.ref p),some k.enc,none,none,none] G;simp only[Jr,AC,gMt,AO,Ax,Ag,Bc,Aa,Ac,Ab,Ym,YI,List.replicate,List.cons_append,Yw,Yb,Yc,Option.getD_some];refine⟨B5 w,k,⟨rfl,h2.2,by lia⟩,λr y=>?_⟩;simp only[Aj];have s:put G r (.lst ((lk 8 k).map Kd.enc)) p=some (.lst (a.map Te.enc)):=AD y _ _ w;have n:put G r (.lst ((lk 8 k).map Kd.enc)) q=some (.lst items):=AD y _ _ v;refine He (enc:=Kd.enc) (f:=λj=>(t.withKd j).enc) (cst:=[some t.enc]) Aj (lk 8 k) none [] (λj z K F=>?_) (by exact A9 (by simp only[Yi];lia)) λp1 d=>?_
  ·walk_at "ph";exact⟨(t,j),⟨rfl,B⟩,F⟩
  ·rw[Yw];have n1:=AJ s d;have J:=AJ n d;refine Fe (xs:=a.map Te.enc) (zs:=(lk 8 k).map λj=>(t.withKd j).enc) (by rw[Av n1];exact s) Aj (by rw[Yh,Yh];exact A9 (by lia)) ?_;have e:a.map Te.enc++((lk 8 k).map λj=>(t.withKd j).enc)=(a++(lk 8 k).map λj=>t.withKd j).map Te.enc:=by rw[Yy,YB];rfl
   rw[e];refine VC i B l _ _ (a++(lk 8 k).map λj=>t.withKd j) (λj z=>A j (Yd _ z)) (by rw[Yj,Yh];lia) Aj ?_ ?_
   ·rw[Av (YY i),Av J];exact n
   ·intro c I g1 g2;refine g c I (by rw[g1,Yv];rfl) λb E u H=>g2 b E u ?_;have m:=AD (o:=.lst ((lk 8 k).map Kd.enc)) y _ _ H;rw[Av E,Av (AJ m d)];exact m
abbrev VD(n:Nat):Spw:=spL (λ(t:Te)ws _=>ws=[t.enc]/\t.ok=true/\t.dp<=n/\t.cnt<=40) λt=>(lt n t).map Te.enc
abbrev Js(n:Nat):GS:=AC (gMt AX BN (Ab 1) (Aa (AO (Ax (Ag (VD n) XF (Aa (Ab 5) Ac))) 1 [0,3,4] (gNm 0) Ay (Ag NG XF (Aa (Ab 1) (Aa (Ag Jm XF (Aa (Ab 2) (Aa (Ab 3) (Aa (Ab 0) Ac)))) Ac)))) Ac))
theorem VE(s:p≠q)(J:t.ok=true)(Q:t.cnt<=40):∀(l:List Te)(i:Nat)(o4 g:Option W)(G:Hw)(a:List Te),(∀ c∈l,c.ok=true/\c.dp<=n)->i+l.length=t.parts.length->a.length+240*AK l<=20000->AK l<=40->G p=some (.lst (a.map Te.enc))->G q=some (.lst (t.parts.map Te.enc))->
  (∀ o4 g m,m p=some (.lst ((a++ltS (lt n) t i l).map Te.enc))->(∀ b,b≠p->∀ u,G b=some u->m b=some u)->D.nx [some t.enc,some (.ref p),E,some (.ref q),o4,g] m)->
  Bs (λG=>rdL G (.ref q)=some (t.parts.map Te.enc)) (AM 4 5) (Js n) D (Ed i (l.map Te.enc)) [some t.enc,some (.ref p),E,some (.ref q),o4,g] G
 | [],i,o4,g,G,a,_,_,_,_,A,w,k=>⟨Cr w,k o4 g G (by show G p=some (.lst ((a++[]).map Te.enc));rw[Yx];exact A) λ_ _ _ h=>h⟩
 | c::l,i,o4,g,G,a,hd,hi,ha,hc,A,w,k=>by
  have L:a.length+240*(c.cnt+AK l)<=20000:=ha;have Z:c.cnt+AK l<=40:=hc;rw[Yg]at hi;obtain⟨I,P⟩:=hd c Ye;have hlt:=VB n c I;refine⟨Cr w,?_⟩;show Js n _ [some t.enc,some (.ref p),E,some (.ref q),some (.int i),some c.enc] G;simp only[Js,AC,gMt,AO,Ax,Ag,Bc,Aa,Ac,Ab,Ym,YI,List.replicate,List.cons_append,Yw,Yb,Yc,Option.getD_some];refine⟨B5 A,c,⟨rfl,I,P,by lia⟩,λr B=>?_⟩;simp only[Aj];have T:(t.parts.map Te.enc).length=t.parts.length:=Yh _;have S:=Ng t;refine Jo (enc:=Te.enc) (f:=λd=>(t.withPs (t.parts.set i d)).enc) (cst:=[some t.enc,some (.ref q),some (.int i)]) (lt n c) none [] _ (λY H=>H _ _ Aj) (λd z Y Q' H N=>?_) (by exact A9 (by simp only[Yi];lia)) λm s' p1 j=>?_
  ·walk_at "ph";refine⟨q,t.parts.map Te.enc,i,d.enc,rfl,H _ _ (AD B _ _ w),by lia,by lia,λO F=>?_⟩;exact⟨t,O,t.parts.set i d,rfl,by rw[Aj,List.map_set],by rw[List.length_set],J,by lia,N _ (AD F)⟩
  ·rw[Yw];have y:m p=some (.lst (a.map Te.enc)):=s' _ _ (AD B _ _ A);have x:m q=some (.lst (t.parts.map Te.enc)):=s' _ _ (AD B _ _ w);have n1:=AJ y j;have X:=AJ x j;refine Fe (xs:=a.map Te.enc) (zs:=(lt n c).map λd=>(t.withPs (t.parts.set i d)).enc) (by rw[Av n1];exact y) Aj (by rw[Yh,Yh];exact A9 (by lia)) ?_;have e:a.map Te.enc++((lt n c).map λd=>(t.withPs (t.parts.set i d)).enc)=(a++(lt n c).map λd=>t.withPs (t.parts.set i d)).map Te.enc:=by rw[Yy,YB];rfl
   rw[e];refine VE s J Q l (i+1) _ _ _ (a++(lt n c).map λd=>t.withPs (t.parts.set i d)) (λd z=>hd d (Yd _ z)) (by lia) (by rw[Yj,Yh];lia) (by lia) Aj ?_ ?_
   ·rw[Av (YY s),Av X];exact x
   ·intro o4 g U g1 g2;refine k o4 g U (by rw[g1,Yv];rfl) λb K u R=>g2 b K u ?_;have v:=s' _ _ (AD (o:=.lst ((lt n c).map Te.enc)) B _ _ R);rw[Av K,Av (AJ v j)];exact v
theorem Eu(T:Tx K mg base a):∀ n:Nat,Df P w K mg base "less_terms" (n+11) 1 (VD n)
 | 0=>Dq T.Sj BX λo G Q E⟨k,⟨_,_,hd,_⟩,_⟩=>by have:=Ja k;lia
 | n+1=>by
  refine mk0 (k:=n+11) T.Sj rfl U7 BX (λo G Q E⟨x,⟨e,_⟩,_⟩=>by rw[e];rfl) (lH T (Ep T) (by lia) (Er T 8) (by lia) (Et T) (by lia) (Cf T) (by lia) (Eu T n) (Yr _) (Es T) (by lia) (Ex T) (by lia)) λo G Q E r q=>?_;obtain⟨t,⟨rfl,f,hd,hc⟩,q⟩:=q;have J:=Da t;have H:=Ek t;have N:=Jk f;have L:=NH (t:=t) t.told (Jq f);unfold U8;show Af (Ao 1 _) _ (Au Q) [some t.enc,none,none,none,none,none] G;refine AF ?_;simp only[Aq,Ac];refine⟨by decide,λp s=>?_⟩;walk_at "pe";show Af (AT _ _ Jr) _ (Au Q) _ _;simp only[Af,AT,Ax,Ag,Aa,Ac,Ab,Yb];refine⟨t,⟨rfl,f⟩,λq0 m=>?_⟩;have i:p≠q0:=AJ Aj m;simp only[Aj];refine VC i f t.told none _ [] (Jq f) (by simp only[Yi];lia) (by rw[Av i];exact Aj) Aj λD z g1 g2=>?_;rw[Yw]at g1;have v:∀ b u,b≠p->G b=some u->z b=some u:=λb u g h=>g2 b g u (AD m _ _ (by rw[Av g];exact h));dsimp only;refine AF ?_;simp only[Ag,Aa,Ac,Ab,Yb];refine⟨t,⟨rfl,f,by lia⟩,λq1 j=>?_⟩;have d:p≠q1:=AJ g1 j;walk_at "pe";show Af (AT _ _ (Js n)) _ (Au Q) _ _;simp only[Af,AT,F1,Aa,Ac,Ab,Yb,Yc];refine⟨.ref q1,t.parts.map Te.enc,rfl,Cr Aj,?_⟩;refine VE d f hc t.parts 0 none none _ (ltK t t.told) (λc l=>⟨En f c l,by have:=Hh l;lia⟩) (by lia) (by lia) (by lia) (by rw[Av d];exact g1) Aj λI F y A B=>?_;simp only[Ai,Ab,Yb,Yc,Au]
  have hs:Sub (put G p (.lst ((lt (n+1) t).map Te.enc))) y:=λb u h=>by
   by_cases g:b=p
   ·subst g;rw[Aj]at h;cases h;exact A
   ·rw[Av g]at h;refine B b g u ?_;have h1:=v b u g h;rw[Av (AJ h1 j)];exact h1
  exact r _ _ _ hs (q p s)
theorem NI:∀ a:List Nat,(a.map λc:Nat=>(c:Int)).sum=((a.sum:Nat):Int)
 | []=>rfl
 | c::a=>by rw[Ym,List.sum_cons,List.sum_cons,NI a];lia
theorem VF:∀(a:List Nat)(j:Nat),(a.take j).sum<=a.sum
 | [],j=>by simp
 | c::a,0=>by simp
 | c::a,j+1=>by have:=VF a j;rw[List.take_succ_cons,List.sum_cons,List.sum_cons];lia
theorem VG:∀{a:List Nat}{c:Nat},c∈a->c<=a.sum
 | d::a,c,h=>by
  rw[List.sum_cons];walk_at "pk"
  ·lia
  ·have:=VG h;lia
theorem VH(a:0<=i)(h1:i<=1000000):InLong i:=by unfold InLong;lia
theorem lW(a:List Nat)(h:a.sum<=1000000):PyProof.Rows.SumFits (a.map λc:Nat=>(c:Int)):=by
 intro j b;rw[Yh]at b;refine⟨?_,?_⟩
 ·have e:(a.map λc:Nat=>(c:Int)).getD j 0=(a[j]:Int):=by rw[Qd,YR,Yp b];rfl
  have:=VG (Qj b);rw[e];exact VH (by lia) (by lia)
 ·rw[<- List.map_take,NI];have:=VF a (j+1);exact VH (by lia) (by lia)
theorem VI{a:List Nat}(h:a.sum<=1000000)(b:G p=some (.lst (a.map λc:Nat=>W.int (c:Int))))(q:Q (.int (a.sum:Nat)) G):Dy [.ref p] G Q:=by
 unfold Dy;simp only[Cq b,Option.bind_some];rw[show(a.map λc:Nat=>W.int (c:Int))=(a.map λc:Nat=>(c:Int)).map W.int by rw[YB];rfl,L3.L8];dsimp only;refine⟨lW a h,?_⟩;rw[NI];exact q
theorem VJ:∀(l:List Kd)(o:Option W)(k0:W)(G:Hw)(a:List W),(∀ c∈l,c.dp<=n)->a.length+A3 l<=20000->A3 l<=10000->p≠q0->G p=some (.lst a)->G q0=some (.lst items)->
  (∀ ω i,(∃ o',ω=[some k0,some (.ref p),o'])->i p=some (.lst (a++(l.flatMap Kd.all).map Kd.enc))->(∀ b,b≠p->∀ u,G b=some u->i b=some u)->D.nx ω i)->
  Bs (holds q0 items) (gNm 2) (AC (gMt AX BN (Ab 1) (Aa (Ag (T4 n) XF (Aa (Ab 2) Ac)) Ac))) D (l.map Kd.enc) [some k0,some (.ref p),o] G
 | [],o,k0,G,a,_,_,_,e,j,g,f=>⟨g,f _ G ⟨o,rfl⟩ (by simpa using j) λ_ _ _ h=>h⟩
 | c::l,o,k0,G,a,hd,hl,hc,e,j,g,f=>by
  have w:c.cnt+A3 l<=10000:=hc;have x:a.length+(c.cnt+A3 l)<=20000:=hl;refine⟨g,?_⟩;show AC _ _ [some k0,some (.ref p),some c.enc] G;walk_at "rd";refine⟨B5 j,c,⟨rfl,hd c Ye,by lia⟩,λr q=>?_⟩;have s:=AJ j q;have k:=AJ g q;refine Fe (by rw[Av s];exact j) Aj (by rw[Yh,Mc];exact A9 (by lia)) ?_;refine VJ l (some c.enc) k0 _ (a++c.all.map Kd.enc) (λd m=>hd d (Yd _ m)) (by rw[Yj,Yh,Mc];lia) (by lia) e Aj ?_ ?_
  ·rw[Av (YY e),Av k];exact g
  ·intro ω i hω h1 h2;refine f ω i hω (by rw[h1,Qe,Yy,Yv]) λb v u t=>h2 b v u ?_;rw[Av v,Av (AJ t q)];exact t
theorem Ei(T:Tx K mg base a):∀ n:Nat,Df P w K mg base "kinds_in" (n+1) 1 (T4 n)
 | 0=>by
  obtain⟨f,fd,h1,F,m⟩:=T.Se;refine⟨⟨f,fd,_,h1,F.kp,m,rfl,⟨λvs H Q E⟨j,G,t,r,k,⟨_,hd,_⟩,_⟩=>absurd hd (by have:=DG k;lia),λA outer s H l B vs Q E _ _ _ _⟨j,G,t,r,k,⟨_,hd,_⟩,_⟩=>absurd hd (by have:=DG k;lia)⟩⟩,BX⟩
 | n+1=>by
  refine mk0 T.Se rfl TZ BX (λj G Q E⟨x,⟨e,_⟩,_⟩=>by rw[e];rfl) (kt T (CI T) (by lia) (Ei T n) (Yr _)) λj G Q E o q=>?_;obtain⟨k,⟨rfl,hd,hc⟩,q⟩:=q;have D:=C9 k;unfold T1;walk_at "rd";refine⟨by decide,λp y=>?_⟩;refine⟨k,⟨rfl,by lia⟩,λq0 d=>?_⟩;have h:p≠q0:=AJ Aj d;simp only[Aj];refine VJ k.kids none k.enc _ [k.enc] (λc hc=>by have:=Fc hc;lia) (by simp only[Yg,Yi];lia) (by lia) h (by rw[Av h];exact Aj) Aj ?_;intro ω v hω h1 h2;obtain⟨o',rfl⟩:=hω;simp only[Yb,Yc]
  have hs:Sub (put G p (.lst (k.all.map Kd.enc))) v:=λb u g=>by
   by_cases i:b=p
   ·subst i;rw[Aj]at g;cases g;rw[h1,R4,Ym];rfl
   ·rw[Av i]at g;refine h2 b i u ?_;rw[Av (λz=>by subst z;rw[Av i]at d;rw[d]at g;cases g),Av i];exact g
  exact o _ _ _ hs (q p y)
theorem Jt:∀(n:Nat){t:Te},t.ok=true->∀ k∈Bi n t,k.cnt<=31/\k.dp<=8
 | 0,t,_,k,a=>by cases a
 | n+1,t,h,k,a=>by
  have b:k∈t.told++t.parts.flatMap (Bi n):=a;rcases Yz.mp b with a | a
  ·exact Jq h k a
  ·obtain⟨c,hc,a⟩:=List.mem_flatMap.mp a;exact Jt n (En h c hc) k a
theorem lX{l:List Kd}(h:∀ k∈l,k.cnt<=40):(l.map Kd.cnt).sum<=40*l.length:=by
 induction l with
 | nil=>exact YX _
 | cons k l a =>
  have h1:=h k Ye;have h2:=a λj b=>h j (Yd _ b);rw[Ym,List.sum_cons,Yg];lia
abbrev VL:List Str:=["term","places","more"]
theorem Ju:AB VL ["term"] (Ap Iv):=by walk_at "s"
def VM:GS:=(Af (gIf (gTB (Ad (Ae (eqF false)) (Ad (Ae ixW) (Ab 0) (gC (.int 0))) (gC (.str "rec")))) (Ai (AI (Ax (Ad (Ae ixW) (Ab 0) (gC (.int 1)))) 1 (gNm 0) Ay (Ad (Ae ixW) (Ab 0) (gC (.int 1))))) Ak) (Af (Ao 1 (Ic ["fun","call","get","or","if","plus","less"] (Aa (Aq (Aa (gC (.int 3)) Ac)) (Aa (Aq (Aa (gC (.int 1)) (Aa (gC (.int 2)) Ac))) (Aa (Aq (Aa (gC (.int 1)) Ac)) (Aa (Aq (Aa (gC (.int 1)) (Aa (gC (.int 3)) Ac))) (Aa (Aq (Aa (gC (.int 1)) (Aa (gC (.int 2)) (Aa (gC (.int 3)) Ac)))) (Aa (Aq (Aa (gC (.int 1)) (Aa (gC (.int 2)) Ac))) (Aa (Aq (Aa (gC (.int 1)) (Aa (gC (.int 2)) Ac))) Ac))))))))) (Af (Ao 2 (Ic ["new","read","write","as"] (Aa (Aq (Aa (gC (.int 1)) Ac)) (Aa (Aq (Aa (gC (.int 1)) Ac)) (Aa (Aq (Aa (gC (.int 1)) (Aa (gC (.int 2)) Ac))) (Aa (Aq (Aa (gC (.int 1)) Ac)) Ac)))))) (Ai (AO (Ax (gMt GH GF (Ab 1) (Aa (Ad (Ae ixW) (Ab 0) (gC (.int 0))) (Aa (gMt GH GF (Ab 2) (Aa (Ad (Ae ixW) (Ab 0) (gC (.int 0))) (Aa (Aq Ac) Ac))) Ac)))) 1 [0] (gNm 0) Ay (Ad (Ae ixW) (Ab 1) (Ab 0)))))))
theorem lY(T:Tx K mg base a):Dn P w K mg base VL "_law_parts" Iv k (VM):=λ{f cdv A outer s H E}hr=>
 have hu:=AQ hr
 have hN:=Ju.nd
 (Az (Cb (by walk_at "v") (AG (Ba (BK (Nc:=["pair"]) rfl (BG rfl (by decide +kernel) (by decide +kernel)) (λ_=>rfl) (by walk_at "v") (CB (i:=0) (by decide) rfl rfl) (λC fp s1 H1=>A6) (λC fp s1 H1=>(by walk_at "v"))))) C5) (Az (FV (i:=1) Ju.nd rfl rfl rfl (RT (ks:=["fun","call","get","or","if","plus","less"]) (by rfl) (by intro h;cases h) (by exact(by decide:7<=15)) (by decide) (C8 (by walk_at "v") (C8 (by walk_at "v") (C8 (by walk_at "v") (C8 (by walk_at "v") (C8 (by walk_at "v") (C8 (by walk_at "v") (C8 (by walk_at "v") RQ))))))))) (Az (FV (i:=2) Ju.nd rfl rfl rfl (RT (ks:=["new","read","write","as"]) (by rfl) (by intro h;cases h) (by exact(by decide:4<=15)) (by decide) (C8 (by walk_at "v") (C8 (by walk_at "v") (C8 (by walk_at "v") (C8 (by walk_at "v") RQ)))))) (AG (Ba (Dl rfl (Cp (own:=["k"]) (fr:=["term"]) (js:=[0]) (scX:=Ap Iv) (n:=s.heap.objs.size+1) rfl (by decide +kernel) (by decide +kernel) (by decide +kernel) (by decide +kernel) rfl rfl rfl (by decide +kernel) rfl) (λ_=>rfl) (by walk_at "v") (CO (i:=0) (by decide) rfl rfl) (λC fp s1 H1=>A6) (λC fp s1 H1=>(by walk_at "v"))))))))
abbrev VN:List Str:=["term","inner"]
theorem NJ:AB VN ["term"] (Ap Iw):=by walk_at "s"
def VO(Jv:Spw)(DV:Spw):GS:=(Af (Ao 1 (AO (Ax (Ag Jv XF (Aa (Ab 0) Ac))) 1 [] (gNm 0) Ay (Ag DV XF (Aa (Ab 0) Ac)))) (Ai (Aq (Aa (Ad (A2) (gC (.int 1)) (gB (Dy) (Aa (AI (Ax (Ab 1)) 1 (gNm 0) Ay (Ad (Ae ixW) (Ab 0) (gC (.int 0)))) Ac))) (Aa (Ad (A2) (gC (.int 1)) (gB (rF Gv) (Aa (Ad (A2) (Aq (Aa (gC (.int 0)) Ac)) (AI (Ax (Ab 1)) 1 (gNm 0) Ay (Ad (Ae ixW) (Ab 0) (gC (.int 1))))) Ac))) Ac)))))
theorem lZ(T:Tx K mg base a)(oy:Df P w K mg base "_law_parts" Jw 1 Jv)(oz:Jw<=k)(l0:Df P w K mg base "_law_size" EB 1 DV)(l5:EB<=k):Dn P w K mg base VN "_law_size" Iw k (VO Jv DV):=λ{f cdv A outer s H E}hr=>
 have hu:=AQ hr
 have hN:=NJ.nd
 (Az (HS (i:=1) NJ.nd rfl rfl rfl rfl (Cp (own:=["part"]) (fr:=[]) (js:=[]) (scX:=Ap Iw) (n:=s.heap.objs.size+1) rfl (by decide +kernel) (by decide +kernel) (by decide +kernel) (by decide +kernel) rfl rfl rfl (by decide +kernel) rfl) (λ_=>rfl) (by walk_at "v") (CO (i:=0) (by decide) rfl rfl) (λC fp s1 H1=>A6) (λC fp s1 H1=>(by walk_at "v"))) (AG (Ba (HK (AH rfl (E6 Lc (BW Lx (Lp rfl) rfl T.MQ (by decide) rfl rfl rfl (AH rfl (BK (Nc:=["one"]) rfl (BG rfl (by decide +kernel) (by decide +kernel)) (λ_=>rfl) (by walk_at "v") (CB (i:=0) (by decide) rfl rfl) (λC fp s1 H1=>A6) (λC fp s1 H1=>(by walk_at "v"))) A5))) (AH rfl (E6 Lc (BW QJ (QC rfl) rfl T.Sx (by decide) rfl rfl rfl (AH rfl (E6 (by walk_at "v") (BK (Nc:=["one"]) rfl (BG rfl (by decide +kernel) (by decide +kernel)) (λ_=>rfl) (by walk_at "v") (CB (i:=0) (by decide) rfl rfl) (λC fp s1 H1=>A6) (λC fp s1 H1=>(by walk_at "v")))) A5))) A5))))))
abbrev VP:List Str:=["state","want","found","deep","more","size"]
theorem VQ:AB VP ["state","want"] (Ap MN):=by walk_at "s"
def VR(AL:Spw)(DV:Spw)(AE:Spw):GS:=(Af (Ao 2 (Ah (Aa (gC (.str "num")) (Aa (gC (.int 0)) Ac)))) (Af (AT (Ax (Aq (Aa (gC (.int 1)) (Aa (gC (.int 2)) (Aa (gC (.int 2)) (Aa (gC (.int 3)) (Aa (gC (.int 3)) Ac))))))) (gNm 3) (Af (Ao 4 (Ag AL XF (Aa (Ab 0) (Aa (Ab 1) (Aa H9 (Aa (Ab 3) Ac)))))) (Af (Ao 5 (Ag DV XF (Aa (Ab 4) Ac))) (gIf (A8 (gTB (Ad (A1 (λi j=>decide (i<=j)) (λa b=>!AW b a)) (Ad (Ae ixW) (Ab 5) (gC (.int 0))) (gC (.int 40)))) (A8 (gTB (Ad (A1 (λi j=>decide (i<=j)) (λa b=>!AW b a)) (Ad (Ae ixW) (Ab 5) (gC (.int 1))) (gC (.int 10)))) (gOr (gTB (Ad (Ae (eqF false)) (Ab 2) (Ah (Aa (gC (.str "num")) (Aa (gC (.int 0)) Ac))))) (gTB (Ad (Be λi j=>decide (j < i)) (Ag AE XF (Aa (Ab 0) (Aa (gC (.int 3)) Ac))) (gC (.int 0))))))) (Ao 2 (Ab 4)) Ak)))) (Ai (Ab 2))))
theorem l6(T:Tx K mg base a)(Jx:Df P w K mg base "_law_term" BP 4 AL)(Jy:BP<=k)(l0:Df P w K mg base "_law_size" EB 1 DV)(l5:EB<=k)(EC:Df P w K mg base "_law_take" AS 2 AE)(ED:AS<=k):Dn P w K mg base VP "_law_drawn" MN k (VR AL DV AE):=by
 have hN:=VQ.nd;walk_at "z"
theorem Fp{r:As}(h:r.sorts=[]):r=.nil:=by cases r <;> first | rfl | cases h
theorem l8{r:As}(h:r.sorts=("number":Str)::ss):∃ t r',r=.num t r'/\r'.sorts=ss:=by cases r <;> first | exact⟨_,_,rfl,(List.cons.inj h).2⟩| exact absurd (List.cons.inj h).1 (by decide +kernel)| cases h
theorem ma{r:As}(h:r.sorts=("truth":Str)::ss):∃ t r',r=.tru t r'/\r'.sorts=ss:=by cases r <;> first | exact⟨_,_,rfl,(List.cons.inj h).2⟩| exact absurd (List.cons.inj h).1 (by decide +kernel)| cases h
theorem Jz{r:As}(h:r.sorts=("name":Str)::ss):∃ t r',r=.nam t r'/\r'.sorts=ss:=by cases r <;> first | exact⟨_,_,rfl,(List.cons.inj h).2⟩| exact absurd (List.cons.inj h).1 (by decide +kernel)| cases h
theorem VS{r:As}(h:r.sorts=("kind":Str)::ss):∃ t r',r=.knd t r'/\r'.sorts=ss:=by cases r <;> first | exact⟨_,_,rfl,(List.cons.inj h).2⟩| exact absurd (List.cons.inj h).1 (by decide +kernel)| cases h
theorem Fq{r:As}(h:r.sorts=("term":Str)::ss):∃ t r',r=.trm t r'/\r'.sorts=ss:=by cases r <;> first | exact⟨_,_,rfl,(List.cons.inj h).2⟩| exact absurd (List.cons.inj h).1 (by decide +kernel)| cases h
theorem VT{w:Str}{r:As}(h:KTD.datumAt w AR=some r.sorts)(g:w≠"rec"):(w="num"/\∃ i,r=.num i .nil)\/(w="truth"/\∃ b,r=.tru b .nil)\/(w="name"/\∃ x,r=.nam x .nil)\/(w="fun"/\∃ x k t,r=.nam x (.knd k (.trm t .nil)))\/(w="get"/\∃ t x,r=.trm t (.nam x .nil))\/(w="or"/\∃ t x u,r=.trm t (.nam x (.trm u .nil)))\/(w="if"/\∃ t u v,r=.trm t (.trm u (.trm v .nil)))\/(w="as"/\∃ t k,r=.trm t (.knd k .nil))\/((w="new"\/w="read")/\∃ t,r=.trm t .nil)\/((w="call"\/w="plus"\/w="less"\/w="write")/\∃ t u,r=.trm t (.trm u .nil)):=by
 have f:=Je h
 have two:∀{r:As},r.sorts=[("term":Str),"term"]->∃ t u,r=.trm t (.trm u .nil):=λe=>by
  obtain⟨t,r1,rfl,a⟩:=Fq e;obtain⟨u,d,rfl,c⟩:=Fq a;rw[Fp c];exact⟨t,u,rfl⟩
 have one:∀{r:As},r.sorts=[("term":Str)]->∃ t,r=.trm t .nil:=λe=>by
  obtain⟨t,r1,rfl,a⟩:=Fq e;rw[Fp a];exact⟨t,rfl⟩
 simp only[AR,Yo,Prod.mk.injEq,Qc,or_false]at f;rcases f with⟨rfl,e⟩|⟨rfl,e⟩|⟨rfl,e⟩|⟨rfl,e⟩|⟨rfl,e⟩|⟨rfl,e⟩|⟨rfl,e⟩|⟨rfl,e⟩|⟨rfl,e⟩|⟨rfl,e⟩|⟨rfl,e⟩|⟨rfl,e⟩|⟨rfl,e⟩|⟨rfl,e⟩|⟨rfl,e⟩
 ·obtain⟨i,r1,rfl,a⟩:=l8 e;rw[Fp a];exact .inl ⟨rfl,i,rfl⟩
 ·obtain⟨i,r1,rfl,a⟩:=ma e;rw[Fp a];exact .inr (.inl ⟨rfl,i,rfl⟩)
 ·obtain⟨i,r1,rfl,a⟩:=Jz e;rw[Fp a];exact .inr (.inr (.inl ⟨rfl,i,rfl⟩))
 ·obtain⟨x,r1,rfl,a⟩:=Jz e;obtain⟨k,d,rfl,c⟩:=VS a;obtain⟨t,rfl⟩:=one c;exact .inr (.inr (.inr (.inl ⟨rfl,x,k,t,rfl⟩)))
 ·exact .inr (.inr (.inr (.inr (.inr (.inr (.inr (.inr (.inr ⟨.inl rfl,two e⟩))))))))
 ·exact absurd rfl g
 ·obtain⟨t,r1,rfl,a⟩:=Fq e;obtain⟨x,d,rfl,c⟩:=Jz a;rw[Fp c];exact .inr (.inr (.inr (.inr (.inl ⟨rfl,t,x,rfl⟩))))
 ·obtain⟨t,r1,rfl,a⟩:=Fq e;obtain⟨x,d,rfl,c⟩:=Jz a;obtain⟨u,rfl⟩:=one c;exact .inr (.inr (.inr (.inr (.inr (.inl ⟨rfl,t,x,u,rfl⟩)))))
 ·obtain⟨t,r1,rfl,a⟩:=Fq e;obtain⟨u,v,rfl⟩:=two a;exact .inr (.inr (.inr (.inr (.inr (.inr (.inl ⟨rfl,t,u,v,rfl⟩))))))
 ·exact .inr (.inr (.inr (.inr (.inr (.inr (.inr (.inr (.inr ⟨.inr (.inl rfl),two e⟩))))))))
 ·exact .inr (.inr (.inr (.inr (.inr (.inr (.inr (.inr (.inr ⟨.inr (.inr (.inl rfl)),two e⟩))))))))
 ·exact .inr (.inr (.inr (.inr (.inr (.inr (.inr (.inr (.inl ⟨.inl rfl,one e⟩))))))))
 ·exact .inr (.inr (.inr (.inr (.inr (.inr (.inr (.inr (.inl ⟨.inr rfl,one e⟩))))))))
 ·exact .inr (.inr (.inr (.inr (.inr (.inr (.inr (.inr (.inr ⟨.inr (.inr (.inr rfl)),two e⟩))))))))
 ·obtain⟨t,r1,rfl,a⟩:=Fq e;obtain⟨k,d,rfl,c⟩:=VS a;rw[Fp c];exact .inr (.inr (.inr (.inr (.inr (.inr (.inr (.inl ⟨rfl,t,k,rfl⟩)))))))
def JA:List Int->GA
 | []=>Ac
 | i::r=>Aa (gC (.int i)) (JA r)
def JB:List (List Int)->GA
 | []=>Ac
 | l::r=>Aa (Aq (JA l)) (JB r)
theorem VU:∀(l:List Int)(R:List W->Hw->Prop),R (l.map W.int) G->JA l ω G R
 | [],R,h=>h
 | i::l,R,h=>VU l (λxs a=>R (W.int i::xs) a) h
def LL(G:Hw):List W->List (List Int)->Prop
 | [],[]=>True
 | p::ps,l::ls=>(∃ a,p=.ref a/\G a=some (.lst (l.map W.int)))/\LL G ps ls
 | _,_=>False
theorem LL.mono(s:Sub G c):∀{ps:List W}{b:List (List Int)},LL G ps b->LL c ps b
 | [],[],_=>trivial
 | p::ps,l::b,h=>by
  obtain⟨⟨a,e,g⟩,h⟩:=h;exact⟨⟨a,e,s _ _ g⟩,LL.mono s h⟩
theorem NK:∀(b:List (List Int))(G:Hw)(R:List W->Hw->Prop),(∀ l∈b,l.length<=10)->(∀ ps a,Sub G a->LL a ps b->R ps a)->JB b ω G R
 | [],G,R,_,h=>h [] G Sub.refl trivial
 | l::b,G,R,hl,h=>by
  have h1:=hl l Ye;show JA l ω G _;refine VU l _ ⟨by rw[Yh];exact A9 (by lia),λp c=>?_⟩;refine NK b _ _ (λm d=>hl m (Yd _ d)) λps a s h2=>?_;exact h (.ref p::ps) a ((AD c).trans s) ⟨⟨p,rfl,s _ _ Aj⟩,h2⟩
def plc:List Str->List (List Int)->Str->Option (List Int)
 | k::ks,l::ls,x=>if k=x then some l else plc ks ls x
 | _,_,_=>none
theorem NL:∀{ks:List Str}{b:List (List Int)}{ps:List W},LL G ps b->ks.length=b.length->(∀ l,plc ks b x=some l->∃ a,BO (kvW ks ps) x d=.ref a/\G a=some (.lst (l.map W.int)))/\(plc ks b x=none->BO (kvW ks ps) x d=d)
 | [],[],[],_,_=>⟨(λl h=>by cases h),λ_=>rfl⟩
 | k::ks,l::b,p::ps,h,hl=>by
  obtain⟨⟨a,rfl,g⟩,h⟩:=h;have j:=NL (x:=x) (d:=d) (ks:=ks) h (by simpa using hl)
  have i:BO (kvW (k::ks) (W.ref a::ps)) x d=if k=x then .ref a else BO (kvW ks ps) x d:=by
   show BO ((Sum.inr k,W.ref a)::kvW ks ps) x d=_;rw[GC];by_cases e:k=x
   ·rw[if_pos e,if_pos (by rw[e])]
   ·rw[if_neg e,if_neg λz=>e (Sum.inr.inj z)]
  have c:plc (k::ks) (l::b) x=if k=x then some l else plc ks b x:=rfl
  rw[i,c];by_cases e:k=x
  ·rw[if_pos e,if_pos e];exact⟨(λm f=>by cases f;exact⟨a,rfl,g⟩),λz=>by cases z⟩
  ·rw[if_neg e,if_neg e];exact j
abbrev K7:List Str:=["fun","call","get","or","if","plus","less"]
abbrev L7:List (List Int):=[[3],[1,2],[1],[1,3],[1,2,3],[1,2],[1,2]]
abbrev K4:List Str:=["new","read","write","as"]
abbrev L4:List (List Int):=[[1],[1],[1,2],[1]]
def By(w:Str):List Int:=(plc K7 L7 w).getD ((plc K4 L4 w).getD [])
theorem map_some{α β:Type}{g:α->Option β}{d:β}:∀{l:List α}{ys:List β},l.map g=ys.map some->(∀ i∈l,g i=some ((g i).getD d))/\l.map (λi=>(g i).getD d)=ys
 | [],[],_=>⟨(λi hi=>by cases hi),rfl⟩
 | x::l,y::ys,h=>by
  rw[Ym,Ym]at h;obtain⟨h1,h2⟩:=List.cons.inj h;obtain⟨a,b⟩:=map_some (d:=d) h2;constructor
  ·intro i hi;rcases Yo.mp hi with rfl | hi
   ·rw[h1];rfl
   ·exact a i hi
  ·rw[Ym,b,h1];rfl
 | [],y::ys,h=>by cases h
 | x::l,[],h=>by cases h
theorem md{w:Str}{r:As}(h:KTD.datumAt w AR=some r.sorts)(a:w≠"rec"):(By w).map (atI (.str w::r.enc))=(r.parts.map Te.enc).map some:=by
 rcases VT h a with⟨rfl,i,rfl⟩|⟨rfl,i,rfl⟩|⟨rfl,i,rfl⟩|⟨rfl,x,k,t,rfl⟩|⟨rfl,t,x,rfl⟩|⟨rfl,t,x,u,rfl⟩|⟨rfl,t,u,v,rfl⟩|⟨rfl,t,k,rfl⟩|⟨rfl | rfl,t,rfl⟩|⟨rfl | rfl | rfl | rfl,t,u,rfl⟩
 ·rw[show By "num"=[] by decide +kernel];rfl
 ·rw[show By "truth"=[] by decide +kernel];rfl
 ·rw[show By "name"=[] by decide +kernel];rfl
 ·rw[show By "fun"=[3] by decide +kernel];rfl
 ·rw[show By "get"=[1] by decide +kernel];rfl
 ·rw[show By "or"=[1,3] by decide +kernel];rfl
 ·rw[show By "if"=[1,2,3] by decide +kernel];rfl
 ·rw[show By "as"=[1] by decide +kernel];rfl
 ·rw[show By "new"=[1] by decide +kernel];rfl
 ·rw[show By "read"=[1] by decide +kernel];rfl
 ·rw[show By "call"=[1,2] by decide +kernel];rfl
 ·rw[show By "plus"=[1,2] by decide +kernel];rfl
 ·rw[show By "less"=[1,2] by decide +kernel];rfl
 ·rw[show By "write"=[1,2] by decide +kernel];rfl
theorem Jw(T:Tx K mg base a):Df P w K mg base "_law_parts" 1 1 Jf:=by
 refine mk0 T.jm rfl Ju BX (λws G Q E⟨x,⟨e,_⟩,_⟩=>by rw[e];rfl) (lY T) λws G Q E hC q=>?_;obtain⟨t,⟨rfl,ho,hc⟩,q⟩:=q;cases t with
 | nd w r =>
 obtain⟨h1,h2⟩:=CS ho;unfold VM;show Af (gIf _ _ Ak) _ (Au Q) [some (.tup (.str w::r.enc)),none,none] G;walk_at "pl";by_cases e:w="rec"
 ·rw[show(w==("rec":Str))=true by simp[e]];obtain⟨f,rfl⟩:=(Fg h1).1 e;have hc':1+(f.cnt+0)<=20000:=hc;have hf:=Nk f;have J:((AY f.names&&f.ok)&&true)=true:=h2;simp only[Bool.and_true,YG]at J;simp only[show(true != false)=true from rfl,if_true,Ai,AI,Ax,Ad,Ae,Ab,gC,Yb,As.enc,ixW,Bb,An,Au,List.replicate];refine Ef (f:=Jd) trivial f.enc none [] (λx hx Y h=>?_) (by simp only[Yi];exact A9 (by lia)) ?_
  ·obtain⟨n,u,rfl,_⟩:=Nj J.2 hx;show Ad (Ae ixW) (Ab 0) (gC (.int 1)) [some (W.tup [.str n,u])] _ Y;simp only[Ad,Ae,Ab,gC,Yb,ixW,Bb,An];exact h
  ·rw[Yw,Ni];have h:∀ p,G p=none->Q (.ref p) (put G p (.lst ((f.terms++[]).map Te.enc))):=q;rw[Yx]at h;exact h
 ·rw[show(w==("rec":Str))=false by simpa using e];simp only[show(false != false)=false from rfl,Yq,if_false,Ak];obtain⟨m1,Z⟩:=map_some (d:=W.non) (md h1 e)
  have hpl:(By w).length<=10:=by
   have z:=congrArg List.length Z;rw[Yh,Yh]at z;have:=Ng (.nd w r)
   have s3:r.parts.length<=3:=by
    have:=Fh h1;rcases VT h1 e with⟨_,i,rfl⟩|⟨_,i,rfl⟩|⟨_,i,rfl⟩|⟨_,x,k,t,rfl⟩|⟨_,t,x,rfl⟩|⟨_,t,x,u,rfl⟩|⟨_,t,u,v,rfl⟩|⟨_,t,k,rfl⟩|⟨_,t,rfl⟩|⟨_,t,u,rfl⟩ <;> first | exact(show(0:Nat)<=3 by decide)| exact(show(1:Nat)<=3 by decide)| exact(show(2:Nat)<=3 by decide)| exact(show(3:Nat)<=3 by decide)
   lia
  refine AF ?_;show JB L7 _ G _;refine NK L7 G _ (by decide) λg G1 s1 l7=>⟨by decide +kernel,λH L=>?_⟩;walk_at "pe";have R:=Bh (o:=.dct (kvW K7 g)) s1 L;have s:=l7.mono (AD (o:=.dct (kvW K7 g)) L);have O:put G1 H (.dct (kvW K7 g)) H=some (.dct (kvW K7 g)):=Aj;generalize put G1 H (.dct (kvW K7 g))=G2 at R s O ⊢;refine AF ?_;show JB L4 _ G2 _;refine NK L4 G2 _ (by decide) λc U s3 l4=>⟨by decide +kernel,λm B=>?_⟩;walk_at "pe";have A:=Bh (o:=.dct (kvW K4 c)) s3 B;have I:=l4.mono (AD (o:=.dct (kvW K4 c)) B);have g4:put U m (.dct (kvW K4 c)) m=some (.dct (kvW K4 c)):=Aj;generalize put U m (.dct (kvW K4 c))=N at A I g4 ⊢;simp only[Ai,AO,Ax,gMt,Bc,Aq,Ad,Ae,Aa,Ac,Ab,gC,Ym,YI,List.replicate,List.cons_append,Yw,Yb,Yc,Option.getD_some,ixW,Bg,An,Au];refine⟨⟨H,_,rfl,A _ _ O⟩,⟨m,_,rfl,g4⟩,by decide,λp hp=>?_⟩;have F:Sub N (put N p (.lst [])):=AD hp;have j:=I.mono F;have y:=(s.mono A).mono F;refine⟨m,kvW K4 c,w,.ref p,rfl,rfl,F _ _ g4,H,kvW K7 g,w,_,rfl,rfl,F _ _ (A _ _ O),?_⟩
  obtain⟨b,eb,gb⟩:∃ b,BO (kvW K7 g) w (BO (kvW K4 c) w (.ref p))=.ref b/\put N p (.lst []) b=some (.lst ((By w).map W.int)):=by
   unfold By;obtain⟨a1,a2⟩:=NL (x:=w) (d:=BO (kvW K4 c) w (.ref p)) (ks:=K7) y rfl;cases X:plc K7 L7 w with
   | some l=>exact a1 l X
   | none =>
    rw[a2 X];obtain⟨b1,b2⟩:=NL (x:=w) (d:=W.ref p) (ks:=K4) j rfl;cases S:plc K4 L4 w with
    | some l=>exact b1 l S
    | none=>rw[b2 S];exact⟨p,rfl,Aj⟩
  rw[eb];simp only[gb];refine He (enc:=W.int) (f:=λi=>(atI (.str w::r.enc) i).getD .non) (cst:=[some (.tup (.str w::r.enc))]) gb (By w) none [] (λi hi Y h=>?_) (by exact A9 (by simp only[Yi];lia)) λp1 D=>?_
  ·simp only[Ad,Ae,Ab,Yb,Yc];show opt (atI (.str w::r.enc) i) _;rw[m1 i hi,An];exact h
  ·rw[Yw,Z];have sb:Sub G (put N p (.lst [])):=R.trans (A.trans F)
   have hn:G p1=none:=by
    cases z:G p1 with
    | none=>rfl
    | some u=>rw[sb _ _ z]at D;cases D
   exact hC _ _ _ (Sub.put2 sb) (q p1 hn)
def SZ(G:Hw):List W->List Te->Prop
 | [],[]=>True
 | p::ps,t::ts=>(∃ b,p=.ref b/\G b=some (.lst [.int (t.cnt:Nat),.int (t.dp:Nat)]))/\SZ G ps ts
 | _,_=>False
theorem SZ.mono{a:Hw}(s:Sub G a):∀{ps:List W}{ts:List Te},SZ G ps ts->SZ a ps ts
 | [],[],_=>trivial
 | p::ps,t::ts,h=>by
  obtain⟨⟨b,e,g⟩,h⟩:=h;exact⟨⟨b,e,s _ _ g⟩,SZ.mono s h⟩
theorem SZ.len:∀{ps:List W}{ts:List Te},SZ G ps ts->ps.length=ts.length
 | [],[],_=>rfl
 | p::ps,t::ts,h=>congrArg (·+1) (SZ.len h.2)
abbrev NM(n:Nat):Spw:=spL (λ(t:Te)ws _=>ws=[t.enc]/\t.ok=true/\t.dp<=n/\t.cnt<=20000) λt=>[.int (t.cnt:Nat),.int (t.dp:Nat)]
theorem VV:∀(l:List Te)(o:Option W)(G:Hw)(ys:List W),(∀ t∈l,t.ok=true/\t.dp<=n/\t.cnt<=20000)->ys.length+l.length<=30000->G q=some (.lst items)->(∀ ps a,Sub G a->SZ a ps l->R (ys++ps) a)->
  AN (holds q items) (gNm 0) Ay (Ag (NM n) XF (Aa (Ab 0) Ac)) R (l.map Te.enc) [o] G ys
 | [],o,G,ys,_,_,c,r=>⟨c,by have h:=r [] G Sub.refl trivial;rw[Yx]at h;exact h⟩
 | t::l,o,G,ys,d,hl,c,r=>by
  walk_at "pv";refine⟨c,Bq (by lia),?_⟩;simp only[gNm,Ay,if_true,Yk,Ag,Aa,Ac,Ab,Yb];refine⟨t,⟨rfl,d t Ye⟩,λb e=>?_⟩;refine VV l _ _ (ys++[.ref b]) (λu f=>d u (Yd _ f)) (by rw[Yj];simp only[Yg,Yi];lia) (AD e _ _ c) λps a s h=>?_;rw[Yv];exact r (.ref b::ps) a ((AD e).trans s) ⟨⟨b,rfl,s _ _ Aj⟩,h⟩
theorem NO(a:G q=some (.lst items))(c:∀ t:Te,atI [W.int (t.cnt:Nat),.int (t.dp:Nat)] i=some (f t)):∀(ps:List W)(l:List Te)(o:Option W)(ys:List W),SZ G ps l->ys.length+l.length<=30000->R (ys++l.map f) G->
  AN (holds q items) (gNm 0) Ay (Ad (Ae ixW) (Ab 0) (gC (.int i))) R ps [o] G ys
 | [],[],o,ys,_,_,r=>⟨a,by rw[YI,Yx]at r;exact r⟩
 | p::ps,t::l,o,ys,h,hl,r=>by
  obtain⟨⟨b,rfl,g⟩,h⟩:=h;walk_at "pv";refine⟨a,Bq (by lia),?_⟩;simp only[gNm,Ay,if_true,Yk,Ad,Ae,Ab,gC,Yb];rw[Ee g,c t,An];refine NO a c ps l _ _ h (by rw[Yj];simp only[Yg,Yi];lia) ?_;rw[Yv];exact r
theorem mf(x y:Int)(r:List Int):Co (x::y::r)=max x (Co (y::r)):=rfl
theorem VW:∀(l:List Te)(x:Int),0<=x->Co (x::l.map λc=>(c.dp:Int))=max x (tdp l:Int)
 | [],x,h=>by show x=max x ((0:Nat):Int);lia
 | c::l,x,h=>by
  rw[Ym,mf,VW l (c.dp:Int) (by lia)];show max x (max (c.dp:Int) (tdp l:Int))=max x ((max c.dp (tdp l):Nat):Int);lia
theorem VX:∀ l:List Te,AK l=(l.map Te.cnt).sum
 | []=>rfl
 | k::l=>by rw[Ym,List.sum_cons,<- VX l];rfl
theorem EB(T:Tx K mg base a):∀ n:Nat,Df P w K mg base "_law_size" (n+2) 1 (NM n)
 | 0=>Dq T.Sr BX λS G Q E⟨k,⟨_,_,hd,_⟩,_⟩=>by have:=Ja k;lia
 | n+1=>by
  refine mk0 (k:=n+2) T.Sr rfl NJ BX (λS G Q E⟨x,⟨e,_⟩,_⟩=>by rw[e];rfl) (lZ T (Jw T) (by lia) (EB T n) (Yr _)) λS G Q E U q=>?_;obtain⟨t,⟨rfl,O,hd,hc⟩,q⟩:=q;have e1:=Da t;have e2:=Ek t;have hpl:=Jb t.parts;unfold VO;show Af (Ao 1 _) _ (Au Q) [some t.enc,none] G;refine AF ?_;simp only[AO,Ax,Ag,Bc,Aa,Ac,Ab,Yb,List.replicate,YI,Yx];refine⟨t,⟨rfl,O,by lia⟩,λp X=>?_⟩;simp only[Aj];refine VV t.parts none _ [] (λc g=>⟨En O c g,by have:=Hh g;lia,by have:=Jc g;lia⟩) (by simp only[Yi];lia) Aj λps L Y hs p1 m=>?_;rw[Yw];walk_at "pe";have sA:=(AD (o:=.lst (t.parts.map Te.enc)) X).trans Y;have J:=Bh (o:=.lst ps) sA m;have h:=hs.mono (AD (o:=.lst ps) m);have g1:put L p1 (.lst ps) p1=some (.lst ps):=Aj;generalize put L p1 (.lst ps)=G2 at J h g1 ⊢;simp only[Ai,Aq,Ad,gB,AI,Ax,Aa,Ac,Ab,gC,Yb,Yc,List.replicate,Au,g1];refine NO (f:=λt=>.int (t.cnt:Nat)) g1 (λt=>rfl) ps t.parts none [] h (by simp only[Yi];lia) λp2 b=>?_;rw[Yw,show(t.parts.map λt=>W.int (t.cnt:Nat))=(t.parts.map Te.cnt).map λc:Nat=>W.int (c:Int) by rw[YB];rfl];have i:=VX t.parts;refine VI (by lia) Aj ?_;rw[<- i];have F:=Bh (o:=.lst ((t.parts.map Te.cnt).map λc:Nat=>W.int (c:Int))) J b;have v:=h.mono (AD (o:=.lst ((t.parts.map Te.cnt).map λc:Nat=>W.int (c:Int))) b);have g2:=AD (o:=.lst ((t.parts.map Te.cnt).map λc:Nat=>W.int (c:Int))) b _ _ g1;generalize put G2 p2 (.lst ((t.parts.map Te.cnt).map λc:Nat=>W.int (c:Int)))=G3 at F v g2 ⊢;rw[show A2 (.int 1) (.int ((AK t.parts:Nat):Int)) G3=λZ=>Z (.int (1+((AK t.parts:Nat):Int))) G3 from rfl];refine⟨(Qzz 1),λp3 d=>?_⟩;have g3:=AD (o:=.lst [.int 0]) d _ _ g2;have l:=v.mono (AD (o:=.lst [.int 0]) d);have N:=Bh (o:=.lst [.int 0]) F d;have R:put G3 p3 (.lst [.int 0]) p3=some (.lst [.int 0]):=Aj;generalize put G3 p3 (.lst [.int 0])=G4 at g3 l N R ⊢;simp only[g3];refine NO (f:=λt=>.int (t.dp:Nat)) g3 (λt=>rfl) ps t.parts none [] l (by simp only[Yi];lia) λA r=>?_;rw[Yw];have I:=Bh (o:=.lst (t.parts.map λt=>W.int (t.dp:Nat))) N r;have s:=AD (o:=.lst (t.parts.map λt=>W.int (t.dp:Nat))) r _ _ R;have H:put G4 A (.lst (t.parts.map λt=>W.int (t.dp:Nat))) A=some (.lst (t.parts.map λt=>W.int (t.dp:Nat))):=Aj;generalize put G4 A (.lst (t.parts.map λt=>W.int (t.dp:Nat)))=G5 at I s H ⊢;rw[FX (λz=>by obtain⟨⟨u,hu⟩,_⟩:=z;cases hu)];unfold Bk;simp only[s,H];refine⟨by rw[Yh];exact A9 (by simp only[Yg,Yi];lia),λp5 y=>?_⟩;have e5:[W.int 0]++(t.parts.map λt=>W.int (t.dp:Nat))=(0::t.parts.map λc=>(c.dp:Int)).map W.int:=by rw[Ym,YB];rfl
  rw[e5];simp only[rF,Gv,Cq Aj,Option.bind_some,L3.L8];rw[if_pos (by simp only[Yg];lia),An,VW _ 0 (Int.le_refl 0)];have D:=Bh (o:=.lst ((0::t.parts.map λc=>(c.dp:Int)).map W.int)) I y;generalize put G5 p5 (.lst ((0::t.parts.map λc=>(c.dp:Int)).map W.int))=G6 at D ⊢;rw[show A2 (.int 1) (.int (max 0 ((tdp t.parts:Nat):Int))) G6=λZ=>Z (.int (1+max 0 ((tdp t.parts:Nat):Int))) G6 from rfl];refine⟨(Qzz 2),λB j=>?_⟩
  have hn:G B=none:=by
   cases z:G B with
   | none=>rfl
   | some u=>rw[D _ _ z]at j;cases j
  rw[show(1:Int)+((AK t.parts:Nat):Int)=((t.cnt:Nat):Int) by lia,show(1:Int)+max 0 ((tdp t.parts:Nat):Int)=((t.dp:Nat):Int) by lia];exact U _ _ _ (Sub.put2 D) (q B hn)
mutual
theorem Ft:∀ k:Kd,dpW k.enc<=3*k.dp
 | .any=>by show 1<=3*1;lia
 | .num=>by show 1<=3*1;lia
 | .truth=>by show 1<=3*1;lia
 | .to x y=>by have:=Ft x;have:=Ft y;show max 0 (max (dpW x.enc) (max (dpW y.enc) 0))+1<=3*(1+max x.dp y.dp);lia
 | .box x=>by have:=Ft x;show max 0 (max (dpW x.enc) 0)+1<=3*(1+x.dp);lia
 | .row fs o=>by have:=NP fs;show max 0 (max (L3.dpL fs.enc+1) (max 0 0))+1<=3*(1+fs.dp);lia
theorem NP:∀ fs:Fs,L3.dpL fs.enc<=3*fs.dp+1
 | .nil=>YX _
 | .cons n m k r=>by
  have:=Ft k;have:=NP r;show max (max 0 (max 0 (max (dpW k.enc) 0))+1) (L3.dpL r.enc)<=3*max k.dp r.dp+1;lia
end
theorem mh:∀ xs:List W,Bm xs []=some xs.isEmpty
 | []=>rfl
 | _::_=>rfl
theorem NQ{lo:Option Int}(h:Q (.tup (BH xs lo hi)) G):slA (.tup xs) lo hi G Q:=h
theorem VY{k:Kd}(h:k.hd≠"row"):k.enc=.tup (.str k.hd::k.kids.map Kd.enc):=by
 cases k with
 | row fs o=>exact absurd rfl h
 | _=>rfl
abbrev VZ:List Str:=["script","k","cell"]
theorem V0:AB VZ ["script","k"] (Ap MG):=by walk_at "s"
def V1:GS:=(Af (Ao 2 (gC (.int 0))) (Af (gIf (gTB (Ad (A1 (λi j=>decide (i < j)) AW) (Ab 1) (gB (rF Bf) (Aa (Ab 0) Ac)))) (Ao 2 (Ad (Ae ixW) (Ab 0) (Ab 1))) Ak) (Af (gIf (gTB (Ad (Be λi j=>decide (j<=i)) (Ab 2) (Ad (Aw EO λi j=>i ^ j.toNat) (gC (.int 10)) (gC (.int 18))))) (Ai (Aq (Aa (Ad (Aw (λ_ _=>True) λi j=>i - j) (Ab 2) (Ad (Aw EO λi j=>i ^ j.toNat) (gC (.int 10)) (gC (.int 18)))) (Aa (gC (.int 1)) Ac)))) Ak) (Ai (Aq (Aa (Ad (Aw (λ_ j=>0 < j) λi j=>i % j) (Ad (Bk) (Ab 2) (Ad (Aw CMul λi j=>i*j) (gC (.int 7919)) (Ab 1))) (gC (.int 2147483647))) (Aa (gC (.int 0)) Ac)))))))
theorem mj(T:Tx K mg base a):Dn P w K mg base VZ "_law_state" MG k (V1):=by
 have hN:=V0.nd;walk_at "z"
abbrev V2:List Str:=["state","many","mixed","found"]
theorem V3:AB V2 ["state","many"] (Ap MH):=by walk_at "s"
def V4:GS:=(Af (gIf (A8 (gTB (Ad (Ae (eqF false)) (Ad (Ae ixW) (Ab 0) (gC (.int 1))) (gC (.int 1)))) (gTB (Ad (Be λi j=>decide (j < i)) (Ad (Ae ixW) (Ab 0) (gC (.int 0))) (gC (.int 0))))) (Af (Ao 3 (Ad (Aw (λ_ j=>0 < j) λi j=>i % j) (Ad (Ae ixW) (Ab 0) (gC (.int 0))) (Ab 1))) (Af (CC (Ad (Aw EN λi j=>i / j) (Ad (Ae ixW) (Ab 0) (gC (.int 0))) (Ab 1)) (Ab 0) (gC (.int 0))) (Ai (Ab 3)))) Ak) (Af (CC (gC (.int 0)) (Ab 0) (gC (.int 1))) (Af (CC (Ad (Aw (λ_ j=>0 < j) λi j=>i % j) (Ad (A2) (Ad (B0) (Ad (Ae ixW) (Ab 0) (gC (.int 0))) (gC (.int 48271))) (gC (.int 69621))) (gC (.int 2147483647))) (Ab 0) (gC (.int 0))) (Af (Ao 2 (Ad (Aw (λ_ j=>0 < j) λi j=>i % j) (Ad (A2) (Ad (B0) (Ad (Ae ixW) (Ab 0) (gC (.int 0))) (Ad (Ae ixW) (Ab 0) (gC (.int 0)))) (Ad (B0) (gC (.int 16807)) (Ad (Ae ixW) (Ab 0) (gC (.int 0))))) (gC (.int 2147483629)))) (Af (Ao 2 (Ad (Aw (λ_ j=>0 < j) λi j=>i % j) (Ad (A2) (Ad (B0) (Ab 2) (Ab 2)) (Ad (B0) (gC (.int 39373)) (Ab 2))) (gC (.int 2147483587)))) (Ai (Ad (Aw (λ_ j=>0 < j) λi j=>i % j) (Ad (Aw EN λi j=>i / j) (Ab 2) (gC (.int 8))) (Ab 1))))))))
theorem ml(T:Tx K mg base a):Dn P w K mg base V2 "_law_take" MH k (V4):=by
 have hN:=V3.nd;walk_at "z"
abbrev V5:List Str:=["state","deep","way","fields","name","pick"]
theorem V6:AB V5 ["state","deep"] (Ap MI):=by walk_at "s"
def NR(AE:Spw)(Bj:Spw):GS:=(Af (Ao 2 (Ag AE XF (Aa (Ab 0) (Aa (Ad (Bk) (gC (.int 6)) (Ad (Aw CMul λi j=>i*j) (gC (.int 4)) (gB (rF DB) (Aa (Ad (Be λi j=>decide (j < i)) (Ab 1) (gC (.int 0))) Ac)))) Ac)))) (Af (gIf (gTB (Ad (A1 (λi j=>decide (i < j)) AW) (Ab 2) (gC (.int 6)))) (Ai (Ad (Ae ixW) (Aq (Aa (Ah (Aa (gC (.str "any")) Ac)) (Aa (Ah (Aa (gC (.str "num")) Ac)) (Aa (Ah (Aa (gC (.str "truth")) Ac)) Ac)))) (Ad (Aw EN λi j=>i / j) (Ab 2) (gC (.int 2))))) Ak) (Af (gIf (gTB (Ad (Ae (eqF false)) (Ab 2) (gC (.int 6)))) (Ai (Ah (Aa (gC (.str "to")) (Aa (Ag Bj XF (Aa (Ab 0) (Aa (Ad (Aw (λ_ _=>True) λi j=>i - j) (Ab 1) (gC (.int 1))) Ac))) (Aa (Ag Bj XF (Aa (Ab 0) (Aa (Ad (Aw (λ_ _=>True) λi j=>i - j) (Ab 1) (gC (.int 1))) Ac))) Ac))))) Ak) (Af (gIf (gTB (Ad (Ae (eqF false)) (Ab 2) (gC (.int 7)))) (Ai (Ah (Aa (gC (.str "box")) (Aa (Ag Bj XF (Aa (Ab 0) (Aa (Ad (Aw (λ_ _=>True) λi j=>i - j) (Ab 1) (gC (.int 1))) Ac))) Ac)))) Ak) (Af (Ao 3 (Aq Ac)) (Af (AT (Ax (Aq (Aa (gC (.str "a")) (Aa (gC (.str "b")) (Aa (gC (.str "cc")) Ac))))) (gNm 4) (Af (Ao 5 (Ag AE XF (Aa (Ab 0) (Aa (gC (.int 4)) Ac)))) (gIf (gTB (Ad (Be λi j=>decide (j < i)) (Ab 5) (gC (.int 1)))) (AC (gMt AX BJ (Ab 3) (Aa (Ah (Aa (Ab 4) (Aa (Ad (Ae ixW) (Aq (Aa (gC (.str "must")) (Aa (gC (.str "may")) Ac))) (Ad (Aw (λ_ _=>True) λi j=>i - j) (Ab 5) (gC (.int 2)))) (Aa (Ag Bj XF (Aa (Ab 0) (Aa (Ad (Aw (λ_ _=>True) λi j=>i - j) (Ab 1) (gC (.int 1))) Ac))) Ac)))) Ac))) Ak))) (Ai (Ah (Aa (gC (.str "row")) (Aa (gB (rF BI) (Aa (Ab 3) Ac)) (Aa (Ad (Ae (eqF false)) (Ag AE XF (Aa (Ab 0) (Aa (gC (.int 3)) Ac))) (gC (.int 0))) Ac)))))))))))
theorem mm(T:Tx K mg base a)(EC:Df P w K mg base "_law_take" AS 2 AE)(ED:AS<=k)(NS:Df P w K mg base "_law_kind" B7 2 Bj)(NT:B7<=k):Dn P w K mg base V5 "_law_kind" MI k (NR AE Bj):=by
 have hN:=V6.nd;walk_at "z"
abbrev V7:List Str:=["state","want","told"]
theorem NU:AB V7 ["state","want"] (Ap GY):=by walk_at "s"
def V8(AE:Spw)(Dd:Spw):GS:=(Af (gIf (gTB (Ad (Ae (eqF false)) (Ad (Ae ixW) (Ab 1) (gC (.int 0))) (gC (.str "truth")))) (Ai (Ah (Aa (gC (.str "truth")) (Aa (Ad (Ae (eqF false)) (Ag AE XF (Aa (Ab 0) (Aa (gC (.int 2)) Ac))) (gC (.int 0))) Ac)))) Ak) (Af (gIf (gTB (Ad (Ae (eqF false)) (Ad (Ae ixW) (Ab 1) (gC (.int 0))) (gC (.str "to")))) (Ai (Ah (Aa (gC (.str "fun")) (Aa (Ad (Ae ixW) (Aq (Aa (gC (.str "x")) (Aa (gC (.str "y")) Ac))) (Ag AE XF (Aa (Ab 0) (Aa (gC (.int 2)) Ac)))) (Aa (Ad (Ae ixW) (Ab 1) (gC (.int 1))) (Aa (Ag Dd XF (Aa (Ab 0) (Aa (Ad (Ae ixW) (Ab 1) (gC (.int 2))) Ac))) Ac)))))) Ak) (Af (gIf (gTB (Ad (Ae (eqF false)) (Ad (Ae ixW) (Ab 1) (gC (.int 0))) (gC (.str "box")))) (Ai (Ah (Aa (gC (.str "new")) (Aa (Ah (Aa (gC (.str "as")) (Aa (Ag Dd XF (Aa (Ab 0) (Aa (Ad (Ae ixW) (Ab 1) (gC (.int 1))) Ac))) (Aa (Ad (Ae ixW) (Ab 1) (gC (.int 1))) Ac)))) Ac)))) Ak) (Af (gIf (gTB (Ad (Ae (eqF false)) (Ad (Ae ixW) (Ab 1) (gC (.int 0))) (gC (.str "row")))) (Af (Ao 2 (AO (Ax (Ad (Ae ixW) (Ab 1) (gC (.int 1)))) 1 [0] (gNm 0) (gOr (gTB (Ad (Ae (eqF false)) (Ad (Ae ixW) (Ab 0) (gC (.int 1))) (gC (.str "must")))) (gTB (Ad (Ae (eqF false)) (Ag AE XF (Aa (Ab 1) (Aa (gC (.int 2)) Ac))) (gC (.int 0))))) (Ab 0))) (Ai (Ah (Aa (gC (.str "rec")) (Aa (gB (rF BI) (Aa (AO (Ax (Ab 2)) 1 [0] (gNm 0) Ay (Ah (Aa (Ad (Ae ixW) (Ab 0) (gC (.int 0))) (Aa (Ag Dd XF (Aa (Ab 1) (Aa (Ad (Ae ixW) (Ab 0) (gC (.int 2))) Ac))) Ac)))) Ac)) Ac))))) Ak) (Ai (Ah (Aa (gC (.str "num")) (Aa (Ad (Aw (λ_ _=>True) λi j=>i - j) (Ag AE XF (Aa (Ab 0) (Aa (gC (.int 9)) Ac))) (gC (.int 4))) Ac))))))))
theorem mn(T:Tx K mg base a)(EC:Df P w K mg base "_law_take" AS 2 AE)(ED:AS<=k)(mq:Df P w K mg base "_law_least" EE 2 Dd)(ms:EE<=k):Dn P w K mg base V7 "_law_least" GY k (V8 AE Dd):=λ{f cdv A outer s H E}hr=>
 have hu:=AQ hr
 have hN:=NU.nd
 (Az (by walk_at "v") (Az (by walk_at "v") (Az (by walk_at "v") (Az (Cb (by walk_at "v") (Az (HS (i:=2) NU.nd rfl rfl rfl rfl (Cp (own:=["field"]) (fr:=["state"]) (js:=[0]) (scX:=Ap GY) (n:=s.heap.objs.size+1) rfl (by decide +kernel) (by decide +kernel) (by decide +kernel) (by decide +kernel) rfl rfl rfl (by decide +kernel) rfl) (λ_=>rfl) (by walk_at "v") (CO (i:=0) (by decide) rfl rfl) (λC fp s1 H1=>(by walk_at "v")) (λC fp s1 H1=>(by walk_at "v"))) (AG (Ba (Le (AH rfl Ld (AH rfl (DA FU (Gu) rfl T.F5 (by decide) rfl rfl rfl (AH rfl (Dl rfl (Cp (own:=["field"]) (fr:=["state"]) (js:=[0]) (scX:=Ap GY) (n:=s.heap.objs.size+1) rfl (by decide +kernel) (by decide +kernel) (by decide +kernel) (by decide +kernel) rfl rfl rfl (by decide +kernel) rfl) (λ_=>rfl) (by walk_at "v") (CO (i:=0) (by decide) rfl rfl) (λC fp s1 H1=>A6) (λC fp s1 H1=>(by walk_at "v"))) A5)) A5)))))) C5) (by walk_at "v")))))
abbrev V9:List Str:=["state","kind"]
theorem Wa:AB V9 ["state","kind"] (Ap Iu):=by walk_at "s"
def Wb(AE:Spw)(Dr:Spw):GS:=(Af (gIf (gTB (Ad (Ae (eqF false)) (Ag AE XF (Aa (Ab 0) (Aa (gC (.int 4)) Ac))) (gC (.int 0)))) (Ai (Ah (Aa (gC (.str "any")) Ac))) Ak) (Af (gIf (gTB (Ad (Ae (inF false)) (Ad (Ae ixW) (Ab 1) (gC (.int 0))) (Aq (Aa (gC (.str "to")) (Aa (gC (.str "box")) Ac))))) (Ai (Ad (A2) (Ah (Aa (Ad (Ae ixW) (Ab 1) (gC (.int 0))) Ac)) (gB (rF BI) (Aa (AO (Ax (Bn (Ab 1) (AV (gC (.int 1))) AU)) 1 [0] (gNm 0) Ay (Ag Dr XF (Aa (Ab 1) (Aa (Ab 0) Ac)))) Ac)))) Ak) (Ai (Ab 1))))
theorem mu(T:Tx K mg base a)(EC:Df P w K mg base "_law_take" AS 2 AE)(ED:AS<=k)(mv:Df P w K mg base "_law_dim" EF 2 Dr)(mw:EF<=k):Dn P w K mg base V9 "_law_dim" Iu k (Wb AE Dr):=λ{f cdv A outer s H E}hr=>
 have hu:=AQ hr
 have hN:=Wa.nd
 (Az (by walk_at "v") (Az (Cb (by walk_at "v") (AG (Ba (E6 (by walk_at "v") (DA FU (Gu) rfl T.F5 (by decide) rfl rfl rfl (AH rfl (Dl rfl (Cp (own:=["inner"]) (fr:=["state"]) (js:=[0]) (scX:=Ap Iu) (n:=s.heap.objs.size+1) rfl (by decide +kernel) (by decide +kernel) (by decide +kernel) (by decide +kernel) rfl rfl rfl (by decide +kernel) rfl) (λ_=>rfl) (by walk_at "v") (CO (i:=0) (by decide) rfl rfl) (λC fp s1 H1=>A6) (λC fp s1 H1=>(by walk_at "v"))) A5))))) C5) (by walk_at "v")))
abbrev Wc:List Str:=["state","part"]
theorem Wd:AB Wc ["state","part"] (Ap MJ):=by walk_at "s"
def We(AE:Spw):GS:=(Ai (Ad (Ae ixW) (Aq (Aa (Ab 1) (Aa (Ab 1) (Aa (Ab 1) (Aa (Ah (Aa (gC (.str "as")) (Aa (Ab 1) (Aa (Ah (Aa (gC (.str "any")) Ac)) Ac)))) Ac))))) (Ag AE XF (Aa (Ab 0) (Aa (gC (.int 4)) Ac)))))
theorem mx(T:Tx K mg base a)(EC:Df P w K mg base "_law_take" AS 2 AE)(ED:AS<=k):Dn P w K mg base Wc "_law_blur" MJ k (We AE):=by
 have hN:=Wd.nd;walk_at "z"
theorem my{ns:List Int}(c:0<=k)(h:k <(ns.length:Int)):∃ v:Int,atI (ns.map W.int) k=some (.int v):=by
 have b:k.toNat < ns.length:=by lia
 have a:k=((k.toNat:Nat):Int):=by lia
 refine⟨ns[k.toNat],?_⟩;have q:atI (ns.map W.int) ((k.toNat:Nat):Int)=some (.int ns[k.toNat]):=FJ (by rw[YR,Yp b] <;> rfl);rw[<- a]at q;exact q
theorem Wf:EO 10 18:=⟨by decide,by decide,by decide⟩
theorem mz(n:Nat):ixN (n+1) 0=some 0:=by unfold ixN;rw[if_pos (Int.le_refl 0),if_pos (by lia)];rfl
theorem mB(n:Nat):ixN (n+2) 1=some 1:=by unfold ixN;rw[if_pos (by decide),if_pos (by lia)];rfl
theorem Wg(h:G s=some (.lst (x::l)))(q:Q (put G s (.lst (v::l)))):Di (.ref s) (.int 0) v G Q:=Lm h (mz l.length) q
theorem ix0(h:G s=some (.lst (x::l))):ixW (.ref s) (.int 0) G=some x:=by rw[Ee h];exact Bg
theorem ix1(h:G s=some (.lst (x::y::l))):ixW (.ref s) (.int 1) G=some y:=by rw[Ee h];exact Bb
theorem Wh(a:0<=x)(h1:x < m)(b:m<=2147483647):-(2 ^ 64) < x/\x < 2 ^ 64:=by
 have:(2:Int) ^ 64=18446744073709551616:=by decide
 rw[this];lia
theorem mC(h:G s=some (.lst (x::y::l)))(q:Q (put G s (.lst (x::v::l)))):Di (.ref s) (.int 1) v G Q:=Lm h (mB l.length) q
abbrev ST(x f:Int):HW:=.lst [.int x,.int f]
def CK:Spw:=λws G Q _=>∃(s:Addr)(m x f:Int),ws=[.ref s,.int m]/\0 < m/\m < 1267650600228229401496703205376/\G s=some (ST x f)/\∀ r x' f':Int,0<=r->r < m->Q (.int r) (put G s (ST x' f'))
theorem mD:Spw.M CK:=(by rintro j G Q i E k h _ ⟨s,m,x,f,h1,h2,b,d,q⟩;exact⟨s,m,x,f,h1,h2,b,d,λr e g c a=>h _ _ (q r e g c a)⟩)
theorem AS(T:Tx K mg base a):Df P w K mg base "_law_take" 1 2 CK:=by
 refine mk0 T.jg rfl V3 mD ((by rintro r G Q E ⟨s,m,x,f,e,_⟩;rw[e];rfl)) (ml T) λr G Q E t q=>?_;obtain⟨s,m,x,f,rfl,b,h,hs,q⟩:=q;unfold V4;show Af (gIf _ _ Ak) _ (Au Q) [some (.ref s),some (.int m),none,none] G
 have c:Af (CC (gC (.int 0)) (Ab 0) (gC (.int 1))) (Af (CC (Ad (Aw (λ_ j=>0 < j) λi j=>i % j) (Ad (A2) (Ad (B0) (Ad (Ae ixW) (Ab 0) (gC (.int 0))) (gC (.int 48271))) (gC (.int 69621))) (gC (.int 2147483647))) (Ab 0) (gC (.int 0))) (Af (Ao 2 (Ad (Aw (λ_ j=>0 < j) λi j=>i % j) (Ad (A2) (Ad (B0) (Ad (Ae ixW) (Ab 0) (gC (.int 0))) (Ad (Ae ixW) (Ab 0) (gC (.int 0)))) (Ad (B0) (gC (.int 16807)) (Ad (Ae ixW) (Ab 0) (gC (.int 0))))) (gC (.int 2147483629)))) (Af (Ao 2 (Ad (Aw (λ_ j=>0 < j) λi j=>i % j) (Ad (A2) (Ad (B0) (Ab 2) (Ab 2)) (Ad (B0) (gC (.int 39373)) (Ab 2))) (gC (.int 2147483587)))) (Ai (Ad (Aw (λ_ j=>0 < j) λi j=>i % j) (Ad (Aw EN λi j=>i / j) (Ab 2) (gC (.int 8))) (Ab 1)))))) (Au Q) [some (.ref s),some (.int m),none,none] G:=by
  simp only[Af,CC,gC,Ab,Yb];refine mC hs ?_;have h1:put G s (ST x 0) s=some (ST x 0):=Aj;simp only[Ad,Aw,Ae,gC,Ab,Yb,Yc,ix0 h1,An,B0,A2,Bk];refine⟨.inr ⟨by decide,by decide⟩,by decide,?_⟩;refine Wg h1 ?_;rw[L5];generalize g:(x*48271+69621) % 2147483647=x2;have p:0<=x2:=by rw[<- g];exact Int.emod_nonneg _ (by decide)
  have o:x2 < 2147483647:=by rw[<- g];exact Int.emod_lt_of_pos _ (by decide)
  have h2:put G s (ST x2 0) s=some (ST x2 0):=Aj;simp only[Ao,Ad,Aw,Ae,gC,Ab,Yb,Yc,Yk,Yl,ix0 h2,An,Ai,Au,B0,A2,Bk];refine⟨.inl (Wh p o (by decide)),.inl ⟨by decide,by decide⟩,by decide,?_⟩;generalize d:(x2*x2+16807*x2) % 2147483629=x3;have n:0<=x3:=by rw[<- d];exact Int.emod_nonneg _ (by decide)
  have l:x3 < 2147483629:=by rw[<- d];exact Int.emod_lt_of_pos _ (by decide)
  refine⟨.inl (Wh n l (by decide)),.inl ⟨by decide,by decide⟩,(show(0:Int) < 2147483587 by decide),?_⟩;refine⟨⟨by decide,by decide⟩,b,?_⟩;exact q _ _ _ (Int.emod_nonneg _ (by lia)) (Int.emod_lt_of_pos _ b)
 simp only[Af,gIf,A8,gTB,Ad,Ae,Be,Ab,gC,Yb,Yc,ix0 hs,ix1 hs,An,Br];by_cases e:(f==1)=true
 ·rw[e];simp only[show(true != false)=true from rfl,if_true];by_cases k:(0:Int) < x
  ·simp only[k,decide_true,if_true,Af,Ao,CC,Ad,Aw,Ae,Ab,gC,Ai,Au,Yb,Yc,Yk,Yl,ix0 hs,An];refine⟨b,?_⟩;refine⟨⟨b,h⟩,?_⟩;refine Wg hs ?_;exact q _ _ _ (Int.emod_nonneg _ (by lia)) (Int.emod_lt_of_pos _ b)
  ·simp only[k,decide_false,Yq,if_false,Ak];exact c
 ·rw[Bool.eq_false_iff.mpr e];simp only[show(false != false)=false from rfl,Yq,if_false,Ak];exact c
def St(s:Addr)(G:Hw):Prop:=∃ x f,G s=some (ST x f)
def Hs(s:Addr)(G G':Hw):Prop:=St s G'/\∀ b,b≠s->∀ u,G b=some u->G' b=some u
theorem Hs.trans{a:Hw}(h:Hs s G a)(h':Hs s a c):Hs s G c:=⟨h'.1,λb d u e=>h'.2 b d u (h.2 b d u e)⟩
theorem Hs.refl(h:St s G):Hs s G G:=⟨h,λ_ _ _ h=>h⟩
theorem St.put(h:St s G)(a:G p=none):St s (put G p o):=by
 obtain⟨x,f,e⟩:=h;exact⟨x,f,by rw[Av (AJ e a)];exact e⟩
theorem Hs.put{a:Hw}(h:Hs s G a)(c:a p=none):Hs s G (put a p o):=⟨h.1.put c,λb d u e=>AD c _ _ (h.2 b d u e)⟩
theorem Hs.ne(h:St s G)(a:G p=none):p≠s:=by
 obtain⟨x,f,e⟩:=h;exact YY (AJ e a)
theorem Hs.new(h:St s G)(a:G p=none):Hs s G (L3.put G p o):=(Hs.refl h).put a
theorem BQ(c:0 < m)(h:m<=100000)(hs:St s G)(k:∀(r:Int)(a:Hw),0<=r->r < m->Hs s G a->Z (.int r) a):CK [.ref s,.int m] G Z E:=by
 obtain⟨x,f,hs⟩:=hs;exact⟨s,m,x,f,rfl,c,by lia,hs,λr e d h1 h2=>k r _ h1 h2 ⟨⟨e,d,Aj⟩,λb i u g=>by rw[Av i];exact g⟩⟩
theorem EG(h:G p=some (.lst xs))(b:0<=r)(h1:r <(xs.length:Int)):∃ x∈xs,ixW (.ref p) (.int r) G=some x:=by
 obtain⟨k,rfl⟩:∃ k:Nat,r=(k:Int):=⟨r.toNat,by lia⟩;have a:k < xs.length:=by lia
 refine⟨xs[k],Qj a,?_⟩;rw[Ee h];exact FJ (Yp a)
theorem EH(i:m=(xs.length:Int))(h:0 < m)(h1:m<=1000)(hs:St s G)(k:∀ x∈xs,∀ a,Hs s G a->Z x a):xs.length<=sizeLine/\∀ p,G p=none->CK [.ref s,.int m] (put G p (.lst xs)) (λw a=>Ae ixW (.ref p) w a Z) E:=by
 refine⟨A9 (by lia),λp b=>?_⟩;have c:=Hs.ne hs b;refine BQ h (by lia) (hs.put b) λr a f r1 d=>?_;obtain⟨x,g,e⟩:=EG (d.2 p c _ Aj) f (by lia);show opt (ixW (.ref p) (.int r) a) _;rw[e,An];exact k x g a ((Hs.new hs b).trans d)
def DW{α:Type}(A:α->Addr->List W->Hw->Prop)(R:α->Addr->W->Hw->Prop):Spw:=λws G Q _=>∃ a s,A a s ws G/\St s G/\∀ r G',R a s r G'->Hs s G G'->Q r G'
theorem CL{α:Type}{A:α->Addr->List W->Hw->Prop}{R:α->Addr->W->Hw->Prop}:Spw.M (DW A R):=(by rintro f G Q e E g h _ ⟨a,s,h1,h2,q⟩;exact⟨a,s,h1,h2,λr c d b=>h _ _ (q r c d b)⟩)
def Wi:Spw:=λws G Q _=>∃ ns:List Int,ws=[.rol (ns.map W.int),.int 0]/\∀ s x f,G s=none->Q (.ref s) (put G s (ST x f))
theorem mE:Spw.M Wi:=(by rintro c G Q a E b h _ ⟨ns,h1,q⟩;exact⟨ns,h1,λs x f z=>h _ _ (q s x f z)⟩)
theorem JC(T:Tx K mg base a):Df P w K mg base "_law_state" 1 2 Wi:=by
 refine mk0 T.i9 rfl V0 mE ((by rintro c G Q E ⟨ns,e,_⟩;rw[e];rfl)) (mj T) λc G Q E d q=>?_;obtain⟨ns,rfl,q⟩:=q;unfold V1;show Af (Ao 2 _) _ (Au Q) [some (.rol (ns.map W.int)),some (.int 0),none] G
 have Ar:∀ v:Int,Af (gIf (gTB (Ad (Be λi j=>decide (j<=i)) (Ab 2) (Ad (Aw EO λi j=>i ^ j.toNat) (gC (.int 10)) (gC (.int 18))))) (Ai (Aq (Aa (Ad (Aw (λ_ _=>True) λi j=>i - j) (Ab 2) (Ad (Aw EO λi j=>i ^ j.toNat) (gC (.int 10)) (gC (.int 18)))) (Aa (gC (.int 1)) Ac)))) Ak) (Ai (Aq (Aa (Ad (Aw (λ_ j=>0 < j) λi j=>i % j) (Ad (Bk) (Ab 2) (Ad (Aw CMul λi j=>i*j) (gC (.int 7919)) (Ab 1))) (gC (.int 2147483647))) (Aa (gC (.int 0)) Ac)))) (Au Q) [some (.rol (ns.map W.int)),some (.int 0),some (.int v)] G:=by
  intro v;walk_at "rd";refine⟨Wf,?_⟩;walk_at "pb"
  ·exact⟨Wf,trivial,by decide,λp b=>q p _ _ b⟩
  ·exact⟨.inl ⟨by decide,by decide⟩,by decide,by decide,λp b=>q p _ _ b⟩
 refine AF ?_;simp only[gC,Yk,Yl,Af,gIf,gTB,Ad,A1,Ab,gB,rF,Aa,Ac,Yb,Yc];rw[show Bf [W.rol (ns.map W.int)] G=some (.int (((ns.map W.int).length:Nat):Int))from rfl,An,Yh];dsimp only;walk_at "pb"
 ·have h:(0:Int) <(ns.length:Int):=of_decide_eq_true h;simp only[Ao,Ad,Ae,Ab,Yb,Yc,ixW];obtain⟨v,e⟩:=my (ns:=ns) (Int.le_refl 0) h;rw[e,An];exact Ar v
 ·exact Ar 0
def kc:Nat->Nat | 0=>1 | n+1=>1+3*kc n
def KdOk(c d:Nat)(k:Kd):Prop:=k.ok=true/\k.cnt<=c/\k.dp<=d
abbrev Fd:=Str×Bool×Kd
def BA(x:Fd):W:=.tup [.str x.1,.str (mark x.2.1),x.2.2.enc]
def ofL:List Fd->Fs
 | []=>.nil
 | x::l=>.cons x.1 x.2.1 x.2.2 (ofL l)
theorem Wj:∀ l:List Fd,(ofL l).enc=l.map BA
 | []=>rfl
 | x::l=>by show _::(ofL l).enc=_::l.map BA;rw[Wj l];rfl
theorem Wl:∀ l:List Fd,(ofL l).names=l.map (·.1)
 | []=>rfl
 | x::l=>by show _::(ofL l).names=_::l.map (·.1);rw[Wl l]
theorem Wn:∀ l:List Fd,(∀ x∈l,AA x.1=true/\KdOk c d x.2.2)->(ofL l).ok=true/\(ofL l).cnt<=l.length*c/\(ofL l).dp<=d
 | [],_=>⟨rfl,YX _,YX _⟩
 | x::l,h=>by
  obtain⟨h1,h2,b⟩:=Wn l λy a=>h y (Yd _ a);obtain⟨g1,g2,g3,g4⟩:=h x Ye;refine⟨?_,?_,?_⟩
  ·show(AA x.1&&x.2.2.ok&&(ofL l).ok)=true;rw[g1,g2,h1];rfl
  ·show x.2.2.cnt+(ofL l).cnt<=(l.length+1)*c;rw[Nat.add_mul,Nat.one_mul];lia
  ·show max x.2.2.dp (ofL l).dp<=d;lia
theorem mF{a:Str}(h1:AW a b=true)(h2:AW b c=true):AW a c=true:=by
 unfold AW at h1 h2 ⊢;exact YH (List.lt_trans (of_decide_eq_true h1) (of_decide_eq_true h2))
theorem Wo:∀{ns:List Str},AY ns=true->ns.Pairwise (λx y=>AW x y=true)
 | [],_=>.nil
 | [_],_=>.cons (λ_ h=>by cases h) .nil
 | x::y::r,h=>by
  have h':(AW x y&&AY (y::r))=true:=h;walk_at "pa";have b:=Wo h'.2;refine .cons (λz a=>?_) b;walk_at "pm"
  ·exact h'.1
  ·exact mF h'.1 ((List.pairwise_cons.mp b).1 z a)
theorem Wp:∀{ns:List Str},ns.Pairwise (λx y=>AW x y=true)->AY ns=true
 | [],_=>rfl
 | [_],_=>rfl
 | x::y::r,h=>by
  show(AW x y&&AY (y::r))=true;cases h with
  | cons h1 h2=>rw[h1 y Ye,Wp h2];rfl
theorem Wq(h:xs.Sublist ys)(r:AY ys=true):AY xs=true:=Wp ((Wo r).sublist h)
abbrev F9(n:Nat):Spw:=DW (λ(m:Nat)s ws _=>ws=[.ref s,.int m]/\m < n) λm _ r _=>∃ k:Kd,r=k.enc/\KdOk (kc m) (m+1) k
abbrev gKB(n:Nat):GS:=Af (Ao 5 (Ag CK XF (Aa (Ab 0) (Aa (gC (.int 4)) Ac)))) (gIf (gTB (Ad (Be λi j=>decide (j < i)) (Ab 5) (gC (.int 1)))) (AC (gMt AX BJ (Ab 3) (Aa (Ah (Aa (Ab 4) (Aa (Ad (Ae ixW) (Aq (Aa (gC (.str "must")) (Aa (gC (.str "may")) Ac))) (Ad (Aw (λ_ _=>True) λi j=>i - j) (Ab 5) (gC (.int 2)))) (Aa (Ag (F9 n) XF (Aa (Ab 0) (Aa (Ad (Aw (λ_ _=>True) λi j=>i - j) (Ab 1) (gC (.int 1))) Ac))) Ac)))) Ac))) Ak)
def Hs2(s p:Addr)(G G':Hw):Prop:=St s G'/\∀ b,b≠s->b≠p->∀ u,G b=some u->G' b=some u
theorem Hs2.trans{a:Hw}(h:Hs2 s p G d)(h':Hs2 s p d a):Hs2 s p G a:=⟨h'.1,λb e c u f=>h'.2 b e c u (h.2 b e c u f)⟩
theorem Hs.two{a:Hw}(h:Hs s G a):Hs2 s p G a:=⟨h.1,λb c _ u d=>h.2 b c u d⟩
theorem Hs2.set(h:St s G)(a:p≠s):Hs2 s p G (put G p o):=by
 obtain⟨x,f,e⟩:=h;exact⟨⟨x,f,by rw[Av (YY a)];exact e⟩,λb _ c u d=>by rw[Av c];exact d⟩
theorem Hs2.one{a:Hw}(h:Hs2 s p G a)(d:G p=none):Hs s G a:=⟨h.1,λb e u c=>h.2 b e (AJ c d) u c⟩
theorem NV(O:m < n)(c:p≠s)(g:q≠s)(j:p≠q):∀(ns:List Str)(a:List Fd)(o4 d:Option W)(G:Hw),G p=some (.lst (a.map BA))->G q=some (.lst items)->St s G->a.length+ns.length<=100->
  (∀(l:List Fd)o4 d o,(l.map (·.1)).Sublist ns->(∀ x∈l,KdOk (kc m) (m+1) x.2.2)->o p=some (.lst ((a++l).map BA))->Hs2 s p G o->D.nx [some (.ref s),some (.int ((m+1:Nat):Int)),B,some (.ref p),o4,d] o)->
  Bs (holds q items) (gNm 4) (gKB n) D (ns.map W.str) [some (.ref s),some (.int ((m+1:Nat):Int)),B,some (.ref p),o4,d] G
 | [],a,o4,d,G,A,v,hs,_,i=>⟨v,i [] o4 d G (List.nil_sublist _) (λx T=>by cases T) (by rw[Yx];exact A) (Hs.refl hs).two⟩
 | x::ns,a,o4,d,G,A,v,hs,hl,i=>by
  walk_at "pv";refine⟨v,?_⟩;show gKB n _ [some (.ref s),some (.int ((m+1:Nat):Int)),B,some (.ref p),some (.str x),d] G;refine AF ?_;simp only[Ag,Ab,gC,Aa,Ac,Yb];refine BQ (by decide) (by decide) hs λr S Y Z t=>?_;have w:=t.2 p c _ A;have K:=t.2 q g _ v;simp only[Yk,Yl,gIf,gTB,Ad,Be,Ab,gC,Yb,Yc];walk_at "pb"
  ·have h1:(1:Int) < r:=of_decide_eq_true h;simp only[AC,gMt,Ah,Aa,Ac,Ab,Ad,Aq,gC,Aw,Ag,Yb,Yc];refine⟨B5 w,by decide,λz R=>?_⟩;have X:=Hs.ne t.1 R;refine⟨trivial,?_⟩;obtain⟨y,u,e⟩:=EG (r:=r - 2) (G:=put S z (.lst [.str "must",.str "may"])) Aj (by lia) (by show r - 2 < 2;lia);show opt (ixW (.ref z) (.int (r - 2)) _) _;rw[e,An]
   have H:∃ b,y=.str (mark b):=by
    simp only[Yo,Qc,or_false]at u;rcases u with rfl | rfl
    ·exact⟨true,rfl⟩
    ·exact⟨false,rfl⟩
   obtain⟨b,rfl⟩:=H;refine⟨trivial,m,s,⟨by rw[show(((m+1:Nat):Int) - 1)=(m:Int) by lia],O⟩,t.1.put R,λk' U Q I=>?_⟩;obtain⟨k,rfl,Q⟩:=Q;have f:Hs s G U:=(t.put R).trans I;have F:=f.2 p c _ A;have L:=f.2 q g _ v;refine⟨(Qzz 3),DT F (by rw[Yh];exact Bq (by lia)) ?_⟩;refine NV O c g j ns (a++[(x,b,k)]) _ _ _ (by rw[Yy];exact Aj) (by rw[Av (YY j)];exact L) (Hs2.set f.1 c).1 (by rw[Yj];simp only[Yg,Yi];lia) λl o4 d o N J E P=>?_;refine i ((x,b,k)::l) o4 d o (.cons₂ _ N) (λy u=>?_) (by rw[E,Yv];rfl) ((f.two).trans ((Hs2.set f.1 c).trans P));rcases Yo.mp u with rfl | u
   ·exact Q
   ·exact J y u
  ·simp only[Ak];exact NV O c g j ns a _ _ S w K t.1 (by lia) λl o4 d o N J E P=>i l o4 d o (.cons _ N) J E (t.two.trans P)
theorem JD(h:G p=some (.lst xs)):BI [.ref p] G=some (.tup xs):=by
 show(Dz G (.ref p)).map W.tup=_;rw[L6 h];rfl
theorem mG(hm:m < n+1)(hs:St s G)(q:∀ r E,(∃ k:Kd,r=k.enc/\KdOk (kc m) (m+1) k)->Hs s G E->Q r E):NR CK (F9 n) (Au Q) [some (.ref s),some (.int m),none,none,none,none] G:=by
 unfold NR;refine AF ?_;simp only[Ag,Ab,gC,Ad,gB,rF,Be,Aw,Bk,DB,An,Aa,Ac,Yb,Yc];refine⟨.inl ⟨by decide,by decide⟩,?_⟩
 have hw:(6:Int)+4*(if decide (0 <(m:Int))=true then 1 else 0)=if m=0 then 6 else 10:=by
  cases m with
  | zero=>rfl
  | succ m=>rw[if_pos (by simp only[YS];lia),if_neg (by lia)];rfl
 rw[hw];refine BQ (by split <;> decide) (by split <;> decide) hs λr G1 r0 r1 j=>?_;simp only[Yk,Yl,Af,gIf,gTB,Ad,A1,Ab,gC,Yb,Yc];walk_at "pb"
 ·have h6:r < 6:=of_decide_eq_true h;simp only[Ai,Ad,Aq,Ah,Aa,Ac,Ab,gC,Aw,Yb,Yc];refine⟨by decide,by decide,by decide,by decide,λp t=>⟨⟨by decide,by decide⟩,?_⟩⟩;obtain⟨y,Y,e⟩:=EG (r:=r / 2) (G:=put G1 p (.lst [.tup [.str "any"],.tup [.str "num"],.tup [.str "truth"]])) Aj (by lia) (by show r / 2 < 3;lia);show opt (ixW (.ref p) (.int (r / 2)) _) _;rw[e,An]
  have N:1<=kc m:=by
   cases m with
   | zero=>exact Yr 1
   | succ m=>show 1<=1+3*kc m;lia
  refine q _ _ ?_ (j.put t);simp only[Yo,Qc,or_false]at Y;rcases Y with rfl | rfl | rfl
  ·exact⟨.any,rfl,rfl,N,by show 1<=m+1;lia⟩
  ·exact⟨.num,rfl,rfl,N,by show 1<=m+1;lia⟩
  ·exact⟨.truth,rfl,rfl,N,by show 1<=m+1;lia⟩
 ·have h6:¬ r < 6:=λz=>h (YH z);cases m with
  | zero=>rw[if_pos rfl]at r1;exact absurd r1 h6
  | succ m =>
  have i:m < n:=by lia
  have ek:kc (m+1)=1+3*kc m:=rfl;have K:(((m+1:Nat):Int) - 1)=(m:Int):=by lia
  simp only[Ak,Ae,Br,An];walk_at "pb"
  ·simp only[Ai,Ah,Aa,Ac,Ag,Ad,Aw,Ab,gC,Yb,Yc];refine⟨trivial,m,s,⟨by rw[K],i⟩,j.1,λg Z o a=>?_⟩;obtain⟨g,rfl,R,a2,a3⟩:=o;refine⟨trivial,m,s,⟨by rw[K],i⟩,a.1,λB G3 L H=>?_⟩;obtain⟨B,rfl,b1,b2,b3⟩:=L;refine⟨(Qzz 3),q _ _ ⟨.to g B,rfl,?_,?_,?_⟩ ((j.trans a).trans H)⟩
   ·show(g.ok&&B.ok)=true;rw[R,b1];rfl
   ·show 1+(g.cnt+B.cnt)<=_;lia
   ·show 1+max g.dp B.dp<=_;lia
  ·walk_at "pb"
   ·simp only[Ai,Ah,Aa,Ac,Ag,Ad,Aw,Ab,gC,Yb,Yc];refine⟨trivial,m,s,⟨by rw[K],i⟩,j.1,λg Z o a=>?_⟩;obtain⟨g,rfl,R,a2,a3⟩:=o;refine⟨(Qzz 2),q _ _ ⟨.box g,rfl,R,?_,?_⟩ (j.trans a)⟩
    ·show 1+g.cnt<=_;lia
    ·show 1+g.dp<=_;lia
   ·simp only[Ak];show Af (Ao 3 _) _ _ _ _;refine AF ?_;simp only[Aq,Ac];refine⟨by decide,λp t=>?_⟩;have P:=Hs.ne j.1 t;show Af (AT _ (gNm 4) (gKB n)) _ _ _ _;simp only[Af,AT,Ax,Aq,Aa,Ac,gC];refine⟨by decide,λz F=>?_⟩;have T:=Hs.ne (j.1.put t) F;have w:p≠z:=AJ Aj F;simp only[Aj,Yk,Yl];refine NV (n:=n) (m:=m) i P T w ["a","b","cc"] [] none none _ (by rw[Av w];exact Aj) Aj ((j.1.put t).put F) (by decide) λl o4 o5 E I l2 U J=>?_;simp only[Ai,Ah,Aa,Ac,gB,rF,Ad,Ag,Ab,gC,Yb,Yc];rw[Yw]at U;rw[JD U,An];have O:Hs s G E:=j.trans ⟨J.1,λb hb u X=>J.2 b hb (AJ X t) u (AD F _ _ (AD t _ _ X))⟩;refine BQ (by decide) (by decide) J.1 λv Z v0 v1 a=>?_;simp only[Ae,Br,An];walk_at "pp";have hl:=I.length_le;rw[Yh]at hl;have S:l.length<=3:=hl
    have hn:∀ x∈l,AA x.1=true:=λx D=>by
     have A:=I.subset (List.mem_map_of_mem (f:=(·.1)) D);simp only[Yo,Qc,or_false]at A;rcases A with z | z | z <;> rw[z] <;> decide +kernel
    obtain⟨g1,g2,g3⟩:=Wn (c:=kc m) (d:=m+1) l λx D=>⟨hn x D,l2 x D⟩;refine q _ _ ⟨.row (ofL l) ((v==0) != false),?_,?_,?_,?_⟩ (O.trans a)
    ·show _=W.tup [.str "row",.tup (ofL l).enc,_];rw[Wj]
    ·show(AY (ofL l).names&&(ofL l).ok)=true;rw[g1,Wl,Wq I (by decide +kernel)];rfl
    ·show 1+(ofL l).cnt<=_;have:=Nat.mul_le_mul_right (kc m) S;lia
    ·show 1+(ofL l).dp<=_;lia
theorem B7(T:Tx K mg base a):∀ n:Nat,Df P w K mg base "_law_kind" (n+1) 2 (F9 n)
 | 0=>Dq T.Sl CL λb G Q E⟨k,s,⟨_,hd⟩,_⟩=>by lia
 | n+1=>by
  refine mk0 (k:=n+1) T.Sl rfl V6 CL (λb G Q E⟨k,s,⟨e,hd⟩,_⟩=>by rw[e];rfl) (mm T (AS T) (by lia) (B7 T n) (Yr _)) λb G Q E d q=>?_;obtain⟨m,s,⟨rfl,c⟩,hs,q⟩:=q;exact mG c hs q
def TmB(c d:Nat)(t:Te):Prop:=t.ok=true/\t.cnt<=c/\t.dp<=d
def KOk(k:Kd):Prop:=k.ok=true/\BF k=true
theorem TmB.mono{a:Nat}(h:TmB c d t)(hc:c<=a)(hd:d<=d'):TmB a d' t:=⟨h.1,Yt h.2.1 hc,Yt h.2.2 hd⟩
theorem Cw{w:Str}(h:KTD.datumAt w AR=some r.sorts)(h2:r.ok=true):(Te.nd w r).ok=true:=by
 show(decide (KTD.datumAt w AR=some r.sorts)&&r.ok)=true;rw[YH h,h2];rfl
theorem CM(h:TmB c d t)(a:KOk k):TmB (c+1) (d+1) (.nd "as" (.trm t (.knd k .nil))):=by
 obtain⟨h1,h2,b⟩:=h;refine⟨Cw (show KTD.datumAt ("as":Str) AR=some [("term":Str),"kind"] by decide +kernel) ?_,?_,?_⟩
 ·show(t.ok&&((k.ok&&BF k)&&true))=true;rw[h1,a.1,a.2];rfl
 ·show 1+(t.cnt+0)<=_;lia
 ·show 1+max t.dp 0<=_;lia
theorem DX{w:Str}{a:Nat}(hw:KTD.datumAt w AR=some [("term":Str),"term"])(h:TmB a d t)(h':TmB b d u):TmB (a+b+1) (d+1) (.nd w (.trm t (.trm u .nil))):=by
 obtain⟨h1,h2,c⟩:=h;obtain⟨g1,g2,g3⟩:=h';refine⟨Cw hw ?_,?_,?_⟩
 ·show(t.ok&&(u.ok&&true))=true;rw[h1,g1];rfl
 ·show 1+(t.cnt+(u.cnt+0))<=_;lia
 ·show 1+max t.dp (max u.dp 0)<=_;lia
theorem JE{w:Str}(hw:KTD.datumAt w AR=some [("term":Str)])(h:TmB c d t):TmB (c+1) (d+1) (.nd w (.trm t .nil)):=by
 obtain⟨h1,h2,a⟩:=h;refine⟨Cw hw ?_,?_,?_⟩
 ·show(t.ok&&true)=true;rw[h1];rfl
 ·show 1+(t.cnt+0)<=_;lia
 ·show 1+max t.dp 0<=_;lia
theorem NW(h:TmB c d t)(a:AA x=true):TmB (c+1) (d+1) (.nd "get" (.trm t (.nam x .nil))):=by
 obtain⟨h1,h2,b⟩:=h;refine⟨Cw (show KTD.datumAt ("get":Str) AR=some [("term":Str),"name"] by decide +kernel) ?_,?_,?_⟩
 ·show(t.ok&&(AA x&&true))=true;rw[h1,a];rfl
 ·show 1+(t.cnt+0)<=_;lia
 ·show 1+max t.dp 0<=_;lia
theorem Wr{a:Nat}(h:TmB a d t)(c:AA x=true)(h':TmB b d u):TmB (a+b+1) (d+1) (.nd "or" (.trm t (.nam x (.trm u .nil)))):=by
 obtain⟨h1,h2,e⟩:=h;obtain⟨g1,g2,g3⟩:=h';refine⟨Cw (show KTD.datumAt ("or":Str) AR=some [("term":Str),"name","term"] by decide +kernel) ?_,?_,?_⟩
 ·show(t.ok&&(AA x&&(u.ok&&true)))=true;rw[h1,c,g1];rfl
 ·show 1+(t.cnt+(u.cnt+0))<=_;lia
 ·show 1+max t.dp (max u.dp 0)<=_;lia
theorem mH(h:TmB c d t)(h':TmB c d u)(a:TmB c d v):TmB (3*c+1) (d+1) (.nd "if" (.trm t (.trm u (.trm v .nil)))):=by
 obtain⟨h1,h2,e⟩:=h;obtain⟨g1,g2,g3⟩:=h';obtain⟨b,f,g⟩:=a;refine⟨Cw (show KTD.datumAt ("if":Str) AR=some [("term":Str),"term","term"] by decide +kernel) ?_,?_,?_⟩
 ·show(t.ok&&(u.ok&&(v.ok&&true)))=true;rw[h1,g1,b];rfl
 ·show 1+(t.cnt+(u.cnt+(v.cnt+0)))<=_;lia
 ·show 1+max t.dp (max u.dp (max v.dp 0))<=_;lia
theorem NX(b:AA x=true)(a:KOk k)(h:TmB c d t):TmB (c+1) (d+1) (.nd "fun" (.nam x (.knd k (.trm t .nil)))):=by
 obtain⟨h1,h2,e⟩:=h;refine⟨Cw (show KTD.datumAt ("fun":Str) AR=some [("name":Str),"kind","term"] by decide +kernel) ?_,?_,?_⟩
 ·show(AA x&&((k.ok&&BF k)&&(t.ok&&true)))=true;rw[h1,b,a.1,a.2];rfl
 ·show 1+(t.cnt+0)<=_;lia
 ·show 1+max t.dp 0<=_;lia
theorem NY(a:AA x=true):TmB 1 1 (.nd "name" (.nam x .nil)):=by
 refine⟨Cw (show KTD.datumAt ("name":Str) AR=some [("name":Str)] by decide +kernel) ?_,Yr 1,Yr 1⟩;show(AA x&&true)=true;rw[a];rfl
theorem mI(b:Bool):TmB 1 1 (.nd "truth" (.tru b .nil)):=⟨Cw (show KTD.datumAt ("truth":Str) AR=some [("truth":Str)] by decide +kernel) rfl,Yr 1,Yr 1⟩
theorem mJ(h:-100<=i)(h':i<=100):TmB 1 1 (.nd "num" (.num i .nil)):=by
 refine⟨Cw (show KTD.datumAt ("num":Str) AR=some [("number":Str)] by decide +kernel) ?_,Yr 1,Yr 1⟩;show(decide (-NB<=i/\i<=NB)&&true)=true;rw[YH ⟨by show(-99999999999999999999:Int)<=i;lia,by show i<=(99999999999999999999:Int);lia⟩];rfl
abbrev DY:Spw:=DW (λ(t:Te)s ws _=>ws=[.ref s,t.enc]) λt _ r _=>r=t.enc\/r=(Te.nd "as" (.trm t (.knd .any .nil))).enc
theorem CV(T:Tx K mg base a):Df P w K mg base "_law_blur" 2 2 DY:=by
 refine mk0 T.ji rfl Wd CL (λf G Q E⟨k,s,e,_⟩=>by rw[e];rfl) (mx T (AS T) (Yr _)) λf G Q E g q=>?_;obtain⟨t,s,rfl,hs,q⟩:=q;unfold We;show Ai _ (Au Q) [some (.ref s),some t.enc] G;simp only[Ai,Ad,Aq,Ah,Ag,Aa,Ac,Ab,gC,Yb,Yc];refine⟨by decide,(Qzz 3),EH rfl (by decide) (by decide) hs λx b c d=>q x c ?_ d⟩;simp only[Yo,Qc,or_false]at b;rcases b with rfl | rfl | rfl | rfl
 ·exact .inl rfl
 ·exact .inl rfl
 ·exact .inl rfl
 ·exact .inr rfl
theorem Hq:KOk .any:=⟨rfl,rfl⟩
theorem mK(h:TmB c d t)(a:r=t.enc\/r=(Te.nd "as" (.trm t (.knd .any .nil))).enc):∃ u:Te,r=u.enc/\TmB (c+1) (d+1) u:=by
 rcases a with rfl | rfl
 ·exact⟨t,rfl,h.mono (by lia) (by lia)⟩
 ·exact⟨_,rfl,CM h Hq⟩
theorem Ws(l:List Str)(s:Str)(h:G p=some (.lst xs))(e:xs=l.map W.str):inF false (.str s) (.ref p) G=some (.bl (l.any (·==s))):=by
 unfold inF;show(Dz G (.ref p)).bind _=_;rw[L6 h,e];show((EZ (l.map W.str)).map _)=_;rw[RW];show some (W.bl (inV (.str s) (l.map V.str)))=_;rw[RX]
abbrev NZ(n:Nat):Spw:=DW (λ(k:Kd)s ws _=>ws=[.ref s,k.enc]/\k.ok=true/\k.dp<=n) λk _ r _=>∃ k':Kd,r=k'.enc/\KdOk k.cnt k.dp k'
theorem EF(T:Tx K mg base a):∀ n:Nat,Df P w K mg base "_law_dim" (n+1) 2 (NZ n)
 | 0=>Dq T.So CL λD G Q E⟨k,s,⟨_,_,hd⟩,_⟩=>by have:=DG k;lia
 | n+1=>by
  refine mk0 (k:=n+1) T.So rfl Wa CL (λD G Q E⟨k,s,⟨e,_⟩,_⟩=>by rw[e];rfl) (mu T (AS T) (by lia) (EF T n) (Yr _)) λD G Q E O q=>?_;obtain⟨k,s,⟨rfl,v,hd⟩,hs,q⟩:=q;unfold Wb;show Af (gIf _ _ Ak) _ (Au Q) [some (.ref s),some k.enc] G;simp only[Af,gIf,gTB,Ad,Ag,Aa,Ac,Ab,gC,Yb,Yc];refine BQ (by decide) (by decide) hs λr B S X A=>?_;simp only[Ae,Br,An];walk_at "pb"
  ·simp only[Ai,Ah,Aa,Ac,gC];exact⟨by decide,q _ _ ⟨.any,rfl,rfl,Ma k,DG k⟩ A⟩
  ·simp only[Ak,Af,gIf,gTB,Ad,Ab,Aq,Ae,gC,Aa,Ac,Yb,Yc,Cu,An];refine⟨by decide,λp I=>?_⟩;rw[Ws ["to","box"] k.hd (xs:=[.str "to",.str "box"]) Aj rfl,An];have b:=A.put (o:=.lst [.str "to",.str "box"]) I
   have c:Ai (Ab 1) (Au Q) [some (.ref s),some k.enc] (put B p (.lst [.str "to",.str "box"])):=by
    simp only[Ai,Ab,Yb,Yc];exact q _ _ ⟨k,rfl,v,Yr _,Yr _⟩ b
   generalize put B p (.lst [.str "to",.str "box"])=G2 at b c ⊢;cases k with
   | any=>exact c
   | num=>exact c
   | truth=>exact c
   | row fs o=>exact c
   | to x y =>
    have d:(x.ok&&y.ok)=true:=v;simp only[YG]at d;have u:1+max x.dp y.dp<=n+1:=hd;rw[show([("to":Str),"box"].any (·==(Kd.to x y).hd))=true from rfl];simp only[if_true,Ai,Ah,Aa,Ac,gB,rF,AO,Ax,Bn,AV,AU,Ag,Ad,Ae,Ab,gC,Yb,Yc,Cu,An,Bc,Kd.enc];refine⟨by decide,NQ ?_⟩;rw[CP];walk_at "pd";refine⟨trivial,by decide,x,s,⟨rfl,d.1,by lia⟩,b.1,λf H j g=>?_⟩;obtain⟨f,rfl,z,L,F⟩:=j;refine⟨trivial,(show 1 < sizeLine by decide),y,s,⟨rfl,d.2,by lia⟩,g.1,λl R m t=>?_⟩;obtain⟨l,rfl,J,U,N⟩:=m;refine⟨trivial,λp2 i=>?_⟩;rw[JD Aj,An,Gz];refine⟨(Qzz 3),q _ _ ⟨.to f l,rfl,?_,?_,?_⟩ (((b.trans g).trans t).put i)⟩
    ·show(f.ok&&l.ok)=true;rw[z,J];rfl
    ·show 1+(f.cnt+l.cnt)<=1+(x.cnt+y.cnt);lia
    ·show 1+max f.dp l.dp<=1+max x.dp y.dp;lia
   | box x =>
    have d:x.ok=true:=v;have u:1+x.dp<=n+1:=hd;rw[show([("to":Str),"box"].any (·==(Kd.box x).hd))=true from rfl];simp only[if_true,Ai,Ah,Aa,Ac,gB,rF,AO,Ax,Bn,AV,AU,Ag,Ad,Ae,Ab,gC,Yb,Yc,Cu,An,Bc,Kd.enc];refine⟨by decide,NQ ?_⟩;rw[CP];walk_at "pd";refine⟨trivial,by decide,x,s,⟨rfl,d,by lia⟩,b.1,λf H j g=>?_⟩;obtain⟨f,rfl,z,L,F⟩:=j;refine⟨trivial,λp2 i=>?_⟩;rw[JD Aj,An,Gz];refine⟨(Qzz 2),q _ _ ⟨.box f,rfl,z,?_,?_⟩ ((b.trans g).put i)⟩
    ·show 1+f.cnt<=1+x.cnt;lia
    ·show 1+f.dp<=1+x.dp;lia
theorem Cy{k:Kd}{Ar:GS}(h1:ω[i]?=some (some k.enc))(h:(k.hd==t)=false)(h':Ar D ω G):Af (gIf (gTB (Ad (Ae (eqF false)) (Ad (Ae ixW) (Ab i) (gC (.int 0))) (gC (.str t)))) B Ak) Ar D ω G:=by
 simp only[Af,gIf,gTB,Ad,Ae,Ab,h1,gC,Cu,An,Bd,h];exact h'
theorem JF{k:Kd}{Ar:GS}(h1:ω[i]?=some (some k.enc))(h:(k.hd==t)=true)(h':B {nx:=Ar D,rt:=D.rt,bk:=D.bk,ct:=D.ct} ω G):Af (gIf (gTB (Ad (Ae (eqF false)) (Ad (Ae ixW) (Ab i) (gC (.int 0))) (gC (.str t)))) B Ak) Ar D ω G:=by
 simp only[Af,gIf,gTB,Ad,Ae,Ab,h1,gC,Cu,An,Bd,h];exact h'
def toL:Fs->List Fd
 | .nil=>[]
 | .cons n m k r=>(n,m,k)::toL r
theorem Hy:∀ fs:Fs,fs.enc=(toL fs).map BA
 | .nil=>rfl
 | .cons n m k r=>by show _::r.enc=_::(toL r).map BA;rw[Hy r];rfl
theorem Wt:∀ fs:Fs,fs.names=(toL fs).map (·.1)
 | .nil=>rfl
 | .cons n m k r=>by show _::r.names=_::(toL r).map (·.1);rw[Wt r]
def cF:List Fd->Nat
 | []=>0
 | x::l=>x.2.2.cnt+cF l
theorem mL{a:List Fd}(h:l.Sublist a):cF l<=cF a:=by
 induction h with
 | slnil=>exact Yr _
 | cons x _ b=>show _<=x.2.2.cnt+_;lia
 | cons_cons x _ b=>show x.2.2.cnt+_<=x.2.2.cnt+_;lia
theorem Wu:∀ fs:Fs,fs.cnt=cF (toL fs)
 | .nil=>rfl
 | .cons n m k r=>by show k.cnt+r.cnt=k.cnt+cF (toL r);rw[Wu r]
theorem JG:∀{fs:Fs},fs.ok=true->∀ x∈toL fs,AA x.1=true/\x.2.2.ok=true/\x.2.2.cnt<=fs.cnt/\x.2.2.dp<=fs.dp
 | .nil,_,x,a=>by cases a
 | .cons n m k r,h,x,a=>by
  have h':(AA n&&k.ok&&r.ok)=true:=h;walk_at "pa";show _/\_/\x.2.2.cnt<=k.cnt+r.cnt/\x.2.2.dp<=max k.dp r.dp;walk_at "pm"
  ·exact⟨h'.1.1,h'.1.2,by show k.cnt<=_;lia,by show k.dp<=_;lia⟩
  ·obtain⟨c,b,e,d⟩:=JG h'.2 x a;exact⟨c,b,by lia,by lia⟩
abbrev JH:GT:=gOr (gTB (Ad (Ae (eqF false)) (Ad (Ae ixW) (Ab 0) (gC (.int 1))) (gC (.str "must")))) (gTB (Ad (Ae (eqF false)) (Ag CK XF (Aa (Ab 1) (Aa (gC (.int 2)) Ac))) (gC (.int 0))))
theorem N0:∀(l:List Fd)(o:Option W)(G:Hw)(a:List Fd),St s G->a.length+l.length<=1000->(∀ e d,e.Sublist l->Hs s G d->R ((a++e).map BA) d)->AN yes (gNm 0) JH (Ab 0) R (l.map BA) [o,some (.ref s)] G (a.map BA)
 | [],o,G,a,hs,_,b=>⟨trivial,by have:=b [] G (.slnil) (Hs.refl hs);rw[Yx]at this;exact this⟩
 | x::l,o,G,a,hs,hl,b=>by
  walk_at "pv"
  have go:∀ c,Hs s G c->AN yes (gNm 0) JH (Ab 0) R (l.map BA) [some (BA x),some (.ref s)] c (a.map BA++[BA x]):=λc f=>by
   have z:=N0 (R:=R) l (some (BA x)) c (a++[x]) f.1 (by rw[Yj];simp only[Yg,Yi];lia) λe d h1 h2=>by
    rw[Yv];exact b (x::e) d (.cons₂ _ h1) (f.trans h2)
   rw[Yy]at z;exact z
  refine⟨trivial,by rw[Yh];exact Bq (by lia),?_⟩;show JH [some (BA x),some (.ref s)] G _;simp only[JH,gOr,gTB,Ad,Ae,Ab,gC,Yb,Yc,BA,ixW,Bb,An,Bd];walk_at "pb"
  ·exact go G (Hs.refl hs)
  ·simp only[Ag,Ab,gC,Aa,Ac,Yb,Yc];refine BQ (by decide) (by decide) hs λr c g r1 f=>?_;simp only[Br,An];walk_at "pb"
   ·exact go c f
   ·exact N0 l _ c a f.1 (by lia) λe d h1 h2=>b e d (.cons _ h1) (f.trans h2)
def flO:List (Str×Te)->Fl
 | []=>.nil
 | x::l=>.cons x.1 x.2 (flO l)
def JI(x:Str×Te):W:=.tup [.str x.1,x.2.enc]
theorem Wv:∀ l,(flO l).enc=l.map JI
 | []=>rfl
 | x::l=>by show _::(flO l).enc=_::l.map JI;rw[Wv l];rfl
theorem Ww:∀ l,(flO l).names=l.map (·.1)
 | []=>rfl
 | x::l=>by show _::(flO l).names=_::l.map (·.1);rw[Ww l]
def TL(d:Nat):List (Str×Te)->List Fd->Prop
 | [],[]=>True
 | y::ys,x::xs=>(y.1=x.1/\TmB (2*x.2.2.cnt) d y.2)/\TL d ys xs
 | _,_=>False
theorem TL.ok:∀{ys:List (Str×Te)}{xs:List Fd},TL d ys xs->(∀ x∈xs,AA x.1=true)->(flO ys).ok=true/\(flO ys).cnt<=2*cF xs/\(flO ys).dp<=d/\ys.map (·.1)=xs.map (·.1)
 | [],[],_,_=>⟨rfl,YX _,YX _,rfl⟩
 | y::ys,x::xs,⟨⟨h1,h2,f,j⟩,h⟩,a=>by
  obtain⟨c,g,i,b⟩:=TL.ok h λz e=>a z (Yd _ e);refine⟨?_,?_,?_,?_⟩
  ·show((AA y.1&&y.2.ok)&&(flO ys).ok)=true;rw[h1,a x Ye,h2,c];rfl
  ·show y.2.cnt+(flO ys).cnt<=2*(x.2.2.cnt+cF xs);lia
  ·show max y.2.dp (flO ys).dp<=d;lia
  ·rw[Ym,Ym,b,h1]
theorem TL.snoc(h:y.1=x.1/\TmB (2*x.2.2.cnt) d y.2):∀{ys:List (Str×Te)}{xs:List Fd},TL d ys xs->TL d (ys++[y]) (xs++[x])
 | [],[],_=>⟨h,trivial⟩
 | y::ys,x::xs,⟨h1,h2⟩=>⟨h1,TL.snoc h h2⟩
abbrev JJ(n:Nat):Spw:=DW (λ(k:Kd)s ws _=>ws=[.ref s,k.enc]/\KOk k/\k.dp<=n) λk _ r _=>∃ t:Te,r=t.enc/\TmB (2*k.cnt) (2*k.dp) t
abbrev gLe(n:Nat):GE:=Ah (Aa (Ad (Ae ixW) (Ab 0) (gC (.int 0))) (Aa (Ag (JJ n) XF (Aa (Ab 1) (Aa (Ad (Ae ixW) (Ab 0) (gC (.int 2))) Ac))) Ac))
theorem Wx(c:q≠s):∀(l done:List Fd)(ys:List (Str×Te))(o:Option W)(G:Hw),St s G->G q=some (.lst items)->TL d ys done->ys.length+l.length<=1000->(∀ x∈l,KOk x.2.2/\x.2.2.dp<=n/\2*x.2.2.dp<=d)->(∀ a f,TL d a (done++l)->Hs s G f->R (a.map JI) f)->AN (holds q items) (gNm 0) Ay (gLe n) R (l.map BA) [o,some (.ref s)] G (ys.map JI)
 | [],done,ys,o,G,hs,e,g,_,_,b=>⟨e,b ys G (by rw[Yx];exact g) (Hs.refl hs)⟩
 | x::l,done,ys,o,G,hs,e,g,hl,i,b=>by
  walk_at "pv";refine⟨e,by rw[Yh];exact Bq (by lia),?_⟩;obtain⟨k,p,v⟩:=i x Ye;simp only[gNm,Ay,if_true,Yk,gLe,Ah,Ag,Ad,Ae,Aa,Ac,Ab,gC,Yb,Yc,BA,ixW,Bg,B4,An];refine⟨x.2.2,s,⟨rfl,k,p⟩,hs,λr j m h=>?_⟩;obtain⟨t,rfl,h1,h2,w⟩:=m;refine⟨(Qzz 2),?_⟩;have z:=Wx (R:=R) c l (done++[x]) (ys++[(x.1,t)]) (some (BA x)) j h.1 (h.2 q c _ e) (TL.snoc ⟨rfl,h1,h2,by show t.dp<=d;lia⟩ g) (by rw[Yj];simp only[Yg,Yi];lia) (λy u=>i y (Yd _ u)) λa f g1 g2=>b a f (by rw[Yv]at g1;exact g1) (h.trans g2);rw[Yy]at z;exact z
theorem mM(h1:AY f.names=true)(h2:f.ok=true)(b:f.cnt<=c)(a:f.dp<=d):TmB (c+1) (d+1) (.nd "rec" (.fld f .nil)):=by
 refine⟨Cw (show KTD.datumAt ("rec":Str) AR=some [("fields":Str)] by decide +kernel) ?_,?_,?_⟩
 ·show((AY f.names&&f.ok)&&true)=true;rw[h1,h2];rfl
 ·show 1+(f.cnt+0)<=_;lia
 ·show 1+max f.dp 0<=_;lia
theorem N1(h:KOk k)(hc:c∈k.kids):KOk c:=by
 have h2:=h.2;unfold BF at h2;simp only[YS]at h2;refine⟨Me h.1 c hc,?_⟩;unfold BF;have:=GN hc;have:=Fc hc;simp only[YS];lia
theorem EE(T:Tx K mg base a):∀ n:Nat,Df P w K mg base "_law_least" (n+1) 2 (JJ n)
 | 0=>Dq T.Sn CL λX G Q E⟨k,s,⟨_,_,hd⟩,_⟩=>by have:=DG k;lia
 | n+1=>by
  refine mk0 (k:=n+1) T.Sn rfl NU CL (λX G Q E⟨k,s,⟨e,_⟩,_⟩=>by rw[e];rfl) (mn T (AS T) (by lia) (EE T n) (Yr _)) λX G Q E hC q=>?_;obtain⟨k,s,⟨rfl,H,hd⟩,hs,q⟩:=q;unfold V8;show Af (gIf _ _ Ak) _ (Au Q) [some (.ref s),some k.enc,none] G
  have A:∀ D:Kd,D=k->Ai (Ah (Aa (gC (.str "num")) (Aa (Ad (Aw (λ_ _=>True) λi j=>i - j) (Ag CK XF (Aa (Ab 0) (Aa (gC (.int 9)) Ac))) (gC (.int 4))) Ac))) (Au Q) [some (.ref s),some D.enc,none] G:=by
   rintro D rfl;simp only[Ai,Ah,Aa,Ac,Ad,Ag,Ab,gC,Aw,Yb,Yc];refine BQ (by decide) (by decide) hs λr N r0 r9 b=>⟨trivial,(Qzz 2),?_⟩;exact q _ _ ⟨.nd "num" (.num (r - 4) .nil),rfl,(mJ (by lia) (by lia)).mono (by have:=Ma D;lia) (by have:=DG D;lia)⟩ b
  cases k with
  | any=>exact Cy rfl rfl (Cy rfl rfl (Cy rfl rfl (Cy rfl rfl (A _ rfl))))
  | num=>exact Cy rfl rfl (Cy rfl rfl (Cy rfl rfl (Cy rfl rfl (A _ rfl))))
  | truth =>
   refine JF rfl rfl ?_;simp only[Ai,Ah,Aa,Ac,Ad,Ag,Ab,gC,Yb,Yc];refine BQ (by decide) (by decide) hs λr N r0 r9 b=>?_;simp only[Ae,Br,An];exact⟨(Qzz 2),q _ _ ⟨.nd "truth" (.tru _ .nil),rfl,(mI _).mono (by decide) (by decide)⟩ b⟩
  | to x y =>
   have hy:=N1 (c:=y) H (.tail _ (.head _));have h:=N1 (c:=x) H (.head _);have F:1+max x.dp y.dp<=n+1:=hd;refine Cy rfl rfl (JF rfl rfl ?_);simp only[Ai,Ah,Aa,Ac,Ad,Aq,Ag,Ab,gC,Yb,Yc];refine EH rfl (by decide) (by decide) hs λz U N b=>?_;simp only[Ae,Kd.enc,ixW,Bb,B4,An];refine⟨y,s,⟨rfl,hy,by lia⟩,b.1,λr S m u=>?_⟩;obtain⟨t,rfl,J⟩:=m;refine⟨(Qzz 4),?_⟩
   have hn:∃ v:Str,z=.str v/\AA v=true:=by
    simp only[Yo,Qc,or_false]at U;rcases U with rfl | rfl
    ·exact⟨_,rfl,by decide +kernel⟩
    ·exact⟨_,rfl,by decide +kernel⟩
   obtain⟨v,rfl,hv⟩:=hn;exact q _ _ ⟨.nd "fun" (.nam v (.knd x (.trm t .nil))),rfl,(NX hv h J).mono (by show _<=2*(1+(x.cnt+y.cnt));lia) (by show _<=2*(1+max x.dp y.dp);lia)⟩ (b.trans u)
  | box x =>
   have h:=N1 (c:=x) H (.head _);have F:1+x.dp<=n+1:=hd;refine Cy rfl rfl (Cy rfl rfl (JF rfl rfl ?_));simp only[Ai,Ah,Aa,Ac,Ad,Aq,Ag,Ab,gC,Yb,Yc,Ae,Kd.enc,ixW,Bb,An];refine⟨x,s,⟨rfl,h,by lia⟩,hs,λr S m u=>?_⟩;obtain⟨t,rfl,J⟩:=m;refine⟨(Qzz 3),(Qzz 2),?_⟩;exact q _ _ ⟨.nd "new" (.trm (.nd "as" (.trm t (.knd x .nil))) .nil),rfl,(JE (by decide +kernel) (CM J h)).mono (by show _<=2*(1+x.cnt);lia) (by show _<=2*(1+x.dp);lia)⟩ u
  | row fs o =>
   have m:(AY fs.names&&fs.ok)=true:=H.1;simp only[YG]at m;have F:1+fs.dp<=n+1:=hd;have g:=H.2;unfold BF at g;simp only[YS]at g;have hgc:1+fs.cnt<=31:=g.1;have hgp:1+fs.dp<=8:=g.2;have O:=Hd fs;rw[Hy,Yh]at O;refine Cy rfl rfl (Cy rfl rfl (Cy rfl rfl (JF rfl rfl ?_)));show Af (Ao 2 _) _ _ _ _;refine AF ?_;walk_at "pg";refine N0 (toL fs) none G [] hs (by simp only[Yi];lia) λl N B b p L=>?_;have R:=Hs.ne b.1 L;have hll:=B.length_le;rw[Yw];simp only[Ai,Ah,Aa,Ac,gB,rF,AO,Ax,Ab,gC,Yb,Yc,Yk,Yl,Aj,Bc,List.replicate,Ym,YI,Option.getD_some,List.cons_append,Yw];refine Wx (n:=n) (d:=2*fs.dp) R l [] [] none _ (b.1.put L) Aj trivial (by simp only[Yi];lia) (λx h=>?_) λys S g1 g2 p2 I=>?_
   ·obtain⟨a1,a2,a3,a4⟩:=JG m.2 x (B.subset h);refine⟨⟨a2,?_⟩,by lia,by lia⟩;unfold BF;simp only[YS];lia
   ·rw[JD Aj,An];refine⟨(Qzz 2),?_⟩;rw[Yw]at g1;obtain⟨b1,b2,Y,b4⟩:=g1.ok λx h=>(JG m.2 x (B.subset h)).1;have hcl:=mL B;have Z:=Wu fs;refine q _ _ ⟨.nd "rec" (.fld (flO ys) .nil),?_,(mM (f:=flO ys) (c:=2*cF l) (d:=2*fs.dp) ?_ b1 b2 Y).mono ?_ ?_⟩ ((b.put L).trans g2 |>.put I)
    ·show _=W.tup [.str "rec",.tup (flO ys).enc];rw[Wv]
    ·rw[Ww,b4];exact Wq (B.map _) (by rw[<- Wt];exact m.1)
    ·show _<=2*(1+fs.cnt);lia
    ·show _<=2*(1+fs.dp);lia
abbrev Wy:List Str:=["state","want","names","deep","some","name","kind","told"]
theorem N2:AB Wy ["state","want","names","deep"] (Ap GZ):=by walk_at "s"
def N3(BR:Spw)(AL:Spw):GS:=(Af (Ao 4 (Aq Ac)) (Af (AT (Ax (gB (Ib) (Aa (Ab 2) Ac))) (gNm 5) (Af (Ao 6 (Ad (Ae ixK) (Ab 2) (Ab 5))) (Af (gIf (gTB (Ad (Ae (eqF false)) (Ab 6) (Ab 1))) (AC (gMt AX BJ (Ab 4) (Aa (Ah (Aa (gC (.str "name")) (Aa (Ab 5) Ac))) Ac))) Ak) (Af (gIf (A8 (gTB (Ad (Ae (eqF false)) (Ad (Ae ixW) (Ab 6) (gC (.int 0))) (gC (.str "to")))) (gTB (Ad (Ae (eqF false)) (Ad (Ae ixW) (Ab 6) (gC (.int 2))) (Ab 1)))) (AC (gMt AX BJ (Ab 4) (Aa (Ah (Aa (gC (.str "call")) (Aa (Ag BR XF (Aa (Ab 0) (Aa (Ah (Aa (gC (.str "name")) (Aa (Ab 5) Ac))) Ac))) (Aa (Ag AL XF (Aa (Ab 0) (Aa (Ad (Ae ixW) (Ab 6) (gC (.int 1))) (Aa (Ab 2) (Aa (Ab 3) Ac))))) Ac)))) Ac))) Ak) (Af (gIf (gTB (Ad (Ae (eqF false)) (Ab 6) (Ah (Aa (gC (.str "box")) (Aa (Ab 1) Ac))))) (Af (AC (gMt AX BJ (Ab 4) (Aa (Ah (Aa (gC (.str "read")) (Aa (Ag BR XF (Aa (Ab 0) (Aa (Ah (Aa (gC (.str "name")) (Aa (Ab 5) Ac))) Ac))) Ac))) Ac))) (AC (gMt AX BJ (Ab 4) (Aa (Ah (Aa (gC (.str "write")) (Aa (Ah (Aa (gC (.str "name")) (Aa (Ab 5) Ac))) (Aa (Ag AL XF (Aa (Ab 0) (Aa (Ab 1) (Aa (Ab 2) (Aa (Ab 3) Ac))))) Ac)))) Ac)))) Ak) (gIf (gTB (Ad (Ae (eqF false)) (Ad (Ae ixW) (Ab 6) (gC (.int 0))) (gC (.str "row")))) (Af (Ao 7 (AO (Ax (Ad (Ae ixW) (Ab 6) (gC (.int 1)))) 1 [1] (gNm 0) (gTB (Ad (Ae (eqF false)) (Bn (Ab 0) (AV (gC (.int 1))) AU) (Ah (Aa (gC (.str "must")) (Aa (Ab 1) Ac))))) (Ad (Ae ixW) (Ab 0) (gC (.int 0))))) (AC (gMt AX BN (Ab 4) (Aa (AO (Ax (Ab 7)) 1 [0,5] (gNm 0) Ay (Ah (Aa (gC (.str "get")) (Aa (Ag BR XF (Aa (Ab 1) (Aa (Ah (Aa (gC (.str "name")) (Aa (Ab 2) Ac))) Ac))) (Aa (Ab 0) Ac))))) Ac)))) Ak)))))) (Ai (Ab 4))))
theorem mO(T:Tx K mg base a){CV:Nat}(Wz:Df P w K mg base "_law_blur" CV 2 BR)(WA:CV<=k)(Jx:Df P w K mg base "_law_term" BP 4 AL)(Jy:BP<=k):Dn P w K mg base Wy "_law_by_name" GZ k (N3 BR AL):=λ{f cdv A outer s H E}hr=>
 have hu:=AQ hr
 have hN:=N2.nd
 (Az (by walk_at "v") (Az (EV PassesOwn.never rfl (λ_=>rfl) (by walk_at "v") (by walk_at "v") (Az (by walk_at "v") (Az (by walk_at "v") (Az (by walk_at "v") (Az (by walk_at "v") (AG (Cb (by walk_at "v") (Az (HS (i:=7) N2.nd rfl rfl rfl rfl (Cp (own:=["field"]) (fr:=["want"]) (js:=[1]) (scX:=Ap GZ) (n:=s.heap.objs.size+1) rfl (by decide +kernel) (by decide +kernel) (by decide +kernel) (by decide +kernel) rfl rfl rfl (by decide +kernel) rfl) (λ_=>rfl) (by walk_at "v") (CO (i:=0) (by decide) rfl rfl) (λC fp s1 H1=>(by walk_at "v")) (λC fp s1 H1=>(by walk_at "v"))) (AG (BZ rfl (D9 FQ rfl rfl rfl rfl rfl (by walk_at "v") (AH rfl (Dl rfl (Cp (own:=["one"]) (fr:=["state","name"]) (js:=[0,5]) (scX:=Ap GZ) (n:=s.heap.objs.size+1) rfl (by decide +kernel) (by decide +kernel) (by decide +kernel) (by decide +kernel) rfl rfl rfl (by decide +kernel) rfl) (λ_=>rfl) (by walk_at "v") (CO (i:=0) (by decide) rfl rfl) (λC fp s1 H1=>A6) (λC fp s1 H1=>(by walk_at "v"))) A5))))) C5))))))) (by walk_at "v")))
abbrev WB:List Str:=["state","want","names","deep","way","some","one","other","mark","kind","row","inner","number"]
theorem WC:AB WB ["state","want","names","deep"] (Ap MK):=by walk_at "s"
def N4(AE:Spw)(Dd:Spw)(JK:Spw)(JL:Spw)(AL:Spw)(BR:Spw):GS:=(Af (Ao 4 (Ag AE XF (Aa (Ab 0) (Aa (gC (.int 12)) Ac)))) (Af (gIf (gOr (gTB (Ad (Ae (eqF false)) (Ab 3) (gC (.int 0)))) (gTB (Ad (Ae (eqF false)) (Ab 4) (gC (.int 11))))) (Af (gIf (gTB (Ad (Ae (eqF false)) (gMt GH GF (Ab 2) (Aa (gC (.str "x")) (Aa (Ah Ac) Ac))) (Ab 1))) (Ai (Ah (Aa (gC (.str "name")) (Aa (gC (.str "x")) Ac)))) Ak) (Ai (Ag Dd XF (Aa (Ab 0) (Aa (Ab 1) Ac))))) Ak) (Af (Ao 5 (Aq Ac)) (Af (gIf (gTB (Ad (A1 (λi j=>decide (i < j)) AW) (Ab 4) (gC (.int 6)))) (Ao 5 (Ag JK XF (Aa (Ab 0) (Aa (Ab 1) (Aa (Ab 2) (Aa (Ad (Aw (λ_ _=>True) λi j=>i - j) (Ab 3) (gC (.int 1))) Ac)))))) Ak) (Af (gIf (gTB (Ad (Ae (eqF true)) (Ab 5) (Aq Ac))) (Ai (Ad (Ae ixW) (Ab 5) (Ag AE XF (Aa (Ab 0) (Aa (gB (rF Bf) (Aa (Ab 5) Ac)) Ac))))) Ak) (Af (gIf (gTB (Ad (A1 (λi j=>decide (i < j)) AW) (Ab 4) (gC (.int 8)))) (Ai (Ag JL XF (Aa (Ab 0) (Aa (Ab 1) (Aa (Ab 2) (Aa (Ad (Aw (λ_ _=>True) λi j=>i - j) (Ab 3) (gC (.int 1))) Ac)))))) Ak) (Af (Ao 6 (Ag AL XF (Aa (Ab 0) (Aa (Ab 1) (Aa (Ab 2) (Aa (Ad (Aw (λ_ _=>True) λi j=>i - j) (Ab 3) (gC (.int 1))) Ac)))))) (Af (Ao 7 (Ag AL XF (Aa (Ab 0) (Aa (Ab 1) (Aa (Ab 2) (Aa (Ad (Aw (λ_ _=>True) λi j=>i - j) (Ab 3) (gC (.int 1))) Ac)))))) (Af (gIf (gTB (Ad (Ae (eqF false)) (Ab 4) (gC (.int 8)))) (Ai (Ah (Aa (gC (.str "if")) (Aa (Ag AL XF (Aa (Ab 0) (Aa (Ah (Aa (gC (.str "truth")) Ac)) (Aa (Ab 2) (Aa (Ad (Aw (λ_ _=>True) λi j=>i - j) (Ab 3) (gC (.int 1))) Ac))))) (Aa (Ab 6) (Aa (Ab 7) Ac)))))) Ak) (Af (gIf (A8 (gTB (Ad (Be λi j=>decide (j < i)) (Ab 4) (gC (.int 8)))) (gTB (Ad (Ae (eqF false)) (Ad (Ae ixW) (Ab 1) (gC (.int 0))) (gC (.str "to"))))) (Af (Ao 11 (gB (GK) (Aa (Ab 2) Ac))) (Af (F0 (Ad (Ae ixW) (Ab 1) (gC (.int 1))) (Ab 11) (Ad (Ae ixW) (Aq (Aa (gC (.str "x")) (Aa (gC (.str "y")) Ac))) (Ad (Aw (λ_ j=>0 < j) λi j=>i % j) (Ab 4) (gC (.int 2))))) (Ai (Ah (Aa (gC (.str "fun")) (Aa (Ad (Ae ixW) (Aq (Aa (gC (.str "x")) (Aa (gC (.str "y")) Ac))) (Ad (Aw (λ_ j=>0 < j) λi j=>i % j) (Ab 4) (gC (.int 2)))) (Aa (Ad (Ae ixW) (Ab 1) (gC (.int 1))) (Aa (Ag AL XF (Aa (Ab 0) (Aa (Ad (Ae ixW) (Ab 1) (gC (.int 2))) (Aa (Ab 11) (Aa (Ad (Aw (λ_ _=>True) λi j=>i - j) (Ab 3) (gC (.int 1))) Ac))))) Ac)))))))) Ak) (Af (gIf (A8 (gTB (Ad (Ae (eqF false)) (Ab 4) (gC (.int 9)))) (gTB (Ad (Ae (inF false)) (Ad (Ae ixW) (Ab 1) (gC (.int 0))) (Aq (Aa (gC (.str "num")) (Aa (gC (.str "truth")) Ac)))))) (Af (Ao 12 (Ag AL XF (Aa (Ab 0) (Aa (Ah (Aa (gC (.str "num")) Ac)) (Aa (Ab 2) (Aa (Ad (Aw (λ_ _=>True) λi j=>i - j) (Ab 3) (gC (.int 1))) Ac)))))) (Af (gIf (gTB (Ad (Ae (eqF false)) (Ad (Ae ixW) (Ab 1) (gC (.int 0))) (gC (.str "num")))) (Ai (Ah (Aa (gC (.str "plus")) (Aa (Ab 12) (Aa (Ab 6) Ac))))) Ak) (Ai (Ah (Aa (gC (.str "less")) (Aa (Ab 12) (Aa (Ag AL XF (Aa (Ab 0) (Aa (Ah (Aa (gC (.str "num")) Ac)) (Aa (Ab 2) (Aa (Ad (Aw (λ_ _=>True) λi j=>i - j) (Ab 3) (gC (.int 1))) Ac))))) Ac))))))) Ak) (Af (Ao 8 (Ad (Ae ixW) (Aq (Aa (gC (.str "must")) (Aa (gC (.str "may")) Ac))) (Ag AE XF (Aa (Ab 0) (Aa (gC (.int 2)) Ac))))) (Af (Ao 9 (Ah (Aa (gC (.str "row")) (Aa (Ah (Aa (Ah (Aa (gC (.str "a")) (Aa (Ab 8) (Aa (Ab 1) Ac)))) Ac)) (Aa (Ad (Ae (eqF false)) (Ag AE XF (Aa (Ab 0) (Aa (gC (.int 2)) Ac))) (gC (.int 0))) Ac))))) (Af (Ao 10 (Ag AL XF (Aa (Ab 0) (Aa (Ah (Aa (gC (.str "row")) (Aa (Ad (Ae ixW) (Ab 9) (gC (.int 1))) (Aa (gC (.bl false)) Ac)))) (Aa (Ab 2) (Aa (Ad (Aw (λ_ _=>True) λi j=>i - j) (Ab 3) (gC (.int 1))) Ac)))))) (Af (gIf (gTB (Ad (Ae (eqF false)) (Ag AE XF (Aa (Ab 0) (Aa (gC (.int 2)) Ac))) (gC (.int 0)))) (Af (Ao 9 (Ah (Aa (gC (.str "row")) (Aa (Ad (Ae ixW) (Aq (Aa (Ad (Ae ixW) (Ab 9) (gC (.int 1))) (Aa (Ah Ac) Ac))) (Ad (Aw EN λi j=>i / j) (Ag AE XF (Aa (Ab 0) (Aa (gC (.int 3)) Ac))) (gC (.int 2)))) (Aa (Ad (Ae ixW) (Ab 9) (gC (.int 2))) Ac))))) (Ao 10 (Ag BR XF (Aa (Ab 0) (Aa (Ah (Aa (gC (.str "as")) (Aa (Ab 10) (Aa (Ah (Aa (gC (.str "any")) Ac)) Ac)))) Ac))))) Ak) (Af (Ao 10 (Ah (Aa (gC (.str "as")) (Aa (Ab 10) (Aa (Ab 9) Ac))))) (Af (gIf (gOr (gTB (Ad (Ae (eqF false)) (Ab 8) (gC (.str "may")))) (A8 (gTB (Ad (Ae (eqF false)) (Ad (Ae ixW) (Ab 9) (gC (.int 1))) (Ah Ac))) (gNt (A4 (Ad (Ae ixW) (Ab 9) (gC (.int 2))))))) (Ai (Ah (Aa (gC (.str "or")) (Aa (Ab 10) (Aa (Ad (Ae ixW) (Aq (Aa (gC (.str "a")) (Aa (gC (.str "b")) Ac))) (Ag AE XF (Aa (Ab 0) (Aa (gC (.int 2)) Ac)))) (Aa (Ab 7) Ac)))))) Ak) (Ai (Ah (Aa (gC (.str "get")) (Aa (Ab 10) (Aa (gC (.str "a")) Ac))))))))))))))))))))))
theorem mP(T:Tx K mg base a){AS:Nat}(EC:Df P w K mg base "_law_take" AS 2 AE)(ED:AS<=k){EE:Nat}(mq:Df P w K mg base "_law_least" EE 2 Dd)(ms:EE<=k)(oA:Df P w K mg base "_law_by_name" JM 4 JK)(oB:JM<=k)(oD:Df P w K mg base "_law_around" JN 4 JL)(oE:JN<=k)(Jx:Df P w K mg base "_law_term" BP 4 AL)(Jy:BP<=k){CV:Nat}(Wz:Df P w K mg base "_law_blur" CV 2 BR)(WA:CV<=k):Dn P w K mg base WB "_law_term" MK k (N4 AE Dd JK JL AL BR):=by
 have hN:=WC.nd;walk_at "z"
abbrev WD:List Str:=["state","want","names","deep","made","part","some"]
theorem WE:AB WD ["state","want","names","deep"] (Ap ML):=by walk_at "s"
def N5(Bj:Spw)(AL:Spw)(AE:Spw):GS:=(Af (Ao 4 (Ah (Aa (gC (.str "as")) (Aa (Ag AL XF (Aa (Ab 0) (Aa (Ag Bj XF (Aa (Ab 0) (Aa (gC (.int 1)) Ac))) (Aa (Ab 2) (Aa (Ab 3) Ac))))) (Aa (Ah (Aa (gC (.str "any")) Ac)) Ac))))) (Af (Ao 5 (Ag AL XF (Aa (Ab 0) (Aa (Ag Bj XF (Aa (Ab 0) (Aa (gC (.int 0)) Ac))) (Aa (Ab 2) (Aa (Ab 3) Ac)))))) (Af (Ao 6 (Aq (Aa (Ah (Aa (gC (.str "call")) (Aa (Ab 4) (Aa (Ab 5) Ac)))) (Aa (Ah (Aa (gC (.str "read")) (Aa (Ab 4) Ac))) (Aa (Ah (Aa (gC (.str "write")) (Aa (Ab 4) (Aa (Ab 5) Ac)))) (Aa (Ah (Aa (gC (.str "get")) (Aa (Ab 4) (Aa (gC (.str "a")) Ac)))) Ac)))))) (Af (AC (gMt AX BJ (Ab 6) (Aa (Ah (Aa (gC (.str "or")) (Aa (Ab 4) (Aa (gC (.str "a")) (Aa (Ag AL XF (Aa (Ab 0) (Aa (Ab 1) (Aa (Ab 2) (Aa (Ab 3) Ac))))) Ac))))) Ac))) (Ai (Ad (Ae ixW) (Ab 6) (Ag AE XF (Aa (Ab 0) (Aa (gC (.int 5)) Ac)))))))))
theorem mQ(T:Tx K mg base a){B7:Nat}(NS:Df P w K mg base "_law_kind" B7 2 Bj)(NT:B7<=k)(Jx:Df P w K mg base "_law_term" BP 4 AL)(Jy:BP<=k){AS:Nat}(EC:Df P w K mg base "_law_take" AS 2 AE)(ED:AS<=k):Dn P w K mg base WD "_law_any_first" ML k (N5 Bj AL AE):=by
 have hN:=WE.nd;walk_at "z"
abbrev WF:List Str:=["state","want","names","deep","way","kind","made","other","name","inner"]
theorem WG:AB WF ["state","want","names","deep"] (Ap MM):=by walk_at "s"
def N6(AE:Spw)(JO:Spw)(Bj:Spw)(AL:Spw)(Dr:Spw)(BR:Spw):GS:=(Af (Ao 4 (Ag AE XF (Aa (Ab 0) (Aa (gC (.int 10)) Ac)))) (Af (gIf (gTB (Ad (Be λi j=>decide (j < i)) (Ab 4) (gC (.int 7)))) (Ai (Ag JO XF (Aa (Ab 0) (Aa (Ab 1) (Aa (Ab 2) (Aa (Ab 3) Ac)))))) Ak) (Af (gIf (gTB (Ad (Ae (eqF false)) (Ab 4) (gC (.int 0)))) (Af (Ao 7 (Ad (Ae ixW) (Aq (Aa (Ab 1) (Aa (Ab 1) (Aa (Ag Bj XF (Aa (Ab 0) (Aa (gC (.int 1)) Ac))) Ac)))) (Ag AE XF (Aa (Ab 0) (Aa (gC (.int 3)) Ac))))) (Ai (Ah (Aa (gC (.str "as")) (Aa (Ag AL XF (Aa (Ab 0) (Aa (Ab 7) (Aa (Ab 2) (Aa (Ab 3) Ac))))) (Aa (Ah (Aa (gC (.str "any")) Ac)) Ac)))))) Ak) (Af (gIf (gTB (Ad (Ae (eqF false)) (Ab 4) (gC (.int 1)))) (Ai (Ah (Aa (gC (.str "as")) (Aa (Ah (Aa (gC (.str "as")) (Aa (Ag AL XF (Aa (Ab 0) (Aa (Ab 1) (Aa (Ab 2) (Aa (Ab 3) Ac))))) (Aa (Ag Dr XF (Aa (Ab 0) (Aa (Ab 1) Ac))) Ac)))) (Aa (Ab 1) Ac))))) Ak) (Af (gIf (gTB (Ad (Ae (eqF false)) (Ab 4) (gC (.int 2)))) (Ai (Ah (Aa (gC (.str "as")) (Aa (Ah (Aa (gC (.str "as")) (Aa (Ag AL XF (Aa (Ab 0) (Aa (Ag Bj XF (Aa (Ab 0) (Aa (gC (.int 1)) Ac))) (Aa (Ab 2) (Aa (Ab 3) Ac))))) (Aa (Ah (Aa (gC (.str "any")) Ac)) Ac)))) (Aa (Ab 1) Ac))))) Ak) (Af (Ao 5 (Ad (Ae ixW) (Aq (Aa (Ag Bj XF (Aa (Ab 0) (Aa (gC (.int 1)) Ac))) (Aa (Ah (Aa (gC (.str "to")) (Aa (Ag Bj XF (Aa (Ab 0) (Aa (gC (.int 0)) Ac))) (Aa (Ab 1) Ac)))) (Aa (Ah (Aa (gC (.str "box")) (Aa (Ab 1) Ac))) Ac)))) (Ad (Aw (λ_ j=>0 < j) λi j=>i % j) (Ab 4) (gC (.int 3))))) (Af (gIf (gTB (Ad (A1 (λi j=>decide (i < j)) AW) (Ab 4) (gC (.int 6)))) (Af (Ao 8 (Ad (Ae ixW) (Aq (Aa (gC (.str "x")) (Aa (gC (.str "y")) Ac))) (Ag AE XF (Aa (Ab 0) (Aa (gC (.int 2)) Ac))))) (Af (Ao 9 (gB (GK) (Aa (Ab 2) Ac))) (Af (F0 (Ab 5) (Ab 9) (Ab 8)) (Af (Ao 6 (Ah (Aa (gC (.str "fun")) (Aa (Ab 8) (Aa (Ab 5) (Aa (Ag AL XF (Aa (Ab 0) (Aa (Ab 1) (Aa (Ab 9) (Aa (Ab 3) Ac))))) Ac)))))) (Ai (Ah (Aa (gC (.str "call")) (Aa (Ag BR XF (Aa (Ab 0) (Aa (Ab 6) Ac))) (Aa (Ag AL XF (Aa (Ab 0) (Aa (Ab 5) (Aa (Ab 2) (Aa (Ab 3) Ac))))) Ac))))))))) Ak) (Af (gIf (gTB (Ad (Ae (eqF false)) (Ab 4) (gC (.int 6)))) (Af (Ao 6 (Ah (Aa (gC (.str "as")) (Aa (Ag AL XF (Aa (Ab 0) (Aa (Ah (Aa (gC (.str "box")) (Aa (Ab 1) Ac))) (Aa (Ab 2) (Aa (Ab 3) Ac))))) (Aa (Ah (Aa (gC (.str "box")) (Aa (Ab 1) Ac))) Ac))))) (Af (gIf (gTB (Ad (Ae (eqF false)) (Ag AE XF (Aa (Ab 0) (Aa (gC (.int 2)) Ac))) (gC (.int 0)))) (Ai (Ah (Aa (gC (.str "read")) (Aa (Ag BR XF (Aa (Ab 0) (Aa (Ab 6) Ac))) Ac)))) Ak) (Ai (Ah (Aa (gC (.str "write")) (Aa (Ag BR XF (Aa (Ab 0) (Aa (Ab 6) Ac))) (Aa (Ag AL XF (Aa (Ab 0) (Aa (Ab 1) (Aa (Ab 2) (Aa (Ab 3) Ac))))) Ac))))))) Ak) (Af (Ao 5 (Ah (Aa (gC (.str "to")) (Aa (Ag Bj XF (Aa (Ab 0) (Aa (gC (.int 1)) Ac))) (Aa (Ab 1) Ac))))) (Af (Ao 6 (Ag AL XF (Aa (Ab 0) (Aa (Ab 5) (Aa (Ab 2) (Aa (Ab 3) Ac)))))) (Af (gIf (gTB (Ad (Ae (eqF false)) (Ag AE XF (Aa (Ab 0) (Aa (gC (.int 2)) Ac))) (gC (.int 0)))) (Ao 6 (Ah (Aa (gC (.str "as")) (Aa (Ab 6) (Aa (Ag Dr XF (Aa (Ab 0) (Aa (Ab 5) Ac))) Ac))))) Ak) (Af (Ao 6 (Ah (Aa (gC (.str "as")) (Aa (Ab 6) (Aa (Ab 5) Ac))))) (Ai (Ah (Aa (gC (.str "call")) (Aa (Ag BR XF (Aa (Ab 0) (Aa (Ab 6) Ac))) (Aa (Ag AL XF (Aa (Ab 0) (Aa (Ad (Ae ixW) (Ab 5) (gC (.int 1))) (Aa (Ab 2) (Aa (Ab 3) Ac))))) Ac)))))))))))))))))
theorem mR(T:Tx K mg base a){AS:Nat}(EC:Df P w K mg base "_law_take" AS 2 AE)(ED:AS<=k)(oF:Df P w K mg base "_law_any_first" JP 4 JO)(oG:JP<=k){B7:Nat}(NS:Df P w K mg base "_law_kind" B7 2 Bj)(NT:B7<=k)(Jx:Df P w K mg base "_law_term" BP 4 AL)(Jy:BP<=k){EF:Nat}(mv:Df P w K mg base "_law_dim" EF 2 Dr)(mw:EF<=k){CV:Nat}(Wz:Df P w K mg base "_law_blur" CV 2 BR)(WA:CV<=k):Dn P w K mg base WF "_law_around" MM k (N6 AE JO Bj AL Dr BR):=by
 have hN:=WG.nd;walk_at "z"
mutual
def plW:W->Bool
 | .str _=>true
 | .bl _=>true
 | .int _=>true
 | .tup xs=>plL xs
 | _=>false
def plL:List W->Bool
 | []=>true
 | x::xs=>plW x&&plL xs
end
theorem N7(h:plL (x::xs)=true):plW x=true/\plL xs=true:=Bool.and_eq_true_iff.mp h
theorem WH{a:Bool}(h1:eqD x y=some a)(h2:Bm xs ys=some b):Bm (x::xs) (y::ys)=some (a&&b):=by
 show(match eqD x y,Bm xs ys with | some a,some b=>some (a&&b)| _,_=>none)=_;rw[h1,h2]
mutual
theorem plD:∀(x y:W),plW x=true->plW y=true->∃ b,eqD x y=some b
 | .tup s,.tup t,h,h'=>N8 s t h h'
 | .str _,y,_,h=>by cases y <;> first | exact⟨_,rfl⟩| cases h
 | .bl _,y,_,h=>by cases y <;> first | exact⟨_,rfl⟩| cases h
 | .int _,y,_,h=>by cases y <;> first | exact⟨_,rfl⟩| cases h
 | .tup _,.str _,_,_=>⟨false,rfl⟩
 | .tup _,.bl _,_,_=>⟨false,rfl⟩
 | .tup _,.int _,_,_=>⟨false,rfl⟩
 | .tup _,.non,_,h=>by cases h
 | .tup _,.rol _,_,h=>by cases h
 | .tup _,.ref _,_,h=>by cases h
 | .non,_,h,_=>by cases h
 | .rol _,_,h,_=>by cases h
 | .ref _,_,h,_=>by cases h
theorem N8:∀(xs ys:List W),plL xs=true->plL ys=true->∃ b,Bm xs ys=some b
 | [],[],_,_=>⟨true,rfl⟩
 | [],_::_,_,_=>⟨false,rfl⟩
 | _::_,[],_,_=>⟨false,rfl⟩
 | x::xs,y::ys,h,h'=>by
  obtain⟨h1,h2⟩:=N7 h;obtain⟨f,a⟩:=N7 h';obtain⟨b,e⟩:=plD x y h1 f;obtain⟨c,d⟩:=N8 xs ys h2 a;exact⟨b&&c,WH e d⟩
end
mutual
theorem Fu:∀ k:Kd,plW k.enc=true
 | .any=>rfl
 | .num=>rfl
 | .truth=>rfl
 | .to x y=>by
  have h1:=Fu x;have h2:=Fu y;show(true&&(plW x.enc&&(plW y.enc&&true)))=true;rw[h1,h2];rfl
 | .box x=>by
  have h1:=Fu x;show(true&&(plW x.enc&&true))=true;rw[h1];rfl
 | .row fs o=>by
  have h1:=N9 fs;show(true&&(plL fs.enc&&(true&&true)))=true;rw[h1];rfl
theorem N9:∀ fs:Fs,plL fs.enc=true
 | .nil=>rfl
 | .cons n m k r=>by
  have h1:=Fu k;have h2:=N9 r;show((true&&(true&&(plW k.enc&&true)))&&plL r.enc)=true;rw[h1,h2];rfl
end
def PT(x:W):Prop:=∃ xs,x=.tup xs/\plL xs=true/\L3.dpL xs < 90
theorem WI(h:PT x)(h':PT y)(G:Hw):∃ b,eqF neg x y G=some (.bl b):=by
 obtain⟨xs,rfl,h1,h2⟩:=h;obtain⟨ys,rfl,a,c⟩:=h';obtain⟨b,e⟩:=N8 xs ys h1 a;refine⟨b != neg,?_⟩;show(if L3.dpL xs < 90 then Bm xs ys else none).map _=_;rw[if_pos h2,e];rfl
theorem EI{k:Kd}(h:k.dp<=20):PT k.enc:=by
 obtain⟨xs,e⟩:=T2 k;have h1:=Fu k;have h2:=Ft k;rw[e]at h1 h2;have a:L3.dpL (.str k.hd::xs)+1<=3*k.dp:=h2;exact⟨_,e,h1,by lia⟩
theorem WJ:PT (.tup []):=⟨[],rfl,rfl,by decide⟩
theorem Fv(h:PT x)(h':PT y)(q:∀ b,Z (.bl b)):opt (eqF neg x y G) Z:=by
 obtain⟨b,e⟩:=WI (neg:=neg) h h' G;rw[e,An];exact q b
def kb(m:Nat):Nat:=19 - 5*m
def kp(m:Nat):Nat:=5 - m
def tb:Nat->Nat | 0=>38 | m+1=>3*tb m+6
def td(m:Nat):Nat:=10+4*m
theorem Ga:∀ m,38<=tb m
 | 0=>Yr _
 | m+1=>by have:=Ga m;show 38<=3*tb m+6;lia
theorem KdOk.mono{a:Nat}(h:KdOk c d k)(hc:c<=a)(hd:d<=d'):KdOk a d' k:=⟨h.1,Yt h.2.1 hc,Yt h.2.2 hd⟩
theorem KdOk.ok(h:KdOk (kb m) (kp m) k):KOk k:=by
 refine⟨h.1,?_⟩;have h2:=h.2;unfold kb kp at h2;unfold BF;rw[YS];lia
theorem KdOk.down(h:KdOk (kb (m+1)) (kp (m+1)) k):KdOk (kb m) (kp m) k:=h.mono (by unfold kb;lia) (by unfold kp;lia)
theorem KdOk.pt(h:KdOk (kb m) (kp m) k):PT k.enc:=EI (by have:=h.2.2;unfold kp at this;lia)
def kvK(l:List (Str×Kd)):List (Key×W):=l.map λx=>(Sum.inr x.1,x.2.enc)
def Nm(m:Nat)(p:Addr)(G:Hw):Prop:=∃ l:List (Str×Kd),G p=some (.dct (kvK l))/\(∀ x∈l,AA x.1=true/\KdOk (kb m) (kp m) x.2)/\l.length+m<=3
theorem Nm.down(h:Nm (m+1) p G):Nm m p G:=by
 obtain⟨l,h1,h2,b⟩:=h;exact⟨l,h1,λx a=>⟨(h2 x a).1,(h2 x a).2.down⟩,by lia⟩
theorem Nm.hs{a:Hw}(h:Nm m p G)(hs:St s G)(c:Hs s G a):Nm m p a:=by
 obtain⟨l,h1,h2,b⟩:=h;obtain⟨x,f,e⟩:=hs;refine⟨l,c.2 p ?_ _ h1,h2,b⟩;rintro rfl;rw[h1]at e;cases e
theorem Nm.put(h:Nm m p G)(a:G q=none):Nm m p (put G q o):=by
 obtain⟨l,h1,h2,b⟩:=h;exact⟨l,AD a _ _ h1,h2,b⟩
theorem mS(i:AA z=true)(g:KdOk c d k)(l:List (Str×Kd))(h:∀ x∈l,AA x.1=true/\KdOk c d x.2):∃ b,BE (kvK l) (Sum.inr z) k.enc=kvK b/\(∀ x∈b,AA x.1=true/\KdOk c d x.2)/\b.length<=l.length+1:=by
 unfold BE;split
 ·refine⟨l.map λx=>if x.1=z then(x.1,k)else x,?_,?_,by rw[Yh];lia⟩
  ·unfold kvK;rw[YB,YB];refine List.map_congr_left λx _=>?_;show(if(Sum.inr x.1:Key)=Sum.inr z then _ else _)=_;by_cases e:x.1=z
   ·rw[if_pos (by rw[e])];simp only[Function.comp,if_pos e]
   ·rw[if_neg λh=>e (Sum.inr.inj h)];simp only[Function.comp,if_neg e]
  ·intro x a;obtain⟨y,f,rfl⟩:=YC.mp a;split
   ·exact⟨(h y f).1,g⟩
   ·exact h y f
 ·refine⟨l++[(z,k)],by unfold kvK;rw[Yy];rfl,λx a=>?_,by rw[Yj];exact Yr _⟩;rcases Yz.mp a with a | a
  ·exact h x a
  ·rw[YA.mp a];exact⟨i,g⟩
theorem Nm.new(h:Nm (m+1) p G)(j:AA z=true)(i:KdOk (kb m) (kp m) k):∃ kvs,G p=some (.dct kvs)/\kvs.length < sizeLine/\∀ l c,c l=some (.dct (BE kvs (Sum.inr z) k.enc))->Nm m l c:=by
 obtain⟨l,h1,h2,n⟩:=h;obtain⟨g,e,a,b⟩:=mS j i l λx d=>⟨(h2 x d).1,(h2 x d).2.down⟩;exact⟨_,h1,by unfold kvK;rw[Yh];exact Bq (by lia),λq c f=>⟨g,by rw[<- e];exact f,a,by lia⟩⟩
theorem Nm.get(h:Nm m p G)(z:Str):∃ kvs,G p=some (.dct kvs)/\PT (BO kvs z (.tup [])):=by
 obtain⟨l,h1,h2,_⟩:=h;refine⟨_,h1,?_⟩
 have go:∀ l:List (Str×Kd),(∀ x∈l,AA x.1=true/\KdOk (kb m) (kp m) x.2)->PT (BO (kvK l) z (.tup [])):=by
  intro l;induction l with
  | nil=>intro _;exact WJ
  | cons x l a =>
   intro h;show PT (BO ((Sum.inr x.1,x.2.enc)::kvK l) z _);rw[GC];split
   ·exact(h x Ye).2.pt
   ·exact a λy b=>h y (Yd _ b)
 exact go l h2
abbrev CW(n:Nat):Spw:=DW (λ(x:Kd×Nat×Addr)s ws G=>ws=[.ref s,x.1.enc,.ref x.2.2,.int (x.2.1:Nat)]/\x.2.1 < n/\x.2.1<=3/\KdOk (kb x.2.1) (kp x.2.1) x.1/\Nm x.2.1 x.2.2 G) λx _ r _=>∃ t:Te,r=t.enc/\TmB (tb x.2.1) (td x.2.1) t
abbrev JQ(n:Nat):Spw:=DW (λ(x:Kd×Nat×Addr)s ws G=>ws=[.ref s,x.1.enc,.ref x.2.2,.int (x.2.1:Nat)]/\x.2.1 < n/\x.2.1+1<=3/\KdOk (kb (x.2.1+1)) (kp (x.2.1+1)) x.1/\Nm (x.2.1+1) x.2.2 G) λx _ r _=>∃ t:Te,r=t.enc/\TmB (2*tb x.2.1+5) (td x.2.1+4) t
abbrev WK(n:Nat):Spw:=DW (λ(x:Kd×Nat×Addr)s ws G=>ws=[.ref s,x.1.enc,.ref x.2.2,.int (x.2.1:Nat)]/\x.2.1 < n/\x.2.1+1<=3/\KdOk (kb (x.2.1+1)) (kp (x.2.1+1)) x.1/\Nm (x.2.1+1) x.2.2 G) λx s r G'=>∃ q,∃ ts:List Te,r=.ref q/\q≠s/\G' q=some (.lst (ts.map Te.enc))/\(∀ t∈ts,TmB (tb x.2.1+3) (td x.2.1+2) t)/\ts.length<=1000
theorem BB(f:m < n)(b:m<=3)(h:KdOk (kb m) (kp m) k)(c:Nm m p G)(hs:St s G)(hi:i=(m:Int))(q:∀(t:Te)a,TmB (tb m) (td m) t->Hs s G a->Z t.enc a):CW n [.ref s,k.enc,.ref p,.int i] G Z E:=by
 subst hi;exact⟨(k,m,p),s,⟨rfl,f,b,h,c⟩,hs,λr a⟨t,e,d⟩g=>by rw[e];exact q t a d g⟩
theorem EJ(c:m < 2)(hs:St s G)(q:∀(k:Kd)a,KdOk 4 2 k->Hs s G a->Z k.enc a):F9 2 [.ref s,.int (m:Nat)] G Z E:=by
 have hc:kc m<=4:=by
  have:m=0\/m=1:=by lia
  rcases this with rfl | rfl <;> decide
 exact⟨m,s,⟨rfl,c⟩,hs,λr a⟨k,e,b⟩d=>by rw[e];exact q k a (b.mono hc (by lia)) d⟩
theorem EK(b:TmB c d t)(hs:St s G)(q:∀(t:Te)a,TmB (c+1) (d+1) t->Hs s G a->Z t.enc a):DY [.ref s,t.enc] G Z E:=by
 refine⟨t,s,rfl,hs,λr a e g=>?_⟩;obtain⟨u,rfl,f⟩:=mK b e;exact q u a f g
theorem WL(b:KdOk c d k)(hd:d<=8)(hs:St s G)(q:∀(k:Kd)a,KdOk c d k->Hs s G a->Z k.enc a):NZ 8 [.ref s,k.enc] G Z E:=by
 refine⟨k,s,⟨rfl,b.1,Yt b.2.2 hd⟩,hs,λr a⟨g,e,f⟩h=>by rw[e];exact q g a (f.mono b.2.1 b.2.2) h⟩
theorem mT(h:x∈[W.str "x",.str "y"]):∃ z:Str,x=.str z/\AA z=true:=by
 simp only[Yo,Qc,or_false]at h;rcases h with rfl | rfl
 ·exact⟨_,rfl,by decide +kernel⟩
 ·exact⟨_,rfl,by decide +kernel⟩
theorem Hr:AA "a"=true:=by decide +kernel
theorem mU:AA "b"=true:=by decide +kernel
theorem JR:KTD.datumAt ("call":Str) AR=some [("term":Str),"term"]:=by decide +kernel
theorem Oa:KTD.datumAt ("write":Str) AR=some [("term":Str),"term"]:=by decide +kernel
theorem mV:KTD.datumAt ("plus":Str) AR=some [("term":Str),"term"]:=by decide +kernel
theorem mW:KTD.datumAt ("less":Str) AR=some [("term":Str),"term"]:=by decide +kernel
theorem Ob:KTD.datumAt ("read":Str) AR=some [("term":Str)]:=by decide +kernel
theorem DZ(J:Sw->Hw->Prop)(h1:∀ ω' a,J ω' a->R D ω' a)(h2:(∀ ω' a,J ω' a->R D ω' a)->Af A R D ω G):Af A R D ω G:=h2 h1
theorem mX(K:m < n)(hm3:m+1<=3)(hk:KdOk (kb (m+1)) (kp (m+1)) k)(J:Nm (m+1) p G)(hs:St s G)(q:∀ r S,(∃ t:Te,r=t.enc/\TmB (2*tb m+5) (td m+4) t)->Hs s G S->Q r S):N5 (F9 2) (CW n) CK (Au Q) [some (.ref s),some k.enc,some (.ref p),some (.int (m:Nat)),none,none,none] G:=by
 have y:∀{k:Kd},KdOk 4 2 k->KdOk (kb m) (kp m) k:=λh=>h.mono (by unfold kb;lia) (by unfold kp;lia);unfold N5;refine AF ?_;walk_at "po";refine EJ (m:=1) (by decide) hs λk1 G1 H f=>?_;refine BB K (by lia) (y H) (J.hs hs f).down f.1 rfl λa G2 E I=>?_;have c:=f.trans I;refine⟨by decide,(Qzz 3),AF ?_⟩;simp only[Ag,Ab,gC,Aa,Ac,Yb,Yc,Yk,Yl];refine EJ (m:=0) (by decide) c.1 λk2 G3 w v=>?_;have c:=c.trans v;refine BB K (by lia) (y w) (J.hs hs c).down v.1 rfl λj G4 l L=>?_;have c:=c.trans L;refine AF ?_;simp only[Aq,Ah,Ab,gC,Aa,Ac,Yb,Yc,Yk,Yl];refine⟨(Qzz 3),(Qzz 2),(Qzz 3),(Qzz 3),(Qzz 4),λz N=>?_⟩;have i:=Hs.ne c.1 N;have g:=c.put (o:=.lst ([Te.nd "call" (.trm (.nd "as" (.trm a (.knd .any .nil))) (.trm j .nil)),.nd "read" (.trm (.nd "as" (.trm a (.knd .any .nil))) .nil),.nd "write" (.trm (.nd "as" (.trm a (.knd .any .nil))) (.trm j .nil)),.nd "get" (.trm (.nd "as" (.trm a (.knd .any .nil))) (.nam "a" .nil))].map Te.enc)) N;simp only[Af,AC,gMt,Ah,Ag,Ab,gC,Aa,Ac,Yb,Yc,Yk,Yl];refine⟨B5 Aj,?_⟩;refine BB K (by lia) hk.down (J.hs hs g).down g.1 rfl λX G6 F d=>?_;refine⟨(Qzz 4),?_⟩;have R:=d.2 z i _ Aj;refine DT R (show 4 < sizeLine by decide) ?_;simp only[Ai,Ad,Ag,Ab,gC,Aa,Ac,Yb,Yc]
 have B:Hs s G (put G6 z (.lst ([Te.nd "call" (.trm (.nd "as" (.trm a (.knd .any .nil))) (.trm j .nil)),.nd "read" (.trm (.nd "as" (.trm a (.knd .any .nil))) .nil),.nd "write" (.trm (.nd "as" (.trm a (.knd .any .nil))) (.trm j .nil)),.nd "get" (.trm (.nd "as" (.trm a (.knd .any .nil))) (.nam "a" .nil)),.nd "or" (.trm (.nd "as" (.trm a (.knd .any .nil))) (.nam "a" (.trm X .nil)))].map Te.enc))):=⟨(Hs2.set d.1 i).1,λb P u U=>by
  have O:b≠z:=AJ (c.2 b P u U) N;rw[Av O];exact d.2 b P u (g.2 b P u U)⟩
 refine BQ (by decide) (by decide) B.1 λr G8 r0 r5 D=>?_;obtain⟨x,Y,e⟩:=EG (xs:=[Te.nd "call" (.trm (.nd "as" (.trm a (.knd .any .nil))) (.trm j .nil)),.nd "read" (.trm (.nd "as" (.trm a (.knd .any .nil))) .nil),.nd "write" (.trm (.nd "as" (.trm a (.knd .any .nil))) (.trm j .nil)),.nd "get" (.trm (.nd "as" (.trm a (.knd .any .nil))) (.nam "a" .nil)),.nd "or" (.trm (.nd "as" (.trm a (.knd .any .nil))) (.nam "a" (.trm X .nil)))].map Te.enc) (D.2 z i _ Aj) r0 (by exact r5);show opt (ixW (.ref z) (.int r) G8) _;rw[e,An];obtain⟨t,T,rfl⟩:=YC.mp Y;have A:=CM E Hq;have Z:=Ga m;refine q _ _ ⟨t,rfl,?_⟩ (B.trans D);simp only[Yo,Qc,or_false]at T;rcases T with rfl | rfl | rfl | rfl | rfl
 ·exact(DX JR A (l.mono (Yr _) (by lia))).mono (by lia) (by lia)
 ·exact(JE Ob A).mono (by lia) (by lia)
 ·exact(DX Oa A (l.mono (Yr _) (by lia))).mono (by lia) (by lia)
 ·exact(NW A Hr).mono (by lia) (by lia)
 ·exact(Wr A Hr (F.mono (Yr _) (by lia))).mono (by lia) (by lia)
theorem JP(T:Tx K mg base a)(c:10<=k)(D:Df P w K mg base "_law_term" k 4 (CW n)):Df P w K mg base "_law_any_first" (k+1) 4 (JQ n):=by
 refine mk0 T.jk rfl WE CL (λg G Q E⟨x,s,⟨e,_⟩,_⟩=>by rw[e];rfl) (mQ T (B7 T 2) (by lia) D (Yr _) (AS T) (by lia)) λg G Q E h q=>?_;obtain⟨⟨k,m,p⟩,s,⟨rfl,f,b,c,d⟩,hs,q⟩:=q;exact mX f b c d hs q
theorem mY(H:m < n)(hm3:m+1<=3)(P:KdOk (kb (m+1)) (kp (m+1)) k)(I:Nm (m+1) p G)(hs:St s G)(q:∀ r T,(∃ t:Te,r=t.enc/\TmB (2*tb m+5) (td m+4) t)->Hs s G T->Q r T):N6 CK (JQ n) (F9 2) (CW n) (NZ 8) DY (Au Q) [some (.ref s),some k.enc,some (.ref p),some (.int (m:Nat)),none,none,none,none,none,none] G:=by
 have J:∀{k:Kd},KdOk 4 2 k->KdOk (kb m) (kp m) k:=λh=>h.mono (by unfold kb;lia) (by unfold kp;lia);have h38:=Ga m;have F:=P.down;have hp3:kp (m+1)<=8:=by unfold kp;lia
 have ktb:∀{i:Kd},KdOk 4 2 i->KdOk (kb m) (kp m) (.to i k):=λ{i}h=>by
  obtain⟨a1,a2,a3⟩:=h;obtain⟨b1,b2,b3⟩:=P;refine⟨?_,?_,?_⟩
  ·show(i.ok&&k.ok)=true;rw[a1,b1];rfl
  ·show 1+(i.cnt+k.cnt)<=_;unfold kb at b2 ⊢;lia
  ·show 1+max i.dp k.dp<=_;unfold kp at b3 ⊢;lia
 have L:KdOk (kb m) (kp m) (.box k):=by
  obtain⟨b1,b2,b3⟩:=P;refine⟨b1,?_,?_⟩
  ·show 1+k.cnt<=_;unfold kb at b2 ⊢;lia
  ·show 1+k.dp<=_;unfold kp at b3 ⊢;lia
 unfold N6;refine AF ?_;simp only[Ag,Ab,gC,Aa,Ac,Yb];refine BQ (by decide) (by decide) hs λr G1 r0 r1 E=>?_;have X:=I.hs hs E;simp only[Yk,Yl,Af,gIf,gTB,Ad,Be,Ab,gC,Yb,Yc];walk_at "pb"
 ·simp only[Ai,Ag,Ab,Aa,Ac,Yb,Yc];exact⟨(k,m,p),s,⟨rfl,H,hm3,P,X⟩,E.1,λr' G2 y b=>q r' G2 y (E.trans b)⟩
 have h7:r<=7:=by
  have:¬ (7:Int) < r:=λz=>h (YH z);lia
 simp only[Ak,Ae,Br,An];walk_at "pb"
 ·show Af (Ao 7 _) _ _ _ _;refine AF ?_;walk_at "pn";refine EJ (m:=1) (by decide) E.1 λO G2 D b=>?_;refine EH rfl (by decide) (by decide) b.1 λx K U f=>?_
  have R:∃ i:Kd,x=i.enc/\KdOk (kb m) (kp m) i:=by
   simp only[Yo,Qc,or_false]at K;rcases K with rfl | rfl | rfl
   ·exact⟨k,rfl,F⟩
   ·exact⟨k,rfl,F⟩
   ·exact⟨O,rfl,J D⟩
  obtain⟨i,rfl,w⟩:=R;have f:=(E.trans b).trans f;simp only[Ai,Ah,Ag,Ab,gC,Aa,Ac,Yb,Yc,Yk,Yl];refine BB H (by lia) w (I.hs hs f).down f.1 rfl λt G4 y j=>?_;refine⟨by decide,(Qzz 3),q _ _ ⟨.nd "as" (.trm t (.knd .any .nil)),rfl,(CM y Hq).mono (by lia) (by lia)⟩ (f.trans j)⟩
 walk_at "pb"
 ·simp only[Ai,Ah,Ag,Ab,gC,Aa,Ac,Yb,Yc,Yk,Yl];refine BB H (by lia) F X.down E.1 rfl λt G2 y b=>?_;refine WL P hp3 b.1 λi U w f=>?_;refine⟨(Qzz 3),(Qzz 3),q _ _ ⟨.nd "as" (.trm (.nd "as" (.trm t (.knd i .nil))) (.knd k .nil)),rfl,(CM (CM y w.ok) P.ok).mono (by lia) (by lia)⟩ ((E.trans b).trans f)⟩
 walk_at "pb"
 ·simp only[Ai,Ah,Ag,Ab,gC,Aa,Ac,Yb,Yc,Yk,Yl];refine EJ (m:=1) (by decide) E.1 λO G2 D b=>?_;have b:=E.trans b;refine BB H (by lia) (J D) (I.hs hs b).down b.1 rfl λt U y f=>?_;refine⟨by decide,(Qzz 3),(Qzz 3),q _ _ ⟨.nd "as" (.trm (.nd "as" (.trm t (.knd .any .nil))) (.knd k .nil)),rfl,(CM (CM y Hq) P.ok).mono (by lia) (by lia)⟩ (b.trans f)⟩
 simp only[Ak];show Af (Ao 5 _) _ _ _ _;refine AF ?_;simp only[Ad,Aq,Ah,Ag,Ab,gC,Aw,Aa,Ac,Yb,Yc];refine EJ (m:=1) (by decide) E.1 λO G2 D b=>?_;refine EJ (m:=0) (by decide) b.1 λk0 U hk0 f=>?_;have f:=(E.trans b).trans f;refine⟨(Qzz 3),(Qzz 2),(Qzz 3),λz hz=>⟨by decide,?_⟩⟩;obtain⟨x,K,e⟩:=EG (r:=r % 3) (G:=put U z (.lst [O.enc,.tup [.str "to",k0.enc,k.enc],.tup [.str "box",k.enc]])) Aj (by lia) (by show r % 3 < 3;lia);show opt (ixW (.ref z) (.int (r % 3)) _) _;rw[e,An]
 have R:∃ i:Kd,x=i.enc/\KdOk (kb m) (kp m) i:=by
  simp only[Yo,Qc,or_false]at K;rcases K with rfl | rfl | rfl
  ·exact⟨O,rfl,J D⟩
  ·exact⟨.to k0 k,rfl,ktb hk0⟩
  ·exact⟨.box k,rfl,L⟩
 obtain⟨i,rfl,w⟩:=R;have j:=f.put (o:=.lst [O.enc,.tup [.str "to",k0.enc,k.enc],.tup [.str "box",k.enc]]) hz;generalize put U z (.lst [O.enc,.tup [.str "to",k0.enc,k.enc],.tup [.str "box",k.enc]])=G4 at j ⊢;simp only[Yk,Yl,Af,gIf,gTB,Ad,A1,Ab,gC,Yb,Yc];walk_at "pb"
 ·show Af (Ao 8 _) _ _ _ _;refine AF ?_;walk_at "pn";refine EH rfl (by decide) (by decide) j.1 λx K G5 d=>?_;obtain⟨v,rfl,hv⟩:=mT K;have d:=j.trans d;refine AF ?_;simp only[gB,Ab,Aa,Ac,Yb,Yc,Yk,Yl];have hn5:=I.hs hs d;obtain⟨A,e1,e2,e3⟩:=hn5.new hv w;refine⟨p,A,rfl,e1,λl hl=>?_⟩;simp only[Af,F0,Ab,Yb,Yc,Yk,Yl];refine⟨l,A,v,rfl,rfl,Aj,e2,?_⟩;rw[L5];have c:=d.put (o:=.dct (BE A (Sum.inr v) i.enc)) hl;have hn6:=e3 l (put G5 l (.dct (BE A (Sum.inr v) i.enc))) Aj;generalize put G5 l (.dct (BE A (Sum.inr v) i.enc))=G6 at c hn6 ⊢;simp only[Ao,Ah,Ag,Ab,gC,Aa,Ac,Yb,Yc,Yk,Yl];refine BB H (by lia) F hn6 c.1 rfl λt G7 y a=>?_;have a:=c.trans a;refine⟨(Qzz 4),?_⟩;simp only[Ai,Ah,Ag,Ab,gC,Aa,Ac,Yb,Yc,Yk,Yl];refine EK (t:=.nd "fun" (.nam v (.knd i (.trm t .nil)))) (NX hv w.ok y) a.1 λu G8 N g=>?_;have g:=a.trans g;refine BB H (by lia) w (I.hs hs g).down g.1 rfl λt' G9 B hg9=>?_;exact⟨(Qzz 3),q _ _ ⟨.nd "call" (.trm u (.trm t' .nil)),rfl,(DX JR N (B.mono (Yr _) (by lia))).mono (by lia) (by lia)⟩ (g.trans hg9)⟩
 simp only[Ak,Ae,Br,An];walk_at "pb"
 ·show Af (Ao 6 _) _ _ _ _;refine AF ?_;walk_at "po";refine⟨(Qzz 2),?_⟩;refine BB (k:=.box k) H (by lia) L (I.hs hs j).down j.1 rfl λt G5 y d=>?_;have d:=j.trans d;refine⟨(Qzz 2),(Qzz 3),?_⟩;simp only[Af,gIf,gTB,Ad,Ag,Ab,gC,Aa,Ac,Yb,Yc,Yk,Yl];refine BQ (by decide) (by decide) d.1 λr' G6 r0' r1' c=>?_;have c:=d.trans c;have Y:TmB (tb m+1) (td m+1) (.nd "as" (.trm t (.knd (.box k) .nil))):=CM y L.ok;simp only[Ae,Br,An];walk_at "pb"
  ·simp only[Ai,Ah,Ag,Ab,gC,Aa,Ac,Yb,Yc];refine EK (t:=.nd "as" (.trm t (.knd (.box k) .nil))) Y c.1 λu G7 N a=>?_;exact⟨(Qzz 2),q _ _ ⟨.nd "read" (.trm u .nil),rfl,(JE Ob N).mono (by lia) (by lia)⟩ (c.trans a)⟩
  ·simp only[Ak,Ai,Ah,Ag,Ab,gC,Aa,Ac,Yb,Yc];refine EK (t:=.nd "as" (.trm t (.knd (.box k) .nil))) Y c.1 λu G7 N a=>?_;have a:=c.trans a;refine BB H (by lia) F (I.hs hs a).down a.1 rfl λt' G8 B g=>?_;exact⟨(Qzz 3),q _ _ ⟨.nd "write" (.trm u (.trm t' .nil)),rfl,(DX Oa N (B.mono (Yr _) (by lia))).mono (by lia) (by lia)⟩ (a.trans g)⟩
 simp only[Ak];show Af (Ao 5 _) _ _ _ _;refine AF ?_;walk_at "po";refine EJ (m:=1) (by decide) j.1 λk5 G5 hk5 d=>?_;have d:=j.trans d;walk_at "pp";have S:=ktb hk5;refine AF ?_;simp only[Ag,Ab,Aa,Ac,Yb,Yc,Yk,Yl];refine BB (k:=.to k5 k) H (by lia) S (I.hs hs d).down d.1 rfl λt G6 y c=>?_;have c:=d.trans c;refine DZ (λω' T=>∃ u:Te,ω'=[some (.ref s),some k.enc,some (.ref p),some (.int (m:Nat)),some (.int r),some (Kd.to k5 k).enc,some u.enc,none,none,none]/\TmB (tb m+1) (td m+1) u/\Hs s G T) ?_ (λAr=>?_)
 ·rintro ω' T ⟨u,rfl,N,Z⟩;refine AF ?_;simp only[Ah,Ab,gC,Aa,Ac,Yb,Yc,Yk,Yl];walk_at "pp";simp only[Ai,Ah,Ag,Ad,Ab,gC,Aa,Ac,Yb,Yc];refine EK (t:=.nd "as" (.trm u (.knd (.to k5 k) .nil))) (CM N S.ok) Z.1 λv G7 hv a=>?_;have a:=Z.trans a;simp only[Ae,Kd.enc,ixW,Bb,An];refine BB H (by lia) (J hk5) (I.hs hs a).down a.1 rfl λt' G8 B g=>?_;exact⟨(Qzz 3),q _ _ ⟨.nd "call" (.trm v (.trm t' .nil)),rfl,(DX JR hv (B.mono (Yr _) (by lia))).mono (by lia) (by lia)⟩ (a.trans g)⟩
 simp only[Af,gIf,gTB,Ad,Ag,Ab,gC,Aa,Ac,Yb,Yc,Yk,Yl];refine BQ (by decide) (by decide) c.1 λr' G7 r0' r1' a=>?_;have a:=c.trans a;simp only[Ae,Br,An];walk_at "pb"
 ·simp only[Ao,Ah,Ag,Ab,gC,Aa,Ac,Yb,Yc,Yk,Yl];refine WL (k:=.to k5 k) (S.mono (Yr _) (Yr _)) (by unfold kp;lia) a.1 λi G8 w g=>?_;exact⟨(Qzz 3),Ar _ _ ⟨.nd "as" (.trm t (.knd i .nil)),rfl,CM y w.ok,a.trans g⟩⟩
 ·simp only[Ak];exact Ar _ _ ⟨t,rfl,y.mono (by lia) (by lia),a⟩
theorem JN(T:Tx K mg base a)(b:10<=k)(D:Df P w K mg base "_law_term" k 4 (CW n)):Df P w K mg base "_law_around" (k+2) 4 (JQ n):=by
 refine mk0 (k:=k+1) T.jl rfl WG CL (λg G Q E⟨x,s,⟨e,_⟩,_⟩=>by rw[e];rfl) (mR T (AS T) (by lia) (JP T b D) (by lia) (B7 T 2) (by lia) D (by lia) (EF T 8) (by lia) (CV T) (by lia)) λg G Q E h q=>?_;obtain⟨⟨k,m,p⟩,s,⟨rfl,f,c,b,d⟩,hs,q⟩:=q;exact mY f c b d hs q
theorem KdOk.kid(h:KdOk c d k)(a:x∈k.kids):KdOk c d x:=⟨Me h.1 x a,by have:=GN a;have:=h.2.1;lia,by have:=Fc a;have:=h.2.2;lia⟩
theorem WM{k:Kd}(h:k.dp<=20):PT (.tup [.str x,k.enc]):=by
 refine⟨_,rfl,?_,?_⟩
 ·show(true&&(plW k.enc&&true))=true;rw[Fu];rfl
 ·have:=Ft k;show max 0 (max (dpW k.enc) 0) < 90;lia
theorem WN:∀{l:List (Str×Kd)},(∀ x∈l,AA x.1=true/\KdOk c d x.2)->y∈l.map (·.1)->∃ k:Kd,atT (kvK l) y=some k.enc/\KdOk c d k/\AA y=true
 | x::l,h,f=>by
  by_cases e:x.1=y
  ·refine⟨x.2,?_,(h x Ye).2,by rw[<- e];exact(h x Ye).1⟩;show(((Sum.inr x.1,x.2.enc)::kvK l).find? λz=>decide (z.1=Sum.inr y)).map (·.2)=_;rw[List.find?_cons_of_pos (by simp[e])];rfl
  ·have a:y∈l.map (·.1):=by
    rcases Yo.mp f with z | z
    ·exact absurd z.symm e
    ·exact z
   obtain⟨k,h1,h2⟩:=WN (l:=l) (λz b=>h z (Yd _ b)) a;refine⟨k,?_,h2⟩;show(((Sum.inr x.1,x.2.enc)::kvK l).find? λz=>decide (z.1=Sum.inr y)).map (·.2)=_;rw[List.find?_cons_of_neg (by simpa using λz=>e z)];exact h1
theorem mZ(l:List (Str×Kd)):(kvK l).map (·.1)=(l.map (·.1)).map Sum.inr:=by
 unfold kvK;rw[YB,YB];rfl
theorem Oc{w:Kd}(hw:w.dp<=20):∀(l:List Fd)(o:Option W)(a:List Str),(∀ x∈l,AA x.1=true/\x.2.2.dp<=20)->a.length+l.length<=1000->(∀ ns:List Str,ns.length<=a.length+l.length->(∀ n∈ns,n∈a\/AA n=true)->R (ns.map W.str) G)->
  AN yes (gNm 0) (gTB (Ad (Ae (eqF false)) (Bn (Ab 0) (AV (gC (.int 1))) AU) (Ah (Aa (gC (.str "must")) (Aa (Ab 1) Ac))))) (Ad (Ae ixW) (Ab 0) (gC (.int 0))) R (l.map BA) [o,some w.enc] G (a.map W.str)
 | [],o,a,_,_,c=>⟨trivial,c a (Qb _ _) λn d=>.inl d⟩
 | x::l,o,a,e,hl,c=>by
  rw[Yg]at hl c;obtain⟨i,j⟩:=e x Ye;refine⟨trivial,by rw[Yh];exact Bq (by lia),?_⟩;simp only[gNm,Yk,gTB,Ad,Bn,AV,AU,Ah,Aa,Ac,Ab,gC,Yb,Yc,BA];refine NQ ?_;rw[CP];refine⟨(Qzz 2),Fv (WM j) (WM hw) λb=>?_⟩;walk_at "pb"
  ·simp only[Ae,ixW,Bg,An]
   have z:=Oc (R:=R) (G:=G) hw l (some (BA x)) (a++[x.1]) (λy g=>e y (Yd _ g)) (by rw[Yj];simp only[Yg,Yi];lia) λns n1 f=>c ns (by rw[Yj]at n1;simp only[Yg,Yi]at n1;lia) λn d=>by
    rcases f n d with z | z
    ·rcases Yz.mp z with z | z
     ·exact .inl z
     ·rw[YA.mp z];exact .inr i
    ·exact .inr z
   rw[Yy]at z;exact z
  ·exact Oc hw l _ a (λy g=>e y (Yd _ g)) (by lia) λns n1 f=>c ns (by lia) f
theorem WO(l:AA y=true)(d:z≠s):∀(ns:List Str)(o:Option W)(G:Hw)(a:List Te),(∀ n∈ns,AA n=true)->(∀ t∈a,TmB 3 3 t)->a.length+ns.length<=1000->St s G->G z=some (.lst items)->(∀(ts:List Te)f,ts.length<=a.length+ns.length->(∀ t∈ts,TmB 3 3 t)->Hs s G f->R (ts.map Te.enc) f)->
  AN (holds z items) (gNm 0) Ay (Ah (Aa (gC (.str "get")) (Aa (Ag DY XF (Aa (Ab 1) (Aa (Ah (Aa (gC (.str "name")) (Aa (Ab 2) Ac))) Ac))) (Aa (Ab 0) Ac)))) R (ns.map W.str) [o,some (.ref s),some (.str y)] G (a.map Te.enc)
 | [],o,G,a,_,g,_,hs,e,b=>⟨e,b a G (Qb _ _) g (Hs.refl hs)⟩
 | n::ns,o,G,a,k,g,hl,hs,e,b=>by
  rw[Yg]at hl b;refine⟨e,by rw[Yh];exact Bq (by lia),?_⟩;simp only[gNm,Ay,if_true,Yk,Ah,Ag,Aa,Ac,Ab,gC,Yb,Yc];refine⟨(Qzz 2),EK (t:=.nd "name" (.nam y .nil)) (NY l) hs λu v w h=>⟨(Qzz 3),?_⟩⟩;have i:=NW w (k n Ye)
  have z:=WO (R:=R) l d ns (some (.str n)) v (a++[.nd "get" (.trm u (.nam n .nil))]) (λm p=>k m (Yd _ p)) (λt c=>by
   rcases Yz.mp c with c | c
   ·exact g t c
   ·rw[YA.mp c];exact i) (by rw[Yj];simp only[Yg,Yi];lia) h.1 (h.2 z d _ e) λts f j q r=>b ts f (by rw[Yj]at j;simp only[Yg,Yi]at j;lia) q (h.trans r)
  rw[Yy]at z;exact z
def Gw(s q:Addr)(m c:Nat)(G:Hw)(ts:List Te)(G':Hw):Prop:=Hs2 s q G G'/\G' q=some (.lst (ts.map Te.enc))/\(∀ t∈ts,TmB (tb m+3) (td m+2) t)/\ts.length<=c
theorem Gw.app(h:Gw s q m c G ts e)(b:q≠s)(f:Hs s e d)(i:∀ t∈us,TmB (tb m+3) (td m+2) t):Gw s q m (c+us.length) G (ts++us) (put d q (.lst (ts.map Te.enc++us.map Te.enc))):=by
 obtain⟨h1,h2,g,j⟩:=h;refine⟨(h1.trans f.two).trans (Hs2.set f.1 b),by rw[Yy];exact Aj,λt a=>?_,by rw[Yj];lia⟩;rcases Yz.mp a with a | a
 ·exact g t a
 ·exact i t a
theorem WP{k:Kd}(h:(k.hd=="to")=true):∃ x y,k=.to x y:=by
 cases k with
 | to x y=>exact⟨x,y,rfl⟩
 | any=>exact absurd h (by show ¬ (("any":Str)=="to")=true;decide +kernel)
 | num=>exact absurd h (by show ¬ (("num":Str)=="to")=true;decide +kernel)
 | truth=>exact absurd h (by show ¬ (("truth":Str)=="to")=true;decide +kernel)
 | box x=>exact absurd h (by show ¬ (("box":Str)=="to")=true;decide +kernel)
 | row x y=>exact absurd h (by show ¬ (("row":Str)=="to")=true;decide +kernel)
theorem m2{k:Kd}(h:(k.hd=="row")=true):∃ x y,k=.row x y:=by
 cases k with
 | row x y=>exact⟨x,y,rfl⟩
 | any=>exact absurd h (by show ¬ (("any":Str)=="row")=true;decide +kernel)
 | num=>exact absurd h (by show ¬ (("num":Str)=="row")=true;decide +kernel)
 | truth=>exact absurd h (by show ¬ (("truth":Str)=="row")=true;decide +kernel)
 | box x=>exact absurd h (by show ¬ (("box":Str)=="row")=true;decide +kernel)
 | to x y=>exact absurd h (by show ¬ (("to":Str)=="row")=true;decide +kernel)
theorem m5(hm:m < n)(hm3:m+1<=3)(hk:KdOk (kb (m+1)) (kp (m+1)) k)(hn:Nm (m+1) p G)(hs:St s G)(q:∀ r H,(∃ q,∃ ts:List Te,r=.ref q/\q≠s/\H q=some (.lst (ts.map Te.enc))/\(∀ t∈ts,TmB (tb m+3) (td m+2) t)/\ts.length<=1000)->Hs s G H->Q r H):N3 DY (CW n) (Au Q) [some (.ref s),some k.enc,some (.ref p),some (.int (m:Nat)),none,none,none,none] G:=by
 have h38:=Ga m;have hkm:=hk.down;have hkd:k.dp<=8:=by have:=hk.2.2;unfold kp at this;lia
 obtain⟨l,l1,l2,l3⟩:=hn;unfold N3;refine AF ?_;simp only[Aq,Ac];refine⟨by decide,λq0 D=>?_⟩;have g:=Hs.ne hs D;have Z:p≠q0:=AJ l1 D
 have hps:p≠s:=by
  obtain⟨x,f,e⟩:=hs;rintro rfl;rw[l1]at e;cases e
 simp only[Yk,Yl,Af,AT,Ax,gB,Ab,Aa,Ac,Yb,Yc];refine⟨p,kvK l,l.map (·.1),rfl,AD D _ _ l1,mZ l,by rw[Yh];lia,λys z _ hys hz=>?_⟩;have O:q0≠z:=AJ Aj hz;have hzs:=Hs.ne (hs.put D) hz;simp only[Aj];have hyl:=hys.length_eq;rw[Yh]at hyl;have Y:∀ y∈ys,y∈l.map (·.1):=λy hy=>hys.mem_iff.mp hy;have hstart:Gw s q0 m 0 (put (put G q0 (.lst [])) z (.lst (ys.map W.str))) [] (put (put G q0 (.lst [])) z (.lst (ys.map W.str))):=⟨(Hs.refl ((hs.put D).put hz)).two,by rw[Av O];exact Aj,(λt J=>by cases J),Yr _⟩;have R:put (put G q0 (.lst [])) z (.lst (ys.map W.str)) z=some (.lst (ys.map W.str)):=Aj;have P:put (put G q0 (.lst [])) z (.lst (ys.map W.str)) p=some (.dct (kvK l)):=AD hz _ _ (AD D _ _ l1);have hG1:Hs s G (put (put G q0 (.lst [])) z (.lst (ys.map W.str))):=(Hs.new hs D).put hz;generalize hH:put (put G q0 (.lst [])) z (.lst (ys.map W.str))=G1 at hstart R P hG1 ⊢
 have loop:∀(zs:List Str)(c:Nat)(ts:List Te)(o5 o6 o7:Option W)(G2:Hw),(∀ y∈zs,y∈l.map (·.1))->Gw s q0 m c G1 ts G2->c+60*zs.length<=900->Bs (holds z (ys.map W.str)) (gNm 5) (Af (Ao 6 (Ad (Ae ixK) (Ab 2) (Ab 5))) (Af (gIf (gTB (Ad (Ae (eqF false)) (Ab 6) (Ab 1))) (AC (gMt AX BJ (Ab 4) (Aa (Ah (Aa (gC (.str "name")) (Aa (Ab 5) Ac))) Ac))) Ak) (Af (gIf (A8 (gTB (Ad (Ae (eqF false)) (Ad (Ae ixW) (Ab 6) (gC (.int 0))) (gC (.str "to")))) (gTB (Ad (Ae (eqF false)) (Ad (Ae ixW) (Ab 6) (gC (.int 2))) (Ab 1)))) (AC (gMt AX BJ (Ab 4) (Aa (Ah (Aa (gC (.str "call")) (Aa (Ag DY XF (Aa (Ab 0) (Aa (Ah (Aa (gC (.str "name")) (Aa (Ab 5) Ac))) Ac))) (Aa (Ag (CW n) XF (Aa (Ab 0) (Aa (Ad (Ae ixW) (Ab 6) (gC (.int 1))) (Aa (Ab 2) (Aa (Ab 3) Ac))))) Ac)))) Ac))) Ak) (Af (gIf (gTB (Ad (Ae (eqF false)) (Ab 6) (Ah (Aa (gC (.str "box")) (Aa (Ab 1) Ac))))) (Af (AC (gMt AX BJ (Ab 4) (Aa (Ah (Aa (gC (.str "read")) (Aa (Ag DY XF (Aa (Ab 0) (Aa (Ah (Aa (gC (.str "name")) (Aa (Ab 5) Ac))) Ac))) Ac))) Ac))) (AC (gMt AX BJ (Ab 4) (Aa (Ah (Aa (gC (.str "write")) (Aa (Ah (Aa (gC (.str "name")) (Aa (Ab 5) Ac))) (Aa (Ag (CW n) XF (Aa (Ab 0) (Aa (Ab 1) (Aa (Ab 2) (Aa (Ab 3) Ac))))) Ac)))) Ac)))) Ak) (gIf (gTB (Ad (Ae (eqF false)) (Ad (Ae ixW) (Ab 6) (gC (.int 0))) (gC (.str "row")))) (Af (Ao 7 (AO (Ax (Ad (Ae ixW) (Ab 6) (gC (.int 1)))) 1 [1] (gNm 0) (gTB (Ad (Ae (eqF false)) (Bn (Ab 0) (AV (gC (.int 1))) AU) (Ah (Aa (gC (.str "must")) (Aa (Ab 1) Ac))))) (Ad (Ae ixW) (Ab 0) (gC (.int 0))))) (AC (gMt AX BN (Ab 4) (Aa (AO (Ax (Ab 7)) 1 [0,5] (gNm 0) Ay (Ah (Aa (gC (.str "get")) (Aa (Ag DY XF (Aa (Ab 1) (Aa (Ah (Aa (gC (.str "name")) (Aa (Ab 2) Ac))) Ac))) (Aa (Ab 0) Ac))))) Ac)))) Ak))))) {nx:=Ai (Ab 4) (Au Q),rt:=(Au Q).rt,bk:=(Au Q).bk,ct:=(Au Q).ct} (zs.map W.str) [some (.ref s),some k.enc,some (.ref p),some (.int (m:Nat)),some (.ref q0),o5,o6,o7] G2:=by
  intro zs;induction zs with
  | nil =>
   intro c ts o5 o6 o7 G2 _ hw hc;refine⟨hw.1.2 z hzs (YY O) _ R,?_⟩;simp only[Ai,Ab,Yb,Yc];obtain⟨w1,w2,w3,w4⟩:=hw;refine q _ _ ⟨q0,ts,rfl,g,w2,w3,by lia⟩ ⟨w1.1,λb hb u U=>w1.2 b hb (AJ U D) u (hG1.2 b hb u U)⟩
  | cons y zs ih =>
   intro c ts o5 o6 o7 G2 S hw hc;rw[Yg]at hc;have hG2z:=hw.1.2 z hzs (YY O) _ R;have hp2:=hw.1.2 p hps Z _ P;obtain⟨X,k1,k2,k3⟩:=WN (c:=kb (m+1)) (d:=kp (m+1)) (y:=y) l2 (S y Ye);have k2d:X.dp<=8:=by have:=k2.2.2;unfold kp at this;lia
   have N:TmB 1 1 (.nd "name" (.nam y .nil)):=NY k3;have nmG:∀{H:Hw},Hs2 s q0 G1 H->Nm m p H:=λh=>Nm.down ⟨l,h.2 p hps Z _ P,l2,l3⟩;refine⟨hG2z,?_⟩;simp only[gNm,Yk,Yl];refine AF ?_;simp only[Ad,Ae,Ab,Yb,Yc];rw[show ixK (.ref p) (.str y) G2=some X.enc by unfold ixK;simp only[hp2];exact k1];simp only[An,Yk,Yl];refine DZ (λω' H=>∃ K j,ω'=[some (.ref s),some k.enc,some (.ref p),some (.int (m:Nat)),some (.ref q0),some (.str y),some X.enc,j]/\Gw s q0 m (c+1) G1 K H) ?_ (λAr=>?_)
   ·rintro ω' G3 ⟨ts3,j,rfl,i⟩;refine DZ (λω' H=>∃ K j,ω'=[some (.ref s),some k.enc,some (.ref p),some (.int (m:Nat)),some (.ref q0),some (.str y),some X.enc,j]/\Gw s q0 m (c+2) G1 K H) ?_ (λAr=>?_)
    ·rintro ω' G4 ⟨ts4,j,rfl,B⟩;refine DZ (λω' H=>∃ K j,ω'=[some (.ref s),some k.enc,some (.ref p),some (.int (m:Nat)),some (.ref q0),some (.str y),some X.enc,j]/\Gw s q0 m (c+4) G1 K H) ?_ (λAr=>?_)
     ·rintro ω' G5 ⟨ts5,j,rfl,a⟩;simp only[gIf,gTB,Ad,Ae,Ab,gC,Yb,Yc,Cu,An,Bd];walk_at "pb"
      ·rw[show ∀ b:Bool,(b != false)=b by intro b;cases b <;> rfl]at h;obtain⟨fs,o,rfl⟩:=m2 h;have hko:=k2.ok;have hr:(AY fs.names&&fs.ok)=true:=hko.1;simp only[YG]at hr;have L:=hko.2;unfold BF at L;simp only[YS]at L;have hgc:1+fs.cnt<=31:=L.1;have hgp:1+fs.dp<=8:=L.2;have hfl:=Hd fs;rw[Hy,Yh]at hfl;refine AF ?_;walk_at "pg";refine Oc (w:=k) (by lia) (toL fs) none [] (λx hx=>?_) (by simp only[Yi];lia) λns n1 n2 v hv=>?_
       ·obtain⟨a1,a2,a3,a4⟩:=JG hr.2 x hx;exact⟨a1,by lia⟩
       ·have hvs:=Hs.ne a.1.1 hv;have hvq:q0≠v:=AJ a.2.1 hv;rw[Yi]at n1;have T:=Hs.new (o:=.lst (ns.map W.str)) a.1.1 hv;simp only[AC,gMt,AO,Ax,Ab,Aa,Ac,Yb,Yc,Yk,Yl,Aj,Bc,List.replicate,Ym,YI,Option.getD_some,List.cons_append,Yw];refine⟨B5 (T.2 q0 g _ a.2.1),?_⟩;refine WO k3 hvs ns none _ [] (λn hn=>(n2 n hn).resolve_left (by simp)) (λt J=>by cases J) (by simp only[Yi];lia) T.1 Aj λus G6 u1 u2 A v2 hv2=>?_;rw[Yi]at u1;have hg7:=(T.trans A).put (o:=.lst (us.map Te.enc)) hv2;have hq7:=hg7.2 q0 g _ a.2.1;refine Fe hq7 Aj (by rw[Yh,Yh];have:=a.2.2.2;exact A9 (by lia)) ?_;have E:=a.app g hg7 (us:=us) λt J=>(u2 t J).mono (by lia) (by unfold td;lia);exact ih (c+4+us.length) _ _ _ _ _ (λy hy=>S y (Yd _ hy)) E (by lia)
      ·simp only[Ak];exact ih (c+4) _ _ _ _ _ (λy hy=>S y (Yd _ hy)) a (by lia)
     ·simp only[Af,gIf,gTB,Ad,Ah,Aa,Ac,Ab,gC,Yb,Yc];refine⟨(Qzz 2),Fv (EI (by lia)) (EI (k:=.box k) (by show 1+k.dp<=20;lia)) λb=>?_⟩;walk_at "pb"
      ·simp only[Af,AC,gMt,Ah,Ag,Aa,Ac,Ab,gC,Yb,Yc];refine⟨B5 B.2.1,(Qzz 2),EK (t:=.nd "name" (.nam y .nil)) N B.1.1 λu G5 U F=>⟨(Qzz 2),?_⟩⟩;have hq5:=F.2 q0 g _ B.2.1;have hl5:=B.2.2.2;refine DT hq5 (by rw[Yh];exact Bq (by lia)) ?_;have a:=B.app g F (us:=[.nd "read" (.trm u .nil)]) λt J=>by rw[YA.mp J];exact(JE Ob U).mono (by lia) (by unfold td;lia)
       rw[Ym,YI]at a;refine⟨B5 Aj,(Qzz 2),BB hm (by lia) hkm (nmG a.1) a.1.1 rfl λt G6 J A=>⟨(Qzz 3),?_⟩⟩;have hq6:=A.2 q0 g _ a.2.1;have hl6:=a.2.2.2;refine DT hq6 (by rw[Yh];exact Bq (by simp only[Yg,Yi]at hl6;lia)) ?_;have E:=a.app g A (us:=[.nd "write" (.trm (.nd "name" (.nam y .nil)) (.trm t .nil))]) λt' I=>by rw[YA.mp I];exact(DX Oa (N.mono (Yr _) (by unfold td;lia)) J).mono (by lia) (by lia)
       exact Ar _ _ ⟨_,_,rfl,E⟩
      ·simp only[Ak];exact Ar _ _ ⟨_,_,rfl,B.1,B.2.1,B.2.2.1,by have:=B.2.2.2;lia⟩
    ·simp only[Af,gIf,A8,gTB,Ad,Ae,Ab,gC,Yb,Yc,Cu,An,Bd];have no:=Ar [some (.ref s),some k.enc,some (.ref p),some (.int (m:Nat)),some (.ref q0),some (.str y),some X.enc,j] G3 ⟨_,_,rfl,i.1,i.2.1,i.2.2.1,by have:=i.2.2.2;lia⟩;walk_at "pb"
     ·rw[show ∀ b:Bool,(b != false)=b by intro b;cases b <;> rfl]at h;obtain⟨x,y',rfl⟩:=WP h;have hdx:1+max x.dp y'.dp<=8:=k2d;simp only[Kd.enc,ixW,B4,An];refine Fv (EI (k:=y') (by lia)) (EI (k:=k) (by lia)) λb=>?_;walk_at "pb"
      ·simp only[AC,gMt,Ah,Ag,Ad,Ae,Aa,Ac,Ab,gC,Yb,Yc,ixW,Bb,An];refine⟨B5 i.2.1,(Qzz 2),EK (t:=.nd "name" (.nam y .nil)) N i.1.1 λu G5 U F=>?_⟩;refine BB hm (by lia) (k2.kid (x:=x) (.head _)).down (nmG (i.1.trans F.two)) F.1 rfl λt G6 J A=>⟨(Qzz 3),?_⟩;have A:=F.trans A;have hl3:=i.2.2.2;refine DT (A.2 q0 g _ i.2.1) (by rw[Yh];exact Bq (by lia)) ?_;have E:=i.app g A (us:=[.nd "call" (.trm u (.trm t .nil))]) λt' I=>by rw[YA.mp I];exact(DX JR (U.mono (Yr _) (by unfold td;lia)) J).mono (by lia) (by lia)
       exact Ar _ _ ⟨_,_,rfl,E⟩
      ·exact no
     ·exact no
   ·simp only[Af,gIf,gTB,Ad,Ab,Yb,Yc];refine Fv (EI (by lia)) (EI (by lia)) λb=>?_;walk_at "pb"
    ·simp only[AC,gMt,Ah,Aa,Ac,Ab,gC,Yb,Yc];have hl3:=hw.2.2.2;refine⟨B5 hw.2.1,(Qzz 2),DT hw.2.1 (by rw[Yh];exact Bq (by lia)) ?_⟩;have E:=hw.app g (Hs.refl hw.1.1) (us:=[.nd "name" (.nam y .nil)]) λt' I=>by rw[YA.mp I];exact N.mono (by lia) (by unfold td;lia)
     exact Ar _ _ ⟨_,_,rfl,E⟩
    ·simp only[Ak];exact Ar _ _ ⟨_,_,rfl,hw.1,hw.2.1,hw.2.2.1,by have:=hw.2.2.2;lia⟩
 exact loop ys 0 [] none none none G1 Y hstart (by lia)
theorem JM(T:Tx K mg base a)(c:10<=k)(D:Df P w K mg base "_law_term" k 4 (CW n)):Df P w K mg base "_law_by_name" (k+1) 4 (WK n):=by
 refine mk0 T.jj rfl N2 CL (λg G Q E⟨x,s,⟨e,_⟩,_⟩=>by rw[e];rfl) (mO T (CV T) (by lia) D (Yr _)) λg G Q E h q=>?_;obtain⟨⟨k,m,p⟩,s,⟨rfl,f,b,c,d⟩,hs,q⟩:=q;exact m5 f b c d hs q
mutual
theorem JS:∀ t:Te,t.ok=true->dpW t.enc<=3*t.dp+25
 | .nd w r,h=>by
  have:=Fw r (CS h).2;show max 0 (L3.dpL r.enc)+1<=3*(1+r.dp)+25;lia
theorem Fw:∀ r:As,r.ok=true->L3.dpL r.enc<=3*r.dp+27
 | .nil,_=>YX _
 | .num i r,h=>by
  walk_at "ps";walk_at "pa";have:=Fw r h'.2;show max 0 (L3.dpL r.enc)<=3*r.dp+27;lia
 | .tru _ r,h=>by
  have:=Fw r h;show max 0 (L3.dpL r.enc)<=3*r.dp+27;lia
 | .nam x r,h=>by
  have h':(AA x&&r.ok)=true:=h;walk_at "pa";have:=Fw r h'.2;show max 0 (L3.dpL r.enc)<=3*r.dp+27;lia
 | .knd k r,h=>by
  have h':((k.ok&&BF k)&&r.ok)=true:=h;walk_at "pa";have h2:=h'.1.2;unfold BF at h2;simp only[YS]at h2;have:=Fw r h'.2;have:=Ft k;show max (dpW k.enc) (L3.dpL r.enc)<=3*r.dp+27;lia
 | .trm t r,h=>by
  have h':(t.ok&&r.ok)=true:=h;walk_at "pa";have:=Fw r h'.2;have:=JS t h'.1;show max (dpW t.enc) (L3.dpL r.enc)<=3*max t.dp r.dp+27;lia
 | .fld f r,h=>by
  have h':((AY f.names&&f.ok)&&r.ok)=true:=h;walk_at "pa";have:=Fw r h'.2;have:=WQ f h'.1.2;show max (L3.dpL f.enc+1) (L3.dpL r.enc)<=3*max f.dp r.dp+27;lia
theorem WQ:∀ f:Fl,f.ok=true->L3.dpL f.enc<=3*f.dp+26
 | .nil,_=>YX _
 | .cons x t r,h=>by
  have h':((AA x&&t.ok)&&r.ok)=true:=h;walk_at "pa";have:=JS t h'.1.2;have:=WQ r h'.2;show max (max 0 (max (dpW t.enc) 0)+1) (L3.dpL r.enc)<=3*max t.dp r.dp+26;lia
end
theorem WT:∀{ts:List Te},(∀ t∈ts,TmB c d t)->L3.dpL (ts.map Te.enc)<=3*d+25
 | [],_=>YX _
 | t::ts,h=>by
  obtain⟨h1,_,h2⟩:=h t Ye;have:=JS t h1;have:=WT (λu a=>h u (Yd _ a));show max (dpW t.enc) (L3.dpL (ts.map Te.enc))<=_;lia
theorem m6(h:G q=some (.lst xs))(h':G p=some (.lst []))(hd:L3.dpL xs < 90):eqF true (.ref q) (.ref p) G=some (.bl (!xs.isEmpty)):=by
 have e:eqW (.ref q) (.ref p) G=some xs.isEmpty:=by
  unfold eqW;simp only[h,h'];rw[if_pos hd,mh]
 unfold eqF;rw[e];show some (W.bl (xs.isEmpty != true))=_;rw[P5]
abbrev WU:GS:=Af (gIf (gTB (Ad (Ae (eqF false)) (gMt GH GF (Ab 2) (Aa (gC (.str "x")) (Aa (Ah Ac) Ac))) (Ab 1))) (Ai (Ah (Aa (gC (.str "name")) (Aa (gC (.str "x")) Ac)))) Ak) (Ai (Ag (JJ 8) XF (Aa (Ab 0) (Aa (Ab 1) Ac))))
theorem WV{o3 o4:Option W}(g:KdOk (kb m) (kp m) k)(i:Nm m p G)(hs:St s G)(q:∀(t:Te)c,TmB (tb m) (td m) t->Hs s G c->D.rt t.enc c):WU D (some (.ref s)::some k.enc::some (.ref p)::l) G:=by
 have v:=Ga m;have d:=g.ok;obtain⟨a,f,o⟩:=i.get "x";obtain⟨x,u,n⟩:=g;simp only[WU,Af,gIf,gTB,Ad,gMt,Ah,Aa,Ac,Ab,gC,Yb,Yc];refine⟨⟨p,a,rfl,f⟩,by decide,p,a,"x",.tup [],rfl,rfl,f,?_⟩;unfold kb at u;unfold kp at n;refine Fv o (EI (by lia)) λb=>?_;walk_at "pb"
 ·simp only[Ai,Ah,Aa,Ac,gC];exact⟨(Qzz 2),q (.nd "name" (.nam "x" .nil)) _ ((NY (by decide +kernel)).mono (by lia) (by unfold td;lia)) (Hs.refl hs)⟩
 ·simp only[Ak,Ai,Ag,Aa,Ac,Ab,Yb,Yc];refine⟨k,s,⟨rfl,d,by lia⟩,hs,λr c⟨t,e,j⟩w=>?_⟩;rw[e];exact q t c (j.mono (by lia) (by unfold td;lia)) w
theorem m7(hm:m < n+1)(hm3:m<=3)(hk:KdOk (kb m) (kp m) k)(U:Nm m p G)(hs:St s G)(q:∀ r F,(∃ t:Te,r=t.enc/\TmB (tb m) (td m) t)->Hs s G F->Q r F):N4 CK (JJ 8) (WK n) (JQ n) (CW n) DY (Au Q) [some (.ref s),some k.enc,some (.ref p),some (.int (m:Nat)),none,none,none,none,none,none,none,none,none] G:=by
 unfold N4;refine AF ?_;simp only[Ag,Ab,gC,Aa,Ac,Yb];refine BQ (by decide) (by decide) hs λr G1 r0 r1 hg=>?_;have hn1:=U.hs hs hg;simp only[Yk,Yl,Af,gIf,gOr,gTB,Ad,Ae,Ab,gC,Yb,Yc,Br,An];walk_at "pb"
 ·rw[if_pos trivial];exact WV (o3:=none) (o4:=none) hk hn1 hg.1 λt F N K=>q _ _ ⟨t,rfl,N⟩ (hg.trans K)
 refine B1 (λh=>?_) (λh11=>?_)
 ·exact WV (o3:=none) (o4:=none) hk hn1 hg.1 λt F N K=>q _ _ ⟨t,rfl,N⟩ (hg.trans K)
 cases m with
 | zero=>exact absurd rfl h
 | succ m =>
 have e1:(((m+1:Nat):Int) - 1)=(m:Int):=by lia
 have H:m < n:=by lia
 have h38:=Ga m;have etb:tb (m+1)=3*tb m+6:=rfl;have etd:td (m+1)=td m+4:=by unfold td;lia
 have hkm:=hk.down;rw[etb,etd]at q;simp only[Ak];refine AF ?_;simp only[Aq,Ac];refine⟨by decide,λq0 hq0=>?_⟩;have hq0s:=Hs.ne hg.1 hq0;have T:=hg.put (o:=.lst []) hq0;have hq2:put G1 q0 (.lst []) q0=some (.lst []):=Aj;generalize put G1 q0 (.lst [])=G2 at T hq2 ⊢;walk_at "pe";refine DZ (λω' F=>∃ z,∃ X:List Te,ω'=[some (.ref s),some k.enc,some (.ref p),some (.int ((m+1:Nat):Int)),some (.int r),some (.ref z),none,none,none,none,none,none,none]/\z≠s/\F z=some (.lst (X.map Te.enc))/\(∀ t∈X,TmB (tb m+3) (td m+2) t)/\X.length<=1000/\Hs s G F) ?_ (λAr=>?_);rotate_left
 ·simp only[Af,gIf,gTB,Ad,A1,Ab,gC,Yb,Yc];walk_at "pb"
  ·simp only[Ao,Ag,Ad,Aw,Ab,gC,Aa,Ac,Yb,Yc,Yk,Yl];refine⟨trivial,(k,m,p),s,⟨by rw[e1],H,by lia,hk,U.hs hs T⟩,T.1,λr' G3 h3 hg3=>?_⟩;obtain⟨z,X,rfl,t1,t2,t3,t4⟩:=h3;exact Ar _ _ ⟨z,X,rfl,t1,t2,t3,t4,T.trans hg3⟩
  ·simp only[Ak];exact Ar _ _ ⟨q0,[],rfl,hq0s,hq2,(λt N=>by cases N),by decide,T⟩
 rintro ω' G3 ⟨z,X,rfl,t1,t2,t3,t4,hg3⟩;simp only[Af,gIf,gTB,Ad,Aq,Ac,Ab,Yb,Yc];refine⟨by decide,λq1 hq1=>?_⟩;have Y:=AD (o:=.lst []) hq1 _ _ t2;have hdl:=WT t3;have I:=hg3.put (o:=.lst []) hq1;show opt (eqF true (.ref z) (.ref q1) _) _;rw[m6 Y Aj (by unfold td at hdl;lia),An];generalize put G3 q1 (.lst [])=G4 at I Y ⊢;walk_at "pb"
 ·simp only[Ai,Ad,Ag,gB,rF,Aa,Ac,Ab,Yb,Yc];rw[show Bf [.ref z] G4=some (.int ((X.map Te.enc).length:Nat))from RV Y,An,Yh]
  have hpos:0 < X.length:=by
   cases X with
   | nil=>exact absurd h (by decide)
   | cons=>exact Nat.succ_pos _
  refine BQ (by lia) (by lia) I.1 λv G5 v0 v1 E=>?_;obtain⟨x,S,e⟩:=EG (E.2 z t1 _ Y) v0 (by rw[Yh];exact v1);show opt (ixW (.ref z) (.int v) G5) _;rw[e,An];obtain⟨t,N,rfl⟩:=YC.mp S;exact q _ _ ⟨t,rfl,(t3 t N).mono (by lia) (by lia)⟩ (I.trans E)
 simp only[Ak,A1];refine B1 (λh=>?_) (λh8=>?_)
 ·simp only[Ai,Ag,Ad,Aw,Ab,gC,Aa,Ac,Yb,Yc];refine⟨trivial,(k,m,p),s,⟨by rw[e1],H,by lia,hk,U.hs hs I⟩,I.1,λr' G5 h5 E=>?_⟩;obtain⟨t,rfl,N⟩:=h5;exact q _ _ ⟨t,rfl,TmB.mono (c:=2*tb m+5) (d:=td m+4) N (by lia) (by lia)⟩ (I.trans E)
 simp only[Ak];refine AF ?_;simp only[Ag,Ad,Aw,Ab,gC,Aa,Ac,Yb,Yc];refine⟨trivial,BB H (by lia) hkm (U.hs hs I).down I.1 e1 λone G5 hone E=>?_⟩;have E:=I.trans E;refine AF ?_;simp only[Ag,Ad,Aw,Ab,gC,Aa,Ac,Yb,Yc,Yk,Yl];refine⟨trivial,BB H (by lia) hkm (U.hs hs E).down E.1 e1 λa G6 hother A=>?_⟩;have A:=E.trans A;simp only[Yk,Yl,Af,gIf,gTB,Ad,Ae,Ab,gC,Yb,Yc,Br,An];walk_at "pb"
 ·simp only[Ai,Ah,Ag,Ad,Aw,Ab,gC,Aa,Ac,Yb,Yc];refine⟨by decide,trivial,BB (k:=.truth) H (by lia) ⟨rfl,by unfold kb;show 1<=_;lia,by unfold kp;show 1<=_;lia⟩ (U.hs hs A).down A.1 e1 λt Z N O=>?_⟩;exact⟨(Qzz 4),q _ _ ⟨.nd "if" (.trm t (.trm one (.trm a .nil))),rfl,(mH N hone hother).mono (by lia) (by lia)⟩ (A.trans O)⟩
 simp only[Ak];walk_at "pf";rotate_left
 ·simp only[Af,gIf,A8,gTB,Ad,Be,Ae,Ab,gC,Yb,Yc,Cu,An,Bd];have no:=Ar [some (.ref s),some k.enc,some (.ref p),some (.int ((m+1:Nat):Int)),some (.int r),some (.ref z),some one.enc,some a.enc,none,none,none,none,none] G6 ⟨none,none,rfl,A⟩;walk_at "pb"
  ·refine B1 (λh=>?_) (λh=>?_)
   ·rw[show ∀ b:Bool,(b != false)=b by intro b;cases b <;> rfl]at h;obtain⟨x,y,rfl⟩:=WP h;have S:=(hk.kid (x:=x) (.head _)).down;have hy:=(hk.kid (x:=y) (.tail _ (.head _))).down;refine AF ?_;simp only[gB,Ab,Aa,Ac,Yb,Yc,Yk,Yl]
    obtain⟨v,hv,ev⟩:∃ v:Str,AA v=true/\∀(G:Hw)(l:Addr),G l=some (.lst [.str "x",.str "y"])->ixW (.ref l) (.int (r % 2)) G=some (.str v):=by
     have h2:r % 2=0\/r % 2=1:=by lia
     rcases h2 with e | e <;> rw[e]
     ·exact⟨"x",by decide +kernel,λG l hl=>by rw[Ee hl];rfl⟩
     ·exact⟨"y",by decide +kernel,λG l hl=>by rw[Ee hl];rfl⟩
    obtain⟨B,a1,a2,a3⟩:=(U.hs hs A).new hv S;refine⟨p,B,rfl,a1,λl hl=>?_⟩;simp only[Af,F0,Ad,Aq,Aw,Ae,gC,Aa,Ac,Ab,Yb,Yc,Yk,Yl,Kd.enc,ixW,Bb,An];have hl7:put G6 l (.dct B) l=some (.dct B):=Aj;have O:=A.put (o:=.dct B) hl;have hls:=Hs.ne A.1 hl;generalize hH:put G6 l (.dct B)=Z at hl7 O ⊢;refine⟨by decide,λb hb=>⟨by decide,?_⟩⟩;have eb:=ev (put Z b (.lst [.str "x",.str "y"])) b Aj;show opt (ixW (.ref b) (.int (r % 2)) (put Z b (.lst [.str "x",.str "y"]))) _;rw[eb,An];have hlb:put Z b (.lst [.str "x",.str "y"]) l=some (.dct B):=AD hb _ _ hl7;refine⟨l,B,v,rfl,rfl,hlb,a2,?_⟩
    have w:Hs s G (put (put Z b (.lst [.str "x",.str "y"])) l (.dct (BE B (Sum.inr v) x.enc))):=by
     have h8:=O.put (o:=.lst [.str "x",.str "y"]) hb;refine⟨(Hs2.set h8.1 hls).1,λc hc u hu=>?_⟩;have hcl:c≠l:=AJ (A.2 c hc u hu) hl;rw[Av hcl];exact h8.2 c hc u hu
    have hn8:=a3 l (put (put Z b (.lst [.str "x",.str "y"])) l (.dct (BE B (Sum.inr v) x.enc))) Aj;generalize put (put Z b (.lst [.str "x",.str "y"])) l (.dct (BE B (Sum.inr v) x.enc))=G8 at w hn8 ⊢;simp only[Ai,Ah,Ag,Ad,Aq,Aw,Ae,gC,Aa,Ac,Ab,Yb,Yc,ixW,Bb,B4,An];refine⟨by decide,λb2 hb2=>⟨by decide,?_⟩⟩;have eb2:=ev (put G8 b2 (.lst [.str "x",.str "y"])) b2 Aj;show opt (ixW (.ref b2) (.int (r % 2)) (put G8 b2 (.lst [.str "x",.str "y"]))) _;rw[eb2,An];have i:=w.put (o:=.lst [.str "x",.str "y"]) hb2;have hn9:=hn8.put (o:=.lst [.str "x",.str "y"]) hb2;refine⟨trivial,BB H (by lia) hy hn9 i.1 e1 λt G10 N g=>?_⟩;exact⟨(Qzz 4),q _ _ ⟨.nd "fun" (.nam v (.knd x (.trm t .nil))),rfl,(NX hv S.ok N).mono (by lia) (by lia)⟩ (i.trans g)⟩
   ·exact no
  ·exact no
 rintro ω' Z ⟨L,J,rfl,O⟩;walk_at "pf";rotate_left
 ·simp only[Af,gIf,A8,gTB,Ad,Ae,Ab,gC,Aq,Aa,Ac,Yb,Yc,Cu,An,Br];walk_at "pb"
  ·refine⟨by decide,λb hb=>?_⟩;rw[Ws ["num","truth"] k.hd (xs:=[.str "num",.str "truth"]) Aj rfl,An];have w:=O.put (o:=.lst [.str "num",.str "truth"]) hb;generalize put Z b (.lst [.str "num",.str "truth"])=G8 at w ⊢;walk_at "pb"
   ·have hnum:KdOk (kb m) (kp m) .num:=⟨rfl,by unfold kb;show 1<=_;lia,by unfold kp;show 1<=_;lia⟩;refine AF ?_;simp only[Ah,Ag,Ad,Aw,Ab,gC,Aa,Ac,Yb,Yc];refine⟨by decide,trivial,BB (k:=.num) H (by lia) hnum (U.hs hs w).down w.1 e1 λt G9 N i=>?_⟩;have i:=w.trans i;simp only[Af,gIf,gTB,Ad,Ae,Ab,gC,Yb,Yc,Yk,Yl,Cu,An,Bd];walk_at "pb"
    ·simp only[Ai,Ah,Ab,gC,Aa,Ac,Yb,Yc];exact⟨(Qzz 3),q _ _ ⟨.nd "plus" (.trm t (.trm one .nil)),rfl,(DX mV N hone).mono (by lia) (by lia)⟩ i⟩
    ·simp only[Ak,Ai,Ah,Ag,Ad,Aw,Ab,gC,Aa,Ac,Yb,Yc];refine⟨by decide,trivial,BB (k:=.num) H (by lia) hnum (U.hs hs i).down i.1 e1 λt' G10 ht' g=>?_⟩;exact⟨(Qzz 3),q _ _ ⟨.nd "less" (.trm t (.trm t' .nil)),rfl,(DX mW N ht').mono (by lia) (by lia)⟩ (i.trans g)⟩
   ·exact Ar _ _ ⟨_,_,rfl,w⟩
  ·exact Ar _ _ ⟨_,_,rfl,O⟩
 rintro ω' G8 ⟨L,J,rfl,w⟩;refine AF ?_;walk_at "pn";refine EH rfl (by decide) (by decide) w.1 λx S G9 i=>?_;have i:=w.trans i
 obtain⟨b,rfl⟩:∃ b,x=.str (mark b):=by
  simp only[Yo,Qc,or_false]at S;rcases S with rfl | rfl
  ·exact⟨true,rfl⟩
  ·exact⟨false,rfl⟩
 refine AF ?_;simp only[Ah,Ad,Ag,Ab,gC,Aa,Ac,Yb,Yc,Yk,Yl];refine⟨(Qzz 3),(Qzz 1),BQ (by decide) (by decide) i.1 λv G10 v0 v1 g=>?_⟩;have g:=i.trans g;simp only[Ae,Br,An];walk_at "pp"
 have krow:∀(fs:Fs)(o:Bool),fs=.nil\/fs=.cons "a" b k .nil->KdOk (kb m) (kp m) (.row fs o):=λfs o hf=>by
  obtain⟨b1,b2,b3⟩:=hk;unfold kb at b2;unfold kp at b3;rcases hf with rfl | rfl
  ·exact⟨rfl,by show 1+0<=_;unfold kb;lia,by show 1+0<=_;unfold kp;lia⟩
  ·refine⟨?_,?_,?_⟩
   ·show(true&&(AA "a"&&k.ok&&true))=true;rw[Hr,b1];rfl
   ·show 1+(k.cnt+0)<=_;unfold kb;lia
   ·show 1+max k.dp 0<=_;unfold kp;lia
 refine AF ?_;simp only[Ah,Ad,Ag,Ae,Aw,Ab,gC,Aa,Ac,Yb,Yc,Yk,Yl,ixW,Bb,An];refine⟨(Qzz 3),trivial,BB (k:=.row (.cons "a" b k .nil) false) H (by lia) (krow _ _ (.inr rfl)) (U.hs hs g).down g.1 e1 λrow G11 hrow R=>?_⟩;have R:=g.trans R;refine DZ (λω' F=>∃ fs o,∃ u:Te,ω'=[some (.ref s),some k.enc,some (.ref p),some (.int ((m+1:Nat):Int)),some (.int r),some (.ref z),some one.enc,some a.enc,some (.str (mark b)),some (Kd.row fs o).enc,some u.enc,L,J]/\(fs=.nil\/fs=.cons "a" b k .nil)/\TmB (tb m+2) (td m+2) u/\Hs s G F) ?_ (λAr=>?_);rotate_left
 ·simp only[Af,gIf,gTB,Ad,Ag,Ab,gC,Aa,Ac,Yb,Yc,Yk,Yl];refine BQ (by decide) (by decide) R.1 λv' G12 _ _ f=>?_;have f:=R.trans f;simp only[Ae,Br,An];walk_at "pb"
  ·show Af (Ao 9 _) _ _ _ _;refine AF ?_;simp only[Ah,Aq,Ad,Ag,Ae,Aw,Ab,gC,Aa,Ac,Yb,Yc,ixW,Bb,An];refine⟨by decide,(Qzz 2),λy hy=>?_⟩;have hys:=Hs.ne f.1 hy;have P:=f.put (o:=.lst [.tup [.tup [.str "a",.str (mark b),k.enc]],.tup []]) hy;refine BQ (by decide) (by decide) P.1 λv3 G14 v30 v31 j=>⟨⟨by decide,by decide⟩,?_⟩;obtain⟨x,S,e⟩:=EG (r:=v3 / 2) (j.2 y hys _ Aj) (by lia) (by show v3 / 2 < 2;lia);rw[Ee (j.2 y hys _ Aj)]at e;rw[j.2 y hys _ Aj];dsimp only;rw[e,An];have j:=P.trans j
   obtain⟨fs,rfl,hfs⟩:∃ fs:Fs,x=.tup fs.enc/\(fs=.nil\/fs=.cons "a" b k .nil):=by
    simp only[Yo,Qc,or_false]at S;rcases S with rfl | rfl
    ·exact⟨.cons "a" b k .nil,rfl,.inr rfl⟩
    ·exact⟨.nil,rfl,.inl rfl⟩
   simp only[B4,An];walk_at "pp";simp only[Ao,Ah,Ag,Ab,gC,Aa,Ac,Yb,Yc,Yk,Yl];refine⟨by decide,(Qzz 3),EK (t:=.nd "as" (.trm row (.knd .any .nil))) (CM hrow Hq) j.1 λu G15 hu hg15=>?_⟩;exact Ar _ _ ⟨fs,_,u,rfl,hfs,hu,j.trans hg15⟩
  ·simp only[Ak];exact Ar _ _ ⟨.cons "a" b k .nil,_,row,rfl,.inr rfl,hrow.mono (by lia) (by lia),f⟩
 rintro ω' G12 ⟨fs,o,u,rfl,hfs,hu,f⟩;have hrk:=krow fs o hfs;refine AF ?_;simp only[Ah,Ab,gC,Aa,Ac,Yb,Yc,Yk,Yl];walk_at "pp";have hua:TmB (tb m+3) (td m+3) (.nd "as" (.trm u (.knd (.row fs o) .nil))):=CM hu hrk.ok
 have last:∀ F,Hs s G F->Ai (Ah (Aa (gC (.str "get")) (Aa (Ab 10) (Aa (gC (.str "a")) Ac)))) (Au Q) [some (.ref s),some k.enc,some (.ref p),some (.int ((m+1:Nat):Int)),some (.int r),some (.ref z),some one.enc,some a.enc,some (.str (mark b)),some (Kd.row fs o).enc,some (Te.nd "as" (.trm u (.knd (.row fs o) .nil))).enc,L,J] F:=λF K=>by
  simp only[Ai,Ah,Ab,gC,Aa,Ac,Yb,Yc];exact⟨(Qzz 3),q _ _ ⟨.nd "get" (.trm (.nd "as" (.trm u (.knd (.row fs o) .nil))) (.nam "a" .nil)),rfl,(NW hua Hr).mono (by lia) (by lia)⟩ K⟩
 have orr:∀(D:Ew)F,D.rt=Q->Hs s G F->Ai (Ah (Aa (gC (.str "or")) (Aa (Ab 10) (Aa (Ad (Ae ixW) (Aq (Aa (gC (.str "a")) (Aa (gC (.str "b")) Ac))) (Ag CK XF (Aa (Ab 0) (Aa (gC (.int 2)) Ac)))) (Aa (Ab 7) Ac))))) D [some (.ref s),some k.enc,some (.ref p),some (.int ((m+1:Nat):Int)),some (.int r),some (.ref z),some one.enc,some a.enc,some (.str (mark b)),some (Kd.row fs o).enc,some (Te.nd "as" (.trm u (.knd (.row fs o) .nil))).enc,L,J] F:=λD F hD K=>by
  simp only[Ai,Ah,Ad,Aq,Ag,Ab,gC,Aa,Ac,Yb,Yc];refine EH rfl (by decide) (by decide) K.1 λx S G13 P=>?_
  obtain⟨y,rfl,hy⟩:∃ y:Str,x=.str y/\AA y=true:=by
   simp only[Yo,Qc,or_false]at S;rcases S with rfl | rfl
   ·exact⟨_,rfl,Hr⟩
   ·exact⟨_,rfl,mU⟩
  rw[hD];exact⟨(Qzz 4),q _ _ ⟨.nd "or" (.trm (.nd "as" (.trm u (.knd (.row fs o) .nil))) (.nam y (.trm a .nil))),rfl,(Wr hua hy (hother.mono (Yr _) (by lia))).mono (by lia) (by lia)⟩ (K.trans P)⟩
 simp only[Af,gIf,gOr,A8,gNt,A4,gTB,Ad,Ae,Ab,gC,Ah,Ac,Yb,Yc,Bd,An,Kd.enc,ixW,Bb,B4,B9];walk_at "pb"
 ·rw[if_pos trivial];exact orr _ _ rfl f
 ·refine⟨by decide,?_⟩
  have hpf:PT (.tup fs.enc):=by
   have hd:=NP fs;have hd3:1+fs.dp<=kp m:=hrk.2.2;unfold kp at hd3;exact⟨_,rfl,N9 fs,by lia⟩
  obtain⟨c,ec⟩:=WI (neg:=false) hpf WJ G12;rw[ec,An];cases c with
  | false=>exact last _ f
  | true =>
   cases o with
   | true=>exact last _ f
   | false=>exact orr _ _ rfl f
theorem BP(T:Tx K mg base a):∀ n:Nat,Df P w K mg base "_law_term" (3*n+10) 4 (CW n)
 | 0=>Dq T.Sq CL λc G Q E⟨x,s,⟨_,hd,_⟩,_⟩=>by lia
 | n+1=>by
  refine mk0 (k:=3*n+12) T.Sq rfl WC CL (λc G Q E⟨x,s,⟨e,_⟩,_⟩=>by rw[e];rfl) (mP T (AS T) (by lia) (EE T 8) (by lia) (JM T (by lia) (BP T n)) (by lia) (JN T (by lia) (BP T n)) (by lia) (BP T n) (by lia) (CV T) (by lia)) λc G Q E h q=>?_;obtain⟨⟨k,m,p⟩,s,⟨rfl,f,b,g,d⟩,hs,q⟩:=q;exact m7 f b g d hs q
abbrev WW:List Str:=["row","name","field"]
theorem WX:AB WW ["row","name"] (Ap Mo):=by walk_at "s"
def WY:GS:=(Af (AT (Ax (Ad (Ae ixW) (Ab 0) (gC (.int 1)))) (gNm 2) (gIf (gTB (Ad (Ae (eqF false)) (Ad (Ae ixW) (Ab 2) (gC (.int 0))) (Ab 1))) (Ai (Ah (Aa (Ad (Ae ixW) (Ab 2) (gC (.int 1))) (Aa (Ad (Ae ixW) (Ab 2) (gC (.int 2))) Ac)))) Ak)) (Ai (BC (A4 (Ad (Ae ixW) (Ab 0) (gC (.int 2)))) (Ah (Aa (gC (.str "free")) Ac)) (Ah (Aa (gC (.str "none")) Ac)))))
theorem m8(T:Tx K mg base a):Dn P w K mg base WW "entry_of" Mo k (WY):=by
 have hN:=WX.nd;walk_at "z"
abbrev WZ:List Str:=["row"]
theorem W0:AB WZ ["row"] (Ap Mp):=by walk_at "s"
def W1:GS:=(Ai (AI (Ax (Ad (Ae ixW) (Ab 0) (gC (.int 1)))) 1 (gNm 0) Ay (Ad (Ae ixW) (Ab 0) (gC (.int 0)))))
theorem m9(T:Tx K mg base a):Dn P w K mg base WZ "names_of" Mp k (W1):=λ{f cdv A outer s H E}hr=>
 have hu:=AQ hr
 have hN:=W0.nd
 (AG (Ba (BK (Nc:=["field"]) rfl (BG rfl (by decide +kernel) (by decide +kernel)) (λ_=>rfl) (by walk_at "v") (CB (i:=0) (by decide) rfl rfl) (λC fp s1 H1=>A6) (λC fp s1 H1=>(by walk_at "v")))))
abbrev W2:List Str:=["one","other"]
theorem W3:AB W2 ["one","other"] (Ap Mq):=by walk_at "s"
def W4(Ht:Spw):GS:=(Ai (LR (Ag Ht XF (Aa (Ab 0) Ac)) (Ag Ht XF (Aa (Ab 1) Ac))))
theorem nc(T:Tx K mg base a)(oH:Df P w K mg base "names_of" JT 1 Ht)(oI:JT<=k):Dn P w K mg base W2 "names_of_both" Mq k (W4 Ht):=by
 have hN:=W3.nd;walk_at "z"
abbrev W5:List Str:=["one","other"]
theorem W6:AB W5 ["one","other"] (Ap Ms):=by walk_at "s"
def W7(Ct:Spw):GS:=(Af (gIf (gTB (Ad (Ae (eqF false)) (Ad (Ae ixW) (Ab 0) (gC (.int 0))) (gC (.str "free")))) (Ai (gC (.bl true))) Ak) (Af (gIf (gTB (Ad (Ae (eqF true)) (Ad (Ae ixW) (Ab 0) (gC (.int 0))) (Ad (Ae ixW) (Ab 1) (gC (.int 0))))) (Ai (gC (.bl false))) Ak) (Ai (C2 (Ad (Ae (eqF false)) (Ad (Ae ixW) (Ab 0) (gC (.int 0))) (gC (.str "none"))) (Ag Ct XF (Aa (Ad (Ae ixW) (Ab 0) (gC (.int 1))) (Aa (Ad (Ae ixW) (Ab 1) (gC (.int 1))) Ac)))))))
theorem ng(T:Tx K mg base a)(Vn:Df P w K mg base "is_less" Dc 2 Ct)(Vo:Dc<=k):Dn P w K mg base W5 "is_less_entry" Ms k (W7 Ct):=by
 have hN:=W6.nd;walk_at "z"
abbrev W8:List Str:=["one","other","names"]
theorem W9:AB W8 ["one","other"] (Ap Il):=by walk_at "s"
def Xa(JU:Spw)(Hu:Spw)(JV:Spw):GS:=(Af (gIf (A8 (A4 (Ad (Ae ixW) (Ab 1) (gC (.int 2)))) (gNt (A4 (Ad (Ae ixW) (Ab 0) (gC (.int 2)))))) (Ai (gC (.bl false))) Ak) (Af (Ao 2 (Ag JU XF (Aa (Ab 0) (Aa (Ab 1) Ac)))) (Ai (gB (rF BD) (Aa (AO (Ax (Ab 2)) 1 [0,1] (gNm 0) Ay (Ag JV XF (Aa (Ag Hu XF (Aa (Ab 1) (Aa (Ab 0) Ac))) (Aa (Ag Hu XF (Aa (Ab 2) (Aa (Ab 0) Ac))) Ac)))) Ac)))))
theorem nh(T:Tx K mg base a)(oJ:Df P w K mg base "names_of_both" JW 2 JU)(oK:JW<=k)(oM:Df P w K mg base "entry_of" JX 2 Hu)(oN:JX<=k)(oO:Df P w K mg base "is_less_entry" JY 2 JV)(oP:JY<=k):Dn P w K mg base W8 "is_less_row" Il k (Xa JU Hu JV):=λ{f cdv A outer s H E}hr=>
 have hu:=AQ hr
 have hN:=W9.nd
 (Az (by walk_at "v") (Az (by walk_at "v") (AG (Ba (BW Dk (Dj rfl) rfl T.Dm (by decide) rfl rfl rfl (AH rfl (Dl rfl (Cp (own:=["name"]) (fr:=["one","other"]) (js:=[0,1]) (scX:=Ap Il) (n:=s.heap.objs.size+1) rfl (by decide +kernel) (by decide +kernel) (by decide +kernel) (by decide +kernel) rfl rfl rfl (by decide +kernel) rfl) (λ_=>rfl) (by walk_at "v") (CO (i:=0) (by decide) rfl rfl) (λC fp s1 H1=>A6) (λC fp s1 H1=>(by walk_at "v"))) A5))))))
abbrev Xb:List Str:=["one","other"]
theorem Xd:AB Xb ["one","other"] (Ap Mr):=by walk_at "s"
def Xe(JZ:Spw)(Ct:Spw):GS:=(Af (gIf (gTB (Ad (Ae (eqF false)) (Ad (Ae ixW) (Ab 0) (gC (.int 0))) (gC (.str "any")))) (Ai (gC (.bl true))) Ak) (Af (gIf (gTB (Ad (Ae (eqF true)) (Ad (Ae ixW) (Ab 0) (gC (.int 0))) (Ad (Ae ixW) (Ab 1) (gC (.int 0))))) (Ai (gC (.bl false))) Ak) (Af (gIf (gTB (Ad (Ae (eqF false)) (Ad (Ae ixW) (Ab 0) (gC (.int 0))) (gC (.str "row")))) (Ai (Ag JZ XF (Aa (Ab 0) (Aa (Ab 1) Ac)))) Ak) (Ai (gB (rF BD) (Aa (AI (B3 (Aa (Bn (Ab 0) (AV (gC (.int 1))) AU) (Aa (Bn (Ab 1) (AV (gC (.int 1))) AU) Ac))) 2 (AM 0 1) Ay (Ag Ct XF (Aa (Ab 0) (Aa (Ab 1) Ac)))) Ac))))))
theorem ni(T:Tx K mg base a)(oQ:Df P w K mg base "is_less_row" J0 2 JZ)(oR:J0<=k)(Vn:Df P w K mg base "is_less" Dc 2 Ct)(Vo:Dc<=k):Dn P w K mg base Xb "is_less" Mr k (Xe JZ Ct):=λ{f cdv A outer s H E}hr=>
 have hu:=AQ hr
 have hN:=Xd.nd
 (Az (by walk_at "v") (Az (by walk_at "v") (Az (by walk_at "v") (AG (Ba (BW Dk (Dj rfl) rfl T.Dm (by decide) rfl rfl rfl (AH rfl (BK (Nc:=["left","right"]) rfl (BG rfl (by decide +kernel) (by decide +kernel)) (λ_=>rfl) (FZ T.Do rfl rfl rfl (by walk_at "v")) (EU (i:=0) (j:=1) rfl (by decide) rfl rfl rfl rfl) (λC fp s1 H1=>A6) (λC fp s1 H1=>(by walk_at "v"))) A5)))))))
def EnO(n:Nat)(x:W):Prop:=x=.tup [.str "free"]\/x=.tup [.str "none"]\/∃(b:Bool)(k:Kd),x=.tup [.str (mark b),k.enc]/\k.cnt<=31/\k.dp<=n
theorem Xf(a:∀ r,EnO n r->D.rt r G)(b:∀ o,D.nx [some row,some (.str x),o] G):∀(fs:Fs)(o':Option W),(∀ k∈fs.kinds,k.cnt<=31/\k.dp<=n)->
  Bs yes (gNm 2) (gIf (gTB (Ad (Ae (eqF false)) (Ad (Ae ixW) (Ab 2) (gC (.int 0))) (Ab 1))) (Ai (Ah (Aa (Ad (Ae ixW) (Ab 2) (gC (.int 1))) (Aa (Ad (Ae ixW) (Ab 2) (gC (.int 2))) Ac)))) Ak) D fs.enc [some row,some (.str x),o'] G
 | .nil,o',_=>⟨trivial,b o'⟩
 | .cons n m k r,o',h=>by
  obtain⟨h1,h2⟩:=h k Ye;refine⟨trivial,?_⟩;show gIf _ _ Ak _ [some row,some (.str x),some (.tup [.str n,.str (mark m),k.enc])] G;walk_at "rd";refine B1 (λ_=>?_) (λ_=>?_)
  ·exact⟨(Qzz 2),a _ (.inr (.inr ⟨m,k,rfl,h1,h2⟩))⟩
  ·exact Xf a b r _ λc hc=>h c (Yd _ hc)
def Xg:Spw:=λws G Q _=>∃(n:Nat)(fs:Fs)(o:Bool)(x:Str),ws=[(Kd.row fs o).enc,.str x]/\(∀ k∈fs.kinds,k.cnt<=31/\k.dp<=n)/\∀ r,EnO n r->Q r G
theorem nj:Spw.M Xg:=(by rintro d G Q b E c h _ ⟨n,fs,o,x,h1,h2,q⟩;exact⟨n,fs,o,x,h1,h2,λr a=>h _ _ (q r a)⟩)
theorem JX(T:Tx K mg base a):Df P w K mg base "entry_of" 1 2 Xg:=by
 refine mk0 T.iN rfl WX nj (λb G Q E⟨_,_,_,_,e,_⟩=>by rw[e];rfl) (m8 T) λb G Q E d q=>?_;obtain⟨n,fs,o,x,rfl,h,q⟩:=q;unfold WY;simp only[Kd.enc];walk_at "rd";refine Xf (n:=n) q (λc=>?_) fs none h;simp only[Yb,Yc,B4,An];cases o with
 | true=>exact⟨by decide,q _ (.inl rfl)⟩
 | false=>exact⟨by decide,q _ (.inr (.inl rfl))⟩
abbrev nk:Spw:=spL (λ(x:Fs×Bool)ws _=>ws=[(Kd.row x.1 x.2).enc]/\x.1.names.length<=100) λx=>x.1.names.map W.str
theorem JT(T:Tx K mg base a):Df P w K mg base "names_of" 1 1 nk:=by
 refine mk0 T.iO rfl W0 BX (λi G Q E⟨x,⟨e,_⟩,_⟩=>by rw[e];rfl) (m9 T) λi G Q E j q=>?_;obtain⟨⟨fs,o⟩,⟨rfl,hl⟩,q⟩:=q;have g:fs.enc.length<=100:=by rw[<- II];exact hl
 unfold W1;simp only[Kd.enc];walk_at "rd";refine Ef (f:=IH) trivial fs.enc none [] (λx d c h=>?_) (by simp only[Yi];exact A9 (by lia)) ?_
 ·obtain⟨n,b,k,rfl⟩:=M2 d;show Ad (Ae ixW) (Ab 0) (gC (.int 0)) [some (W.tup [.str n,.str (mark b),k])] _ c;walk_at "rd";exact h
 ·rw[Yw,M0];exact q
def Xh:Spw:=λws G Q _=>∃(fs gs:Fs)(o p:Bool),ws=[(Kd.row fs o).enc,(Kd.row gs p).enc]/\fs.names.length < 32/\gs.names.length < 32/\∀(zs:List Str)(r:Addr),zs.Nodup->(∀ x,x∈zs->x∈fs.names\/x∈gs.names)->G r=none->Q (.ref r) (put G r (.lst (zs.map W.str)))
theorem nl:Spw.M Xh:=λg G Q e E f h _⟨fs,gs,o,p,h1,h2,d,q⟩=>⟨fs,gs,o,p,h1,h2,d,λzs r a b c=>h _ _ (q zs r a b c)⟩
theorem JW(T:Tx K mg base a):Df P w K mg base "names_of_both" 2 2 Xh:=by
 refine mk0 T.iP rfl W3 nl (λk G Q E⟨_,_,_,_,e,_⟩=>by rw[e];rfl) (nc T (JT T) (Yr _)) λk G Q E i q=>?_;obtain⟨fs,gs,o,p,rfl,h1,h2,q⟩:=q;unfold W4;walk_at "rd";refine⟨(fs,o),⟨rfl,by dsimp only;lia⟩,λp1 c=>?_⟩;refine⟨fs.names,Cq Aj,h1,(gs,p),⟨rfl,by dsimp only;lia⟩,λp2 g=>?_⟩;refine⟨gs.names,Cq Aj,h2,λzs r j m l b=>?_⟩;have f:r≠p2:=λe=>by subst e;rw[Aj]at b;cases b
 rw[Av f]at b;have d:r≠p1:=λe=>by subst e;rw[Aj]at b;cases b
 rw[Av d]at b;exact i _ _ _ ((Bh (AD c) g).put2) (q zs r j (λx h=>(l x).mp h) b)
def J1{α:Type}(A:α->List W->Prop):Spw:=λws G Q _=>∃ x,A x ws/\∀ b,Q (.bl b) G
theorem J2{α:Type}{A:α->List W->Prop}:Spw.M (J1 A):=(by rintro d G Q a E c h _ ⟨x,h1,q⟩;exact⟨x,h1,λb=>h _ _ (q b)⟩)
abbrev Od(n:Nat):Spw:=J1 λ(x:Kd×Kd)ws=>ws=[x.1.enc,x.2.enc]/\x.1.cnt<=31/\x.2.cnt<=31/\x.1.dp<=n
abbrev Xi(n:Nat):Spw:=J1 λ(x:W×W×Nat)ws=>ws=[x.1,x.2.1]/\EnO n x.1/\EnO x.2.2 x.2.1
theorem JY(T:Tx K mg base a)(D:Df P w K mg base "is_less" j 2 (Od n)):Df P w K mg base "is_less_entry" (j+1) 2 (Xi n):=by
 refine mk0 T.iR rfl W6 J2 (λp G Q E⟨x,⟨e,_⟩,_⟩=>by rw[e];rfl) (ng T D (Yr _)) λp G Q E r q=>?_;obtain⟨⟨x,y,m⟩,⟨rfl,f,d⟩,q⟩:=q;dsimp only at f d;unfold W7;rcases f with rfl | rfl |⟨b,k,rfl,i,h⟩
 ·exact Eq.mpr (by kernel_rfl) (q true)
 ·rcases d with rfl | rfl |⟨c,l,rfl,_⟩
  ·exact Eq.mpr (by kernel_rfl) (q false)
  ·exact Eq.mpr (by kernel_rfl) (q true)
  ·cases c <;> exact Eq.mpr (by kernel_rfl) (q false)
 ·rcases d with rfl | rfl |⟨c,l,rfl,g,s⟩
  ·cases b <;> exact Eq.mpr (by kernel_rfl) (q false)
  ·cases b <;> exact Eq.mpr (by kernel_rfl) (q false)
  ·have o:Od n [k.enc,l.enc] G Q (λ_ _=>False):=⟨(k,l),⟨rfl,i,g,h⟩,q⟩;cases b <;> cases c
   ·exact Eq.mpr (by kernel_rfl) o
   ·exact Eq.mpr (by kernel_rfl) (q false)
   ·exact Eq.mpr (by kernel_rfl) (q false)
   ·exact Eq.mpr (by kernel_rfl) o
theorem Xj{α:Type}{enc:α->W}{cst:Sw}(a:c G):∀(l:List α)(o:Option W)(bs:List Bool),(∀ x∈l,∀ Q:Kw,(∀ b,Q (.bl b) G)->ge (some (enc x)::cst) G Q)->bs.length+l.length<=1000->(∀ bs:List Bool,R (bs.map W.bl) G)->AN c (gNm 0) Ay ge R (l.map enc) (o::cst) G (bs.map W.bl)
 | [],o,bs,_,_,r=>⟨a,r bs⟩
 | x::l,o,bs,h,hl,r=>by
  walk_at "pv";refine⟨a,by rw[Yh];exact Bq (by lia),?_⟩;show ge (some (enc x)::cst) G _;refine h x Ye _ λb=>?_;have z:=Xj a l (some (enc x)) (bs++[b]) (λy d=>h y (Yd _ d)) (by rw[Yj];simp only[Yg,Yi];lia) r;rw[Yy]at z;exact z
theorem Oe{α:Type}{e1 e2:α->W}(a:c G):∀(l:List α)(o o':Option W)(bs:List Bool),(∀ x∈l,∀ Q:Kw,(∀ b,Q (.bl b) G)->ge [some (e1 x),some (e2 x)] G Q)->bs.length+l.length<=1000->(∀ bs:List Bool,R (bs.map W.bl) G)->AN c (AM 0 1) Ay ge R (l.map λx=>W.tup [e1 x,e2 x]) [o,o'] G (bs.map W.bl)
 | [],o,o',bs,_,_,r=>⟨a,r bs⟩
 | x::l,o,o',bs,h,hl,r=>by
  walk_at "pv";refine⟨a,by rw[Yh];exact Bq (by lia),?_⟩;show ge [some (e1 x),some (e2 x)] G _;refine h x Ye _ λb=>?_;have z:=Oe a l (some (e1 x)) (some (e2 x)) (bs++[b]) (λy d=>h y (Yd _ d)) (by rw[Yj];simp only[Yg,Yi];lia) r;rw[Yy]at z;exact z
theorem Of{bs:List Bool}:BD [.ref p] (put G p (.lst (bs.map W.bl)))=some (.bl (bs.all id)):=by
 unfold BD;simp only[Cq Aj,Option.bind_some,DF,YD]
theorem Xk(h:(Kd.row fs o).cnt<=c)(hd:(Kd.row fs o).dp<=n+1):∀ k∈fs.kinds,k.cnt<=c/\k.dp<=n:=λk a=>⟨by have:=GN (k:=.row fs o) a;lia,by have:=Fc (k:=.row fs o) a;lia⟩
theorem Xl(h:(Kd.row fs o).cnt<=c):fs.names.length < c:=by
 have h':1+fs.cnt<=c:=h;have:=Hd fs;rw[II];lia
abbrev nn(n:Nat):Spw:=J1 λ(x:Fs×Bool×Fs×Bool)ws=>ws=[(Kd.row x.1 x.2.1).enc,(Kd.row x.2.2.1 x.2.2.2).enc]/\(Kd.row x.1 x.2.1).cnt<=31/\(Kd.row x.2.2.1 x.2.2.2).cnt<=31/\(Kd.row x.1 x.2.1).dp<=n+1
theorem J0(T:Tx K mg base a)(t:2<=j)(D:Df P w K mg base "is_less_entry" j 2 (Xi n)):Df P w K mg base "is_less_row" (j+1) 2 (nn n):=by
 refine mk0 T.iQ rfl W9 J2 (λB G Q E⟨x,⟨e,_⟩,_⟩=>by rw[e];rfl) (nh T (JW T) t (JX T) (by lia) D (Yr _)) λB G Q E k q=>?_;obtain⟨⟨fs,o,gs,p⟩,⟨rfl,h1,h2,i⟩,q⟩:=q;dsimp only at h1 h2 i;have n1:=Xl h1;have H:=Xl h2;unfold Xa;show Af (gIf _ _ Ak) _ (Au Q) [some (Kd.row fs o).enc,some (Kd.row gs p).enc,none] G;refine DZ (λω' h=>ω'=[some (Kd.row fs o).enc,some (Kd.row gs p).enc,none]/\h=G) ?_ (λf=>?_)
 ·rintro ω' h ⟨rfl,rfl⟩;refine AF ?_;walk_at "ph";refine⟨fs,gs,o,p,rfl,by lia,by lia,λzs r y u m=>?_⟩
  have A:zs.length<=100:=by
   have:=GB (xs:=fs.names++gs.names) y λx g=>Yz.mpr (u x g);rw[Yj]at this;lia
  simp only[Ai,gB,rF,AO,Ax,Bc,Aa,Ac,Ab,Ym,YI,List.replicate,List.cons_append,Yw,Yb,Yc,Yk,Yl,Option.getD_some,Aj];refine Xj (enc:=W.str) (cst:=[some (Kd.row fs o).enc,some (Kd.row gs p).enc]) Aj zs none [] (λx g F l=>?_) (by simp only[Yi];lia) λbs p1 d=>?_
  ·walk_at "ph";exact⟨n,fs,o,x,rfl,Xk h1 i,λv c=>⟨gs.dp,gs,p,x,rfl,Xk h2 (show 1+gs.dp<=_ by lia),λs b=>⟨(v,s,gs.dp),⟨rfl,c,b⟩,l⟩⟩⟩
  ·rw[Of,An];exact k _ _ _ (Bh (AD m) d) (q _)
 ·simp only[Af,gIf,A8,A4,gNt,Ad,Ae,Ab,gC,Yb,Yc,Kd.enc,ixW,B4,An,B9];have z:=f _ _ ⟨rfl,rfl⟩;cases p with
  | false=>exact z
  | true =>
   cases o with
   | true=>exact z
   | false=>exact q false
theorem Dc(T:Tx K mg base a):∀ n:Nat,Df P w K mg base "is_less" (3*n+2) 2 (Od n)
 | 0=>Dq T.Sf J2 λi G Q E⟨x,⟨_,_,_,h⟩,_⟩=>by have:=DG x.1;lia
 | n+1=>by
  have D:=Dc (P:=P) T n;have DE:=JY T D;have DR:=J0 T (by lia) DE;refine mk0 (k:=3*n+4) T.Sf rfl Xd J2 (λi G Q E⟨x,⟨e,_⟩,_⟩=>by rw[e];rfl) (ni T DR (Yr _) D (by lia)) λi G Q E m q=>?_;obtain⟨⟨k,l⟩,⟨rfl,h1,h2,f⟩,q⟩:=q;dsimp only at h1 h2 f;unfold Xe;show Af (gIf _ _ Ak) _ (Au Q) [some k.enc,some l.enc] G;simp only[Af,gIf,gTB,Ad,Ae,Ab,gC,Yb,Yc,Cu,An,Bd];refine B1 (λ_=>?_) (λ_=>?_)
  ·exact q true
  simp only[Ak,Af,gIf,gTB,Ad,Ae,Ab,gC,Yb,Yc,Cu,An,Bd];refine B1 (λ_=>?_) (λg=>?_)
  ·exact q false
  have c:k.hd=l.hd:=by
   cases e:(k.hd==l.hd)with
   | true=>simpa using e
   | false=>rw[e]at g;exact absurd rfl g
  by_cases e:k.hd="row"
  ·rw[show(k.hd==("row":Str))=true by simp[e],show(true != false)=true from rfl,if_pos rfl];obtain⟨fs,o,rfl⟩:=NC e;obtain⟨gs,p,rfl⟩:=NC (c.symm.trans e);exact⟨(fs,o,gs,p),⟨rfl,h1,h2,f⟩,q⟩
  ·rw[show(k.hd==("row":Str))=false by simpa using e,show(false != false)=false from rfl,if_neg (by decide)];have e1:=VY e;have e2:=VY (k:=l) λz=>e (c.trans z);have v:=R9 k;have A:=R9 l;rw[e1,e2];simp only[Ai,gB,rF,AI,B3,Bn,AV,AU,Aa,Ac,Ab,gC,Yb,Yc,List.replicate];refine Jg (Jg ⟨k.kids.map Kd.enc,l.kids.map Kd.enc,rfl,?_⟩);rw[Ig,List.zip_map,YB];refine Oe (e1:=λx:Kd×Kd=>x.1.enc) (e2:=λx=>x.2.enc) trivial (k.kids.zip l.kids) none none [] (λx j t r=>?_) (by have:=List.length_zip (l₁:=k.kids) (l₂:=l.kids);simp only[Yi];lia) λbs p s=>?_
   ·have d:=List.of_mem_zip (a:=x.1) (b:=x.2) j;have y:=GN d.1;have B:=GN d.2;have u:=Fc d.1;exact⟨x,⟨rfl,by lia,by lia,by lia⟩,r⟩
   ·rw[Of,An];exact m _ _ _ (AD s) (q _)
mutual
theorem Og:∀ t:Te,plW t.enc=true
 | .nd w r=>by have:=Fy r;show(true&&plL r.enc)=true;rw[this];rfl
theorem Fy:∀ r:As,plL r.enc=true
 | .nil=>rfl
 | .num i r=>by have:=Fy r;show(true&&plL r.enc)=true;rw[this];rfl
 | .tru i r=>by have:=Fy r;show(true&&plL r.enc)=true;rw[this];rfl
 | .nam i r=>by have:=Fy r;show(true&&plL r.enc)=true;rw[this];rfl
 | .knd k r=>by have:=Fy r;show(plW k.enc&&plL r.enc)=true;rw[Fu,this];rfl
 | .trm t r=>by have:=Fy r;have:=Og t;show(plW t.enc&&plL r.enc)=true;rw[‹plW t.enc=true›,‹plL r.enc=true›];rfl
 | .fld f r=>by have:=Fy r;have:=Xm f;show(plL f.enc&&plL r.enc)=true;rw[‹plL f.enc=true›,‹plL r.enc=true›];rfl
theorem Xm:∀ f:Fl,plL f.enc=true
 | .nil=>rfl
 | .cons x t r=>by have:=Og t;have:=Xm r;show((true&&(plW t.enc&&true))&&plL r.enc)=true;rw[‹plW t.enc=true›,‹plL r.enc=true›];rfl
end
mutual
theorem nq:∀ x:W,plW x=true->eqD x x=some true
 | .str s,_=>by show some (s==s)=_;rw[beq_self_eq_true]
 | .bl s,_=>by show some (s==s)=_;rw[beq_self_eq_true]
 | .int s,_=>by show some (s==s)=_;rw[beq_self_eq_true]
 | .tup xs,h=>Xn xs h
 | .non,h=>by cases h
 | .rol _,h=>by cases h
 | .ref _,h=>by cases h
theorem Xn:∀ xs:List W,plL xs=true->Bm xs xs=some true
 | [],_=>rfl
 | x::xs,h=>by
  obtain⟨h1,h2⟩:=N7 h;exact WH (nq x h1) (Xn xs h2)
end
theorem Oh(h:tg t):PT t.enc:=by
 have h1:=Og t;have h2:=JS t h.1;have b:=h.2.2;cases t with
 | nd w r =>
  have a:L3.dpL (.str w::r.enc)+1<=3*(Te.nd w r).dp+25:=h2;exact⟨_,rfl,h1,by lia⟩
theorem nr(neg:Bool)(h1:G p=some (.lst xs))(h2:G r=some (.lst xs))(hd:L3.dpL xs < 90)(a:Bm xs xs=some true):eqF neg (.ref p) (.ref r) G=some (.bl (true != neg)):=by
 have:eqW (.ref p) (.ref r) G=some true:=by
  unfold eqW;simp only[h1,h2];rw[if_pos hd,a]
 unfold eqF;rw[this];rfl
theorem Fz(d:Kd):∀ r:As,(r.withKd d).parts=r.parts/\(r.withKd d).sorts=r.sorts/\(r.ok=true->d.ok=true->BF d=true->(r.withKd d).ok=true)
 | .nil=>⟨rfl,rfl,λ_ _ _=>rfl⟩
 | .num i r=>by
  obtain⟨a,b,c⟩:=Fz d r;refine⟨a,congrArg (_::·) b,λh h1 h2=>?_⟩;walk_at "ps";walk_at "pa";show(decide (-NB<=i/\i<=NB)&&(r.withKd d).ok)=true;rw[h'.1,c h'.2 h1 h2];rfl
 | .tru i r=>by
  obtain⟨a,b,c⟩:=Fz d r;exact⟨a,congrArg (_::·) b,c⟩
 | .nam x r=>by
  obtain⟨a,b,c⟩:=Fz d r;refine⟨a,congrArg (_::·) b,λh h1 h2=>?_⟩;have h':(AA x&&r.ok)=true:=h;walk_at "pa";show(AA x&&(r.withKd d).ok)=true;rw[h'.1,c h'.2 h1 h2];rfl
 | .knd k r=>by
  obtain⟨a,b,c⟩:=Fz d r;refine⟨a,congrArg (_::·) b,λh h1 h2=>?_⟩;have h':((k.ok&&BF k)&&r.ok)=true:=h;walk_at "pa";show((d.ok&&BF d)&&(r.withKd d).ok)=true;rw[h1,h2,c h'.2 h1 h2];rfl
 | .trm t r=>by
  obtain⟨a,b,c⟩:=Fz d r;refine⟨congrArg (t::·) a,congrArg (_::·) b,λh h1 h2=>?_⟩;have h':(t.ok&&r.ok)=true:=h;walk_at "pa";show(t.ok&&(r.withKd d).ok)=true;rw[h'.1,c h'.2 h1 h2];rfl
 | .fld f r=>by
  obtain⟨a,b,c⟩:=Fz d r;refine⟨congrArg (f.terms++·) a,congrArg (_::·) b,λh h1 h2=>?_⟩;have h':((AY f.names&&f.ok)&&r.ok)=true:=h;walk_at "pa";show((AY f.names&&f.ok)&&(r.withKd d).ok)=true;rw[h'.1.1,h'.1.2,c h'.2 h1 h2];rfl
theorem Xo:∀(f:Fl)(us:List Te),us.length=f.terms.length->(f.withT us).names=f.names/\(f.withT us).terms=us/\(f.ok=true->(∀ c∈us,c.ok=true)->(f.withT us).ok=true)
 | .nil,[],_=>⟨rfl,rfl,λ_ _=>rfl⟩
 | .cons n k r,u::us,h=>by
  obtain⟨a,b,c⟩:=Xo r us (Nat.succ.inj h);refine⟨congrArg (n::·) a,congrArg (u::·) b,λh1 h2=>?_⟩;have d:((AA n&&k.ok)&&r.ok)=true:=h1;simp only[YG]at d;show((AA n&&u.ok)&&(r.withT us).ok)=true;rw[d.1.1,h2 u Ye,c d.2 λc hc=>h2 c (Yd _ hc)];rfl
theorem Km:∀(r:As)(us:List Te),("fields":Str)∉r.sorts->us.length=r.parts.length->(r.withPs us).parts=us/\(r.withPs us).sorts=r.sorts/\(r.ok=true->(∀ c∈us,c.ok=true)->(r.withPs us).ok=true)
 | .nil,[],_,_=>⟨rfl,rfl,λ_ _=>rfl⟩
 | .num i r,us,d,hl=>by
  walk_at "pq";refine⟨a,congrArg (_::·) b,λh h2=>?_⟩;walk_at "ps";walk_at "pa";show(decide (-NB<=i/\i<=NB)&&(r.withPs us).ok)=true;rw[h'.1,c h'.2 h2];rfl
 | .tru i r,us,d,hl=>by
  walk_at "pq";exact⟨a,congrArg (_::·) b,c⟩
 | .nam x r,us,d,hl=>by
  walk_at "pq";refine⟨a,congrArg (_::·) b,λh h2=>?_⟩;have h':(AA x&&r.ok)=true:=h;walk_at "pa";show(AA x&&(r.withPs us).ok)=true;rw[h'.1,c h'.2 h2];rfl
 | .knd k r,us,d,hl=>by
  walk_at "pq";refine⟨a,congrArg (_::·) b,λh h2=>?_⟩;have h':((k.ok&&BF k)&&r.ok)=true:=h;walk_at "pa";show((k.ok&&BF k)&&(r.withPs us).ok)=true;rw[h'.1.1,h'.1.2,c h'.2 h2];rfl
 | .trm t r,u::us,d,hl=>by
  obtain⟨a,b,c⟩:=Km r us (λz=>d (Yd _ z)) (Nat.succ.inj hl);refine⟨congrArg (u::·) a,congrArg (_::·) b,λh h2=>?_⟩;have h':(t.ok&&r.ok)=true:=h;walk_at "pa";show(u.ok&&(r.withPs us).ok)=true;rw[h2 u (.head _),c h'.2 λc hc=>h2 c (.tail _ hc)];rfl
 | .fld f r,us,d,hl=>absurd Ye d
theorem nt{t:Te}(i:t.ok=true)(us:List Te)(h:us.length=t.parts.length)(h2:∀ c∈us,c.ok=true):(t.withPs us).parts=us/\(t.withPs us).ok=true:=by
 cases t with
 | nd w r =>
 obtain⟨h1,g⟩:=CS i;by_cases e:w="rec"
 ·obtain⟨f,rfl⟩:=(Fg h1).1 e;have hl:us.length=(f.terms++[]).length:=h;rw[Yx]at hl;obtain⟨a,b,c⟩:=Xo f us hl;have d:((AY f.names&&f.ok)&&true)=true:=g;simp only[Bool.and_true,YG]at d;refine⟨by show(f.withT us).terms++[]=us;rw[Yx,b],Cw (r:=.fld (f.withT us) .nil) h1 ?_⟩;show((AY (f.withT us).names&&(f.withT us).ok)&&true)=true;rw[a,d.1,c d.2 h2];rfl
 ·obtain⟨a,b,c⟩:=Km r us ((Fg h1).2 e) h;exact⟨a,Cw (r:=r.withPs us) (by rw[b];exact h1) (c g h2)⟩
abbrev nu:Spw:=DW (λ(k:Kd)s ws _=>ws=[.ref s,k.enc]/\KdOk 4 2 k) λ_ _ r _=>∃ t:Te,r=t.enc/\tg t
abbrev J3:GS:=Af (Ao 4 (Ag (CW 4) XF (Aa (Ab 0) (Aa (Ab 1) (Aa H9 (Aa (Ab 3) Ac)))))) (Af (Ao 5 (Ag (NM 22) XF (Aa (Ab 4) Ac))) (gIf (A8 (gTB (Ad (A1 (λi j=>decide (i<=j)) (λa b=>!AW b a)) (Ad (Ae ixW) (Ab 5) (gC (.int 0))) (gC (.int 40)))) (A8 (gTB (Ad (A1 (λi j=>decide (i<=j)) (λa b=>!AW b a)) (Ad (Ae ixW) (Ab 5) (gC (.int 1))) (gC (.int 10)))) (gOr (gTB (Ad (Ae (eqF false)) (Ab 2) (Ah (Aa (gC (.str "num")) (Aa (gC (.int 0)) Ac))))) (gTB (Ad (Be λi j=>decide (j < i)) (Ag CK XF (Aa (Ab 0) (Aa (gC (.int 3)) Ac))) (gC (.int 0))))))) (Ao 2 (Ab 4)) Ak))
theorem Xp(L:KdOk 4 2 k)(j:q≠s):∀(l:List Nat)(t:Te)(o3 o4 c:Option W)(G:Hw),tg t->St s G->G q=some (.lst items)->(∀ m∈l,m<=3)->(∀(t:Te)o3 o4 c d,tg t->Hs s G d->D.nx [some (.ref s),some k.enc,some t.enc,o3,o4,c] d)->Bs (holds q items) (gNm 3) J3 D (l.map λm:Nat=>W.int m) [some (.ref s),some k.enc,some t.enc,o3,o4,c] G
 | [],t,o3,o4,c,G,i,hs,A,_,h=>⟨A,h t o3 o4 c G i (Hs.refl hs)⟩
 | m::l,t,o3,o4,c,G,i,hs,A,K,h=>by
  have H:=K m Ye;refine⟨A,?_⟩;show J3 _ [some (.ref s),some k.enc,some t.enc,some (.int m),o4,c] G;refine AF ?_;simp only[Ag,Ab,H9,Aa,Ac,Yb,Yc];intro z Q;have w:=Hs.new (o:=.dct []) hs Q;refine BB (by lia) H (L.mono (by unfold kb;lia) (by unfold kp;lia)) ⟨[],Aj,(λx N=>by cases N),by rw[Yi];lia⟩ w.1 rfl λu J B g=>?_;have g:=w.trans g
  have U:tb m<=1104/\td m<=22:=by
   have:m=0\/m=1\/m=2\/m=3:=by lia
   rcases this with rfl | rfl | rfl | rfl <;> decide
  refine AF ?_;simp only[Ag,Ab,Aa,Ac,Yb,Yc,Yk,Yl];refine⟨u,⟨rfl,B.1,by have:=B.2.2;lia,by have:=B.2.1;lia⟩,λy P=>?_⟩;have a:=g.put (o:=.lst [.int (u.cnt:Nat),.int (u.dp:Nat)]) P;have f:put J y (.lst [.int (u.cnt:Nat),.int (u.dp:Nat)]) y=some (.lst [.int (u.cnt:Nat),.int (u.dp:Nat)]):=Aj;generalize put J y (.lst [.int (u.cnt:Nat),.int (u.dp:Nat)])=G3 at a f ⊢;have next:∀(v:Te)d,tg v->Hs s G d->Bs (holds q items) (gNm 3) J3 D (l.map λm:Nat=>W.int m) [some (.ref s),some k.enc,some v.enc,some (.int m),some u.enc,some (.ref y)] d:=λv d O e=>Xp L j l v _ _ _ d O e.1 (e.2 q j _ A) (λm F=>K m (Yd _ F)) λt o3 o4 c E h1 h2=>h t o3 o4 c E h1 (e.trans h2)
  simp only[gIf,A8,gOr,gTB,Ad,A1,Ae,Ab,gC,Ah,Aa,Ac,Yb,Yc,Yk,Yl,ix0 f,ix1 f,An];refine B1 (λh1=>?_) (λ_=>?_)
  ·refine B1 (λh2=>?_) (λ_=>?_)
   ·have T:(u.cnt:Int)<=40:=of_decide_eq_true h1;have R:(u.dp:Int)<=10:=of_decide_eq_true h2;have n:tg u:=⟨B.1,by lia,by lia⟩;refine⟨by decide,Fv (Oh i) (Oh (t:=.nd "num" (.num 0 .nil)) ⟨by decide +kernel,by decide,by decide⟩) λb=>?_⟩;refine B1 (λ_=>?_) (λ_=>?_)
    ·exact next u G3 n a
    ·simp only[Ag,Ab,gC,Aa,Ac,Yb];refine BQ (by decide) (by decide) a.1 λr I S r1 p=>?_;refine B1 (λ_=>?_) (λ_=>?_)
     ·exact next u I n (a.trans p)
     ·exact next t I i (a.trans p)
   ·exact next t G3 i a
  ·exact next t G3 i a
theorem J4(T:Tx K mg base a):Df P w K mg base "_law_drawn" 25 2 nu:=by
 refine mk0 (k:=24) T.jn rfl VQ CL (λg G Q E⟨k,s,⟨e,_⟩,_⟩=>by rw[e];rfl) (l6 T (BP T 4) (by lia) (EB T 22) (by lia) (AS T) (by lia)) λg G Q E j q=>?_;obtain⟨k,s,⟨rfl,f⟩,hs,q⟩:=q;unfold VR;show Af (Ao 2 _) _ (Au Q) [some (.ref s),some k.enc,none,none,none,none] G;refine AF ?_;simp only[Ah,gC,Aa,Ac];refine⟨by decide,?_⟩;show Af (AT _ _ J3) _ _ _ _;simp only[Af,AT,Ax,Aq,gC,Aa,Ac,Yk,Yl];refine⟨by decide,λz b=>?_⟩;simp only[Aj];refine Xp f (Hs.ne hs b) [1,2,2,3,3] (.nd "num" (.num 0 .nil)) none none none _ ⟨by decide +kernel,by decide,by decide⟩ (hs.put b) Aj (by decide) λt m h i l c d=>?_;simp only[Ai,Ab,Yb,Yc];exact q _ _ ⟨t,rfl,c⟩ ((Hs.new hs b).trans d)
abbrev Xq:List Str:=["e","flags"]
theorem Xr:AB Xq ["e"] (Ap Iy):=by walk_at "s"
def Xs(K:PySem.W.Frag)(a:Adr):GS:=(Af (Ao 1 (Aq (Aa (CF K (.ref a.NoKind) (Ab 0)) (Aa (CF K (.ref a.NoTerm) (Ab 0)) (Aa (CF K (.ref a.BadUse) (Ab 0)) (Aa (CF K (.ref a.NoValue) (Ab 0)) Ac)))))) (Ai (Ad (A2) (Ab 1) (Aq (Aa (CF K (.ref a.NoNumber) (Ab 0)) (Aa (CF K (.ref a.BadNote) (Ab 0)) (Aa (CF K (.type "ValueError") (Ab 0)) Ac)))))))
theorem nv{k:Nat}(T:Tx K mg base a){E:XK}:Ssm (cxN P w K mg base Xq "_law_which" (Ap Iy) f cdv A outer s H) (λB=>B=H) (Bv Iy) (Xs K a):=
 (Az (FV (i:=1) Xr.nd rfl rfl rfl (HK (AH rfl (FT T.SA T.CG rfl rfl rfl rfl rfl (by walk_at "v")) (AH rfl (FT T.MR T.CG rfl rfl rfl rfl rfl (by walk_at "v")) (AH rfl (FT T.SC T.CG rfl rfl rfl rfl rfl (by walk_at "v")) (AH rfl (FT T.SD T.CG rfl rfl rfl rfl rfl (by walk_at "v")) A5)))))) (AG (Ba (E6 (by walk_at "v") (HK (AH rfl (FT T.SE T.CG rfl rfl rfl rfl rfl (by walk_at "v")) (AH rfl (FT T.SF T.CG rfl rfl rfl rfl rfl (by walk_at "v")) (AH rfl (eW fe T.jN T.CG rfl rfl (by decide) rfl rfl rfl (by walk_at "v")) A5))))))))
abbrev Xu:List Str:=["way","one","other"]
theorem Xv:AB Xu ["way","one","other"] (Ap G0):=by walk_at "s"
def Oi(J5:Spw)(J6:Spw)(J7:Spw)(Hv:Spw)(E:Addr->Hw->Prop):GS:=(gIf (gTB (Ad (Ae (eqF false)) (Ab 0) (gC (.int 0)))) (AC (Ag J5 (λ_=>E) (Aa (Ab 1) Ac))) (gIf (gTB (Ad (Ae (eqF false)) (Ab 0) (gC (.int 1)))) (AC (Ag J6 (λ_=>E) (Aa (Ab 1) Ac))) (gIf (gTB (Ad (Ae (eqF false)) (Ab 0) (gC (.int 2)))) (AC (Ag J7 (λ_=>E) (Aa (Ab 1) Ac))) (gIf (gTB (Ad (Ae (eqF false)) (Ab 0) (gC (.int 3)))) (AC (Ag Hv (λ_=>E) (Aa (Ab 1) (Aa (Ab 2) Ac)))) (AC (Ag Hv (λ_=>E) (Aa (Ab 2) (Aa (Ab 1) Ac))))))))
theorem nw(T:Tx K mg base a)(ny:Df P w K mg base "forgettings" J8 1 J5)(nz:J8<=k)(nA:Df P w K mg base "forgotten" J9 1 J6)(nB:J9<=k)(nC:Df P w K mg base "kinds_told" Ka 1 J7)(nD:Ka<=k)(Xx:Df P w K mg base "less_term" Kb 2 Hv)(Xy:Kb<=k)(hr:Room k (A.deeper (envOfC "_law_asked" (Ap G0) s.heap.objs.size f cdv))):Ssm (cxW P w K mg base Xu "_law_asked" (Ap G0) f cdv A outer s H E) (λB=>B=H) (Bv G0) (Oi J5 J6 J7 Hv (dnX K H E)):=
 have hu:=AQ hr
 have hN:=Xv.nd
 (AG (Cb (by walk_at "v") (AG (BZ rfl (Bp ny (hr.mono nz) rfl BV rfl rfl rfl (by walk_at "v")))) (AG (Cb (by walk_at "v") (AG (BZ rfl (Bp nA (hr.mono nB) rfl BV rfl rfl rfl (by walk_at "v")))) (AG (Cb (by walk_at "v") (AG (BZ rfl (Bp nC (hr.mono nD) rfl BV rfl rfl rfl (by walk_at "v")))) (AG (Cb (by walk_at "v") (AG (BZ rfl (Bp Xx (hr.mono Xy) rfl BV rfl rfl rfl (by walk_at "v")))) (AG (BZ rfl (Bp Xx (hr.mono Xy) rfl BV rfl rfl rfl (by walk_at "v"))))))))))))
abbrev Xz:List Str:=["way","one","other","flags","e"]
theorem Kc:AB Xz ["way","one","other"] (Ap MO):=by walk_at "s"
def XA(K:PySem.W.Frag)(a:Adr)(Ke:Spw)(Kf:Spw):GS:=(Af (Ao 3 (Aq Ac)) (Af (Lv K a.CastError 4 (λex=>(AC (Ag Ke ex (Aa (Ab 0) (Aa (Ab 1) (Aa (Ab 2) Ac)))))) (Ao 3 (Ag Kf XF (Aa (Ab 4) Ac)))) (Ai (Ab 3))))
theorem nE(T:Tx K mg base a)(nF:Df P w K mg base "_law_asked" Kg 3 Ke)(nG:Kg<=k)(nH:DfN P w K mg base "_law_which" Kh 1 Kf)(nI:Kh<=k):Dn P w K mg base Xz "_law_flags" MO k (XA K a Ke Kf):=λ{f cdv A outer s H E}hr=>
 have hu:=AQ hr
 have hN:=Kc.nd
 (Az (by walk_at "v") (Az (eL (i:=4) T.Sz T.SH T.SI T.SJ Kc.nd rfl rfl rfl rfl rfl rfl rfl (λex pn xe hp=>(AG (BZ rfl (Bp nF (hr.mono nG) rfl hp rfl rfl rfl (by walk_at "v"))))) (λe=>(AG (FV (i:=3) Kc.nd rfl rfl rfl (eM nH (fi hr nI) rfl rfl rfl rfl (by walk_at "v")))))) (by walk_at "v")))
abbrev XB:List Str:=["script","state","term","some","bad","free","way"]
theorem XD:AB XB ["script"] (Ap F4):=by walk_at "s"
def XE(Ki:Spw)(Bj:Spw)(Kj:Spw)(AE:Spw)(Gb:Spw):GS:=(Af (Ao 1 (Ag Ki XF (Aa (Ab 0) (Aa (gC (.int 0)) Ac)))) (Af (Ao 2 (Ag Kj XF (Aa (Ab 1) (Aa (Ag Bj XF (Aa (Ab 1) (Aa (gC (.int 1)) Ac))) Ac)))) (Af (Ao 3 (Aq (Aa (Ah (Aa (gC (.str "num")) (Aa (gC (.bl true)) Ac))) (Aa (Ah (Aa (gC (.str "truth")) (Aa (gC (.int 1)) Ac))) (Aa (Ah (Aa (gC (.str "name")) (Aa (gC (.str "X")) Ac))) (Aa (Ah (Aa (gC (.str "fun")) (Aa (gC (.str "x")) (Aa (Ah (Aa (gC (.str "no")) Ac)) (Aa (Ah (Aa (gC (.str "num")) (Aa (gC (.int 1)) Ac))) Ac))))) (Aa (Ah (Aa (gC (.str "as")) (Aa (Ah (Aa (gC (.str "num")) (Aa (gC (.int 1)) Ac))) (Aa (Ah (Aa (gC (.str "to")) Ac)) Ac)))) Ac))))))) (Af (Ao 3 (Ad (A2) (Ab 3) (Aq (Aa (Ah (Aa (gC (.str "rec")) (Aa (Ah (Aa (Ah (Aa (gC (.str "b")) (Aa (Ah (Aa (gC (.str "num")) (Aa (gC (.int 1)) Ac))) Ac))) (Aa (Ah (Aa (gC (.str "a")) (Aa (Ah (Aa (gC (.str "num")) (Aa (gC (.int 1)) Ac))) Ac))) Ac))) Ac))) (Aa (Ah (Aa (gC (.str "plus")) (Aa (Ah (Aa (gC (.str "num")) (Aa (gC (.int 1)) Ac))) Ac))) (Aa (Ah (Aa (gC (.str "get")) (Aa (Ah (Aa (gC (.str "num")) (Aa (gC (.int 1)) Ac))) (Aa (gC (.str "")) Ac)))) Ac)))))) (Af (Ao 4 (Ad (Ae ixW) (Ab 3) (Ag AE XF (Aa (Ab 1) (Aa (gC (.int 8)) Ac))))) (Af (Ao 4 (Ad (Ae ixW) (Aq (Aa (Ab 4) (Aa (Ah (Aa (gC (.str "new")) (Aa (Ab 4) Ac))) (Aa (Ah (Aa (gC (.str "rec")) (Aa (Ah (Aa (Ah (Aa (gC (.str "a")) (Aa (Ab 4) Ac))) Ac)) Ac))) (Aa (Ah (Aa (gC (.str "call")) (Aa (Ah (Aa (gC (.str "num")) (Aa (gC (.int 1)) Ac))) (Aa (Ab 4) Ac)))) Ac))))) (Ag AE XF (Aa (Ab 1) (Aa (gC (.int 4)) Ac))))) (Af (Ao 5 (Ad (Ae ixW) (Aq (Aa (Ah (Aa (gC (.str "name")) (Aa (gC (.str "x")) Ac))) (Aa (Ah (Aa (gC (.str "call")) (Aa (Ah (Aa (gC (.str "num")) (Aa (gC (.int 1)) Ac))) (Aa (Ah (Aa (gC (.str "num")) (Aa (gC (.int 1)) Ac))) Ac)))) (Aa (Ah (Aa (gC (.str "get")) (Aa (Ah (Aa (gC (.str "truth")) (Aa (gC (.bl true)) Ac))) (Aa (gC (.str "a")) Ac)))) Ac)))) (Ag AE XF (Aa (Ab 1) (Aa (gC (.int 3)) Ac))))) (Af (AT (Eb (Aa (gC (.int 5)) Ac)) (gNm 6) (Af (gIf (gTB (Ad (Ae (eqF true)) (Ag Gb XF (Aa (Ab 6) (Aa (Ab 4) (Aa (Ab 2) Ac)))) (Aq (Aa (gC (.bl false)) (Aa (gC (.bl true)) (Aa (gC (.bl false)) (Aa (gC (.bl false)) (Aa (gC (.bl false)) (Aa (gC (.bl false)) (Aa (gC (.bl true)) Ac)))))))))) (Ai (gC (.bl false))) Ak) (gIf (gOr (gTB (Ad (Ae (eqF true)) (Ag Gb XF (Aa (Ab 6) (Aa (Ab 2) (Aa (Ab 2) Ac)))) (Aq Ac))) (gTB (Ad (Ae (eqF true)) (Ag Gb XF (Aa (Ab 6) (Aa (Ab 5) (Aa (Ab 2) Ac)))) (Aq Ac)))) (Ai (gC (.bl false))) Ak))) (Ai (gC (.bl true)))))))))))
theorem nJ(T:Tx K mg base a){JC:Nat}(oS:Df P w K mg base "_law_state" JC 2 Ki)(oU:JC<=k){B7:Nat}(NS:Df P w K mg base "_law_kind" B7 2 Bj)(NT:B7<=k){J4:Nat}(oV:Df P w K mg base "_law_drawn" J4 2 Kj)(oW:J4<=k){AS:Nat}(EC:Df P w K mg base "_law_take" AS 2 AE)(ED:AS<=k)(oX:Df P w K mg base "_law_flags" Kk 3 Gb)(oY:Kk<=k)(hr:Room k (A.deeper (envOfC "law" (Ap F4) s.heap.objs.size f cdv))):Ssm (cxW P w K mg base XB "law" (Ap F4) f cdv A outer s H E).nox (λB=>B=H) (Bv F4) (XE Ki Bj Kj AE Gb):=
 have hu:=AQ hr
 have hN:=XD.nd
 (by walk_at "v")
abbrev Oj(n:Nat):Spw:=λws G Q _=>∃ t:Te,ws=[t.enc]/\(t.ok=true/\t.dp<=n/\t.cnt<=40)/\∀ u G',TmB t.cnt t.dp u->Sub G G'->Q u.enc G'
theorem XG:Spw.M (Oj n):=(by rintro e G Q d E f h _ ⟨t,h1,h2,q⟩;exact⟨t,h1,h2,λu a b c=>h _ _ (q u a b c)⟩)
def TLs:List Te->List Te->Prop
 | [],[]=>True
 | t::ts,u::us=>TmB t.cnt t.dp u/\TLs ts us
 | _,_=>False
theorem TLs.ok:∀{ts us:List Te},TLs ts us->us.length=ts.length/\(∀ u∈us,u.ok=true)/\AK us<=AK ts/\tdp us<=tdp ts
 | [],[],_=>⟨rfl,(λu f=>by cases f),Yr _,Yr _⟩
 | t::ts,u::us,⟨⟨h1,h2,g⟩,h⟩=>by
  obtain⟨a,b,c,d⟩:=TLs.ok h;refine⟨congrArg (·+1) a,λv e=>?_,by show u.cnt+AK us<=t.cnt+AK ts;lia,by show max u.dp (tdp us)<=max t.dp (tdp ts);lia⟩;rcases Yo.mp e with rfl | e
  ·exact h1
  ·exact b v e
theorem TLs.snoc(h:TmB t.cnt t.dp u):∀{ts us:List Te},TLs ts us->TLs (ts++[t]) (us++[u])
 | [],[],_=>⟨h,trivial⟩
 | _::ts,_::us,⟨h1,h2⟩=>⟨h1,TLs.snoc h h2⟩
theorem XH:∀(l done us:List Te)(o:Option W)(G:Hw),(∀ t∈l,t.ok=true/\t.dp<=n/\t.cnt<=40)->us.length+l.length<=1000->G q=some (.lst items)->TLs done us->(∀ a d,Sub G d->TLs (done++l) a->R (a.map Te.enc) d)->
  AN (holds q items) (gNm 0) Ay (Ag (Oj n) XF (Aa (Ab 0) Ac)) R (l.map Te.enc) [o] G (us.map Te.enc)
 | [],done,us,o,G,_,_,c,b,r=>⟨c,r us G Sub.refl (by rw[Yx];exact b)⟩
 | t::l,done,us,o,G,b,hl,c,hd,r=>by
  walk_at "pv";refine⟨c,by rw[Yh];exact Bq (by lia),?_⟩;simp only[gNm,Ay,if_true,Yk,Ag,Aa,Ac,Ab,Yb];refine⟨t,rfl,b t Ye,λu g j e=>?_⟩;have z:=XH (R:=R) l (done++[t]) (us++[u]) (some t.enc) g (λv i=>b v (Yd _ i)) (by rw[Yj];simp only[Yg,Yi];lia) (e _ _ c) (TLs.snoc j hd) λa d f h=>r a d (e.trans f) (by rw[Yv]at h;exact h);rw[Yy]at z;exact z
theorem nK{u:Te}(h:u.ok=true):(u.withKd .any).ok=true/\(u.withKd .any).parts=u.parts:=by
 cases u with
 | nd w r =>
  obtain⟨h1,h2⟩:=CS h;obtain⟨a,b,c⟩:=Fz .any r;exact⟨Cw (r:=r.withKd .any) (by rw[b];exact h1) (c h2 rfl rfl),a⟩
theorem CU(T:Tx K mg base a):∀ n:Nat,Df P w K mg base "without_kinds" (n+3) 1 (Oj n)
 | 0=>Dq T.Sk XG λo G Q E⟨k,_,⟨_,hd,_⟩,_⟩=>by have:=Ja k;lia
 | n+1=>by
  refine mk0 (k:=n+3) T.Sk rfl Nu XG (λo G Q E⟨x,e,_⟩=>by rw[e];rfl) (lM T (Cf T) (by lia) (CU T n) (Yr _) (Ex T) (by lia) (Et T) (by lia)) λo G Q E z q=>?_;obtain⟨t,rfl,⟨f,hd,hc⟩,q⟩:=q;have F:=Da t;have D:=Ek t;have y:=Jb t.parts;unfold Vi;show Af (Ao 1 _) _ (Au Q) [some t.enc,none] G;refine AF ?_;simp only[Ag,AI,Ax,Aa,Ac,Ab,Yb,List.replicate];refine⟨t,⟨rfl,f,by lia⟩,λp s=>?_⟩;simp only[Aj];refine XH (n:=n) t.parts [] [] none _ (λc b=>⟨En f c b,by have:=Hh b;lia,by have:=Jc b;lia⟩) (by simp only[Yi];lia) Aj trivial λd H u i p1 g=>?_;rw[Yw]at i;obtain⟨l,r,A,B⟩:=i.ok;refine⟨t,p1,d,rfl,Aj,l,f,by lia,?_⟩;obtain⟨j,h⟩:=nt f d l r;obtain⟨v,m⟩:=nK h;simp only[Yk,Yl,Ai,Ag,Ah,Aa,Ac,Ab,gC,Yb,Yc];refine⟨by decide,(t.withPs d,.any),⟨rfl,h⟩,?_⟩;refine q ((t.withPs d).withKd .any) _ ⟨v,?_,?_⟩ (Bh ((AD s).trans u) g)
  ·rw[Da,m,j];lia
  ·rw[Ek,m,j];lia
def ask1(w:W)(A B:Prop):Prop:=((∃ t:Te,w=t.enc/\tg t)/\A)\/(Jh w/\B)
theorem ask1.imp{w:W}{A B b a:Prop}(h:A->b)(h':B->a)(q:ask1 w A B):ask1 w b a:=q.elim (λz=>.inl ⟨z.1,h z.2⟩) (λz=>.inr ⟨z.1,h' z.2⟩)
theorem Hx{w:W}(q:ask1 w (Q .non G) (E C G)):Ny C [w] G Q E:=by
 rcases q with⟨⟨t,rfl,a⟩,q⟩|⟨h,q⟩
 ·exact .inl ⟨t,rfl,a,q⟩
 ·exact .inr ⟨w,rfl,h,q⟩
def Gc(C:Addr):Spw:=λws G Q E=>∃ w,ws=[w]/\ask1 w (∀ r G',Sub G G'->Q r G') (E C G)
theorem Ol:Spw.M (Gc C):=(by rintro d G Q b E c h h' ⟨w,e,q⟩;exact⟨w,e,q.imp (λz r a s=>h _ _ (z r a s)) (h' _ _)⟩)
theorem On:∀ a G Q E,Gc C a G Q E->a.length=1:=λa G Q E⟨w,e,_⟩=>by rw[e];rfl
theorem J8(T:Tx K mg base a):Df P w K mg base "forgettings" 22 1 (Gc a.NoTerm):=by
 refine mkX (k:=21) T.i5 rfl Ve Ol On (g:=λE=>Nr _ _ E) (lK T (B6 T) (by lia) (Eu T 10) (by lia)) λe G Q E c d q=>?_;obtain⟨w,rfl,q⟩:=q;unfold Nr;walk_at "rd";refine Hx ?_;rcases q with⟨⟨t,rfl,h⟩,q⟩|⟨h,q⟩
 ·exact .inl ⟨⟨t,rfl,h⟩,t,⟨rfl,h.1,h.2.2,h.2.1⟩,λp b=>q _ _ (AD b)⟩
 ·exact .inr ⟨h,q⟩
theorem J9(T:Tx K mg base a):Df P w K mg base "forgotten" 14 1 (Gc a.NoTerm):=by
 refine mkX (k:=13) T.i7 rfl Vk Ol On (g:=λE=>Nv _ _ E) (lN T (B6 T) (by lia) (CU T 10) (by lia)) λe G Q E b d q=>?_;obtain⟨w,rfl,q⟩:=q;unfold Nv;walk_at "rd";refine Hx ?_;rcases q with⟨⟨t,rfl,h⟩,q⟩|⟨h,q⟩
 ·exact .inl ⟨⟨t,rfl,h⟩,t,rfl,⟨h.1,h.2.2,h.2.1⟩,λu c _ s=>q _ _ s⟩
 ·exact .inr ⟨h,q⟩
theorem Ka(T:Tx K mg base a):Df P w K mg base "kinds_told" 14 1 (Gc a.NoTerm):=by
 refine mkX (k:=13) T.i6 rfl Vg Ol On (g:=λE=>Nt _ _ _ E) (lL T (B6 T) (by lia) (CT T 10) (by lia) (Ei T 8) (by lia)) λy G Q E u x q=>?_;obtain⟨w,rfl,q⟩:=q;unfold Nt;simp only[Af,AC,Ai,gB,AI,Ax,Ag,Aa,Ac,Ab,Bo,Yb,Au,List.replicate,Ym,YI,List.cons_append,Yw];refine Hx ?_;rcases q with⟨⟨t,rfl,h⟩,q⟩|⟨h,q⟩
 ·refine .inl ⟨⟨t,rfl,h⟩,?_⟩;have i:=Jt 10 h.1;have hl:=Jl 10 t h.1;have hc:=h.2.1;have hs:=lX λk b=>Yt (i k b).1 (show 31<=40 by decide);refine⟨t,⟨rfl,h.1,h.2.2,by lia⟩,λp l=>?_⟩;simp only[Aj];refine Jo (enc:=Kd.enc) (f:=λk=>.int (k.cnt:Nat)) (cst:=[]) (Bi 10 t) none [] _ (λm j=>j _ _ Aj) (λk b m s j o=>?_) (by exact A9 (by simp only[Yi];lia)) λv s' p1 d=>?_
  ·simp only[gB,Ag,rF,Aa,Ac,Ab,Yb];refine⟨k,⟨rfl,(i k b).2,by have:=(i k b).1;lia⟩,λr n=>?_⟩;simp only[Bf,RV Aj,An];rw[Yh,Mc];exact o _ (AD n)
  ·rw[Yw];have e:((Bi 10 t).map λk=>W.int (k.cnt:Nat))=((Bi 10 t).map Kd.cnt).map λc:Nat=>W.int (c:Int):=by rw[YB];rfl
   rw[e];refine VI (by lia) Aj ?_;exact q _ _ (Bh ((AD l).trans s') d)
 ·exact .inr ⟨h,q⟩
def Oo(C:Addr):Spw:=λws G Q E=>∃ w v,ws=[w,v]/\ask1 w (ask1 v (∀ r G',Sub G G'->Q r G') (E C G)) (E C G)
theorem nL:Spw.M (Oo C):=(by rintro d G Q b E c h h' ⟨w,v,e,q⟩;exact⟨w,v,e,q.imp (λz=>z.imp (λz r a s=>h _ _ (z r a s)) (h' _ _)) (h' _ _)⟩)
theorem nM:∀ a G Q E,Oo C a G Q E->a.length=2:=λa G Q E⟨w,v,e,_⟩=>by rw[e];rfl
theorem XI(h:tg t)(a:TmB t.cnt t.dp u):PT u.enc:=Oh ⟨a.1,Yt a.2.1 h.2.1,Yt a.2.2 h.2.2⟩
theorem Kb(T:Tx K mg base a):Df P w K mg base "less_term" 27 2 (Oo a.NoTerm):=by
 refine mkX (k:=26) T.i8 rfl Vm nL nM (g:=λE=>Nw _ _ _ _ E) (lO T (B6 T) (by lia) (CU T 10) (by lia) (CT T 10) (by lia) (Dc T 8) (by lia)) λS G Q E I U q=>?_;obtain⟨w,v,rfl,q⟩:=q;unfold Nw;show Af (AC _) _ (Au Q) [some w,some v] G;simp only[Af,AC,Ag,Aa,Ac,Ab,Yb,Yc];refine Hx ?_;rcases q with⟨⟨t,rfl,h1⟩,q⟩|⟨h,q⟩;rotate_left
 ·exact .inr ⟨h,q⟩
 refine .inl ⟨⟨t,rfl,h1⟩,Hx ?_⟩;rcases q with⟨⟨u,rfl,h2⟩,q⟩|⟨h,q⟩;rotate_left
 ·exact .inr ⟨h,q⟩
 refine .inl ⟨⟨u,rfl,h2⟩,?_⟩;have m:t.ok=true/\t.dp<=10/\t.cnt<=40:=⟨h1.1,h1.2.2,h1.2.1⟩;have r:u.ok=true/\u.dp<=10/\u.cnt<=40:=⟨h2.1,h2.2.2,h2.2.1⟩;simp only[gIf,gTB,Ad,Ag,Aa,Ac,Ab,Yb,Yc];refine⟨t,rfl,m,λt' O f F=>⟨u,rfl,r,λJ n j e=>Fv (XI h1 f) (XI h2 j) λb=>?_⟩⟩;have e:=F.trans e;refine B1 (λ_=>q _ _ e) (λ_=>?_);have g1:=Jt 10 h1.1;have g2:=Jt 10 h2.1;have N:=Jl 10 t h1.1;have R:=h1.2.1;simp only[Ak,Ai,gB,rF,AI,C7,Ag,Aa,Ac,Ab,Yb,Yc,List.replicate];refine⟨t,⟨rfl,h1.1,h1.2.2,by lia⟩,λp D=>⟨u,⟨rfl,h2.1,h2.2.2,by have:=h2.2.1;lia⟩,λc d=>?_⟩⟩;have n1:p≠c:=AJ Aj d;have r1:rdL (put (put n p (.lst ((Bi 10 t).map Kd.enc))) c (.lst ((Bi 10 u).map Kd.enc))) (.ref p)=some ((Bi 10 t).map Kd.enc):=Cr (by rw[Av n1];exact Aj);have l:rdL (put (put n p (.lst ((Bi 10 t).map Kd.enc))) c (.lst ((Bi 10 u).map Kd.enc))) (.ref c)=some ((Bi 10 u).map Kd.enc):=Cr Aj;have y:=Bh (o:=.lst ((Bi 10 u).map Kd.enc)) (Bh (o:=.lst ((Bi 10 t).map Kd.enc)) e D) d;generalize put (put n p (.lst ((Bi 10 t).map Kd.enc))) c (.lst ((Bi 10 u).map Kd.enc))=G3 at r1 l y ⊢;simp only[r1,l];rw[Ig,List.zip_map,YB];refine Oe (e1:=λx:Kd×Kd=>x.1.enc) (e2:=λx=>x.2.enc) ⟨r1,l⟩ ((Bi 10 t).zip (Bi 10 u)) none none [] (λx A L B=>?_) (by have:=List.length_zip (l₁:=Bi 10 t) (l₂:=Bi 10 u);simp only[Yi];lia) λbs p2 i=>?_
 ·have z:=List.of_mem_zip (a:=x.1) (b:=x.2) A;have s:=g1 _ z.1;have H:=g2 _ z.2;exact⟨x,⟨rfl,s.1,H.1,s.2⟩,B⟩
 ·rw[Of,An];exact q _ _ (Bh y i)
theorem Kl(h:ω[n]?=some (some (.int i)))(q:if i=j then x D ω G else y D ω G):gIf (gTB (Ad (Ae (eqF false)) (Ab n) (gC (.int j)))) x y D ω G:=by
 simp only[gIf,gTB,Ad,Ae,Ab,h,gC,Br,An];by_cases z:i=j
 ·rw[if_pos z]at q;rw[show(i==j)=true by simp[z]];exact q
 ·rw[if_neg z]at q;rw[show(i==j)=false by simpa using z];exact q
def gdT(v:W):Prop:=∃ u:Te,v=u.enc/\tg u
def Oq(C:Addr):Spw:=λws G Q E=>∃(i:Int)(w v:W),ws=[.int i,w,v]/\gdT v/\ask1 w (∀ G',Sub G G'->Q .non G') (E C G)
theorem nN:Spw.M (Oq C):=(by rintro d G Q c E f h h' ⟨i,w,v,e,b,q⟩;exact⟨i,w,v,e,b,q.imp (λz a s=>h _ _ (z a s)) (h' _ _)⟩)
theorem nO:∀ a G Q E,Oq C a G Q E->a.length=3:=λa G Q E⟨i,w,v,e,_⟩=>by rw[e];rfl
theorem Kg(T:Tx K mg base a):Df P w K mg base "_law_asked" 28 3 (Oq a.NoTerm):=by
 refine mkX (k:=27) T.jC rfl Xv nN nO (g:=λE=>Oi _ _ _ _ E) (nw T (J8 T) (by lia) (J9 T) (by lia) (Ka T) (by lia) (Kb T) (by lia)) λe G Q E d f q=>?_;obtain⟨i,w,v,rfl,c,q⟩:=q;unfold Oi;show gIf _ _ _ (Au Q) [some (.int i),some w,some v] G;have one:Gc a.NoTerm [w] G (λ_ b=>Q .non b) E:=⟨w,rfl,q.imp (λz r b s=>z b s) id⟩;refine Kl (n:=0) rfl (B1 (λ_=>one) (λ_=>?_));refine Kl (n:=0) rfl (B1 (λ_=>one) (λ_=>?_));refine Kl (n:=0) rfl (B1 (λ_=>one) (λ_=>?_));refine Kl (n:=0) rfl (B1 (λ_=>?_) (λ_=>?_))
 ·exact⟨w,v,rfl,q.imp (λz=>.inl ⟨c,λr b s=>z b s⟩) id⟩
 ·exact⟨v,w,rfl,.inl ⟨c,q.imp (λz r b s=>z b s) id⟩⟩
abbrev due:List W:=[.bl false,.bl true,.bl false,.bl false,.bl false,.bl false,.bl true]
def XJ(a:Adr):Spw:=λws G Q _=>∃ e,ws=[.ref e]/\G e=some (.exc a.NoTerm)/\∀ p,G p=none->Q (.ref p) (put G p (.lst due))
theorem nP:Spw.M (XJ a):=λf G Q c E d h _⟨e,h1,h2,q⟩=>⟨e,h1,h2,λp b=>h _ _ (q p b)⟩
theorem FA(d:G e=some (.exc C))(hω:ω[0]?=some (some (.ref e)))(c:E3 K C)(a:PySem.W.kitOne K (.ref C) cv=some b)(q:Q (.bl b) G):CF K cv (Ab 0) ω G Q:=by
 unfold CF Ab;rw[hω];dsimp only;rw[d];exact⟨b,c,a,q⟩
theorem Kh(T:Tx K mg base a):DfN P w K mg base "_law_which" 1 1 (XJ a):=by
 refine mkN T.jA rfl Xr nP (λo G Q E⟨e,h,_⟩=>by rw[h];rfl) (nv (k:=0) (E:=λ_ _ _=>True) T) λo G Q E j q=>?_;obtain⟨e,rfl,d,q⟩:=q;have b:=T.SX;unfold Xs;show Af _ _ (Au Q) [some (.ref e),none] G;simp only[Af,Ao,Aq,Aa,Ac,Ai,Au];refine FA d rfl b T.SY (FA d rfl b T.S0 (FA d rfl b T.S1 (FA d rfl b T.S2 ?_)));refine⟨(Qzz 4),λp i=>?_⟩;have ne:e≠p:=AJ d i;have c:put G p (.lst [.bl false,.bl true,.bl false,.bl false]) e=some (.exc a.NoTerm):=by rw[Av ne];exact d
 simp only[Ad,Ab,Aq,Aa,Ac,Yb,Yc,Yk,Yl];refine FA c rfl b T.S3 (FA c rfl b T.S4 (FA c rfl b T.S5 ?_));refine⟨by decide,λp2 f=>?_⟩;have l:p≠p2:=AJ Aj f;rw[FX (λz=>by obtain⟨⟨u,n⟩,_⟩:=z;cases n)];unfold Bk;have m:put (put G p (.lst [.bl false,.bl true,.bl false,.bl false])) p2 (.lst [.bl false,.bl false,.bl true]) p=some (.lst [.bl false,.bl true,.bl false,.bl false]):=by rw[Av l];exact Aj
 simp only[m,Aj];refine⟨(Qzz 7),λp3 g=>?_⟩;exact j _ _ _ (Sub.put2 (Bh (AD i) f)) (q p3 (Vs (Vs g)))
def Gd:Spw:=λws G Q _=>∃(i:Int)(w v:W),ws=[.int i,w,v]/\gdT v/\ask1 w (∀ p G',Sub G G'->G' p=some (.lst [])->Q (.ref p) G') (∀ p G',Sub G G'->G' p=some (.lst due)->Q (.ref p) G')
theorem nQ:Spw.M Gd:=(by rintro f G Q d E g h h' ⟨i,w,v,e,c,q⟩;exact⟨i,w,v,e,c,q.imp (λz p a s b=>h _ _ (z p a s b)) (λz p a s b=>h _ _ (z p a s b))⟩)
theorem Kk(T:Tx K mg base a):Df P w K mg base "_law_flags" 29 3 Gd:=by
 refine mk0 (k:=28) T.jI rfl Kc nQ (λm G Q E⟨i,d,c,e,_⟩=>by rw[e];rfl) (nE T (Kg T) (by lia) (Kh T) (by lia)) λm G Q E n q=>?_;obtain⟨i,d,c,rfl,l,q⟩:=q;unfold XA;show Af (Ao 3 (Aq _)) (Af (Lv _ _ _ _ _) (Ai _)) (Au Q) [some (.int i),some d,some c,none,none] G;simp only[Af,Ao,Aq,Ac,Yk,Yl];refine⟨by decide,λf b=>?_⟩;refine⟨_,⟨λ_ _ z=>z,λ_ _ z=>z,λ_ _ z=>z,λ_ _ z=>z⟩,?_⟩;simp only[QF,Ao,AC,Ag,Aa,Ac,Ab,Yb,Yc,Yk,Yl];refine⟨i,d,c,rfl,l,q.imp (λz g s=>?_) (λz=>?_)⟩
 ·exact z f g ((AD b).trans s) (s _ _ Aj)
 ·refine⟨T.SW,λe j=>?_⟩;refine⟨e,rfl,Aj,λp h=>?_⟩;simp only[Lu,Ai,Ab,Au,Yb,Yc,Yk,Yl];exact z p _ (Bh (Bh (AD b) j) h) Aj
abbrev BM:List W:=[.tup [.str "num",.bl true],.tup [.str "truth",.int 1],.tup [.str "name",.str "X"],.tup [.str "fun",.str "x",.tup [.str "no"],n1],.tup [.str "as",n1,.tup [.str "to"]],.tup [.str "rec",.tup [.tup [.str "b",n1],.tup [.str "a",n1]]],.tup [.str "plus",n1],.tup [.str "get",n1,.str ""]]
theorem FC{w:Str}(l:List (W×Str×Bool))(h:KTD.datumAt w AR=some ss)(hs:ss=l.map (·.2.1))(a:∀ x∈l,Os x.1 x.2.1 x.2.2)(b:l.all (·.2.2)=false)(hl:l.length<=10):isB (.tup (.str w::l.map (·.1))):=⟨w,_,rfl,⟨ss,h,.inr ⟨l,rfl,hs,a,b.symm⟩⟩,by rw[Yh];exact hl⟩
theorem XM(h:x.length<=8)(h':AA x=false):Os (.str x) "name" false:=by have:=Os.nam x h;rw[h']at this;exact this
theorem nR:∀ x∈BM,isB x:=by
 intro x b;simp only[BM,Yo,Qc,or_false]at b
 have two:∀{x y:W×Str×Bool},Os x.1 x.2.1 x.2.2->Os y.1 y.2.1 y.2.2->∀ z∈[x,y],Os z.1 z.2.1 z.2.2:=λh h' z a=>by
  simp only[Yo,Qc,or_false]at a;rcases a with rfl | rfl
  ·exact h
  ·exact h'
 have one:∀{x:W×Str×Bool},Os x.1 x.2.1 x.2.2->∀ z∈[x],Os z.1 z.2.1 z.2.2:=λh z a=>by rw[YA.mp a];exact h
 rcases b with rfl | rfl | rfl | rfl | rfl | rfl | rfl | rfl
 ·exact FC (ss:=["number"]) [(.bl true,"number",false)] (by decide +kernel) rfl (one (.numB true)) rfl (by decide)
 ·exact FC (ss:=["truth"]) [(.int 1,"truth",false)] (by decide +kernel) rfl (one (.truB 1)) rfl (by decide)
 ·exact FC (ss:=["name"]) [(.str "X","name",false)] (by decide +kernel) rfl (one (XM (by decide) (by decide +kernel))) rfl (by decide)
 ·refine FC (ss:=["name","kind","term"]) [(.str "x","name",true),(.tup [.str "no"],"kind",false),(n1,"term",true)] (by decide +kernel) rfl (λz a=>?_) rfl (by decide);walk_at "pm"
  ·have:=Os.nam "x" (by decide);rw[show AA "x"=true by decide +kernel]at this;exact this
  ·exact two (.kndB _ (.inl rfl)) (.trm _) z a
 ·exact FC (ss:=["term","kind"]) [(n1,"term",true),(.tup [.str "to"],"kind",false)] (by decide +kernel) rfl (two (.trm _) (.kndB _ (.inr rfl))) rfl (by decide)
 ·refine FC (ss:=["fields"]) [(.tup (F7 [("b",n1),("a",n1)]),"fields",false)] (by decide +kernel) rfl (one ?_) rfl (by decide);refine(show Os _ _ (AY ["b","a"])from .fld [("b",n1),("a",n1)] (λz a=>?_) (by decide));simp only[Yo,Qc,or_false]at a;rcases a with rfl | rfl <;> decide +kernel
 ·exact⟨"plus",[n1],rfl,⟨["term","term"],by decide +kernel,.inl ⟨by decide,rfl⟩⟩,by decide⟩
 ·exact FC (ss:=["term","name"]) [(n1,"term",true),(.str "","name",false)] (by decide +kernel) rfl (two (.trm _) (XM (by decide) (by decide +kernel))) rfl (by decide)
theorem nS(h:x∈[W.tup [.str "name",.str "x"],.tup [.str "call",n1,n1],.tup [.str "get",.tup [.str "truth",.bl true],.str "a"]]):gdT x:=by
 simp only[Yo,Qc,or_false]at h;rcases h with rfl | rfl | rfl
 ·exact⟨.nd "name" (.nam "x" .nil),rfl,by decide +kernel,by decide,by decide⟩
 ·exact⟨.nd "call" (.trm (.nd "num" (.num 1 .nil)) (.trm (.nd "num" (.num 1 .nil)) .nil)),rfl,by decide +kernel,by decide,by decide⟩
 ·exact⟨.nd "get" (.trm (.nd "truth" (.tru true .nil)) (.nam "a" .nil)),rfl,by decide +kernel,by decide,by decide⟩
theorem Ot{w:W}(j:ω[6]?=some (some (.int i)))(h:ω[x]?=some (some w))(m:ω[y]?=some (some v))(d:∀ a(Z:List W->Hw->Prop),Z xs a->gs ω a Z)(n:xs.length<=10)(l:Bm xs xs=some true)(hd:L3.dpL xs < 90)(k:gdT v)(hw:∀ A B:Prop,(xs=[]->A)->(xs=due->B)->ask1 w A B)(q:∀ a,Q false a):gTB (Ad (Ae (eqF true)) (Ag Gd XF (Aa (Ab 6) (Aa (Ab x) (Aa (Ab y) Ac)))) (Aq gs)) ω G Q:=by
 simp only[gTB,Ad,Ae,Ag,Aa,Ac,Ab,j,h,m]
 have go:∀ p a,a p=some (.lst xs)->Aq gs ω a λu g=>opt (eqF true (.ref p) u g) λw=>match w with | .bl b=>Q b g | _=>False:=λp a c=>by
  refine d _ _ ⟨A9 (by lia),λp2 f=>?_⟩;dsimp only;rw[nr true (AD f _ _ c) Aj hd l,An];exact q _
 exact⟨i,w,v,rfl,k,hw _ _ (λe p a _ c=>go p a (by rw[e];exact c)) (λe p a _ c=>go p a (by rw[e];exact c))⟩
theorem nT(T:Tx K mg base a)(F:Fun K "law" "law" F4 f fd):FnOk P w K mg base (CXe P w) 31 f fd ["script"] (Dx K Ih):=by
 refine ok0 F XD (λws G Q E⟨ns,e,_⟩=>by rw[e];rfl) (nJ (k:=30) T (JC T) (by lia) (B7 T 2) (by lia) (J4 T) (by lia) (AS T) (by lia) (Kk T) (by lia)) λws G Q E hC q=>?_;obtain⟨ns,rfl,hns,q⟩:=q;unfold XE;show Af (Ao 1 _) _ (Au Q) [some (.rol (ns.map W.int)),none,none,none,none,none,none] G;refine AF ⟨ns,rfl,λs x f hs=>?_⟩;have O:St s (put G s (ST x f)):=⟨x,f,Aj⟩;generalize put G s (ST x f)=G1 at O ⊢;walk_at "pe";refine AF ?_;simp only[Ag,Ab,gC,Aa,Ac,Yb,Yc];refine EJ (m:=1) (by decide) O λk G2 hk hg2=>?_;refine⟨k,s,⟨rfl,hk⟩,hg2.1,λr R hr hg3=>?_⟩;obtain⟨t,rfl,ht⟩:=hr;refine AF ?_;simp only[Aq,Ah,gC,Aa,Ac,Yk,Yl]
 repeat refine⟨by decide,?_⟩
 intro p3 hp3;have hg4:=Hs.new (o:=.lst (BM.take 5)) hg3.1 hp3;have e4:put R p3 (.lst (BM.take 5)) p3=some (.lst (BM.take 5)):=Aj;refine AF ?_;simp only[Ad,Aq,Ah,Ab,gC,Aa,Ac,Yb,Yc,Yk,Yl]
 repeat refine⟨by decide,?_⟩
 intro S J;have d:=(Hs.new (o:=.lst (BM.drop 5)) hg4.1 J);have e5:=AD (o:=.lst (BM.drop 5)) J _ _ e4;rw[FX (λz=>by obtain⟨⟨u,hu⟩,_⟩:=z;cases hu)];unfold Bk;have D:put (put R p3 (.lst (BM.take 5))) S (.lst (BM.drop 5)) p3=some (.lst (BM.take 5)):=e5;have g:put (put R p3 (.lst (BM.take 5))) S (.lst (BM.drop 5)) S=some (.lst (BM.drop 5)):=Aj;simp only[BM,List.take_succ_cons,List.take_zero,List.drop_succ_cons,List.drop_zero]at D g d ⊢;simp only[D,g];refine⟨by decide,λN n=>?_⟩;have Z:=Hs.new (o:=.lst BM) d.1 n;have e6:put (put (put R p3 (.lst (BM.take 5))) S (.lst (BM.drop 5))) N (.lst BM) N=some (.lst BM):=Aj;have h5s:=Hs.ne d.1 n;refine AF ?_;simp only[Ad,Ag,Ab,gC,Aa,Ac,Yb,Yc,Yk,Yl];refine BQ (by decide) (by decide) Z.1 λr1 G7 r10 Y L=>?_;obtain⟨c,hb0,eb⟩:=EG (xs:=BM) (L.2 N h5s _ Aj) r10 (by exact Y);show opt (ixW (.ref N) (.int r1) G7) _;rw[eb,An];have U:=nR c hb0;refine AF ?_;simp only[Ad,Aq,Ah,Ag,Ab,gC,Aa,Ac,Yb,Yc,Yk,Yl];refine⟨(Qzz 2),(Qzz 2),(Qzz 1),(Qzz 2),by decide,(Qzz 3),?_⟩;refine EH rfl (by decide) (by decide) L.1 λX I G8 hg8=>?_
 have p:Jh X:=by
  simp only[Yo,Qc,or_false]at I;rcases I with rfl | rfl | rfl | rfl
  ·exact .inl U
  ·exact .inr ⟨[c],c,U,.inl ⟨rfl,rfl⟩⟩
  ·exact .inr ⟨[c],c,U,.inr (.inl ⟨rfl,rfl⟩)⟩
  ·exact .inr ⟨[n1,c],c,U,.inr (.inr ⟨rfl,rfl⟩)⟩
 refine AF ?_;simp only[Ad,Aq,Ah,Ag,Ab,gC,Aa,Ac,Yb,Yc,Yk,Yl];refine⟨by decide,by decide,by decide,by decide,by decide,by decide,?_⟩;refine EH rfl (by decide) (by decide) hg8.1 λfr hfr G9 hg9=>?_;have y:=nS hfr;have b:gdT t.enc:=⟨t,rfl,ht⟩;simp only[Af,AT,Eb,Aa,Ac,gC,Yk,Yl];refine⟨by decide,by decide,?_⟩
 have H:∀(l:List Nat)(o6:Option W)(G5:Hw),Bs yes (gNm 6) (Af (gIf (gTB (Ad (Ae (eqF true)) (Ag Gd XF (Aa (Ab 6) (Aa (Ab 4) (Aa (Ab 2) Ac)))) (Aq (Aa (gC (.bl false)) (Aa (gC (.bl true)) (Aa (gC (.bl false)) (Aa (gC (.bl false)) (Aa (gC (.bl false)) (Aa (gC (.bl false)) (Aa (gC (.bl true)) Ac)))))))))) (Ai (gC (.bl false))) Ak) (gIf (gOr (gTB (Ad (Ae (eqF true)) (Ag Gd XF (Aa (Ab 6) (Aa (Ab 2) (Aa (Ab 2) Ac)))) (Aq Ac))) (gTB (Ad (Ae (eqF true)) (Ag Gd XF (Aa (Ab 6) (Aa (Ab 5) (Aa (Ab 2) Ac)))) (Aq Ac)))) (Ai (gC (.bl false))) Ak)) {nx:=Ai (gC (.bl true)) (Au Q),rt:=(Au Q).rt,bk:=(Au Q).bk,ct:=(Au Q).ct} (l.map λj:Nat=>W.int j) [some (.rol (ns.map W.int)),some (.ref s),some t.enc,some (.ref N),some X,some fr,o6] G5:=by
  intro l;induction l with
  | nil=>intro o6 G5;exact⟨trivial,q _⟩
  | cons j l ih =>
   intro o6 G5;refine⟨trivial,?_⟩;simp only[gNm,Yk,Yl,Af,gIf];refine Ot (xs:=due) (i:=j) (w:=X) (v:=t.enc) rfl rfl rfl (λ_ _ z=>by exact z) (by decide) rfl (by decide) b (λA B _ h=>.inr ⟨p,h rfl⟩) λG6=>?_;simp only[Yq,if_false,Ak,gIf,gOr];refine Ot (xs:=[]) (i:=j) (w:=t.enc) (v:=t.enc) rfl rfl rfl (λ_ _ z=>by exact z) (by decide) rfl (by decide) b (λA B h _=>.inl ⟨b,h rfl⟩) λG7=>?_;simp only[Yq,if_false];refine Ot (xs:=[]) (i:=j) (w:=fr) (v:=t.enc) rfl rfl rfl (λ_ _ z=>by exact z) (by decide) rfl (by decide) b (λA B h _=>.inl ⟨y,h rfl⟩) λG8=>?_;simp only[Yq,if_false];exact ih _ _
 exact H [0,1,2,3,4] none G9
theorem Ge(h1:e.key=.str x t)(h2:e.val=.int i u)(r:KTD.Rows (KTD.Dat.At base) es D):KTD.Rows (KTD.Dat.At base) (e::es) ((x,KTD.Dat.flat (.int i))::D):=
 .cons h1 (by rw[h2];exact PyProof.V.Flat.int i u) r
theorem nU(X:K.In h)(G:h.Ns mainGlobals mg)(FF:Fns K mg)(NN:Bls mg){w:DictEntry}{pq:Nat}{pv:DictEntry}{py:Nat}{y:DictEntry}{pG:Nat}{x:DictEntry}{pN:Nat}{o:DictEntry}{pU:Nat}{n:DictEntry}{p0:Nat}{p3:DictEntry}{p6:Nat}{t:DictEntry}{zd:Nat}{zh:ClassData}(qa:PySem.W.nsIn K mainGlobals "CastError"=some (some (.ref f)))(qb:PySem.W.nsIn K mainGlobals "NoKind"=some (some (.ref i)))(qc:PySem.W.nsIn K mainGlobals "NoTerm"=some (some (.ref b)))(qd:PySem.W.nsIn K mainGlobals "BadUse"=some (some (.ref c)))(qe:PySem.W.nsIn K mainGlobals "NoValue"=some (some (.ref d)))(qf:PySem.W.nsIn K mainGlobals "NoNumber"=some (some (.ref e)))(qg:PySem.W.nsIn K mainGlobals "BadNote"=some (some (.ref g)))(qh:PySem.W.excIn K b [.type "ValueError",.type "Exception",.type "BaseException",.type "object"] "ValueError.__new__"=true)(qi:PySem.W.nsIn K mainGlobals "MARKS"=some (some (.ref v5)))(qj:K.lookup v5=some ⟨.type "tuple",none,.seq #[.str "must" R,.str "may" J] v8,v9⟩)(qk:PySem.W.nsIn K mainGlobals "MOST_DEPTH"=some (some (.int 8 ja)))(ql:PySem.W.nsIn K mainGlobals "MOST_KINDS"=some (some (.int 40 jb)))(qm:PySem.W.nsIn K mainGlobals "MOST_LETTERS"=some (some (.int 8 jc)))(qn:PySem.W.nsIn K mainGlobals "MOST_NUMBER"=some (some (.int 99999999999999999999 jd)))(qo:PySem.W.nsIn K mainGlobals "MOST_TERMS"=some (some (.int 40 je)))(qp:PySem.W.nsIn K mainGlobals "MOST_TERM_DEPTH"=some (some (.int 10 jf)))(qq:PySem.W.nsIn K mainGlobals "LENGTHS"=some (some (.ref u)))(qr:K.lookup u=some ⟨.type "dict",none,.dict #[w,r,v,q,j,k] jh,#[]⟩)(qs:(u==sysModules)=false)(qt:w.key=.str "any" jo)(qu:w.val=.int 1 jp)(qv:r.key=.str "num" jq)(qw:r.val=.int 1 jr)(qx:v.key=.str "truth" js)(qy:v.val=.int 1 jt)(qz:q.key=.str "to" ju)(qA:q.val=.int 3 jv)(qB:j.key=.str "box" jw)(qC:j.val=.int 2 jx)(qD:k.key=.str "row" jy)(qE:k.val=.int 3 jz)(qF:PySem.W.nsIn K mainGlobals "FORMS"=some (some (.ref l)))(qG:K.lookup l=some ⟨.type "dict",none,.dict #[p,m,D,s,E,z,A,pn,pv,y,x,o,n,p3,t] jB,#[]⟩)(qH:(l==sysModules)=false)(qI:p.key=.str "num" jD)(qJ:p.val=.ref jE)(qK:K.lookup jE=some ⟨.type "tuple",none,.seq #[.str "number" jH] jF,jG⟩)(qL:m.key=.str "truth" jJ)(qM:m.val=.ref N)(qN:K.lookup N=some ⟨.type "tuple",none,.seq #[.str "truth" H] jL,jM⟩)(qO:D.key=.str "name" jP)(qP:D.val=.ref jQ)(qQ:K.lookup jQ=some ⟨.type "tuple",none,.seq #[.str "name" Q] jR,jS⟩)(qR:s.key=.str "fun" jV)(qS:s.val=.ref jW)(qT:K.lookup jW=some ⟨.type "tuple",none,.seq #[.str "name" P,.str "kind" j0,.str "term" Z] jX,jY⟩)(qU:E.key=.str "call" j3)(qV:E.val=.ref j4)(qW:K.lookup j4=some ⟨.type "tuple",none,.seq #[.str "term" O,.str "term" j8] j5,j6⟩)(qX:z.key=.str "rec" pa)(qY:z.val=.ref pb)(qZ:K.lookup pb=some ⟨.type "tuple",none,.seq #[.str "fields" pe] pc,pd⟩)(q0:A.key=.str "get" pg)(q1:A.val=.ref ph)(q2:K.lookup ph=some ⟨.type "tuple",none,.seq #[.str "term" pk,.str "name" pl] pi,pj⟩)(q3:pn.key=.str "or" po)(q4:pn.val=.ref pp)(q5:K.lookup pp=some ⟨.type "tuple",none,.seq #[.str "term" ps,.str "name" pt,.str "term" pu] pq,pr⟩)(q6:pv.key=.str "if" pw)(q7:pv.val=.ref px)(q8:K.lookup px=some ⟨.type "tuple",none,.seq #[.str "term" U,.str "term" pB,.str "term" pC] py,pz⟩)(q9:y.key=.str "plus" pE)(va:y.val=.ref pF)(vb:K.lookup pF=some ⟨.type "tuple",none,.seq #[.str "term" pI,.str "term" I] pG,pH⟩)(vc:x.key=.str "less" pL)(vd:x.val=.ref Y)(ve:K.lookup Y=some ⟨.type "tuple",none,.seq #[.str "term" F,.str "term" pQ] pN,pO⟩)(vf:o.key=.str "new" pS)(vg:o.val=.ref pT)(vh:K.lookup pT=some ⟨.type "tuple",none,.seq #[.str "term" L] pU,pV⟩)(vi:n.key=.str "read" pY)(vj:n.val=.ref pZ)(vk:K.lookup pZ=some ⟨.type "tuple",none,.seq #[.str "term" p2] p0,p1⟩)(vl:p3.key=.str "write" p4)(vm:p3.val=.ref p5)(vn:K.lookup p5=some ⟨.type "tuple",none,.seq #[.str "term" p8,.str "term" p9] p6,p7⟩)(vo:t.key=.str "as" zb)(vp:t.val=.ref T)(vq:K.lookup T=some ⟨.type "tuple",none,.seq #[.str "term" S,.str "kind" zg] zd,ze⟩)(vr:PySem.W.clsIn K g=some zh)(vs:PySem.W.clsIn K c=some zi)(vt:PySem.W.clsIn K f=some zj)(vu:PySem.W.clsIn K i=some zk)(vv:PySem.W.clsIn K e=some zl)(vw:PySem.W.clsIn K b=some zm)(vx:PySem.W.clsIn K d=some zn)(vy:PySem.W.typeIn K (.ref g)=some (.type "type"))(vz:PySem.W.typeIn K (.ref c)=some (.type "type"))(vA:PySem.W.typeIn K (.ref f)=some (.type "type"))(vB:PySem.W.typeIn K (.ref i)=some (.type "type"))(vC:PySem.W.typeIn K (.ref e)=some (.type "type"))(vD:PySem.W.typeIn K (.ref d)=some (.type "type"))(vE:PySem.W.subIn K (.ref f) (.type "BaseException")=some true)(vF:PySem.W.subIn K (.ref b) (.ref f)=some true)(vG:PySem.W.subIn K (.ref b) (.ref i)=some false)(vH:PySem.W.subIn K (.ref b) (.ref c)=some false)(vI:PySem.W.subIn K (.ref b) (.ref d)=some false)(vJ:PySem.W.subIn K (.ref b) (.ref e)=some false)(vK:PySem.W.subIn K (.ref b) (.ref g)=some false)(vL:PySem.W.subIn K (.ref b) (.type "ValueError")=some true)(vM:(Value.ref b==Value.ref g)=false)(vN:(Value.ref b==Value.ref c)=false)(vO:(Value.ref b==Value.ref i)=false)(vP:(Value.ref b==Value.ref e)=false)(vQ:(Value.ref b==Value.ref d)=false)(vR:PySem.W.findIn K (.ref b) "__getattribute__"=some (some (.builtin "BaseException.__getattribute__")))(vS:PySem.W.findIn K (.ref b) "__getattr__"=some none)(vT:PySem.W.findIn K (.ref b) "__class__"=some (some (.builtin "object.__class__")))(vU:PySem.W.mroIn K b (.type "object")=some true)(vV:PySem.W.mroIn K b (.type "BaseException")=some true)(vW:PySem.W.specialIn K (.builtin "object.__class__") "__get__"=some (some (.builtin "getset_descriptor.__get__")))(vX:PySem.W.takesIn K (.builtin "object.__class__")=some true):
  ∃ a:Adr,∀ base:Heap,K.In base->Tx K mg base a:=by
 refine⟨⟨f,i,b,c,d,e,g⟩,λbase B=>?_⟩
 exact{
  toFns:=FF
  toBls:=NN
  Sz:=PySem.W.mg_of X G qa
  SA:=PySem.W.mg_of X G qb
  MR:=PySem.W.mg_of X G qc
  SC:=PySem.W.mg_of X G qd
  SD:=PySem.W.mg_of X G qe
  SE:=PySem.W.mg_of X G qf
  SF:=PySem.W.mg_of X G qg
  SG:=qh
  SH:=vA
  SI:=Fb vt
  SJ:=vE
  SK:=ix X G (dd:=none) (ts:=[("must",R),("may",J)]) qi qj (by simp)
  SL:=F2 X G qk
  SM:=F2 X G ql
  SN:=F2 X G qm
  SO:=F2 X G qn
  SQ:=F2 X G qo
  SR:=F2 X G qp
  SU:=iy X G B qq qr qs ⟨rfl,rfl,rfl⟩ rfl (Ge qt qu (Ge qv qw (Ge qx qy (Ge qz qA (Ge qB qC (Ge qD qE .nil))))))
  SV:=gR X G B qF qG qH ⟨rfl,rfl,rfl⟩ rfl (Cd (dd:=none) (ts:=[("number",jH)]) qI qJ qK (by simp) (Cd (dd:=none) (ts:=[("truth",H)]) qL qM qN (by simp) (Cd (dd:=none) (ts:=[("name",Q)]) qO qP qQ (by simp) (Cd (dd:=none) (ts:=[("name",P),("kind",j0),("term",Z)]) qR qS qT (by simp) (Cd (dd:=none) (ts:=[("term",O),("term",j8)]) qU qV qW (by simp) (Cd (dd:=none) (ts:=[("fields",pe)]) qX qY qZ (by simp) (Cd (dd:=none) (ts:=[("term",pk),("name",pl)]) q0 q1 q2 (by simp) (Cd (dd:=none) (ts:=[("term",ps),("name",pt),("term",pu)]) q3 q4 q5 (by simp) (Cd (dd:=none) (ts:=[("term",U),("term",pB),("term",pC)]) q6 q7 q8 (by simp) (Cd (dd:=none) (ts:=[("term",pI),("term",I)]) q9 va vb (by simp) (Cd (dd:=none) (ts:=[("term",F),("term",pQ)]) vc vd ve (by simp) (Cd (dd:=none) (ts:=[("term",L)]) vf vg vh (by simp) (Cd (dd:=none) (ts:=[("term",p2)]) vi vj vk (by simp) (Cd (dd:=none) (ts:=[("term",p8),("term",p9)]) vl vm vn (by simp) (Cd (dd:=none) (ts:=[("term",S),("kind",zg)]) vo vp vq (by simp) .nil)))))))))))))))
  SW:=vF
  SX:=⟨vR,vS,Fb vw,vT,vW,vX,vU,vV⟩
  SY:=GM vO (Fb vu) vB vG
  S0:=iz
  S1:=GM vN (Fb vs) vz vH
  S2:=GM vQ (Fb vx) vD vI
  S3:=GM vP (Fb vv) vC vJ
  S4:=GM vM (Fb vr) vy vK
  S5:=iA (by decide +kernel) vL}
end KT
open PySem PySem.W PyProof.Rows
set_option hygiene false in
local macro_rules | `(tactic| walk_at "fb") => `(tactic| (intro _ _ _ _ _ _ us hl; first | (obtain rfl := L3.ln0 hl; rfl) | (obtain ⟨_, _, rfl, g0⟩ := L3.ln1 hl; first | (obtain rfl := L3.ln0 g0; rfl) | (obtain ⟨_, _, rfl, g1⟩ := L3.ln1 g0; first | (obtain rfl := L3.ln0 g1; rfl) | (obtain ⟨_, _, rfl, g2⟩ := L3.ln1 g1; first | (obtain rfl := L3.ln0 g2; rfl) | (obtain ⟨_, _, rfl, g3⟩ := L3.ln1 g2; first | (obtain rfl := L3.ln0 g3; rfl) | (obtain ⟨_, _, rfl, g4⟩ := L3.ln1 g3; obtain rfl := L3.ln0 g4; rfl)))))))
set_option hygiene false in
local macro_rules | `(tactic| walk_at "fk") => `(tactic| (dsimp only [L2.KOf]; refine' L3.iw KX G ?e ?l ?c ?k ?b; (case e => k_is); (case l => k_is); (case c => k_is); (case k => k_is); (case b => walk_at "fb")))
set_option maxRecDepth 100000 in
set_option maxHeartbeats 0 in
theorem PySem.Challenge.cw_castwright_k77_forgetting_refused_holds : PySem.Challenge.rw_castwright_k77_forgetting_refused.Holds := by
 show KT.rwS.Holds
 w_on;o_law
 refine holds_open (r:=KT.rwS.row) (q:=KT.vwS) (loose:=["LENGTHS","FORMS"]) (N:=7350)
  (Yf:=(kHook KT.KF KT.KL KT.kfe).obs) (Ya:=(kHook KT.KF KT.KL KT.kfe).val) (YP:=(kHook KT.KF KT.KL KT.kfe).says)
  (Xt:=λs=>xlAt KT.vwS [] s&&recOk (RowW.records KT.rwS.row.toRowW) s)
  (XP:=XL KT.vwS []) ?hl (kHook KT.KF KT.KL KT.kfe).of (kHook KT.KF KT.KL KT.kfe).keeps ?g1 XL.keeps rfl rfl rfl ?g2 rfl
  ?g3 (by decide +kernel) ?g4 ?hw ?hc
 case g1=>exact λs e=>xl_of s (Bool.and_eq_true_iff.mp e).1
 case g2=>exact λs e=>recFacts_of (Bool.and_eq_true_iff.mp e).2
 case g3=>first | assumption | decide +kernel
 case g4=>exact⟨rfl,rfl,rfl,rfl,rfl,by decide +kernel⟩
 case hw=>w_witness2
 case hl=>exact byRow2 "special-get-raises" KT.lbf KT.lbt
 k_fill
 refine L3.iB (l:=KT.rwS) (k:=31) ⟨rfl,by decide,by decide⟩ rfl rfl (λw h Y=>PySem.W.kIn_of Y) ?F
 case F =>
  intro w mg fa h KX G hmg
  have FF:KT.Fns (L2.KOf KX) mg:=by constructor <;> walk_at "fk"
  have NN:KT.Bls mg:=by constructor <;> exact PySem.W.mg_none_of KX G (by k_is)
  have T:∃ a:KT.Adr,∀ base:Heap,(L2.KOf KX).In base->KT.Tx (L2.KOf KX) mg base a:=by
   dsimp only[L2.KOf]at *
   refine' KT.nU KX G FF NN ?qa ?qb ?qc ?qd ?qe ?qf ?qg ?qh ?qi ?qj ?qk ?ql ?qm ?qn ?qo ?qp ?qq ?qr ?qs ?qt ?qu ?qv ?qw ?qx ?qy ?qz ?qA ?qB ?qC ?qD ?qE ?qF ?qG ?qH ?qI ?qJ ?qK ?qL ?qM ?qN ?qO ?qP ?qQ ?qR ?qS ?qT ?qU ?qV ?qW ?qX ?qY ?qZ ?q0 ?q1 ?q2 ?q3 ?q4 ?q5 ?q6 ?q7 ?q8 ?q9 ?va ?vb ?vc ?vd ?ve ?vf ?vg ?vh ?vi ?vj ?vk ?vl ?vm ?vn ?vo ?vp ?vq ?vr ?vs ?vt ?vu ?vv ?vw ?vx ?vy ?vz ?vA ?vB ?vC ?vD ?vE ?vF ?vG ?vH ?vI ?vJ ?vK ?vL ?vM ?vN ?vO ?vP ?vQ ?vR ?vS ?vT ?vU ?vV ?vW ?vX
   (case qa=>k_is)
   (case qb=>k_is)
   (case qc=>k_is)
   (case qd=>k_is)
   (case qe=>k_is)
   (case qf=>k_is)
   (case qg=>k_is)
   (case qh=>k_exc)
   (case qi=>k_is)
   (case qj=>k_is)
   (case qk=>k_is)
   (case ql=>k_is)
   (case qm=>k_is)
   (case qn=>k_is)
   (case qo=>k_is)
   (case qp=>k_is)
   (case qq=>k_is)
   (case qr=>k_is)
   (case qs=>decide)
   (case qt=>exact rfl)
   (case qu=>exact rfl)
   (case qv=>exact rfl)
   (case qw=>exact rfl)
   (case qx=>exact rfl)
   (case qy=>exact rfl)
   (case qz=>exact rfl)
   (case qA=>exact rfl)
   (case qB=>exact rfl)
   (case qC=>exact rfl)
   (case qD=>exact rfl)
   (case qE=>exact rfl)
   (case qF=>k_is)
   (case qG=>k_is)
   (case qH=>decide)
   (case qI=>exact rfl)
   (case qJ=>exact rfl)
   (case qK=>k_is)
   (case qL=>exact rfl)
   (case qM=>exact rfl)
   (case qN=>k_is)
   (case qO=>exact rfl)
   (case qP=>exact rfl)
   (case qQ=>k_is)
   (case qR=>exact rfl)
   (case qS=>exact rfl)
   (case qT=>k_is)
   (case qU=>exact rfl)
   (case qV=>exact rfl)
   (case qW=>k_is)
   (case qX=>exact rfl)
   (case qY=>exact rfl)
   (case qZ=>k_is)
   (case q0=>exact rfl)
   (case q1=>exact rfl)
   (case q2=>k_is)
   (case q3=>exact rfl)
   (case q4=>exact rfl)
   (case q5=>k_is)
   (case q6=>exact rfl)
   (case q7=>exact rfl)
   (case q8=>k_is)
   (case q9=>exact rfl)
   (case va=>exact rfl)
   (case vb=>k_is)
   (case vc=>exact rfl)
   (case vd=>exact rfl)
   (case ve=>k_is)
   (case vf=>exact rfl)
   (case vg=>exact rfl)
   (case vh=>k_is)
   (case vi=>exact rfl)
   (case vj=>exact rfl)
   (case vk=>k_is)
   (case vl=>exact rfl)
   (case vm=>exact rfl)
   (case vn=>k_is)
   (case vo=>exact rfl)
   (case vp=>exact rfl)
   (case vq=>k_is)
   (case vr=>k_is)
   (case vs=>k_is)
   (case vt=>k_is)
   (case vu=>k_is)
   (case vv=>k_is)
   (case vw=>k_is)
   (case vx=>k_is)
   (case vy=>k_is)
   (case vz=>k_is)
   (case vA=>k_is)
   (case vB=>k_is)
   (case vC=>k_is)
   (case vD=>k_is)
   (case vE=>k_is)
   (case vF=>k_is)
   (case vG=>k_is)
   (case vH=>k_is)
   (case vI=>k_is)
   (case vJ=>k_is)
   (case vK=>k_is)
   (case vL=>k_is)
   (case vM=>decide)
   (case vN=>decide)
   (case vO=>decide)
   (case vP=>decide)
   (case vQ=>decide)
   (case vR=>k_is)
   (case vS=>k_is)
   (case vT=>k_is)
   (case vU=>k_is)
   (case vV=>k_is)
   (case vW=>k_is)
   (case vX=>k_is)
  obtain⟨a,T⟩:=T
  obtain⟨f,fd,hm,F,_⟩:=FF.jK
  have e0:=hmg.symm.trans hm
  cases e0
  obtain⟨oc,od,kV,doc,pm,an,cdv,ct,osl,rfl,lk,hcd⟩:=F.ex
  exact⟨_,λs u=>.of_eq rfl,λbase kb nb=>KT.nT (T base kb) F⟩
